import PyProof.Rows.All
import Wide.All
import OpenK.AllK
import Wide.FinOn
import HandS.ForMost
import HandS.Wide
import HandS.Conv
import HandS.TupAny
import HandS.Deep
import HandS.Steps
import HandS.NoneIn
import HandS.IsInst
import HandS.More
import HandS.Defaults
import HandS.TupSets
import HandS.EndBits
import HandS.Nested
import HandS.ExcInit
import HandS.ExcSuper
import HandS.ClsMeth
import KE.KSuper
import KE.KExcSuper
import HandS.IsInst
import HandS.MakeKwOnly
import HandS.DictComp
import HandS.SortInts
import HandS.Conv
import HandS.More
import HandS.ExcOwn
import HandS.ExcIs
import HandS.ExcField
import KE.KExcIs
import HandS.HotCalls
import HandS.WordsExc
import HandS.TryOnly
import HandS.Wide
import PySem.Challenge.RW_soleseat_k71_callers_made
set_option Elab.async false
set_option maxRecDepth 100000
set_option maxHeartbeats 1000000
set_option linter.all false
/-! Calls where nothing is under repr around: the layer's defs, with one premise more (no guard around). -/
namespace G0
open PySem PySem.Spec PyProof.Rows L2
structure FnG (P : Program) (w : World) (K : PySem.W.Frag) (mg : Str → Option Value) (base : Heap) (CX : CXT)
    (k : Nat) (f : Addr) (fd : FuncData) (ps : List Str) (sp : Sp) : Prop where
  args : ∀ zs G R W, sp zs G R W → zs.length = ps.length
  runs : ∀ (B : Around) (around : List Env) (t : Shared) (G : Hp) (given : Args) (bound : List Value) (zs : List V) (R : VK) (W : XK),
    B.guards = some [] → Room k B → Env0 P w K mg base B around t G →
    BindsTo t fd given (ps.zip bound) → Vals zs bound → sp zs G R W →
    codeAny (model P w) B (.call (.ref f) given) (CR CX around P w G t R W) t
theorem FnG.of {P : Program} {w : World} {K : PySem.W.Frag} {mg : Str → Option Value} {base : Heap} {CX : CXT}
    {k : Nat} {f : Addr} {fd : FuncData} {ps : List Str} {sp : Sp} (F : FnOk P w K mg base CX k f fd ps sp) :
    FnG P w K mg base CX k f fd ps sp :=
  ⟨F.len, fun B around t G given bound zs R W _ hr => F.run B around t G given bound zs R W hr⟩
theorem FnG.mono {P : Program} {w : World} {K : PySem.W.Frag} {mg : Str → Option Value} {base : Heap} {CX : CXT}
    {j k : Nat} {f : Addr} {fd : FuncData} {ps : List Str} {sp : Sp} (F : FnG P w K mg base CX j f fd ps sp) (h : j ≤ k) :
    FnG P w K mg base CX k f fd ps sp :=
  ⟨F.args, fun B around t G given bound zs R W hg hr => F.runs B around t G given bound zs R W hg (hr.mono h)⟩
section
variable {X : Cx} {CX : CXT} {k : Nat} {f : Addr} {fd : FuncData} {ps : List Str} {sp : Sp}
  {dvs : List V} {ds : List Value} {E : XK} {x : Str} {p pos : Pos} {e : Expr} {es : List Expr} {t : TA}
theorem goes {pins : List (Addr × Obj)} {σ : L2.St} {H : Hp} {s : Shared} {Q : VK} {us : List Value} {vs : List V}
    (F : FnG X.prog X.w X.K X.mg X.base CX k f fd ps sp) (free : X.A.guards = some []) (hr : Room k X.A)
    (hb : Binds X.K fd ps ds) (hd : Vals dvs ds) (hx : Passes CX X E)
    (I : Inv X pins σ H s) (r : Vals vs us) (h : sp (vs ++ dvs) H Q E) :
    wpAny (model X.prog X.w) X.A (call (.ref f) us) (EP X pins σ Q) X.xe s := by
  have both : Vals (vs ++ dvs) (us ++ ds) := r.append hd
  have many : (us ++ ds).length = ps.length := both.length.symm.trans (F.args _ _ _ _ h)
  have it := F.runs X.A X.stack s H ⟨us, []⟩ (us ++ ds) (vs ++ dvs) Q E free hr I.env0 (hb s us I.kIn many) both h
  refine wpAny_call (codeAny_mono it fun out s' told => ?_)
  match out, told with
  | .error e, told => exact hx pins σ H s e s' I told
  | .ok (.ret u), told => exact I.after told
  | .ok .next, told => exact told.elim
  | .ok .brk, told => exact told.elim
  | .ok .cont, told => exact told.elim
theorem pe_callG (F : FnG X.prog X.w X.K X.mg X.base CX k f fd ps sp) (free : X.A.guards = some []) (hr : Room k X.A)
    (hg : Gl X x) (hm : X.mg x = some (.ref f)) (hk : PySem.W.keepIn X.K (.ref f) = true)
    (hb : Binds X.K fd ps ds) (hd : Vals dvs ds) (hx : Passes CX X E) (ha : PA X (e :: es) t)
    (n1 : (x == ("__debug__" : Str)) = false := by decide)
    (n2 : starEach (e :: es) X.env = (false, eval e X.env) :: starEach es X.env := by rfl)
    (n3 : (backTo pos (starEach es X.env)).any (·.1) = false := by rfl) :
    PE X (.Call (.Name x p) (e :: es) [] pos) (tCall sp dvs E t) :=
  ⟨fun pins s σ H Q I h => wpAny_Call_Name_kw (ld_glob I hg hm
    (PySem.W.callWith_K (h₀ := X.base) I.ok.mod.kin hk
      (thn (ha.run pos pins s σ H _ I h) fun us s1 ⟨vs, H1, I1, r, q⟩ =>
        ⟨I1.kIn, goes F free hr hb hd hx I1 r q⟩) n2 n3) n1)⟩
end
/-- a def's body, where nothing is under repr -/
theorem fnG_of {CX : CXT} {P : Program} {w : World} {K : PySem.W.Frag} {mg : Str → Option Value} {base : Heap} {k : Nat}
    {f : Addr} {name qual : Str} {params : Arguments} {body : List Stmt} {scope : Scope} {dV kV doc pm cdv ct oc : Value}
    {an od : Option Addr} {osl : Array (Option Value)} {N ps : List Str} {sp : Sp}
    (lk : K.lookup f = some ⟨oc, od, .func (PySem.W.fnOf name qual params body scope dV kV doc pm an cdv ct), osl⟩)
    (coded : PySem.W.codeIn K cdv qual = true) (S : FnScope N ps scope)
    (len : ∀ zs G R W, sp zs G R W → zs.length = ps.length)
    (inner : ∀ (B : Around) (around : List Env) (t : Shared) (G : Hp) (zs : List V) (R : VK) (W : XK), B.guards = some [] →
      Room k (B.deeper (envOfC qual scope t.heap.objs.size f cdv)) → sp zs G R W →
      ∃ tb, PSs (cxOf CX P w K mg base N qual scope f cdv B around t G W) body tb ∧
        tb { nx := fun _ G' => R .non G', rt := R } (start N zs) G) :
    FnG P w K mg base CX (k + 1) f (PySem.W.fnOf name qual params body scope dV kV doc pm an cdv ct) ps sp := by
  refine ⟨len, fun B around t G given bound zs R W free room e0 bd rel asked => ?_⟩
  have many := len _ _ _ _ asked
  have KX : K.In t.heap := e0.mod.kin.keeps fun b o z => (e0.bs b o z).1
  have lim : t.heap.NoLimit := e0.mod.nolimit.keeps fun b o z => (e0.bs b o z).1
  have kinds : ∀ y ∈ ps.zip bound, scope.names.lookup y.1 = some .local ∨
      (scope.names.lookup y.1 = some .cell ∧ ((cellsFrom (t.heap.objs.size + 1) scope.names []).lookup y.1).isSome = true) := by
    intro y hy
    cases S.par y.1 (List.of_mem_zip hy).1 with
    | inl q => exact .inl q
    | inr q => exact .inr ⟨q, PySem.W.cellsFrom_some _ _ _ (.inl q)⟩
  refine codeAny_call_function room.depth (KX _ _ lk) rfl S.co S.gen rfl (PySem.W.codeRec_of KX coded) (bd _ _ _ _ ?_)
  refine wpAny_newFunctionEnv_cells S.kind kinds fun env same t1 made => ?_
  subst same
  refine ⟨lim.keeps made.toInCall.keep, codeAny_func ?_⟩
  obtain ⟨tb, derived, holds⟩ := inner B around t G zs R W free (room.deeper _) asked
  have J : Inv (cxOf CX P w K mg base N qual scope f cdv B around t G W) [] (start N zs) G t1 :=
    inv_start S room.hd e0 many rel made
  refine wpAny_mono (derived.run [] t1 (start N zs) G _ J holds) (fun fl t' told => ?_) fun e t' told => told
  match fl, told with
  | .ret u, ⟨v, σ', G', J', rv, q⟩ => exact ⟨v, G', J'.os, J'.bare, J'.base, J'.hok, rv, q⟩
  | .next, ⟨σ', G', J', q⟩ => exact ⟨V.non, G', J'.os, J'.bare, J'.base, J'.hok, (rfl : Value.none = Value.none), q⟩
  | .brk, ⟨_, _, _, q⟩ => exact q.elim
  | .cont, ⟨_, _, _, q⟩ => exact q.elim
theorem okG {P : Program} {w : World} {K : PySem.W.Frag} {mg : Str → Option Value} {base : Heap} {x qual : Str} {st : Stmt}
    {f : Addr} {fd : FuncData} {N ps : List Str} {k : Nat} {sp : Sp} (F : Fun K x qual st f fd) (S : FnScope N ps (defScope st))
    (len : ∀ zs G R W, sp zs G R W → zs.length = ps.length)
    (inner : ∀ (cdv : Value) (B : Around) (around : List Env) (t : Shared) (G : Hp) (zs : List V) (R : VK) (W : XK), B.guards = some [] →
      Room k (B.deeper (envOfC qual (defScope st) t.heap.objs.size f cdv)) → sp zs G R W →
      ∃ tb, PSs (cxOf CX0 P w K mg base N qual (defScope st) f cdv B around t G W).nox (defBody st) tb ∧
        tb { nx := fun _ G' => R .non G', rt := R } (start N zs) G) :
    FnG P w K mg base CX0 (k + 1) f fd ps sp := by
  obtain ⟨oc, od, kV, doc, pm, an, cdv, ct, osl, rfl, lk, coded⟩ := F.ex
  refine fnG_of lk coded S len fun B around t G zs R W free room asked => ?_
  obtain ⟨tb, derived, holds⟩ := inner cdv B around t G zs R W free room asked
  exact ⟨tb, derived.nox, holds⟩
/-- the law's own call -/
theorem law_callG {P : Program} {w : World} {K : PySem.W.Frag} {mg mb : Str → Option Value} {CX : CXT} {k : Nat} {fa a : Addr}
    {fd : FuncData} {x : Str} {sp : Sp} {s₁ : Shared} {vs : List Value} {ns : List Int}
    (KX : K.In s₁.heap) (gl : s₁.heap.Ns mainGlobals mg) (bl : s₁.heap.Ns builtinsNs mb)
    (boot : ∀ x : Str, x ≠ "__name__" → mb x = bootBuiltins x) (lim : s₁.heap.NoLimit) (nogens : s₁.gens = #[])
    (at_ : s₁.heap.get? a = some { cls := .type "list", data := .seq vs.toArray }) (nums : IntsAre vs ns) (short : ns.length ≤ sizeLine)
    (room : Room k callerA)
    (F : ∀ base : Heap, K.In base → base.Ns mainGlobals mg → FnG P w K mg base CX k fa fd [x] sp)
    (bound : ∀ (s : Shared) (u : Value), BindsTo s fd ⟨[u], []⟩ [(x, u)])
    (asked : ∀ H : Hp, Only H → SqL K H a (ns.map V.int) → sp [.ref a] H (fun v _ => v = .bl true) fun _ _ _ => False)
    (never : ∀ H e s', CX [] H s₁ (fun _ _ _ => False) e s' → False) :
    codeAny (model P w) callerA (.call (.ref fa) ⟨[.ref a], []⟩)
      (fun r s' => r = .ok (.ret (.bool true)) ∧ OldK s₁.heap s'.heap ∧ s'.os = s₁.os ∧ AllBare s'.gens) s₁ := by
  have rel := vals_ints nums
  have many := nums.length
  have from_ : ∀ H : Hp, Only H → SqL K H a (ns.map V.int) → HOk P w H s₁.heap → (∀ b, H b ≠ none → b = a) →
      (H a ≠ none → K.lookup a = none) → codeAny (model P w) callerA (.call (.ref fa) ⟨[.ref a], []⟩)
        (fun r s' => r = .ok (.ret (.bool true)) ∧ OldK s₁.heap s'.heap ∧ s'.os = s₁.os ∧ AllBare s'.gens) s₁ := by
    intro H only seq fine one away
    have down : ∀ {b : Addr} {o : Obj}, s₁.heap.get? b = some o → H b = none →
      (hidT s₁.heap H).get? b = some o := fun e n => hidT_get e n
    have untracked : ∀ {b : Addr} {o : Obj}, s₁.heap.get? b = some o → (b = a → False) → H b = none := by
      intro b o _ n
      by_cases q : H b = none
      · exact q
      · exact (n (one b q)).elim
    have nodict : ∀ {b : Addr} {o : Obj} {es : Array DictEntry} {ep : Nat},
        s₁.heap.get? b = some o → o.data = .dict es ep → H b = none := by
      intro b o es ep e d
      refine untracked e fun q => ?_
      rw [q, at_] at e
      have e' := Option.some.inj e
      rw [← e'] at d
      have d' : Data.seq vs.toArray _ = Data.dict es ep := d
      exact absurd d' (fun h => by cases h)
    have spaces : ∀ {b : Addr} {m : Str → Option Value}, s₁.heap.Ns b m → (hidT s₁.heap H).Ns b m := by
      intro b m ns
      obtain ⟨o, es, ep, e, d, r⟩ := ns
      exact ⟨o, es, ep, down e (nodict e d), d, r⟩
    have written : K.In (hidT s₁.heap H) := by
      intro b o e
      refine down (KX b o e) ?_
      by_cases q : H b = none
      · exact q
      · have same := one b q
        rw [same] at q e
        rw [away q] at e
        cases e
    have md : Mod K mg (hidT s₁.heap H) := by
      obtain ⟨mc, h1, h2⟩ := lim
      exact ⟨written, spaces gl, ⟨mb, spaces bl, boot⟩, ⟨mc, spaces h1, h2⟩⟩
    have e0 : Env0 P w K mg (hidT s₁.heap H) callerA [] s₁ H :=
      ⟨rfl, md, fun b o e => of_hidT e, Nat.le_of_eq (hidT_size _ _), trivial,
        fun b hb => (List.not_mem_nil (show b ∈ ([] : List Addr) from hb)).elim, fine, .of_eq nogens⟩
    have it := (F _ written (spaces gl)).runs callerA [] s₁ H ⟨[.ref a], []⟩ [.ref a] [.ref a] _ _ rfl room e0
      (bound s₁ (.ref a)) (.cons rfl .nil) (asked H only seq)
    refine codeAny_mono it fun out s' told => ?_
    match out, told with
    | .error e, told => exact (never H e s' told).elim
    | .ok .next, told => exact told.elim
    | .ok .brk, told => exact told.elim
    | .ok .cont, told => exact told.elim
    | .ok (.ret u), ⟨v, H', os, bare, un, fine', r', q⟩ =>
      have q' : v = .bl true := q
      subst q'
      have u' : u = Value.bool true := r'
      subst u'
      refine ⟨rfl, OldK.of_keep fun b o e => ?_, os, bare⟩
      cases q : H b with
      | none => exact un.keep b o e q (fun z => (List.not_mem_nil (show b ∈ ([] : List Addr) from z)).elim) (List.not_mem_nil)
      | some u =>
        rcases only b with z | ⟨ob, xs, z⟩
        · have z1 := q.symm.trans z
          cases z1
        · have z' := un.frzs b ob _ z
          have e1 := (fine b _ z).1
          have e2 := (fine' b _ z').1
          exact e2.trans (e1.symm.trans e)
  cases known : K.lookup a with
  | some o =>
    have e := (KX a o known).symm.trans at_
    have e' := Option.some.inj e
    subst e'
    refine from_ (fun _ => none) (fun _ => .inl rfl) (.inr ⟨_, vs.toArray, _, known, rfl, rfl, rfl, ?_, ?_⟩)
      (fun b u z => by have z1 : (none : Option HO) = some u := z; cases z1) (fun b z => (z rfl).elim) fun z => (z rfl).elim
    · rw [List.size_toArray, many]; exact short
    · simpa using rel
  | none =>
    have self : (fun b => if b = a then some (HO.frz { cls := .type "list", data := .seq vs.toArray } (.lst (ns.map V.int))) else none) a
        = some (HO.frz { cls := .type "list", data := .seq vs.toArray } (.lst (ns.map V.int))) := if_pos rfl
    refine from_ (fun b => if b = a then some (HO.frz { cls := .type "list", data := .seq vs.toArray } (.lst (ns.map V.int))) else none)
      (fun b => ?_) (.inl (.inr ⟨_, self⟩)) (fun b u z => ?_) (fun b z => ?_) fun _ => known
    · by_cases same : b = a
      · exact .inr ⟨_, _, if_pos same⟩
      · exact .inl (if_neg same)
    · by_cases same : b = a
      · subst same
        have z' := Option.some.inj ((if_pos rfl).symm.trans z)
        subst z'
        exact ⟨at_, by rw [List.length_map]; exact short, vs, _, rel, at_⟩
      · have z1 := (if_neg same).symm.trans z
        cases z1
    · by_cases same : b = a
      · exact same
      · exact (z (if_neg same)).elim
theorem walk_ofG {l : PySem.W.OpenLaw} {n k : Nat} {q : Program} {loose : List Str} {XP : (Str → Option Value) → Heap → Prop}
    {YP : World → Heap → Prop} {d : DefRec} {K : Params → PySem.W.Frag} {sp : PySem.W.Frag → Sp} {x : Str}
    (hn : l.most = some n) (hn2 : n ≤ sizeLine) (hdf : d.params.defaults = []) (room : Room k callerA)
    (hY : ∀ (w : World) (h : Heap), YP w h → (K w.params).In h)
    (F : ∀ (w : World) (mg : Str → Option Value) (fa : Addr) (h : Heap), (K w.params).In h → h.Ns mainGlobals mg →
      mg d.name = some (.ref fa) → ∃ fd : FuncData, (∀ (s : Shared) (u : Value), BindsTo s fd ⟨[u], []⟩ [(x, u)]) ∧
        ∀ base : Heap, (K w.params).In base → base.Ns mainGlobals mg →
          FnG l.prog w (K w.params) mg base CX0 k fa fd [x] (sp (K w.params)))
    (asked : ∀ (K : PySem.W.Frag) (H : Hp) (a : Addr) (ns : List Int), ns.length ≤ n → Only H → SqL K H a (ns.map V.int) →
      sp K [.ref a] H (fun v _ => v = .bl true) fun _ _ _ => False) :
    PySem.W.WalkO q loose XP YP l.row.toRowW d [] (fun f vs => PySem.call f vs) := by
  refine Att.attach_call hn hdf fun w s₀ s₁ mg mb fa o pm cd doc a vs ns G Y ho hd hcd named obj nums few nogens => ?_
  have KX := hY w _ Y
  obtain ⟨fd, bound, all⟩ := F w mg fa _ KX G.T.g named
  exact law_callG KX G.T.g G.T.b G.T.builtins G.T.nolimit nogens obj nums (Nat.le_trans few hn2) room all bound
    (fun H only seq => asked _ H a ns few only seq) fun H e s' z => z
end G0
namespace G0
open PySem PySem.Spec PyProof.Rows L2
/-! ### a def of the module's top, by its name (no word of guards: for laws without repr) -/
def Fn (K : PySem.W.Frag) (mg : Str → Option Value) (x : Str) (st : Stmt) : Prop :=
  ∃ f fd, Fun K x x st f fd ∧ mg x = some (.ref f)
def Cal (P : Program) (w : World) (K : PySem.W.Frag) (mg : Str → Option Value) (base : Heap) (x : Str) (k : Nat) (ps : List Str) (sp : Sp) : Prop :=
  ∃ f fd, FnOk P w K mg base CX0 k f fd ps sp ∧ Binds K fd ps [] ∧ mg x = some (.ref f) ∧ PySem.W.keepIn K (.ref f) = true ∧
    ∃ oc od osl, K.lookup f = some ⟨oc, od, .func fd, osl⟩
theorem fn_top {K : PySem.W.Frag} {h : Heap} {mg : Str → Option Value} {x : Str} {st : Stmt} {f : Addr} {oc : Value} {od an : Option Addr}
    {osl : Array (Option Value)} {kV doc pm cdv ct : Value} (X : K.In h) (G : h.Ns mainGlobals mg)
    (a : PySem.W.nsIn K mainGlobals x = some (some (.ref f)))
    (l : K.lookup f = some ⟨oc, od, .func (PySem.W.fnOf x x (defArgs st) (defBody st) (defScope st) .none kV doc pm an cdv ct), osl⟩)
    (c : PySem.W.codeIn K cdv x = true) (k : PySem.W.keepIn K (.ref f) = true) : Fn K mg x st :=
  ⟨f, _, fun_mk l c k, PySem.W.mg_of X G a⟩
/-- a method of the class at C -/
def Fm (K : PySem.W.Frag) (C : Addr) (x qual : Str) (st : Stmt) : Prop := ∃ f fd, Fun K x qual st f fd ∧ Meth K C x f
theorem fm_top {K : PySem.W.Frag} {C : Addr} {x qual : Str} {st : Stmt} {f : Addr} {oc : Value} {od an : Option Addr}
    {osl : Array (Option Value)} {kV doc pm cdv ct : Value}
    (a : PySem.W.findIn K (.ref C) x = some (some (.ref f))) (i : PySem.W.isFn K (.ref f) = true)
    (l : K.lookup f = some ⟨oc, od, .func (PySem.W.fnOf x qual (defArgs st) (defBody st) (defScope st) .none kV doc pm an cdv ct), osl⟩)
    (c : PySem.W.codeIn K cdv qual = true) (k : PySem.W.keepIn K (.ref f) = true) : Fm K C x qual st :=
  ⟨f, _, fun_mk l c k, ⟨a, i, k⟩⟩
section
variable {P : Program} {w : World} {K : PySem.W.Frag} {mg : Str → Option Value} {base : Heap}
theorem cal_of {x : Str} {st : Stmt} {N ps : List Str} {k : Nat} {sp : Sp} (F : Fn K mg x st) (S : FnScope N ps (defScope st))
    (bd : ∀ (kV doc pm : Value) (an : Option Addr) (cdv ct : Value) (us : List Value), us.length = ps.length →
      bindArgs (PySem.W.fnOf x x (defArgs st) (defBody st) (defScope st) .none kV doc pm an cdv ct) ⟨us, []⟩ = pure (ps.zip us))
    (len : ∀ zs G R W, sp zs G R W → zs.length = ps.length)
    (inner : ∀ (f : Addr) (cdv : Value) (B : Around) (around : List Env) (t : Shared) (G : Hp) (zs : List V) (R : VK) (W : XK), True →
      Room k (B.deeper (envOfC x (defScope st) t.heap.objs.size f cdv)) → sp zs G R W →
      ∃ tb, PSs (cxOf CX0 P w K mg base N x (defScope st) f cdv B around t G W).nox (defBody st) tb ∧
        tb { nx := fun _ G' => R .non G', rt := R } (start N zs) G) :
    Cal P w K mg base x (k + 1) ps sp := by
  obtain ⟨f, fd, F, m⟩ := F
  obtain ⟨oc, od, kV, doc, pm, an, cdv, ct, osl, e, lk, c⟩ := id F.ex
  exact ⟨f, fd, F.ok S len (fun cdv B around t G zs R W room h => inner f cdv B around t G zs R W True.intro room h), F.binds bd, m, F.kp, oc, od, osl, lk⟩
theorem Cal.mono {x : Str} {j k : Nat} {ps : List Str} {sp : Sp} (C : Cal P w K mg base x j ps sp) (h : j ≤ k) : Cal P w K mg base x k ps sp := by
  obtain ⟨f, fd, F, r⟩ := C
  exact ⟨f, fd, F.mono h, r⟩
/-- the law itself, at the end -/
theorem law_end {st : Stmt} {k : Nat} {sp : Sp} {fa : Addr} (F : Fn K mg "law" st) (hm : mg "law" = some (.ref fa))
    (bt : ∀ (kV doc pm : Value) (an : Option Addr) (cdv ct : Value) (s : Shared) (v : Value),
      BindsTo s (PySem.W.fnOf "law" "law" (defArgs st) (defBody st) (defScope st) .none kV doc pm an cdv ct) ⟨[v], []⟩ [("script", v)])
    (C : ∀ base : Heap, K.In base → base.Ns mainGlobals mg → Cal P w K mg base "law" k ["script"] sp) :
    ∃ fd : FuncData, (∀ (s : Shared) (v : Value), BindsTo s fd ⟨[v], []⟩ [("script", v)]) ∧
      ∀ base : Heap, K.In base → base.Ns mainGlobals mg → FnG P w K mg base CX0 k fa fd ["script"] sp := by
  obtain ⟨f, fd, F, m⟩ := F
  obtain ⟨oc, od, kV, doc, pm, an, cdv, ct, osl, e, lk, c⟩ := id F.ex
  have ef := m.symm.trans hm
  cases ef
  refine ⟨fd, fun s v => by rw [e]; exact bt _ _ _ _ _ _ s v, fun base kin ns => ?_⟩
  obtain ⟨f', fd', G, _, m', _, oc', od', osl', lk'⟩ := C base kin ns
  have ef := m.symm.trans m'
  cases ef
  have ed := lk.symm.trans lk'
  cases ed
  exact FnG.of G
end
section
variable {X : Cx} {k : Nat} {ps : List Str} {sp : Sp} {x : Str} {p pos : Pos} {e : Expr} {es : List Expr} {t : TA}
theorem pe_cal (C : Cal X.prog X.w X.K X.mg X.base x k ps sp) (free : True) (hr : Room k X.A)
    (ha : PA X (e :: es) t) (hg : Gl X x := by rfl) (n1 : (x == ("__debug__" : Str)) = false := by decide)
    (n2 : starEach (e :: es) X.env = (false, eval e X.env) :: starEach es X.env := by rfl)
    (n3 : (backTo pos (starEach es X.env)).any (·.1) = false := by rfl) (hx : Passes CX0 X E0 := by exact pass0) :
    PE X (.Call (.Name x p) (e :: es) [] pos) (tCall sp [] E0 t) := by
  obtain ⟨f, fd, F, b, m, kp, _⟩ := C
  exact pe_call F hr hg m kp b .nil hx ha n1 n2 n3
/-! ### repr of data -/
def rRep (K : PySem.W.Frag) : List V → Hp → VK → Prop := fun xs H Q => ∃ (x : V) (d : PyData), xs = [x] ∧ Dp K H x d ∧
  d.showable = true ∧ d.hasDict = false ∧ d.depth ≤ 64 ∧ d.shown.length ≤ sizeLine ∧ Q (.str d.shown) H
theorem call_rep (free : X.A.guards = some []) (hu : X.A.units + 66 < cLine) : CallR X (.builtin "repr") (rRep X.K) := by
  intro pins s σ H xs us Q I r h
  obtain ⟨x, d, rfl, hd, hs, hn, h64, hz, q⟩ := h
  obtain ⟨u, rfl, rx⟩ := vals1 r
  have viaRef : ∀ (a : Addr), x = .ref a → wpAny (model X.prog X.w) X.A (call (.builtin "repr") [u]) (EP X pins σ Q) X.xe s := by
    intro a e
    subst e
    obtain rfl : u = Value.ref a := rx
    obtain ⟨as, rd⟩ := Dp.reads I d _ _ hd (rfl : RelV (.ref a) (.ref a))
    exact repr_of_reads' rd hs (PyData.noDict_hsm hn) free (by omega) (fun _ _ e => e)
      (fun h' w t kp => ⟨.str d.shown, H, I.kept (t' := t) kp, ⟨_, rfl⟩, q⟩) hz
  cases hd with
  | non =>
    obtain rfl : u = Value.none := rx
    exact PySem.P.repr_of_none ⟨.str _, H, I.tok _, ⟨_, rfl⟩, by simpa only [PyData.shown] using q⟩
  | bl b =>
    obtain rfl : u = Value.bool b := rx
    exact PySem.P.repr_of_bool ⟨.str _, H, I.tok _, ⟨_, rfl⟩, by simpa only [PyData.shown] using q⟩
  | int i =>
    obtain ⟨t, rfl⟩ := rx
    exact PySem.P.repr_of_int (by simpa [PyData.showable] using hs) ⟨.str _, H, I.tok _, ⟨_, rfl⟩, by simpa only [PyData.shown] using q⟩
  | str z =>
    obtain ⟨t, rfl⟩ := rx
    exact PySem.P.repr_of_str ⟨.str _, H, I.tok _, ⟨_, rfl⟩, by simpa only [PyData.shown] using q⟩ (by simpa only [PyData.shown] using hz)
  | lst _ _ => exact viaRef _ rfl
  | tup _ _ => exact viaRef _ rfl
/-! ### operators of several kinds in one -/
theorem u_eq (hu : X.A.units + 64 < cLine) : OpR X (compareOp .Eq) (fun x y H Q => rEq x y H Q ∨ rEqD X.K x y H Q) := op_eq.or (op_eqD hu)
theorem u_ne (hu : X.A.units + 64 < cLine) : OpR X (compareOp .NotEq) (fun x y H Q => rNe x y H Q ∨ rNeD X.K x y H Q) := op_ne.or (op_neD hu)
theorem u_in : OpR X (compareOp .In) (fun x y H Q => rIn X.K false x y H Q ∨ rInS x y H Q) := op_in_seq.or op_inS
theorem u_notin : OpR X (compareOp .NotIn) (fun x y H Q => rIn X.K true x y H Q ∨ rNotInS x y H Q) := op_notIn_seq.or op_notInS
end
theorem pe_fldK {X : Cx} {e : Expr} {f : Str} {pos : Pos} {ta : TE} (K : PySem.W.Frag) (ha : PE X e ta) (hK : X.K = K := by rfl)
    (hb : attributeBase e f X.env (eval e X.env) = eval e X.env := by rfl) : PE X (.Attribute e f pos) (tFld K ta f) := by
  subst hK
  exact pe_fld ha hb
/-! ### the written part named, for what stands within a comprehension -/
theorem op_K {X : Cx} {f : Value → Value → Sem Value} (r : PySem.W.Frag → R2) (K : PySem.W.Frag) (ho : OpR X f (r X.K)) (hK : X.K = K) : OpR X f (r K) := hK ▸ ho
theorem ix_K {X : Cx} (r : PySem.W.Frag → R2) (K : PySem.W.Frag) (ho : IxR X (r X.K)) (hK : X.K = K) : IxR X (r K) := hK ▸ ho
theorem call_K {X : Cx} {f : Value} (r : PySem.W.Frag → List V → Hp → VK → Prop) (K : PySem.W.Frag) (ho : CallR X f (r X.K)) (hK : X.K = K) : CallR X f (r K) := hK ▸ ho
section
variable {X : Cx} (K : PySem.W.Frag)
theorem u_inK (hK : X.K = K := by rfl) : OpR X (compareOp .In) (fun x y H Q => rIn K false x y H Q ∨ rInS x y H Q) := op_K (fun K x y H Q => rIn K false x y H Q ∨ rInS x y H Q) K u_in hK
theorem u_notinK (hK : X.K = K := by rfl) : OpR X (compareOp .NotIn) (fun x y H Q => rIn K true x y H Q ∨ rNotInS x y H Q) := op_K (fun K x y H Q => rIn K true x y H Q ∨ rNotInS x y H Q) K u_notin hK
theorem ix_listK (hK : X.K = K := by rfl) : IxR X (rIxL K) := ix_K rIxL K ix_list hK
theorem ix_tupK (hK : X.K = K := by rfl) : IxR X (rIxT K) := ix_K rIxT K ix_tup hK
theorem ix_seqK (hK : X.K = K := by rfl) : IxR X (rIx K) := ix_K rIx K ix_seq hK
theorem call_len_seqK (hK : X.K = K := by rfl) : CallR X (.builtin "len") (fun xs H Q => ∃ p ys, xs = [.ref p] ∧ (SqL K H p ys ∨ SqT K H p ys) ∧ Q (.int ys.length) H) :=
  call_K (fun K xs H Q => ∃ p ys, xs = [.ref p] ∧ (SqL K H p ys ∨ SqT K H p ys) ∧ Q (.int ys.length) H) K call_len_seq hK
end
/-! ### what changes: one list -/
/-- all that is tracked but p stays -/
def Chg (p : Addr) (H H' : Hp) : Prop := ∀ b o, b ≠ p → H b = some o → H' b = some o
theorem Chg.refl (p : Addr) (H : Hp) : Chg p H H := fun _ _ _ e => e
theorem Chg.trans {p : Addr} {H H1 H2 : Hp} (a : Chg p H H1) (b : Chg p H1 H2) : Chg p H H2 := fun c o n e => b c o n (a c o n e)
theorem Chg.self {p : Addr} {H : Hp} {o : HO} : Chg p H (upd H p o) := fun b u n e => by rw [upd_ne n]; exact e
theorem Chg.new {p q : Addr} {H H1 : Hp} {o : HO} (a : Chg p H H1) (n : H1 q = none) : Chg p H (upd H1 q o) := fun b u m e => by
  rw [upd_ne (ne_of_none (a b u m e) n)]; exact a b u m e
theorem Chg.same {p : Addr} {H H1 : Hp} (a : Same H H1) : Chg p H H1 := fun b o _ e => a b o e
theorem same_upd {H : Hp} {q : Addr} {o : HO} (n : H q = none) : Same H (upd H q o) := fun b u e => by
  rw [upd_ne (ne_of_none e n)]; exact e
/-! ### a law's draws: the pot -/
def PotL (n : Nat) (xs : List V) : Prop := ∃ a b c : Int, xs = [.int a, .int b, .int c] ∧ 0 ≤ a ∧ 0 ≤ b ∧ b < 2305843009213693951 ∧ 0 ≤ c ∧ c ≤ n
def PotAt (n : Nat) (H : Hp) (p : Addr) : Prop := ∃ xs, H p = some (.lst xs) ∧ PotL n xs
theorem PotL.mono {n m : Nat} {xs : List V} (h : PotL n xs) (le : n ≤ m) : PotL m xs := by
  obtain ⟨a, b, c, e, h1, h2, h3, h4, h5⟩ := h
  exact ⟨a, b, c, e, h1, h2, h3, h4, by omega⟩
theorem PotAt.mono {n m : Nat} {H : Hp} {p : Addr} (h : PotAt n H p) (le : n ≤ m) : PotAt m H p := by
  obtain ⟨xs, e, h⟩ := h
  exact ⟨xs, e, h.mono le⟩
theorem PotAt.keep {n : Nat} {H H' : Hp} {p : Addr} (h : PotAt n H p) (s : Same H H') : PotAt n H' p := by
  obtain ⟨xs, e, h⟩ := h
  exact ⟨xs, s _ _ e, h⟩
theorem PotAt.at {n : Nat} {H : Hp} {p : Addr} {xs : List V} (h : PotL n xs) : PotAt n (upd H p (.lst xs)) p := ⟨xs, upd_same, h⟩
end G0
/-! Wide powers, the law's own call with the script's bits told, len of an own object, sorted of a tuple of tuples of ints. -/
namespace G0
open PySem PySem.Spec PyProof.Rows L2
def CPowB (i j : Int) : Prop := 0 ≤ j ∧ (Builtin.Int.intBits i : Int) * j ≤ 2 ^ 27
theorem op_powB {X : Cx} : OpR X (binaryOp .Pow) (rI CPowB fun i j => .int (i ^ j.toNat)) := opI fun _ _ _ _ _ _ _ hc q => pow_int hc.1 hc.2 q
theorem walk_ofGB {l : PySem.W.OpenLaw} {n k : Nat} {q : Program} {loose : List Str} {XP : (Str → Option Value) → Heap → Prop}
    {YP : World → Heap → Prop} {d : DefRec} {K : Params → PySem.W.Frag} {sp : PySem.W.Frag → Sp} {x : Str}
    (hn : l.most = some n) (hn2 : n ≤ sizeLine) (hdf : d.params.defaults = []) (room : Room k callerA)
    (hY : ∀ (w : World) (h : Heap), YP w h → (K w.params).In h)
    (F : ∀ (w : World) (mg : Str → Option Value) (fa : Addr) (h : Heap), (K w.params).In h → h.Ns mainGlobals mg →
      mg d.name = some (.ref fa) → ∃ fd : FuncData, (∀ (s : Shared) (u : Value), BindsTo s fd ⟨[u], []⟩ [(x, u)]) ∧
        ∀ base : Heap, (K w.params).In base → base.Ns mainGlobals mg →
          FnG l.prog w (K w.params) mg base CX0 k fa fd [x] (sp (K w.params)))
    (asked : ∀ (K : PySem.W.Frag) (H : Hp) (a : Addr) (ns : List Int), ns.length ≤ n → (∀ z ∈ ns, Builtin.Int.intBits z ≤ 1048576) → Only H → SqL K H a (ns.map V.int) →
      sp K [.ref a] H (fun v _ => v = .bl true) fun _ _ _ => False) :
    PySem.W.WalkO q loose XP YP l.row.toRowW d [] (fun f vs => PySem.call f vs) := by
  refine Att.attach_callB hn hdf fun w s₀ s₁ mg mb fa o pm cd doc a vs ns G Y ho hd hcd named obj nums few bits nogens => ?_
  have KX := hY w _ Y
  obtain ⟨fd, bound, all⟩ := F w mg fa _ KX G.T.g named
  exact law_callG KX G.T.g G.T.b G.T.builtins G.T.nolimit nogens obj nums (Nat.le_trans few hn2) room all bound
    (fun H only seq => asked _ H a ns few bits only seq) fun H e s' z => z
/-! ### len of an own object -/
section
variable {X : Cx} {CX : CXT} {k : Nat} {f C : Addr} {fd : FuncData} {ps : List Str} {sp : Sp} {dvs : List V} {ds : List Value} {E : XK}
theorem run_fn1 {pins : List (Addr × Obj)} {σ : L2.St} {H : Hp} {s : Shared} {Q : VK} {us : List Value} {vs : List V}
    (F : FnOk X.prog X.w X.K X.mg X.base CX k f fd ps sp) (hr : Room (k + 1) X.A) (hb : Binds X.K fd ps ds) (hd : Vals dvs ds) (hx : Passes CX X E)
    (I : Inv X pins σ H s) (r : Vals vs us) (h : sp (vs ++ dvs) H Q E) : wpAny (model X.prog X.w) X.A.in1 (call (.ref f) us) (EP X pins σ Q) X.xe s := by
  have r2 : Vals (vs ++ dvs) (us ++ ds) := r.append hd
  have hl : (us ++ ds).length = ps.length := by rw [← r2.length]; exact F.len _ _ _ _ h
  refine wpAny_call (codeAny_mono (F.run X.A.in1 X.stack s H ⟨us, []⟩ (us ++ ds) (vs ++ dvs) Q E hr.in1 I.env0.in1 (hb s us I.kIn hl) r2 h) fun r s' hq => ?_)
  cases r with
  | error e => exact hx pins σ H s e s' I hq
  | ok fl =>
    cases fl with
    | ret u => exact I.after hq
    | next => exact False.elim hq
    | brk => exact False.elim hq
    | cont => exact False.elim hq
def rLenOwn (C : Addr) (sp : Sp) (E : XK) : List V → Hp → VK → Prop := fun xs H Q => ∃ (a dx : Addr) (fs : List (Str × V)), xs = [.ref a] ∧ H a = some (.ins C dx fs) ∧
  sp [.ref a] H (fun v H2 => ∃ n : Nat, v = .int n ∧ n ≤ sizeLine ∧ Q (.int n) H2) E
theorem call_lenOwn (hm : Meth X.K C "__len__" f) (F : FnOk X.prog X.w X.K X.mg X.base CX k f fd ps sp) (hr : Room (k + 1) X.A) (hb : Binds X.K fd ps []) (hx : Passes CX X E) :
    CallR X (.builtin "len") (rLenOwn C sp E) := by
  intro pins s σ H xs us Q I r h
  obtain ⟨a, dx, fs, rfl, e, q⟩ := h
  obtain ⟨u, rfl, ru⟩ := vals1 r
  obtain rfl : u = Value.ref a := ru
  obtain ⟨mA, O, _, _, _, _⟩ := ins_get I.hok e
  obtain ⟨od, ho, _⟩ := lookIn_ns O.ns
  have IA : PySem.W.InstAt s.heap a (PySem.W.instObj C dx) C (some od) := ⟨O.obj, rfl, rfl, ho⟩
  refine Calls.call_function_entry kind_len plain_len entry_len (args_len1 _) ?_
  unfold Builtin.«len»
  refine wpAny_bind (m := oneArg "len" _) (wpAny_pure ?_)
  refine wpAny_bind (m := callSpecial? (.ref a) (Str.ofString "__len__")) (PySem.W.special_fn I.kIn IA hm.at_ (beq_iff_eq.mp hm.fn)
    (wpAny_mono (run_fn1 (us := [.ref a]) (vs := [.ref a]) F hr hb .nil hx I (.cons rfl .nil) q) (fun r s' hr' => ?_) fun _ _ y => y))
  obtain ⟨v, H', I', rv, n, rfl, hn, q'⟩ := hr'
  obtain ⟨t, rfl⟩ := (show ∃ t, r = Value.int n t from rv)
  rw [sizeLine_eq] at hn
  refine wpAny_bind (wpAny_holding (wpAny_pure ?_))
  refine wpAny_bind (wpAny_letGo ?_)
  show wpAny _ _ (if ((n : Nat) : Int) < 0 then _ else _) _ _ _
  rw [if_neg (by omega)]
  show wpAny _ _ (if ((n : Nat) : Int) ≥ 2 ^ 63 then _ else _) _ _ _
  rw [if_neg (by omega)]
  exact wpAny_bind (wpAny_mkInt (wpAny_pure ⟨_, rfl, .int n, H', I'.tok _, ⟨_, rfl⟩, q'⟩))
end
/-! ### sorted of a tuple of tuples of ints -/
section
variable {prog : Program} {w : World} {A : Around} {E : Value → Shared → Prop} {s : Shared}
theorem collect_tup {l : Addr} {vs : List Value} {Q : List Value → Shared → Prop} (hl : IsTup s.heap l vs.toArray)
    (h : Q vs { s with heap := (s.heap.push (seqObj "list" #[] 0)).update s.heap.objs.size (Obj.mapSeq (· ++ vs.toArray)) }) (hsz : vs.length ≤ sizeLine) :
    wpAny (model prog w) A (collect (.ref l)) Q E s := by
  obtain ⟨o, ho, hc, n, hd⟩ := id hl
  unfold collect
  refine wpAny_bind (wpAny_runValue (codeAny_builtin entry_proto_collect' ?_))
  show wpAny _ _ (do again (.builtin "list.__iadd__" ⟨[← newList [], .ref l], []⟩)) _ _ s
  refine wpAny_bind (wpAny_newList (wpAny_pure ⟨Code.quiet_builtin _ (by decide +kernel), codeAny_builtin entry_list_iadd' ?_⟩))
  show wpAny _ _ (Builtin.List.listExtendWith (.ref s.heap.objs.size) (.ref l) (.ref s.heap.objs.size)) _ _ { s with heap := s.heap.push (seqObj "list" #[] 0) }
  unfold Builtin.List.listExtendWith
  have ho' : (s.heap.push (seqObj "list" #[] 0)).get? l = some o := Heap.get?_push_of_some _ ho
  refine wpAny_bind (wpAny_typeOf (T := "tuple") ⟨o, ho', hc⟩ ?_)
  have ht : (Value.type "tuple" == Value.type "tuple") = true := by rfl
  rw [if_pos (by rw [ht]; simp)]
  refine wpAny_bind (listItems_at ho' hd ?_)
  refine wpAny_bind (listItems_at (xs := #[]) (n := 0) (Heap.get?_push_size _ rfl) rfl ?_)
  rw [if_neg (by simp)]
  refine wpAny_bind (listUpdate_at (xs := #[]) (n := 0) (Heap.get?_push_size _ rfl) rfl ?_ (Nat.zero_le _) (by show (#[] ++ vs.toArray).size ≤ sizeLine + 1; simp only [Array.size_append, List.size_toArray, List.length_nil]; omega))
  refine wpAny_pure ?_
  show wpAny (model prog w) A (do
      let o ← load s.heap.objs.size
      match o.data with
      | .seq xs _ => pure xs.toList
      | _ => unsupported "internal:collect") Q E { s with heap := (s.heap.push (seqObj "list" #[] 0)).update s.heap.objs.size (Obj.mapSeq (· ++ vs.toArray)) }
  refine wpAny_bind (wpAny_load (get?_update_seq (Heap.get?_push_size _ rfl) _) ?_)
  show wpAny _ _ (pure ((#[] : Array Value) ++ vs.toArray).toList) Q E _
  rw [show ((#[] : Array Value) ++ vs.toArray).toList = vs by simp]
  exact wpAny_pure h
open TS in
theorem sorted_tupsT {l : Addr} {vs : List Value} {d : Nat} {B : Int} {Q : Value → Shared → Prop} (hl : IsTup s.heap l vs.toArray) (h64 : vs.length < 64) (hd : 1 ≤ d) (x : TupsOk s.heap d B vs)
    (h : ∀ out : Array Value, out.toList.Perm vs → out.toList.Pairwise (fun u v => code B (intsOf s.heap u) ≤ code B (intsOf s.heap v)) → Q (.ref (s.heap.objs.size + 1)) { s with heap := sortedAll s.heap vs out }) :
    wpAny (model prog w) A (call (.builtin "sorted") [.ref l]) Q E s := by
  refine Calls.call_function_entry kind_sorted plain_sorted entry_sorted (args_sorted1 _) ?_
  unfold Builtin.«sorted»
  refine wpAny_bind (m := checkCount "sorted" 1 1 _) (wpAny_pure ?_)
  refine wpAny_bind (collect_tup hl ?_ (by rw [sizeLine_eq]; omega))
  refine wpAny_bind (wpAny_newList ?_ (by rw [sizeLine_eq]; omega))
  have hsz : ((s.heap.push (seqObj "list" #[] 0)).update s.heap.objs.size (Obj.mapSeq (· ++ vs.toArray))).objs.size = s.heap.objs.size + 1 := by
    rw [Heap.size_update, size_push']
  have hoL : (((s.heap.push (seqObj "list" #[] 0)).update s.heap.objs.size (Obj.mapSeq (· ++ vs.toArray))).push (seqObj "list" vs.toArray 0)).get? (s.heap.objs.size + 1) = some (seqObj "list" vs.toArray 0) := by
    rw [← hsz]; exact Heap.get?_push_size _ rfl
  have keep : ∀ b o, s.heap.get? b = some o → o.cls = .type "tuple" → (((s.heap.push (seqObj "list" #[] 0)).update s.heap.objs.size (Obj.mapSeq (· ++ vs.toArray))).push (seqObj "list" vs.toArray 0)).get? b = some o := fun b o q _ => by
    have hlt : b < s.heap.objs.size := Heap.lt_size q
    rw [Heap.get?_push_ne _ _ _ (by rw [hsz]; exact Nat.ne_of_lt (Nat.lt_succ_of_lt hlt)), Heap.get?_update_ne _ _ _ _ (Nat.ne_of_lt hlt), Heap.get?_push_ne _ _ _ (Nat.ne_of_lt hlt)]
    exact q
  show wpAny _ _ _ _ _ { s with heap := ((s.heap.push (seqObj "list" #[] 0)).update s.heap.objs.size (Obj.mapSeq (· ++ vs.toArray))).push (seqObj "list" vs.toArray 0) }
  rw [hsz]
  refine wpAny_bind (wpAny_holding (wpAny_call_entry slot_list_sort ⟨_, hoL, rfl⟩ entry_list_sort (sort_tups hoL h64 hd (x.keeps keep) (fun v => code B (intsOf s.heap v)) (fun v hv ns t => ?_) fun out a1 a2 => ⟨_, rfl, ?_⟩) (args_list_sort _)))
  · obtain ⟨ns0, t0, _⟩ := x v hv
    have e : ns = ns0 := t.ints.symm.trans (t0.keeps keep).ints
    rw [e]
    show code B (intsOf s.heap v) = code B ns0
    rw [t0.ints]
  · exact wpAny_pure ⟨_, rfl, h out a1 a2⟩
end
def rSortUT (K : PySem.W.Frag) (d : Nat) (B : Int) : List V → Hp → VK → Prop := fun vs H Q => ∃ (a : Addr) (xs : List V), vs = [V.ref a] ∧ SqT K H a xs ∧ xs.length < 64 ∧ (∀ x ∈ xs, ∃ ns, TupI K H x ns ∧ ns.length = d ∧ TS.Bd B ns) ∧
  ∀ (ys : List V) (p : Addr), ys.Perm xs → ys.Pairwise (fun x y => ∀ n m, TupI K H x n → TupI K H y m → TS.code B n ≤ TS.code B m) → H p = none → Q (.ref p) (upd H p (.lst ys))
theorem cr_sortTT {X : Cx} {d : Nat} {B : Int} (hd : 1 ≤ d) : CallR X (.builtin "sorted") (rSortUT X.K d B) := by
  intro pins s σ H vs us Q I r h
  obtain ⟨a, xs, rfl, hs, h64, hx, q⟩ := h
  obtain ⟨its, rv, hl, hz⟩ := I.tuple hs
  rw [Vals.ref1 r]
  obtain ⟨e1, e2⟩ := bkV_refs rv fun x m => by
    obtain ⟨ns, ⟨t, e, _⟩, _⟩ := hx x m
    exact ⟨t, e⟩
  refine sorted_tupsT (d := d) (B := B) hl (by rw [← rv.length]; exact h64) hd (fun v hv => ?_) fun out h1 h2 => ?_
  · obtain ⟨t, rfl⟩ := e2 v hv
    have hm : V.ref t ∈ xs := by
      rw [e1]
      exact List.mem_map.mpr ⟨_, hv, rfl⟩
    obtain ⟨ns, ⟨t', e, ht⟩, hn, hb⟩ := hx _ hm
    cases e
    exact ⟨ns, tupI_raw I ht, hn, hb⟩
  · obtain ⟨ep, he'⟩ := PyProof.Rows.sortedAll_at s.heap its out
    have h3 : ∀ u ∈ out.toList, ∃ a, u = Value.ref a := fun u hu => e2 u (h1.mem_iff.mp hu)
    have hp : (out.toList.map bkV).Perm xs := by
      rw [e1]
      exact h1.map bkV
    have hlen : (out.toList.map bkV).length ≤ sizeLine := by
      rw [hp.length_eq]
      exact hz
    refine ⟨.ref _, upd H (s.heap.objs.size + 1) (.lst (out.toList.map bkV)), I.laid (t' := s.toks) (fun _ _ => PyProof.Rows.sortedAll_old) (Nat.le_succ _) ⟨hlen, out.toList, ep, bkV_vals h3, he'⟩, rfl, q _ _ hp ?_ (I.hok.fresh (Nat.le_succ _))⟩
    rw [List.pairwise_map]
    refine List.Pairwise.imp (fun {u v} huv n m hn hm => ?_) h2
    obtain ⟨t, et, ht⟩ := hn
    obtain ⟨t', et', ht'⟩ := hm
    have eu := bkV_ref et
    have ev := bkV_ref et'
    have i1 : TS.intsOf s.heap u = n := by
      rw [eu]
      exact (tupI_raw I ht).ints
    have i2 : TS.intsOf s.heap v = m := by
      rw [ev]
      exact (tupI_raw I ht').ints
    rw [← i1, ← i2]
    exact huv
end G0
namespace G0
open PySem PySem.Spec PyProof.Rows L2
/-! ### data -/
mutual
def noL : PyData → Bool
  | .none | .bool _ | .int _ | .str _ => true
  | .list _ | .dict _ => false
  | .tuple xs => noLs xs
def noLs : List PyData → Bool
  | [] => true
  | x :: xs => noL x && noLs xs
end
section
variable {K : PySem.W.Frag} {H H' : Hp} {p : Addr}
theorem sqt_chg (hp : ∃ xs, H p = some (.lst xs)) (c : Chg p H H') {a : Addr} {xs : List V} (h : SqT K H a xs) : SqT K H' a xs := by
  obtain ⟨ys, hp⟩ := hp
  rcases h with (h | ⟨o, h⟩) | h
  · exact .inl (.inl (c _ _ (ne_of h hp (by intro z; cases z)) h))
  · exact .inl (.inr ⟨o, c _ _ (ne_of h hp (by intro z; cases z)) h⟩)
  · exact .inr h
theorem sqt_same (c : Same H H') {a : Addr} {xs : List V} (h : SqT K H a xs) : SqT K H' a xs := by
  rcases h with (h | ⟨o, h⟩) | h
  · exact .inl (.inl (c _ _ h))
  · exact .inl (.inr ⟨o, c _ _ h⟩)
  · exact .inr h
mutual
theorem dp_chg (hp : ∃ xs, H p = some (.lst xs)) (c : Chg p H H') : ∀ (d : PyData) (v : V), noL d = true → Dp K H v d → Dp K H' v d
  | .none, _, _, h => by cases h; exact .non
  | .bool _, _, _, h => by cases h; exact .bl _
  | .int _, _, _, h => by cases h; exact .int _
  | .str _, _, _, h => by cases h; exact .str _
  | .list _, _, n, _ => by simp [noL] at n
  | .dict _, _, n, _ => by simp [noL] at n
  | .tuple ds, _, n, h => by
    cases h with
    | tup hs ha => exact .tup (sqt_chg hp c hs) (dps_chg hp c ds _ (by simpa [noL] using n) ha)
theorem dps_chg (hp : ∃ xs, H p = some (.lst xs)) (c : Chg p H H') : ∀ (ds : List PyData) (vs : List V), noLs ds = true → DpAll K H vs ds → DpAll K H' vs ds
  | [], _, _, h => by cases h; exact .nil
  | d :: ds, _, n, h => by
    simp only [noLs, Bool.and_eq_true] at n
    cases h with
    | cons h1 h2 => exact .cons (dp_chg hp c d _ n.1 h1) (dps_chg hp c ds _ n.2 h2)
end
mutual
theorem dp_same (c : Same H H') : ∀ (d : PyData) (v : V), Dp K H v d → Dp K H' v d
  | .none, _, h => by cases h; exact .non
  | .bool _, _, h => by cases h; exact .bl _
  | .int _, _, h => by cases h; exact .int _
  | .str _, _, h => by cases h; exact .str _
  | .list ds, _, h => by
    cases h with
    | lst hs ha => exact .lst (c.seq hs) (dps_same c ds _ ha)
  | .dict _, _, h => by cases h
  | .tuple ds, _, h => by
    cases h with
    | tup hs ha => exact .tup (sqt_same c hs) (dps_same c ds _ ha)
theorem dps_same (c : Same H H') : ∀ (ds : List PyData) (vs : List V), DpAll K H vs ds → DpAll K H' vs ds
  | [], _, h => by cases h; exact .nil
  | d :: ds, _, h => by
    cases h with
    | cons h1 h2 => exact .cons (dp_same c d _ h1) (dps_same c ds _ h2)
end
theorem dps_app {vs ws : List V} {ds es : List PyData} : DpAll K H vs ds → DpAll K H ws es → DpAll K H (vs ++ ws) (ds ++ es) := by
  intro h g
  match vs, ds, h with
  | [], [], _ => exact g
  | _ :: _, _ :: _, .cons h1 h2 => exact .cons h1 (dps_app h2 g)
theorem dps_len {vs : List V} {ds : List PyData} : DpAll K H vs ds → vs.length = ds.length := by
  intro h
  match vs, ds, h with
  | [], [], _ => rfl
  | _ :: _, _ :: _, .cons _ h2 => exact congrArg (· + 1) (dps_len h2)
end
theorem noLs_of : ∀ {ds : List PyData}, (∀ d ∈ ds, noL d = true) → noLs ds = true
  | [], _ => rfl
  | d :: ds, h => by
    simp only [noLs, Bool.and_eq_true]
    exact ⟨h d (List.mem_cons_self ..), noLs_of fun x hx => h x (List.mem_cons_of_mem _ hx)⟩
/-! ### things and letters -/
inductive Thing : Nat → PyData → Prop
  | num {n : Nat} {i : Int} : 0 ≤ i → i < 10 ^ 60 → Thing n (.int i)
  | tup {n : Nat} {ds : List PyData} : ds.length ≤ 2 → (∀ d ∈ ds, Thing n d) → Thing (n + 1) (.tuple ds)
theorem Thing.noL {n : Nat} {d : PyData} (h : Thing n d) : noL d = true := by
  induction h with
  | num _ _ => rfl
  | tup _ _ ih =>
    simp only [G0.noL]
    exact noLs_of ih
theorem Thing.mono {n m : Nat} {d : PyData} (h : Thing n d) (le : n ≤ m) : Thing m d := by
  induction h generalizing m with
  | num a b => exact .num a b
  | tup l _ ih =>
    cases m with
    | zero => omega
    | succ m => exact .tup l fun d hd => ih d hd (by omega)
def WordOk (z : Str) : Prop := 1 ≤ z.length ∧ z.length ≤ 8 ∧ (∀ c ∈ z.cps.toList, 97 ≤ c ∧ c ≤ 122) ∧ z ≠ "gone"
def LetterD (d : PyData) : Prop := ∃ (z : Str) (ds : List PyData), d = .tuple (.str z :: ds) ∧ WordOk z ∧ ds.length ≤ 5 ∧ ∀ x ∈ ds, Thing 3 x
theorem LetterD.noL {d : PyData} (h : LetterD d) : noL d = true := by
  obtain ⟨z, ds, rfl, _, _, hd⟩ := h
  simp only [G0.noL, noLs, Bool.true_and]
  exact noLs_of fun x hx => (hd x hx).noL
theorem Chg.mut {p D : Addr} {H0 H1 : Hp} {o : HO} (a : Chg p H0 H1) (n : H0 D = none) : Chg p H0 (upd H1 D o) := fun b u m e => by
  rw [upd_ne (ne_of_none e n)]; exact a b u m e
theorem PotAt.ne {n : Nat} {H H' : Hp} {p D : Addr} {o : HO} (h : PotAt n H p) (d : p ≠ D) (e : H' = upd H D o) : PotAt n H' p := by
  obtain ⟨xs, q, r⟩ := h
  exact ⟨xs, by rw [e, upd_ne d]; exact q, r⟩
theorem PotAt.new {n : Nat} {H : Hp} {p D : Addr} {o : HO} (h : PotAt n H p) (d : H D = none) : PotAt n (upd H D o) p := h.keep (same_upd d)
theorem PotAt.neD {n : Nat} {H : Hp} {p D : Addr} (h : PotAt n H p) (d : H D = none) : p ≠ D := by
  obtain ⟨xs, q, r⟩ := h
  exact ne_of_none q d
theorem PotAt.lst {n : Nat} {H : Hp} {p : Addr} (h : PotAt n H p) : ∃ xs, H p = some (.lst xs) := by
  obtain ⟨xs, q, r⟩ := h
  exact ⟨xs, q⟩
theorem PotAt.neT {n : Nat} {H : Hp} {p t : Addr} {xs : List V} (h : PotAt n H p) (d : H t = some (.tup xs)) : t ≠ p := by
  obtain ⟨ys, q, r⟩ := h
  exact ne_of d q (by intro z; cases z)
theorem Cal.imp {P : Program} {w : World} {K : PySem.W.Frag} {mg : Str → Option Value} {base : Heap} {x : Str} {k : Nat} {ps : List Str} {sp sp' : Sp}
    (C : Cal P w K mg base x k ps sp) (h : ∀ vs H Q E, sp' vs H Q E → sp vs H Q E) : Cal P w K mg base x k ps sp' := by
  obtain ⟨f, fd, F, r⟩ := C
  exact ⟨f, fd, ⟨fun a b c d q => F.len _ _ _ _ (h _ _ _ _ q), fun A o s H args us vs Q E hr he hb hv hs => F.run A o s H args us vs Q E hr he hb hv (h _ _ _ _ hs)⟩, r⟩
theorem cal_no {P : Program} {w : World} {K : PySem.W.Frag} {mg : Str → Option Value} {base : Heap} {x : Str} {st : Stmt} {ps : List Str} (F : Fn K mg x st)
    (bd : ∀ (kV doc pm : Value) (an : Option Addr) (cdv ct : Value) (us : List Value), us.length = ps.length →
      bindArgs (PySem.W.fnOf x x (defArgs st) (defBody st) (defScope st) .none kV doc pm an cdv ct) ⟨us, []⟩ = pure (ps.zip us)) :
    Cal P w K mg base x 0 ps (fun _ _ _ _ => False) := by
  obtain ⟨f, fd, F, m⟩ := F
  obtain ⟨oc, od, kV, doc, pm, an, cdv, ct, osl, e, lk, c⟩ := id F.ex
  exact ⟨f, fd, ⟨fun _ _ _ _ h => h.elim, fun _ _ _ _ _ _ _ _ _ _ _ _ _ h => h.elim⟩, F.binds bd, m, F.kp, oc, od, osl, lk⟩
/-! ### texts of small letters -/
theorem az : ∀ j : Fin 26, (("abcdefghijklmnopqrstuvwxyz" : Str).cps.toList)[j.val]? = some (97 + j.val) := by decide +kernel
theorem az_at {d : Int} (h0 : 0 ≤ d) (h1 : d < 26) : atI ("abcdefghijklmnopqrstuvwxyz" : Str).cps.toList d = some (97 + d.toNat) := by
  have e : d = ((d.toNat : Nat) : Int) := by omega
  have q := az ⟨d.toNat, by omega⟩
  rw [e]
  exact atI_nat q
def sg (c : Nat) : Str := ⟨#[c]⟩
open TL in
theorem joinL_sg : ∀ cs : List Nat, joinL [] (cs.map fun c => [c]) = cs
  | [] => rfl
  | [c] => rfl
  | c :: d :: r => by
    show [c] ++ ([] ++ joinL [] ((d :: r).map fun c => [c])) = c :: d :: r
    rw [joinL_sg (d :: r)]
    rfl
open TL in
theorem tl_of (z : Str) : tl z = z.cps.toList := rfl
open TL in
theorem join_sg (cs : List Nat) : (Txt.join "" (cs.map sg)).cps.toList = cs := by
  rw [join_eq, ← tl_of, tl_join]
  have e : (cs.map sg).map tl = cs.map fun c => [c] := by rw [List.map_map]; rfl
  rw [e]
  exact joinL_sg cs
open TL in
theorem join_sg_len (cs : List Nat) : (Txt.join "" (cs.map sg)).length = cs.length := by
  have e := congrArg List.length (join_sg cs)
  rw [← e]
  show _ = (Txt.join "" (cs.map sg)).cps.toList.length
  simp [Str.length]
theorem sum_sg : ∀ cs : List Nat, ((cs.map sg).map (·.length)).sum = cs.length
  | [] => rfl
  | c :: r => by
    show 1 + ((r.map sg).map (·.length)).sum = r.length + 1
    rw [sum_sg r]; omega

end G0
namespace G0
open PySem PySem.Spec PyProof.Rows L2
theorem iteF' {c : Bool} {A B : Prop} (e : c = false) (h : B) : if c = true then A else B := by rw [e]; exact iteF h
theorem iteT' {c : Bool} {A B : Prop} (e : c = true) (h : A) : if c = true then A else B := by rw [e]; exact iteT h
/-! ### several lists may change -/
def ChgS (S : List Addr) (H H' : Hp) : Prop := ∀ b o, b ∉ S → H b = some o → H' b = some o
section
variable {S : List Addr} {p q : Addr} {H H' H0 H1 H2 : Hp} {o : HO}
theorem ChgS.refl : ChgS S H H := fun _ _ _ e => e
theorem ChgS.trans (a : ChgS S H H1) (b : ChgS S H1 H2) : ChgS S H H2 := fun c o n e => b c o n (a c o n e)
theorem Chg.s (h : Chg p H H') (m : p ∈ S) : ChgS S H H' := fun b o n e => h b o (fun z => n (z ▸ m)) e
theorem Same.s (h : Same H H') : ChgS S H H' := fun b o _ e => h b o e
theorem ChgS.mono {T : List Addr} (h : ChgS S H H') (m : ∀ b ∈ S, b ∈ T) : ChgS T H H' := fun b o n e => h b o (fun z => n (m b z)) e
theorem ChgS.new (a : ChgS S H H1) (n : H1 q = none) : ChgS S H (upd H1 q o) := fun b u m e => by
  rw [upd_ne (ne_of_none (a b u m e) n)]; exact a b u m e
theorem ChgS.mut (a : ChgS S H H1) (n : H q = none) : ChgS S H (upd H1 q o) := fun b u m e => by
  rw [upd_ne (ne_of_none e n)]; exact a b u m e
theorem ChgS.put (a : ChgS S H H1) (m : q ∈ S) : ChgS S H (upd H1 q o) := fun b u n e => by
  have nb : b ≠ q := fun z => n (by rw [z]; exact m)
  rw [upd_ne nb]; exact a b u n e
/-- what is new behind was new ahead -/
theorem ChgS.back (a : ChgS S H H1) (n : H1 q = none) (m : q ∉ S) : H q = none := by
  cases e : H q with
  | none => rfl
  | some u => rw [a q u m e] at n; cases n
theorem Chg.back (a : Chg p H H1) (n : H1 q = none) (m : q ≠ p) : H q = none := by
  cases e : H q with
  | none => rfl
  | some u => rw [a q u m e] at n; cases n
theorem PotAt.keepS {n : Nat} (h : PotAt n H p) (s : ChgS S H H') (m : p ∉ S) : PotAt n H' p := by
  obtain ⟨xs, e, h⟩ := h
  exact ⟨xs, s _ _ m e, h⟩
end
/-! ### lists of ints -/
section
variable {K : PySem.W.Frag} {H : Hp}
theorem dps_ints : ∀ ns : List Int, DpAll K H (ns.map V.int) (ns.map PyData.int)
  | [] => .nil
  | n :: r => .cons (.int n) (dps_ints r)
theorem dp_ints {a : Addr} {ns : List Int} (h : H a = some (.lst (ns.map V.int))) : Dp K H (.ref a) (.list (ns.map PyData.int)) := .lst (SqL.of h) (dps_ints ns)
theorem lay_ints : ∀ ns : List Int, PyData.canLayAll0 (ns.map PyData.int) = true
  | [] => by simp [PyData.canLayAll0]
  | n :: r => by simp [PyData.canLayAll0, PyData.canLay0, lay_ints r]
theorem deep_ints : ∀ ns : List Int, PyData.depthAll (ns.map PyData.int) = 0
  | [] => by simp [PyData.depthAll]
  | n :: r => by simp [PyData.depthAll, PyData.depth, deep_ints r]
theorem shaped_ints (ns : List Int) : SeqAt.shaped (.list (ns.map PyData.int)) = true := by
  show ((PyData.list (ns.map PyData.int)).canLay0 && decide ((PyData.list (ns.map PyData.int)).depth ≤ 64)) = true
  simp [PyData.canLay0, PyData.depth, lay_ints, deep_ints]
theorem flat_ints : ∀ ns : List Int, (ns.map V.int).all flatV = true
  | [] => rfl
  | n :: r => by simp [flatV, flat_ints r]
theorem inV_ints (v : Int) : ∀ ns : List Int, inV (.int v) (ns.map V.int) = decide (v ∈ ns)
  | [] => by simp [inV]
  | n :: r => by
    have ih := inV_ints v r
    unfold inV at ih ⊢
    rw [List.map_cons, List.any_cons, ih]
    show ((n == v) || decide (v ∈ r)) = decide (v ∈ n :: r)
    by_cases e : n = v
    · subst e; simp
    · have e' : ¬ v = n := fun z => e z.symm
      simp [e, e']
theorem at_ints {ns : List Int} {d : Int} (h0 : 0 ≤ d) (h1 : d < ns.length) : ∃ v, v ∈ ns ∧ atI (ns.map V.int) d = some (.int v) := by
  have hk : d.toNat < ns.length := by omega
  have ek : d = ((d.toNat : Nat) : Int) := by omega
  refine ⟨ns[d.toNat], List.getElem_mem hk, ?_⟩
  have q : atI (ns.map V.int) ((d.toNat : Nat) : Int) = some (.int ns[d.toNat]) := atI_nat (by rw [List.getElem?_map, List.getElem?_eq_getElem hk] <;> rfl)
  rw [← ek] at q
  exact q
end
/-! ### how long a repr is -/
mutual
def cost : PyData → Nat
  | .none => 4
  | .bool _ => 5
  | .int _ => 1921
  | .str x => 10 * x.length + 2
  | .list xs => 2 + costs xs
  | .tuple xs => 4 + costs xs
  | .dict _ => 0
def costs : List PyData → Nat
  | [] => 0
  | x :: xs => cost x + 2 + costs xs
end
theorem from_le : ∀ (ts : List Str) (k : Nat) (acc : Str), (textFrom k acc ts).length ≤ acc.length + (ts.map fun t => t.length + 2).sum
  | [], k, acc => by show acc.length ≤ _; simp
  | t :: r, k, acc => by
    have ih := from_le r (k + 1) (acc ++ (if k > 0 then ", " else "" : String) ++ t)
    show (textFrom (k + 1) _ r).length ≤ _
    rw [List.map_cons, List.sum_cons]
    rw [Str.length_append, Str.length_append] at ih
    have sep : (Str.ofString (if k > 0 then ", " else "")).length ≤ 2 := by split <;> decide
    omega
theorem join_le : ∀ ts : List Str, (Str.join ", " ts).length ≤ (ts.map fun t => t.length + 2).sum
  | [] => by decide
  | [x] => by show x.length ≤ _; simp
  | x :: y :: r => by
    have ih := join_le (y :: r)
    show (x ++ (", " : Str) ++ Str.join ", " (y :: r)).length ≤ _
    rw [Str.length_append, Str.length_append, List.map_cons, List.sum_cons]
    have : (", " : Str).length = 2 := by decide
    omega
theorem small_cps {x : Str} (h : PyData.strOk x = true) : ∀ c ∈ x.cps.toList, c < 16 ^ 8 := fun c hc => by
  unfold PyData.strOk at h
  rw [Array.all_eq_true_iff_forall_mem] at h
  have := of_decide_eq_true (h c (Array.mem_toList_iff.mp hc))
  omega
mutual
theorem shown_le : ∀ d : PyData, d.showable = true → d.canLay0 = true → d.shown.length ≤ cost d
  | .none, _, _ => by show (("None" : Str)).length ≤ 4; decide
  | .bool b, _, _ => by cases b <;> (simp only [PyData.shown, cost]; decide)
  | .int i, h, _ => by
    simp only [PyData.shown, cost]
    exact int_text_len_1921 (by simpa [PyData.showable] using h)
  | .str x, _, h => by
    simp only [PyData.shown, cost]
    exact StrLaws.reprText_len x (small_cps (by simpa [PyData.canLay0] using h))
  | .list xs, h, l => by
    have ih := shown_les xs (by simpa [PyData.showable] using h) (by simpa [PyData.canLay0] using l)
    simp only [PyData.shown, cost]
    show (textFrom 0 "[" (PyData.shownAll xs) ++ ("]" : Str)).length ≤ _
    have := from_le (PyData.shownAll xs) 0 "["
    have a : ("[" : Str).length = 1 := by decide
    have b : ("]" : Str).length = 1 := by decide
    rw [Str.length_append]
    omega
  | .tuple xs, h, l => by
    have ih := shown_les xs (by simpa [PyData.showable] using h) (by simpa [PyData.canLay0] using l)
    simp only [PyData.shown, cost]
    show (("(" : Str) ++ Str.join ", " (PyData.shownAll xs) ++ (Str.ofString (if (PyData.shownAll xs).length == 1 then ",)" else ")"))).length ≤ _
    have := join_le (PyData.shownAll xs)
    have a : ("(" : Str).length = 1 := by decide
    have b : (Str.ofString (if (PyData.shownAll xs).length == 1 then ",)" else ")")).length ≤ 2 := by split <;> decide
    rw [Str.length_append, Str.length_append]
    omega
  | .dict _, _, h => by simp [PyData.canLay0] at h
theorem shown_les : ∀ ds : List PyData, PyData.showableAll ds = true → PyData.canLayAll0 ds = true → ((PyData.shownAll ds).map fun t => t.length + 2).sum ≤ costs ds
  | [], _, _ => Nat.le_refl _
  | d :: ds, h, l => by
    simp only [PyData.showableAll, Bool.and_eq_true] at h
    simp only [PyData.canLayAll0, Bool.and_eq_true] at l
    have h1 := shown_le d h.1 l.1
    have h2 := shown_les ds h.2 l.2
    simp only [PyData.shownAll, costs, List.map_cons, List.sum_cons]
    omega
end

end G0
namespace G0
open PySem PySem.Spec PyProof.Rows L2
theorem small_of' {n : Nat} (h : n ≤ 10000) : n < sizeLine := Nat.lt_of_le_of_lt h (by decide)
/-! ### xs == [], t == () -/
def rEqNil (K : PySem.W.Frag) : R2 := fun x y H Q => ∃ (a b : Addr) (xs : List V), x = .ref a ∧ y = .ref b ∧
  ((SqL K H a xs ∧ SqL K H b []) ∨ (SqT K H a xs ∧ SqT K H b [])) ∧ Q (.bl xs.isEmpty) H
theorem op_eqNil {X : Cx} (hu : X.A.units < cLine) : OpR X (compareOp .Eq) (rEqNil X.K) := by
  intro pins s σ H x y v u Q I rx ry h
  obtain ⟨a, b, xs, rfl, rfl, two, q⟩ := h
  obtain rfl : v = Value.ref a := rx
  obtain rfl : u = Value.ref b := ry
  rcases two with ⟨h1, h2⟩ | ⟨h1, h2⟩
  · obtain ⟨its, r, pl, hz⟩ := I.list h1
    obtain ⟨its2, r2, pl2, hz2⟩ := I.list h2
    have e2 : its2 = [] := by cases r2; rfl
    subst e2
    cases r with
    | nil =>
      refine SeqAt.eq_listAt (e := fun _ => true) pl.isList pl2.isList rfl hu (fun j h => absurd h (Nat.not_lt_zero j)) ⟨.bl true, H, I, rfl, q⟩
    | cons _ _ =>
      exact SeqAt.eq_list_lengthsAt pl.isList pl2.isList (by simp) hu ⟨.bl false, H, I, rfl, q⟩
  · obtain ⟨its, r, pl, hz⟩ := I.tuple h1
    obtain ⟨its2, r2, pl2, hz2⟩ := I.tuple h2
    have e2 : its2 = [] := by cases r2; rfl
    subst e2
    cases r with
    | nil =>
      refine SeqAt.eq_tupleAt (e := fun _ => true) pl pl2 hu (fun j h => absurd h (Nat.not_lt_zero j)) ⟨.bl true, H, I, rfl, q⟩
    | cons _ _ =>
      refine SeqAt.eq_tupleAt (e := fun _ => true) pl pl2 hu (fun j _ h => absurd h (Nat.not_lt_zero j)) ⟨.bl false, H, I, ?_, q⟩
      simp [L2.RelV]
/-! ### data of any kind -/
inductive GD where
  | non | bl (b : Bool) | int (i : Int) | str (z : Str) | lst | dct | tup (gs : List GD)
mutual
inductive Gv (K : PySem.W.Frag) (H : Hp) : V → GD → Prop
  | non : Gv K H .non .non
  | bl (b : Bool) : Gv K H (.bl b) (.bl b)
  | int (i : Int) : Gv K H (.int i) (.int i)
  | str {z : Str} : z.length ≤ 1000 → Gv K H (.str z) (.str z)
  | lst {a : Addr} {xs : List V} : H a = some (.lst xs) → Gv K H (.ref a) .lst
  | dct {a : Addr} {kvs : List (Key × V)} : H a = some (.dK kvs) → Gv K H (.ref a) .dct
  | tup {a : Addr} {xs : List V} {gs : List GD} : SqT K H a xs → xs.length ≤ 1000 → GvAll K H xs gs → Gv K H (.ref a) (.tup gs)
inductive GvAll (K : PySem.W.Frag) (H : Hp) : List V → List GD → Prop
  | nil : GvAll K H [] []
  | cons {v : V} {vs : List V} {g : GD} {gs : List GD} : Gv K H v g → GvAll K H vs gs → GvAll K H (v :: vs) (g :: gs)
end
section
variable {K : PySem.W.Frag} {H H' : Hp}
mutual
theorem gv_same (c : Same H H') : ∀ (g : GD) (v : V), Gv K H v g → Gv K H' v g
  | .non, _, h => by cases h; exact .non
  | .bl _, _, h => by cases h; exact .bl _
  | .int _, _, h => by cases h; exact .int _
  | .str _, _, h => by cases h with | str z => exact .str z
  | .lst, _, h => by cases h with | lst e => exact .lst (c _ _ e)
  | .dct, _, h => by cases h with | dct e => exact .dct (c _ _ e)
  | .tup gs, _, h => by
    cases h with
    | tup e l a => exact .tup (sqt_same c e) l (gvs_same c gs _ a)
theorem gvs_same (c : Same H H') : ∀ (gs : List GD) (vs : List V), GvAll K H vs gs → GvAll K H' vs gs
  | [], _, h => by cases h; exact .nil
  | g :: gs, _, h => by
    cases h with
    | cons h1 h2 => exact .cons (gv_same c g _ h1) (gvs_same c gs _ h2)
end
theorem gvs_len {vs : List V} {gs : List GD} (h : GvAll K H vs gs) : vs.length = gs.length := by
  match vs, gs, h with
  | [], [], _ => rfl
  | _ :: _, _ :: _, .cons _ h2 => exact congrArg (· + 1) (gvs_len h2)
theorem gvs_get {vs : List V} {gs : List GD} (h : GvAll K H vs gs) : ∀ {i : Nat} {v : V}, vs[i]? = some v → ∃ g, gs[i]? = some g ∧ Gv K H v g := by
  match vs, gs, h with
  | [], [], _ => intro i v e; simp at e
  | v :: vs, g :: gs, .cons h1 h2 =>
    intro i w e
    cases i with
    | zero => simp at e; subst e; exact ⟨g, rfl, h1⟩
    | succ i => exact gvs_get h2 (by simpa using e)
theorem ty_sqt {a : Addr} {xs : List V} (h : SqT K H a xs) : TyX K H (.ref a) (.type "tuple") := by
  rcases h with (h | ⟨o, h⟩) | ⟨o, its, n, h1, h2, _⟩
  · exact .base (.tup h)
  · exact .fTuple h
  · exact .kTuple h1 h2
/-- the built-in class of a thing -/
def GD.ty : GD → String
  | .non => "NoneType" | .bl _ => "bool" | .int _ => "int" | .str _ => "str" | .lst => "list" | .dct => "dict" | .tup _ => "tuple"
theorem gv_ty {v : V} {g : GD} (h : Gv K H v g) : TyX K H v (.type g.ty) := by
  cases h with
  | non => exact .base .non
  | bl b => exact .base (.bl b)
  | int i => exact .base (.int i)
  | str _ => exact .base (.str _)
  | lst e => exact .base (.lst e)
  | dct e => exact .base (.dK e)
  | tup e _ _ => exact ty_sqt e
def GD.isInt : GD → Bool | .int _ => true | .bl _ => true | _ => false
def GD.isBool : GD → Bool | .bl _ => true | _ => false
def GD.isTup : GD → Bool | .tup _ => true | _ => false
def GD.isStr : GD → Bool | .str _ => true | _ => false
theorem kit_int (g : GD) : PySem.W.kitOne K (.type g.ty) (.type "int") = some g.isInt := by cases g <;> exact kit_ty (by simp only [GD.ty, GD.isInt, GD.isBool, GD.isTup, GD.isStr]; decide +kernel)
theorem kit_bool (g : GD) : PySem.W.kitOne K (.type g.ty) (.type "bool") = some g.isBool := by cases g <;> exact kit_ty (by simp only [GD.ty, GD.isInt, GD.isBool, GD.isTup, GD.isStr]; decide +kernel)
theorem kit_tup (g : GD) : PySem.W.kitOne K (.type g.ty) (.type "tuple") = some g.isTup := by cases g <;> exact kit_ty (by simp only [GD.ty, GD.isInt, GD.isBool, GD.isTup, GD.isStr]; decide +kernel)
theorem kit_str (g : GD) : PySem.W.kitOne K (.type g.ty) (.type "str") = some g.isStr := by cases g <;> exact kit_ty (by simp only [GD.ty, GD.isInt, GD.isBool, GD.isTup, GD.isStr]; decide +kernel)
end
/-! ### what is asked of data -/
def GD.less (t : Int) : GD → Bool | .int i => decide (0 ≤ i ∧ i < t) | _ => false
def signs : List Nat := ("abcdefghijklmnopqrstuvwxyz" : Str).cps.toList
def wordB (z : Str) : Bool := decide (1 ≤ z.length) && decide (z.length ≤ 8) && z.cps.toList.all (fun c => decide (c ∈ signs)) && !decide (z = "gone")
def GD.word : GD → Bool | .str z => wordB z | _ => false
mutual
def GD.part : Nat → GD → Bool
  | _, .int i => decide (0 ≤ i ∧ i < 10 ^ 60)
  | 0, .tup _ => false
  | n + 1, .tup gs => GD.parts n gs
  | _, _ => false
def GD.parts : Nat → List GD → Bool
  | _, [] => true
  | n, g :: gs => GD.part n g && GD.parts n gs
end
def bad1 (k : Nat) : List GD → Option Nat
  | [] => none
  | g :: gs => if g.part 3 then bad1 (k + 1) gs else some k
def GD.fault : GD → Option Nat
  | .tup (w :: gs) => if w.word then bad1 1 gs else some 0
  | _ => some 0
def oV : Option Nat → V
  | none => .non
  | some k => .int k

end G0
namespace G0
open PySem PySem.Spec PyProof.Rows L2
theorem n_caF_me_stt : (("me" : Str) = "state") = False := eq_false (by decide +kernel)
theorem n_caF_me_sits : (("me" : Str) = "sits") = False := eq_false (by decide +kernel)
theorem n_caF_me_rnd : (("me" : Str) = "round") = False := eq_false (by decide +kernel)
theorem n_caF_me_ros : (("me" : Str) = "_roster") = False := eq_false (by decide +kernel)
theorem n_caF_me_nms : (("me" : Str) = "_numbers") = False := eq_false (by decide +kernel)
theorem n_caF_me_key : (("me" : Str) = "_key") = False := eq_false (by decide +kernel)
theorem n_caF_me_bgn : (("me" : Str) = "_begun") = False := eq_false (by decide +kernel)
theorem n_caF_me_plg : (("me" : Str) = "_pledges") = False := eq_false (by decide +kernel)
theorem n_caF_stt_me : (("state" : Str) = "me") = False := eq_false (by decide +kernel)
theorem n_caF_stt_sits : (("state" : Str) = "sits") = False := eq_false (by decide +kernel)
theorem n_caF_stt_rnd : (("state" : Str) = "round") = False := eq_false (by decide +kernel)
theorem n_caF_stt_ros : (("state" : Str) = "_roster") = False := eq_false (by decide +kernel)
theorem n_caF_stt_nms : (("state" : Str) = "_numbers") = False := eq_false (by decide +kernel)
theorem n_caF_stt_key : (("state" : Str) = "_key") = False := eq_false (by decide +kernel)
theorem n_caF_stt_bgn : (("state" : Str) = "_begun") = False := eq_false (by decide +kernel)
theorem n_caF_stt_plg : (("state" : Str) = "_pledges") = False := eq_false (by decide +kernel)
theorem n_caF_sits_me : (("sits" : Str) = "me") = False := eq_false (by decide +kernel)
theorem n_caF_sits_stt : (("sits" : Str) = "state") = False := eq_false (by decide +kernel)
theorem n_caF_sits_rnd : (("sits" : Str) = "round") = False := eq_false (by decide +kernel)
theorem n_caF_sits_ros : (("sits" : Str) = "_roster") = False := eq_false (by decide +kernel)
theorem n_caF_sits_nms : (("sits" : Str) = "_numbers") = False := eq_false (by decide +kernel)
theorem n_caF_sits_key : (("sits" : Str) = "_key") = False := eq_false (by decide +kernel)
theorem n_caF_sits_bgn : (("sits" : Str) = "_begun") = False := eq_false (by decide +kernel)
theorem n_caF_sits_plg : (("sits" : Str) = "_pledges") = False := eq_false (by decide +kernel)
theorem n_caF_rnd_me : (("round" : Str) = "me") = False := eq_false (by decide +kernel)
theorem n_caF_rnd_stt : (("round" : Str) = "state") = False := eq_false (by decide +kernel)
theorem n_caF_rnd_sits : (("round" : Str) = "sits") = False := eq_false (by decide +kernel)
theorem n_caF_rnd_ros : (("round" : Str) = "_roster") = False := eq_false (by decide +kernel)
theorem n_caF_rnd_nms : (("round" : Str) = "_numbers") = False := eq_false (by decide +kernel)
theorem n_caF_rnd_key : (("round" : Str) = "_key") = False := eq_false (by decide +kernel)
theorem n_caF_rnd_bgn : (("round" : Str) = "_begun") = False := eq_false (by decide +kernel)
theorem n_caF_rnd_plg : (("round" : Str) = "_pledges") = False := eq_false (by decide +kernel)
theorem n_caF_ros_me : (("_roster" : Str) = "me") = False := eq_false (by decide +kernel)
theorem n_caF_ros_stt : (("_roster" : Str) = "state") = False := eq_false (by decide +kernel)
theorem n_caF_ros_sits : (("_roster" : Str) = "sits") = False := eq_false (by decide +kernel)
theorem n_caF_ros_rnd : (("_roster" : Str) = "round") = False := eq_false (by decide +kernel)
theorem n_caF_ros_nms : (("_roster" : Str) = "_numbers") = False := eq_false (by decide +kernel)
theorem n_caF_ros_key : (("_roster" : Str) = "_key") = False := eq_false (by decide +kernel)
theorem n_caF_ros_bgn : (("_roster" : Str) = "_begun") = False := eq_false (by decide +kernel)
theorem n_caF_ros_plg : (("_roster" : Str) = "_pledges") = False := eq_false (by decide +kernel)
theorem n_caF_nms_me : (("_numbers" : Str) = "me") = False := eq_false (by decide +kernel)
theorem n_caF_nms_stt : (("_numbers" : Str) = "state") = False := eq_false (by decide +kernel)
theorem n_caF_nms_sits : (("_numbers" : Str) = "sits") = False := eq_false (by decide +kernel)
theorem n_caF_nms_rnd : (("_numbers" : Str) = "round") = False := eq_false (by decide +kernel)
theorem n_caF_nms_ros : (("_numbers" : Str) = "_roster") = False := eq_false (by decide +kernel)
theorem n_caF_nms_key : (("_numbers" : Str) = "_key") = False := eq_false (by decide +kernel)
theorem n_caF_nms_bgn : (("_numbers" : Str) = "_begun") = False := eq_false (by decide +kernel)
theorem n_caF_nms_plg : (("_numbers" : Str) = "_pledges") = False := eq_false (by decide +kernel)
theorem n_caF_key_me : (("_key" : Str) = "me") = False := eq_false (by decide +kernel)
theorem n_caF_key_stt : (("_key" : Str) = "state") = False := eq_false (by decide +kernel)
theorem n_caF_key_sits : (("_key" : Str) = "sits") = False := eq_false (by decide +kernel)
theorem n_caF_key_rnd : (("_key" : Str) = "round") = False := eq_false (by decide +kernel)
theorem n_caF_key_ros : (("_key" : Str) = "_roster") = False := eq_false (by decide +kernel)
theorem n_caF_key_nms : (("_key" : Str) = "_numbers") = False := eq_false (by decide +kernel)
theorem n_caF_key_bgn : (("_key" : Str) = "_begun") = False := eq_false (by decide +kernel)
theorem n_caF_key_plg : (("_key" : Str) = "_pledges") = False := eq_false (by decide +kernel)
theorem n_caF_bgn_me : (("_begun" : Str) = "me") = False := eq_false (by decide +kernel)
theorem n_caF_bgn_stt : (("_begun" : Str) = "state") = False := eq_false (by decide +kernel)
theorem n_caF_bgn_sits : (("_begun" : Str) = "sits") = False := eq_false (by decide +kernel)
theorem n_caF_bgn_rnd : (("_begun" : Str) = "round") = False := eq_false (by decide +kernel)
theorem n_caF_bgn_ros : (("_begun" : Str) = "_roster") = False := eq_false (by decide +kernel)
theorem n_caF_bgn_nms : (("_begun" : Str) = "_numbers") = False := eq_false (by decide +kernel)
theorem n_caF_bgn_key : (("_begun" : Str) = "_key") = False := eq_false (by decide +kernel)
theorem n_caF_bgn_plg : (("_begun" : Str) = "_pledges") = False := eq_false (by decide +kernel)
theorem n_caF_plg_me : (("_pledges" : Str) = "me") = False := eq_false (by decide +kernel)
theorem n_caF_plg_stt : (("_pledges" : Str) = "state") = False := eq_false (by decide +kernel)
theorem n_caF_plg_sits : (("_pledges" : Str) = "sits") = False := eq_false (by decide +kernel)
theorem n_caF_plg_rnd : (("_pledges" : Str) = "round") = False := eq_false (by decide +kernel)
theorem n_caF_plg_ros : (("_pledges" : Str) = "_roster") = False := eq_false (by decide +kernel)
theorem n_caF_plg_nms : (("_pledges" : Str) = "_numbers") = False := eq_false (by decide +kernel)
theorem n_caF_plg_key : (("_pledges" : Str) = "_key") = False := eq_false (by decide +kernel)
theorem n_caF_plg_bgn : (("_pledges" : Str) = "_begun") = False := eq_false (by decide +kernel)
def caF (me : Int) (stt : Str) (sits : Bool) (rnd : Int) (ros : Addr) (nms : Addr) (key : V) (bgn : V) (plg : Addr) : List (Str × V) := [("me", .int me), ("state", .str stt), ("sits", .bl sits), ("round", .int rnd), ("_roster", .ref ros), ("_numbers", .ref nms), ("_key", key), ("_begun", bgn), ("_pledges", .ref plg)]
theorem caF_me (me : Int) (stt : Str) (sits : Bool) (rnd : Int) (ros : Addr) (nms : Addr) (key : V) (bgn : V) (plg : Addr) : (caF me stt sits rnd ros nms key bgn plg).lookup ("me" : Str) = some (.int me) := by unfold caF; rw [List.lookup_cons_self]
theorem caF_put_me (me : Int) (stt : Str) (sits : Bool) (rnd : Int) (ros : Addr) (nms : Addr) (key : V) (bgn : V) (plg : Addr) (me' : Int) : putF "me" (.int me') (caF me stt sits rnd ros nms key bgn plg) = caF me' stt sits rnd ros nms key bgn plg := by
  simp only [caF, putF, if_false, if_true]
theorem caF_stt (me : Int) (stt : Str) (sits : Bool) (rnd : Int) (ros : Addr) (nms : Addr) (key : V) (bgn : V) (plg : Addr) : (caF me stt sits rnd ros nms key bgn plg).lookup ("state" : Str) = some (.str stt) := by unfold caF; rw [List.lookup_cons, beq_false_of_ne (fun z => by rw [n_caF_stt_me] at z; exact z)]; simp only []; rw [List.lookup_cons_self]
theorem caF_put_stt (me : Int) (stt : Str) (sits : Bool) (rnd : Int) (ros : Addr) (nms : Addr) (key : V) (bgn : V) (plg : Addr) (stt' : Str) : putF "state" (.str stt') (caF me stt sits rnd ros nms key bgn plg) = caF me stt' sits rnd ros nms key bgn plg := by
  simp only [caF, putF, n_caF_me_stt, if_false, if_true]
theorem caF_sits (me : Int) (stt : Str) (sits : Bool) (rnd : Int) (ros : Addr) (nms : Addr) (key : V) (bgn : V) (plg : Addr) : (caF me stt sits rnd ros nms key bgn plg).lookup ("sits" : Str) = some (.bl sits) := by unfold caF; rw [List.lookup_cons, beq_false_of_ne (fun z => by rw [n_caF_sits_me] at z; exact z)]; simp only []; rw [List.lookup_cons, beq_false_of_ne (fun z => by rw [n_caF_sits_stt] at z; exact z)]; simp only []; rw [List.lookup_cons_self]
theorem caF_put_sits (me : Int) (stt : Str) (sits : Bool) (rnd : Int) (ros : Addr) (nms : Addr) (key : V) (bgn : V) (plg : Addr) (sits' : Bool) : putF "sits" (.bl sits') (caF me stt sits rnd ros nms key bgn plg) = caF me stt sits' rnd ros nms key bgn plg := by
  simp only [caF, putF, n_caF_me_sits, n_caF_stt_sits, if_false, if_true]
theorem caF_rnd (me : Int) (stt : Str) (sits : Bool) (rnd : Int) (ros : Addr) (nms : Addr) (key : V) (bgn : V) (plg : Addr) : (caF me stt sits rnd ros nms key bgn plg).lookup ("round" : Str) = some (.int rnd) := by unfold caF; rw [List.lookup_cons, beq_false_of_ne (fun z => by rw [n_caF_rnd_me] at z; exact z)]; simp only []; rw [List.lookup_cons, beq_false_of_ne (fun z => by rw [n_caF_rnd_stt] at z; exact z)]; simp only []; rw [List.lookup_cons, beq_false_of_ne (fun z => by rw [n_caF_rnd_sits] at z; exact z)]; simp only []; rw [List.lookup_cons_self]
theorem caF_put_rnd (me : Int) (stt : Str) (sits : Bool) (rnd : Int) (ros : Addr) (nms : Addr) (key : V) (bgn : V) (plg : Addr) (rnd' : Int) : putF "round" (.int rnd') (caF me stt sits rnd ros nms key bgn plg) = caF me stt sits rnd' ros nms key bgn plg := by
  simp only [caF, putF, n_caF_me_rnd, n_caF_stt_rnd, n_caF_sits_rnd, if_false, if_true]
theorem caF_ros (me : Int) (stt : Str) (sits : Bool) (rnd : Int) (ros : Addr) (nms : Addr) (key : V) (bgn : V) (plg : Addr) : (caF me stt sits rnd ros nms key bgn plg).lookup ("_roster" : Str) = some (.ref ros) := by unfold caF; rw [List.lookup_cons, beq_false_of_ne (fun z => by rw [n_caF_ros_me] at z; exact z)]; simp only []; rw [List.lookup_cons, beq_false_of_ne (fun z => by rw [n_caF_ros_stt] at z; exact z)]; simp only []; rw [List.lookup_cons, beq_false_of_ne (fun z => by rw [n_caF_ros_sits] at z; exact z)]; simp only []; rw [List.lookup_cons, beq_false_of_ne (fun z => by rw [n_caF_ros_rnd] at z; exact z)]; simp only []; rw [List.lookup_cons_self]
theorem caF_put_ros (me : Int) (stt : Str) (sits : Bool) (rnd : Int) (ros : Addr) (nms : Addr) (key : V) (bgn : V) (plg : Addr) (ros' : Addr) : putF "_roster" (.ref ros') (caF me stt sits rnd ros nms key bgn plg) = caF me stt sits rnd ros' nms key bgn plg := by
  simp only [caF, putF, n_caF_me_ros, n_caF_stt_ros, n_caF_sits_ros, n_caF_rnd_ros, if_false, if_true]
theorem caF_nms (me : Int) (stt : Str) (sits : Bool) (rnd : Int) (ros : Addr) (nms : Addr) (key : V) (bgn : V) (plg : Addr) : (caF me stt sits rnd ros nms key bgn plg).lookup ("_numbers" : Str) = some (.ref nms) := by unfold caF; rw [List.lookup_cons, beq_false_of_ne (fun z => by rw [n_caF_nms_me] at z; exact z)]; simp only []; rw [List.lookup_cons, beq_false_of_ne (fun z => by rw [n_caF_nms_stt] at z; exact z)]; simp only []; rw [List.lookup_cons, beq_false_of_ne (fun z => by rw [n_caF_nms_sits] at z; exact z)]; simp only []; rw [List.lookup_cons, beq_false_of_ne (fun z => by rw [n_caF_nms_rnd] at z; exact z)]; simp only []; rw [List.lookup_cons, beq_false_of_ne (fun z => by rw [n_caF_nms_ros] at z; exact z)]; simp only []; rw [List.lookup_cons_self]
theorem caF_put_nms (me : Int) (stt : Str) (sits : Bool) (rnd : Int) (ros : Addr) (nms : Addr) (key : V) (bgn : V) (plg : Addr) (nms' : Addr) : putF "_numbers" (.ref nms') (caF me stt sits rnd ros nms key bgn plg) = caF me stt sits rnd ros nms' key bgn plg := by
  simp only [caF, putF, n_caF_me_nms, n_caF_stt_nms, n_caF_sits_nms, n_caF_rnd_nms, n_caF_ros_nms, if_false, if_true]
theorem caF_key (me : Int) (stt : Str) (sits : Bool) (rnd : Int) (ros : Addr) (nms : Addr) (key : V) (bgn : V) (plg : Addr) : (caF me stt sits rnd ros nms key bgn plg).lookup ("_key" : Str) = some (key) := by unfold caF; rw [List.lookup_cons, beq_false_of_ne (fun z => by rw [n_caF_key_me] at z; exact z)]; simp only []; rw [List.lookup_cons, beq_false_of_ne (fun z => by rw [n_caF_key_stt] at z; exact z)]; simp only []; rw [List.lookup_cons, beq_false_of_ne (fun z => by rw [n_caF_key_sits] at z; exact z)]; simp only []; rw [List.lookup_cons, beq_false_of_ne (fun z => by rw [n_caF_key_rnd] at z; exact z)]; simp only []; rw [List.lookup_cons, beq_false_of_ne (fun z => by rw [n_caF_key_ros] at z; exact z)]; simp only []; rw [List.lookup_cons, beq_false_of_ne (fun z => by rw [n_caF_key_nms] at z; exact z)]; simp only []; rw [List.lookup_cons_self]
theorem caF_put_key (me : Int) (stt : Str) (sits : Bool) (rnd : Int) (ros : Addr) (nms : Addr) (key : V) (bgn : V) (plg : Addr) (key' : V) : putF "_key" (key') (caF me stt sits rnd ros nms key bgn plg) = caF me stt sits rnd ros nms key' bgn plg := by
  simp only [caF, putF, n_caF_me_key, n_caF_stt_key, n_caF_sits_key, n_caF_rnd_key, n_caF_ros_key, n_caF_nms_key, if_false, if_true]
theorem caF_bgn (me : Int) (stt : Str) (sits : Bool) (rnd : Int) (ros : Addr) (nms : Addr) (key : V) (bgn : V) (plg : Addr) : (caF me stt sits rnd ros nms key bgn plg).lookup ("_begun" : Str) = some (bgn) := by unfold caF; rw [List.lookup_cons, beq_false_of_ne (fun z => by rw [n_caF_bgn_me] at z; exact z)]; simp only []; rw [List.lookup_cons, beq_false_of_ne (fun z => by rw [n_caF_bgn_stt] at z; exact z)]; simp only []; rw [List.lookup_cons, beq_false_of_ne (fun z => by rw [n_caF_bgn_sits] at z; exact z)]; simp only []; rw [List.lookup_cons, beq_false_of_ne (fun z => by rw [n_caF_bgn_rnd] at z; exact z)]; simp only []; rw [List.lookup_cons, beq_false_of_ne (fun z => by rw [n_caF_bgn_ros] at z; exact z)]; simp only []; rw [List.lookup_cons, beq_false_of_ne (fun z => by rw [n_caF_bgn_nms] at z; exact z)]; simp only []; rw [List.lookup_cons, beq_false_of_ne (fun z => by rw [n_caF_bgn_key] at z; exact z)]; simp only []; rw [List.lookup_cons_self]
theorem caF_put_bgn (me : Int) (stt : Str) (sits : Bool) (rnd : Int) (ros : Addr) (nms : Addr) (key : V) (bgn : V) (plg : Addr) (bgn' : V) : putF "_begun" (bgn') (caF me stt sits rnd ros nms key bgn plg) = caF me stt sits rnd ros nms key bgn' plg := by
  simp only [caF, putF, n_caF_me_bgn, n_caF_stt_bgn, n_caF_sits_bgn, n_caF_rnd_bgn, n_caF_ros_bgn, n_caF_nms_bgn, n_caF_key_bgn, if_false, if_true]
theorem caF_plg (me : Int) (stt : Str) (sits : Bool) (rnd : Int) (ros : Addr) (nms : Addr) (key : V) (bgn : V) (plg : Addr) : (caF me stt sits rnd ros nms key bgn plg).lookup ("_pledges" : Str) = some (.ref plg) := by unfold caF; rw [List.lookup_cons, beq_false_of_ne (fun z => by rw [n_caF_plg_me] at z; exact z)]; simp only []; rw [List.lookup_cons, beq_false_of_ne (fun z => by rw [n_caF_plg_stt] at z; exact z)]; simp only []; rw [List.lookup_cons, beq_false_of_ne (fun z => by rw [n_caF_plg_sits] at z; exact z)]; simp only []; rw [List.lookup_cons, beq_false_of_ne (fun z => by rw [n_caF_plg_rnd] at z; exact z)]; simp only []; rw [List.lookup_cons, beq_false_of_ne (fun z => by rw [n_caF_plg_ros] at z; exact z)]; simp only []; rw [List.lookup_cons, beq_false_of_ne (fun z => by rw [n_caF_plg_nms] at z; exact z)]; simp only []; rw [List.lookup_cons, beq_false_of_ne (fun z => by rw [n_caF_plg_key] at z; exact z)]; simp only []; rw [List.lookup_cons, beq_false_of_ne (fun z => by rw [n_caF_plg_bgn] at z; exact z)]; simp only []; rw [List.lookup_cons_self]
theorem caF_put_plg (me : Int) (stt : Str) (sits : Bool) (rnd : Int) (ros : Addr) (nms : Addr) (key : V) (bgn : V) (plg : Addr) (plg' : Addr) : putF "_pledges" (.ref plg') (caF me stt sits rnd ros nms key bgn plg) = caF me stt sits rnd ros nms key bgn plg' := by
  simp only [caF, putF, n_caF_me_plg, n_caF_stt_plg, n_caF_sits_plg, n_caF_rnd_plg, n_caF_ros_plg, n_caF_nms_plg, n_caF_key_plg, n_caF_bgn_plg, if_false, if_true]
theorem caF_no (me : Int) (stt : Str) (sits : Bool) (rnd : Int) (ros : Addr) (nms : Addr) (key : V) (bgn : V) (plg : Addr) {x : Str} (h0 : x ≠ ("me" : Str)) (h1 : x ≠ ("state" : Str)) (h2 : x ≠ ("sits" : Str)) (h3 : x ≠ ("round" : Str)) (h4 : x ≠ ("_roster" : Str)) (h5 : x ≠ ("_numbers" : Str)) (h6 : x ≠ ("_key" : Str)) (h7 : x ≠ ("_begun" : Str)) (h8 : x ≠ ("_pledges" : Str)) : (caF me stt sits rnd ros nms key bgn plg).lookup x = none := by
  unfold caF
  rw [List.lookup_cons, beq_false_of_ne h0]; simp only []
  rw [List.lookup_cons, beq_false_of_ne h1]; simp only []
  rw [List.lookup_cons, beq_false_of_ne h2]; simp only []
  rw [List.lookup_cons, beq_false_of_ne h3]; simp only []
  rw [List.lookup_cons, beq_false_of_ne h4]; simp only []
  rw [List.lookup_cons, beq_false_of_ne h5]; simp only []
  rw [List.lookup_cons, beq_false_of_ne h6]; simp only []
  rw [List.lookup_cons, beq_false_of_ne h7]; simp only []
  rw [List.lookup_cons, beq_false_of_ne h8]; rfl
theorem caF_made (me : Int) (stt : Str) (sits : Bool) (rnd : Int) (ros : Addr) (nms : Addr) (key : V) (bgn : V) (plg : Addr) : putF "_pledges" (.ref plg) (putF "_begun" (bgn) (putF "_key" (key) (putF "_numbers" (.ref nms) (putF "_roster" (.ref ros) (putF "round" (.int rnd) (putF "sits" (.bl sits) (putF "state" (.str stt) (putF "me" (.int me) ([] )))))))))= caF me stt sits rnd ros nms key bgn plg := by
  simp only [putF, caF, n_caF_me_stt, n_caF_me_sits, n_caF_stt_sits, n_caF_me_rnd, n_caF_stt_rnd, n_caF_sits_rnd, n_caF_me_ros, n_caF_stt_ros, n_caF_sits_ros, n_caF_rnd_ros, n_caF_me_nms, n_caF_stt_nms, n_caF_sits_nms, n_caF_rnd_nms, n_caF_ros_nms, n_caF_me_key, n_caF_stt_key, n_caF_sits_key, n_caF_rnd_key, n_caF_ros_key, n_caF_nms_key, n_caF_me_bgn, n_caF_stt_bgn, n_caF_sits_bgn, n_caF_rnd_bgn, n_caF_ros_bgn, n_caF_nms_bgn, n_caF_key_bgn, n_caF_me_plg, n_caF_stt_plg, n_caF_sits_plg, n_caF_rnd_plg, n_caF_ros_plg, n_caF_nms_plg, n_caF_key_plg, n_caF_bgn_plg, if_false, if_true]
end G0
namespace G0
open PySem PySem.Spec PyProof.Rows L2
theorem n_keF_rnd_srv : (("round" : Str) = "_served") = False := eq_false (by decide +kernel)
theorem n_keF_rnd_lin : (("round" : Str) = "_line") = False := eq_false (by decide +kernel)
theorem n_keF_srv_rnd : (("_served" : Str) = "round") = False := eq_false (by decide +kernel)
theorem n_keF_srv_lin : (("_served" : Str) = "_line") = False := eq_false (by decide +kernel)
theorem n_keF_lin_rnd : (("_line" : Str) = "round") = False := eq_false (by decide +kernel)
theorem n_keF_lin_srv : (("_line" : Str) = "_served") = False := eq_false (by decide +kernel)
def keF (rnd : Int) (srv : Addr) (lin : Addr) : List (Str × V) := [("round", .int rnd), ("_served", .ref srv), ("_line", .ref lin)]
theorem keF_rnd (rnd : Int) (srv : Addr) (lin : Addr) : (keF rnd srv lin).lookup ("round" : Str) = some (.int rnd) := by unfold keF; rw [List.lookup_cons_self]
theorem keF_put_rnd (rnd : Int) (srv : Addr) (lin : Addr) (rnd' : Int) : putF "round" (.int rnd') (keF rnd srv lin) = keF rnd' srv lin := by
  simp only [keF, putF, if_false, if_true]
theorem keF_srv (rnd : Int) (srv : Addr) (lin : Addr) : (keF rnd srv lin).lookup ("_served" : Str) = some (.ref srv) := by unfold keF; rw [List.lookup_cons, beq_false_of_ne (fun z => by rw [n_keF_srv_rnd] at z; exact z)]; simp only []; rw [List.lookup_cons_self]
theorem keF_put_srv (rnd : Int) (srv : Addr) (lin : Addr) (srv' : Addr) : putF "_served" (.ref srv') (keF rnd srv lin) = keF rnd srv' lin := by
  simp only [keF, putF, n_keF_rnd_srv, if_false, if_true]
theorem keF_lin (rnd : Int) (srv : Addr) (lin : Addr) : (keF rnd srv lin).lookup ("_line" : Str) = some (.ref lin) := by unfold keF; rw [List.lookup_cons, beq_false_of_ne (fun z => by rw [n_keF_lin_rnd] at z; exact z)]; simp only []; rw [List.lookup_cons, beq_false_of_ne (fun z => by rw [n_keF_lin_srv] at z; exact z)]; simp only []; rw [List.lookup_cons_self]
theorem keF_put_lin (rnd : Int) (srv : Addr) (lin : Addr) (lin' : Addr) : putF "_line" (.ref lin') (keF rnd srv lin) = keF rnd srv lin' := by
  simp only [keF, putF, n_keF_rnd_lin, n_keF_srv_lin, if_false, if_true]
theorem keF_no (rnd : Int) (srv : Addr) (lin : Addr) {x : Str} (h0 : x ≠ ("round" : Str)) (h1 : x ≠ ("_served" : Str)) (h2 : x ≠ ("_line" : Str)) : (keF rnd srv lin).lookup x = none := by
  unfold keF
  rw [List.lookup_cons, beq_false_of_ne h0]; simp only []
  rw [List.lookup_cons, beq_false_of_ne h1]; simp only []
  rw [List.lookup_cons, beq_false_of_ne h2]; rfl
theorem keF_made (rnd : Int) (srv : Addr) (lin : Addr) : putF "_line" (.ref lin) (putF "_served" (.ref srv) (putF "round" (.int rnd) ([] )))= keF rnd srv lin := by
  simp only [putF, keF, n_keF_rnd_srv, n_keF_rnd_lin, n_keF_srv_lin, if_false, if_true]
end G0
/-! A def with the cell __class__: its first statement says super().__init__(..). -/
namespace G0
open PySem PySem.Spec PyProof.Rows L2 NdefX
abbrev nfS (name qual : Str) (params : Arguments) (body : List Stmt) (scope : Scope) (cc cda : Addr) : NF := ⟨name, qual, params, body, scope, [("__class__", cc)], cda⟩
/-- a statement whose code must be told -/
def P1 (X : Cx) (body : List Stmt) (st : Stmt) (t : TS) : Prop :=
  ∀ (pins : List (Addr × Obj)) (s : Shared) (σ : L2.St) (H : Hp) (D : Ends), Inv X pins σ H s → t D σ H →
    _root_.PySem.wpAt (model X.prog X.w) X.A (.func body X.env) (exec st X.env) (SP X pins D) X.xe s
theorem fnS_of {CX : CXT} {P : Program} {w : World} {K : PySem.W.Frag} {mg : Str → Option Value} {base : Heap} {k : Nat}
    {f cc cda : Addr} {name qual : Str} {params : Arguments} {st : Stmt} {body : List Stmt} {scope : Scope} {dV kV doc pm ct oc cl : Value} {v : Option Value}
    {an od cld : Option Addr} {osl csl : Array (Option Value)} {N ps : List Str} {sp : Sp}
    (lk : K.lookup f = some ⟨oc, od, .func (PySem.W.ksFn name qual params (st :: body) scope dV kV doc pm an (.ref cda) ct cc), osl⟩)
    (coded : PySem.W.codeIn K (.ref cda) qual = true) (lc : K.lookup cc = some ⟨cl, cld, .cell v, csl⟩) (S : NScope N ps ["__class__"] scope)
    (len : ∀ zs G R W, sp zs G R W → zs.length = ps.length)
    (inner : ∀ (A : Around) (outer : List Env) (s : Shared) (H : Hp) (vs : List V) (Q : VK) (E : XK),
      Room k (A.deeper (envF (nfS name qual params (st :: body) scope cc cda) f s.heap.objs.size)) → sp vs H Q E →
      ∃ t1 t2, P1 (ncx CX P w K mg base N (nfS name qual params (st :: body) scope cc cda) f A outer s H E) (st :: body) st t1 ∧
        PSs (ncx CX P w K mg base N (nfS name qual params (st :: body) scope cc cda) f A outer s H E) body t2 ∧
        t1 { nx := fun σ' H' => t2 { nx := fun _ H' => Q .non H', rt := Q } σ' H', rt := Q } (startF N vs [none]) H) :
    FnOk P w K mg base CX (k + 1) f (PySem.W.ksFn name qual params (st :: body) scope dV kV doc pm an (.ref cda) ct cc) ps sp := by
  refine ⟨len, fun A outer s H given us vs Q E hr e0 bd r hsp => ?_⟩
  have hl := len _ _ _ _ hsp
  have KX : K.In s.heap := e0.mod.kin.keeps fun b o z => (e0.bs b o z).1
  have lim : s.heap.NoLimit := e0.mod.nolimit.keeps fun b o e => (e0.bs b o e).1
  have CA : CellsAt [("__class__", cc)] ["__class__"] [none] s.heap H := {
    len := rfl
    all := fun y c e => by
      have : c = cc := by
        simp only [List.lookup] at e
        split at e
        · exact (Option.some.inj e).symm
        · cases e
      subst this
      exact ⟨(e0.bs _ _ (e0.mod.kin _ _ lc)).2, v, ⟨_, KX _ _ lc, rfl⟩⟩
    inj := fun x y c h1 h2 => by
      have q : ∀ z c', List.lookup z [(("__class__" : Str), cc)] = some c' → z = "__class__" := fun z c' e => by
        simp only [List.lookup] at e
        split at e
        · rename_i h
          exact beq_iff_eq.mp h
        · cases e
      rw [q _ _ h1, q _ _ h2]
    has := fun i y e => by
      match i, e with
      | 0, e =>
        cases e
        exact ⟨cc, rfl, fun v h => by cases h⟩
      | i + 1, e => cases e }
  refine codeAny_call_function hr.depth (KX _ _ lk) rfl S.co S.gen rfl (PySem.W.codeRec_of KX coded) (bd _ _ _ _ ?_)
  refine wpAny_newFunctionEnv S.nocell (fun ⟨n, _⟩ hy => S.par n (List.of_mem_zip hy).1) (fun h₁ hns hsb => ⟨lim.fresh _ hsb, ?_⟩) S.kind
  show codeAny _ _ (.func (st :: body) (envF (nfS name qual params (st :: body) scope cc cda) f s.heap.objs.size)) _ _
  refine PySem.ks_codeAny_funcAt ?_
  have kp : ∀ b o, s.heap.get? b = some o → h₁.get? b = some o := fun b o e => hsb.extBut b o (Nat.ne_of_lt (Heap.lt_size e)) (Heap.get?_push_of_some _ e)
  obtain ⟨t1, t2, h1, h2, hq⟩ := inner A outer s H vs Q E (hr.deeper _) hsp
  have I : Inv (ncx CX P w K mg base N (nfS name qual params (st :: body) scope cc cda) f A outer s H E) [] (startF N vs [none]) H { s with heap := h₁, toks := s.toks + (ps.zip us).length } := inv_startN S hr.hd e0 hl r CA hns kp
  have fin : ∀ {σ' : L2.St} {H' : Hp} {v : V} {u : Value} {s' : Shared}, Inv (ncx CX P w K mg base N (nfS name qual params (st :: body) scope cc cda) f A outer s H E) [] σ' H' s' → L2.RelV v u → Q v H' → CE outer P w H s Q u s' :=
    fun {σ' H' v u s'} J rv q => ⟨v, H', J.os, J.bare, J.base, J.hok, rv, q⟩
  refine PySem.ks_wpAt_execs_cons (PySem.ks_wpAt_mono (h1 [] _ (startF N vs [none]) H _ I hq) (fun fl s' hs => ?_) fun e s' hs => hs)
  match fl, hs with
  | .ret u, ⟨v, σ', H', J, rv, q⟩ => exact fin J rv q
  | .brk, ⟨_, _, _, q⟩ => exact False.elim q
  | .cont, ⟨_, _, _, q⟩ => exact False.elim q
  | .next, ⟨σ', H', J, q⟩ =>
    refine _root_.PySem.wpAt_of_wpAny (wpAny_mono (h2.run [] _ σ' H' _ J q) (fun fl s' hs => ?_) fun e s' hs => hs)
    match fl, hs with
    | .ret u, ⟨v, σ', H', J, rv, q⟩ => exact fin J rv q
    | .next, ⟨σ', H', J, q⟩ => exact fin (v := V.non) (u := Value.none) J rfl q
    | .brk, ⟨_, _, _, q⟩ => exact False.elim q
    | .cont, ⟨_, _, _, q⟩ => exact False.elim q
end G0
namespace G0
open PySem PySem.Spec PyProof.Rows L2 NdefX
/-- what super() without arguments asks of the text and the written part -/
structure SupF (P : Program) (K : PySem.W.Frag) (N : List Str) (f cc cda D : Addr) (fd : FuncData) (params : Arguments) (scope : Scope) : Prop where
  fun_ : ∃ oc od osl, K.lookup f = some ⟨oc, od, .func fd, osl⟩ ∧ fd.params = params
  arg : ∃ ar : Arg, (params.posonlyargs ++ params.args).head? = some ar ∧ N[0]? = some ar.arg ∧ scope.names.lookup ar.arg = some .local
  code : ∃ ccl cdd vs ccs file tf, K.lookup cda = some ⟨ccl, cdd, .fields vs, ccs⟩ ∧ vs[2]? = some (.str file tf) ∧ ((P.main.file : Str) == file) = true
  cell : ∃ cl cld csl, K.lookup cc = some ⟨cl, cld, .cell (some (.ref D)), csl⟩
  cls : ∃ cdD, PySem.W.clsIn K D = some cdD
  miss : PySem.W.nsIn K mainGlobals "super" = some none
  sup : scope.names.lookup ("super" : Str) = some .globalImplicit
  own : scope.names.lookup ("__class__" : Str) = some .free
  kind : scope.kind = .function
  top : (P.main.scope.names.lookup ("super" : Str)).isSome = false
  any_ : PySem.W.nsIn K cStatics "thirdparty.any" = some none
/-- super() is made: an object of its own, held by a pin -/
theorem sup_node {CX : CXT} {P : Program} {w : World} {K : PySem.W.Frag} {mg : Str → Option Value} {base : Heap} {N : List Str}
    {f cc cda D a C : Addr} {name qual : Str} {params : Arguments} {st : List Stmt} {scope : Scope} {fd : FuncData}
    {A : Around} {outer : List Env} {s0 : Shared} {H0 : Hp} {E : XK} {pins : List (Addr × Obj)} {s : Shared} {σ : L2.St} {H : Hp} {p0 p1 : Pos} {attr : Str} {whole : Sem Value} {Q : Value → Shared → Prop} {EE : Value → Shared → Prop} {ox : Obj} {odx : Option Obj}
    (F : SupF P K N f cc cda D fd params scope)
    (I : Inv (ncx CX P w K mg base N (nfS name qual params st scope cc cda) f A outer s0 H0 E) pins σ H s) (hs : σ[0]? = some (some (.ref a)))
    (J : PySem.W.InstAt s.heap a ox C odx) (hsub : PySem.W.mroIn K C (.ref D) = some true) (hat : (attr == ("__class__" : Str)) = false)
    (h : ∀ h', (∀ b o, s.heap.get? b = some o → h'.get? b = some o) → h'.get? s.heap.objs.size = some (PySem.W.ks_superObj D a C) → Q (.ref s.heap.objs.size) { s with heap := h' }) :
    _root_.PySem.wpAt (model P w) (A.deeper (envF (nfS name qual params st scope cc cda) f s0.heap.objs.size)) (.func st (envF (nfS name qual params st scope cc cda) f s0.heap.objs.size))
      (attributeBase (.Call (.Name "super" p0) [] [] p1) attr (envF (nfS name qual params st scope cc cda) f s0.heap.objs.size) whole) Q EE s := by
  obtain ⟨oc, od, osl, hf, hpar⟩ := F.fun_
  obtain ⟨ar, hp, hN, hka⟩ := F.arg
  obtain ⟨ccl, cdd, vs, ccs, file, tf, hcode, hvs, hfile⟩ := F.code
  obtain ⟨cl, cld, csl, hcell⟩ := F.cell
  obtain ⟨cdD, hD⟩ := F.cls
  have X : K.In s.heap := I.kIn
  have M : Mod K mg base := I.mod
  obtain ⟨mb, hb, hboot⟩ := M.blt
  obtain ⟨m, hns, hlook⟩ := I.loc
  obtain ⟨u, ru, look⟩ := hlook 0 ar.arg (.ref a) hN hs (.inl hka)
  have ru : u = Value.ref a := ru
  subst ru
  have hv : m ar.arg = some (.ref a) := by
    rcases look with ⟨_, e⟩ | ⟨e, _⟩
    · exact e
    · exfalso
      have e : scope.names.lookup ar.arg = some .cell ∨ scope.names.lookup ar.arg = some .free := e
      rw [hka] at e
      rcases e with e | e <;> cases e
  have kb : ∀ b o, base.get? b = some o → s.heap.get? b = some o := I.bk
  obtain ⟨hh, g, d, t, os⟩ := s
  obtain ⟨oD, hD1, hD2⟩ : ∃ oD, hh.get? D = some oD ∧ oD.data = .cls cdD := by
    unfold PySem.W.clsIn at hD
    split at hD
    · rename_i c d cd' sl ho
      cases hD
      exact ⟨_, X _ _ ho, rfl⟩
    · cases hD
  subst hpar
  refine PySem.ks_wpAt_super_base F.sup F.own hat rfl (X _ _ hf) rfl hp rfl (X _ _ hcode) rfl hvs hfile F.top ?_
  refine PySem.W.ks_loadName_global F.kind F.sup (PySem.Calls.loadGlobal_builtin (M.glob.keeps kb) (PySem.W.mg_none_of M.kin M.glob F.miss) (hb.keeps kb) ((hboot _ (by decide +kernel)).trans (show bootBuiltins "super" = some (.type "super") by first | rfl | decide +kernel)) ⟨rfl, ?_⟩)
  refine wpAny_loadName_free F.kind F.own rfl ⟨_, X _ _ hcell, rfl⟩ ?_
  refine wpAny_loadName_local F.kind hka hns hv ?_
  refine PySem.ks_wpAny_isType_cls hD1 hD2 ⟨rfl, ?_⟩
  refine PySem.ks_wpAny_call_super hD1 hD2 J.at_ J.cls (fun c e => ?_) (PySem.W.looks_mroIn X hsub) (fun h' e k => h h' k e)
  have := J.no
  unfold PySem.W.notCls at this
  rw [e] at this
  exact Bool.noConfusion this
end G0
namespace G0
open PySem PySem.Spec PyProof.Rows L2 NdefX
section
variable {prog : Program} {w : World} {A : Around} {E : Value → Shared → Prop} {h : Heap} {g : Array GenState} {d : Drawn} {t : Nat} {os : OsState}
/-- a bound ValueError.__init__ is called: the exception's arguments are laid anew -/
theorem mw_code {nm q : Str} {C N : Addr} {bs bm : List Value} {hdct : Bool} {sn : List Str} {sub : List Value} {ab : Bool} {col : Option Bool} {dd : Option Addr} {k0 k1 k2 k3 k5 : Option Value} {u e t0 : Addr} {rest : List Value} {Q : Value → Shared → Prop}
    (hC : h.get? C = some (excClassObj nm q C N bs bm hdct sn sub ab col dd k0 k1 k2 k3 k5 "ValueError.__new__")) (he : h.get? e = some (PySem.HandSPX.excO C t0)) (hu : h.get? u = some (PySem.W.kxs_mw "ValueError.__init__" e)) (few : rest.length ≤ sizeLine)
    (k : ∀ h' t1, (∀ b o, b ≠ e → h.get? b = some o → h'.get? b = some o) → h'.get? e = some (PySem.HandSPX.excO C t1) → Q .none ⟨h', g, d, t, os⟩) :
    wpAny (model prog w) A (call (.ref u) rest) Q E ⟨h, g, d, t, os⟩ := by
  refine wpAny_call (codeAny_of_tree ?_)
  show wpAny _ A.in1 (callAny (.ref u) ⟨rest, []⟩) _ _ _
  simp only [callAny]
  refine wpAny_bind (wpAny_load hu ?_)
  simp only [PySem.W.kxs_mw, show (Value.type "method-wrapper" == Value.type "method" || Value.type "method-wrapper" == Value.type "builtin_function_or_method" || Value.type "method-wrapper" == Value.type "method-wrapper") = true by decide, if_true]
  refine PySem.W.KFB.if_so (by decide) ?_
  refine wpAny_bind (PySem.ESX.check_bound PySem.F.excBase_ValueError hC he rfl ?_)
  refine wpAny_bind (wpAny_pure (wpAny_pure ?_))
  refine ⟨Code.quiet_builtin _ (by decide +kernel), codeAny_builtin PySem.F.excBase_ValueError.initEntry ?_⟩
  rw [Around.under_plainId PySem.F.excBase_ValueError.init.plain _]
  wp_walk
  refine k _ h.objs.size (fun b o hb ho => ?_) ?_
  · rw [Heap.get?_update_other _ _ (Ne.symm hb)]
    exact Heap.get?_push_of_some _ ho
  · rw [Heap.get?_update_self _ (Heap.get?_push_of_some _ he) rfl]
    rfl
end
section
variable {X : Cx} {pins : List (Addr × Obj)} {σ : L2.St} {H : Hp} {s : Shared} {a C u : Addr} {us : List Value} {Q : Value → Shared → Prop} {E : Value → Shared → Prop} {A : Around}
theorem mw_ok (T : OexC X.K C) (I : Inv X pins σ H s) (e : H a = some (exo a C none)) (hu : s.heap.get? u = some (PySem.W.kxs_mw "ValueError.__init__" a)) (hl : us.length ≤ sizeLine) (k : ∀ s', Inv X pins σ H s' → Q .none s') :
    wpAny (model X.prog X.w) A (call (.ref u) us) Q E s := by
  obtain ⟨nm, q, N, bs, bm, sn, sub, ab, col, dd, k0, k1, k2, k3, k5, hC, hbm⟩ := T.cls
  obtain ⟨t1, ho⟩ := exo_at I.hok e
  obtain ⟨hp, g, d, t, os⟩ := s
  refine mw_code (I.kIn _ _ hC) ho hu hl fun h' t2 keep hx => ?_
  have J := I.write (t' := t) (x := a) (e := a) (o := exo a C none) (by rw [e]; exact True.intro) (.inl rfl) keep ⟨_, hx⟩ (exo_ok hx)
  have eu : upd H a (exo a C none) = H := by
    funext b
    by_cases hb : b = a
    · rw [hb, upd_same, e]
    · rw [upd_ne hb]
  rw [eu] at J
  exact k _ J
end
end G0
namespace G0
open PySem PySem.Spec PyProof.Rows L2 NdefX
/-- super().__init__(..) of an own exception -/
def tSupX (K : PySem.W.Frag) (D : Addr) (ta : TA) : TS := fun Dn σ H => ∃ a C : Addr, σ[0]? = some (some (.ref a)) ∧ OexC K C ∧ H a = some (exo a C none) ∧ PySem.W.mroIn K C (.ref D) = some true ∧
  PySem.W.ks_superIn K C D "__init__" = some (some (.builtin "ValueError.__init__")) ∧ PySem.W.subIn K (.ref C) (.type "ValueError") = some true ∧
  ta σ H fun vs H1 => vs.length ≤ 1000 ∧ H1 a = some (exo a C none) ∧ Dn.nx σ H1
theorem p1_supX {CX : CXT} {P : Program} {w : World} {K : PySem.W.Frag} {mg : Str → Option Value} {base : Heap} {N : List Str}
    {f cc cda D : Addr} {name qual : Str} {params : Arguments} {st : List Stmt} {scope : Scope} {fd : FuncData}
    {A : Around} {outer : List Env} {s0 : Shared} {H0 : Hp} {E : XK} {p0 p1 ap pos pos' : Pos} {e : Expr} {es : List Expr} {ta : TA} {pl : Sem Bool}
    (F : SupF P K N f cc cda D fd params scope) (ha : PA (ncx CX P w K mg base N (nfS name qual params st scope cc cda) f A outer s0 H0 E) (e :: es) ta)
    (he : starEach (e :: es) (envF (nfS name qual params st scope cc cda) f s0.heap.objs.size) = (false, eval e (envF (nfS name qual params st scope cc cda) f s0.heap.objs.size)) :: starEach es (envF (nfS name qual params st scope cc cda) f s0.heap.objs.size) := by rfl)
    (hpl : (backTo pos (starEach es (envF (nfS name qual params st scope cc cda) f s0.heap.objs.size))).any (·.1) = false := by rfl)
    (hsw : swapsWith (.Call (.Attribute (.Call (.Name "super" p0) [] [] p1) "__init__" ap) (e :: es) [] pos) none pos'.line (envF (nfS name qual params st scope cc cda) f s0.heap.objs.size) = pure false := by rfl)
    (hev : eval (.Call (.Attribute (.Call (.Name "super" p0) [] [] p1) "__init__" ap) (e :: es) [] pos) (envF (nfS name qual params st scope cc cda) f s0.heap.objs.size) = (do
      let ov ← attributeBase (.Call (.Name "super" p0) [] [] p1) "__init__" (envF (nfS name qual params st scope cc cda) f s0.heap.objs.size) (eval (.Call (.Name "super" p0) [] [] p1) (envF (nfS name qual params st scope cc cda) f s0.heap.objs.size))
      standAt ap.atName
      let (f', first) ← holding [ov] (getMethod ov "__init__" pl)
      callWith pos f' first (backTo pos (starEach (e :: es) (envF (nfS name qual params st scope cc cda) f s0.heap.objs.size))) []) := by rfl) :
    P1 (ncx CX P w K mg base N (nfS name qual params st scope cc cda) f A outer s0 H0 E) st (.Expr (.Call (.Attribute (.Call (.Name "super" p0) [] [] p1) "__init__" ap) (e :: es) [] pos) pos') (tSupX K D ta) := by
  rintro pins s σ H Dn I ⟨a, C, hs, T, ea, hm, hsu, hve, q⟩
  obtain ⟨t0, ho⟩ := exo_at I.hok ea
  have J : PySem.W.InstAt s.heap a _ C none := ⟨ho, rfl, rfl, trivial⟩
  have fresh := I.hok.fresh (Nat.le_refl s.heap.objs.size)
  refine PySem.ks_wpAt_Expr_any (PySem.ks_wpAt_MethodCall (sup_node F I hs J hm (by decide) fun h' k e1 => ?_) hev) I.quiet hsw
  obtain ⟨hh, g, d, t, os⟩ := s
  have I1 : Inv (ncx CX P w K mg base N (nfS name qual params st scope cc cda) f A outer s0 H0 E) pins σ H ⟨h', g, d, t, os⟩ := I.kept (t' := t) k
  have X1 : K.In h' := I1.kIn
  obtain ⟨t1, ho1⟩ := exo_at I1.hok ea
  have J1 : PySem.W.InstAt h' a _ C none := ⟨ho1, rfl, rfl, trivial⟩
  have hI : PySem.W.Looks (model P w) h' (isInstance (.ref a) (.type "ValueError")) true := J1.type.andThen (PySem.W.looks_subIn X1 hve)
  cases hc : PySem.W.clsIn K C with
  | none => unfold PySem.W.ks_superIn at hsu; rw [hc] at hsu; cases hsu
  | some cd =>
    unfold PySem.W.ks_superIn at hsu
    rw [hc] at hsu
    refine PySem.W.kxs_getMethod PySem.W.kxs_ValueError e1 (PySem.W.looks_opaque X1 F.any_) (l₀ := cd.mro) (fun A Q E s k q => wpAny_bind ((PySem.W.looks_clsIn X1 hc) A _ E s k (wpAny_pure q))) rfl X1 hsu hI (PySem.W.ks_ne X1 J1 hc) (by decide) ?_
    have k2 : ∀ b o, h'.get? b = some o → (h'.push (PySem.W.kxs_mw "ValueError.__init__" a)).get? b = some o := fun b o e => Heap.get?_push_of_some _ e
    have I2 : Inv (ncx CX P w K mg base N (nfS name qual params st scope cc cda) f A outer s0 H0 E) pins σ H ⟨h'.push (PySem.W.kxs_mw "ValueError.__init__" a), g, d, t + 1, os⟩ := I1.kept (t' := t + 1) k2
    have pin : ∀ p ∈ pins ++ [(h'.objs.size, PySem.W.kxs_mw "ValueError.__init__" a)], (h'.push (PySem.W.kxs_mw "ValueError.__init__" a)).get? p.1 = some p.2 ∧ H p.1 = none ∧
        p.1 ≠ (envF (nfS name qual params st scope cc cda) f s0.heap.objs.size).locals ∧ p.1 ∉ frs outer ∧ ∀ v, p.2.data ≠ .cell v := by
      intro p hp
      rcases List.mem_append.mp hp with hp | hp
      · exact I2.pin p (List.mem_append_right _ hp)
      · rw [List.mem_singleton.mp hp]
        exact ⟨Heap.get?_push_at rfl rfl, I1.hok.fresh (Nat.le_refl _), fun z => absurd (Nat.lt_of_le_of_lt (Nat.le_of_eq z) I1.lt) (Nat.lt_irrefl _), I1.nofs (Nat.le_refl _), fun v z => by cases z⟩
    have I3 := I2.pins_of pin
    refine PySem.W.kxs_callWith1 (h₀ := base) (L := (envF (nfS name qual params st scope cc cda) f s0.heap.objs.size).locals) (news := [(h'.objs.size, PySem.W.kxs_mw "ValueError.__init__" a)]) (i := "ValueError.__init__") (x := a) ?_ (List.mem_singleton.mpr rfl) ?_ he hpl
    · intro p hp
      have hp := List.mem_singleton.mp hp
      subst hp
      refine ⟨Heap.get?_push_at rfl rfl, fun z => absurd (Nat.lt_of_le_of_lt (Nat.le_of_eq z) I1.lt) (Nat.lt_irrefl _), ?_⟩
      cases z : base.get? h'.objs.size with
      | none => rfl
      | some o => exact absurd (Heap.lt_size (I1.bk _ _ z)) (Nat.lt_irrefl _)
    · refine wpAny_mono (ha.run pos _ _ σ H _ I3 q) (fun us s3 got => ?_) fun e s' h => h
      obtain ⟨vs, H3, I4, r, vl, ea3, qn⟩ := got
      have hu := (I4.pin (h'.objs.size, PySem.W.kxs_mw "ValueError.__init__" a) (List.mem_append_right _ (List.mem_append_right _ (List.mem_singleton.mpr rfl)))).1
      refine ⟨hu, mw_ok T I4 ea3 hu (by rw [← r.length, sizeLine_eq]; omega) fun s' I5 => ?_⟩
      exact ⟨σ, H3, I5.unpinned, qn⟩
end G0
namespace G0
open PySem PySem.Spec PyProof.Rows L2 NdefX
/-- __init__ of an own exception: super().__init__('..'), then self.f = y -/
def spXI (C : Addr) (fld : Str) : Sp := fun vs H Q _ => ∃ (a : Addr) (y : V), vs = [.ref a, y] ∧ H a = some (exo a C none) ∧ ∀ dx, H dx = none → dx ≠ a → Q .non (upd (upd H dx (exd dx [(fld, y)])) a (exo a C (some dx)))
/-- what an own exception class asks -/
structure XcK (K : PySem.W.Frag) (C : Addr) (fld : Str) : Prop where
  T : OexC K C
  mro : PySem.W.mroIn K C (.ref C) = some true
  sup : PySem.W.ks_superIn K C C "__init__" = some (some (.builtin "ValueError.__init__"))
  ve : PySem.W.subIn K (.ref C) (.type "ValueError") = some true
  no : PySem.W.findIn K (.ref C) fld = some none
theorem ok_xinit {CX : CXT} {P : Program} {w : World} {K : PySem.W.Frag} {mg : Str → Option Value} {base : Heap}
    {f cc cda C : Addr} {name qual y fld m : Str} {params : Arguments} {scope : Scope} {dV kV doc pm ct oc cl : Value} {v : Option Value}
    {an od cld : Option Addr} {osl csl : Array (Option Value)} {p0 p1 ap mp pos pos' q0 q1 q2 q3 : Pos} {j : Nat}
    (lk : K.lookup f = some ⟨oc, od, .func (PySem.W.ksFn name qual params [.Expr (.Call (.Attribute (.Call (.Name "super" p0) [] [] p1) "__init__" ap) [.Constant (.str m) j mp] [] pos) pos',
      .Assign [.Attribute (.Name "self" q0) fld q1] (.Name y q2) q3] scope dV kV doc pm an (.ref cda) ct cc), osl⟩)
    (coded : PySem.W.codeIn K (.ref cda) qual = true) (lc : K.lookup cc = some ⟨cl, cld, .cell v, csl⟩)
    (S : NScope ["self", y, "__class__"] ["self", y] ["__class__"] scope) (X : XcK K C fld) (hy1 : (y == ("__debug__" : Str)) = false) (hy2 : (y == ("__classdict__" : Str)) = false)
    (hev : ∀ env : Env, ∃ pl : Sem Bool, eval (.Call (.Attribute (.Call (.Name "super" p0) [] [] p1) "__init__" ap) [.Constant (.str m) j mp] [] pos) env = (do
      let ov ← attributeBase (.Call (.Name "super" p0) [] [] p1) "__init__" env (eval (.Call (.Name "super" p0) [] [] p1) env)
      standAt ap.atName
      let (f', first) ← holding [ov] (getMethod ov "__init__" pl)
      callWith pos f' first (backTo pos (starEach [.Constant (.str m) j mp] env)) []))
    (hsw : ∀ env : Env, swapsWith (.Call (.Attribute (.Call (.Name "super" p0) [] [] p1) "__init__" ap) [.Constant (.str m) j mp] [] pos) none pos'.line env = pure false) (hs2 : ∀ env : Env, swapsWith (.Name y q2) (some (.Attribute (.Name "self" q0) fld q1)) q3.line env = pure false)
    (F : SupF P K ["self", y, "__class__"] f cc cda C (PySem.W.ksFn name qual params [.Expr (.Call (.Attribute (.Call (.Name "super" p0) [] [] p1) "__init__" ap) [.Constant (.str m) j mp] [] pos) pos',
      .Assign [.Attribute (.Name "self" q0) fld q1] (.Name y q2) q3] scope dV kV doc pm an (.ref cda) ct cc) params scope) :
    FnOk P w K mg base CX (0 + 1) f (PySem.W.ksFn name qual params [.Expr (.Call (.Attribute (.Call (.Name "super" p0) [] [] p1) "__init__" ap) [.Constant (.str m) j mp] [] pos) pos',
      .Assign [.Attribute (.Name "self" q0) fld q1] (.Name y q2) q3] scope dV kV doc pm an (.ref cda) ct cc) ["self", y] (spXI C fld) := by
  refine fnS_of lk coded lc S ?_ fun A outer s H vs Q E hr h => ?_
  · rintro vs H Q E ⟨a, z, rfl, _⟩
    rfl
  · obtain ⟨a, z, rfl, ea, q⟩ := h
    obtain ⟨pl, hpl⟩ := hev (envF (nfS name qual params [.Expr (.Call (.Attribute (.Call (.Name "super" p0) [] [] p1) "__init__" ap) [.Constant (.str m) j mp] [] pos) pos', .Assign [.Attribute (.Name "self" q0) fld q1] (.Name y q2) q3] scope cc cda) f s.heap.objs.size)
    refine ⟨_, _, p1_supX F (pa_cons pe_str pa_nil) (hsw := hsw _) (hev := hpl), pss_one (ps_ost (pv 0 (by rfl) (.inl (S.par _ (by simp)))) (pv 1 (by rfl) (.inl (S.par _ (by simp))) hy1 hy2) (hs2 _)), ?_⟩
    refine ⟨a, C, rfl, X.T, ea, X.mro, X.sup, X.ve, by show 1 ≤ 1000; decide, ea, ?_⟩
    exact ⟨_, rfl, _, rfl, a, C, rfl, X.T, X.no, .inl ⟨ea, fun dx h1 h2 => q dx h1 h2⟩⟩
end G0
namespace G0
open PySem PySem.Spec PyProof.Rows L2 NdefX
/-- raise X(e) -/
theorem ps_raiseX {X : Cx} {W : WX} {x y fld : Str} {C fI : Addr} {fd : FuncData} {p pos pos' : Pos} {e : Expr} {te : TE} (T : OexC X.K C) (iC : PySem.W.findIn X.K (.ref C) "__init__" = some (some (.ref fI)))
    (tI : PySem.W.typeIn X.K (.ref fI) = some (.type "function")) (F1 : FnOk X.prog X.w X.K X.mg X.base CX0 1 fI fd ["self", y] (spXI C fld)) (hb : Binds X.K fd ["self", y] []) (hr : Room 2 X.A)
    (hg : Gl X x) (hm : X.mg x = some (.ref C)) (hc : X.calm = true) (tk : Takes X W) (ha : PE X e te) (hdb : (x == ("__debug__" : Str)) = false := by decide)
    (he : starEach [e] X.env = (false, eval e X.env) :: starEach [] X.env := by rfl) (hpl : (backTo pos (starEach [] X.env)).any (·.1) = false := by rfl) :
    PS X (.Raise (some (.Call (.Name x p) [e] [] pos)) none pos') (fun _ σ H => tMkO C (spXI C fld) [] (tCons te tNil) σ H fun cls d H' => W cls d σ H') :=
  ps_raise hc tk (pmk_oex T iC tI F1 hr hb .nil pass0 hg hm (pa_cons (hs := he) ha pa_nil) hdb he hpl)
theorem xc_done {C : Addr} {fld : Str} {y : V} {H1 : Hp} {R : XK} (h : ∀ d, H1 d = none → R (.ref C) (some d) (upd H1 d (.xd [(fld, y)]))) :
    [y].length ≤ 1000 ∧ ∀ a, H1 a = none → spXI C fld (.ref a :: ([y] ++ [])) (upd H1 a (exo a C none))
      (fun v H2 => v = .non ∧ ∃ (d : Addr) (fs : List (Str × V)), H2 a = some (exo a C (some d)) ∧ H2 d = some (exd d fs) ∧ H1 d = none ∧ R (.ref C) (some d) (upd (del H2 a) d (.xd fs))) (fun _ _ _ => False) := by
  refine ⟨by show 1 ≤ 1000; decide, fun a ha => ⟨a, y, rfl, upd_same, fun dx h1 h2 => ?_⟩⟩
  have hd : H1 dx = none := by rw [upd_ne h2] at h1; exact h1
  refine ⟨rfl, dx, [(fld, y)], upd_same, by rw [upd_ne h2, upd_same], hd, ?_⟩
  have e : upd (del (upd (upd (upd H1 a (exo a C none)) dx (exd dx [(fld, y)])) a (exo a C (some dx))) a) dx (.xd [(fld, y)]) = upd H1 dx (.xd [(fld, y)]) := by
    funext b
    by_cases c : b = dx
    · subst c; rw [upd_same, upd_same]
    · rw [upd_ne c, upd_ne c]
      by_cases c2 : b = a
      · subst c2; rw [del_same, ha]
      · rw [del_ne c2, upd_ne c2, upd_ne c, upd_ne c2]
  rw [e]
  exact h dx hd
end G0
namespace G0
open PySem PySem.Spec PyProof.Rows L2 NdefX ClX
/-- super().__init__(..) of an instance of an own class, D's base giving a def -/
def tSupM (K : PySem.W.Frag) (D f2 : Addr) (sp : Sp) (ta : TA) : TS := fun Dn σ H => ∃ (a C dx : Addr) (fs : List (Str × V)), σ[0]? = some (some (.ref a)) ∧ H a = some (.ins C dx fs) ∧ PySem.W.mroIn K C (.ref D) = some true ∧
  PySem.W.ks_superIn K C D "__init__" = some (some (.ref f2)) ∧ PySem.W.typeIn K (.ref f2) = some (.type "function") ∧ PySem.W.fnIn K f2 = true ∧
  ta σ H fun vs H1 => sp (.ref a :: vs) H1 (fun _ H2 => Dn.nx σ H2) (fun _ _ _ => False)
theorem p1_supM {CX : CXT} {P : Program} {w : World} {K : PySem.W.Frag} {mg : Str → Option Value} {base : Heap} {N : List Str} {k2 : Nat} {sp : Sp}
    {f cc cda D f2 : Addr} {name qual : Str} {params : Arguments} {st : List Stmt} {scope : Scope} {fd : FuncData}
    {A : Around} {outer : List Env} {s0 : Shared} {H0 : Hp} {E : XK} {p0 p1 ap pos pos' : Pos} {e : Expr} {es : List Expr} {ta : TA} {pl : Sem Bool}
    (F : SupF P K N f cc cda D fd params scope) (F2 : FnR P w K mg base CX0 k2 f2 sp) (hr : Room k2 (A.deeper (envF (nfS name qual params st scope cc cda) f s0.heap.objs.size)))
    (ha : PA (ncx CX P w K mg base N (nfS name qual params st scope cc cda) f A outer s0 H0 E) (e :: es) ta)
    (he : starEach (e :: es) (envF (nfS name qual params st scope cc cda) f s0.heap.objs.size) = (false, eval e (envF (nfS name qual params st scope cc cda) f s0.heap.objs.size)) :: starEach es (envF (nfS name qual params st scope cc cda) f s0.heap.objs.size) := by rfl)
    (hpl : (backTo pos (starEach es (envF (nfS name qual params st scope cc cda) f s0.heap.objs.size))).any (·.1) = false := by rfl)
    (hsw : swapsWith (.Call (.Attribute (.Call (.Name "super" p0) [] [] p1) "__init__" ap) (e :: es) [] pos) none pos'.line (envF (nfS name qual params st scope cc cda) f s0.heap.objs.size) = pure false := by rfl)
    (hev : eval (.Call (.Attribute (.Call (.Name "super" p0) [] [] p1) "__init__" ap) (e :: es) [] pos) (envF (nfS name qual params st scope cc cda) f s0.heap.objs.size) = (do
      let ov ← attributeBase (.Call (.Name "super" p0) [] [] p1) "__init__" (envF (nfS name qual params st scope cc cda) f s0.heap.objs.size) (eval (.Call (.Name "super" p0) [] [] p1) (envF (nfS name qual params st scope cc cda) f s0.heap.objs.size))
      standAt ap.atName
      let (f', first) ← holding [ov] (getMethod ov "__init__" pl)
      callWith pos f' first (backTo pos (starEach (e :: es) (envF (nfS name qual params st scope cc cda) f s0.heap.objs.size))) []) := by rfl) :
    P1 (ncx CX P w K mg base N (nfS name qual params st scope cc cda) f A outer s0 H0 E) st (.Expr (.Call (.Attribute (.Call (.Name "super" p0) [] [] p1) "__init__" ap) (e :: es) [] pos) pos') (tSupM K D f2 sp ta) := by
  rintro pins s σ H Dn I ⟨a, C, dx, fs, hs, ea, hm, hsu, hty, hfn, q⟩
  obtain ⟨mA, OM, _⟩ := ins_get I.hok ea
  obtain ⟨od, J, _⟩ := OM.look
  refine PySem.ks_wpAt_Expr_any (PySem.ks_wpAt_MethodCall (sup_node F I hs J hm (by decide) fun h' k e1 => ?_) hev) I.quiet hsw
  obtain ⟨hh, g, d, t, os⟩ := s
  have I1 : Inv (ncx CX P w K mg base N (nfS name qual params st scope cc cda) f A outer s0 H0 E) pins σ H ⟨h', g, d, t, os⟩ := I.kept (t' := t) k
  have X1 : K.In h' := I1.kIn
  obtain ⟨mA1, OM1, _⟩ := ins_get I1.hok ea
  obtain ⟨od1, J1, _⟩ := OM1.look
  cases hc : PySem.W.clsIn K C with
  | none => unfold PySem.W.ks_superIn at hsu; rw [hc] at hsu; cases hsu
  | some cd =>
    unfold PySem.W.ks_superIn at hsu
    rw [hc] at hsu
    obtain ⟨of, hof, hofc⟩ : ∃ of, h'.get? f2 = some of ∧ of.cls = .type "function" := by
      have ht' : (K.lookup f2).map (·.cls) = some (.type "function") := hty
      cases z : K.lookup f2 with
      | none => rw [z] at ht'; cases ht'
      | some of => rw [z] at ht'; exact ⟨of, X1 _ _ z, Option.some.inj ht'⟩
    refine PySem.ks_wpAny_getMethod_super e1 (PySem.W.looks_opaque X1 F.any_) (l₀ := cd.mro) (fun A Q E s k q => wpAny_bind ((PySem.W.looks_clsIn X1 hc) A _ E s k (wpAny_pure q))) rfl X1 hsu hof hofc (PySem.W.ks_ne X1 J1 hc) (by decide) ?_
    have I3 := met_new (g := f2) (C := a) I1
    refine callwith_cm (C := a) (g := f2) I3 ?_ hfn ?_ he hpl
    · cases z : base.get? h'.objs.size with
      | none => exact z
      | some o => exact absurd (Heap.lt_size (I1.bk _ _ z)) (Nat.lt_irrefl _)
    · refine wpAny_mono (ha.run pos _ _ σ H _ I3 q) (fun us s3 got => ?_) fun e s' h => h
      obtain ⟨vs, H3, I4, r, qn⟩ := got
      refine ⟨⟨pin_at I4, I4.kIn⟩, ?_⟩
      refine wpAny_mono (run_cm F2 hr pass0 I4 r qn) (fun u s' z => ?_) fun e s' h => h
      obtain ⟨v, H', I5, _, qq⟩ := z
      exact ⟨σ, H', I5, qq⟩
end G0
/-! In defs called while an exception is handled: the exception is a pin of the context. -/
namespace G0
open PySem PySem.Spec PyProof.Rows L2
structure XhC (K : PySem.W.Frag) (D : Addr) : Prop where
  cl : (PySem.W.clsIn K D).isSome = true
  c : ExcC K D
/-- isinstance(e, c), e the handled exception at p -/
def rIsX (K : PySem.W.Frag) (D dd : Addr) (p : Addr) : List V → Hp → VK → Prop := fun xs H Q => ∃ (c : V) (cv : Value) (b : Bool), xs = [.ref p, c] ∧ (∀ u, RelV c u → u = cv) ∧ PySem.W.kitOne K (.ref D) cv = some b ∧ (∃ fs, H dd = some (.xd fs)) ∧ Q (.bl b) H
theorem call_isX {X : Cx} {p : Addr × Obj} {D dd : Addr} (hp : p ∈ X.pn) (C : XhC X.K D) (hc : p.2.cls = .ref D) (hd : p.2.dict = some dd) (hf : ∃ vs, p.2.data = .fields vs) : CallR X (.builtin "isinstance") (rIsX X.K D dd p.1) := by
  intro pins s σ H xs us Q I r h
  obtain ⟨c, cv, b, rfl, hcv, e, ⟨fs, ed⟩, q⟩ := h
  cases r with
  | cons rx rr =>
    cases rr with
    | cons rt rr =>
      cases rr
      cases rx
      have ec := hcv _ rt
      subst ec
      obtain ⟨hget, _⟩ := I.pin p (List.mem_append_left _ hp)
      obtain ⟨vs, hv⟩ := hf
      have hx : ObjOk X.prog X.w H s.heap dd (.xd fs) := I.hok dd _ ed
      obtain ⟨mA, hns, hr⟩ := hx
      obtain ⟨od, ho, hl⟩ := lookIn_ns hns
      have J : PySem.W.InstAt s.heap p.1 p.2 D (some od) := ⟨hget, hc, by unfold PySem.W.notCls; rw [hv] <;> rfl, by rw [hd]; exact ho⟩
      exact PySem.W.kia_one (PySem.W.kitx_exc C.cl C.c.hg C.c.hk C.c.hs C.c.ha C.c.hn C.c.ht C.c.hm) I.kIn J e (fun z => nomatch z) fun tk => ⟨.bl b, H, I.kept (t' := tk) fun _ _ z => z, rfl, q⟩
/-- e.f, e the handled exception at p -/
def tXp (p dd : Addr) (f : Str) (te : TE) : TE := fun σ H Q => te σ H fun x H1 => x = .ref p ∧ ∃ (fs : List (Str × V)) (v : V), H1 dd = some (.xd fs) ∧ fs.lookup f = some v ∧ Q v H1
theorem pe_xp {X : Cx} {p : Addr × Obj} {C dd : Addr} {e : Expr} {te : TE} {pos : Pos} {n : Str} (hp : p ∈ X.pn) (T : XfC X.K C) (hno : PySem.W.findIn X.K (.ref C) n = some none) (hc : p.2.cls = .ref C) (hd : p.2.dict = some dd) (hf : ∃ vs, p.2.data = .fields vs)
    (he : PE X e te) (hb : attributeBase e n X.env (eval e X.env) = eval e X.env := by rfl) : PE X (.Attribute e n pos) (tXp p.1 dd n te) := by
  refine ⟨fun pins s σ H Q I h => ?_⟩
  refine attr_of hb (thn (he.run pins s σ H _ I h) fun u s1 hh => ?_)
  obtain ⟨x, H1, I1, rx, ex, fs, v, ea, l, q⟩ := hh
  subst ex
  obtain rfl : u = Value.ref p.1 := rx
  obtain ⟨ha, _⟩ := I1.pin p (List.mem_append_left _ hp)
  obtain ⟨vs, hv⟩ := hf
  have hx : ObjOk X.prog X.w H1 s1.heap dd (.xd fs) := I1.hok dd _ ea
  obtain ⟨mA, hns, hr⟩ := hx
  obtain ⟨od, ho, hl⟩ := lookIn_ns hns
  obtain ⟨u, hu, ru⟩ := RelO.some_of (v := v) (o := mA n) (by rw [← l]; exact hr n)
  have J : PySem.W.InstAt s1.heap p.1 p.2 C (some od) := ⟨ha, hc, by unfold PySem.W.notCls; rw [hv] <;> rfl, by rw [hd]; exact ho⟩
  exact HandSPX.exc_get I1.kIn J T.ga T.gg T.exC (PySem.W.findObj_own T.hdC hno rfl (by rw [hl, hu])) (handed_of ru) ⟨v, H1, I1.tok _, ru, q⟩
end G0
namespace G0
open PySem PySem.Spec PyProof.Rows L2 L2H
/-- a def's promise while an exception is handled and nothing is under repr -/
structure FnHG (P : Program) (w : World) (K : PySem.W.Frag) (mg : Str → Option Value) (base : Heap) (CX : CXT) (k : Nat) (f : Addr) (fd : FuncData) (ps : List Str) (sp : Addr × Obj → Sp) : Prop where
  len : ∀ p vs H Q E, sp p vs H Q E → vs.length = ps.length
  run : ∀ (A : Around) (outer : List Env) (s : Shared) (H : Hp) (args : Args) (us : List Value) (vs : List V) (Q : VK) (E : XK) (p : Addr × Obj), A.guards = some [] → RoomH k A → Hot1 A p → PinOk outer H s p →
    Env0 P w K mg base A outer s H → BindsTo s fd args (ps.zip us) → Vals vs us → sp p vs H Q E → codeAny (model P w) A (.call (.ref f) args) (CR CX outer P w H s Q E) s
theorem fnHG_of {CX : CXT} {P : Program} {w : World} {K : PySem.W.Frag} {mg : Str → Option Value} {base : Heap} {k : Nat} {f : Addr} {name qual : Str} {params : Arguments} {body : List Stmt} {scope : Scope}
    {dV kV doc pm cdv ct oc : Value} {an od : Option Addr} {osl : Array (Option Value)} {N ps : List Str} {sp : Addr × Obj → Sp}
    (lk : K.lookup f = some ⟨oc, od, .func (PySem.W.fnOf name qual params body scope dV kV doc pm an cdv ct), osl⟩) (coded : PySem.W.codeIn K cdv qual = true) (S : FnScope N ps scope)
    (len : ∀ p vs H Q E, sp p vs H Q E → vs.length = ps.length)
    (inner : ∀ (A : Around) (outer : List Env) (s : Shared) (H : Hp) (vs : List V) (Q : VK) (E : XK) (p : Addr × Obj), A.guards = some [] → Hot1 A p → RoomH k (A.deeper (envOfC qual scope s.heap.objs.size f cdv)) → sp p vs H Q E →
      ∃ t, PSs (cxH CX P w K mg base N qual scope f cdv A outer s H E p) body t ∧ t { nx := fun _ H' => Q .non H', rt := Q } (L2.start N vs) H) :
    FnHG P w K mg base CX (k + 1) f (PySem.W.fnOf name qual params body scope dV kV doc pm an cdv ct) ps sp := by
  refine ⟨len, fun A outer s H args us vs Q E p free hr hot hpin e0 hb r hsp => ?_⟩
  have many := len _ _ _ _ _ hsp
  have KX : K.In s.heap := e0.mod.kin.keeps fun b o z => (e0.bs b o z).1
  have lim : s.heap.NoLimit := e0.mod.nolimit.keeps fun b o z => (e0.bs b o z).1
  have kinds : ∀ y ∈ ps.zip us, scope.names.lookup y.1 = some .local ∨
      (scope.names.lookup y.1 = some .cell ∧ ((cellsFrom (s.heap.objs.size + 1) scope.names []).lookup y.1).isSome = true) := by
    intro y hy
    cases S.par y.1 (List.of_mem_zip hy).1 with
    | inl q => exact .inl q
    | inr q => exact .inr ⟨q, PySem.W.cellsFrom_some _ _ _ (.inl q)⟩
  refine codeAny_call_function hr.depth (KX _ _ lk) rfl S.co S.gen rfl (PySem.W.codeRec_of KX coded) (hb _ _ _ _ ?_)
  refine wpAny_newFunctionEnv_cells S.kind kinds fun env same t1 made => ?_
  subst same
  refine ⟨lim.keeps made.toInCall.keep, codeAny_func ?_⟩
  obtain ⟨tb, derived, holds⟩ := inner A outer s H vs Q E p free hot (hr.deeper _) hsp
  have J : Inv (cxH CX P w K mg base N qual scope f cdv A outer s H E p) [] (L2.start N vs) H t1 := inv_startH S hpin e0 many r made
  refine wpAny_mono (derived.run [] t1 (L2.start N vs) H _ J holds) (fun fl t' told => ?_) fun e t' told => told
  match fl, told with
  | .ret u, ⟨v, σ', G', J', rv, q⟩ => exact ⟨v, G', J'.os, J'.bare, J'.base, J'.hok, rv, q⟩
  | .next, ⟨σ', G', J', q⟩ => exact ⟨V.non, G', J'.os, J'.bare, J'.base, J'.hok, (rfl : Value.none = Value.none), q⟩
  | .brk, ⟨_, _, _, q⟩ => exact q.elim
  | .cont, ⟨_, _, _, q⟩ => exact q.elim
section
variable {X : Cx} {CX : CXT} {k : Nat} {f : Addr} {fd : FuncData} {ps : List Str} {sp : Addr × Obj → Sp} {E : L2.St → XK} {x : Str} {q pos : Pos} {e : Expr} {es : List Expr} {t : TA} {p : Addr × Obj}
theorem run_fnHG {pins : List (Addr × Obj)} {σ : L2.St} {H : Hp} {s : Shared} {Q : VK} {us : List Value} {vs : List V} (F : FnHG X.prog X.w X.K X.mg X.base CX k f fd ps sp) (free : X.A.guards = some []) (hr : RoomH k X.A) (hot : Hot1 X.A p) (hp : p ∈ X.pn)
    (hb : Binds X.K fd ps []) (hx : PassesAt CX X σ (E σ)) (I : Inv X pins σ H s) (r : Vals vs us) (h : sp p vs H Q (E σ)) : wpAny (model X.prog X.w) X.A (call (.ref f) us) (EP X pins σ Q) X.xe s := by
  have many : us.length = ps.length := by rw [← r.length]; exact F.len _ _ _ _ _ h
  have b := hb s us I.kIn (by rw [List.append_nil]; exact many)
  rw [List.append_nil] at b
  have at_ := I.pin p (List.mem_append_left _ hp)
  have pin : PinOk X.stack H s p := ⟨at_.1, at_.2.1, fun hm => (List.mem_cons.mp (I.stkSub p.1 hm)).elim at_.2.2.1 at_.2.2.2.1, at_.2.2.2.2⟩
  refine wpAny_call (codeAny_mono (F.run X.A X.stack s H ⟨us, []⟩ us vs Q (E σ) p free hr hot pin I.env0 b r h) fun out s' told => ?_)
  match out, told with
  | .error e, told => exact hx pins H s e s' I told
  | .ok (.ret u), told => exact I.after told
  | .ok .next, told => exact told.elim
  | .ok .brk, told => exact told.elim
  | .ok .cont, told => exact told.elim
theorem pe_callHG (F : FnHG X.prog X.w X.K X.mg X.base CX k f fd ps sp) (free : X.A.guards = some []) (hr : RoomH k X.A) (hot : Hot1 X.A p) (hp : p ∈ X.pn) (hg : Gl X x) (hm : X.mg x = some (.ref f)) (hk : PySem.W.keepIn X.K (.ref f) = true) (hb : Binds X.K fd ps [])
    (hx : ∀ σ, PassesAt CX X σ (E σ)) (ha : PA X (e :: es) t) (hdb : (x == ("__debug__" : Str)) = false := by decide) (he : starEach (e :: es) X.env = (false, eval e X.env) :: starEach es X.env := by rfl) (hpl : (backTo pos (starEach es X.env)).any (·.1) = false := by rfl) :
    PE X (.Call (.Name x q) (e :: es) [] pos) (tCallS (sp p) E t) :=
  ⟨fun pins s σ H Q I h => wpAny_Call_Name_kw (ld_glob I hg hm
    (PySem.W.callWith_K (h₀ := X.base) I.ok.mod.kin hk (thn (ha.run pos pins s σ H _ I h) fun us s1 ⟨vs, H1, I1, r, q1⟩ => ⟨I1.kIn, run_fnHG F free hr hot hp hb (hx σ) I1 r q1⟩) he hpl) hdb)⟩
end
end G0
namespace G0
open PySem PySem.Spec PyProof.Rows L2 NdefX ClX
def top (i : Nat) : Stmt := PySem.Challenge.pw_soleseat_k71_callers_made.main.body.getD i (.Pass ⟨0, 0, 0, 0⟩)
abbrev s_wall : Stmt := top 0
abbrev s_NoSeat__init : Stmt := inClass (top 3) 0
abbrev s_Fallen__init : Stmt := inClass (top 4) 0
abbrev s_is_below : Stmt := top 6
abbrev s_look_at_seat : Stmt := top 8
abbrev s_Seat__init : Stmt := inClass (top 10) 0
abbrev s_Seat_ask : Stmt := inClass (top 10) 1
abbrev s_Seat_leave : Stmt := inClass (top 10) 2
abbrev s_Seat_hear : Stmt := inClass (top 10) 3
abbrev s_Seat_gone : Stmt := inClass (top 10) 4
abbrev s_Key__init : Stmt := inClass (top 12) 0
abbrev s_Key_told : Stmt := inClass (top 12) 1
abbrev s_Key_serve : Stmt := inClass (top 12) 2
abbrev s_Key_renew : Stmt := inClass (top 12) 3
abbrev s_Key_line_up : Stmt := inClass (top 12) 4
abbrev s_Key_take_first : Stmt := inClass (top 12) 5
abbrev s_Key_is_due : Stmt := inClass (top 12) 6
abbrev s_Caller__init : Stmt := inClass (top 15) 0
abbrev s_Caller_ask : Stmt := inClass (top 15) 1
abbrev s_Caller_leave : Stmt := inClass (top 15) 2
abbrev s_Caller_hear : Stmt := inClass (top 15) 3
abbrev s_Caller_gone : Stmt := inClass (top 15) 4
abbrev s_Caller_bears : Stmt := inClass (top 15) 5
abbrev s_Caller_roster : Stmt := inClass (top 15) 6
abbrev s_Caller_numbers : Stmt := inClass (top 15) 7
abbrev s_Caller_awaits : Stmt := inClass (top 15) 8
abbrev s_Caller_to_others : Stmt := inClass (top 15) 9
abbrev s_Caller_learn : Stmt := inClass (top 15) 10
abbrev s_Caller_hear_ask : Stmt := inClass (top 15) 11
abbrev s_Caller_hear_key : Stmt := inClass (top 15) 12
abbrev s_Caller_hear_round : Stmt := inClass (top 15) 13
abbrev s_Caller_hear_pledge : Stmt := inClass (top 15) 14
abbrev s_Caller_begin : Stmt := inClass (top 15) 15
abbrev s_Caller_pledge : Stmt := inClass (top 15) 16
abbrev s_Caller_make_key : Stmt := inClass (top 15) 17
abbrev s_Caller_hand_on : Stmt := inClass (top 15) 18
abbrev s_callers : Stmt := top 16
abbrev s_law_cell_at : Stmt := top 18
abbrev s_law_new : Stmt := top 19
abbrev s_law_spoilt : Stmt := top 20
abbrev s_law_odd : Stmt := top 21
abbrev s_law_refused : Stmt := top 22
abbrev s_law : Stmt := top 23
theorem u64 {k : Nat} {A : Around} (hr : Room k A) : A.units + 64 < cLine := by have := hr.un; omega
theorem dec_ii {a b : Int} : decide (V.int a = V.int b) = decide (a = b) := decide_eq_decide.mpr ⟨fun h => by cases h; rfl, fun h => by rw [h]⟩
theorem lc_yes {te : TE} {σ : L2.St} {H : Hp} {Q : VK} {B : Hp → Prop} (h : te σ H Q) : tYes σ H (fun b H3 => if b = true then te σ H3 Q else B H3) := by
  show (if true = true then te σ H Q else B H)
  exact iteT h
def tDead : TS := fun _ _ _ => False
theorem ps_dead {X : Cx} {st : Stmt} : PS X st tDead := ⟨fun _ _ _ _ _ _ h => h.elim⟩
/-- {k: v for .. in xs}, xs a list -/
theorem dc_list {K : PySem.W.Frag} {a : Addr} {xs : List V} {g : TG} {tt : TT} {tk tv : TE} {vs : List Nat} {σ : L2.St} {H1 : Hp} {D : Addr} {Qd : Hp → Prop} (Pv : Nat → Hp → Prop) (start : Pv 0 (upd H1 D (.dK []))) (stays : ∀ i G, Pv i G → SqL K G a xs)
    (step : ∀ i x G, xs[i]? = some x → Pv i G → g x (wipe σ vs) G fun σ2 H2 => wipe σ2 vs = wipe σ vs ∧ tt σ2 H2 fun b H3 =>
      if b = true then tk σ2 H3 fun y H4 => tv σ2 H4 fun z H5 => ∃ kvs k, y = kV k ∧ H5 D = some (.dK kvs) ∧ kvs.length < sizeLine ∧ Pv (i + 1) (upd H5 D (.dK (putK kvs k z))) else Pv (i + 1) H3) (fin : ∀ G, Pv xs.length G → Qd G) :
    ∃ W : Nat → Nat → Hp → Prop, (∃ m, W 0 m (upd H1 D (.dK []))) ∧ ∀ i m G, W i m G →
      ((Itl K a).stop i G ∧ Qd G) ∨ ((Itl K a).go i G ∧ ∃ Nx : Hp → Prop, (∀ G', Nx G' → ∃ m', m' < m ∧ W (i + 1) m' G') ∧ ∀ x G', (Itl K a).yld i G x G' → g x (wipe σ vs) G' fun σ2 H2 => wipe σ2 vs = wipe σ vs ∧ tt σ2 H2 fun b H3 =>
        if b = true then tk σ2 H3 fun y H4 => tv σ2 H4 fun z H5 => ∃ kvs k, y = kV k ∧ H5 D = some (.dK kvs) ∧ kvs.length < sizeLine ∧ Nx (upd H5 D (.dK (putK kvs k z))) else Nx H3) := by
  refine ⟨fun i m G => m + i = xs.length ∧ Pv i G, ⟨xs.length, rfl, start⟩, ?_⟩
  rintro i m G ⟨e, p⟩
  have sq := stays i G p
  rcases Nat.lt_or_ge i xs.length with lt | ge
  · refine .inr ⟨⟨xs, xs[i], sq, List.getElem?_eq_getElem lt⟩, Pv (i + 1), fun G' p' => ⟨m - 1, by omega, by omega, p'⟩, fun x G' told => ?_⟩
    obtain ⟨rfl, y⟩ := told
    exact step i x G' (y xs sq) p
  · have e' : i = xs.length := by omega
    subst e'
    exact .inl ⟨⟨xs, sq, Nat.le_refl _⟩, fin G p⟩
structure BlK71 (mg : Str → Option Value) : Prop where
  sorted : mg "sorted" = none
  tuple : mg "tuple" = none
def Me (P : Program) (w : World) (K : PySem.W.Frag) (mg : Str → Option Value) (base : Heap) (C : Addr) (x : Str) (k : Nat) (ps : List Str) (sp : Sp) : Prop :=
  ∃ f fd, FnOk P w K mg base CX0 k f fd ps sp ∧ Binds K fd ps [] ∧ Meth K C x f
section
variable {P : Program} {w : World} {K : PySem.W.Frag} {mg : Str → Option Value} {base : Heap} {C CK f : Addr} {fd : FuncData}
theorem two_dp {H : Hp} {x : V} {d1 d2 : PyData} (h : Dp K H x (.tuple [d1, d2])) : ∃ t v1 v2, x = .ref t ∧ SqT K H t [v1, v2] ∧ Dp K H v1 d1 ∧ Dp K H v2 d2 := by
  cases h with
  | tup hs ha =>
    cases ha with
    | cons h1 h2 =>
      cases h2 with
      | cons h3 h4 =>
        cases h4
        exact ⟨_, _, _, rfl, hs, h1, h3⟩
theorem dps_at {H : Hp} {vs : List V} {ds : List PyData} (h : DpAll K H vs ds) : ∀ {i : Nat} {v : V}, vs[i]? = some v → ∃ d, ds[i]? = some d ∧ Dp K H v d := by
  match vs, ds, h with
  | [], [], _ => intro i v e; simp at e
  | v :: vs, d :: ds, .cons h1 h2 =>
    intro i v' e
    cases i with
    | zero => exact ⟨d, rfl, by have : v = v' := by simpa using e
                                rw [← this]; exact h1⟩
    | succ i => exact dps_at h2 (by simpa using e)
theorem dps_at' {α : Type} {f : α → PyData} {H : Hp} {vs : List V} {L : List α} (h : DpAll K H vs (L.map f)) {i : Nat} {v : V} (e : vs[i]? = some v) : ∃ a, L[i]? = some a ∧ Dp K H v (f a) := by
  obtain ⟨d, e1, e2⟩ := dps_at h e
  rw [List.getElem?_map] at e1
  cases z : L[i]? with
  | none => rw [z] at e1; cases e1
  | some a =>
    rw [z] at e1
    cases e1
    exact ⟨a, rfl, e2⟩
theorem ints_at {ns : List Int} {i : Nat} {x : V} (h : (ns.map V.int)[i]? = some x) : ∃ k, ns[i]? = some k ∧ x = V.int k := by
  rw [List.getElem?_map] at h
  cases e : ns[i]? with
  | none => rw [e] at h; cases h
  | some k => rw [e] at h; exact ⟨k, rfl, (Option.some.inj h).symm⟩
/-! ### the key -/
def pairD (p : Int × Int) : PyData := .tuple [.int p.1, .int p.2]
def entI (p : Int × Int) : Key × V := (Sum.inl p.1, V.int p.2)
theorem noLs_pairs : ∀ S : List (Int × Int), noLs (S.map pairD) = true
  | [] => rfl
  | p :: S => by
    have := noLs_pairs S
    simp only [List.map_cons, noLs, pairD, noL, Bool.true_and]
    exact this
theorem ent_none {S : List (Int × Int)} {m : Int} (h : m ∉ S.map (·.1)) : valV (S.map entI) (Sum.inl m) = none := by
  induction S with
  | nil => rfl
  | cons p S ih =>
    rw [List.map_cons] at h
    rw [List.map_cons, valV_neg (fun e => h (by
      have : p.1 = m := Sum.inl.inj e
      rw [← this]; exact List.mem_cons_self ..))]
    exact ih fun z => h (List.mem_cons_of_mem _ z)
theorem ent_some {S : List (Int × Int)} {p : Int × Int} (nd : (S.map (·.1)).Nodup) (m : p ∈ S) : valV (S.map entI) (Sum.inl p.1) = some (.int p.2) := by
  induction S with
  | nil => simp at m
  | cons q S ih =>
    rw [List.map_cons] at nd ⊢
    obtain ⟨n1, n2⟩ := List.nodup_cons.mp nd
    rcases List.mem_cons.mp m with e | m
    · subst e
      exact valV_pos rfl
    · rw [valV_neg (fun e => n1 (by
        have : q.1 = p.1 := Sum.inl.inj e
        rw [this]; exact List.mem_map_of_mem m))]
      exact ih n2 m
structure KeyT (K : PySem.W.Frag) (C : Addr) : Prop where
  cl : Cls K C
  round : NoAttr K C "round"
  served : NoAttr K C "_served"
  line : NoAttr K C "_line"
structure KeyAt (H : Hp) (CK k dk : Addr) (r : Int) (d l : Addr) (S : List (Int × Int)) (ns : List Int) : Prop where
  hp : H k = some (.ins CK dk (keF r d l))
  hd : H d = some (.dK (S.map entI))
  hl : H l = some (.lst (ns.map V.int))
  nd : (S.map (·.1)).Nodup
  few : S.length ≤ 60
  few2 : ns.length ≤ 1000
theorem KeyAt.same {H H' : Hp} {k dk : Addr} {r : Int} {d l : Addr} {S : List (Int × Int)} {ns : List Int} (A : KeyAt H CK k dk r d l S ns) (s : Same H H') : KeyAt H' CK k dk r d l S ns :=
  { A with hp := s _ _ A.hp, hd := s _ _ A.hd, hl := s _ _ A.hl }
theorem yes_ite {σ : L2.St} {H : Hp} {A B : Hp → Prop} (h : A H) : tYes σ H (fun b H3 => if b = true then A H3 else B H3) := by
  show (if true = true then A H else B H)
  exact iteT h
theorem sql_chgI {H H' : Hp} {q D dx : Addr} {fs : List (Str × V)} (hq : H q = some (.ins D dx fs)) (c : Chg q H H') {a : Addr} {xs : List V} (h : SqL K H a xs) : SqL K H' a xs := by
  rcases h with (z | ⟨o, z⟩) | z
  · exact .inl (.inl (c _ _ (ne_of z hq (by intro y; cases y)) z))
  · exact .inl (.inr ⟨o, c _ _ (ne_of z hq (by intro y; cases y)) z⟩)
  · exact .inr z
theorem sqt_chgI {H H' : Hp} {q D dx : Addr} {fs : List (Str × V)} (hq : H q = some (.ins D dx fs)) (c : Chg q H H') {a : Addr} {xs : List V} (h : SqT K H a xs) : SqT K H' a xs := by
  rcases h with (z | ⟨o, z⟩) | z
  · exact .inl (.inl (c _ _ (ne_of z hq (by intro y; cases y)) z))
  · exact .inl (.inr ⟨o, c _ _ (ne_of z hq (by intro y; cases y)) z⟩)
  · exact .inr z
mutual
theorem dp_chgI {H H' : Hp} {q D dx : Addr} {fs : List (Str × V)} (hq : H q = some (.ins D dx fs)) (c : Chg q H H') : ∀ (d : PyData) (v : V), Dp K H v d → Dp K H' v d
  | .none, _, h => by cases h; exact .non
  | .bool _, _, h => by cases h; exact .bl _
  | .int _, _, h => by cases h; exact .int _
  | .str _, _, h => by cases h; exact .str _
  | .dict _, _, h => by cases h
  | .list ds, _, h => by
    cases h with
    | lst hs ha => exact .lst (sql_chgI hq c hs) (dps_chgI hq c ds _ ha)
  | .tuple ds, _, h => by
    cases h with
    | tup hs ha => exact .tup (sqt_chgI hq c hs) (dps_chgI hq c ds _ ha)
theorem dps_chgI {H H' : Hp} {q D dx : Addr} {fs : List (Str × V)} (hq : H q = some (.ins D dx fs)) (c : Chg q H H') : ∀ (ds : List PyData) (vs : List V), DpAll K H vs ds → DpAll K H' vs ds
  | [], _, h => by cases h; exact .nil
  | d :: ds, _, h => by
    cases h with
    | cons h1 h2 => exact .cons (dp_chgI hq c d _ h1) (dps_chgI hq c ds _ h2)
end
def spKInit (K : PySem.W.Frag) (CK : Addr) : Sp := fun vs H Q _ => ∃ (p dx sv ln : Addr) (r : Int) (ys : List V) (S : List (Int × Int)) (ns : List Int), vs = [.ref p, .int r, .ref sv, .ref ln] ∧ H p = some (.ins CK dx []) ∧ SqL K H sv ys ∧ DpAll K H ys (S.map pairD) ∧ SqL K H ln (ns.map V.int) ∧
  (S.map (·.1)).Nodup ∧ S.length ≤ 60 ∧ ns.length ≤ 1000 ∧ ∀ d l H', H d = none → H l = none → d ≠ p → l ≠ p → d ≠ l → Chg p H H' → KeyAt H' CK p dx r d l S ns → Q .non H'
theorem keF_made0 (r : Int) (d l : Addr) : putF "_line" (.ref l) (putF "_served" (.ref d) (putF "round" (.int r) [])) = keF r d l := keF_made r d l
theorem sc_Key__init : FnScope ["self", "of_round", "served", "line", "member", "number"] ["self", "of_round", "served", "line"] (defScope s_Key__init) :=
  ⟨rfl, rfl, rfl, by decide +kernel, rfl, by decide +kernel, by decide +kernel⟩
theorem ok_kinit (F : Fun K "__init__" "Key.__init__" s_Key__init f fd) (hL : mg "list" = none) (T : KeyT K CK) : FnOk P w K mg base CX0 1 f fd ["self", "of_round", "served", "line"] (spKInit K CK) := by
  refine F.ok sc_Key__init (fun vs H Q E h => ?_) (fun cdv A outer s H vs Q E hr h => ?_)
  · obtain ⟨p, dx, sv, ln, r, ys, S, ns, rfl, _⟩ := h
    rfl
  obtain ⟨p, dx, sv, ln, r, ys, S, ns, rfl, hp, qS, dS, qL, nd, l60, l2, q⟩ := h
  refine ⟨_, (pss_cons (ps_fld (pv 0) (pv 1) rfl)
    (pss_cons (ps_fld (pv 0) (pe_dc (own := [("member", 4), ("number", 5)]) (g := gTup K 2 (gCons (gName 4) (gCons (gName 5) gNil))) (tt := tYes) (by rfl) sc_Key__init.nd (pi_list (pv 2)) (blkOk_by (N := ["self", "of_round", "served", "line", "member", "number"]) (sc := defScope s_Key__init) (by decide +kernel)) (fun _ _ _ _ _ => pg_tup (by rfl) (pgs_cons (pg_name (i := 4) sc_Key__init.nd rfl (Or.inl rfl)) (pgs_cons (pg_name (i := 5) sc_Key__init.nd rfl (Or.inl rfl)) pgs_nil))) (fun _ _ _ _ _ => pts_nil) (fun _ _ _ _ _ => (pv 4)) (fun _ _ _ _ _ => (pv 5))) rfl)
    (pss_one (ps_fld (pv 0) (pe_callTy call_list_of (by rfl) hL (by decide +kernel) (pa_cons (pv 3) pa_nil)) rfl)))), ?_⟩
  refine ⟨_, rfl, _, rfl, p, CK, dx, _, rfl, hp, T.cl, T.round, (by show 0 < 1000; decide), ?_⟩
  obtain ⟨H1, e1⟩ : ∃ H1, H1 = upd H p (.ins CK dx (putF "round" (.int r) [])) := ⟨_, rfl⟩
  have c1 : Chg p H H1 := by rw [e1]; exact Chg.self
  have hp1 : H1 p = some (.ins CK dx (putF "round" (.int r) [])) := by rw [e1]; exact upd_same
  rw [← e1]
  have qS1 := sql_chgI hp c1 qS
  have dS1 := dps_chgI hp c1 _ _ dS
  have lS : ys.length = S.length := by rw [dps_len dS, List.length_map]
  refine ⟨_, rfl, sv, rfl, ⟨_, qS1⟩, fun D hD => ?_⟩
  refine dc_list (K := K) (a := sv) (xs := ys) (fun i G => Same H1 G ∧ G D = some (.dK ((S.take i).map entI))) ⟨same_upd hD, upd_same⟩ (fun i G h => h.1.seq qS1) ?_ ?_
  · rintro i x G hx ⟨sG, kD⟩
    obtain ⟨pr, er, dp⟩ := dps_at' dS1 hx
    have li := (List.getElem?_eq_some_iff.mp er).1
    obtain ⟨t, v1, v2, rfl, qt, d1, d2⟩ := two_dp dp
    cases d1
    cases d2
    refine ⟨t, _, rfl, sqt_same sG qt, rfl, _, _, rfl, _, _, rfl, rfl, rfl, yes_ite ?_⟩
    refine ⟨_, rfl, _, rfl, _, Sum.inl pr.1, rfl, kD, ?_, fun b o e => ?_, ?_⟩
    · rw [List.length_map]
      refine Nat.lt_of_le_of_lt (List.length_take_le _ _) (Nat.lt_of_lt_of_le (show i < 100 by omega) (by decide))
    · rw [upd_ne (ne_of_none e hD)]
      exact sG _ _ e
    · have nin : pr.1 ∉ (S.take i).map (·.1) := fun z => by
        rw [List.map_take] at z
        obtain ⟨j, lj, ej⟩ := List.mem_take_iff_getElem.mp z
        have lj' : j < i := by omega
        have h2 : (S.map (·.1))[i]? = some pr.1 := by rw [List.getElem?_map, er]; rfl
        have h1 : (S.map (·.1))[j]? = some pr.1 := by rw [List.getElem?_eq_getElem (by omega), ej]
        have := (List.getElem?_inj (by rw [List.length_map]; omega) nd).mp (h1.trans h2.symm)
        omega
      rw [putK_new _ (ent_none nin), List.take_succ, er, List.map_append]
      exact upd_same
  rintro G ⟨sG, kD⟩
  rw [lS, List.take_length] at kD
  have hpG := sG _ _ hp1
  have Dp : D ≠ p := (ne_of_none hp1 hD).symm
  refine ⟨_, rfl, p, CK, dx, _, rfl, hpG, T.cl, T.served, (by show 1 < 1000; decide), ?_⟩
  obtain ⟨H2, e2⟩ : ∃ H2, H2 = upd G p (.ins CK dx (putF "_served" (.ref D) (putF "round" (.int r) []))) := ⟨_, rfl⟩
  rw [← e2]
  have c2 : Chg p H H2 := fun b o nb e => by
    rw [e2, upd_ne nb]
    exact sG _ _ (c1 _ _ nb e)
  have hp2 : H2 p = some (.ins CK dx (putF "_served" (.ref D) (putF "round" (.int r) []))) := by rw [e2]; exact upd_same
  have kD2 : H2 D = some (.dK (S.map entI)) := by rw [e2, upd_ne Dp]; exact kD
  refine ⟨_, rfl, ln, _, rfl, .inl (sql_chgI hp c2 qL), fun l hl => ?_⟩
  have lp : l ≠ p := (ne_of_none hp2 hl).symm
  have lD : D ≠ l := ne_of_none kD2 hl
  refine ⟨_, rfl, p, CK, dx, _, rfl, (upd_ne lp.symm).trans hp2, T.cl, T.line, (by show 2 < 1000; decide), ?_⟩
  rw [keF_made0]
  have back : ∀ {x : Addr}, x ≠ p → H2 x = none → H x = none := fun n h => by
    cases z : H _ with
    | none => rfl
    | some o => rw [c2 _ _ n z] at h; cases h
  have D0 : H D = none := by
    cases z : H D with
    | none => rfl
    | some o => rw [c1 _ _ Dp z] at hD; cases hD
  refine q D l _ D0 (back lp hl) Dp lp lD (fun b o nb e => ?_) ⟨upd_same, ?_, ?_, nd, l60, l2⟩
  · rw [upd_ne nb, upd_ne (ne_of_none (c2 _ _ nb e) hl)]
    exact c2 _ _ nb e
  · rw [upd_ne Dp, upd_ne lD]; exact kD2
  · rw [upd_ne lp]; exact upd_same
/-! ### told -/
def toldD (r : Int) (S : List (Int × Int)) (ns : List Int) : PyData := .tuple [.int r, .tuple (S.map pairD), .tuple (ns.map PyData.int)]
def spTold (K : PySem.W.Frag) (CK : Addr) : Sp := fun vs H Q _ => ∃ (k dk : Addr) (r : Int) (d l : Addr) (S : List (Int × Int)) (ns : List Int), vs = [.ref k] ∧ KeyAt H CK k dk r d l S ns ∧
  ∀ (t : Addr) (S' : List (Int × Int)) H', Same H H' → S'.Perm S → (S'.map (·.1)).Pairwise (· ≤ ·) → Dp K H' (.ref t) (toldD r S' ns) → Q (.ref t) H'
def valI (S : List (Int × Int)) (m : Int) : Int := match valV (S.map entI) (Sum.inl m) with | some (.int v) => v | _ => 0
theorem back_perm {S : List (Int × Int)} (nd : (S.map (·.1)).Nodup) {ks : List Int} (pe : ks.Perm (S.map (·.1))) : (ks.map fun m => (m, valI S m)).Perm S := by
  have e : (S.map (·.1)).map (fun m => (m, valI S m)) = S := by
    rw [List.map_map]
    refine (List.map_congr_left (g := id) fun p hp => ?_).trans (List.map_id S)
    show (p.1, valI S p.1) = p
    unfold valI
    rw [ent_some nd hp]
  have := pe.map (fun m => (m, valI S m))
  rwa [e] at this
theorem lc_intsP {K : PySem.W.Frag} {H : Hp} : True := trivial
theorem sc_Key_told : FnScope ["self", "served", "member"] ["self"] (defScope s_Key_told) :=
  ⟨rfl, rfl, rfl, by decide +kernel, rfl, by decide +kernel, by decide +kernel⟩
theorem ok_told (F : Fun K "told" "Key.told" s_Key_told f fd) (T : BlK71 mg) (KT : KeyT K CK) : FnOk P w K mg base CX0 1 f fd ["self"] (spTold K CK) := by
  refine F.ok sc_Key_told (fun vs H Q E h => ?_) (fun cdv A outer s H vs Q E hr h => ?_)
  · obtain ⟨k, dk, r, d, l, S, ns, rfl, _⟩ := h
    rfl
  obtain ⟨k, dk, r, d, l, S, ns, rfl, A0, q⟩ := h
  refine ⟨_, (pss_cons (ps_set (i := 1) sc_Key_told.nd rfl (Or.inl rfl) (pe_callTy call_tuple_of (by rfl) T.tuple (by decide +kernel) (pa_cons (pe_lc (own := [("member", 2)]) (g := gName 2) (tt := tYes) (by rfl) sc_Key_told.nd (pi_list (pe_callB (call_sortedDI (by rfl)) (by rfl) T.sorted (by decide +kernel) (pa_cons (pe_fld (pv 0) (by rfl)) pa_nil))) (blkOk_by (N := ["self", "served", "member"]) (sc := defScope s_Key_told) (by decide +kernel)) (fun _ _ _ _ _ => pg_name (i := 2) sc_Key_told.nd rfl (Or.inl rfl)) (fun _ _ _ _ _ => pts_nil) (fun _ _ _ _ _ => (pe_tup (pa_cons (pv 2) (pa_cons (pe_dget (hu_of hr) (pe_fldK K (pv 0)) (pv 2) (fun _ _ => rfl)) pa_nil))))) pa_nil)))
    (pss_one (ps_ret (pe_tup (pa_cons (pe_fld (pv 0) (by rfl)) (pa_cons (pv 1) (pa_cons (pe_callTy call_tuple_of (by rfl) T.tuple (by decide +kernel) (pa_cons (pe_fld (pv 0) (by rfl)) pa_nil)) pa_nil))))))), ?_⟩
  refine ⟨_, rfl, k, CK, dk, _, _, rfl, A0.hp, KT.cl, KT.served, keF_srv _ _ _, d, _, S.map (·.1), rfl, .inl A0.hd, ?_, ?_, fun ks p pe up hp => ?_⟩
  · rw [List.map_map, List.map_map]
    rfl
  · rw [List.length_map]
    have := A0.few
    omega
  have s1 := same_upd (o := .lst (ks.map V.int)) hp
  have lk : ks.length ≤ 60 := by rw [pe.length_eq, List.length_map]; exact A0.few
  refine ⟨p, rfl, ⟨_, SqL.of upd_same⟩, fun D hD => ?_⟩
  refine lc_list (K := K) (a := p) (xs := ks.map V.int) (fun i G => Same (upd H p (.lst (ks.map V.int))) G ∧ ∃ zs, zs.length = i ∧ G D = some (.lst zs) ∧ DpAll K G zs (((ks.take i).map fun m => (m, valI S m)).map pairD)) ⟨same_upd hD, [], rfl, upd_same, .nil⟩ (fun i G _ h => SqL.of (h.1 _ _ upd_same)) ?_ ?_
  · rintro i x G hx ⟨sG, zs, lz, kD, dz⟩
    obtain ⟨m, em, rfl⟩ := ints_at hx
    have li := (List.getElem?_eq_some_iff.mp em).1
    have AG := (A0.same s1).same sG
    have ms : m ∈ S.map (·.1) := pe.mem_iff.mp (List.mem_of_getElem? em)
    obtain ⟨pr, hpr, rfl⟩ := List.mem_map.mp ms
    have ev := ent_some A0.nd hpr
    have ev2 : valI S pr.1 = pr.2 := by unfold valI; rw [ev]
    refine ⟨rfl, lc_yes ?_⟩
    refine ⟨_, rfl, _, rfl, k, CK, dk, _, _, rfl, AG.hp, KT.cl, KT.served, keF_srv _ _ _, _, rfl, d, _, rfl, (by rw [← ev]; exact DGet.k (k := Sum.inl pr.1) AG.hd), by show 2 ≤ sizeLine; decide, fun u hu => ?_⟩
    have s3 := same_upd (o := .tup [.int pr.1, .int pr.2]) hu
    have kD3 := s3 _ _ kD
    refine ⟨_, kD3, Nat.lt_of_lt_of_le (show zs.length < 100 by omega) (by decide), fun c o e => ?_, zs ++ [.ref u], by rw [List.length_append, lz]; rfl, upd_same, ?_⟩
    · rw [upd_ne (ne_of_none e hD)]
      exact s3 _ _ (sG _ _ e)
    · refine dps_chg ⟨_, kD3⟩ Chg.self _ _ (noLs_pairs _) ?_
      rw [List.take_succ, em, List.map_append, List.map_append]
      refine dps_app (dps_same s3 _ _ dz) (.cons (.tup (SqT.of upd_same) (.cons (.int _) (.cons ?_ .nil))) .nil)
      show Dp K _ (V.int pr.2) (PyData.int (valI S pr.1))
      rw [ev2]
      exact .int _
  rintro G ⟨sG, zs, lz, kD, dz⟩
  rw [List.length_map, List.take_length] at dz
  have AG := (A0.same s1).same sG
  refine ⟨D, zs, rfl, .inl ⟨SqL.of kD, fun u hu => ?_⟩⟩
  have s4 := same_upd (o := .tup zs) hu
  have A4 := AG.same s4
  refine ⟨_, rfl, k, CK, dk, _, _, rfl, A4.hp, KT.cl, KT.round, keF_rnd _ _ _, _, rfl, _, rfl, k, CK, dk, _, _, rfl, A4.hp, KT.cl, KT.line, keF_lin _ _ _, l, _, rfl, .inl ⟨SqL.of A4.hl, fun v hv => ?_⟩⟩
  have s5 := same_upd (o := .tup (ns.map V.int)) hv
  refine ⟨by show 3 ≤ sizeLine; decide, fun t ht => ?_⟩
  have s6 := same_upd (o := .tup [.int r, .ref u, .ref v]) ht
  refine q t (ks.map fun m => (m, valI S m)) _ ((((s1.trans sG).trans s4).trans s5).trans s6) (back_perm A0.nd pe) ?_ ?_
  · rw [List.map_map]
    have e : ((fun x : Int × Int => x.1) ∘ fun m => (m, valI S m)) = id := rfl
    rw [e, List.map_id]
    exact up
  · exact .tup (SqT.of upd_same) (.cons (.int _) (.cons (.tup (SqT.of (s6 _ _ (s5 _ _ upd_same))) (dps_same ((s4.trans s5).trans s6) _ _ dz)) (.cons (.tup (SqT.of (s6 _ _ upd_same)) (dps_ints _)) .nil)))
end

end G0
namespace G0
open PySem PySem.Spec PyProof.Rows L2 NdefX ClX
section
variable {P : Program} {w : World} {K : PySem.W.Frag} {mg : Str → Option Value} {base : Heap} {C CK f : Addr} {fd : FuncData}
/-! ### Seat.__init__, of an object of a class under it -/
def seatG (m : Int) : List (Str × V) := [("me", .int m), ("state", .str "out"), ("sits", .bl false)]
theorem seatG_made (m : Int) : putF "sits" (.bl false) (putF "state" (.str "out") (putF "me" (.int m) [])) = seatG m := by
  simp only [putF, seatG, n_caF_me_stt, n_caF_me_sits, n_caF_stt_sits, if_false, if_true]
def spSeat0 (C : Addr) : Sp := fun vs H Q _ => ∃ (p dx : Addr) (m : Int), vs = [.ref p, .int m] ∧ H p = some (.ins C dx []) ∧ Q .non (upd H p (.ins C dx (seatG m)))
theorem sc_Seat__init : FnScope ["self", "me"] ["self", "me"] (defScope s_Seat__init) :=
  ⟨rfl, rfl, rfl, by decide +kernel, rfl, by decide +kernel, by decide +kernel⟩
theorem ok_seat0 {f : Addr} {fd : FuncData} (F : Fun K "__init__" "Seat.__init__" s_Seat__init f fd) (c : Cls K C) (n1 : NoAttr K C "me") (n2 : NoAttr K C "state") (n3 : NoAttr K C "sits") : FnOk P w K mg base CX0 1 f fd ["self", "me"] (spSeat0 C) := by
  refine F.ok sc_Seat__init (fun vs H Q E h => ?_) (fun cdv A outer s H vs Q E hr h => ?_)
  · obtain ⟨p, dx, m, rfl, _⟩ := h
    rfl
  obtain ⟨p, dx, m, rfl, hp, q⟩ := h
  refine ⟨_, (pss_cons (ps_fld (pv 0) (pv 1) rfl)
    (pss_cons (ps_fld (pv 0) pe_str rfl)
    (pss_one (ps_fld (pv 0) pe_bl rfl)))), ?_⟩
  refine ⟨_, rfl, _, rfl, p, C, dx, _, rfl, hp, c, n1, (by show 0 < 1000; decide), ?_⟩
  refine ⟨_, rfl, p, C, dx, _, rfl, upd_same, c, n2, (by show 1 < 1000; decide), ?_⟩
  refine ⟨_, rfl, p, C, dx, _, rfl, upd_same, c, n3, (by show 2 < 1000; decide), ?_⟩
  rw [upd_upd, upd_upd, seatG_made]
  exact q
theorem fnR_of {k : Nat} {f : Addr} {fd : FuncData} {ps : List Str} {sp : Sp} (F : FnOk P w K mg base CX0 k f fd ps sp) (b : Binds K fd ps []) : FnR P w K mg base CX0 k f sp :=
  fun A outer s H us vs Q E hr e0 r h => by
    have hl : (us ++ []).length = ps.length := by rw [List.append_nil, ← r.length]; exact F.len _ _ _ _ h
    have KX : K.In s.heap := e0.mod.kin.keeps fun b o z => (e0.bs b o z).1
    have bt := b s us KX hl
    rw [List.append_nil] at bt
    exact F.run A outer s H ⟨us, []⟩ us vs Q E hr e0 bt r h
/-! ### a caller -/
structure BlC71 (mg : Str → Option Value) : Prop where
  len : mg "len" = none
  range : mg "range" = none
  list : mg "list" = none
  tuple : mg "tuple" = none
  sorted : mg "sorted" = none
  isinstance : mg "isinstance" = none
  int : mg "int" = none
  bool : mg "bool" = none
structure CalT (K : PySem.W.Frag) (C : Addr) : Prop where
  cl : Cls K C
  me : NoAttr K C "me"
  state : NoAttr K C "state"
  sits : NoAttr K C "sits"
  round : NoAttr K C "round"
  roster : NoAttr K C "_roster"
  numbers : NoAttr K C "_numbers"
  key : NoAttr K C "_key"
  begun : NoAttr K C "_begun"
  pledges : NoAttr K C "_pledges"
structure CalAt (H : Hp) (C q dx : Addr) (me : Int) (st : Str) (rnd : Int) (ro nu : Addr) (key bg : V) (pl : Addr) (rs ms : List Int) (ps : List (Key × V)) : Prop where
  hp : H q = some (.ins C dx (caF me st false rnd ro nu key bg pl))
  hr : H ro = some (.lst (rs.map V.int))
  hn : H nu = some (.lst (ms.map V.int))
  hpl : H pl = some (.dK ps)
theorem CalAt.same {H H' : Hp} {q dx : Addr} {me : Int} {st : Str} {rnd : Int} {ro nu : Addr} {key bg : V} {pl : Addr} {rs ms : List Int} {ps : List (Key × V)} (A : CalAt H C q dx me st rnd ro nu key bg pl rs ms ps) (s : Same H H') : CalAt H' C q dx me st rnd ro nu key bg pl rs ms ps :=
  ⟨s _ _ A.hp, s _ _ A.hr, s _ _ A.hn, s _ _ A.hpl⟩
def rangeI (n : Int) : List Int := (List.range n.toNat).map fun x : Nat => (x : Int)
def zeros (n : Int) : List Int := List.replicate n.toNat 0
def freshS (n : Int) : List (Int × Int) := (rangeI n).map fun m => (m, 0)
/-- the key of a new caller: none, or that of round 0 -/
def FreshKey (H : Hp) (CK : Addr) (n : Int) (key : V) (b : Bool) (Z : Addr → Prop) : Prop := if b = true then ∃ k dk d l, key = .ref k ∧ KeyAt H CK k dk 0 d l (freshS n) [] ∧ Z l else key = .non
theorem FreshKey.same {H H' : Hp} {n : Int} {key : V} {b : Bool} {Z : Addr → Prop} (h : FreshKey H CK n key b Z) (s : Same H H') : FreshKey H' CK n key b Z := by
  unfold FreshKey at h ⊢
  cases b with
  | true =>
    rw [if_pos rfl] at h ⊢
    obtain ⟨k, dk, d, l, e, A, z⟩ := h
    exact ⟨k, dk, d, l, e, A.same s, z⟩
  | false => exact h
theorem caF_end (m : Int) (ro nu : Addr) (key : V) (pl : Addr) : putF "_pledges" (.ref pl) (putF "_begun" .non (putF "_key" key (putF "_numbers" (.ref nu) (putF "_roster" (.ref ro) (putF "round" (.int 0) (seatG m)))))) = caF m "out" false 0 ro nu key .non pl :=
  caF_made m "out" false 0 ro nu key .non pl
theorem FreshKey.imp {H : Hp} {n : Int} {key : V} {b : Bool} {Z : Addr → Prop} (h : FreshKey H CK n key b Z) : FreshKey H CK n key b (fun _ => True) := by
  unfold FreshKey at h ⊢
  cases b with
  | true =>
    rw [if_pos rfl] at h ⊢
    obtain ⟨k, dk, d, l, e, A, z⟩ := h
    exact ⟨k, dk, d, l, e, A, trivial⟩
  | false => exact h
theorem putF_twice (x : Str) (a b : V) (fs : List (Str × V)) : putF x b (putF x a fs) = putF x b fs := by
  induction fs with
  | nil => simp [putF]
  | cons p fs ih =>
    obtain ⟨y, v⟩ := p
    by_cases c : y = x
    · simp [putF, c]
    · simp only [putF, c, if_false, ih]
theorem rgV_range {n : Int} : rgV 0 n = (rangeI n).map V.int := by
  unfold rgV rangeI
  rw [List.map_map, Int.sub_zero]
  refine List.map_congr_left fun i _ => ?_
  show V.int (0 + (i : Int)) = V.int (i : Int)
  rw [Int.zero_add]
theorem flat_zero : ∀ k : Nat, (List.replicate k [V.int 0]).flatten = (List.replicate k (0 : Int)).map V.int
  | 0 => rfl
  | k + 1 => by
    rw [List.replicate_succ, List.flatten_cons, flat_zero k, List.replicate_succ, List.map_cons]
    rfl
theorem rangeI_len {n : Int} : (rangeI n).length = n.toNat := by unfold rangeI; rw [List.length_map, List.length_range]
theorem freshS_fst (n : Int) : (freshS n).map (·.1) = rangeI n := by
  unfold freshS
  rw [List.map_map]
  exact List.map_id _
theorem rangeI_nd (n : Int) : (rangeI n).Nodup := List.pairwise_map.mpr (List.Pairwise.imp (fun h e => h (by omega)) List.nodup_range)
theorem KeyAt.chg {H H' : Hp} {k dk p D dx : Addr} {fs : List (Str × V)} {r : Int} {d l : Addr} {S : List (Int × Int)} {ns : List Int} (A : KeyAt H CK k dk r d l S ns) (hp : H p = some (.ins D dx fs)) (n : k ≠ p) (c : Chg p H H') : KeyAt H' CK k dk r d l S ns :=
  { A with hp := c _ _ n A.hp, hd := c _ _ (ne_of A.hd hp (by intro z; cases z)) A.hd, hl := c _ _ (ne_of A.hl hp (by intro z; cases z)) A.hl }
def spCInit (K : PySem.W.Frag) (C CK : Addr) : Sp := fun vs H Q _ => ∃ (p dx : Addr) (m n a : Int), vs = [.ref p, .int m, .int n, .int a] ∧ H p = some (.ins C dx []) ∧ 1 ≤ n ∧ n ≤ 60 ∧
  ∀ (ro nu pl : Addr) (key : V) H', Chg p H H' → H ro = none → H nu = none → H pl = none → CalAt H' C p dx m "out" 0 ro nu key .non pl (rangeI n) (zeros n) [] → FreshKey H' CK n key (decide (m = a)) (fun l => H l = none) → Q .non H'
/-- the last two fields -/
theorem cinit_end {H G : Hp} {p dx ro nu pl : Addr} {m n : Int} {key : V} {b : Bool} {Z : Addr → Prop} {Q : VK} {fs : List (Str × V)} (efs : fs = putF "_key" key (putF "_numbers" (.ref nu) (putF "_roster" (.ref ro) (putF "round" (.int 0) (seatG m)))))
    (c : Chg p H G) (kp : G p = some (.ins C dx fs)) (kr : G ro = some (.lst ((rangeI n).map V.int))) (kn : G nu = some (.lst ((zeros n).map V.int))) (fk : FreshKey G CK n key b Z) (nk : key ≠ .ref p)
    (hpl : upd G p (.ins C dx (putF "_begun" .non fs)) pl = none) (ro0 : H ro = none) (nu0 : H nu = none)
    (q : ∀ (pl : Addr) (key : V) H', Chg p H H' → H pl = none → CalAt H' C p dx m "out" 0 ro nu key .non pl (rangeI n) (zeros n) [] → FreshKey H' CK n key b Z → Q .non H') :
    Q .non (upd (upd (upd G p (.ins C dx (putF "_begun" .non fs))) pl (.dK [])) p (.ins C dx (putF "_pledges" (.ref pl) (putF "_begun" .non fs)))) := by
  have pp : pl ≠ p := fun z => by rw [z, upd_same] at hpl; cases hpl
  have hplG : G pl = none := by rw [upd_ne pp] at hpl; exact hpl
  have rp : ro ≠ p := ne_of kr kp (by intro z; cases z)
  have np : nu ≠ p := ne_of kn kp (by intro z; cases z)
  have rl : ro ≠ pl := ne_of_none kr hplG
  have nl : nu ≠ pl := ne_of_none kn hplG
  have cc : Chg p G (upd (upd (upd G p (.ins C dx (putF "_begun" .non fs))) pl (.dK [])) p (.ins C dx (putF "_pledges" (.ref pl) (putF "_begun" .non fs)))) := fun b o nb e => by
    rw [upd_ne nb, upd_ne (ne_of_none e hplG), upd_ne nb]; exact e
  refine q pl key _ (c.trans cc) (Chg.back c hplG pp) ⟨?_, cc _ _ rp kr, cc _ _ np kn, by rw [upd_ne pp, upd_same]⟩ ?_
  · rw [upd_same, efs, caF_end]
  · unfold FreshKey at fk ⊢
    cases b with
    | true =>
      rw [if_pos rfl] at fk ⊢
      obtain ⟨k, dk, d, l, e, A, z⟩ := fk
      exact ⟨k, dk, d, l, e, A.chg kp (fun z => nk (by rw [e, z])) cc, z⟩
    | false => exact fk
theorem ok_cinit {f cc cda D f2 fK : Addr} {fdK : FuncData} {dV kV doc pm ct oc cl : Value} {v : Option Value} {an od cld : Option Addr} {osl csl : Array (Option Value)} (T : BlC71 mg)
    (lk : K.lookup f = some ⟨oc, od, .func (PySem.W.ksFn "__init__" "Caller.__init__" (defArgs s_Caller__init) (defBody s_Caller__init) (defScope s_Caller__init) dV kV doc pm an (.ref cda) ct cc), osl⟩)
    (coded : PySem.W.codeIn K (.ref cda) "Caller.__init__" = true) (lc : K.lookup cc = some ⟨cl, cld, .cell v, csl⟩)
    (F : SupF P K ["self", "me", "seats", "first", "__class__", "seat"] f cc cda D (PySem.W.ksFn "__init__" "Caller.__init__" (defArgs s_Caller__init) (defBody s_Caller__init) (defScope s_Caller__init) dV kV doc pm an (.ref cda) ct cc) (defArgs s_Caller__init) (defScope s_Caller__init))
    (F2 : FnR P w K mg base CX0 1 f2 (spSeat0 C)) (S : CalT K C) (mro : PySem.W.mroIn K C (.ref D) = some true) (su : PySem.W.ks_superIn K C D "__init__" = some (some (.ref f2))) (ty : PySem.W.typeIn K (.ref f2) = some (.type "function")) (fi : PySem.W.fnIn K f2 = true)
    (KKm : Mk K CK fK) (GK : FnOk P w K mg base CX0 1 fK fdK ["self", "of_round", "served", "line"] (spKInit K CK)) (bK : Binds K fdK ["self", "of_round", "served", "line"] []) (gK : mg "Key" = some (.ref CK)) :
    FnOk P w K mg base CX0 3 f (PySem.W.ksFn "__init__" "Caller.__init__" (defArgs s_Caller__init) (defBody s_Caller__init) (defScope s_Caller__init) dV kV doc pm an (.ref cda) ct cc) ["self", "me", "seats", "first"] (spCInit K C CK) := by
  have NS : NScope ["self", "me", "seats", "first", "__class__", "seat"] ["self", "me", "seats", "first"] ["__class__"] (defScope s_Caller__init) := nscope_by (by decide +kernel)
  refine fnS_of lk coded lc NS ?_ fun A outer s H vs Q E hr h => ?_
  · rintro vs H Q E ⟨p, dx, m, n, a, rfl, _⟩
    rfl
  obtain ⟨p, dx, m, n, a, rfl, hp, n0, n1, q⟩ := h
  refine ⟨_, _, p1_supM F F2 (hr.mono (by decide)) (pa_cons (pv 1 (by rfl) (.inl (NS.par _ (by simp)))) pa_nil), (pss_cons (ps_fld (pv 0) pe_int rfl)
    (pss_cons (ps_fld (pv 0) (pe_listRg (by rfl) (by rfl) T.list (prg_1 (by rfl) T.range (pv 2))) rfl)
    (pss_cons (ps_fld (pv 0) (pe_op op_rep (pe_lst (pa_cons pe_int pa_nil)) (pv 2)) rfl)
    (pss_cons (ps_fld (pv 0) pe_non rfl)
    (pss_cons (ps_if (pt_cmpR op_eq (pv 1) (pv 3) (nomark _))
    (pss_one (ps_fld (pv 0) (pe_make KKm GK hr (by rfl) gK bK .nil pass0 (pa_cons pe_int (pa_cons (pe_lc (own := [("seat", 5)]) (g := gName 5) (tt := tYes) (by rfl) NS.nd (pi_range1 (by rfl) T.range (pa_cons (pv 2) pa_nil)) (blkOk_by (N := ["self", "me", "seats", "first", "__class__", "seat"]) (sc := defScope s_Caller__init) (by decide +kernel)) (fun _ _ _ _ _ => pg_name (i := 5) NS.nd rfl (Or.inl rfl)) (fun _ _ _ _ _ => pts_nil) (fun _ _ _ _ _ => (pe_tup (pa_cons (pv 5) (pa_cons pe_int pa_nil))))) (pa_cons (pe_lst pa_nil) pa_nil)))) rfl))
    pss_nil)
    (pss_cons (ps_fld (pv 0) pe_non rfl)
    (pss_one (ps_fld (pv 0) pe_dnewK rfl)))))))), ?_⟩
  have p0 : H p ≠ none := by rw [hp]; exact fun z => nomatch z
  refine ⟨p, C, dx, [], rfl, hp, mro, su, ty, fi, _, rfl, p, dx, m, rfl, hp, ?_⟩
  refine ⟨_, rfl, p, C, dx, _, rfl, upd_same, S.cl, S.round, (by show 3 < 1000; decide), ?_⟩
  rw [upd_upd]
  obtain ⟨H1, e1⟩ : ∃ H1, H1 = upd H p (.ins C dx (putF "round" (.int 0) (seatG m))) := ⟨_, rfl⟩
  have c1 : Chg p H H1 := by rw [e1]; exact Chg.self
  have k1 : H1 p = some (.ins C dx (putF "round" (.int 0) (seatG m))) := by rw [e1]; exact upd_same
  rw [← e1]
  clear e1
  refine ⟨_, rfl, n, rfl, RgOk.of_le (by decide) (by omega) (by decide) (by omega), fun ro hro => ?_⟩
  have rp : ro ≠ p := (ne_of_none k1 hro).symm
  have c2 : Chg p H (upd H1 ro (.lst (rgV 0 n))) := c1.trans (Chg.same (same_upd hro))
  refine ⟨_, rfl, p, C, dx, _, rfl, (upd_ne rp.symm).trans k1, S.cl, S.roster, (by show 4 < 1000; decide), ?_⟩
  obtain ⟨H2, e2⟩ : ∃ H2, H2 = upd (upd H1 ro (.lst (rgV 0 n))) p (.ins C dx (putF "_roster" (.ref ro) (putF "round" (.int 0) (seatG m)))) := ⟨_, rfl⟩
  have c3 : Chg p H H2 := by rw [e2]; exact c2.trans Chg.self
  have k2 : H2 p = some (.ins C dx (putF "_roster" (.ref ro) (putF "round" (.int 0) (seatG m)))) := by rw [e2]; exact upd_same
  have r2 : H2 ro = some (.lst ((rangeI n).map V.int)) := by rw [e2, upd_ne rp, upd_same, rgV_range]
  have ro0 : H ro = none := Chg.back c1 hro rp
  rw [← e2]
  clear e2 c2 c1 k1 hro
  refine ⟨by show 1 ≤ sizeLine; decide, fun z hz => ?_⟩
  refine ⟨_, rfl, z, n, _, rfl, rfl, upd_same, by omega, by omega, ?_, fun nu hnu => ?_⟩
  · rw [List.length_singleton, Nat.one_mul]
    exact Nat.le_trans (show n.toNat ≤ 60 by omega) (by decide)
  have sz := (same_upd (o := .lst [.int 0]) hz).trans (same_upd (o := .lst (List.replicate n.toNat [V.int 0]).flatten) hnu)
  have np : nu ≠ p := (ne_of_none (same_upd hz _ _ k2) hnu).symm
  have rn : ro ≠ nu := ne_of_none (same_upd hz _ _ r2) hnu
  have nu0 : H nu = none := Chg.back c3 ((same_upd hz).free hnu) np
  refine ⟨_, rfl, p, C, dx, _, rfl, sz _ _ k2, S.cl, S.numbers, (by show 5 < 1000; decide), ?_⟩
  obtain ⟨H3, e3⟩ : ∃ H3, H3 = upd (upd (upd H2 z (.lst [.int 0])) nu (.lst (List.replicate n.toNat [V.int 0]).flatten)) p (.ins C dx (putF "_numbers" (.ref nu) (putF "_roster" (.ref ro) (putF "round" (.int 0) (seatG m))))) := ⟨_, rfl⟩
  have c4 : Chg p H H3 := by rw [e3]; exact (c3.trans (Chg.same sz)).trans Chg.self
  have k3 : H3 p = some (.ins C dx (putF "_numbers" (.ref nu) (putF "_roster" (.ref ro) (putF "round" (.int 0) (seatG m))))) := by rw [e3]; exact upd_same
  have r3 : H3 ro = some (.lst ((rangeI n).map V.int)) := by rw [e3, upd_ne rp]; exact sz _ _ r2
  have n3 : H3 nu = some (.lst ((zeros n).map V.int)) := by rw [e3, upd_ne np, upd_same, flat_zero]; rfl
  rw [← e3]
  clear e3 c3 k2 r2 hnu hz sz
  refine ⟨_, rfl, p, C, dx, _, rfl, k3, S.cl, S.key, (by show 6 < 1000; decide), ?_⟩
  obtain ⟨H4, e4⟩ : ∃ H4, H4 = upd H3 p (.ins C dx (putF "_key" .non (putF "_numbers" (.ref nu) (putF "_roster" (.ref ro) (putF "round" (.int 0) (seatG m)))))) := ⟨_, rfl⟩
  have c5 : Chg p H H4 := by rw [e4]; exact c4.trans Chg.self
  have k4 : H4 p = some (.ins C dx (putF "_key" .non (putF "_numbers" (.ref nu) (putF "_roster" (.ref ro) (putF "round" (.int 0) (seatG m)))))) := by rw [e4]; exact upd_same
  have r4 : H4 ro = some (.lst ((rangeI n).map V.int)) := by rw [e4, upd_ne rp]; exact r3
  have n4 : H4 nu = some (.lst ((zeros n).map V.int)) := by rw [e4, upd_ne np]; exact n3
  rw [← e4]
  clear e4 c4 k3 r3 n3
  refine ⟨_, rfl, _, rfl, rfl, _, rfl, ?_⟩
  rw [dec_ii]
  refine ite2 (fun c => ?_) (fun c => ?_)
  · refine ⟨_, rfl, _, rfl, by omega, by omega, fun D hD => ?_⟩
    refine lc_range (lo := 0) (n := n.toNat) (fun i G => Same H4 G ∧ ∃ zs, zs.length = i ∧ G D = some (.lst zs) ∧ DpAll K G zs (((List.range i).map fun x : Nat => ((x : Int), (0 : Int))).map pairD)) ⟨same_upd hD, [], rfl, upd_same, .nil⟩ ?_ ?_
    · rintro i G hi ⟨sG, zs, lz, kD, dz⟩
      refine ⟨rfl, lc_yes ?_⟩
      refine ⟨_, rfl, by show 2 ≤ sizeLine; decide, fun u hu => ?_⟩
      have s3 := same_upd (o := .tup [.int (0 + (i : Int)), .int 0]) hu
      have kD3 := s3 _ _ kD
      refine ⟨_, kD3, Nat.lt_of_lt_of_le (show zs.length < 100 by omega) (by decide), fun c o e => ?_, zs ++ [.ref u], by rw [List.length_append, lz]; rfl, upd_same, ?_⟩
      · rw [upd_ne (ne_of_none e hD)]
        exact s3 _ _ (sG _ _ e)
      · refine dps_chg ⟨_, kD3⟩ Chg.self _ _ (noLs_pairs _) ?_
        rw [List.range_succ, List.map_append, List.map_append]
        exact dps_app (dps_same s3 _ _ dz) (.cons (.tup (SqT.of upd_same) (.cons (by rw [Int.zero_add]; exact .int _) (.cons (.int _) .nil))) .nil)
    rintro G ⟨sG, zs, lz, kD, dz⟩
    refine ⟨Nat.zero_le _, fun e he => ?_⟩
    have s5 := same_upd (o := .lst []) he
    refine fun x dx' hx hdx ne => ?_
    have kp5 := s5 _ _ (sG _ _ k4)
    obtain ⟨H6, e6⟩ : ∃ H6, H6 = upd (upd (upd G e (.lst [])) dx' (.own x)) x (.ins CK dx' []) := ⟨_, rfl⟩
    have s6 : Same H4 H6 := by
      rw [e6]
      exact (sG.trans s5).trans ((same_upd hdx).trans (same_upd (by rw [upd_ne ne.symm]; exact hx)))
    have s6' : Same (upd G e (.lst [])) H6 := by
      rw [e6]
      exact (same_upd hdx).trans (same_upd (by rw [upd_ne ne.symm]; exact hx))
    have kx6 : H6 x = some (.ins CK dx' []) := by rw [e6]; exact upd_same
    rw [← e6]
    clear e6
    have ds6 : DpAll K H6 zs ((freshS n).map pairD) := by
      have := dps_same s6' _ _ (dps_same s5 _ _ dz)
      unfold freshS rangeI
      rw [List.map_map (g := fun m : Int => (m, (0 : Int)))]
      exact this
    refine ⟨x, dx', D, e, 0, zs, freshS n, [], rfl, kx6, SqL.of (s6' _ _ (s5 _ _ kD)), ds6, SqL.of (s6' _ _ upd_same), ?_, ?_, by show 0 ≤ 1000; decide, fun d l H7 hd hl dne lne dl c7 KA => ⟨rfl, ?_⟩⟩
    · rw [freshS_fst]; exact rangeI_nd n
    · unfold freshS
      rw [List.length_map, rangeI_len]; omega
    have px : p ≠ x := ne_of_none kp5 hx
    have k7 := c7 _ _ px (s6 _ _ k4)
    refine ⟨_, rfl, p, C, dx, _, rfl, k7, S.cl, S.key, (by show 7 < 1000; decide), ?_⟩
    rw [putF_twice]
    refine ⟨_, rfl, p, C, dx, _, rfl, upd_same, S.cl, S.begun, (by show 7 < 1000; decide), ?_⟩
    have rx : ro ≠ p := rp
    have c9 : Chg p H7 (upd H7 p (.ins C dx (putF "_key" (.ref x) (putF "_numbers" (.ref nu) (putF "_roster" (.ref ro) (putF "round" (.int 0) (seatG m))))))) := Chg.self
    have rr : ro ≠ x := ne_of (s6 _ _ r4) kx6 (by intro z; cases z)
    have nr : nu ≠ x := ne_of (s6 _ _ n4) kx6 (by intro z; cases z)
    refine fun pl hpl => ?_
    have pp : pl ≠ p := fun z => by rw [z, upd_same] at hpl; cases hpl
    refine ⟨_, rfl, p, C, dx, _, rfl, (upd_ne pp.symm).trans upd_same, S.cl, S.pledges, (by show 8 < 1000; decide), ?_⟩
    have x4 : H4 x = none := (sG.trans s5).free hx
    have c7' : Chg p H H7 := fun b o nb e => c7 _ _ (ne_of_none (c5 _ _ nb e) x4) (s6 _ _ (c5 _ _ nb e))
    have ct : decide (m = a) = true := c
    refine cinit_end (b := decide (m = a)) (Z := fun l => H l = none) rfl (c7'.trans c9) upd_same ((upd_ne rp).trans (c7 _ _ rr (s6 _ _ r4))) ((upd_ne np).trans (c7 _ _ nr (s6 _ _ n4))) ?_ (fun z => px (V.ref.inj z).symm) hpl ro0 nu0 fun pl key H' a1 a2 a3 a4 => q ro nu pl key H' a1 ro0 nu0 a2 a3 a4
    · unfold FreshKey
      rw [ct, if_pos rfl]
      exact ⟨x, dx', d, l, rfl, KA.chg k7 px.symm c9, Chg.back c5 (s6.free hl) (ne_of_none (s6 _ _ k4) hl).symm⟩
  · refine ⟨_, rfl, p, C, dx, _, rfl, k4, S.cl, S.begun, (by show 7 < 1000; decide), ?_⟩
    refine fun pl hpl => ?_
    have pp : pl ≠ p := fun z => by rw [z, upd_same] at hpl; cases hpl
    refine ⟨_, rfl, p, C, dx, _, rfl, (upd_ne pp.symm).trans upd_same, S.cl, S.pledges, (by show 8 < 1000; decide), ?_⟩
    have cf : decide (m = a) = false := by simpa using c
    exact cinit_end (b := decide (m = a)) (Z := fun l => H l = none) rfl c5 k4 r4 n4 (by unfold FreshKey; rw [cf]; rfl) (fun z => nomatch z) hpl ro0 nu0 fun pl key H' a1 a2 a3 a4 => q ro nu pl key H' a1 ro0 nu0 a2 a3 a4
end

end G0
namespace G0
open PySem PySem.Spec PyProof.Rows L2 NdefX ClX
section
variable {P : Program} {w : World} {K : PySem.W.Frag} {mg : Str → Option Value} {base : Heap} {C CK f : Addr} {fd : FuncData}
/-! ### what a caller tells -/
def spBears (K : PySem.W.Frag) (C CK : Addr) : Sp := fun vs H Q _ => ∃ (q dx : Addr) (me : Int) (st : Str) (rnd : Int) (ro nu : Addr) (key bg : V) (pl : Addr) (rs ms : List Int) (ps : List (Key × V)), vs = [.ref q] ∧ CalAt H C q dx me st rnd ro nu key bg pl rs ms ps ∧
  ((key = .non ∧ Q .non H) ∨ ∃ k dk r d l S ns, key = .ref k ∧ KeyAt H CK k dk r d l S ns ∧ ∀ (t : Addr) (S' : List (Int × Int)) H', Same H H' → S'.Perm S → (S'.map (·.1)).Pairwise (· ≤ ·) → Dp K H' (.ref t) (toldD r S' ns) → Q (.ref t) H')
theorem sc_Caller_bears : FnScope ["self"] ["self"] (defScope s_Caller_bears) :=
  ⟨rfl, rfl, rfl, by decide +kernel, rfl, by decide +kernel, by decide +kernel⟩
theorem ok_bears (F : Fun K "bears" "Caller.bears" s_Caller_bears f fd) (S : CalT K C) (KT : KeyT K CK) (MT : Me P w K mg base CK "told" 1 ["self"] (spTold K CK)) : FnOk P w K mg base CX0 2 f fd ["self"] (spBears K C CK) := by
  obtain ⟨fT, fdT, GT, bT, mT⟩ := MT
  refine F.ok sc_Caller_bears (fun vs H Q E h => ?_) (fun cdv A outer s H vs Q E hr h => ?_)
  · obtain ⟨q, _, _, _, _, _, _, _, _, _, _, _, _, rfl, _⟩ := h
    rfl
  obtain ⟨q, dx, me, st, rnd, ro, nu, key, bg, pl, rs, ms, ps, rfl, A0, h⟩ := h
  refine ⟨_, (pss_cons (ps_if (pt_cmpR op_isN (pe_fld (pv 0) (by rfl)) pe_non (nomark _))
    (pss_one (ps_ret pe_non))
    pss_nil)
    (pss_one (ps_ret (pe_meth0 (pe_fld (pv 0) (by rfl)) KT.cl mT GT hr bT .nil pass0)))), ?_⟩
  refine ⟨_, rfl, q, C, dx, _, _, rfl, A0.hp, S.cl, S.key, caF_key _ _ _ _ _ _ _ _ _, rfl, _, rfl, ?_⟩
  rcases h with ⟨rfl, h⟩ | ⟨k, dk, r, d, l, SS, ns, rfl, KA, h⟩
  · exact iteT' rfl h
  · refine iteF' rfl ?_
    refine ⟨_, rfl, q, C, dx, _, _, rfl, A0.hp, S.cl, S.key, caF_key _ _ _ _ _ _ _ _ _, k, dk, _, rfl, KA.hp, keF_no _ _ _ (by decide +kernel) (by decide +kernel) (by decide +kernel), k, dk, r, d, l, SS, ns, rfl, KA, h⟩
def spRos (C : Addr) : Sp := fun vs H Q _ => ∃ (q dx : Addr) (me : Int) (st : Str) (rnd : Int) (ro nu : Addr) (key bg : V) (pl : Addr) (rs ms : List Int) (ps : List (Key × V)), vs = [.ref q] ∧ CalAt H C q dx me st rnd ro nu key bg pl rs ms ps ∧ ∀ l, H l = none → Q (.ref l) (upd H l (.lst (rs.map V.int)))
theorem sc_Caller_roster : FnScope ["self"] ["self"] (defScope s_Caller_roster) :=
  ⟨rfl, rfl, rfl, by decide +kernel, rfl, by decide +kernel, by decide +kernel⟩
theorem ok_roster (F : Fun K "roster" "Caller.roster" s_Caller_roster f fd) (T : BlC71 mg) (S : CalT K C) : FnOk P w K mg base CX0 1 f fd ["self"] (spRos C) := by
  refine F.ok sc_Caller_roster (fun vs H Q E h => ?_) (fun cdv A outer s H vs Q E hr h => ?_)
  · obtain ⟨q, _, _, _, _, _, _, _, _, _, _, _, _, rfl, _⟩ := h
    rfl
  obtain ⟨q, dx, me, st, rnd, ro, nu, key, bg, pl, rs, ms, ps, rfl, A0, h⟩ := h
  refine ⟨_, (pss_one (ps_ret (pe_callTy call_list_of (by rfl) T.list (by decide +kernel) (pa_cons (pe_fld (pv 0) (by rfl)) pa_nil)))), ?_⟩
  exact ⟨_, rfl, q, C, dx, _, _, rfl, A0.hp, S.cl, S.roster, caF_ros _ _ _ _ _ _ _ _ _, ro, _, rfl, .inl (SqL.of A0.hr), fun l hl => h l hl⟩
def spNum (C : Addr) : Sp := fun vs H Q _ => ∃ (q dx : Addr) (me : Int) (st : Str) (rnd : Int) (ro nu : Addr) (key bg : V) (pl : Addr) (rs ms : List Int) (ps : List (Key × V)), vs = [.ref q] ∧ CalAt H C q dx me st rnd ro nu key bg pl rs ms ps ∧ ∀ l, H l = none → Q (.ref l) (upd H l (.lst (ms.map V.int)))
theorem sc_Caller_numbers : FnScope ["self"] ["self"] (defScope s_Caller_numbers) :=
  ⟨rfl, rfl, rfl, by decide +kernel, rfl, by decide +kernel, by decide +kernel⟩
theorem ok_numbers (F : Fun K "numbers" "Caller.numbers" s_Caller_numbers f fd) (T : BlC71 mg) (S : CalT K C) : FnOk P w K mg base CX0 1 f fd ["self"] (spNum C) := by
  refine F.ok sc_Caller_numbers (fun vs H Q E h => ?_) (fun cdv A outer s H vs Q E hr h => ?_)
  · obtain ⟨q, _, _, _, _, _, _, _, _, _, _, _, _, rfl, _⟩ := h
    rfl
  obtain ⟨q, dx, me, st, rnd, ro, nu, key, bg, pl, rs, ms, ps, rfl, A0, h⟩ := h
  refine ⟨_, (pss_one (ps_ret (pe_callTy call_list_of (by rfl) T.list (by decide +kernel) (pa_cons (pe_fld (pv 0) (by rfl)) pa_nil)))), ?_⟩
  exact ⟨_, rfl, q, C, dx, _, _, rfl, A0.hp, S.cl, S.numbers, caF_nms _ _ _ _ _ _ _ _ _, nu, _, rfl, .inl (SqL.of A0.hn), fun l hl => h l hl⟩
def spAw0 (C : Addr) : Sp := fun vs H Q _ => ∃ (q dx : Addr) (me : Int) (st : Str) (rnd : Int) (ro nu : Addr) (key : V) (pl : Addr) (rs ms : List Int) (ps : List (Key × V)), vs = [.ref q] ∧ CalAt H C q dx me st rnd ro nu key .non pl rs ms ps ∧ ∀ l, H l = none → Q (.ref l) (upd H l (.lst []))
theorem sc_Caller_awaits : FnScope ["self", "seat"] ["self"] (defScope s_Caller_awaits) :=
  ⟨rfl, rfl, rfl, by decide +kernel, rfl, by decide +kernel, by decide +kernel⟩
theorem ok_awaits (F : Fun K "awaits" "Caller.awaits" s_Caller_awaits f fd) (S : CalT K C) : FnOk P w K mg base CX0 1 f fd ["self"] (spAw0 C) := by
  refine F.ok sc_Caller_awaits (fun vs H Q E h => ?_) (fun cdv A outer s H vs Q E hr h => ?_)
  · obtain ⟨q, _, _, _, _, _, _, _, _, _, _, _, rfl, _⟩ := h
    rfl
  obtain ⟨q, dx, me, st, rnd, ro, nu, key, pl, rs, ms, ps, rfl, A0, h⟩ := h
  refine ⟨_, (pss_cons (ps_if (pt_cmpR op_isN (pe_fld (pv 0) (by rfl)) pe_non (nomark _))
    (pss_one (ps_ret (pe_lst pa_nil)))
    pss_nil)
    (pss_one ps_dead)), ?_⟩
  refine ⟨_, rfl, q, C, dx, _, _, rfl, A0.hp, S.cl, S.begun, caF_bgn _ _ _ _ _ _ _ _ _, rfl, _, rfl, iteT' rfl ?_⟩
  exact ⟨Nat.zero_le _, fun l hl => h l hl⟩
/-! ### defs that may raise -/
def CalX (P : Program) (w : World) (K : PySem.W.Frag) (mg : Str → Option Value) (base : Heap) (x : Str) (k : Nat) (ps : List Str) (sp : Sp) : Prop :=
  ∃ f fd, FnOk P w K mg base (L2.CX P w) k f fd ps sp ∧ Binds K fd ps [] ∧ mg x = some (.ref f) ∧ PySem.W.keepIn K (.ref f) = true
theorem calx_of {x : Str} {st : Stmt} {N ps : List Str} {k : Nat} {sp : Sp} (F : Fn K mg x st) (S : FnScope N ps (defScope st))
    (bd : ∀ (kV doc pm : Value) (an : Option Addr) (cdv ct : Value) (us : List Value), us.length = ps.length →
      bindArgs (PySem.W.fnOf x x (defArgs st) (defBody st) (defScope st) .none kV doc pm an cdv ct) ⟨us, []⟩ = pure (ps.zip us))
    (len : ∀ vs H Q E, sp vs H Q E → vs.length = ps.length)
    (inner : ∀ (f : Addr) (cdv : Value) (A : Around) (outer : List Env) (s : Shared) (H : Hp) (vs : List V) (Q : VK) (E : XK),
      Room k (A.deeper (envOfC x (defScope st) s.heap.objs.size f cdv)) → sp vs H Q E →
      ∃ t, PSs (cxOf (L2.CX P w) P w K mg base N x (defScope st) f cdv A outer s H E) (defBody st) t ∧ t { nx := fun _ H' => Q .non H', rt := Q } (L2.start N vs) H) :
    CalX P w K mg base x (k + 1) ps sp := by
  obtain ⟨f, fd, F, m⟩ := F
  exact ⟨f, fd, F.okX S len fun cdv A outer s H vs Q E hr h => inner f cdv A outer s H vs Q E hr h, F.binds bd, m, F.kp⟩
end
section
variable {X : Cx} {k : Nat} {ps : List Str} {sp : Sp} {x : Str} {p pos : Pos} {e : Expr} {es : List Expr} {t : TA} {W : WX}
theorem pe_calX (C : CalX X.prog X.w X.K X.mg X.base x k ps sp) (hr : Room k X.A) (tk : Takes X W) (ha : PA X (e :: es) t) (hg : Gl X x := by rfl) (n1 : (x == ("__debug__" : Str)) = false := by decide)
    (n2 : starEach (e :: es) X.env = (false, eval e X.env) :: starEach es X.env := by rfl) (n3 : (backTo pos (starEach es X.env)).any (·.1) = false := by rfl) :
    PE X (.Call (.Name x p) (e :: es) [] pos) (tCallS sp (WE W) t) := by
  obtain ⟨f, fd, F, b, m, kp⟩ := C
  exact pe_callS F hr hg m kp b (fun σ => passAt tk σ) ha n1 n2 n3
/-- isinstance(e, c) of the exception that a suite holds, with its dict -/
def rIsS (K : PySem.W.Frag) (cls : Value) (d : Option Addr) (a : Addr) : List V → Hp → VK → Prop := fun xs H Q => ∃ (D dd : Addr) (c : V) (cv : Value) (b : Bool), cls = .ref D ∧ d = some dd ∧ XhC K D ∧ xs = [.ref a, c] ∧ (∀ u, RelV c u → u = cv) ∧
  PySem.W.kitOne K (.ref D) cv = some b ∧ (∃ fs, H dd = some (.xd fs)) ∧ Q (.bl b) H
theorem call_isS {X : Cx} {a : Addr} {oe : Obj} {cls : Value} {d : Option Addr} {pn : List (Addr × Obj)} (hz : Zc cls d oe) (hf : ∃ vs, oe.data = .fields vs) : CallR (X.suite a ((a, oe) :: pn)) (.builtin "isinstance") (rIsS X.K cls d a) := by
  intro pins s σ H xs us Q I r h
  obtain ⟨D, dd, c, cv, b, rfl, rfl, hX, rfl, hcv, e, hd, q⟩ := h
  exact call_isX (X := X.suite a ((a, oe) :: pn)) (p := (a, oe)) (D := D) (dd := dd) (List.mem_cons_self ..) hX hz.1 hz.2 hf pins s σ H _ us Q I r ⟨c, cv, b, rfl, hcv, e, hd, q⟩
end
section
variable {P : Program} {w : World} {K : PySem.W.Frag} {mg : Str → Option Value} {base : Heap} {C CK : Addr}
/-! ### is_below, look_at_seat -/
def spBelow (K : PySem.W.Frag) : Sp := fun vs H Q _ => ∃ (x : V) (t : Int) (g : GD), vs = [x, .int t] ∧ Gv K H x g ∧ Q (.bl (g.less t)) H
theorem sc_is_below : FnScope ["thing", "top"] ["thing", "top"] (defScope s_is_below) :=
  ⟨rfl, rfl, rfl, by decide +kernel, rfl, by decide +kernel, by decide +kernel⟩
theorem ok_below (F : Fn K mg "is_below" s_is_below) (T : BlC71 mg) : Cal P w K mg base "is_below" 1 ["thing", "top"] (spBelow K) := by
  refine cal_of F sc_is_below
    (fun _ _ _ _ _ _ us hl => match us, hl with | [_, _], _ => rfl) ?_ ?_
  · rintro vs H Q E ⟨x, t, g, rfl, _⟩
    rfl
  rintro f cdv A outer s H vs Q E free hr ⟨x, t, g, rfl, hx, q⟩
  refine ⟨_, (pss_one (ps_ret (pe_and (pe_callB call_isi (by rfl) T.isinstance (by decide +kernel) (pa_cons (pv 0) (pa_cons (pe_bltn (v := .ty "int") (by rfl) T.int (by decide +kernel) rfl) pa_nil))) (pe_and (pe_not (pe_callB call_isi (by rfl) T.isinstance (by decide +kernel) (pa_cons (pv 0) (pa_cons (pe_bltn (v := .ty "bool") (by rfl) T.bool (by decide +kernel) rfl) pa_nil)))) (pe_one (pe_chain op_le op_lt pe_int (pv 0) (pv 1))))))), ?_⟩
  refine ⟨_, rfl, x, .ty "int", _, _, _, rfl, .ty _, gv_ty hx, kit_int g, _, rfl, ?_⟩
  cases hx with
  | int i =>
    refine iteT' rfl ⟨_, rfl, _, .ty "bool", _, _, _, rfl, .ty _, .base (.int i), kit_bool (.int i), _, rfl, _, rfl, iteT' rfl ⟨_, rfl, _, _, rfl, rfl, _, rfl, ?_⟩⟩
    simp only [GD.less] at q
    refine ite2 (fun c => ⟨_, rfl, _, _, rfl, rfl, ?_⟩) (fun c => ?_)
    · have c' := of_decide_eq_true c
      have e : decide (0 ≤ i ∧ i < t) = decide (i < t) := decide_eq_decide.mpr ⟨fun h => h.2, fun h => ⟨c', h⟩⟩
      rw [e] at q
      exact q
    · have c' : ¬ 0 ≤ i := fun z => c (decide_eq_true z)
      have e : decide (0 ≤ i ∧ i < t) = false := decide_eq_false fun h => c' h.1
      rw [e] at q
      exact q
  | bl b => exact iteT' rfl ⟨_, rfl, _, .ty "bool", _, _, _, rfl, .ty _, .base (.bl b), kit_bool (.bl b), _, rfl, _, rfl, iteF' rfl q⟩
  | non => exact iteF' rfl q
  | str _ => exact iteF' rfl q
  | lst _ => exact iteF' rfl q
  | dct _ => exact iteF' rfl q
  | tup _ _ _ => exact iteF' rfl q
/-- the class NoSeat and those that it is asked for -/
structure NsT (P : Program) (w : World) (K : PySem.W.Frag) (mg : Str → Option Value) (base : Heap) (CN CS CF : Addr) : Prop where
  xc : XcK K CN "seat"
  xf : XfC K CN
  xh : XhC K CN
  init : ∃ fN fdN, PySem.W.findIn K (.ref CN) "__init__" = some (some (.ref fN)) ∧ PySem.W.typeIn K (.ref fN) = some (.type "function") ∧ FnOk P w K mg base CX0 1 fN fdN ["self", "seat"] (spXI CN "seat") ∧ Binds K fdN ["self", "seat"] []
  gN : mg "NoSeat" = some (.ref CN)
  gS : mg "SoleError" = some (.ref CS)
  gF : mg "Fallen" = some (.ref CF)
  exN : PySem.W.exmOne K (.ref CN) (.ref CN) = some true
  exS : PySem.W.exmOne K (.ref CN) (.ref CS) = some true
  kS : PySem.W.kitOne K (.ref CN) (.ref CS) = some true
  kV : PySem.W.kitOne K (.ref CN) (.type "ValueError") = some true
  kF : PySem.W.kitOne K (.ref CN) (.ref CF) = some false
def spLookX (K : PySem.W.Frag) (CN : Addr) : Sp := fun vs H Q E => ∃ (x : V) (n : Int) (g : GD), vs = [x, .int n] ∧ Gv K H x g ∧ (g.less n = true → Q .non H) ∧ (g.less n = false → ∀ d, H d = none → E (.ref CN) (some d) (upd H d (.xd [("seat", x)])))
theorem sc_look_at_seat : FnScope ["seat", "seats"] ["seat", "seats"] (defScope s_look_at_seat) :=
  ⟨rfl, rfl, rfl, by decide +kernel, rfl, by decide +kernel, by decide +kernel⟩
theorem ok_lookX {CN CS CF : Addr} (F : Fn K mg "look_at_seat" s_look_at_seat) (NT : NsT P w K mg base CN CS CF) (Cis_below : Cal P w K mg base "is_below" 1 ["thing", "top"] (spBelow K)) : CalX P w K mg base "look_at_seat" 3 ["seat", "seats"] (spLookX K CN) := by
  obtain ⟨fN, fdN, iN, tN, GN, bN⟩ := NT.init
  refine calx_of F sc_look_at_seat
    (fun _ _ _ _ _ _ us hl => match us, hl with | [_, _], _ => rfl) ?_ ?_
  · rintro vs H Q E ⟨x, n, g, rfl, _⟩
    rfl
  rintro f cdv A outer s H vs Q E hr ⟨x, n, g, rfl, hx, q1, q2⟩
  have free := True.intro
  refine ⟨_, (pss_one (ps_if (pt_not (pt_val (pe_cal Cis_below free (hr.mono (by decide)) (pa_cons (pv 0) (pa_cons (pv 1) pa_nil)))))
    (pss_one (ps_raiseX NT.xc.T iN tN GN bN hr (by rfl) NT.gN (by rfl) (takes_of rfl rfl rfl rfl) (pv 0)))
    pss_nil)), ?_⟩
  refine ⟨_, rfl, _, rfl, x, n, g, rfl, hx, _, rfl, ?_⟩
  cases hg : g.less n with
  | true => exact iteF' rfl (q1 hg)
  | false => exact iteT' rfl ⟨_, rfl, xc_done fun d hd => q2 hg d hd⟩
end

end G0
namespace G0
open PySem PySem.Spec PyProof.Rows L2 NdefX ClX
/-! ### a call with keywords, of a def that may raise -/
section
variable {X : Cx} {CX : CXT} {k n : Nat} {f : Addr} {fd : FuncData} {ps ks : List Str} {sp : Sp} {E : L2.St → XK} {x : Str} {p pos : Pos} {e : Expr} {es : List Expr} {kws : List Keyword} {t tk : TA}
  {g : List Value → List Value → List Value} {gV : List V → List V → List V}
def tCallKS (n m : Nat) (sp : Sp) (gV : List V → List V → List V) (E : L2.St → XK) (t tk : TA) : TE := fun σ H Q => t σ H fun vs H1 => tk σ H1 fun zs H2 => vs.length = n ∧ zs.length = m ∧ sp (gV vs zs) H2 Q (E σ)
theorem pe_callKX (F : FnOk X.prog X.w X.K X.mg X.base CX k f fd ps sp) (hr : Room k X.A) (hm : X.mg x = some (.ref f)) (hk : PySem.W.keepIn X.K (.ref f) = true)
    (hb : KBn X.K fd ps n ks g gV) (hx : ∀ σ, PassesAt CX X σ (E σ)) (ha : PA X (e :: es) t) (hkw : PK X kws tk) (hg : Gl X x := by rfl)
    (n1 : (backToKw pos (keywordEach kws X.env)).all (·.1.isSome) = true := by rfl) (n2 : (backToKw pos (keywordEach kws X.env)).filterMap (·.1) = ks := by rfl)
    (n3 : (x == ("__debug__" : Str)) = false := by decide) (n4 : starEach (e :: es) X.env = (false, eval e X.env) :: starEach es X.env := by rfl)
    (n5 : ((backTo pos (starEach (e :: es) X.env)).any (·.1) || (backToKw pos (keywordEach kws X.env)).any (·.1.isNone)) = false := by rfl) :
    PE X (.Call (.Name x p) (e :: es) kws pos) (tCallKS n ks.length sp gV E t tk) := by
  refine ⟨fun pins s σ H Q I h => wpAny_Call_Name_kw (ld_glob I hg hm ?_ n3)⟩
  refine PySem.W.callWith_KW (h₀ := X.base) I.ok.mod.kin hk n1 (thn (ha.run pos pins s σ H _ I h) fun us s1 got => ?_) n5 n4
  obtain ⟨vs, H1, I1, r, q⟩ := got
  refine thn (hkw.run pos pins s1 σ H1 _ I1 q) fun ws s2 got2 => ?_
  obtain ⟨zs, H2, I2, rz, l1, l2, q2⟩ := got2
  refine ⟨I2.kIn, ?_⟩
  rw [n2]
  have both := hb.rel r rz
  have it := F.run X.A X.stack s2 H2 ⟨us, ks.zip ws⟩ (g us ws) (gV vs zs) Q (E σ) hr I2.env0 (hb.to s2 us ws I2.kIn (r.length.symm.trans l1) (rz.length.symm.trans l2)) both q2
  refine wpAny_call (codeAny_mono it fun out s' told => ?_)
  match out, told with
  | .error e, told => exact hx σ pins H2 s2 e s' I2 told
  | .ok (.ret u), told => exact I2.after told
  | .ok .next, told => exact told.elim
  | .ok .brk, told => exact told.elim
  | .ok .cont, told => exact told.elim
end
section
variable {P : Program} {w : World} {K : PySem.W.Frag} {mg : Str → Option Value} {base : Heap} {C CK : Addr}
/-! ### callers -/
structure MkC (P : Program) (w : World) (K : PySem.W.Frag) (mg : Str → Option Value) (base : Heap) (C CK : Addr) : Prop where
  made : ∃ f fd ds, FnOk P w K mg base CX0 3 f fd ["self", "me", "seats", "first"] (spCInit K C CK) ∧ Vals [.int 0] ds ∧ Binds K fd ["self", "me", "seats", "first"] ds ∧
    KBn K fd ["self", "me", "seats", "first"] 3 ["first"] (fun us ws => us ++ ws) (fun vs zs => vs ++ zs) ∧ Mk K C f
  mg : mg "Caller" = some (.ref C)
def NewC (H : Hp) (C CK o : Addr) (me n a : Int) : Prop := ∃ (dx ro nu pl : Addr) (key : V), CalAt H C o dx me "out" 0 ro nu key .non pl (rangeI n) (zeros n) [] ∧ FreshKey H CK n key (decide (me = a)) (fun _ => True)
theorem NewC.same {H H' : Hp} {o : Addr} {me n a : Int} (h : NewC H C CK o me n a) (s : Same H H') : NewC H' C CK o me n a := by
  obtain ⟨dx, ro, nu, pl, key, A, F⟩ := h
  exact ⟨dx, ro, nu, pl, key, A.same s, F.same s⟩
theorem same_del {H : Hp} {D : Addr} : Same (del H D) H := fun b o e => by
  by_cases c : b = D
  · rw [c, del_same] at e; cases e
  · rw [del_ne c] at e; exact e
theorem del_upd {H : Hp} {D : Addr} {o : HO} : del (upd H D o) D = del H D := by
  funext b
  by_cases c : b = D
  · rw [c, del_same, del_same]
  · rw [del_ne c, del_ne c, upd_ne c]
theorem same_dels {H H' : Hp} {D : Addr} (s : Same H H') : Same (del H D) (del H' D) := fun b o e => by
  by_cases c : b = D
  · rw [c, del_same] at e; cases e
  · rw [del_ne c] at e ⊢; exact s _ _ e
/-- what was made behind a list stands without it, too -/
theorem new_del {H0 H' : Hp} {D o dx ro nu pl : Addr} {key : V} {me n a : Int} {xs : List V} (hD : H' D = some (.lst xs)) (z : H0 D ≠ none) (r0 : H0 ro = none) (u0 : H0 nu = none)
    (A : CalAt H' C o dx me "out" 0 ro nu key .non pl (rangeI n) (zeros n) []) (F : FreshKey H' CK n key (decide (me = a)) (fun l => H0 l = none)) : NewC (del H' D) C CK o me n a := by
  have ne : ∀ {b : Addr}, H0 b = none → b ≠ D := fun h e => z (by rw [← e]; exact h)
  have go : ∀ {b : Addr} {u : HO}, b ≠ D → H' b = some u → del H' D b = some u := fun n e => by rw [del_ne n]; exact e
  refine ⟨dx, ro, nu, pl, key, ⟨go (ne_of A.hp hD (by intro z; cases z)) A.hp, go (ne r0) A.hr, go (ne u0) A.hn, go (ne_of A.hpl hD (by intro z; cases z)) A.hpl⟩, ?_⟩
  unfold FreshKey at F ⊢
  cases c : decide (me = a) with
  | true =>
    rw [c, if_pos rfl] at F
    rw [if_pos rfl]
    obtain ⟨k, dk, d, l, e, KA, zl⟩ := F
    exact ⟨k, dk, d, l, e, { KA with hp := go (ne_of KA.hp hD (by intro z; cases z)) KA.hp, hd := go (ne_of KA.hd hD (by intro z; cases z)) KA.hd, hl := go (ne zl) KA.hl }, trivial⟩
  | false =>
    rw [c] at F
    exact F
structure Row (H : Hp) (C CK l : Addr) (os : List Addr) (n a : Int) : Prop where
  at_ : H l = some (.lst (os.map V.ref))
  len : os.length = n.toNat
  all : ∀ (i : Nat) o, os[i]? = some o → NewC H C CK o (i : Int) n a
theorem Row.same {H H' : Hp} {l : Addr} {os : List Addr} {n a : Int} (h : Row H C CK l os n a) (s : Same H H') : Row H' C CK l os n a := ⟨s _ _ h.at_, h.len, fun i o e => (h.all i o e).same s⟩
def spCallers (K : PySem.W.Frag) (C CK CN : Addr) : Sp := fun vs H Q E => ∃ (n : Int) (x : V) (g : GD), vs = [.int n, x] ∧ Gv K H x g ∧ 1 ≤ n ∧ n ≤ 60 ∧
  (g.less n = false → ∀ d, H d = none → E (.ref CN) (some d) (upd H d (.xd [("seat", x)]))) ∧ ∀ a, x = .int a → 0 ≤ a → a < n → ∀ l os H', Same H H' → Row H' C CK l os n a → Q (.ref l) H'
structure CsX (P : Program) (w : World) (K : PySem.W.Frag) (mg : Str → Option Value) (base : Heap) (sp : Sp) : Prop where
  made : ∃ f fd ds, FnOk P w K mg base (L2.CX P w) 6 f fd ["seats", "first"] sp ∧ Vals [.int 0] ds ∧ Binds K fd ["seats", "first"] ds ∧
    KBn K fd ["seats", "first"] 1 ["first"] (fun us ws => us ++ ws) (fun vs zs => vs ++ zs) ∧ mg "callers" = some (.ref f) ∧ PySem.W.keepIn K (.ref f) = true
def FnK (K : PySem.W.Frag) (mg : Str → Option Value) (x : Str) (st : Stmt) (kws : List (Str × V)) : Prop :=
  ∃ f fd, FunD K x x (defArgs st) (defBody st) (defScope st) [] kws f fd ∧ mg x = some (.ref f)
theorem sc_callers : FnScope ["seats", "first", "seat"] ["seats", "first"] (defScope s_callers) :=
  ⟨rfl, rfl, rfl, by decide +kernel, rfl, by decide +kernel, by decide +kernel⟩
theorem ok_callers {CN CS CF : Addr} (F : FnK K mg "callers" s_callers [("first", .int 0)]) (T : BlC71 mg) (MC : MkC P w K mg base C CK) (Clook_at_seat : CalX P w K mg base "look_at_seat" 3 ["seat", "seats"] (spLookX K CN)) : CsX P w K mg base (spCallers K C CK CN) := by
  obtain ⟨f, fd, F, m⟩ := F
  obtain ⟨fC, fdC, dsC, GC, rC, bC, kC, MI⟩ := MC.made
  have gC := MC.mg
  obtain ⟨ds, rd, bd⟩ := F.binds0 (ps := ["seats", "first"]) 1 (by simp) rfl (fun D doc pm an cdv ct us ks h1 h2 => match us, ks, h1, h2 with
    | [_], [_], _, _ => ⟨_, _, _, _, _, _, rfl, rfl, rfl⟩)
  obtain ⟨oc, od, dV, kV, doc, pm, an, cdv, ct, osl, rfl, lk, hcd, hD, _⟩ := id F.ex
  have dV0 : dV = .none := by
    rcases hD with ⟨_, e⟩ | ⟨e, _⟩
    · exact e
    · exact absurd rfl e
  subst dV0
  refine ⟨f, _, ds, F.ok sc_callers (fun vs H Q E h => ?_) (fun cdv A outer s H vs Q E hr h => ?_), rd, bd, ⟨fun s us ws X l1 l2 => ?_, fun r1 r2 => r1.append r2⟩, m, F.kp⟩
  · obtain ⟨n, x, g, rfl, _⟩ := h
    rfl
  · obtain ⟨n, x, g, rfl, hx, n0, n1, q1, q2⟩ := h
    have free := True.intro
    have hr3 : Room 4 _ := hr.mono (by decide)
    refine ⟨_, (pss_cons (ps_expr (pe_calX Clook_at_seat (hr.mono (by decide)) (takes_of rfl rfl rfl rfl) (pa_cons (pv 1) (pa_cons (pv 0) pa_nil))))
    (pss_one (ps_ret (pe_lc (own := [("seat", 2)]) (g := gName 2) (tt := tYes) (by rfl) sc_callers.nd (pi_range1 (by rfl) T.range (pa_cons (pv 0) pa_nil)) (blkOk_by (N := ["seats", "first", "seat"]) (sc := defScope s_callers) (by decide +kernel)) (fun _ _ _ _ _ => pg_name (i := 2) sc_callers.nd rfl (Or.inl rfl)) (fun _ _ _ _ _ => pts_nil) (fun _ _ _ _ _ => (pe_makeK MI GC hr3 (by rfl) gC kC pass0 (pa_cons (pv 2) (pa_cons (pv 0) pa_nil)) (pk_cons (pv 1) pk_nil))))))), ?_⟩
    refine ⟨_, rfl, _, rfl, x, n, g, rfl, hx, fun e => ?_, fun e d hd => q1 e d hd⟩
    obtain ⟨a, rfl, a0, a1⟩ : ∃ a, x = .int a ∧ 0 ≤ a ∧ a < n := by
      cases hx with
      | int i =>
        simp only [GD.less] at e
        have := of_decide_eq_true e
        exact ⟨i, rfl, this.1, this.2⟩
      | bl b => simp [GD.less] at e
      | non => simp [GD.less] at e
      | str _ => simp [GD.less] at e
      | lst _ => simp [GD.less] at e
      | dct _ => simp [GD.less] at e
      | tup _ _ _ => simp [GD.less] at e
    refine ⟨_, rfl, _, rfl, by omega, by omega, fun D hD => ?_⟩
    refine lc_range (lo := 0) (n := n.toNat) (fun i G => Same H G ∧ ∃ os : List Addr, os.length = i ∧ G D = some (.lst (os.map V.ref)) ∧ ∀ (j : Nat) o, os[j]? = some o → NewC (del G D) C CK o (j : Int) n a) ⟨same_upd hD, [], rfl, upd_same, fun j o e => by simp at e⟩ ?_ ?_
    · rintro i G hi ⟨sG, os, lo, kD, al⟩
      refine ⟨rfl, lc_yes ?_⟩
      refine ⟨_, rfl, _, rfl, _, rfl, rfl, rfl, fun y dy hy hdy ne => ?_⟩
      have yG : y ≠ D := (ne_of_none kD hy).symm
      have dyD : dy ≠ D := (ne_of_none kD hdy).symm
      have s1 : Same G (upd (upd G dy (.own y)) y (.ins C dy [])) := (same_upd hdy).trans (same_upd (by rw [upd_ne ne.symm]; exact hy))
      refine ⟨y, dy, 0 + (i : Int), n, a, rfl, upd_same, n0, n1, fun ro nu pl key H' cg r0 u0 l0 A0 FK => ⟨rfl, ?_⟩⟩
      have s2 : Same G H' := fun b o e => cg _ _ (ne_of_none e hy) (s1 _ _ e)
      have kD2 := s2 _ _ kD
      refine ⟨_, kD2, ?_, fun b o e => ?_, os ++ [y], by rw [List.length_append, lo]; rfl, by rw [upd_same, List.map_append]; rfl, fun j o e => ?_⟩
      · rw [List.length_map]
        exact Nat.lt_of_lt_of_le (show os.length < 100 by omega) (by decide)
      · rw [upd_ne (ne_of_none e hD)]
        exact s2 _ _ (sG _ _ e)
      · rcases Nat.lt_or_ge j os.length with c | c
        · rw [List.getElem?_append_left c] at e
          rw [del_upd]
          exact (al j o e).same (same_dels s2)
        · rw [List.getElem?_append_right c] at e
          obtain ⟨e1, e2⟩ : j = i ∧ o = y := by
            cases z : j - os.length with
            | zero => rw [z] at e; simp at e; exact ⟨by omega, e.symm⟩
            | succ u => rw [z] at e; simp at e
          subst e1
          subst e2
          rw [Int.zero_add] at A0 FK
          rw [del_upd]
          exact new_del kD2 (by rw [s1 _ _ kD]; exact fun z => nomatch z) r0 u0 A0 FK
    rintro G ⟨sG, os, lo, kD, al⟩
    exact q2 a rfl a0 a1 D os G sG ⟨kD, lo, fun j o e => (al j o e).same same_del⟩
  · match us, ws, l1, l2 with
    | [_], [_], _, _ => exact .of_eq rfl
end

end G0
namespace G0
open PySem PySem.Spec PyProof.Rows L2 NdefX ClX
section
variable {P : Program} {w : World} {K : PySem.W.Frag} {mg : Str → Option Value} {base : Heap} {C CK : Addr}
/-! ### data that is the same -/
mutual
theorem eqv_self : ∀ d : PyData, PyData.canLay0 d = true → PyData.eqv d d = true
  | .none, _ => by simp [PyData.eqv]
  | .bool b, _ => by simp [PyData.eqv]
  | .int i, _ => by simp [PyData.eqv]
  | .str z, _ => by simp [PyData.eqv]
  | .dict _, h => by simp [PyData.canLay0] at h
  | .list ds, h => by
    simp only [PyData.eqv]
    exact eqvs_self ds (by simpa [PyData.canLay0] using h)
  | .tuple ds, h => by
    simp only [PyData.eqv]
    exact eqvs_self ds (by simpa [PyData.canLay0] using h)
theorem eqvs_self : ∀ ds : List PyData, PyData.canLayAll0 ds = true → PyData.eqvAll ds ds = true
  | [], _ => by simp [PyData.eqvAll]
  | d :: ds, h => by
    simp only [PyData.canLayAll0, Bool.and_eq_true] at h
    simp only [PyData.eqvAll, eqv_self d h.1, eqvs_self ds h.2, Bool.and_true]
end
theorem eqv_shaped {d : PyData} (h : SeqAt.shaped d = true) : PyData.eqv d d = true := eqv_self d (Bool.and_eq_true_iff.mp h).1
theorem lay_pairs : ∀ S : List (Int × Int), PyData.canLayAll0 (S.map pairD) = true
  | [] => by simp [PyData.canLayAll0]
  | p :: S => by simp [PyData.canLayAll0, PyData.canLay0, pairD, lay_pairs S]
theorem deep_pairs : ∀ S : List (Int × Int), PyData.depthAll (S.map pairD) ≤ 1
  | [] => by simp [PyData.depthAll]
  | p :: S => by
    have := deep_pairs S
    simp [PyData.depthAll, PyData.depth, pairD]
    omega
theorem shaped_told (r : Int) (S : List (Int × Int)) (ns : List Int) : SeqAt.shaped (toldD r S ns) = true := by
  show ((toldD r S ns).canLay0 && decide ((toldD r S ns).depth ≤ 64)) = true
  have h1 := deep_pairs S
  have h2 := deep_ints ns
  simp only [toldD, PyData.canLay0, PyData.canLayAll0, PyData.depth, PyData.depthAll, lay_pairs, lay_ints, Bool.and_true, Bool.true_and]
  simp only [h2]
  exact decide_eq_true (by omega)
theorem shaped_int (i : Int) : SeqAt.shaped (.int i) = true := by
  show ((PyData.int i).canLay0 && decide ((PyData.int i).depth ≤ 64)) = true
  simp [PyData.canLay0, PyData.depth]
theorem fresh_back {n : Int} {S' : List (Int × Int)} (pe : S'.Perm (freshS n)) (up : (S'.map (·.1)).Pairwise (· ≤ ·)) : S' = freshS n := by
  have p1 : (S'.map (·.1)).Perm (rangeI n) := by
    rw [← freshS_fst]
    exact pe.map _
  have u2 : (rangeI n).Pairwise (· ≤ ·) := List.pairwise_map.mpr (List.Pairwise.imp (fun h => by omega) List.pairwise_lt_range)
  have e := p1.eq_of_pairwise (le := fun a b => a ≤ b) (fun a b _ _ h1 h2 => by
    have h1 : a ≤ b := h1
    have h2 : b ≤ a := h2
    omega) up u2
  have z : ∀ p ∈ S', p = (p.1, (0 : Int)) := fun p hp => by
    obtain ⟨m, _, rfl⟩ := List.mem_map.mp (pe.mem_iff.mp hp)
    rfl
  have e2 : S' = (S'.map (·.1)).map fun m => (m, (0 : Int)) := by
    rw [List.map_map]
    exact ((List.map_congr_left (g := id) fun p hp => (z p hp).symm).trans (List.map_id S')).symm
  rw [e2, e]
  rfl
/-! ### a cell -/
def spCell (K : PySem.W.Frag) : Sp := fun vs H Q _ => ∃ (a : Addr) (ns : List Int) (k : Int), vs = [.ref a, .int k] ∧ SqL K H a (ns.map V.int) ∧ 0 ≤ k ∧ ∀ c : Int, Q (.int c) H
theorem sc_law_cell_at : FnScope ["script", "k"] ["script", "k"] (defScope s_law_cell_at) :=
  ⟨rfl, rfl, rfl, by decide +kernel, rfl, by decide +kernel, by decide +kernel⟩
theorem ok_cell (F : Fn K mg "_law_cell_at" s_law_cell_at) (T : BlC71 mg) : Cal P w K mg base "_law_cell_at" 1 ["script", "k"] (spCell K) := by
  refine cal_of F sc_law_cell_at
    (fun _ _ _ _ _ _ us hl => match us, hl with | [_, _], _ => rfl) ?_ ?_
  · rintro vs H Q E ⟨a, ns, k, rfl, _⟩
    rfl
  rintro f cdv A outer s H vs Q E free hr ⟨a, ns, k, rfl, hS, k0, q⟩
  refine ⟨_, (pss_cons (ps_if (pt_cmpR op_lt (pv 1) (pe_callB call_len_seq (by rfl) T.len (by decide +kernel) (pa_cons (pv 0) pa_nil)) (nomark _))
    (pss_one (ps_ret (pe_ix ix_list (pv 0) (pv 1) (fun _ _ => rfl))))
    pss_nil)
    (pss_one (ps_ret pe_int))), ?_⟩
  refine ⟨_, rfl, _, rfl, a, _, rfl, .inl hS, _, _, rfl, rfl, _, rfl, ?_⟩
  refine ite2 (fun c => ?_) (fun c => ?_)
  · have c' : k < (((ns.map V.int).length : Nat) : Int) := of_decide_eq_true c
    rw [List.length_map] at c'
    have hk : k.toNat < ns.length := by omega
    have at_ : atI (ns.map V.int) k = some (.int ns[k.toNat]) := by
      have := atI_nat (xs := ns.map V.int) (j := k.toNat) (v := .int ns[k.toNat]) (by rw [List.getElem?_map, List.getElem?_eq_getElem hk]; rfl)
      rwa [show ((k.toNat : Nat) : Int) = k by omega] at this
    exact ⟨_, rfl, _, rfl, a, _, _, _, rfl, rfl, hS, at_, q _⟩
  · exact q _
/-! ### a new caller looked at -/
theorem caF_m (me : Int) (st : Str) (si : Bool) (r : Int) (ro nu : Addr) (key bg : V) (pl : Addr) {x : Str} (h : x = "bears" ∨ x = "roster" ∨ x = "numbers" ∨ x = "awaits") : (caF me st si r ro nu key bg pl).lookup x = none := by
  rcases h with rfl | rfl | rfl | rfl <;> exact caF_no _ _ _ _ _ _ _ _ _ (by decide +kernel) (by decide +kernel) (by decide +kernel) (by decide +kernel) (by decide +kernel) (by decide +kernel) (by decide +kernel) (by decide +kernel) (by decide +kernel)
structure LkT (K : PySem.W.Frag) (mg : Str → Option Value) (C CB : Addr) : Prop where
  gC : mg "Caller" = some (.ref C)
  gB : mg "Seat" = some (.ref CB)
  kC : PySem.W.kitOne K (.ref C) (.ref C) = some true
  kB : PySem.W.kitOne K (.ref C) (.ref CB) = some true
  ha : PySem.W.findIn K (.ref C) "__class__" = some (some (.builtin "object.__class__"))
  hn : PySem.W.specialIn K (.builtin "object.__class__") "__get__" = some (some (.builtin "getset_descriptor.__get__"))
  ht : PySem.W.takesIn K (.builtin "object.__class__") = some true
  hm : PySem.W.mroIn K C (.type "object") = some true
def spNew (K : PySem.W.Frag) (C CK : Addr) : Sp := fun vs H Q _ => ∃ (o : Addr) (me n a : Int), vs = [.ref o, .int me, .int n, .int a] ∧ NewC H C CK o me n a ∧ 1 ≤ n ∧ n ≤ 60 ∧ ∀ H', Same H H' → Q (.bl true) H'
theorem sc_law_new : FnScope ["one", "me", "seats", "begins", "told", "seat"] ["one", "me", "seats", "begins"] (defScope s_law_new) :=
  ⟨rfl, rfl, rfl, by decide +kernel, rfl, by decide +kernel, by decide +kernel⟩
theorem ok_new {CB : Addr} (F : Fn K mg "_law_new" s_law_new) (T : BlC71 mg) (S : CalT K C) (L : LkT K mg C CB) (MB : Me P w K mg base C "bears" 2 ["self"] (spBears K C CK)) (MR : Me P w K mg base C "roster" 1 ["self"] (spRos C)) (MN : Me P w K mg base C "numbers" 1 ["self"] (spNum C))
    (MA : Me P w K mg base C "awaits" 1 ["self"] (spAw0 C)) : Cal P w K mg base "_law_new" 3 ["one", "me", "seats", "begins"] (spNew K C CK) := by
  obtain ⟨fB, fdB, GB, bB, mB⟩ := MB
  obtain ⟨fR, fdR, GR, bR, mR⟩ := MR
  obtain ⟨fN, fdN, GN, bN, mN⟩ := MN
  obtain ⟨fA, fdA, GA, bA, mA⟩ := MA
  have gC := L.gC
  have gB := L.gB
  refine cal_of F sc_law_new
    (fun _ _ _ _ _ _ us hl => match us, hl with | [_, _, _, _], _ => rfl) ?_ ?_
  · rintro vs H Q E ⟨o, me, n, a, rfl, _⟩
    rfl
  rintro f cdv A outer s H vs Q E free hr ⟨o, me, n, a, rfl, ⟨dx, ro, nu, pl, key, A0, FK⟩, n0, n1, q⟩
  have hr1 : Room 1 _ := hr.mono (by decide)
  refine ⟨_, (pss_cons (ps_if (PW.pt (pw_or (pt_not (pt_val (pe_callB call_isi (by rfl) T.isinstance (by decide +kernel) (pa_cons (pv 0) (pa_cons (pe_glob (v := .ref C) (by rfl) gC rfl) pa_nil))))) (pw_or (pt_not (pt_val (pe_callB call_isi (by rfl) T.isinstance (by decide +kernel) (pa_cons (pv 0) (pa_cons (pe_glob (v := .ref CB) (by rfl) gB rfl) pa_nil))))) (pw_or (pt_cmpR op_ne (pe_fld (pv 0) (by rfl)) (pv 1) (nomark _)) (pw_or1 (pt_cmpR op_ne (pe_fld (pv 0) (by rfl)) pe_str (nomark _)))))))
    (pss_one (ps_ret pe_bl))
    pss_nil)
    (pss_cons (ps_if (PW.pt (pw_or (pt_val (pe_callB call_isi (by rfl) T.isinstance (by decide +kernel) (pa_cons (pe_fld (pv 0) (by rfl)) (pa_cons (pe_bltn (v := .ty "bool") (by rfl) T.bool (by decide +kernel) rfl) pa_nil)))) (pw_or (pt_cmpR op_ne (pe_fld (pv 0) (by rfl)) pe_int (nomark _)) (pw_or1 (pt_cmpR (op_neD (u64 hr)) (pe_meth0 (pv 0) S.cl mA GA hr1 bA .nil pass0) (pe_lst pa_nil) (nomark _))))))
    (pss_one (ps_ret pe_bl))
    pss_nil)
    (pss_cons (ps_if (PW.pt (pw_or (pt_cmpR (op_neD (u64 hr)) (pe_meth0 (pv 0) S.cl mR GR hr1 bR .nil pass0) (pe_listRg (by rfl) (by rfl) T.list (prg_1 (by rfl) T.range (pv 2))) (nomark _)) (pw_or1 (pt_cmpR (op_neD (u64 hr)) (pe_meth0 (pv 0) S.cl mN GN hr1 bN .nil pass0) (pe_op op_rep (pe_lst (pa_cons pe_int pa_nil)) (pv 2)) (nomark _)))))
    (pss_one (ps_ret pe_bl))
    pss_nil)
    (pss_cons (ps_if (pt_cmpR op_ne (pv 1) (pv 3) (nomark _))
    (pss_one (ps_ret (pe_cmpR op_isN (pe_meth0 (pv 0) S.cl mB GB hr bB .nil pass0) pe_non (nomark _))))
    pss_nil)
    (pss_cons (ps_set (i := 4) sc_law_new.nd rfl (Or.inl rfl) (pe_meth0 (pv 0) S.cl mB GB hr bB .nil pass0))
    (pss_cons (ps_if (PW.pt (pw_or (pt_not (pt_val (pe_callB call_isi (by rfl) T.isinstance (by decide +kernel) (pa_cons (pv 4) (pa_cons (pe_bltn (v := .ty "tuple") (by rfl) T.tuple (by decide +kernel) rfl) pa_nil))))) (pw_or (pt_cmpR op_ne (pe_callB call_len_seq (by rfl) T.len (by decide +kernel) (pa_cons (pv 4) pa_nil)) pe_int (nomark _)) (pw_or1 (pt_val (pe_callB call_isi (by rfl) T.isinstance (by decide +kernel) (pa_cons (pe_ix ix_tup (pv 4) pe_int (fun _ _ => rfl)) (pa_cons (pe_bltn (v := .ty "bool") (by rfl) T.bool (by decide +kernel) rfl) pa_nil))))))))
    (pss_one (ps_ret pe_bl))
    pss_nil)
    (pss_one (ps_ret (pe_cmpR (op_eqD (u64 hr)) (pv 4) (pe_tup (pa_cons pe_int (pa_cons (pe_callTy call_tuple_of (by rfl) T.tuple (by decide +kernel) (pa_cons (pe_lc (own := [("seat", 5)]) (g := gName 5) (tt := tYes) (by rfl) sc_law_new.nd (pi_range1 (by rfl) T.range (pa_cons (pv 2) pa_nil)) (blkOk_by (N := ["one", "me", "seats", "begins", "told", "seat"]) (sc := defScope s_law_new) (by decide +kernel)) (fun _ _ _ _ _ => pg_name (i := 5) sc_law_new.nd rfl (Or.inl rfl)) (fun _ _ _ _ _ => pts_nil) (fun _ _ _ _ _ => (pe_tup (pa_cons (pv 5) (pa_cons pe_int pa_nil))))) pa_nil)) (pa_cons (pe_tup pa_nil) pa_nil)))) (nomark _)))))))))), ?_⟩
  have ty : TyX K H (.ref o) (.ref C) := .base (.ins A0.hp S.cl L.ha L.hn L.ht L.hm)
  refine ⟨_, rfl, .ref o, .ref C, _, _, _, rfl, .own C, ty, L.kC, _, rfl, iteF' rfl ?_⟩
  refine ⟨_, rfl, .ref o, .ref CB, _, _, _, rfl, .own CB, ty, L.kB, _, rfl, iteF' rfl ?_⟩
  refine ⟨_, rfl, o, C, dx, _, _, rfl, A0.hp, S.cl, S.me, caF_me _ _ _ _ _ _ _ _ _, _, rfl, rfl, _, rfl, iteF' (by simp) ?_⟩
  refine ⟨_, rfl, o, C, dx, _, _, rfl, A0.hp, S.cl, S.state, caF_stt _ _ _ _ _ _ _ _ _, rfl, _, rfl, iteF' (by simp) ?_⟩
  refine ⟨_, rfl, o, C, dx, _, _, rfl, A0.hp, S.cl, S.round, caF_rnd _ _ _ _ _ _ _ _ _, .int 0, .ty "bool", _, _, _, rfl, .ty _, .base (.int 0), kit_ty (r := false) (by decide +kernel), _, rfl, iteF' rfl ?_⟩
  refine ⟨_, rfl, o, C, dx, _, _, rfl, A0.hp, S.cl, S.round, caF_rnd _ _ _ _ _ _ _ _ _, rfl, _, rfl, iteF' (by simp) ?_⟩
  refine ⟨_, rfl, o, dx, _, rfl, A0.hp, caF_m _ _ _ _ _ _ _ _ _ (by simp), o, dx, me, "out", 0, ro, nu, key, pl, _, _, [], rfl, A0, fun l hl => ⟨Nat.zero_le _, fun l2 hl2 => ?_⟩⟩
  have s1 := (same_upd (o := .lst []) hl).trans (same_upd (o := .lst []) hl2)
  refine ⟨_, _, dp_ints (ns := []) (same_upd (o := .lst []) hl2 _ _ upd_same), dp_ints (ns := []) upd_same, shaped_ints _, shaped_ints _, _, rfl, iteF' (by rw [eqv_shaped (shaped_ints [])]; rfl) ?_⟩
  obtain ⟨H1, e1⟩ : ∃ H1, H1 = upd (upd H l (.lst [])) l2 (.lst []) := ⟨_, rfl⟩
  rw [← e1] at s1 ⊢
  have A1 := A0.same s1
  refine ⟨_, rfl, o, dx, _, rfl, A1.hp, caF_m _ _ _ _ _ _ _ _ _ (by simp), o, dx, me, "out", 0, ro, nu, key, _, pl, _, _, _, rfl, A1, fun r hr' => ⟨_, rfl, n, rfl, RgOk.of_le (by decide) (by omega) (by decide) (by omega), fun r2 hr2 => ?_⟩⟩
  have s2 := (same_upd (o := .lst ((rangeI n).map V.int)) hr').trans (same_upd (o := .lst (rgV 0 n)) hr2)
  refine ⟨_, _, dp_ints (ns := rangeI n) (same_upd (o := .lst (rgV 0 n)) hr2 _ _ upd_same), dp_ints (ns := rangeI n) (by rw [upd_same, rgV_range]), shaped_ints _, shaped_ints _, _, rfl, iteF' (by rw [eqv_shaped (shaped_ints _)]; rfl) ?_⟩
  obtain ⟨H2, e2⟩ : ∃ H2, H2 = upd (upd H1 r (.lst ((rangeI n).map V.int))) r2 (.lst (rgV 0 n)) := ⟨_, rfl⟩
  rw [← e2] at s2 ⊢
  have A2 := A1.same s2
  refine ⟨_, rfl, o, dx, _, rfl, A2.hp, caF_m _ _ _ _ _ _ _ _ _ (by simp), o, dx, me, "out", 0, ro, nu, key, _, pl, _, _, _, rfl, A2, fun u hu => ⟨by show 1 ≤ sizeLine; decide, fun z hz => ⟨_, rfl, z, n, _, rfl, rfl, upd_same, by omega, by omega, ?_, fun v hv => ?_⟩⟩⟩
  · rw [List.length_singleton, Nat.one_mul]
    exact Nat.le_trans (show n.toNat ≤ 60 by omega) (by decide)
  have s3' := (same_upd (o := .lst [.int 0]) hz).trans (same_upd (o := .lst (List.replicate n.toNat [V.int 0]).flatten) hv)
  have s3 := (same_upd (o := .lst ((zeros n).map V.int)) hu).trans s3'
  refine ⟨_, _, dp_ints (ns := zeros n) (s3' _ _ upd_same), dp_ints (ns := zeros n) (by rw [upd_same, flat_zero]; rfl), shaped_ints _, shaped_ints _, _, rfl, iteF' (by rw [eqv_shaped (shaped_ints _)]; rfl) ?_⟩
  obtain ⟨H3, e3⟩ : ∃ H3, H3 = upd (upd (upd H2 u (.lst ((zeros n).map V.int))) z (.lst [.int 0])) v (.lst (List.replicate n.toNat [V.int 0]).flatten) := ⟨_, rfl⟩
  rw [← e3] at s3 ⊢
  have A3 := A2.same s3
  have sA := (s1.trans s2).trans s3
  have FK3 := FK.same sA
  refine ⟨_, rfl, _, rfl, rfl, _, rfl, ?_⟩
  rw [dec_ii]
  refine ite2 (fun c => ?_) (fun c => ?_)
  · have cf : decide (me = a) = false := by simpa using c
    unfold FreshKey at FK3
    rw [cf] at FK3
    have ek : key = .non := FK3
    exact ⟨_, rfl, o, dx, _, rfl, A3.hp, caF_m _ _ _ _ _ _ _ _ _ (by simp), o, dx, me, "out", 0, ro, nu, key, _, pl, _, _, _, rfl, A3, .inl ⟨ek, rfl, q _ sA⟩⟩
  · have ct : decide (me = a) = true := by simpa using c
    unfold FreshKey at FK3
    rw [ct, if_pos rfl] at FK3
    obtain ⟨k, dk, d, ln, ek, KA, _⟩ := FK3
    refine ⟨_, rfl, o, dx, _, rfl, A3.hp, caF_m _ _ _ _ _ _ _ _ _ (by simp), o, dx, me, "out", 0, ro, nu, key, _, pl, _, _, _, rfl, A3, .inr ⟨k, dk, 0, d, ln, _, _, ek, KA, fun t S' H4 s4 pe up dt => ?_⟩⟩
    rw [fresh_back pe up] at dt
    obtain ⟨xs, qt, l3, dv⟩ : ∃ xs : List V, SqT K H4 t xs ∧ xs.length = 3 ∧ xs[0]? = some (.int 0) := by
      cases dt with
      | tup hs ha =>
        cases ha with
        | cons h1 h2 =>
          cases h1
          cases h2 with
          | cons _ h3 =>
            cases h3 with
            | cons _ h4 =>
              cases h4
              exact ⟨_, hs, rfl, rfl⟩
    have e0 : atI xs 0 = some (.int 0) := atI_nat (j := 0) dv
    refine ⟨_, rfl, .ref t, .ty "tuple", _, _, _, rfl, .ty _, ty_sqt qt, kit_ty (r := true) (by decide +kernel), _, rfl, iteF' rfl ?_⟩
    refine ⟨_, rfl, t, xs, rfl, .inr qt, rfl, _, rfl, iteF' (by rw [l3]; rfl) ?_⟩
    refine ⟨_, rfl, t, xs, 0, _, rfl, rfl, qt, e0, .int 0, .ty "bool", _, _, _, rfl, .ty _, .base (.int 0), kit_ty (r := false) (by decide +kernel), _, rfl, iteF' rfl ?_⟩
    refine ⟨_, rfl, _, rfl, _, rfl, by omega, by omega, fun D hD => ?_⟩
    refine lc_range (lo := 0) (n := n.toNat) (fun i G => Same H4 G ∧ ∃ zs, zs.length = i ∧ G D = some (.lst zs) ∧ DpAll K G zs (((List.range i).map fun x : Nat => ((x : Int), (0 : Int))).map pairD)) ⟨same_upd hD, [], rfl, upd_same, .nil⟩ ?_ ?_
    · rintro i G hi ⟨sG, zs, lz, kD, dz⟩
      refine ⟨rfl, lc_yes ?_⟩
      refine ⟨_, rfl, by show 2 ≤ sizeLine; decide, fun u hu => ?_⟩
      have s3 := same_upd (o := .tup [.int (0 + (i : Int)), .int 0]) hu
      have kD3 := s3 _ _ kD
      refine ⟨_, kD3, Nat.lt_of_lt_of_le (show zs.length < 100 by omega) (by decide), fun c o e => ?_, zs ++ [.ref u], by rw [List.length_append, lz]; rfl, upd_same, ?_⟩
      · rw [upd_ne (ne_of_none e hD)]
        exact s3 _ _ (sG _ _ e)
      · refine dps_chg ⟨_, kD3⟩ Chg.self _ _ (noLs_pairs _) ?_
        rw [List.range_succ, List.map_append, List.map_append]
        exact dps_app (dps_same s3 _ _ dz) (.cons (.tup (SqT.of upd_same) (.cons (by rw [Int.zero_add]; exact .int _) (.cons (.int _) .nil))) .nil)
    rintro G ⟨sG, zs, lz, kD, dz⟩
    refine ⟨D, zs, rfl, .inl ⟨SqL.of kD, fun u hu => ?_⟩⟩
    refine ⟨Nat.zero_le _, fun v hv => ⟨by show 3 ≤ sizeLine; decide, fun x hx => ?_⟩⟩
    have s5 := same_upd (o := .tup zs) hu
    have s6 := same_upd (o := .tup []) hv
    have s7 := same_upd (o := .tup [.int 0, .ref u, .ref v]) hx
    have sE := ((sG.trans s5).trans s6).trans s7
    have dn := dps_same ((s5.trans s6).trans s7) _ _ dz
    have ef : ((List.range n.toNat).map fun x : Nat => ((x : Int), (0 : Int))) = freshS n := by
      unfold freshS rangeI
      rw [List.map_map]
      rfl
    rw [ef] at dn
    refine ⟨toldD 0 (freshS n) [], toldD 0 (freshS n) [], dp_same sE _ _ dt, .tup (SqT.of upd_same) (.cons (.int _) (.cons (.tup (SqT.of (s7 _ _ (s6 _ _ upd_same))) dn) (.cons (.tup (SqT.of (s7 _ _ upd_same)) .nil) .nil))), shaped_told _ _ _, shaped_told _ _ _, ?_⟩
    rw [eqv_shaped (shaped_told _ _ _)]
    exact q _ ((sA.trans s4).trans sE)
/-! ### what is told may be spoilt -/
def spSpoilt (K : PySem.W.Frag) (C CK : Addr) : Sp := fun vs H Q _ => ∃ (o : Addr) (me n a : Int), vs = [.ref o] ∧ NewC H C CK o me n a ∧ 1 ≤ n ∧ n ≤ 60 ∧ ∀ H', Same H H' → Q .non H'
theorem sc_law_spoilt : FnScope ["one"] ["one"] (defScope s_law_spoilt) :=
  ⟨rfl, rfl, rfl, by decide +kernel, rfl, by decide +kernel, by decide +kernel⟩
theorem ok_spoilt (F : Fn K mg "_law_spoilt" s_law_spoilt) (S : CalT K C) (MR : Me P w K mg base C "roster" 1 ["self"] (spRos C)) (MN : Me P w K mg base C "numbers" 1 ["self"] (spNum C))
    (MA : Me P w K mg base C "awaits" 1 ["self"] (spAw0 C)) : Cal P w K mg base "_law_spoilt" 2 ["one"] (spSpoilt K C CK) := by
  obtain ⟨fR, fdR, GR, bR, mR⟩ := MR
  obtain ⟨fN, fdN, GN, bN, mN⟩ := MN
  obtain ⟨fA, fdA, GA, bA, mA⟩ := MA
  refine cal_of F sc_law_spoilt
    (fun _ _ _ _ _ _ us hl => match us, hl with | [_], _ => rfl) ?_ ?_
  · rintro vs H Q E ⟨o, me, n, a, rfl, _⟩
    rfl
  rintro f cdv A outer s H vs Q E free hr ⟨o, me, n, a, rfl, ⟨dx, ro, nu, pl, key, A0, FK⟩, n0, n1, q⟩
  have hr1 : Room 1 _ := hr.mono (by decide)
  refine ⟨_, (pss_cons (ps_expr (pe_bm PySem.F.plainAttrs_list PySem.F.slot_list_append PySem.F.type_list_append mt_append (pe_meth0 (pv 0) S.cl mR GR hr1 bR .nil pass0) (pa_cons pe_int pa_nil)))
    (pss_cons (ps_expr (pe_bm PySem.F.plainAttrs_list PySem.F.slot_list_append PySem.F.type_list_append mt_append (pe_meth0 (pv 0) S.cl mN GN hr1 bN .nil pass0) (pa_cons pe_int pa_nil)))
    (pss_one (ps_expr (pe_bm PySem.F.plainAttrs_list PySem.F.slot_list_append PySem.F.type_list_append mt_append (pe_meth0 (pv 0) S.cl mA GA hr1 bA .nil pass0) (pa_cons pe_int pa_nil)))))), ?_⟩
  have big : ∀ {l : List Int}, l.length ≤ 60 → (l.map V.int).length < sizeLine := fun h => by
    rw [List.length_map]
    exact Nat.lt_of_le_of_lt h (by decide)
  have lz : (zeros n).length ≤ 60 := by unfold zeros; rw [List.length_replicate]; omega
  refine ⟨_, rfl, o, dx, _, rfl, A0.hp, caF_m _ _ _ _ _ _ _ _ _ (by simp), o, dx, me, "out", 0, ro, nu, key, _, pl, _, _, _, rfl, A0, fun r hr' => ⟨.inl ⟨rfl, _, SqL.of upd_same⟩, r, _, _, rfl, rfl, upd_same, big (by rw [rangeI_len]; omega), ?_⟩⟩
  rw [upd_upd]
  have s1 := same_upd (o := .lst ((rangeI n).map V.int ++ [.int 7])) hr'
  have A1 := A0.same s1
  refine ⟨_, rfl, o, dx, _, rfl, A1.hp, caF_m _ _ _ _ _ _ _ _ _ (by simp), o, dx, me, "out", 0, ro, nu, key, _, pl, _, _, _, rfl, A1, fun u hu => ⟨.inl ⟨rfl, _, SqL.of upd_same⟩, u, _, _, rfl, rfl, upd_same, big lz, ?_⟩⟩
  rw [upd_upd]
  have s2 := same_upd (o := .lst ((zeros n).map V.int ++ [.int 7])) hu
  have A2 := A1.same s2
  refine ⟨_, rfl, o, dx, _, rfl, A2.hp, caF_m _ _ _ _ _ _ _ _ _ (by simp), o, dx, me, "out", 0, ro, nu, key, pl, _, _, _, rfl, A2, fun v hv => ⟨.inl ⟨rfl, _, SqL.of upd_same⟩, v, _, _, rfl, rfl, upd_same, (by show 0 < sizeLine; decide), ?_⟩⟩
  rw [upd_upd]
  exact q _ ((s1.trans s2).trans (same_upd hv))
/-! ### what is no seat -/
def spOdd (K : PySem.W.Frag) : Sp := fun vs H Q _ => ∃ (a : Addr) (ns : List Int) (n : Int), vs = [.ref a, .int n] ∧ SqL K H a (ns.map V.int) ∧ 1 ≤ n ∧ n ≤ 60 ∧
  ∀ (x : V) (g : GD) (d : PyData) H', Same H H' → Gv K H' x g → g.less n = false → Dp K H' x d → SeqAt.shaped d = true → Q x H'
theorem sc_law_odd : FnScope ["script", "seats", "far", "some"] ["script", "seats"] (defScope s_law_odd) :=
  ⟨rfl, rfl, rfl, by decide +kernel, rfl, by decide +kernel, by decide +kernel⟩
theorem ok_odd (F : Fn K mg "_law_odd" s_law_odd) (C_cell_at : Cal P w K mg base "_law_cell_at" 1 ["script", "k"] (spCell K)) : Cal P w K mg base "_law_odd" 2 ["script", "seats"] (spOdd K) := by
  refine cal_of F sc_law_odd
    (fun _ _ _ _ _ _ us hl => match us, hl with | [_, _], _ => rfl) ?_ ?_
  · rintro vs H Q E ⟨a, ns, n, rfl, _⟩
    rfl
  rintro f cdv A outer s H vs Q E free hr ⟨a, ns, n, rfl, hS, n0, n1, q⟩
  refine ⟨_, (pss_cons (ps_set (i := 2) sc_law_odd.nd rfl (Or.inl rfl) (pe_op op_mod (pe_cal C_cell_at free (hr.mono (by decide)) (pa_cons (pv 0) (pa_cons pe_int pa_nil))) (pe_op op_pow pe_int pe_int)))
    (pss_cons (ps_set (i := 3) sc_law_odd.nd rfl (Or.inl rfl) (pe_lst (pa_cons (pe_op op_add (pv 1) (pv 2)) (pa_cons (pe_op op_sub (pe_op op_sub pe_int pe_int) (pv 2)) (pa_cons pe_bl (pa_cons pe_bl (pa_cons pe_non (pa_cons pe_str (pa_cons (pe_tup (pa_cons pe_int pa_nil)) (pa_cons (pe_lst (pa_cons pe_int pa_nil)) pa_nil))))))))))
    (pss_one (ps_ret (pe_ix ix_list (pv 3) (pe_op op_mod (pe_op op_fdivW (pe_cal C_cell_at free (hr.mono (by decide)) (pa_cons (pv 0) (pa_cons pe_int pa_nil))) pe_int) pe_int) (fun _ _ => rfl)))))), ?_⟩
  refine ⟨_, rfl, a, ns, 2, rfl, hS, by decide, fun c => ⟨_, _, rfl, rfl, ⟨by decide, by decide, by decide⟩, _, _, rfl, rfl, ?_, ?_⟩⟩
  · show (0 : Int) < 10 ^ (Int.toNat 40)
    decide
  obtain ⟨far, hf⟩ : ∃ far : Int, far = c % 10 ^ (Int.toNat 40) := ⟨_, rfl⟩
  have far0 : 0 ≤ far := by rw [hf]; exact Int.emod_nonneg _ (by decide)
  refine ⟨_, rfl, _, rfl, _, _, rfl, rfl, _, _, rfl, rfl, _, rfl, _, _, rfl, rfl, by show 1 ≤ sizeLine; decide, fun t ht => ⟨by show 1 ≤ sizeLine; decide, fun l hl => ⟨by show 8 ≤ sizeLine; decide, fun o ho => ?_⟩⟩⟩
  have s1 := same_upd (o := .tup [.int 0]) ht
  have s2 := same_upd (o := .lst [.int 0]) hl
  have s3 := same_upd (o := .lst [.int (n + c % 10 ^ (Int.toNat 40)), .int (0 - 1 - c % 10 ^ (Int.toNat 40)), .bl true, .bl false, .non, .str "0", .ref t, .ref l]) ho
  have sA := (s1.trans s2).trans s3
  have kt := s3 _ _ (s2 _ _ (upd_same (a := t) (H := H) (o := .tup [.int 0])))
  have kl := s3 _ _ (upd_same (a := l) (H := upd H t (.tup [.int 0])) (o := .lst [.int 0]))
  refine ⟨_, rfl, _, rfl, a, ns, 1, rfl, sA.seq hS, by decide, fun c2 => ⟨_, _, rfl, rfl, ⟨by decide, by decide⟩, _, _, rfl, rfl, (by show (0 : Int) < 8; decide), ?_⟩⟩
  obtain ⟨H4, e4⟩ : ∃ H4, H4 = upd (upd (upd H t (.tup [.int 0])) l (.lst [.int 0])) o (.lst [.int (n + c % 10 ^ (Int.toNat 40)), .int (0 - 1 - c % 10 ^ (Int.toNat 40)), .bl true, .bl false, .non, .str "0", .ref t, .ref l]) := ⟨_, rfl⟩
  have ko : H4 o = some (.lst [.int (n + c % 10 ^ (Int.toNat 40)), .int (0 - 1 - c % 10 ^ (Int.toNat 40)), .bl true, .bl false, .non, .str "0", .ref t, .ref l]) := by rw [e4]; exact upd_same
  rw [← e4] at sA kt kl
  show rIxL K _ _ _ _
  suffices hs : ∀ i : Int, 0 ≤ i → i < 8 → ∃ v g d, atI [V.int (n + c % 10 ^ (Int.toNat 40)), .int (0 - 1 - c % 10 ^ (Int.toNat 40)), .bl true, .bl false, .non, .str "0", .ref t, .ref l] i = some v ∧ Gv K H4 v g ∧ g.less n = false ∧ Dp K H4 v d ∧ SeqAt.shaped d = true by
    obtain ⟨v, g, d, e, a1, a2, a3, a4⟩ := hs (c2 / 60 % 8) (Int.emod_nonneg _ (by decide)) (Int.emod_lt_of_pos _ (by decide))
    rw [← e4]
    exact ⟨o, _, _, v, rfl, rfl, SqL.of ko, e, q v g d H4 sA a1 a2 a3 a4⟩
  rw [hf] at far0
  intro i i0 i1
  have : i = 0 ∨ i = 1 ∨ i = 2 ∨ i = 3 ∨ i = 4 ∨ i = 5 ∨ i = 6 ∨ i = 7 := by omega
  rcases this with rfl | rfl | rfl | rfl | rfl | rfl | rfl | rfl
  · exact ⟨_, .int _, .int _, rfl, .int _, by simp only [GD.less]; exact decide_eq_false (fun h => by omega), .int _, shaped_int _⟩
  · exact ⟨_, .int _, .int _, rfl, .int _, by simp only [GD.less]; exact decide_eq_false (fun h => by omega), .int _, shaped_int _⟩
  · exact ⟨_, .bl true, .bool true, rfl, .bl _, rfl, .bl _, by decide +kernel⟩
  · exact ⟨_, .bl false, .bool false, rfl, .bl _, rfl, .bl _, by decide +kernel⟩
  · exact ⟨_, .non, .none, rfl, .non, rfl, .non, by decide +kernel⟩
  · exact ⟨_, .str "0", .str "0", rfl, .str (by decide +kernel), rfl, .str _, by decide +kernel⟩
  · exact ⟨_, .tup [.int 0], .tuple [.int 0], rfl, .tup (SqT.of kt) (by decide) (.cons (.int _) .nil), rfl, .tup (SqT.of kt) (.cons (.int _) .nil), by decide +kernel⟩
  · exact ⟨_, .lst, .list [.int 0], rfl, .lst kl, rfl, .lst (SqL.of kl) (.cons (.int _) .nil), by decide +kernel⟩
end

end G0
namespace G0
open PySem PySem.Spec PyProof.Rows L2 NdefX ClX
section
variable {P : Program} {w : World} {K : PySem.W.Frag} {mg : Str → Option Value} {base : Heap} {C CK : Addr}
/-! ### what is refused -/
def spRefused (K : PySem.W.Frag) : Sp := fun vs H Q _ => ∃ (x : V) (n : Int) (g : GD) (d : PyData), vs = [x, .int n] ∧ 1 ≤ n ∧ n ≤ 60 ∧ Gv K H x g ∧ g.less n = false ∧ Dp K H x d ∧ SeqAt.shaped d = true ∧ ∀ H', Same H H' → Q (.bl true) H'
theorem sc_law_refused : FnScope ["odd", "seats", "told", "e", "caught"] ["odd", "seats"] (defScope s_law_refused) :=
  ⟨rfl, rfl, rfl, by decide +kernel, rfl, by decide +kernel, by decide +kernel⟩
theorem ok_refused {CN CS CF : Addr} (F : Fn K mg "_law_refused" s_law_refused) (T : BlC71 mg) (hVE : mg "ValueError" = none) (NT : NsT P w K mg base CN CS CF) (CC : CsX P w K mg base (spCallers K C CK CN)) : Cal P w K mg base "_law_refused" 7 ["odd", "seats"] (spRefused K) := by
  obtain ⟨fX, fdX, dsX, GX, rX, bX, kX, mX, kpX⟩ := CC.made
  have gN := NT.gN
  have gS := NT.gS
  have gF := NT.gF
  refine cal_of F sc_law_refused
    (fun _ _ _ _ _ _ us hl => match us, hl with | [_, _], _ => rfl) ?_ ?_
  · rintro vs H Q E ⟨x, n, g, d, rfl, _⟩
    rfl
  rintro f cdv A outer s H vs Q E free hr ⟨x, n, g, d, rfl, n0, n1, hx, less, hd, sh, q⟩
-- [(0, 'odd'), (1, 'seats'), (2, 'told'), (3, 'e'), (4, 'caught')]
  refine ⟨_, (pss_cons (ps_set (i := 2) sc_law_refused.nd rfl (Or.inl rfl) pe_non)
    (pss_cons (ps_try_as (i := 3) rfl rfl sc_law_refused.nd rfl rfl ⟨rfl, by decide, .inl gN⟩ takes0 (fun W pn xe tk _ => (pss_one (ps_expr (pe_callKX GX hr mX kpX kX (fun σ => passAt tk σ) (pa_cons (pv 1) pa_nil) (pk_cons (pv 0) pk_nil)))))
    (fun a oe cls d pn hz hf => (pss_one (ps_set (i := 2) sc_law_refused.nd rfl (Or.inl rfl) (pe_lst (pa_cons (pe_xf NT.xf NT.xc.no hz hf (pv 3)) (pa_cons (pe_callB (call_isS hz hf) (by rfl) T.isinstance (by decide +kernel) (pa_cons (pv 3) (pa_cons (pe_glob (v := .ref CS) (by rfl) gS rfl) pa_nil))) (pa_cons (pe_callB (call_isS hz hf) (by rfl) T.isinstance (by decide +kernel) (pa_cons (pv 3) (pa_cons (pe_bltn (v := .ty "ValueError") (by rfl) hVE (by decide +kernel) rfl) pa_nil))) (pa_cons (pe_callB (call_isS hz hf) (by rfl) T.isinstance (by decide +kernel) (pa_cons (pv 3) (pa_cons (pe_glob (v := .ref CF) (by rfl) gF rfl) pa_nil))) pa_nil)))))))))
    (pss_cons (ps_if (PW.pt (pw_or (pt_cmpR op_isN (pv 2) pe_non (nomark _)) (pw_or (pt_cmpR (op_neD (u64 hr)) (pe_slice sl_list (pv 2) (po_some pe_int) po_none) (pe_lst (pa_cons pe_bl (pa_cons pe_bl (pa_cons pe_bl pa_nil)))) (nomark _)) (pw_or1 (pt_cmpR op_ne (pe_callB call_isi (by rfl) T.isinstance (by decide +kernel) (pa_cons (pe_ix ix_list (pv 2) pe_int (fun _ _ => rfl)) (pa_cons (pe_bltn (v := .ty "bool") (by rfl) T.bool (by decide +kernel) rfl) pa_nil))) (pe_callB call_isi (by rfl) T.isinstance (by decide +kernel) (pa_cons (pv 0) (pa_cons (pe_bltn (v := .ty "bool") (by rfl) T.bool (by decide +kernel) rfl) pa_nil))) (nomark _))))))
    (pss_one (ps_ret pe_bl))
    pss_nil)
    (pss_cons (ps_set (i := 4) sc_law_refused.nd rfl (Or.inl rfl) pe_bl)
    (pss_cons (ps_try_only rfl rfl ⟨rfl, by decide, .inl gS⟩ takes0 (fun W pn xe tk _ => (pss_one (ps_expr (pe_callKX GX hr mX kpX kX (fun σ => passAt tk σ) (pa_cons (pv 1) pa_nil) (pk_cons (pv 0) pk_nil)))))
    (fun a oe cls d pn hz hf => (pss_one (ps_set (i := 4) sc_law_refused.nd rfl (Or.inl rfl) pe_bl))))
    (pss_one (ps_ret (pe_and (pv 4) (pe_one (pe_cmpR (op_eqD (u64 hr)) (pe_ix ix_list (pv 2) pe_int (fun _ _ => rfl)) (pv 0) (nomark _))))))))))), ?_⟩
  refine ⟨_, rfl, _, rfl, rfl, rfl, n, x, g, rfl, hx, n0, n1, fun _ dd hdd => ?_, fun a e a0 a1 => ?_⟩
  · refine ⟨true, NT.exN, fun _ a0 ha0 => ?_, fun z => nomatch z⟩
    refine ⟨_, rfl, rfl, rfl, dd, [("seat", x)], x, rfl, upd_same, List.lookup_cons_self, ?_⟩
    refine ⟨_, rfl, CN, dd, .ref CS, .ref CS, true, rfl, rfl, NT.xh, rfl, fun u r => r, NT.kS, ⟨_, upd_same⟩, ?_⟩
    refine ⟨_, rfl, CN, dd, .ty "ValueError", .type "ValueError", true, rfl, rfl, NT.xh, rfl, fun u r => r, NT.kV, ⟨_, upd_same⟩, ?_⟩
    refine ⟨_, rfl, CN, dd, .ref CF, .ref CF, false, rfl, rfl, NT.xh, rfl, fun u r => r, NT.kF, ⟨_, upd_same⟩, ?_⟩
    refine ⟨by show 4 ≤ sizeLine; decide, fun l hl => ?_⟩
    have s1 := (same_upd (o := .xd [("seat", x)]) hdd).trans (same_upd (o := .lst [x, .bl true, .bl true, .bl false]) hl)
    obtain ⟨H1, e1⟩ : ∃ H1, H1 = upd (upd H dd (.xd [("seat", x)])) l (.lst [x, .bl true, .bl true, .bl false]) := ⟨_, rfl⟩
    have k1 : H1 l = some (.lst [x, .bl true, .bl true, .bl false]) := by rw [e1]; exact upd_same
    rw [← e1] at s1 ⊢
    clear e1
    refine ⟨_, rfl, rfl, _, rfl, iteF' rfl ?_⟩
    refine ⟨_, rfl, _, rfl, l, _, rfl, SqL.of k1, fun t ht => ⟨by show 3 ≤ sizeLine; decide, fun z hz => ?_⟩⟩
    have s2 := (same_upd (o := .lst (cutV [x, .bl true, .bl true, .bl false] (some 1) none)) ht).trans (same_upd (o := .lst [.bl true, .bl true, .bl false]) hz)
    refine ⟨.list [.bool true, .bool true, .bool false], .list [.bool true, .bool true, .bool false], .lst (SqL.of (same_upd (o := .lst [.bl true, .bl true, .bl false]) hz _ _ upd_same)) (.cons (.bl _) (.cons (.bl _) (.cons (.bl _) .nil))),
      .lst (SqL.of upd_same) (.cons (.bl _) (.cons (.bl _) (.cons (.bl _) .nil))), by decide +kernel, by decide +kernel, _, rfl, iteF' (by decide +kernel) ?_⟩
    obtain ⟨H2, e2⟩ : ∃ H2, H2 = upd (upd H1 t (.lst (cutV [x, .bl true, .bl true, .bl false] (some 1) none))) z (.lst [.bl true, .bl true, .bl false]) := ⟨_, rfl⟩
    have s2' : Same H1 H2 := by rw [e2]; exact s2
    rw [← e2]
    have k2 := s2' _ _ k1
    have hx2 := gv_same (s1.trans s2') g x hx
    have at0 : atI [x, V.bl true, .bl true, .bl false] 0 = some x := atI_nat (j := 0) rfl
    refine ⟨_, rfl, l, _, 0, x, rfl, rfl, SqL.of k2, at0, x, .ty "bool", _, _, _, rfl, .ty _, gv_ty hx2, kit_bool g, ?_⟩
    refine ⟨_, rfl, x, .ty "bool", _, _, _, rfl, .ty _, gv_ty hx2, kit_bool g, rfl, _, rfl, iteF' (by simp) ?_⟩
    refine ⟨_, rfl, _, rfl, rfl, rfl, n, x, g, rfl, hx2, n0, n1, fun _ d3 hd3 => ?_, fun a e a0 a1 => ?_⟩
    · refine ⟨true, NT.exS, fun _ a3 ha3 => ?_, fun z => nomatch z⟩
      have s3 := same_upd (o := .xd [("seat", x)]) hd3
      have k3 := s3 _ _ k2
      have d4 := dp_same ((s1.trans s2').trans s3) _ _ hd
      refine ⟨_, rfl, _, rfl, iteT' rfl ?_⟩
      refine ⟨_, rfl, l, _, 0, x, rfl, rfl, SqL.of k3, at0, _, rfl, d, d, d4, d4, sh, sh, ?_⟩
      rw [eqv_shaped sh]
      exact q _ ((s1.trans s2').trans s3)
    · subst e
      cases hx with
      | int i => simp only [GD.less] at less; exact absurd ⟨a0, a1⟩ (of_decide_eq_false less)
  · subst e
    cases hx with
    | int i => simp only [GD.less] at less; exact absurd ⟨a0, a1⟩ (of_decide_eq_false less)
/-! ### the law -/
def spLaw (K : PySem.W.Frag) : Sp := fun vs H Q _ => ∃ (a : Addr) (ns : List Int), vs = [.ref a] ∧ SqL K H a (ns.map V.int) ∧ ∀ H', Q (.bl true) H'
theorem passL' {X : Cx} (σ : L2.St) : PassesAt (L2.CX X.prog X.w) X σ E0 := fun pins H s e s' I c => passL pins σ H s e s' I c
theorem sc_law : FnScope ["script", "seats", "begins", "way", "ones", "me", "alone"] ["script"] (defScope s_law) :=
  ⟨rfl, rfl, rfl, by decide +kernel, rfl, by decide +kernel, by decide +kernel⟩
theorem ok_law {CN : Addr} (F : Fn K mg "law" s_law) (T : BlC71 mg) (hF : ∃ t, mg "FIRST" = some (.int 0 t)) (MC : MkC P w K mg base C CK) (CC : CsX P w K mg base (spCallers K C CK CN)) (C_cell_at : Cal P w K mg base "_law_cell_at" 1 ["script", "k"] (spCell K))
    (C_new : Cal P w K mg base "_law_new" 3 ["one", "me", "seats", "begins"] (spNew K C CK)) (C_spoilt : Cal P w K mg base "_law_spoilt" 2 ["one"] (spSpoilt K C CK)) (C_odd : Cal P w K mg base "_law_odd" 2 ["script", "seats"] (spOdd K)) (C_refused : Cal P w K mg base "_law_refused" 7 ["odd", "seats"] (spRefused K)) :
    Cal P w K mg base "law" 8 ["script"] (spLaw K) := by
  obtain ⟨t0, hFi⟩ := hF
  obtain ⟨fX, fdX, dsX, GX, rX, bX, kX, mX, kpX⟩ := CC.made
  obtain ⟨fC, fdC, dsC, GC, rC, bC, kC, MI⟩ := MC.made
  have gC := MC.mg
  refine cal_of F sc_law
    (fun _ _ _ _ _ _ us hl => match us, hl with | [_], _ => rfl) ?_ ?_
  · rintro vs H Q E ⟨a, ns, rfl, _⟩
    rfl
  rintro f cdv A outer s H vs Q E free hr ⟨sa, ns, rfl, hS, q⟩
  have hr6 : Room 6 _ := hr.mono (by decide)
  have hr4 : Room 4 _ := hr.mono (by decide)
-- [(0, 'script'), (1, 'seats'), (2, 'begins'), (3, 'way'), (4, 'ones'), (5, 'me'), (6, 'alone')]
  refine ⟨_, (pss_cons (ps_set (i := 1) sc_law.nd rfl (Or.inl rfl) (pe_op op_add pe_int (pe_op op_mod (pe_cal C_cell_at free (hr.mono (by decide)) (pa_cons (pv 0) (pa_cons pe_int pa_nil))) pe_int)))
    (pss_cons (ps_set (i := 2) sc_law.nd rfl (Or.inl rfl) (pe_op op_mod (pe_cal C_cell_at free (hr.mono (by decide)) (pa_cons (pv 0) (pa_cons pe_int pa_nil))) (pv 1)))
    (pss_cons (ps_set (i := 3) sc_law.nd rfl (Or.inl rfl) (pe_op op_mod (pe_op op_fdivW (pe_cal C_cell_at free (hr.mono (by decide)) (pa_cons (pv 0) (pa_cons pe_int pa_nil))) pe_int) pe_int))
    (pss_cons (ps_if (PW.pt (pw_and (pt_cmpR op_gt (pv 3) pe_int (nomark _)) (pw_and1 (pt_not (pt_val (pe_cal C_refused free (hr.mono (by decide)) (pa_cons (pe_cal C_odd free (hr.mono (by decide)) (pa_cons (pv 0) (pa_cons (pv 1) pa_nil))) (pa_cons (pv 1) pa_nil))))))))
    (pss_one (ps_ret pe_bl))
    pss_nil)
    (pss_cons (ps_set (i := 4) sc_law.nd rfl (Or.inl rfl) (pe_callKX (E := fun _ => E0) GX hr6 mX kpX kX passL' (pa_cons (pv 1) pa_nil) (pk_cons (pv 2) pk_nil)))
    (pss_cons (ps_if (pt_cmpR op_eq (pv 3) pe_int (nomark _))
    (pss_cons (ps_set (i := 2) sc_law.nd rfl (Or.inl rfl) pe_int)
    (pss_one (ps_set (i := 4) sc_law.nd rfl (Or.inl rfl) (pe_call GX hr6 (by rfl) mX kpX bX rX passL (pa_cons (pv 1) pa_nil)))))
    pss_nil)
    (pss_cons (ps_if (PW.pt (pw_or (pt_cmpR op_ne (pe_glob (v := .int 0) (by rfl) hFi ⟨_, rfl⟩) pe_int (nomark _)) (pw_or (pt_not (pt_val (pe_callB call_isi (by rfl) T.isinstance (by decide +kernel) (pa_cons (pv 4) (pa_cons (pe_bltn (v := .ty "list") (by rfl) T.list (by decide +kernel) rfl) pa_nil))))) (pw_or1 (pt_cmpR op_ne (pe_callB call_len_seq (by rfl) T.len (by decide +kernel) (pa_cons (pv 4) pa_nil)) (pv 1) (nomark _))))))
    (pss_one (ps_ret pe_bl))
    pss_nil)
    (pss_cons (ps_for PassesOwn.never rfl (pi_range1 (by rfl) T.range (pa_cons (pv 1) pa_nil)) (pg_name (i := 5) sc_law.nd rfl (Or.inl rfl))
    (pss_cons (ps_if (pt_not (pt_val (pe_cal C_new free (hr.mono (by decide)) (pa_cons (pe_ix ix_list (pv 4) (pv 5) (fun _ _ => rfl)) (pa_cons (pv 5) (pa_cons (pv 1) (pa_cons (pv 2) pa_nil)))))))
    (pss_one (ps_ret pe_bl))
    pss_nil)
    (pss_cons (ps_expr (pe_cal C_spoilt free (hr.mono (by decide)) (pa_cons (pe_ix ix_list (pv 4) (pv 5) (fun _ _ => rfl)) pa_nil)))
    (pss_one (ps_if (pt_not (pt_val (pe_cal C_new free (hr.mono (by decide)) (pa_cons (pe_ix ix_list (pv 4) (pv 5) (fun _ _ => rfl)) (pa_cons (pv 5) (pa_cons (pv 1) (pa_cons (pv 2) pa_nil)))))))
    (pss_one (ps_ret pe_bl))
    pss_nil)))))
    (pss_cons (ps_set (i := 5) sc_law.nd rfl (Or.inl rfl) (pe_op op_mod (pe_cal C_cell_at free (hr.mono (by decide)) (pa_cons (pv 0) (pa_cons pe_int pa_nil))) (pv 1)))
    (pss_cons (ps_set (i := 6) sc_law.nd rfl (Or.inl rfl) (pe_makeK MI GC hr4 (by rfl) gC kC pass0 (pa_cons (pv 5) (pa_cons (pv 1) pa_nil)) (pk_cons (pv 2) pk_nil)))
    (pss_cons (ps_if (pt_cmpR op_eq (pv 3) pe_int (nomark _))
    (pss_one (ps_set (i := 6) sc_law.nd rfl (Or.inl rfl) (pe_make MI GC hr4 (by rfl) gC bC rC pass0 (pa_cons (pv 5) (pa_cons (pv 1) pa_nil)))))
    pss_nil)
    (pss_one (ps_ret (pe_cal C_new free (hr.mono (by decide)) (pa_cons (pv 6) (pa_cons (pv 5) (pa_cons (pv 1) (pa_cons (pv 2) pa_nil)))))))))))))))))), ?_⟩
  refine ⟨_, rfl, sa, ns, 0, rfl, hS, by decide, fun c0 => ⟨_, _, rfl, rfl, (by show (0 : Int) < 60; decide), _, _, rfl, rfl, ?_⟩⟩
  show gName 1 (V.int (1 + c0 % 60)) _ H _
  obtain ⟨n, hn⟩ : ∃ n : Int, n = 1 + c0 % 60 := ⟨_, rfl⟩
  have n0 : 1 ≤ n := by have := Int.emod_nonneg c0 (show (60 : Int) ≠ 0 by decide); omega
  have n1 : n ≤ 60 := by have := Int.emod_lt_of_pos c0 (show (0 : Int) < 60 by decide); omega
  rw [← hn]
  clear hn
  refine ⟨_, rfl, sa, ns, 1, rfl, hS, by decide, fun c1 => ⟨_, rfl, _, _, rfl, rfl, (by show (0 : Int) < n; omega), ?_⟩⟩
  show gName 2 (V.int (c1 % n)) _ H _
  obtain ⟨b, hb⟩ : ∃ b : Int, b = c1 % n := ⟨_, rfl⟩
  have b0 : 0 ≤ b := by rw [hb]; exact Int.emod_nonneg _ (by omega)
  have b1 : b < n := by rw [hb]; exact Int.emod_lt_of_pos _ (by omega)
  rw [← hb]
  clear hb
  refine ⟨_, rfl, sa, ns, 0, rfl, hS, by decide, fun c2 => ⟨_, _, rfl, rfl, ⟨by decide, by decide⟩, _, _, rfl, rfl, (by show (0 : Int) < 5; decide), ?_⟩⟩
  show gName 3 (V.int (c2 / 60 % 5)) _ H _
  generalize c2 / 60 % 5 = wy
  have lessI : ∀ i : Int, 0 ≤ i → i < n → (GD.int i).less n = false → False := fun i h0 h1 h2 => by
    simp only [GD.less] at h2
    exact absurd ⟨h0, h1⟩ (of_decide_eq_false h2)
  refine ⟨_, rfl, _, _, rfl, rfl, _, rfl, ?_⟩
  refine ite2 (fun c => ?_) (fun c => ?_)
  · refine ⟨_, rfl, _, rfl, sa, ns, n, rfl, hS, n0, n1, fun x g d H1 s1 hx less hd sh => ⟨_, rfl, x, n, g, d, rfl, n0, n1, hx, less, hd, sh, fun H2 s2 => ⟨_, rfl, iteF' rfl ?_⟩⟩⟩
    have sS := s1.trans s2
    refine ⟨_, rfl, _, rfl, rfl, rfl, n, .int b, .int b, rfl, .int b, n0, n1, fun e => (lessI b b0 b1 e).elim, fun a e a0 a1 l os G sG R => ?_⟩
    cases e
    refine ⟨_, rfl, rfl, _, rfl, ?_⟩
    rw [dec_ii]
    refine ite2 (fun c => ?_) (fun c => ?_)
    · refine ⟨_, rfl, n, .int 0, .int 0, rfl, .int 0, n0, n1, fun e => (lessI 0 (by omega) (by omega) e).elim, fun a e a0 a1 l2 os2 G2 sG2 R2 => ?_⟩
      cases e
      have sH2 := (sS).trans (sG.trans sG2)
      refine ⟨rfl, _, rfl, iteF' rfl ?_⟩
      refine ⟨_, rfl, .ref l2, .ty "list", _, _, _, rfl, .ty _, .base (.lst (R2).at_), kit_ty (r := true) (by decide +kernel), _, rfl, iteF' rfl ?_⟩
      refine ⟨_, rfl, l2, _, rfl, .inl (SqL.of (R2).at_), _, rfl, rfl, _, rfl, iteF' ?_ ?_⟩
      · rw [dec_ii, List.length_map, (R2).len]
        simp
        omega
      refine ⟨_, rfl, _, rfl, by omega, by omega, ?_⟩
      refine for_range (lo := 0) (n := n.toNat) (fun i σ G' => (∃ z5 : Option V, σ = [some (V.ref sa), some (V.int n), some (V.int ((0:Int))), some (V.int wy), some (V.ref l2), z5, none]) ∧ Same G2 G') ⟨⟨_, rfl⟩, Same.refl _⟩ ?_ ?_
      · rintro i σ G' hi ⟨⟨z5, rfl⟩, sG'⟩
        have io : i < (os2).length := by rw [(R2).len]; exact hi
        have eo : (os2)[i]? = some (os2)[i] := List.getElem?_eq_getElem io
        have NW := ((R2).all i _ eo).same sG'
        have at_ : atI ((os2).map V.ref) (0 + (i : Int)) = some (.ref (os2)[i]) := by
          rw [Int.zero_add]
          exact atI_nat (by rw [List.getElem?_map, eo]; rfl)
        rw [← Int.zero_add (i : Int)] at NW
        refine ⟨_, rfl, _, rfl, l2, _, _, _, rfl, rfl, SqL.of (sG' _ _ (R2).at_), at_, _, rfl, _, rfl, _, rfl, _, _, n, _, rfl, NW, n0, n1, fun H4 s4 => ⟨_, rfl, iteF' rfl ?_⟩⟩
        refine ⟨_, rfl, _, rfl, l2, _, _, _, rfl, rfl, SqL.of (s4 _ _ (sG' _ _ (R2).at_)), at_, _, _, n, _, rfl, NW.same s4, n0, n1, fun H5 s5 => ?_⟩
        refine ⟨_, rfl, _, rfl, l2, _, _, _, rfl, rfl, SqL.of (s5 _ _ (s4 _ _ (sG' _ _ (R2).at_))), at_, _, rfl, _, rfl, _, rfl, _, _, n, _, rfl, (NW.same s4).same s5, n0, n1, fun H6 s6 => ⟨_, rfl, iteF' rfl ?_⟩⟩
        exact ⟨⟨_, rfl⟩, ((sG'.trans s4).trans s5).trans s6⟩
      rintro σ G' ⟨⟨z5, rfl⟩, sG'⟩
      refine ⟨_, rfl, sa, ns, 3, rfl, (sH2).seq hS |> sG'.seq, by decide, fun c3 => ⟨_, rfl, _, _, rfl, rfl, (by show (0 : Int) < n; omega), ?_⟩⟩
      show gName 5 (V.int (c3 % n)) _ G' _
      generalize c3 % n = me
      refine ⟨_, rfl, _, rfl, _, rfl, rfl, rfl, fun y dy hy hdy ne => ⟨y, dy, me, n, (0:Int), rfl, upd_same, n0, n1, fun ro nu pl key H7 cg r0 u0 l0 A0 FK => ⟨rfl, ?_⟩⟩⟩
      have FK' : FreshKey H7 CK n key (decide (me = (0:Int))) (fun _ => True) := FK.imp
      refine ⟨_, rfl, rfl, _, rfl, ?_⟩
      rw [dec_ii]
      refine ite2 (fun cw => ?_) (fun cw => ?_)
      · have eB : (0:Int) = 0 := (fun _ => rfl) (of_decide_eq_true cw)
        refine ⟨_, rfl, _, rfl, fun y2 dy2 hy2 hdy2 ne2 => ⟨y2, dy2, me, n, 0, rfl, upd_same, n0, n1, fun ro2 nu2 pl2 key2 H8 cg2 r2 u2 l2 A2 FK2 => ⟨rfl, ?_⟩⟩⟩
        have NW : NewC H8 C CK y2 me n ((0:Int)) := by
          rw [eB]
          exact ⟨_, _, _, _, _, A2, FK2.imp⟩
        exact ⟨_, rfl, _, rfl, _, rfl, _, rfl, y2, me, n, _, rfl, NW, n0, n1, fun H9 _ => q H9⟩
      · exact ⟨_, rfl, _, rfl, _, rfl, _, rfl, y, me, n, _, rfl, ⟨_, _, _, _, _, A0, FK'⟩, n0, n1, fun H9 _ => q H9⟩
    · have sH2 := (sS).trans sG
      have nw : wy = 1 → b = 0 := fun h => absurd (decide_eq_true h) c
      refine ⟨rfl, _, rfl, iteF' rfl ?_⟩
      refine ⟨_, rfl, .ref l, .ty "list", _, _, _, rfl, .ty _, .base (.lst (R).at_), kit_ty (r := true) (by decide +kernel), _, rfl, iteF' rfl ?_⟩
      refine ⟨_, rfl, l, _, rfl, .inl (SqL.of (R).at_), _, rfl, rfl, _, rfl, iteF' ?_ ?_⟩
      · rw [dec_ii, List.length_map, (R).len]
        simp
        omega
      refine ⟨_, rfl, _, rfl, by omega, by omega, ?_⟩
      refine for_range (lo := 0) (n := n.toNat) (fun i σ G' => (∃ z5 : Option V, σ = [some (V.ref sa), some (V.int n), some (V.int (b)), some (V.int wy), some (V.ref l), z5, none]) ∧ Same G G') ⟨⟨_, rfl⟩, Same.refl _⟩ ?_ ?_
      · rintro i σ G' hi ⟨⟨z5, rfl⟩, sG'⟩
        have io : i < (os).length := by rw [(R).len]; exact hi
        have eo : (os)[i]? = some (os)[i] := List.getElem?_eq_getElem io
        have NW := ((R).all i _ eo).same sG'
        have at_ : atI ((os).map V.ref) (0 + (i : Int)) = some (.ref (os)[i]) := by
          rw [Int.zero_add]
          exact atI_nat (by rw [List.getElem?_map, eo]; rfl)
        rw [← Int.zero_add (i : Int)] at NW
        refine ⟨_, rfl, _, rfl, l, _, _, _, rfl, rfl, SqL.of (sG' _ _ (R).at_), at_, _, rfl, _, rfl, _, rfl, _, _, n, _, rfl, NW, n0, n1, fun H4 s4 => ⟨_, rfl, iteF' rfl ?_⟩⟩
        refine ⟨_, rfl, _, rfl, l, _, _, _, rfl, rfl, SqL.of (s4 _ _ (sG' _ _ (R).at_)), at_, _, _, n, _, rfl, NW.same s4, n0, n1, fun H5 s5 => ?_⟩
        refine ⟨_, rfl, _, rfl, l, _, _, _, rfl, rfl, SqL.of (s5 _ _ (s4 _ _ (sG' _ _ (R).at_))), at_, _, rfl, _, rfl, _, rfl, _, _, n, _, rfl, (NW.same s4).same s5, n0, n1, fun H6 s6 => ⟨_, rfl, iteF' rfl ?_⟩⟩
        exact ⟨⟨_, rfl⟩, ((sG'.trans s4).trans s5).trans s6⟩
      rintro σ G' ⟨⟨z5, rfl⟩, sG'⟩
      refine ⟨_, rfl, sa, ns, 3, rfl, (sH2).seq hS |> sG'.seq, by decide, fun c3 => ⟨_, rfl, _, _, rfl, rfl, (by show (0 : Int) < n; omega), ?_⟩⟩
      show gName 5 (V.int (c3 % n)) _ G' _
      generalize c3 % n = me
      refine ⟨_, rfl, _, rfl, _, rfl, rfl, rfl, fun y dy hy hdy ne => ⟨y, dy, me, n, b, rfl, upd_same, n0, n1, fun ro nu pl key H7 cg r0 u0 l0 A0 FK => ⟨rfl, ?_⟩⟩⟩
      have FK' : FreshKey H7 CK n key (decide (me = b)) (fun _ => True) := FK.imp
      refine ⟨_, rfl, rfl, _, rfl, ?_⟩
      rw [dec_ii]
      refine ite2 (fun cw => ?_) (fun cw => ?_)
      · have eB : b = 0 := nw (of_decide_eq_true cw)
        refine ⟨_, rfl, _, rfl, fun y2 dy2 hy2 hdy2 ne2 => ⟨y2, dy2, me, n, 0, rfl, upd_same, n0, n1, fun ro2 nu2 pl2 key2 H8 cg2 r2 u2 l2 A2 FK2 => ⟨rfl, ?_⟩⟩⟩
        have NW : NewC H8 C CK y2 me n (b) := by
          rw [eB]
          exact ⟨_, _, _, _, _, A2, FK2.imp⟩
        exact ⟨_, rfl, _, rfl, _, rfl, _, rfl, y2, me, n, _, rfl, NW, n0, n1, fun H9 _ => q H9⟩
      · exact ⟨_, rfl, _, rfl, _, rfl, _, rfl, y, me, n, _, rfl, ⟨_, _, _, _, _, A0, FK'⟩, n0, n1, fun H9 _ => q H9⟩
  · refine iteF' rfl ?_
    have sS := Same.refl H
    refine ⟨_, rfl, _, rfl, rfl, rfl, n, .int b, .int b, rfl, .int b, n0, n1, fun e => (lessI b b0 b1 e).elim, fun a e a0 a1 l os G sG R => ?_⟩
    cases e
    refine ⟨_, rfl, rfl, _, rfl, ?_⟩
    rw [dec_ii]
    refine ite2 (fun c => ?_) (fun c => ?_)
    · refine ⟨_, rfl, n, .int 0, .int 0, rfl, .int 0, n0, n1, fun e => (lessI 0 (by omega) (by omega) e).elim, fun a e a0 a1 l2 os2 G2 sG2 R2 => ?_⟩
      cases e
      have sH2 := (sS).trans (sG.trans sG2)
      refine ⟨rfl, _, rfl, iteF' rfl ?_⟩
      refine ⟨_, rfl, .ref l2, .ty "list", _, _, _, rfl, .ty _, .base (.lst (R2).at_), kit_ty (r := true) (by decide +kernel), _, rfl, iteF' rfl ?_⟩
      refine ⟨_, rfl, l2, _, rfl, .inl (SqL.of (R2).at_), _, rfl, rfl, _, rfl, iteF' ?_ ?_⟩
      · rw [dec_ii, List.length_map, (R2).len]
        simp
        omega
      refine ⟨_, rfl, _, rfl, by omega, by omega, ?_⟩
      refine for_range (lo := 0) (n := n.toNat) (fun i σ G' => (∃ z5 : Option V, σ = [some (V.ref sa), some (V.int n), some (V.int ((0:Int))), some (V.int wy), some (V.ref l2), z5, none]) ∧ Same G2 G') ⟨⟨_, rfl⟩, Same.refl _⟩ ?_ ?_
      · rintro i σ G' hi ⟨⟨z5, rfl⟩, sG'⟩
        have io : i < (os2).length := by rw [(R2).len]; exact hi
        have eo : (os2)[i]? = some (os2)[i] := List.getElem?_eq_getElem io
        have NW := ((R2).all i _ eo).same sG'
        have at_ : atI ((os2).map V.ref) (0 + (i : Int)) = some (.ref (os2)[i]) := by
          rw [Int.zero_add]
          exact atI_nat (by rw [List.getElem?_map, eo]; rfl)
        rw [← Int.zero_add (i : Int)] at NW
        refine ⟨_, rfl, _, rfl, l2, _, _, _, rfl, rfl, SqL.of (sG' _ _ (R2).at_), at_, _, rfl, _, rfl, _, rfl, _, _, n, _, rfl, NW, n0, n1, fun H4 s4 => ⟨_, rfl, iteF' rfl ?_⟩⟩
        refine ⟨_, rfl, _, rfl, l2, _, _, _, rfl, rfl, SqL.of (s4 _ _ (sG' _ _ (R2).at_)), at_, _, _, n, _, rfl, NW.same s4, n0, n1, fun H5 s5 => ?_⟩
        refine ⟨_, rfl, _, rfl, l2, _, _, _, rfl, rfl, SqL.of (s5 _ _ (s4 _ _ (sG' _ _ (R2).at_))), at_, _, rfl, _, rfl, _, rfl, _, _, n, _, rfl, (NW.same s4).same s5, n0, n1, fun H6 s6 => ⟨_, rfl, iteF' rfl ?_⟩⟩
        exact ⟨⟨_, rfl⟩, ((sG'.trans s4).trans s5).trans s6⟩
      rintro σ G' ⟨⟨z5, rfl⟩, sG'⟩
      refine ⟨_, rfl, sa, ns, 3, rfl, (sH2).seq hS |> sG'.seq, by decide, fun c3 => ⟨_, rfl, _, _, rfl, rfl, (by show (0 : Int) < n; omega), ?_⟩⟩
      show gName 5 (V.int (c3 % n)) _ G' _
      generalize c3 % n = me
      refine ⟨_, rfl, _, rfl, _, rfl, rfl, rfl, fun y dy hy hdy ne => ⟨y, dy, me, n, (0:Int), rfl, upd_same, n0, n1, fun ro nu pl key H7 cg r0 u0 l0 A0 FK => ⟨rfl, ?_⟩⟩⟩
      have FK' : FreshKey H7 CK n key (decide (me = (0:Int))) (fun _ => True) := FK.imp
      refine ⟨_, rfl, rfl, _, rfl, ?_⟩
      rw [dec_ii]
      refine ite2 (fun cw => ?_) (fun cw => ?_)
      · have eB : (0:Int) = 0 := (fun _ => rfl) (of_decide_eq_true cw)
        refine ⟨_, rfl, _, rfl, fun y2 dy2 hy2 hdy2 ne2 => ⟨y2, dy2, me, n, 0, rfl, upd_same, n0, n1, fun ro2 nu2 pl2 key2 H8 cg2 r2 u2 l2 A2 FK2 => ⟨rfl, ?_⟩⟩⟩
        have NW : NewC H8 C CK y2 me n ((0:Int)) := by
          rw [eB]
          exact ⟨_, _, _, _, _, A2, FK2.imp⟩
        exact ⟨_, rfl, _, rfl, _, rfl, _, rfl, y2, me, n, _, rfl, NW, n0, n1, fun H9 _ => q H9⟩
      · exact ⟨_, rfl, _, rfl, _, rfl, _, rfl, y, me, n, _, rfl, ⟨_, _, _, _, _, A0, FK'⟩, n0, n1, fun H9 _ => q H9⟩
    · have sH2 := (sS).trans sG
      have nw : wy = 1 → b = 0 := fun h => absurd (decide_eq_true h) c
      refine ⟨rfl, _, rfl, iteF' rfl ?_⟩
      refine ⟨_, rfl, .ref l, .ty "list", _, _, _, rfl, .ty _, .base (.lst (R).at_), kit_ty (r := true) (by decide +kernel), _, rfl, iteF' rfl ?_⟩
      refine ⟨_, rfl, l, _, rfl, .inl (SqL.of (R).at_), _, rfl, rfl, _, rfl, iteF' ?_ ?_⟩
      · rw [dec_ii, List.length_map, (R).len]
        simp
        omega
      refine ⟨_, rfl, _, rfl, by omega, by omega, ?_⟩
      refine for_range (lo := 0) (n := n.toNat) (fun i σ G' => (∃ z5 : Option V, σ = [some (V.ref sa), some (V.int n), some (V.int (b)), some (V.int wy), some (V.ref l), z5, none]) ∧ Same G G') ⟨⟨_, rfl⟩, Same.refl _⟩ ?_ ?_
      · rintro i σ G' hi ⟨⟨z5, rfl⟩, sG'⟩
        have io : i < (os).length := by rw [(R).len]; exact hi
        have eo : (os)[i]? = some (os)[i] := List.getElem?_eq_getElem io
        have NW := ((R).all i _ eo).same sG'
        have at_ : atI ((os).map V.ref) (0 + (i : Int)) = some (.ref (os)[i]) := by
          rw [Int.zero_add]
          exact atI_nat (by rw [List.getElem?_map, eo]; rfl)
        rw [← Int.zero_add (i : Int)] at NW
        refine ⟨_, rfl, _, rfl, l, _, _, _, rfl, rfl, SqL.of (sG' _ _ (R).at_), at_, _, rfl, _, rfl, _, rfl, _, _, n, _, rfl, NW, n0, n1, fun H4 s4 => ⟨_, rfl, iteF' rfl ?_⟩⟩
        refine ⟨_, rfl, _, rfl, l, _, _, _, rfl, rfl, SqL.of (s4 _ _ (sG' _ _ (R).at_)), at_, _, _, n, _, rfl, NW.same s4, n0, n1, fun H5 s5 => ?_⟩
        refine ⟨_, rfl, _, rfl, l, _, _, _, rfl, rfl, SqL.of (s5 _ _ (s4 _ _ (sG' _ _ (R).at_))), at_, _, rfl, _, rfl, _, rfl, _, _, n, _, rfl, (NW.same s4).same s5, n0, n1, fun H6 s6 => ⟨_, rfl, iteF' rfl ?_⟩⟩
        exact ⟨⟨_, rfl⟩, ((sG'.trans s4).trans s5).trans s6⟩
      rintro σ G' ⟨⟨z5, rfl⟩, sG'⟩
      refine ⟨_, rfl, sa, ns, 3, rfl, (sH2).seq hS |> sG'.seq, by decide, fun c3 => ⟨_, rfl, _, _, rfl, rfl, (by show (0 : Int) < n; omega), ?_⟩⟩
      show gName 5 (V.int (c3 % n)) _ G' _
      generalize c3 % n = me
      refine ⟨_, rfl, _, rfl, _, rfl, rfl, rfl, fun y dy hy hdy ne => ⟨y, dy, me, n, b, rfl, upd_same, n0, n1, fun ro nu pl key H7 cg r0 u0 l0 A0 FK => ⟨rfl, ?_⟩⟩⟩
      have FK' : FreshKey H7 CK n key (decide (me = b)) (fun _ => True) := FK.imp
      refine ⟨_, rfl, rfl, _, rfl, ?_⟩
      rw [dec_ii]
      refine ite2 (fun cw => ?_) (fun cw => ?_)
      · have eB : b = 0 := nw (of_decide_eq_true cw)
        refine ⟨_, rfl, _, rfl, fun y2 dy2 hy2 hdy2 ne2 => ⟨y2, dy2, me, n, 0, rfl, upd_same, n0, n1, fun ro2 nu2 pl2 key2 H8 cg2 r2 u2 l2 A2 FK2 => ⟨rfl, ?_⟩⟩⟩
        have NW : NewC H8 C CK y2 me n (b) := by
          rw [eB]
          exact ⟨_, _, _, _, _, A2, FK2.imp⟩
        exact ⟨_, rfl, _, rfl, _, rfl, _, rfl, y2, me, n, _, rfl, NW, n0, n1, fun H9 _ => q H9⟩
      · exact ⟨_, rfl, _, rfl, _, rfl, _, rfl, y, me, n, _, rfl, ⟨_, _, _, _, _, A0, FK'⟩, n0, n1, fun H9 _ => q H9⟩
end

end G0
namespace G0
open PySem PySem.Spec PyProof.Rows L2 NdefX ClX
/-! ### the whole -/
theorem made_of {P : Program} {w : World} {K : PySem.W.Frag} {mg : Str → Option Value} {base : Heap} {C CK fI cc cda Dk fS fK : Addr} {ocI dcI pmI ctI clI ccl : Value} {odI anI cldI cdd : Option Addr} {oslI csl ccs : Array (Option Value)} {vs : Array Value} {file : Str} {tf td : Tok} {cdD : ClassData} {fd2 fdK : FuncData}
    (T : BlC71 mg) (S : CalT K C) (mgC : mg "Caller" = some (.ref C)) (mk : PySem.W.makesIn K C = true) (kc : PySem.W.keepIn K (.ref C) = true)
    (FS : Fun K "__init__" "Seat.__init__" s_Seat__init fS fd2)
    (i1 : PySem.W.findIn K (.ref C) "__init__" = some (some (.ref fI))) (i2 : PySem.W.isFn K (.ref fI) = true)
    (i3 : K.lookup fI = some ⟨ocI, odI, .func (PySem.W.ksFn "__init__" "Caller.__init__" (defArgs s_Caller__init) (defBody s_Caller__init) (defScope s_Caller__init) .none (.ref Dk) dcI pmI anI (.ref cda) ctI cc), oslI⟩)
    (i4 : PySem.W.codeIn K (.ref cda) "Caller.__init__" = true) (i5 : K.lookup cc = some ⟨clI, cldI, .cell (some (.ref C)), csl⟩) (i6 : K.lookup cda = some ⟨ccl, cdd, .fields vs, ccs⟩)
    (w7 : vs[2]? = some (.str file tf)) (w8 : ((P.main.file : Str) == file) = true) (w9 : PySem.W.clsIn K C = some cdD) (i10 : PySem.W.nsIn K mainGlobals "super" = some none)
    (w11 : (P.main.scope.names.lookup ("super" : Str)).isSome = false) (i12 : PySem.W.nsIn K cStatics "thirdparty.any" = some none) (w13 : PySem.W.mroIn K C (.ref C) = some true)
    (w14 : PySem.W.ks_superIn K C C "__init__" = some (some (.ref fS))) (i15 : PySem.W.typeIn K (.ref fS) = some (.type "function")) (w16 : PySem.W.fnIn K fS = true)
    (i17 : PySem.W.nsIn K Dk "first" = some (some (.int 0 td)))
    (KT : KeyT K CK) (KKm : Mk K CK fK) (FK : Fun K "__init__" "Key.__init__" s_Key__init fK fdK) (gK : mg "Key" = some (.ref CK)) : MkC P w K mg base C CK := by
  have F2 : FnR P w K mg base CX0 1 fS (spSeat0 C) := fnR_of (ps := ["self", "me"]) (ok_seat0 FS S.cl S.me S.state S.sits) (FS.binds (fun _ _ _ _ _ _ us hl => match us, hl with | [_, _], _ => rfl) )
  have F : SupF P K ["self", "me", "seats", "first", "__class__", "seat"] fI cc cda C (PySem.W.ksFn "__init__" "Caller.__init__" (defArgs s_Caller__init) (defBody s_Caller__init) (defScope s_Caller__init) .none (.ref Dk) dcI pmI anI (.ref cda) ctI cc) (defArgs s_Caller__init) (defScope s_Caller__init) := {
    fun_ := ⟨_, _, _, i3, rfl⟩
    arg := ⟨_, rfl, rfl, by decide +kernel⟩
    code := ⟨_, _, _, _, _, _, i6, w7, w8⟩
    cell := ⟨_, _, _, i5⟩
    cls := ⟨_, w9⟩
    miss := i10
    sup := by decide +kernel
    own := by decide +kernel
    kind := rfl
    top := w11
    any_ := i12 }
  have GK := ok_kinit (P := P) (w := w) (base := base) FK T.list KT
  have bK : Binds K fdK ["self", "of_round", "served", "line"] [] := FK.binds (fun _ _ _ _ _ _ us hl => match us, hl with | [_, _, _, _], _ => rfl) 
  refine ⟨⟨fI, _, [.int 0 td], ok_cinit T i3 i4 i5 F F2 S w13 w14 i15 w16 KKm GK bK gK, .cons ⟨td, rfl⟩ .nil, fun s us X hl => ?_, ⟨fun s us ws X l1 l2 => ?_, fun r1 r2 => r1.append r2⟩, ⟨mk, i1, i2, kc⟩⟩, mgC⟩
  · have l3 : us.length = 3 := by
      rw [List.length_append] at hl
      exact Nat.succ.inj hl
    refine BindsTo.of_looks fun M => KwChain.looks (l := [("first", .int 0 td)]) X (fun q hq => by
      rw [List.mem_singleton.mp hq]
      exact i17) ?_
    match us, l3 with
    | [_, _, _], _ => exact ⟨_, _, _, _, _, _, rfl, rfl, rfl⟩
  · match us, ws, l1, l2 with
    | [_, _, _], [_], _, _ => exact .of_eq rfl
theorem ns_init {P : Program} {w : World} {K : PySem.W.Frag} {mg : Str → Option Value} {base : Heap} {C fN cc cda : Addr} {oc kV dc pm ct cl ccl : Value} {od an cld cdd : Option Addr} {osl csl ccs : Array (Option Value)} {vs : Array Value} {file : Str} {tf : Tok} {cdD : ClassData}
    (X : XcK K C "seat") (a2 : PySem.W.findIn K (.ref C) "__init__" = some (some (.ref fN))) (a3 : PySem.W.typeIn K (.ref fN) = some (.type "function"))
    (a4 : K.lookup fN = some ⟨oc, od, .func (PySem.W.ksFn "__init__" "NoSeat.__init__" (defArgs s_NoSeat__init) (defBody s_NoSeat__init) (defScope s_NoSeat__init) .none kV dc pm an (.ref cda) ct cc), osl⟩)
    (a5 : PySem.W.codeIn K (.ref cda) "NoSeat.__init__" = true) (a6 : K.lookup cc = some ⟨cl, cld, .cell (some (.ref C)), csl⟩) (a7 : K.lookup cda = some ⟨ccl, cdd, .fields vs, ccs⟩)
    (w8 : vs[2]? = some (.str file tf)) (w9 : ((P.main.file : Str) == file) = true) (w10 : PySem.W.clsIn K C = some cdD) (a11 : PySem.W.nsIn K mainGlobals "super" = some none)
    (w12 : (P.main.scope.names.lookup ("super" : Str)).isSome = false) (a13 : PySem.W.nsIn K cStatics "thirdparty.any" = some none) :
    ∃ fN fdN, PySem.W.findIn K (.ref C) "__init__" = some (some (.ref fN)) ∧ PySem.W.typeIn K (.ref fN) = some (.type "function") ∧ FnOk P w K mg base CX0 1 fN fdN ["self", "seat"] (spXI C "seat") ∧ Binds K fdN ["self", "seat"] [] := by
  have F : SupF P K ["self", "seat", "__class__"] fN cc cda C (PySem.W.ksFn "__init__" "NoSeat.__init__" (defArgs s_NoSeat__init) (defBody s_NoSeat__init) (defScope s_NoSeat__init) .none kV dc pm an (.ref cda) ct cc) (defArgs s_NoSeat__init) (defScope s_NoSeat__init) := {
    fun_ := ⟨_, _, _, a4, rfl⟩
    arg := ⟨_, rfl, rfl, by decide +kernel⟩
    code := ⟨_, _, _, _, _, _, a7, w8, w9⟩
    cell := ⟨_, _, _, a6⟩
    cls := ⟨_, w10⟩
    miss := a11
    sup := by decide +kernel
    own := by decide +kernel
    kind := rfl
    top := w12
    any_ := a13 }
  have NS : NScope ["self", "seat", "__class__"] ["self", "seat"] ["__class__"] (defScope s_NoSeat__init) := nscope_by (by decide +kernel)
  exact ⟨fN, _, a2, a3, ok_xinit (m := "this is no seat here") a4 a5 a6 NS X (by decide) (by decide) (fun env => ⟨_, rfl⟩) (fun env => rfl) (fun env => rfl) F, .all (fun us hl => match us, hl with | [_, _], _ => rfl)⟩
theorem me_of {P : Program} {w : World} {K : PySem.W.Frag} {mg : Str → Option Value} {base : Heap} {C : Addr} {x qual : Str} {st : Stmt} {k : Nat} {ps : List Str} {sp : Sp}
    (F : Fm K C x qual st) (ok : ∀ f fd, Fun K x qual st f fd → FnOk P w K mg base CX0 k f fd ps sp)
    (bd : ∀ (kV doc pm : Value) (an : Option Addr) (cdv ct : Value) (us : List Value), us.length = ps.length →
      bindArgs (PySem.W.fnOf x qual (defArgs st) (defBody st) (defScope st) .none kV doc pm an cdv ct) ⟨us, []⟩ = pure (ps.zip us)) :
    Me P w K mg base C x k ps sp := by
  obtain ⟨f, fd, F, m⟩ := F
  exact ⟨f, fd, ok f fd F, F.binds bd, m⟩
theorem whole {P : Program} {w : World} {K : PySem.W.Frag} {mg : Str → Option Value} {base : Heap} {C CK CB CN CS CF : Addr} (T : BlC71 mg) (hVE : mg "ValueError" = none) (hF : ∃ t, mg "FIRST" = some (.int 0 t)) (S : CalT K C) (KT : KeyT K CK) (L : LkT K mg C CB)
    (F_below : Fn K mg "is_below" s_is_below) (F_look : Fn K mg "look_at_seat" s_look_at_seat) (F_cell : Fn K mg "_law_cell_at" s_law_cell_at) (F_new : Fn K mg "_law_new" s_law_new) (F_spoilt : Fn K mg "_law_spoilt" s_law_spoilt) (F_odd : Fn K mg "_law_odd" s_law_odd) (F_refused : Fn K mg "_law_refused" s_law_refused) (F_law : Fn K mg "law" s_law)
    (F_callers : FnK K mg "callers" s_callers [("first", .int 0)]) (M_told : Fm K CK "told" "Key.told" s_Key_told) (M_bears : Fm K C "bears" "Caller.bears" s_Caller_bears) (M_roster : Fm K C "roster" "Caller.roster" s_Caller_roster) (M_numbers : Fm K C "numbers" "Caller.numbers" s_Caller_numbers) (M_awaits : Fm K C "awaits" "Caller.awaits" s_Caller_awaits)
    (MC : MkC P w K mg base C CK) (NT : NsT P w K mg base CN CS CF) : Cal P w K mg base "law" 8 ["script"] (spLaw K) := by
  have B := ok_below (P := P) (w := w) (base := base) F_below T
  have Ce := ok_cell (P := P) (w := w) (base := base) F_cell T
  have To := me_of (P := P) (w := w) (mg := mg) (base := base) (ps := ["self"]) M_told (fun f fd F => ok_told F ⟨T.sorted, T.tuple⟩ KT) (fun _ _ _ _ _ _ us hl => match us, hl with | [_], _ => rfl) 
  have Be := me_of (P := P) (w := w) (mg := mg) (base := base) (ps := ["self"]) M_bears (fun f fd F => ok_bears F S KT To) (fun _ _ _ _ _ _ us hl => match us, hl with | [_], _ => rfl) 
  have Ro := me_of (P := P) (w := w) (mg := mg) (base := base) (ps := ["self"]) M_roster (fun f fd F => ok_roster F T S) (fun _ _ _ _ _ _ us hl => match us, hl with | [_], _ => rfl) 
  have Nu := me_of (P := P) (w := w) (mg := mg) (base := base) (ps := ["self"]) M_numbers (fun f fd F => ok_numbers F T S) (fun _ _ _ _ _ _ us hl => match us, hl with | [_], _ => rfl) 
  have Aw := me_of (P := P) (w := w) (mg := mg) (base := base) (ps := ["self"]) M_awaits (fun f fd F => ok_awaits F S) (fun _ _ _ _ _ _ us hl => match us, hl with | [_], _ => rfl) 
  have Cs := ok_callers (CS := CS) (CF := CF) F_callers T MC (ok_lookX F_look NT B)
  exact ok_law F_law T hF MC Cs Ce (ok_new F_new T S L Be Ro Nu Aw) (ok_spoilt F_spoilt S Ro Nu Aw) (ok_odd F_odd Ce) (ok_refused F_refused T hVE NT Cs)
theorem all_mk {P : Program} {w : World} {K : PySem.W.Frag} {h : Heap} {mg : Str → Option Value} {fa : Addr}
    {C_Caller : Addr} {C_Seat : Addr} {C_Key : Addr} {f1 : Addr} {od1 an1 : Option Addr} {sl1 : Array (Option Value)} {oc1 kV1 dc1 pm1 cd1 ct1 : Value} {f2 : Addr} {od2 an2 : Option Addr} {sl2 : Array (Option Value)} {oc2 kV2 dc2 pm2 cd2 ct2 : Value} {f3 : Addr} {od3 an3 : Option Addr} {sl3 : Array (Option Value)} {oc3 kV3 dc3 pm3 cd3 ct3 : Value} {f4 : Addr} {od4 an4 : Option Addr} {sl4 : Array (Option Value)} {oc4 kV4 dc4 pm4 cd4 ct4 : Value} {f5 : Addr} {od5 an5 : Option Addr} {sl5 : Array (Option Value)} {oc5 kV5 dc5 pm5 cd5 ct5 : Value} {f6 : Addr} {od6 an6 : Option Addr} {sl6 : Array (Option Value)} {oc6 kV6 dc6 pm6 cd6 ct6 : Value} {f7 : Addr} {od7 an7 : Option Addr} {sl7 : Array (Option Value)} {oc7 kV7 dc7 pm7 cd7 ct7 : Value} {f8 : Addr} {od8 an8 : Option Addr} {sl8 : Array (Option Value)} {oc8 kV8 dc8 pm8 cd8 ct8 : Value} {f9 : Addr} {od9 an9 : Option Addr} {sl9 : Array (Option Value)} {oc9 kV9 dc9 pm9 cd9 ct9 : Value} {f10 : Addr} {od10 an10 : Option Addr} {sl10 : Array (Option Value)} {oc10 kV10 dc10 pm10 cd10 ct10 : Value} {f11 : Addr} {od11 an11 : Option Addr} {sl11 : Array (Option Value)} {oc11 kV11 dc11 pm11 cd11 ct11 : Value} {f12 : Addr} {od12 an12 : Option Addr} {sl12 : Array (Option Value)} {oc12 kV12 dc12 pm12 cd12 ct12 : Value} {f13 : Addr} {od13 an13 : Option Addr} {sl13 : Array (Option Value)} {oc13 kV13 dc13 pm13 cd13 ct13 : Value} {f14 : Addr} {od14 an14 : Option Addr} {sl14 : Array (Option Value)} {oc14 kV14 dc14 pm14 cd14 ct14 : Value} {f15 : Addr} {od15 an15 : Option Addr} {sl15 : Array (Option Value)} {oc15 kV15 dc15 pm15 cd15 ct15 : Value} {fI cc cda Dk fcs Dcs CN CS CF fN ccN cdaN NN : Addr} {ocI dcI pmI ctI clI ccl occ dcc pmc cdc ctc ocN kVN dcN pmN ctN clN cclN : Value} {odI anI cldI cdd odc anc odN anN cldN cddN : Option Addr} {oslI csl ccs slc oslN cslN ccsN : Array (Option Value)} {vs vsN : Array Value} {file fileN : Str} {tf td tdc t0 tfN : Tok} {cdD cdDN : ClassData} {nmN qN : Str} {bsN bmN subN : List Value} {snN : List Str} {abN : Bool} {colN : Option Bool} {ddN : Option Addr} {k0N k1N k2N k3N k5N : Option Value}
    (X : K.In h) (G : h.Ns mainGlobals mg) (hfa : mg "law" = some (.ref fa))
    (aC_Caller : PySem.W.nsIn K mainGlobals "Caller" = some (some (.ref C_Caller)))
    (pg_Caller : PySem.W.plainGet K C_Caller Str.empty = true)
    (hd_Caller : PySem.W.hasDictIn K C_Caller = true)
    (po_Caller : PySem.W.plainOver K C_Caller = true)
    (sa_Caller : PySem.W.findIn K (.ref C_Caller) "__setattr__" = some (some (.builtin "object.__setattr__")))
    (mk_Caller : PySem.W.makesIn K C_Caller = true)
    (kc_Caller : PySem.W.keepIn K (.ref C_Caller) = true)
    (aC_Seat : PySem.W.nsIn K mainGlobals "Seat" = some (some (.ref C_Seat)))
    (pg_Seat : PySem.W.plainGet K C_Seat Str.empty = true)
    (hd_Seat : PySem.W.hasDictIn K C_Seat = true)
    (po_Seat : PySem.W.plainOver K C_Seat = true)
    (sa_Seat : PySem.W.findIn K (.ref C_Seat) "__setattr__" = some (some (.builtin "object.__setattr__")))
    (mk_Seat : PySem.W.makesIn K C_Seat = true)
    (kc_Seat : PySem.W.keepIn K (.ref C_Seat) = true)
    (aC_Key : PySem.W.nsIn K mainGlobals "Key" = some (some (.ref C_Key)))
    (pg_Key : PySem.W.plainGet K C_Key Str.empty = true)
    (hd_Key : PySem.W.hasDictIn K C_Key = true)
    (po_Key : PySem.W.plainOver K C_Key = true)
    (sa_Key : PySem.W.findIn K (.ref C_Key) "__setattr__" = some (some (.builtin "object.__setattr__")))
    (mk_Key : PySem.W.makesIn K C_Key = true)
    (kc_Key : PySem.W.keepIn K (.ref C_Key) = true)
    (a1 : PySem.W.nsIn K mainGlobals "is_below" = some (some (.ref f1)))
    (l1 : K.lookup f1 = some ⟨oc1, od1, .func (PySem.W.fnOf "is_below" "is_below" (defArgs s_is_below) (defBody s_is_below) (defScope s_is_below) .none kV1 dc1 pm1 an1 cd1 ct1), sl1⟩)
    (c1 : PySem.W.codeIn K cd1 "is_below" = true)
    (k1 : PySem.W.keepIn K (.ref f1) = true)
    (a2 : PySem.W.nsIn K mainGlobals "look_at_seat" = some (some (.ref f2)))
    (l2 : K.lookup f2 = some ⟨oc2, od2, .func (PySem.W.fnOf "look_at_seat" "look_at_seat" (defArgs s_look_at_seat) (defBody s_look_at_seat) (defScope s_look_at_seat) .none kV2 dc2 pm2 an2 cd2 ct2), sl2⟩)
    (c2 : PySem.W.codeIn K cd2 "look_at_seat" = true)
    (k2 : PySem.W.keepIn K (.ref f2) = true)
    (a3 : PySem.W.nsIn K mainGlobals "_law_cell_at" = some (some (.ref f3)))
    (l3 : K.lookup f3 = some ⟨oc3, od3, .func (PySem.W.fnOf "_law_cell_at" "_law_cell_at" (defArgs s_law_cell_at) (defBody s_law_cell_at) (defScope s_law_cell_at) .none kV3 dc3 pm3 an3 cd3 ct3), sl3⟩)
    (c3 : PySem.W.codeIn K cd3 "_law_cell_at" = true)
    (k3 : PySem.W.keepIn K (.ref f3) = true)
    (a4 : PySem.W.nsIn K mainGlobals "_law_new" = some (some (.ref f4)))
    (l4 : K.lookup f4 = some ⟨oc4, od4, .func (PySem.W.fnOf "_law_new" "_law_new" (defArgs s_law_new) (defBody s_law_new) (defScope s_law_new) .none kV4 dc4 pm4 an4 cd4 ct4), sl4⟩)
    (c4 : PySem.W.codeIn K cd4 "_law_new" = true)
    (k4 : PySem.W.keepIn K (.ref f4) = true)
    (a5 : PySem.W.nsIn K mainGlobals "_law_spoilt" = some (some (.ref f5)))
    (l5 : K.lookup f5 = some ⟨oc5, od5, .func (PySem.W.fnOf "_law_spoilt" "_law_spoilt" (defArgs s_law_spoilt) (defBody s_law_spoilt) (defScope s_law_spoilt) .none kV5 dc5 pm5 an5 cd5 ct5), sl5⟩)
    (c5 : PySem.W.codeIn K cd5 "_law_spoilt" = true)
    (k5 : PySem.W.keepIn K (.ref f5) = true)
    (a6 : PySem.W.nsIn K mainGlobals "_law_odd" = some (some (.ref f6)))
    (l6 : K.lookup f6 = some ⟨oc6, od6, .func (PySem.W.fnOf "_law_odd" "_law_odd" (defArgs s_law_odd) (defBody s_law_odd) (defScope s_law_odd) .none kV6 dc6 pm6 an6 cd6 ct6), sl6⟩)
    (c6 : PySem.W.codeIn K cd6 "_law_odd" = true)
    (k6 : PySem.W.keepIn K (.ref f6) = true)
    (a7 : PySem.W.nsIn K mainGlobals "_law_refused" = some (some (.ref f7)))
    (l7 : K.lookup f7 = some ⟨oc7, od7, .func (PySem.W.fnOf "_law_refused" "_law_refused" (defArgs s_law_refused) (defBody s_law_refused) (defScope s_law_refused) .none kV7 dc7 pm7 an7 cd7 ct7), sl7⟩)
    (c7 : PySem.W.codeIn K cd7 "_law_refused" = true)
    (k7 : PySem.W.keepIn K (.ref f7) = true)
    (a8 : PySem.W.nsIn K mainGlobals "law" = some (some (.ref f8)))
    (l8 : K.lookup f8 = some ⟨oc8, od8, .func (PySem.W.fnOf "law" "law" (defArgs s_law) (defBody s_law) (defScope s_law) .none kV8 dc8 pm8 an8 cd8 ct8), sl8⟩)
    (c8 : PySem.W.codeIn K cd8 "law" = true)
    (k8 : PySem.W.keepIn K (.ref f8) = true)
    (a9 : PySem.W.findIn K (.ref C_Seat) "__init__" = some (some (.ref f9)))
    (i9 : PySem.W.isFn K (.ref f9) = true)
    (l9 : K.lookup f9 = some ⟨oc9, od9, .func (PySem.W.fnOf "__init__" "Seat.__init__" (defArgs s_Seat__init) (defBody s_Seat__init) (defScope s_Seat__init) .none kV9 dc9 pm9 an9 cd9 ct9), sl9⟩)
    (c9 : PySem.W.codeIn K cd9 "Seat.__init__" = true)
    (k9 : PySem.W.keepIn K (.ref f9) = true)
    (a10 : PySem.W.findIn K (.ref C_Key) "__init__" = some (some (.ref f10)))
    (i10 : PySem.W.isFn K (.ref f10) = true)
    (l10 : K.lookup f10 = some ⟨oc10, od10, .func (PySem.W.fnOf "__init__" "Key.__init__" (defArgs s_Key__init) (defBody s_Key__init) (defScope s_Key__init) .none kV10 dc10 pm10 an10 cd10 ct10), sl10⟩)
    (c10 : PySem.W.codeIn K cd10 "Key.__init__" = true)
    (k10 : PySem.W.keepIn K (.ref f10) = true)
    (a11 : PySem.W.findIn K (.ref C_Key) "told" = some (some (.ref f11)))
    (i11 : PySem.W.isFn K (.ref f11) = true)
    (l11 : K.lookup f11 = some ⟨oc11, od11, .func (PySem.W.fnOf "told" "Key.told" (defArgs s_Key_told) (defBody s_Key_told) (defScope s_Key_told) .none kV11 dc11 pm11 an11 cd11 ct11), sl11⟩)
    (c11 : PySem.W.codeIn K cd11 "Key.told" = true)
    (k11 : PySem.W.keepIn K (.ref f11) = true)
    (a12 : PySem.W.findIn K (.ref C_Caller) "bears" = some (some (.ref f12)))
    (i12 : PySem.W.isFn K (.ref f12) = true)
    (l12 : K.lookup f12 = some ⟨oc12, od12, .func (PySem.W.fnOf "bears" "Caller.bears" (defArgs s_Caller_bears) (defBody s_Caller_bears) (defScope s_Caller_bears) .none kV12 dc12 pm12 an12 cd12 ct12), sl12⟩)
    (c12 : PySem.W.codeIn K cd12 "Caller.bears" = true)
    (k12 : PySem.W.keepIn K (.ref f12) = true)
    (a13 : PySem.W.findIn K (.ref C_Caller) "roster" = some (some (.ref f13)))
    (i13 : PySem.W.isFn K (.ref f13) = true)
    (l13 : K.lookup f13 = some ⟨oc13, od13, .func (PySem.W.fnOf "roster" "Caller.roster" (defArgs s_Caller_roster) (defBody s_Caller_roster) (defScope s_Caller_roster) .none kV13 dc13 pm13 an13 cd13 ct13), sl13⟩)
    (c13 : PySem.W.codeIn K cd13 "Caller.roster" = true)
    (k13 : PySem.W.keepIn K (.ref f13) = true)
    (a14 : PySem.W.findIn K (.ref C_Caller) "numbers" = some (some (.ref f14)))
    (i14 : PySem.W.isFn K (.ref f14) = true)
    (l14 : K.lookup f14 = some ⟨oc14, od14, .func (PySem.W.fnOf "numbers" "Caller.numbers" (defArgs s_Caller_numbers) (defBody s_Caller_numbers) (defScope s_Caller_numbers) .none kV14 dc14 pm14 an14 cd14 ct14), sl14⟩)
    (c14 : PySem.W.codeIn K cd14 "Caller.numbers" = true)
    (k14 : PySem.W.keepIn K (.ref f14) = true)
    (a15 : PySem.W.findIn K (.ref C_Caller) "awaits" = some (some (.ref f15)))
    (i15 : PySem.W.isFn K (.ref f15) = true)
    (l15 : K.lookup f15 = some ⟨oc15, od15, .func (PySem.W.fnOf "awaits" "Caller.awaits" (defArgs s_Caller_awaits) (defBody s_Caller_awaits) (defScope s_Caller_awaits) .none kV15 dc15 pm15 an15 cd15 ct15), sl15⟩)
    (c15 : PySem.W.codeIn K cd15 "Caller.awaits" = true)
    (k15 : PySem.W.keepIn K (.ref f15) = true)
    (n_Caller_me : PySem.W.findIn K (.ref C_Caller) "me" = some none)
    (n_Caller_state : PySem.W.findIn K (.ref C_Caller) "state" = some none)
    (n_Caller_sits : PySem.W.findIn K (.ref C_Caller) "sits" = some none)
    (n_Caller_round : PySem.W.findIn K (.ref C_Caller) "round" = some none)
    (n_Caller__roster : PySem.W.findIn K (.ref C_Caller) "_roster" = some none)
    (n_Caller__numbers : PySem.W.findIn K (.ref C_Caller) "_numbers" = some none)
    (n_Caller__key : PySem.W.findIn K (.ref C_Caller) "_key" = some none)
    (n_Caller__begun : PySem.W.findIn K (.ref C_Caller) "_begun" = some none)
    (n_Caller__pledges : PySem.W.findIn K (.ref C_Caller) "_pledges" = some none)
    (n_Key_round : PySem.W.findIn K (.ref C_Key) "round" = some none)
    (n_Key__served : PySem.W.findIn K (.ref C_Key) "_served" = some none)
    (n_Key__line : PySem.W.findIn K (.ref C_Key) "_line" = some none)
    (i1 : PySem.W.findIn K (.ref C_Caller) "__init__" = some (some (.ref fI)))
    (i2 : PySem.W.isFn K (.ref fI) = true)
    (i3 : K.lookup fI = some ⟨ocI, odI, .func (PySem.W.ksFn "__init__" "Caller.__init__" (defArgs s_Caller__init) (defBody s_Caller__init) (defScope s_Caller__init) .none (.ref Dk) dcI pmI anI (.ref cda) ctI cc), oslI⟩)
    (ii4 : PySem.W.codeIn K (.ref cda) "Caller.__init__" = true)
    (ii5 : K.lookup cc = some ⟨clI, cldI, .cell (some (.ref C_Caller)), csl⟩)
    (ii6 : K.lookup cda = some ⟨ccl, cdd, .fields vs, ccs⟩)
    (w7 : vs[2]? = some (.str file tf))
    (w8 : ((P.main.file : Str) == file) = true)
    (w9 : PySem.W.clsIn K C_Caller = some cdD)
    (ii10 : PySem.W.nsIn K mainGlobals "super" = some none)
    (w11 : (P.main.scope.names.lookup ("super" : Str)).isSome = false)
    (ii12 : PySem.W.nsIn K cStatics "thirdparty.any" = some none)
    (w13 : PySem.W.mroIn K C_Caller (.ref C_Caller) = some true)
    (w14 : PySem.W.ks_superIn K C_Caller C_Caller "__init__" = some (some (.ref f9)))
    (ii15 : PySem.W.typeIn K (.ref f9) = some (.type "function"))
    (w16 : PySem.W.fnIn K f9 = true)
    (ii17 : PySem.W.nsIn K Dk "first" = some (some (.int 0 td)))
    (ik1 : PySem.W.findIn K (.ref C_Key) "__init__" = some (some (.ref f10)))
    (ik2 : PySem.W.isFn K (.ref f10) = true)
    (y1 : PySem.W.nsIn K mainGlobals "callers" = some (some (.ref fcs)))
    (y2 : K.lookup fcs = some ⟨occ, odc, .func (PySem.W.fnOf "callers" "callers" (defArgs s_callers) (defBody s_callers) (defScope s_callers) .none (.ref Dcs) dcc pmc anc cdc ctc), slc⟩)
    (y3 : PySem.W.codeIn K cdc "callers" = true)
    (y4 : PySem.W.keepIn K (.ref fcs) = true)
    (y5 : PySem.W.nsIn K Dcs "first" = some (some (.int 0 tdc)))
    (m1 : PySem.W.nsIn K mainGlobals "FIRST" = some (some (.int 0 t0)))
    (w20 : PySem.W.kitOne K (.ref C_Caller) (.ref C_Caller) = some true)
    (w21 : PySem.W.kitOne K (.ref C_Caller) (.ref C_Seat) = some true)
    (z22 : PySem.W.findIn K (.ref C_Caller) "__class__" = some (some (.builtin "object.__class__")))
    (w23 : PySem.W.specialIn K (.builtin "object.__class__") "__get__" = some (some (.builtin "getset_descriptor.__get__")))
    (w24 : PySem.W.takesIn K (.builtin "object.__class__") = some true)
    (w25 : PySem.W.mroIn K C_Caller (.type "object") = some true)
    (n1 : PySem.W.nsIn K mainGlobals "NoSeat" = some (some (.ref CN)))
    (n2 : PySem.W.nsIn K mainGlobals "SoleError" = some (some (.ref CS)))
    (n3 : PySem.W.nsIn K mainGlobals "Fallen" = some (some (.ref CF)))
    (n4 : PySem.W.findIn K (.ref CN) "__init__" = some (some (.ref fN)))
    (n5 : PySem.W.typeIn K (.ref fN) = some (.type "function"))
    (n6 : K.lookup fN = some ⟨ocN, odN, .func (PySem.W.ksFn "__init__" "NoSeat.__init__" (defArgs s_NoSeat__init) (defBody s_NoSeat__init) (defScope s_NoSeat__init) .none kVN dcN pmN anN (.ref cdaN) ctN ccN), oslN⟩)
    (n7 : PySem.W.codeIn K (.ref cdaN) "NoSeat.__init__" = true)
    (n8 : K.lookup ccN = some ⟨clN, cldN, .cell (some (.ref CN)), cslN⟩)
    (n9 : K.lookup cdaN = some ⟨cclN, cddN, .fields vsN, ccsN⟩)
    (w30 : vsN[2]? = some (.str fileN tfN))
    (w31 : ((P.main.file : Str) == fileN) = true)
    (w32 : PySem.W.clsIn K CN = some cdDN)
    (n10 : K.lookup CN = some (excClassObj nmN qN CN NN bsN bmN true snN subN abN colN ddN k0N k1N k2N k3N k5N "ValueError.__new__"))
    (w33 : PySem.HandSPX.refsVE bmN = true)
    (n11 : PySem.W.findIn K (.ref CN) "__setattr__" = some (some (.builtin "object.__setattr__")))
    (n12 : PySem.W.subIn K (.ref CN) (.type "BaseException") = some true)
    (n13 : PySem.W.typeIn K (.ref CN) = some (.type "type"))
    (n14 : PySem.W.keepIn K (.ref CN) = true)
    (w34 : PySem.W.mroIn K CN (.ref CN) = some true)
    (w35 : PySem.W.ks_superIn K CN CN "__init__" = some (some (.builtin "ValueError.__init__")))
    (n15 : PySem.W.subIn K (.ref CN) (.type "ValueError") = some true)
    (n16 : PySem.W.findIn K (.ref CN) "seat" = some none)
    (n17 : PySem.W.findIn K (.ref CN) "__getattribute__" = some (some (.builtin "BaseException.__getattribute__")))
    (n18 : PySem.W.findIn K (.ref CN) "__getattr__" = some none)
    (n19 : PySem.W.hasDictIn K CN = true)
    (n20 : PySem.W.findIn K (.ref CN) "__class__" = some (some (.builtin "object.__class__")))
    (w36 : PySem.W.mroIn K CN (.type "object") = some true)
    (w37 : PySem.W.exmOne K (.ref CN) (.ref CN) = some true)
    (w38 : PySem.W.exmOne K (.ref CN) (.ref CS) = some true)
    (w39 : PySem.W.kitOne K (.ref CN) (.ref CS) = some true)
    (w40 : PySem.W.kitOne K (.ref CN) (.type "ValueError") = some true)
    (w41 : PySem.W.kitOne K (.ref CN) (.ref CF) = some false)
    (b_len : PySem.W.nsIn K mainGlobals "len" = some none)
    (b_range : PySem.W.nsIn K mainGlobals "range" = some none)
    (b_tuple : PySem.W.nsIn K mainGlobals "tuple" = some none)
    (b_list : PySem.W.nsIn K mainGlobals "list" = some none)
    (b_isinstance : PySem.W.nsIn K mainGlobals "isinstance" = some none)
    (b_bool : PySem.W.nsIn K mainGlobals "bool" = some none)
    (b_sorted : PySem.W.nsIn K mainGlobals "sorted" = some none)
    (b_int : PySem.W.nsIn K mainGlobals "int" = some none)
    (b_ValueError : PySem.W.nsIn K mainGlobals "ValueError" = some none) :
    ∃ fd : FuncData, (∀ (s : Shared) (v : Value), BindsTo s fd ⟨[v], []⟩ [("script", v)]) ∧
      ∀ base : Heap, K.In base → base.Ns mainGlobals mg → FnG P w K mg base CX0 8 fa fd ["script"] (spLaw K) := by
  have F_is_below : Fn K mg "is_below" s_is_below := fn_top X G a1 l1 c1 k1
  have F_look_at_seat : Fn K mg "look_at_seat" s_look_at_seat := fn_top X G a2 l2 c2 k2
  have F_law_cell_at : Fn K mg "_law_cell_at" s_law_cell_at := fn_top X G a3 l3 c3 k3
  have F_law_new : Fn K mg "_law_new" s_law_new := fn_top X G a4 l4 c4 k4
  have F_law_spoilt : Fn K mg "_law_spoilt" s_law_spoilt := fn_top X G a5 l5 c5 k5
  have F_law_odd : Fn K mg "_law_odd" s_law_odd := fn_top X G a6 l6 c6 k6
  have F_law_refused : Fn K mg "_law_refused" s_law_refused := fn_top X G a7 l7 c7 k7
  have F_law : Fn K mg "law" s_law := fn_top X G a8 l8 c8 k8
  have M_Seat__init : Fm K C_Seat "__init__" "Seat.__init__" s_Seat__init := fm_top a9 i9 l9 c9 k9
  have M_Key__init : Fm K C_Key "__init__" "Key.__init__" s_Key__init := fm_top a10 i10 l10 c10 k10
  have M_Key_told : Fm K C_Key "told" "Key.told" s_Key_told := fm_top a11 i11 l11 c11 k11
  have M_Caller_bears : Fm K C_Caller "bears" "Caller.bears" s_Caller_bears := fm_top a12 i12 l12 c12 k12
  have M_Caller_roster : Fm K C_Caller "roster" "Caller.roster" s_Caller_roster := fm_top a13 i13 l13 c13 k13
  have M_Caller_numbers : Fm K C_Caller "numbers" "Caller.numbers" s_Caller_numbers := fm_top a14 i14 l14 c14 k14
  have M_Caller_awaits : Fm K C_Caller "awaits" "Caller.awaits" s_Caller_awaits := fm_top a15 i15 l15 c15 k15
  have B_len := PySem.W.mg_none_of X G b_len
  have B_range := PySem.W.mg_none_of X G b_range
  have B_tuple := PySem.W.mg_none_of X G b_tuple
  have B_list := PySem.W.mg_none_of X G b_list
  have B_isinstance := PySem.W.mg_none_of X G b_isinstance
  have B_bool := PySem.W.mg_none_of X G b_bool
  have B_sorted := PySem.W.mg_none_of X G b_sorted
  have B_int := PySem.W.mg_none_of X G b_int
  have B_ValueError := PySem.W.mg_none_of X G b_ValueError
  have T_Caller : Cls K C_Caller := ⟨pg_Caller, hd_Caller, po_Caller, sa_Caller⟩
  have G_Caller := PySem.W.mg_of X G aC_Caller
  have T_Seat : Cls K C_Seat := ⟨pg_Seat, hd_Seat, po_Seat, sa_Seat⟩
  have G_Seat := PySem.W.mg_of X G aC_Seat
  have T_Key : Cls K C_Key := ⟨pg_Key, hd_Key, po_Key, sa_Key⟩
  have G_Key := PySem.W.mg_of X G aC_Key
  have S : CalT K C_Caller := ⟨T_Caller, n_Caller_me, n_Caller_state, n_Caller_sits, n_Caller_round, n_Caller__roster, n_Caller__numbers, n_Caller__key, n_Caller__begun, n_Caller__pledges⟩
  have KT : KeyT K C_Key := ⟨T_Key, n_Key_round, n_Key__served, n_Key__line⟩
  have T : BlC71 mg := ⟨B_len, B_range, B_list, B_tuple, B_sorted, B_isinstance, B_int, B_bool⟩
  have XK : XcK K CN "seat" := ⟨⟨⟨_, _, _, _, _, _, _, _, _, _, _, _, _, _, _, n10, w33⟩, n11, n12, n13, n14⟩, w34, w35, n15, n16⟩
  have FC : FnK K mg "callers" s_callers [("first", .int 0)] := ⟨fcs, _, ⟨⟨occ, odc, .none, .ref Dcs, dcc, pmc, anc, cdc, ctc, slc, rfl, y2, y3, .inl ⟨rfl, rfl⟩, .inr ⟨Dcs, rfl, fun q hq => by
    rw [List.mem_singleton.mp hq]; exact ⟨_, y5, ⟨tdc, rfl⟩⟩⟩⟩, y4⟩, PySem.W.mg_of X G y1⟩
  have L : LkT K mg C_Caller C_Seat := ⟨G_Caller, G_Seat, w20, w21, z22, w23, w24, w25⟩
  exact law_end F_law hfa (fun _ _ _ _ _ _ s v => .of_eq rfl) fun base _ _ => whole T B_ValueError ⟨_, PySem.W.mg_of X G m1⟩ S KT L
    F_is_below F_look_at_seat F_law_cell_at F_law_new F_law_spoilt F_law_odd F_law_refused F_law FC M_Key_told M_Caller_bears M_Caller_roster M_Caller_numbers M_Caller_awaits
    (made_of T S G_Caller mk_Caller kc_Caller (fun_mk l9 c9 k9) i1 i2 i3 ii4 ii5 ii6 w7 w8 w9 ii10 w11 ii12 w13 w14 ii15 w16 ii17 KT ⟨mk_Key, ik1, ik2, kc_Key⟩ (fun_mk l10 c10 k10) G_Key)
    ⟨XK, ⟨n17, n18, n12, n19⟩, ⟨by rw [w32]; rfl, ⟨n17, n18, n12, n19, n20, w23, w24, w36⟩⟩, ns_init XK n4 n5 n6 n7 n8 n9 w30 w31 w32 ii10 w11 ii12, PySem.W.mg_of X G n1, PySem.W.mg_of X G n2, PySem.W.mg_of X G n3, w37, w38, w39, w40, w41⟩
end G0
open PySem PySem.W PyProof.Rows in
set_option maxRecDepth 100000 in
set_option maxHeartbeats 0 in
set_option pp.maxSteps 20 in
theorem PySem.Challenge.cw_soleseat_k71_callers_made_holds : PySem.Challenge.rw_soleseat_k71_callers_made.Holds := by
  w_on; o_law; k_head; (case hw => w_witness2)
  k_fill
  refine G0.walk_ofG (l := PySem.Challenge.rw_soleseat_k71_callers_made) (n := 63) (k := 8) (x := "script") (sp := G0.spLaw) rfl (by decide) rfl ⟨rfl, by decide, by decide⟩ (fun w h Y => PySem.W.kIn_of Y) ?F (fun K H a ns hl _ hS => ⟨a, ns, rfl, hS, fun _ => rfl⟩)
  case F =>
    intro w mg fa h KX G hmg
    refine' G0.all_mk KX G hmg ?aC_Caller ?pg_Caller ?hd_Caller ?po_Caller ?sa_Caller ?mk_Caller ?kc_Caller ?aC_Seat ?pg_Seat ?hd_Seat ?po_Seat ?sa_Seat ?mk_Seat ?kc_Seat ?aC_Key ?pg_Key ?hd_Key ?po_Key ?sa_Key ?mk_Key ?kc_Key ?a1 ?l1 ?c1 ?k1 ?a2 ?l2 ?c2 ?k2 ?a3 ?l3 ?c3 ?k3 ?a4 ?l4 ?c4 ?k4 ?a5 ?l5 ?c5 ?k5 ?a6 ?l6 ?c6 ?k6 ?a7 ?l7 ?c7 ?k7 ?a8 ?l8 ?c8 ?k8 ?a9 ?i9 ?l9 ?c9 ?k9 ?a10 ?i10 ?l10 ?c10 ?k10 ?a11 ?i11 ?l11 ?c11 ?k11 ?a12 ?i12 ?l12 ?c12 ?k12 ?a13 ?i13 ?l13 ?c13 ?k13 ?a14 ?i14 ?l14 ?c14 ?k14 ?a15 ?i15 ?l15 ?c15 ?k15 ?n_Caller_me ?n_Caller_state ?n_Caller_sits ?n_Caller_round ?n_Caller__roster ?n_Caller__numbers ?n_Caller__key ?n_Caller__begun ?n_Caller__pledges ?n_Key_round ?n_Key__served ?n_Key__line ?i1 ?i2 ?i3 ?ii4 ?ii5 ?ii6 ?w7 ?w8 ?w9 ?ii10 ?w11 ?ii12 ?w13 ?w14 ?ii15 ?w16 ?ii17 ?ik1 ?ik2 ?y1 ?y2 ?y3 ?y4 ?y5 ?m1 ?w20 ?w21 ?z22 ?w23 ?w24 ?w25 ?n1 ?n2 ?n3 ?n4 ?n5 ?n6 ?n7 ?n8 ?n9 ?w30 ?w31 ?w32 ?n10 ?w33 ?n11 ?n12 ?n13 ?n14 ?w34 ?w35 ?n15 ?n16 ?n17 ?n18 ?n19 ?n20 ?w36 ?w37 ?w38 ?w39 ?w40 ?w41 ?b_len ?b_range ?b_tuple ?b_list ?b_isinstance ?b_bool ?b_sorted ?b_int ?b_ValueError
    (case aC_Caller => k_is)
    (case pg_Caller => k_is)
    (case hd_Caller => k_is)
    (case po_Caller => k_is)
    (case sa_Caller => k_is)
    (case mk_Caller => k_is)
    (case kc_Caller => k_is)
    (case aC_Seat => k_is)
    (case pg_Seat => k_is)
    (case hd_Seat => k_is)
    (case po_Seat => k_is)
    (case sa_Seat => k_is)
    (case mk_Seat => k_is)
    (case kc_Seat => k_is)
    (case aC_Key => k_is)
    (case pg_Key => k_is)
    (case hd_Key => k_is)
    (case po_Key => k_is)
    (case sa_Key => k_is)
    (case mk_Key => k_is)
    (case kc_Key => k_is)
    (case a1 => k_is)
    (case l1 => k_is)
    (case c1 => k_is)
    (case k1 => k_is)
    (case a2 => k_is)
    (case l2 => k_is)
    (case c2 => k_is)
    (case k2 => k_is)
    (case a3 => k_is)
    (case l3 => k_is)
    (case c3 => k_is)
    (case k3 => k_is)
    (case a4 => k_is)
    (case l4 => k_is)
    (case c4 => k_is)
    (case k4 => k_is)
    (case a5 => k_is)
    (case l5 => k_is)
    (case c5 => k_is)
    (case k5 => k_is)
    (case a6 => k_is)
    (case l6 => k_is)
    (case c6 => k_is)
    (case k6 => k_is)
    (case a7 => k_is)
    (case l7 => k_is)
    (case c7 => k_is)
    (case k7 => k_is)
    (case a8 => k_is)
    (case l8 => k_is)
    (case c8 => k_is)
    (case k8 => k_is)
    (case a9 => k_is)
    (case i9 => k_is)
    (case l9 => k_is)
    (case c9 => k_is)
    (case k9 => k_is)
    (case a10 => k_is)
    (case i10 => k_is)
    (case l10 => k_is)
    (case c10 => k_is)
    (case k10 => k_is)
    (case a11 => k_is)
    (case i11 => k_is)
    (case l11 => k_is)
    (case c11 => k_is)
    (case k11 => k_is)
    (case a12 => k_is)
    (case i12 => k_is)
    (case l12 => k_is)
    (case c12 => k_is)
    (case k12 => k_is)
    (case a13 => k_is)
    (case i13 => k_is)
    (case l13 => k_is)
    (case c13 => k_is)
    (case k13 => k_is)
    (case a14 => k_is)
    (case i14 => k_is)
    (case l14 => k_is)
    (case c14 => k_is)
    (case k14 => k_is)
    (case a15 => k_is)
    (case i15 => k_is)
    (case l15 => k_is)
    (case c15 => k_is)
    (case k15 => k_is)
    (case n_Caller_me => k_is)
    (case n_Caller_state => k_is)
    (case n_Caller_sits => k_is)
    (case n_Caller_round => k_is)
    (case n_Caller__roster => k_is)
    (case n_Caller__numbers => k_is)
    (case n_Caller__key => k_is)
    (case n_Caller__begun => k_is)
    (case n_Caller__pledges => k_is)
    (case n_Key_round => k_is)
    (case n_Key__served => k_is)
    (case n_Key__line => k_is)
    (case i1 => k_is)
    (case i2 => k_is)
    (case i3 => k_is)
    (case ii4 => k_is)
    (case ii5 => k_is)
    (case ii6 => k_is)
    (case w7 => first | k_is | exact rfl | decide +kernel)
    (case w8 => first | k_is | exact rfl | decide +kernel)
    (case w9 => first | k_is | exact rfl | decide +kernel)
    (case ii10 => k_is)
    (case w11 => first | k_is | exact rfl | decide +kernel)
    (case ii12 => k_is)
    (case w13 => first | k_is | exact rfl | decide +kernel)
    (case w14 => first | k_is | exact rfl | decide +kernel)
    (case ii15 => k_is)
    (case w16 => first | k_is | exact rfl | decide +kernel)
    (case ii17 => k_is)
    (case ik1 => k_is)
    (case ik2 => k_is)
    (case y1 => k_is)
    (case y2 => k_is)
    (case y3 => k_is)
    (case y4 => k_is)
    (case y5 => k_is)
    (case m1 => k_is)
    (case w20 => first | k_is | exact rfl | decide +kernel)
    (case w21 => first | k_is | exact rfl | decide +kernel)
    (case z22 => k_is)
    (case w23 => first | k_is | exact rfl | decide +kernel)
    (case w24 => first | k_is | exact rfl | decide +kernel)
    (case w25 => first | k_is | exact rfl | decide +kernel)
    (case n1 => k_is)
    (case n2 => k_is)
    (case n3 => k_is)
    (case n4 => k_is)
    (case n5 => k_is)
    (case n6 => k_is)
    (case n7 => k_is)
    (case n8 => k_is)
    (case n9 => k_is)
    (case w30 => first | k_is | exact rfl | decide +kernel)
    (case w31 => first | k_is | exact rfl | decide +kernel)
    (case w32 => first | k_is | exact rfl | decide +kernel)
    (case n10 => k_is)
    (case w33 => first | k_is | exact rfl | decide +kernel)
    (case n11 => k_is)
    (case n12 => k_is)
    (case n13 => k_is)
    (case n14 => k_is)
    (case w34 => first | k_is | exact rfl | decide +kernel)
    (case w35 => first | k_is | exact rfl | decide +kernel)
    (case n15 => k_is)
    (case n16 => k_is)
    (case n17 => k_is)
    (case n18 => k_is)
    (case n19 => k_is)
    (case n20 => k_is)
    (case w36 => first | k_is | exact rfl | decide +kernel)
    (case w37 => first | k_is | exact rfl | decide +kernel)
    (case w38 => first | k_is | exact rfl | decide +kernel)
    (case w39 => first | k_is | exact rfl | decide +kernel)
    (case w40 => first | k_is | exact rfl | decide +kernel)
    (case w41 => first | k_is | exact rfl | decide +kernel)
    (case b_len => k_is)
    (case b_range => k_is)
    (case b_tuple => k_is)
    (case b_list => k_is)
    (case b_isinstance => k_is)
    (case b_bool => k_is)
    (case b_sorted => k_is)
    (case b_int => k_is)
    (case b_ValueError => k_is)
#print axioms PySem.Challenge.cw_soleseat_k71_callers_made_holds
namespace G0

end G0
