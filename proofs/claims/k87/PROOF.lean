import PyProof.Rows.All
import Wide.All
import OpenK.AllK
import Wide.FinOn
import HandS.ForMost
import HandS.Wide
import HandS.Conv
import HandS.TupAny
import HandS.Deep
import HandS.Steps
import HandS.NoneIn
import HandS.IsInst
import HandS.More
import HandS.Defaults
import HandS.TupSets
import HandS.EndBits
import HandS.Nested
import HandS.ExcInit
import HandS.ExcSuper
import HandS.ClsMeth
import KE.KSuper
import KE.KExcSuper
import PySem.Challenge.RW_soleseat_k87_porters
set_option Elab.async false
set_option maxRecDepth 100000
set_option maxHeartbeats 1000000
set_option linter.all false
/-! Calls where nothing is under repr around: the layer's defs, with one premise more (no guard around). -/
namespace G0
open PySem PySem.Spec PyProof.Rows L2
structure FnG (P : Program) (w : World) (K : PySem.W.Frag) (mg : Str → Option Value) (base : Heap) (CX : CXT)
    (k : Nat) (f : Addr) (fd : FuncData) (ps : List Str) (sp : Sp) : Prop where
  args : ∀ zs G R W, sp zs G R W → zs.length = ps.length
  runs : ∀ (B : Around) (around : List Env) (t : Shared) (G : Hp) (given : Args) (bound : List Value) (zs : List V) (R : VK) (W : XK),
    B.guards = some [] → Room k B → Env0 P w K mg base B around t G →
    BindsTo t fd given (ps.zip bound) → Vals zs bound → sp zs G R W →
    codeAny (model P w) B (.call (.ref f) given) (CR CX around P w G t R W) t
theorem FnG.of {P : Program} {w : World} {K : PySem.W.Frag} {mg : Str → Option Value} {base : Heap} {CX : CXT}
    {k : Nat} {f : Addr} {fd : FuncData} {ps : List Str} {sp : Sp} (F : FnOk P w K mg base CX k f fd ps sp) :
    FnG P w K mg base CX k f fd ps sp :=
  ⟨F.len, fun B around t G given bound zs R W _ hr => F.run B around t G given bound zs R W hr⟩
theorem FnG.mono {P : Program} {w : World} {K : PySem.W.Frag} {mg : Str → Option Value} {base : Heap} {CX : CXT}
    {j k : Nat} {f : Addr} {fd : FuncData} {ps : List Str} {sp : Sp} (F : FnG P w K mg base CX j f fd ps sp) (h : j ≤ k) :
    FnG P w K mg base CX k f fd ps sp :=
  ⟨F.args, fun B around t G given bound zs R W hg hr => F.runs B around t G given bound zs R W hg (hr.mono h)⟩
section
variable {X : Cx} {CX : CXT} {k : Nat} {f : Addr} {fd : FuncData} {ps : List Str} {sp : Sp}
  {dvs : List V} {ds : List Value} {E : XK} {x : Str} {p pos : Pos} {e : Expr} {es : List Expr} {t : TA}
theorem goes {pins : List (Addr × Obj)} {σ : L2.St} {H : Hp} {s : Shared} {Q : VK} {us : List Value} {vs : List V}
    (F : FnG X.prog X.w X.K X.mg X.base CX k f fd ps sp) (free : X.A.guards = some []) (hr : Room k X.A)
    (hb : Binds X.K fd ps ds) (hd : Vals dvs ds) (hx : Passes CX X E)
    (I : Inv X pins σ H s) (r : Vals vs us) (h : sp (vs ++ dvs) H Q E) :
    wpAny (model X.prog X.w) X.A (call (.ref f) us) (EP X pins σ Q) X.xe s := by
  have both : Vals (vs ++ dvs) (us ++ ds) := r.append hd
  have many : (us ++ ds).length = ps.length := both.length.symm.trans (F.args _ _ _ _ h)
  have it := F.runs X.A X.stack s H ⟨us, []⟩ (us ++ ds) (vs ++ dvs) Q E free hr I.env0 (hb s us I.kIn many) both h
  refine wpAny_call (codeAny_mono it fun out s' told => ?_)
  match out, told with
  | .error e, told => exact hx pins σ H s e s' I told
  | .ok (.ret u), told => exact I.after told
  | .ok .next, told => exact told.elim
  | .ok .brk, told => exact told.elim
  | .ok .cont, told => exact told.elim
theorem pe_callG (F : FnG X.prog X.w X.K X.mg X.base CX k f fd ps sp) (free : X.A.guards = some []) (hr : Room k X.A)
    (hg : Gl X x) (hm : X.mg x = some (.ref f)) (hk : PySem.W.keepIn X.K (.ref f) = true)
    (hb : Binds X.K fd ps ds) (hd : Vals dvs ds) (hx : Passes CX X E) (ha : PA X (e :: es) t)
    (n1 : (x == ("__debug__" : Str)) = false := by decide)
    (n2 : starEach (e :: es) X.env = (false, eval e X.env) :: starEach es X.env := by rfl)
    (n3 : (backTo pos (starEach es X.env)).any (·.1) = false := by rfl) :
    PE X (.Call (.Name x p) (e :: es) [] pos) (tCall sp dvs E t) :=
  ⟨fun pins s σ H Q I h => wpAny_Call_Name_kw (ld_glob I hg hm
    (PySem.W.callWith_K (h₀ := X.base) I.ok.mod.kin hk
      (thn (ha.run pos pins s σ H _ I h) fun us s1 ⟨vs, H1, I1, r, q⟩ =>
        ⟨I1.kIn, goes F free hr hb hd hx I1 r q⟩) n2 n3) n1)⟩
end
/-- a def's body, where nothing is under repr -/
theorem fnG_of {CX : CXT} {P : Program} {w : World} {K : PySem.W.Frag} {mg : Str → Option Value} {base : Heap} {k : Nat}
    {f : Addr} {name qual : Str} {params : Arguments} {body : List Stmt} {scope : Scope} {dV kV doc pm cdv ct oc : Value}
    {an od : Option Addr} {osl : Array (Option Value)} {N ps : List Str} {sp : Sp}
    (lk : K.lookup f = some ⟨oc, od, .func (PySem.W.fnOf name qual params body scope dV kV doc pm an cdv ct), osl⟩)
    (coded : PySem.W.codeIn K cdv qual = true) (S : FnScope N ps scope)
    (len : ∀ zs G R W, sp zs G R W → zs.length = ps.length)
    (inner : ∀ (B : Around) (around : List Env) (t : Shared) (G : Hp) (zs : List V) (R : VK) (W : XK), B.guards = some [] →
      Room k (B.deeper (envOfC qual scope t.heap.objs.size f cdv)) → sp zs G R W →
      ∃ tb, PSs (cxOf CX P w K mg base N qual scope f cdv B around t G W) body tb ∧
        tb { nx := fun _ G' => R .non G', rt := R } (start N zs) G) :
    FnG P w K mg base CX (k + 1) f (PySem.W.fnOf name qual params body scope dV kV doc pm an cdv ct) ps sp := by
  refine ⟨len, fun B around t G given bound zs R W free room e0 bd rel asked => ?_⟩
  have many := len _ _ _ _ asked
  have KX : K.In t.heap := e0.mod.kin.keeps fun b o z => (e0.bs b o z).1
  have lim : t.heap.NoLimit := e0.mod.nolimit.keeps fun b o z => (e0.bs b o z).1
  have kinds : ∀ y ∈ ps.zip bound, scope.names.lookup y.1 = some .local ∨
      (scope.names.lookup y.1 = some .cell ∧ ((cellsFrom (t.heap.objs.size + 1) scope.names []).lookup y.1).isSome = true) := by
    intro y hy
    cases S.par y.1 (List.of_mem_zip hy).1 with
    | inl q => exact .inl q
    | inr q => exact .inr ⟨q, PySem.W.cellsFrom_some _ _ _ (.inl q)⟩
  refine codeAny_call_function room.depth (KX _ _ lk) rfl S.co S.gen rfl (PySem.W.codeRec_of KX coded) (bd _ _ _ _ ?_)
  refine wpAny_newFunctionEnv_cells S.kind kinds fun env same t1 made => ?_
  subst same
  refine ⟨lim.keeps made.toInCall.keep, codeAny_func ?_⟩
  obtain ⟨tb, derived, holds⟩ := inner B around t G zs R W free (room.deeper _) asked
  have J : Inv (cxOf CX P w K mg base N qual scope f cdv B around t G W) [] (start N zs) G t1 :=
    inv_start S room.hd e0 many rel made
  refine wpAny_mono (derived.run [] t1 (start N zs) G _ J holds) (fun fl t' told => ?_) fun e t' told => told
  match fl, told with
  | .ret u, ⟨v, σ', G', J', rv, q⟩ => exact ⟨v, G', J'.os, J'.bare, J'.base, J'.hok, rv, q⟩
  | .next, ⟨σ', G', J', q⟩ => exact ⟨V.non, G', J'.os, J'.bare, J'.base, J'.hok, (rfl : Value.none = Value.none), q⟩
  | .brk, ⟨_, _, _, q⟩ => exact q.elim
  | .cont, ⟨_, _, _, q⟩ => exact q.elim
theorem okG {P : Program} {w : World} {K : PySem.W.Frag} {mg : Str → Option Value} {base : Heap} {x qual : Str} {st : Stmt}
    {f : Addr} {fd : FuncData} {N ps : List Str} {k : Nat} {sp : Sp} (F : Fun K x qual st f fd) (S : FnScope N ps (defScope st))
    (len : ∀ zs G R W, sp zs G R W → zs.length = ps.length)
    (inner : ∀ (cdv : Value) (B : Around) (around : List Env) (t : Shared) (G : Hp) (zs : List V) (R : VK) (W : XK), B.guards = some [] →
      Room k (B.deeper (envOfC qual (defScope st) t.heap.objs.size f cdv)) → sp zs G R W →
      ∃ tb, PSs (cxOf CX0 P w K mg base N qual (defScope st) f cdv B around t G W).nox (defBody st) tb ∧
        tb { nx := fun _ G' => R .non G', rt := R } (start N zs) G) :
    FnG P w K mg base CX0 (k + 1) f fd ps sp := by
  obtain ⟨oc, od, kV, doc, pm, an, cdv, ct, osl, rfl, lk, coded⟩ := F.ex
  refine fnG_of lk coded S len fun B around t G zs R W free room asked => ?_
  obtain ⟨tb, derived, holds⟩ := inner cdv B around t G zs R W free room asked
  exact ⟨tb, derived.nox, holds⟩
/-- the law's own call -/
theorem law_callG {P : Program} {w : World} {K : PySem.W.Frag} {mg mb : Str → Option Value} {CX : CXT} {k : Nat} {fa a : Addr}
    {fd : FuncData} {x : Str} {sp : Sp} {s₁ : Shared} {vs : List Value} {ns : List Int}
    (KX : K.In s₁.heap) (gl : s₁.heap.Ns mainGlobals mg) (bl : s₁.heap.Ns builtinsNs mb)
    (boot : ∀ x : Str, x ≠ "__name__" → mb x = bootBuiltins x) (lim : s₁.heap.NoLimit) (nogens : s₁.gens = #[])
    (at_ : s₁.heap.get? a = some { cls := .type "list", data := .seq vs.toArray }) (nums : IntsAre vs ns) (short : ns.length ≤ sizeLine)
    (room : Room k callerA)
    (F : ∀ base : Heap, K.In base → base.Ns mainGlobals mg → FnG P w K mg base CX k fa fd [x] sp)
    (bound : ∀ (s : Shared) (u : Value), BindsTo s fd ⟨[u], []⟩ [(x, u)])
    (asked : ∀ H : Hp, Only H → SqL K H a (ns.map V.int) → sp [.ref a] H (fun v _ => v = .bl true) fun _ _ _ => False)
    (never : ∀ H e s', CX [] H s₁ (fun _ _ _ => False) e s' → False) :
    codeAny (model P w) callerA (.call (.ref fa) ⟨[.ref a], []⟩)
      (fun r s' => r = .ok (.ret (.bool true)) ∧ OldK s₁.heap s'.heap ∧ s'.os = s₁.os ∧ AllBare s'.gens) s₁ := by
  have rel := vals_ints nums
  have many := nums.length
  have from_ : ∀ H : Hp, Only H → SqL K H a (ns.map V.int) → HOk P w H s₁.heap → (∀ b, H b ≠ none → b = a) →
      (H a ≠ none → K.lookup a = none) → codeAny (model P w) callerA (.call (.ref fa) ⟨[.ref a], []⟩)
        (fun r s' => r = .ok (.ret (.bool true)) ∧ OldK s₁.heap s'.heap ∧ s'.os = s₁.os ∧ AllBare s'.gens) s₁ := by
    intro H only seq fine one away
    have down : ∀ {b : Addr} {o : Obj}, s₁.heap.get? b = some o → H b = none →
      (hidT s₁.heap H).get? b = some o := fun e n => hidT_get e n
    have untracked : ∀ {b : Addr} {o : Obj}, s₁.heap.get? b = some o → (b = a → False) → H b = none := by
      intro b o _ n
      by_cases q : H b = none
      · exact q
      · exact (n (one b q)).elim
    have nodict : ∀ {b : Addr} {o : Obj} {es : Array DictEntry} {ep : Nat},
        s₁.heap.get? b = some o → o.data = .dict es ep → H b = none := by
      intro b o es ep e d
      refine untracked e fun q => ?_
      rw [q, at_] at e
      have e' := Option.some.inj e
      rw [← e'] at d
      have d' : Data.seq vs.toArray _ = Data.dict es ep := d
      exact absurd d' (fun h => by cases h)
    have spaces : ∀ {b : Addr} {m : Str → Option Value}, s₁.heap.Ns b m → (hidT s₁.heap H).Ns b m := by
      intro b m ns
      obtain ⟨o, es, ep, e, d, r⟩ := ns
      exact ⟨o, es, ep, down e (nodict e d), d, r⟩
    have written : K.In (hidT s₁.heap H) := by
      intro b o e
      refine down (KX b o e) ?_
      by_cases q : H b = none
      · exact q
      · have same := one b q
        rw [same] at q e
        rw [away q] at e
        cases e
    have md : Mod K mg (hidT s₁.heap H) := by
      obtain ⟨mc, h1, h2⟩ := lim
      exact ⟨written, spaces gl, ⟨mb, spaces bl, boot⟩, ⟨mc, spaces h1, h2⟩⟩
    have e0 : Env0 P w K mg (hidT s₁.heap H) callerA [] s₁ H :=
      ⟨rfl, md, fun b o e => of_hidT e, Nat.le_of_eq (hidT_size _ _), trivial,
        fun b hb => (List.not_mem_nil (show b ∈ ([] : List Addr) from hb)).elim, fine, .of_eq nogens⟩
    have it := (F _ written (spaces gl)).runs callerA [] s₁ H ⟨[.ref a], []⟩ [.ref a] [.ref a] _ _ rfl room e0
      (bound s₁ (.ref a)) (.cons rfl .nil) (asked H only seq)
    refine codeAny_mono it fun out s' told => ?_
    match out, told with
    | .error e, told => exact (never H e s' told).elim
    | .ok .next, told => exact told.elim
    | .ok .brk, told => exact told.elim
    | .ok .cont, told => exact told.elim
    | .ok (.ret u), ⟨v, H', os, bare, un, fine', r', q⟩ =>
      have q' : v = .bl true := q
      subst q'
      have u' : u = Value.bool true := r'
      subst u'
      refine ⟨rfl, OldK.of_keep fun b o e => ?_, os, bare⟩
      cases q : H b with
      | none => exact un.keep b o e q (fun z => (List.not_mem_nil (show b ∈ ([] : List Addr) from z)).elim) (List.not_mem_nil)
      | some u =>
        rcases only b with z | ⟨ob, xs, z⟩
        · have z1 := q.symm.trans z
          cases z1
        · have z' := un.frzs b ob _ z
          have e1 := (fine b _ z).1
          have e2 := (fine' b _ z').1
          exact e2.trans (e1.symm.trans e)
  cases known : K.lookup a with
  | some o =>
    have e := (KX a o known).symm.trans at_
    have e' := Option.some.inj e
    subst e'
    refine from_ (fun _ => none) (fun _ => .inl rfl) (.inr ⟨_, vs.toArray, _, known, rfl, rfl, rfl, ?_, ?_⟩)
      (fun b u z => by have z1 : (none : Option HO) = some u := z; cases z1) (fun b z => (z rfl).elim) fun z => (z rfl).elim
    · rw [List.size_toArray, many]; exact short
    · simpa using rel
  | none =>
    have self : (fun b => if b = a then some (HO.frz { cls := .type "list", data := .seq vs.toArray } (.lst (ns.map V.int))) else none) a
        = some (HO.frz { cls := .type "list", data := .seq vs.toArray } (.lst (ns.map V.int))) := if_pos rfl
    refine from_ (fun b => if b = a then some (HO.frz { cls := .type "list", data := .seq vs.toArray } (.lst (ns.map V.int))) else none)
      (fun b => ?_) (.inl (.inr ⟨_, self⟩)) (fun b u z => ?_) (fun b z => ?_) fun _ => known
    · by_cases same : b = a
      · exact .inr ⟨_, _, if_pos same⟩
      · exact .inl (if_neg same)
    · by_cases same : b = a
      · subst same
        have z' := Option.some.inj ((if_pos rfl).symm.trans z)
        subst z'
        exact ⟨at_, by rw [List.length_map]; exact short, vs, _, rel, at_⟩
      · have z1 := (if_neg same).symm.trans z
        cases z1
    · by_cases same : b = a
      · exact same
      · exact (z (if_neg same)).elim
theorem walk_ofG {l : PySem.W.OpenLaw} {n k : Nat} {q : Program} {loose : List Str} {XP : (Str → Option Value) → Heap → Prop}
    {YP : World → Heap → Prop} {d : DefRec} {K : Params → PySem.W.Frag} {sp : PySem.W.Frag → Sp} {x : Str}
    (hn : l.most = some n) (hn2 : n ≤ sizeLine) (hdf : d.params.defaults = []) (room : Room k callerA)
    (hY : ∀ (w : World) (h : Heap), YP w h → (K w.params).In h)
    (F : ∀ (w : World) (mg : Str → Option Value) (fa : Addr) (h : Heap), (K w.params).In h → h.Ns mainGlobals mg →
      mg d.name = some (.ref fa) → ∃ fd : FuncData, (∀ (s : Shared) (u : Value), BindsTo s fd ⟨[u], []⟩ [(x, u)]) ∧
        ∀ base : Heap, (K w.params).In base → base.Ns mainGlobals mg →
          FnG l.prog w (K w.params) mg base CX0 k fa fd [x] (sp (K w.params)))
    (asked : ∀ (K : PySem.W.Frag) (H : Hp) (a : Addr) (ns : List Int), ns.length ≤ n → Only H → SqL K H a (ns.map V.int) →
      sp K [.ref a] H (fun v _ => v = .bl true) fun _ _ _ => False) :
    PySem.W.WalkO q loose XP YP l.row.toRowW d [] (fun f vs => PySem.call f vs) := by
  refine Att.attach_call hn hdf fun w s₀ s₁ mg mb fa o pm cd doc a vs ns G Y ho hd hcd named obj nums few nogens => ?_
  have KX := hY w _ Y
  obtain ⟨fd, bound, all⟩ := F w mg fa _ KX G.T.g named
  exact law_callG KX G.T.g G.T.b G.T.builtins G.T.nolimit nogens obj nums (Nat.le_trans few hn2) room all bound
    (fun H only seq => asked _ H a ns few only seq) fun H e s' z => z
end G0
namespace G0
open PySem PySem.Spec PyProof.Rows L2
/-! ### a def of the module's top, by its name (no word of guards: for laws without repr) -/
def Fn (K : PySem.W.Frag) (mg : Str → Option Value) (x : Str) (st : Stmt) : Prop :=
  ∃ f fd, Fun K x x st f fd ∧ mg x = some (.ref f)
def Cal (P : Program) (w : World) (K : PySem.W.Frag) (mg : Str → Option Value) (base : Heap) (x : Str) (k : Nat) (ps : List Str) (sp : Sp) : Prop :=
  ∃ f fd, FnOk P w K mg base CX0 k f fd ps sp ∧ Binds K fd ps [] ∧ mg x = some (.ref f) ∧ PySem.W.keepIn K (.ref f) = true ∧
    ∃ oc od osl, K.lookup f = some ⟨oc, od, .func fd, osl⟩
theorem fn_top {K : PySem.W.Frag} {h : Heap} {mg : Str → Option Value} {x : Str} {st : Stmt} {f : Addr} {oc : Value} {od an : Option Addr}
    {osl : Array (Option Value)} {kV doc pm cdv ct : Value} (X : K.In h) (G : h.Ns mainGlobals mg)
    (a : PySem.W.nsIn K mainGlobals x = some (some (.ref f)))
    (l : K.lookup f = some ⟨oc, od, .func (PySem.W.fnOf x x (defArgs st) (defBody st) (defScope st) .none kV doc pm an cdv ct), osl⟩)
    (c : PySem.W.codeIn K cdv x = true) (k : PySem.W.keepIn K (.ref f) = true) : Fn K mg x st :=
  ⟨f, _, fun_mk l c k, PySem.W.mg_of X G a⟩
/-- a method of the class at C -/
def Fm (K : PySem.W.Frag) (C : Addr) (x qual : Str) (st : Stmt) : Prop := ∃ f fd, Fun K x qual st f fd ∧ Meth K C x f
theorem fm_top {K : PySem.W.Frag} {C : Addr} {x qual : Str} {st : Stmt} {f : Addr} {oc : Value} {od an : Option Addr}
    {osl : Array (Option Value)} {kV doc pm cdv ct : Value}
    (a : PySem.W.findIn K (.ref C) x = some (some (.ref f))) (i : PySem.W.isFn K (.ref f) = true)
    (l : K.lookup f = some ⟨oc, od, .func (PySem.W.fnOf x qual (defArgs st) (defBody st) (defScope st) .none kV doc pm an cdv ct), osl⟩)
    (c : PySem.W.codeIn K cdv qual = true) (k : PySem.W.keepIn K (.ref f) = true) : Fm K C x qual st :=
  ⟨f, _, fun_mk l c k, ⟨a, i, k⟩⟩
section
variable {P : Program} {w : World} {K : PySem.W.Frag} {mg : Str → Option Value} {base : Heap}
theorem cal_of {x : Str} {st : Stmt} {N ps : List Str} {k : Nat} {sp : Sp} (F : Fn K mg x st) (S : FnScope N ps (defScope st))
    (bd : ∀ (kV doc pm : Value) (an : Option Addr) (cdv ct : Value) (us : List Value), us.length = ps.length →
      bindArgs (PySem.W.fnOf x x (defArgs st) (defBody st) (defScope st) .none kV doc pm an cdv ct) ⟨us, []⟩ = pure (ps.zip us))
    (len : ∀ zs G R W, sp zs G R W → zs.length = ps.length)
    (inner : ∀ (f : Addr) (cdv : Value) (B : Around) (around : List Env) (t : Shared) (G : Hp) (zs : List V) (R : VK) (W : XK), True →
      Room k (B.deeper (envOfC x (defScope st) t.heap.objs.size f cdv)) → sp zs G R W →
      ∃ tb, PSs (cxOf CX0 P w K mg base N x (defScope st) f cdv B around t G W).nox (defBody st) tb ∧
        tb { nx := fun _ G' => R .non G', rt := R } (start N zs) G) :
    Cal P w K mg base x (k + 1) ps sp := by
  obtain ⟨f, fd, F, m⟩ := F
  obtain ⟨oc, od, kV, doc, pm, an, cdv, ct, osl, e, lk, c⟩ := id F.ex
  exact ⟨f, fd, F.ok S len (fun cdv B around t G zs R W room h => inner f cdv B around t G zs R W True.intro room h), F.binds bd, m, F.kp, oc, od, osl, lk⟩
theorem Cal.mono {x : Str} {j k : Nat} {ps : List Str} {sp : Sp} (C : Cal P w K mg base x j ps sp) (h : j ≤ k) : Cal P w K mg base x k ps sp := by
  obtain ⟨f, fd, F, r⟩ := C
  exact ⟨f, fd, F.mono h, r⟩
/-- the law itself, at the end -/
theorem law_end {st : Stmt} {k : Nat} {sp : Sp} {fa : Addr} (F : Fn K mg "law" st) (hm : mg "law" = some (.ref fa))
    (bt : ∀ (kV doc pm : Value) (an : Option Addr) (cdv ct : Value) (s : Shared) (v : Value),
      BindsTo s (PySem.W.fnOf "law" "law" (defArgs st) (defBody st) (defScope st) .none kV doc pm an cdv ct) ⟨[v], []⟩ [("script", v)])
    (C : ∀ base : Heap, K.In base → base.Ns mainGlobals mg → Cal P w K mg base "law" k ["script"] sp) :
    ∃ fd : FuncData, (∀ (s : Shared) (v : Value), BindsTo s fd ⟨[v], []⟩ [("script", v)]) ∧
      ∀ base : Heap, K.In base → base.Ns mainGlobals mg → FnG P w K mg base CX0 k fa fd ["script"] sp := by
  obtain ⟨f, fd, F, m⟩ := F
  obtain ⟨oc, od, kV, doc, pm, an, cdv, ct, osl, e, lk, c⟩ := id F.ex
  have ef := m.symm.trans hm
  cases ef
  refine ⟨fd, fun s v => by rw [e]; exact bt _ _ _ _ _ _ s v, fun base kin ns => ?_⟩
  obtain ⟨f', fd', G, _, m', _, oc', od', osl', lk'⟩ := C base kin ns
  have ef := m.symm.trans m'
  cases ef
  have ed := lk.symm.trans lk'
  cases ed
  exact FnG.of G
end
section
variable {X : Cx} {k : Nat} {ps : List Str} {sp : Sp} {x : Str} {p pos : Pos} {e : Expr} {es : List Expr} {t : TA}
theorem pe_cal (C : Cal X.prog X.w X.K X.mg X.base x k ps sp) (free : True) (hr : Room k X.A)
    (ha : PA X (e :: es) t) (hg : Gl X x := by rfl) (n1 : (x == ("__debug__" : Str)) = false := by decide)
    (n2 : starEach (e :: es) X.env = (false, eval e X.env) :: starEach es X.env := by rfl)
    (n3 : (backTo pos (starEach es X.env)).any (·.1) = false := by rfl) (hx : Passes CX0 X E0 := by exact pass0) :
    PE X (.Call (.Name x p) (e :: es) [] pos) (tCall sp [] E0 t) := by
  obtain ⟨f, fd, F, b, m, kp, _⟩ := C
  exact pe_call F hr hg m kp b .nil hx ha n1 n2 n3
/-! ### repr of data -/
def rRep (K : PySem.W.Frag) : List V → Hp → VK → Prop := fun xs H Q => ∃ (x : V) (d : PyData), xs = [x] ∧ Dp K H x d ∧
  d.showable = true ∧ d.hasDict = false ∧ d.depth ≤ 64 ∧ d.shown.length ≤ sizeLine ∧ Q (.str d.shown) H
theorem call_rep (free : X.A.guards = some []) (hu : X.A.units + 66 < cLine) : CallR X (.builtin "repr") (rRep X.K) := by
  intro pins s σ H xs us Q I r h
  obtain ⟨x, d, rfl, hd, hs, hn, h64, hz, q⟩ := h
  obtain ⟨u, rfl, rx⟩ := vals1 r
  have viaRef : ∀ (a : Addr), x = .ref a → wpAny (model X.prog X.w) X.A (call (.builtin "repr") [u]) (EP X pins σ Q) X.xe s := by
    intro a e
    subst e
    obtain rfl : u = Value.ref a := rx
    obtain ⟨as, rd⟩ := Dp.reads I d _ _ hd (rfl : RelV (.ref a) (.ref a))
    exact repr_of_reads' rd hs (PyData.noDict_hsm hn) free (by omega) (fun _ _ e => e)
      (fun h' w t kp => ⟨.str d.shown, H, I.kept (t' := t) kp, ⟨_, rfl⟩, q⟩) hz
  cases hd with
  | non =>
    obtain rfl : u = Value.none := rx
    exact PySem.P.repr_of_none ⟨.str _, H, I.tok _, ⟨_, rfl⟩, by simpa only [PyData.shown] using q⟩
  | bl b =>
    obtain rfl : u = Value.bool b := rx
    exact PySem.P.repr_of_bool ⟨.str _, H, I.tok _, ⟨_, rfl⟩, by simpa only [PyData.shown] using q⟩
  | int i =>
    obtain ⟨t, rfl⟩ := rx
    exact PySem.P.repr_of_int (by simpa [PyData.showable] using hs) ⟨.str _, H, I.tok _, ⟨_, rfl⟩, by simpa only [PyData.shown] using q⟩
  | str z =>
    obtain ⟨t, rfl⟩ := rx
    exact PySem.P.repr_of_str ⟨.str _, H, I.tok _, ⟨_, rfl⟩, by simpa only [PyData.shown] using q⟩ (by simpa only [PyData.shown] using hz)
  | lst _ _ => exact viaRef _ rfl
  | tup _ _ => exact viaRef _ rfl
/-! ### operators of several kinds in one -/
theorem u_eq (hu : X.A.units + 64 < cLine) : OpR X (compareOp .Eq) (fun x y H Q => rEq x y H Q ∨ rEqD X.K x y H Q) := op_eq.or (op_eqD hu)
theorem u_ne (hu : X.A.units + 64 < cLine) : OpR X (compareOp .NotEq) (fun x y H Q => rNe x y H Q ∨ rNeD X.K x y H Q) := op_ne.or (op_neD hu)
theorem u_in : OpR X (compareOp .In) (fun x y H Q => rIn X.K false x y H Q ∨ rInS x y H Q) := op_in_seq.or op_inS
theorem u_notin : OpR X (compareOp .NotIn) (fun x y H Q => rIn X.K true x y H Q ∨ rNotInS x y H Q) := op_notIn_seq.or op_notInS
end
theorem pe_fldK {X : Cx} {e : Expr} {f : Str} {pos : Pos} {ta : TE} (K : PySem.W.Frag) (ha : PE X e ta) (hK : X.K = K := by rfl)
    (hb : attributeBase e f X.env (eval e X.env) = eval e X.env := by rfl) : PE X (.Attribute e f pos) (tFld K ta f) := by
  subst hK
  exact pe_fld ha hb
/-! ### the written part named, for what stands within a comprehension -/
theorem op_K {X : Cx} {f : Value → Value → Sem Value} (r : PySem.W.Frag → R2) (K : PySem.W.Frag) (ho : OpR X f (r X.K)) (hK : X.K = K) : OpR X f (r K) := hK ▸ ho
theorem ix_K {X : Cx} (r : PySem.W.Frag → R2) (K : PySem.W.Frag) (ho : IxR X (r X.K)) (hK : X.K = K) : IxR X (r K) := hK ▸ ho
theorem call_K {X : Cx} {f : Value} (r : PySem.W.Frag → List V → Hp → VK → Prop) (K : PySem.W.Frag) (ho : CallR X f (r X.K)) (hK : X.K = K) : CallR X f (r K) := hK ▸ ho
section
variable {X : Cx} (K : PySem.W.Frag)
theorem u_inK (hK : X.K = K := by rfl) : OpR X (compareOp .In) (fun x y H Q => rIn K false x y H Q ∨ rInS x y H Q) := op_K (fun K x y H Q => rIn K false x y H Q ∨ rInS x y H Q) K u_in hK
theorem u_notinK (hK : X.K = K := by rfl) : OpR X (compareOp .NotIn) (fun x y H Q => rIn K true x y H Q ∨ rNotInS x y H Q) := op_K (fun K x y H Q => rIn K true x y H Q ∨ rNotInS x y H Q) K u_notin hK
theorem ix_listK (hK : X.K = K := by rfl) : IxR X (rIxL K) := ix_K rIxL K ix_list hK
theorem ix_tupK (hK : X.K = K := by rfl) : IxR X (rIxT K) := ix_K rIxT K ix_tup hK
theorem ix_seqK (hK : X.K = K := by rfl) : IxR X (rIx K) := ix_K rIx K ix_seq hK
theorem call_len_seqK (hK : X.K = K := by rfl) : CallR X (.builtin "len") (fun xs H Q => ∃ p ys, xs = [.ref p] ∧ (SqL K H p ys ∨ SqT K H p ys) ∧ Q (.int ys.length) H) :=
  call_K (fun K xs H Q => ∃ p ys, xs = [.ref p] ∧ (SqL K H p ys ∨ SqT K H p ys) ∧ Q (.int ys.length) H) K call_len_seq hK
end
/-! ### what changes: one list -/
/-- all that is tracked but p stays -/
def Chg (p : Addr) (H H' : Hp) : Prop := ∀ b o, b ≠ p → H b = some o → H' b = some o
theorem Chg.refl (p : Addr) (H : Hp) : Chg p H H := fun _ _ _ e => e
theorem Chg.trans {p : Addr} {H H1 H2 : Hp} (a : Chg p H H1) (b : Chg p H1 H2) : Chg p H H2 := fun c o n e => b c o n (a c o n e)
theorem Chg.self {p : Addr} {H : Hp} {o : HO} : Chg p H (upd H p o) := fun b u n e => by rw [upd_ne n]; exact e
theorem Chg.new {p q : Addr} {H H1 : Hp} {o : HO} (a : Chg p H H1) (n : H1 q = none) : Chg p H (upd H1 q o) := fun b u m e => by
  rw [upd_ne (ne_of_none (a b u m e) n)]; exact a b u m e
theorem Chg.same {p : Addr} {H H1 : Hp} (a : Same H H1) : Chg p H H1 := fun b o _ e => a b o e
theorem same_upd {H : Hp} {q : Addr} {o : HO} (n : H q = none) : Same H (upd H q o) := fun b u e => by
  rw [upd_ne (ne_of_none e n)]; exact e
/-! ### a law's draws: the pot -/
def PotL (n : Nat) (xs : List V) : Prop := ∃ a b c : Int, xs = [.int a, .int b, .int c] ∧ 0 ≤ a ∧ 0 ≤ b ∧ b < 2305843009213693951 ∧ 0 ≤ c ∧ c ≤ n
def PotAt (n : Nat) (H : Hp) (p : Addr) : Prop := ∃ xs, H p = some (.lst xs) ∧ PotL n xs
theorem PotL.mono {n m : Nat} {xs : List V} (h : PotL n xs) (le : n ≤ m) : PotL m xs := by
  obtain ⟨a, b, c, e, h1, h2, h3, h4, h5⟩ := h
  exact ⟨a, b, c, e, h1, h2, h3, h4, by omega⟩
theorem PotAt.mono {n m : Nat} {H : Hp} {p : Addr} (h : PotAt n H p) (le : n ≤ m) : PotAt m H p := by
  obtain ⟨xs, e, h⟩ := h
  exact ⟨xs, e, h.mono le⟩
theorem PotAt.keep {n : Nat} {H H' : Hp} {p : Addr} (h : PotAt n H p) (s : Same H H') : PotAt n H' p := by
  obtain ⟨xs, e, h⟩ := h
  exact ⟨xs, s _ _ e, h⟩
theorem PotAt.at {n : Nat} {H : Hp} {p : Addr} {xs : List V} (h : PotL n xs) : PotAt n (upd H p (.lst xs)) p := ⟨xs, upd_same, h⟩
end G0
/-! Wide powers, the law's own call with the script's bits told, len of an own object, sorted of a tuple of tuples of ints. -/
namespace G0
open PySem PySem.Spec PyProof.Rows L2
def CPowB (i j : Int) : Prop := 0 ≤ j ∧ (Builtin.Int.intBits i : Int) * j ≤ 2 ^ 27
theorem op_powB {X : Cx} : OpR X (binaryOp .Pow) (rI CPowB fun i j => .int (i ^ j.toNat)) := opI fun _ _ _ _ _ _ _ hc q => pow_int hc.1 hc.2 q
theorem walk_ofGB {l : PySem.W.OpenLaw} {n k : Nat} {q : Program} {loose : List Str} {XP : (Str → Option Value) → Heap → Prop}
    {YP : World → Heap → Prop} {d : DefRec} {K : Params → PySem.W.Frag} {sp : PySem.W.Frag → Sp} {x : Str}
    (hn : l.most = some n) (hn2 : n ≤ sizeLine) (hdf : d.params.defaults = []) (room : Room k callerA)
    (hY : ∀ (w : World) (h : Heap), YP w h → (K w.params).In h)
    (F : ∀ (w : World) (mg : Str → Option Value) (fa : Addr) (h : Heap), (K w.params).In h → h.Ns mainGlobals mg →
      mg d.name = some (.ref fa) → ∃ fd : FuncData, (∀ (s : Shared) (u : Value), BindsTo s fd ⟨[u], []⟩ [(x, u)]) ∧
        ∀ base : Heap, (K w.params).In base → base.Ns mainGlobals mg →
          FnG l.prog w (K w.params) mg base CX0 k fa fd [x] (sp (K w.params)))
    (asked : ∀ (K : PySem.W.Frag) (H : Hp) (a : Addr) (ns : List Int), ns.length ≤ n → (∀ z ∈ ns, Builtin.Int.intBits z ≤ 1048576) → Only H → SqL K H a (ns.map V.int) →
      sp K [.ref a] H (fun v _ => v = .bl true) fun _ _ _ => False) :
    PySem.W.WalkO q loose XP YP l.row.toRowW d [] (fun f vs => PySem.call f vs) := by
  refine Att.attach_callB hn hdf fun w s₀ s₁ mg mb fa o pm cd doc a vs ns G Y ho hd hcd named obj nums few bits nogens => ?_
  have KX := hY w _ Y
  obtain ⟨fd, bound, all⟩ := F w mg fa _ KX G.T.g named
  exact law_callG KX G.T.g G.T.b G.T.builtins G.T.nolimit nogens obj nums (Nat.le_trans few hn2) room all bound
    (fun H only seq => asked _ H a ns few bits only seq) fun H e s' z => z
/-! ### len of an own object -/
section
variable {X : Cx} {CX : CXT} {k : Nat} {f C : Addr} {fd : FuncData} {ps : List Str} {sp : Sp} {dvs : List V} {ds : List Value} {E : XK}
theorem run_fn1 {pins : List (Addr × Obj)} {σ : L2.St} {H : Hp} {s : Shared} {Q : VK} {us : List Value} {vs : List V}
    (F : FnOk X.prog X.w X.K X.mg X.base CX k f fd ps sp) (hr : Room (k + 1) X.A) (hb : Binds X.K fd ps ds) (hd : Vals dvs ds) (hx : Passes CX X E)
    (I : Inv X pins σ H s) (r : Vals vs us) (h : sp (vs ++ dvs) H Q E) : wpAny (model X.prog X.w) X.A.in1 (call (.ref f) us) (EP X pins σ Q) X.xe s := by
  have r2 : Vals (vs ++ dvs) (us ++ ds) := r.append hd
  have hl : (us ++ ds).length = ps.length := by rw [← r2.length]; exact F.len _ _ _ _ h
  refine wpAny_call (codeAny_mono (F.run X.A.in1 X.stack s H ⟨us, []⟩ (us ++ ds) (vs ++ dvs) Q E hr.in1 I.env0.in1 (hb s us I.kIn hl) r2 h) fun r s' hq => ?_)
  cases r with
  | error e => exact hx pins σ H s e s' I hq
  | ok fl =>
    cases fl with
    | ret u => exact I.after hq
    | next => exact False.elim hq
    | brk => exact False.elim hq
    | cont => exact False.elim hq
def rLenOwn (C : Addr) (sp : Sp) (E : XK) : List V → Hp → VK → Prop := fun xs H Q => ∃ (a dx : Addr) (fs : List (Str × V)), xs = [.ref a] ∧ H a = some (.ins C dx fs) ∧
  sp [.ref a] H (fun v H2 => ∃ n : Nat, v = .int n ∧ n ≤ sizeLine ∧ Q (.int n) H2) E
theorem call_lenOwn (hm : Meth X.K C "__len__" f) (F : FnOk X.prog X.w X.K X.mg X.base CX k f fd ps sp) (hr : Room (k + 1) X.A) (hb : Binds X.K fd ps []) (hx : Passes CX X E) :
    CallR X (.builtin "len") (rLenOwn C sp E) := by
  intro pins s σ H xs us Q I r h
  obtain ⟨a, dx, fs, rfl, e, q⟩ := h
  obtain ⟨u, rfl, ru⟩ := vals1 r
  obtain rfl : u = Value.ref a := ru
  obtain ⟨mA, O, _, _, _, _⟩ := ins_get I.hok e
  obtain ⟨od, ho, _⟩ := lookIn_ns O.ns
  have IA : PySem.W.InstAt s.heap a (PySem.W.instObj C dx) C (some od) := ⟨O.obj, rfl, rfl, ho⟩
  refine Calls.call_function_entry kind_len plain_len entry_len (args_len1 _) ?_
  unfold Builtin.«len»
  refine wpAny_bind (m := oneArg "len" _) (wpAny_pure ?_)
  refine wpAny_bind (m := callSpecial? (.ref a) (Str.ofString "__len__")) (PySem.W.special_fn I.kIn IA hm.at_ (beq_iff_eq.mp hm.fn)
    (wpAny_mono (run_fn1 (us := [.ref a]) (vs := [.ref a]) F hr hb .nil hx I (.cons rfl .nil) q) (fun r s' hr' => ?_) fun _ _ y => y))
  obtain ⟨v, H', I', rv, n, rfl, hn, q'⟩ := hr'
  obtain ⟨t, rfl⟩ := (show ∃ t, r = Value.int n t from rv)
  rw [sizeLine_eq] at hn
  refine wpAny_bind (wpAny_holding (wpAny_pure ?_))
  refine wpAny_bind (wpAny_letGo ?_)
  show wpAny _ _ (if ((n : Nat) : Int) < 0 then _ else _) _ _ _
  rw [if_neg (by omega)]
  show wpAny _ _ (if ((n : Nat) : Int) ≥ 2 ^ 63 then _ else _) _ _ _
  rw [if_neg (by omega)]
  exact wpAny_bind (wpAny_mkInt (wpAny_pure ⟨_, rfl, .int n, H', I'.tok _, ⟨_, rfl⟩, q'⟩))
end
/-! ### sorted of a tuple of tuples of ints -/
section
variable {prog : Program} {w : World} {A : Around} {E : Value → Shared → Prop} {s : Shared}
theorem collect_tup {l : Addr} {vs : List Value} {Q : List Value → Shared → Prop} (hl : IsTup s.heap l vs.toArray)
    (h : Q vs { s with heap := (s.heap.push (seqObj "list" #[] 0)).update s.heap.objs.size (Obj.mapSeq (· ++ vs.toArray)) }) (hsz : vs.length ≤ sizeLine) :
    wpAny (model prog w) A (collect (.ref l)) Q E s := by
  obtain ⟨o, ho, hc, n, hd⟩ := id hl
  unfold collect
  refine wpAny_bind (wpAny_runValue (codeAny_builtin entry_proto_collect' ?_))
  show wpAny _ _ (do again (.builtin "list.__iadd__" ⟨[← newList [], .ref l], []⟩)) _ _ s
  refine wpAny_bind (wpAny_newList (wpAny_pure ⟨Code.quiet_builtin _ (by decide +kernel), codeAny_builtin entry_list_iadd' ?_⟩))
  show wpAny _ _ (Builtin.List.listExtendWith (.ref s.heap.objs.size) (.ref l) (.ref s.heap.objs.size)) _ _ { s with heap := s.heap.push (seqObj "list" #[] 0) }
  unfold Builtin.List.listExtendWith
  have ho' : (s.heap.push (seqObj "list" #[] 0)).get? l = some o := Heap.get?_push_of_some _ ho
  refine wpAny_bind (wpAny_typeOf (T := "tuple") ⟨o, ho', hc⟩ ?_)
  have ht : (Value.type "tuple" == Value.type "tuple") = true := by rfl
  rw [if_pos (by rw [ht]; simp)]
  refine wpAny_bind (listItems_at ho' hd ?_)
  refine wpAny_bind (listItems_at (xs := #[]) (n := 0) (Heap.get?_push_size _ rfl) rfl ?_)
  rw [if_neg (by simp)]
  refine wpAny_bind (listUpdate_at (xs := #[]) (n := 0) (Heap.get?_push_size _ rfl) rfl ?_ (Nat.zero_le _) (by show (#[] ++ vs.toArray).size ≤ sizeLine + 1; simp only [Array.size_append, List.size_toArray, List.length_nil]; omega))
  refine wpAny_pure ?_
  show wpAny (model prog w) A (do
      let o ← load s.heap.objs.size
      match o.data with
      | .seq xs _ => pure xs.toList
      | _ => unsupported "internal:collect") Q E { s with heap := (s.heap.push (seqObj "list" #[] 0)).update s.heap.objs.size (Obj.mapSeq (· ++ vs.toArray)) }
  refine wpAny_bind (wpAny_load (get?_update_seq (Heap.get?_push_size _ rfl) _) ?_)
  show wpAny _ _ (pure ((#[] : Array Value) ++ vs.toArray).toList) Q E _
  rw [show ((#[] : Array Value) ++ vs.toArray).toList = vs by simp]
  exact wpAny_pure h
open TS in
theorem sorted_tupsT {l : Addr} {vs : List Value} {d : Nat} {B : Int} {Q : Value → Shared → Prop} (hl : IsTup s.heap l vs.toArray) (h64 : vs.length < 64) (hd : 1 ≤ d) (x : TupsOk s.heap d B vs)
    (h : ∀ out : Array Value, out.toList.Perm vs → out.toList.Pairwise (fun u v => code B (intsOf s.heap u) ≤ code B (intsOf s.heap v)) → Q (.ref (s.heap.objs.size + 1)) { s with heap := sortedAll s.heap vs out }) :
    wpAny (model prog w) A (call (.builtin "sorted") [.ref l]) Q E s := by
  refine Calls.call_function_entry kind_sorted plain_sorted entry_sorted (args_sorted1 _) ?_
  unfold Builtin.«sorted»
  refine wpAny_bind (m := checkCount "sorted" 1 1 _) (wpAny_pure ?_)
  refine wpAny_bind (collect_tup hl ?_ (by rw [sizeLine_eq]; omega))
  refine wpAny_bind (wpAny_newList ?_ (by rw [sizeLine_eq]; omega))
  have hsz : ((s.heap.push (seqObj "list" #[] 0)).update s.heap.objs.size (Obj.mapSeq (· ++ vs.toArray))).objs.size = s.heap.objs.size + 1 := by
    rw [Heap.size_update, size_push']
  have hoL : (((s.heap.push (seqObj "list" #[] 0)).update s.heap.objs.size (Obj.mapSeq (· ++ vs.toArray))).push (seqObj "list" vs.toArray 0)).get? (s.heap.objs.size + 1) = some (seqObj "list" vs.toArray 0) := by
    rw [← hsz]; exact Heap.get?_push_size _ rfl
  have keep : ∀ b o, s.heap.get? b = some o → o.cls = .type "tuple" → (((s.heap.push (seqObj "list" #[] 0)).update s.heap.objs.size (Obj.mapSeq (· ++ vs.toArray))).push (seqObj "list" vs.toArray 0)).get? b = some o := fun b o q _ => by
    have hlt : b < s.heap.objs.size := Heap.lt_size q
    rw [Heap.get?_push_ne _ _ _ (by rw [hsz]; exact Nat.ne_of_lt (Nat.lt_succ_of_lt hlt)), Heap.get?_update_ne _ _ _ _ (Nat.ne_of_lt hlt), Heap.get?_push_ne _ _ _ (Nat.ne_of_lt hlt)]
    exact q
  show wpAny _ _ _ _ _ { s with heap := ((s.heap.push (seqObj "list" #[] 0)).update s.heap.objs.size (Obj.mapSeq (· ++ vs.toArray))).push (seqObj "list" vs.toArray 0) }
  rw [hsz]
  refine wpAny_bind (wpAny_holding (wpAny_call_entry slot_list_sort ⟨_, hoL, rfl⟩ entry_list_sort (sort_tups hoL h64 hd (x.keeps keep) (fun v => code B (intsOf s.heap v)) (fun v hv ns t => ?_) fun out a1 a2 => ⟨_, rfl, ?_⟩) (args_list_sort _)))
  · obtain ⟨ns0, t0, _⟩ := x v hv
    have e : ns = ns0 := t.ints.symm.trans (t0.keeps keep).ints
    rw [e]
    show code B (intsOf s.heap v) = code B ns0
    rw [t0.ints]
  · exact wpAny_pure ⟨_, rfl, h out a1 a2⟩
end
def rSortUT (K : PySem.W.Frag) (d : Nat) (B : Int) : List V → Hp → VK → Prop := fun vs H Q => ∃ (a : Addr) (xs : List V), vs = [V.ref a] ∧ SqT K H a xs ∧ xs.length < 64 ∧ (∀ x ∈ xs, ∃ ns, TupI K H x ns ∧ ns.length = d ∧ TS.Bd B ns) ∧
  ∀ (ys : List V) (p : Addr), ys.Perm xs → ys.Pairwise (fun x y => ∀ n m, TupI K H x n → TupI K H y m → TS.code B n ≤ TS.code B m) → H p = none → Q (.ref p) (upd H p (.lst ys))
theorem cr_sortTT {X : Cx} {d : Nat} {B : Int} (hd : 1 ≤ d) : CallR X (.builtin "sorted") (rSortUT X.K d B) := by
  intro pins s σ H vs us Q I r h
  obtain ⟨a, xs, rfl, hs, h64, hx, q⟩ := h
  obtain ⟨its, rv, hl, hz⟩ := I.tuple hs
  rw [Vals.ref1 r]
  obtain ⟨e1, e2⟩ := bkV_refs rv fun x m => by
    obtain ⟨ns, ⟨t, e, _⟩, _⟩ := hx x m
    exact ⟨t, e⟩
  refine sorted_tupsT (d := d) (B := B) hl (by rw [← rv.length]; exact h64) hd (fun v hv => ?_) fun out h1 h2 => ?_
  · obtain ⟨t, rfl⟩ := e2 v hv
    have hm : V.ref t ∈ xs := by
      rw [e1]
      exact List.mem_map.mpr ⟨_, hv, rfl⟩
    obtain ⟨ns, ⟨t', e, ht⟩, hn, hb⟩ := hx _ hm
    cases e
    exact ⟨ns, tupI_raw I ht, hn, hb⟩
  · obtain ⟨ep, he'⟩ := PyProof.Rows.sortedAll_at s.heap its out
    have h3 : ∀ u ∈ out.toList, ∃ a, u = Value.ref a := fun u hu => e2 u (h1.mem_iff.mp hu)
    have hp : (out.toList.map bkV).Perm xs := by
      rw [e1]
      exact h1.map bkV
    have hlen : (out.toList.map bkV).length ≤ sizeLine := by
      rw [hp.length_eq]
      exact hz
    refine ⟨.ref _, upd H (s.heap.objs.size + 1) (.lst (out.toList.map bkV)), I.laid (t' := s.toks) (fun _ _ => PyProof.Rows.sortedAll_old) (Nat.le_succ _) ⟨hlen, out.toList, ep, bkV_vals h3, he'⟩, rfl, q _ _ hp ?_ (I.hok.fresh (Nat.le_succ _))⟩
    rw [List.pairwise_map]
    refine List.Pairwise.imp (fun {u v} huv n m hn hm => ?_) h2
    obtain ⟨t, et, ht⟩ := hn
    obtain ⟨t', et', ht'⟩ := hm
    have eu := bkV_ref et
    have ev := bkV_ref et'
    have i1 : TS.intsOf s.heap u = n := by
      rw [eu]
      exact (tupI_raw I ht).ints
    have i2 : TS.intsOf s.heap v = m := by
      rw [ev]
      exact (tupI_raw I ht').ints
    rw [← i1, ← i2]
    exact huv
end G0
namespace G0
open PySem PySem.Spec PyProof.Rows L2
/-! ### data -/
mutual
def noL : PyData → Bool
  | .none | .bool _ | .int _ | .str _ => true
  | .list _ | .dict _ => false
  | .tuple xs => noLs xs
def noLs : List PyData → Bool
  | [] => true
  | x :: xs => noL x && noLs xs
end
section
variable {K : PySem.W.Frag} {H H' : Hp} {p : Addr}
theorem sqt_chg (hp : ∃ xs, H p = some (.lst xs)) (c : Chg p H H') {a : Addr} {xs : List V} (h : SqT K H a xs) : SqT K H' a xs := by
  obtain ⟨ys, hp⟩ := hp
  rcases h with (h | ⟨o, h⟩) | h
  · exact .inl (.inl (c _ _ (ne_of h hp (by intro z; cases z)) h))
  · exact .inl (.inr ⟨o, c _ _ (ne_of h hp (by intro z; cases z)) h⟩)
  · exact .inr h
theorem sqt_same (c : Same H H') {a : Addr} {xs : List V} (h : SqT K H a xs) : SqT K H' a xs := by
  rcases h with (h | ⟨o, h⟩) | h
  · exact .inl (.inl (c _ _ h))
  · exact .inl (.inr ⟨o, c _ _ h⟩)
  · exact .inr h
mutual
theorem dp_chg (hp : ∃ xs, H p = some (.lst xs)) (c : Chg p H H') : ∀ (d : PyData) (v : V), noL d = true → Dp K H v d → Dp K H' v d
  | .none, _, _, h => by cases h; exact .non
  | .bool _, _, _, h => by cases h; exact .bl _
  | .int _, _, _, h => by cases h; exact .int _
  | .str _, _, _, h => by cases h; exact .str _
  | .list _, _, n, _ => by simp [noL] at n
  | .dict _, _, n, _ => by simp [noL] at n
  | .tuple ds, _, n, h => by
    cases h with
    | tup hs ha => exact .tup (sqt_chg hp c hs) (dps_chg hp c ds _ (by simpa [noL] using n) ha)
theorem dps_chg (hp : ∃ xs, H p = some (.lst xs)) (c : Chg p H H') : ∀ (ds : List PyData) (vs : List V), noLs ds = true → DpAll K H vs ds → DpAll K H' vs ds
  | [], _, _, h => by cases h; exact .nil
  | d :: ds, _, n, h => by
    simp only [noLs, Bool.and_eq_true] at n
    cases h with
    | cons h1 h2 => exact .cons (dp_chg hp c d _ n.1 h1) (dps_chg hp c ds _ n.2 h2)
end
mutual
theorem dp_same (c : Same H H') : ∀ (d : PyData) (v : V), Dp K H v d → Dp K H' v d
  | .none, _, h => by cases h; exact .non
  | .bool _, _, h => by cases h; exact .bl _
  | .int _, _, h => by cases h; exact .int _
  | .str _, _, h => by cases h; exact .str _
  | .list ds, _, h => by
    cases h with
    | lst hs ha => exact .lst (c.seq hs) (dps_same c ds _ ha)
  | .dict _, _, h => by cases h
  | .tuple ds, _, h => by
    cases h with
    | tup hs ha => exact .tup (sqt_same c hs) (dps_same c ds _ ha)
theorem dps_same (c : Same H H') : ∀ (ds : List PyData) (vs : List V), DpAll K H vs ds → DpAll K H' vs ds
  | [], _, h => by cases h; exact .nil
  | d :: ds, _, h => by
    cases h with
    | cons h1 h2 => exact .cons (dp_same c d _ h1) (dps_same c ds _ h2)
end
theorem dps_app {vs ws : List V} {ds es : List PyData} : DpAll K H vs ds → DpAll K H ws es → DpAll K H (vs ++ ws) (ds ++ es) := by
  intro h g
  match vs, ds, h with
  | [], [], _ => exact g
  | _ :: _, _ :: _, .cons h1 h2 => exact .cons h1 (dps_app h2 g)
theorem dps_len {vs : List V} {ds : List PyData} : DpAll K H vs ds → vs.length = ds.length := by
  intro h
  match vs, ds, h with
  | [], [], _ => rfl
  | _ :: _, _ :: _, .cons _ h2 => exact congrArg (· + 1) (dps_len h2)
end
theorem noLs_of : ∀ {ds : List PyData}, (∀ d ∈ ds, noL d = true) → noLs ds = true
  | [], _ => rfl
  | d :: ds, h => by
    simp only [noLs, Bool.and_eq_true]
    exact ⟨h d (List.mem_cons_self ..), noLs_of fun x hx => h x (List.mem_cons_of_mem _ hx)⟩
/-! ### things and letters -/
inductive Thing : Nat → PyData → Prop
  | num {n : Nat} {i : Int} : 0 ≤ i → i < 10 ^ 60 → Thing n (.int i)
  | tup {n : Nat} {ds : List PyData} : ds.length ≤ 2 → (∀ d ∈ ds, Thing n d) → Thing (n + 1) (.tuple ds)
theorem Thing.noL {n : Nat} {d : PyData} (h : Thing n d) : noL d = true := by
  induction h with
  | num _ _ => rfl
  | tup _ _ ih =>
    simp only [G0.noL]
    exact noLs_of ih
theorem Thing.mono {n m : Nat} {d : PyData} (h : Thing n d) (le : n ≤ m) : Thing m d := by
  induction h generalizing m with
  | num a b => exact .num a b
  | tup l _ ih =>
    cases m with
    | zero => omega
    | succ m => exact .tup l fun d hd => ih d hd (by omega)
def WordOk (z : Str) : Prop := 1 ≤ z.length ∧ z.length ≤ 8 ∧ (∀ c ∈ z.cps.toList, 97 ≤ c ∧ c ≤ 122) ∧ z ≠ "gone"
def LetterD (d : PyData) : Prop := ∃ (z : Str) (ds : List PyData), d = .tuple (.str z :: ds) ∧ WordOk z ∧ ds.length ≤ 5 ∧ ∀ x ∈ ds, Thing 3 x
theorem LetterD.noL {d : PyData} (h : LetterD d) : noL d = true := by
  obtain ⟨z, ds, rfl, _, _, hd⟩ := h
  simp only [G0.noL, noLs, Bool.true_and]
  exact noLs_of fun x hx => (hd x hx).noL
theorem Chg.mut {p D : Addr} {H0 H1 : Hp} {o : HO} (a : Chg p H0 H1) (n : H0 D = none) : Chg p H0 (upd H1 D o) := fun b u m e => by
  rw [upd_ne (ne_of_none e n)]; exact a b u m e
theorem PotAt.ne {n : Nat} {H H' : Hp} {p D : Addr} {o : HO} (h : PotAt n H p) (d : p ≠ D) (e : H' = upd H D o) : PotAt n H' p := by
  obtain ⟨xs, q, r⟩ := h
  exact ⟨xs, by rw [e, upd_ne d]; exact q, r⟩
theorem PotAt.new {n : Nat} {H : Hp} {p D : Addr} {o : HO} (h : PotAt n H p) (d : H D = none) : PotAt n (upd H D o) p := h.keep (same_upd d)
theorem PotAt.neD {n : Nat} {H : Hp} {p D : Addr} (h : PotAt n H p) (d : H D = none) : p ≠ D := by
  obtain ⟨xs, q, r⟩ := h
  exact ne_of_none q d
theorem PotAt.lst {n : Nat} {H : Hp} {p : Addr} (h : PotAt n H p) : ∃ xs, H p = some (.lst xs) := by
  obtain ⟨xs, q, r⟩ := h
  exact ⟨xs, q⟩
theorem PotAt.neT {n : Nat} {H : Hp} {p t : Addr} {xs : List V} (h : PotAt n H p) (d : H t = some (.tup xs)) : t ≠ p := by
  obtain ⟨ys, q, r⟩ := h
  exact ne_of d q (by intro z; cases z)
theorem Cal.imp {P : Program} {w : World} {K : PySem.W.Frag} {mg : Str → Option Value} {base : Heap} {x : Str} {k : Nat} {ps : List Str} {sp sp' : Sp}
    (C : Cal P w K mg base x k ps sp) (h : ∀ vs H Q E, sp' vs H Q E → sp vs H Q E) : Cal P w K mg base x k ps sp' := by
  obtain ⟨f, fd, F, r⟩ := C
  exact ⟨f, fd, ⟨fun a b c d q => F.len _ _ _ _ (h _ _ _ _ q), fun A o s H args us vs Q E hr he hb hv hs => F.run A o s H args us vs Q E hr he hb hv (h _ _ _ _ hs)⟩, r⟩
theorem cal_no {P : Program} {w : World} {K : PySem.W.Frag} {mg : Str → Option Value} {base : Heap} {x : Str} {st : Stmt} {ps : List Str} (F : Fn K mg x st)
    (bd : ∀ (kV doc pm : Value) (an : Option Addr) (cdv ct : Value) (us : List Value), us.length = ps.length →
      bindArgs (PySem.W.fnOf x x (defArgs st) (defBody st) (defScope st) .none kV doc pm an cdv ct) ⟨us, []⟩ = pure (ps.zip us)) :
    Cal P w K mg base x 0 ps (fun _ _ _ _ => False) := by
  obtain ⟨f, fd, F, m⟩ := F
  obtain ⟨oc, od, kV, doc, pm, an, cdv, ct, osl, e, lk, c⟩ := id F.ex
  exact ⟨f, fd, ⟨fun _ _ _ _ h => h.elim, fun _ _ _ _ _ _ _ _ _ _ _ _ _ h => h.elim⟩, F.binds bd, m, F.kp, oc, od, osl, lk⟩
/-! ### texts of small letters -/
theorem az : ∀ j : Fin 26, (("abcdefghijklmnopqrstuvwxyz" : Str).cps.toList)[j.val]? = some (97 + j.val) := by decide +kernel
theorem az_at {d : Int} (h0 : 0 ≤ d) (h1 : d < 26) : atI ("abcdefghijklmnopqrstuvwxyz" : Str).cps.toList d = some (97 + d.toNat) := by
  have e : d = ((d.toNat : Nat) : Int) := by omega
  have q := az ⟨d.toNat, by omega⟩
  rw [e]
  exact atI_nat q
def sg (c : Nat) : Str := ⟨#[c]⟩
open TL in
theorem joinL_sg : ∀ cs : List Nat, joinL [] (cs.map fun c => [c]) = cs
  | [] => rfl
  | [c] => rfl
  | c :: d :: r => by
    show [c] ++ ([] ++ joinL [] ((d :: r).map fun c => [c])) = c :: d :: r
    rw [joinL_sg (d :: r)]
    rfl
open TL in
theorem tl_of (z : Str) : tl z = z.cps.toList := rfl
open TL in
theorem join_sg (cs : List Nat) : (Txt.join "" (cs.map sg)).cps.toList = cs := by
  rw [join_eq, ← tl_of, tl_join]
  have e : (cs.map sg).map tl = cs.map fun c => [c] := by rw [List.map_map]; rfl
  rw [e]
  exact joinL_sg cs
open TL in
theorem join_sg_len (cs : List Nat) : (Txt.join "" (cs.map sg)).length = cs.length := by
  have e := congrArg List.length (join_sg cs)
  rw [← e]
  show _ = (Txt.join "" (cs.map sg)).cps.toList.length
  simp [Str.length]
theorem sum_sg : ∀ cs : List Nat, ((cs.map sg).map (·.length)).sum = cs.length
  | [] => rfl
  | c :: r => by
    show 1 + ((r.map sg).map (·.length)).sum = r.length + 1
    rw [sum_sg r]; omega

end G0
namespace G0
open PySem PySem.Spec PyProof.Rows L2
theorem iteF' {c : Bool} {A B : Prop} (e : c = false) (h : B) : if c = true then A else B := by rw [e]; exact iteF h
theorem iteT' {c : Bool} {A B : Prop} (e : c = true) (h : A) : if c = true then A else B := by rw [e]; exact iteT h
/-! ### several lists may change -/
def ChgS (S : List Addr) (H H' : Hp) : Prop := ∀ b o, b ∉ S → H b = some o → H' b = some o
section
variable {S : List Addr} {p q : Addr} {H H' H0 H1 H2 : Hp} {o : HO}
theorem ChgS.refl : ChgS S H H := fun _ _ _ e => e
theorem ChgS.trans (a : ChgS S H H1) (b : ChgS S H1 H2) : ChgS S H H2 := fun c o n e => b c o n (a c o n e)
theorem Chg.s (h : Chg p H H') (m : p ∈ S) : ChgS S H H' := fun b o n e => h b o (fun z => n (z ▸ m)) e
theorem Same.s (h : Same H H') : ChgS S H H' := fun b o _ e => h b o e
theorem ChgS.mono {T : List Addr} (h : ChgS S H H') (m : ∀ b ∈ S, b ∈ T) : ChgS T H H' := fun b o n e => h b o (fun z => n (m b z)) e
theorem ChgS.new (a : ChgS S H H1) (n : H1 q = none) : ChgS S H (upd H1 q o) := fun b u m e => by
  rw [upd_ne (ne_of_none (a b u m e) n)]; exact a b u m e
theorem ChgS.mut (a : ChgS S H H1) (n : H q = none) : ChgS S H (upd H1 q o) := fun b u m e => by
  rw [upd_ne (ne_of_none e n)]; exact a b u m e
theorem ChgS.put (a : ChgS S H H1) (m : q ∈ S) : ChgS S H (upd H1 q o) := fun b u n e => by
  have nb : b ≠ q := fun z => n (by rw [z]; exact m)
  rw [upd_ne nb]; exact a b u n e
/-- what is new behind was new ahead -/
theorem ChgS.back (a : ChgS S H H1) (n : H1 q = none) (m : q ∉ S) : H q = none := by
  cases e : H q with
  | none => rfl
  | some u => rw [a q u m e] at n; cases n
theorem Chg.back (a : Chg p H H1) (n : H1 q = none) (m : q ≠ p) : H q = none := by
  cases e : H q with
  | none => rfl
  | some u => rw [a q u m e] at n; cases n
theorem PotAt.keepS {n : Nat} (h : PotAt n H p) (s : ChgS S H H') (m : p ∉ S) : PotAt n H' p := by
  obtain ⟨xs, e, h⟩ := h
  exact ⟨xs, s _ _ m e, h⟩
end
/-! ### lists of ints -/
section
variable {K : PySem.W.Frag} {H : Hp}
theorem dps_ints : ∀ ns : List Int, DpAll K H (ns.map V.int) (ns.map PyData.int)
  | [] => .nil
  | n :: r => .cons (.int n) (dps_ints r)
theorem dp_ints {a : Addr} {ns : List Int} (h : H a = some (.lst (ns.map V.int))) : Dp K H (.ref a) (.list (ns.map PyData.int)) := .lst (SqL.of h) (dps_ints ns)
theorem lay_ints : ∀ ns : List Int, PyData.canLayAll0 (ns.map PyData.int) = true
  | [] => by simp [PyData.canLayAll0]
  | n :: r => by simp [PyData.canLayAll0, PyData.canLay0, lay_ints r]
theorem deep_ints : ∀ ns : List Int, PyData.depthAll (ns.map PyData.int) = 0
  | [] => by simp [PyData.depthAll]
  | n :: r => by simp [PyData.depthAll, PyData.depth, deep_ints r]
theorem shaped_ints (ns : List Int) : SeqAt.shaped (.list (ns.map PyData.int)) = true := by
  show ((PyData.list (ns.map PyData.int)).canLay0 && decide ((PyData.list (ns.map PyData.int)).depth ≤ 64)) = true
  simp [PyData.canLay0, PyData.depth, lay_ints, deep_ints]
theorem flat_ints : ∀ ns : List Int, (ns.map V.int).all flatV = true
  | [] => rfl
  | n :: r => by simp [flatV, flat_ints r]
theorem inV_ints (v : Int) : ∀ ns : List Int, inV (.int v) (ns.map V.int) = decide (v ∈ ns)
  | [] => by simp [inV]
  | n :: r => by
    have ih := inV_ints v r
    unfold inV at ih ⊢
    rw [List.map_cons, List.any_cons, ih]
    show ((n == v) || decide (v ∈ r)) = decide (v ∈ n :: r)
    by_cases e : n = v
    · subst e; simp
    · have e' : ¬ v = n := fun z => e z.symm
      simp [e, e']
theorem at_ints {ns : List Int} {d : Int} (h0 : 0 ≤ d) (h1 : d < ns.length) : ∃ v, v ∈ ns ∧ atI (ns.map V.int) d = some (.int v) := by
  have hk : d.toNat < ns.length := by omega
  have ek : d = ((d.toNat : Nat) : Int) := by omega
  refine ⟨ns[d.toNat], List.getElem_mem hk, ?_⟩
  have q : atI (ns.map V.int) ((d.toNat : Nat) : Int) = some (.int ns[d.toNat]) := atI_nat (by rw [List.getElem?_map, List.getElem?_eq_getElem hk] <;> rfl)
  rw [← ek] at q
  exact q
end
/-! ### how long a repr is -/
mutual
def cost : PyData → Nat
  | .none => 4
  | .bool _ => 5
  | .int _ => 1921
  | .str x => 10 * x.length + 2
  | .list xs => 2 + costs xs
  | .tuple xs => 4 + costs xs
  | .dict _ => 0
def costs : List PyData → Nat
  | [] => 0
  | x :: xs => cost x + 2 + costs xs
end
theorem from_le : ∀ (ts : List Str) (k : Nat) (acc : Str), (textFrom k acc ts).length ≤ acc.length + (ts.map fun t => t.length + 2).sum
  | [], k, acc => by show acc.length ≤ _; simp
  | t :: r, k, acc => by
    have ih := from_le r (k + 1) (acc ++ (if k > 0 then ", " else "" : String) ++ t)
    show (textFrom (k + 1) _ r).length ≤ _
    rw [List.map_cons, List.sum_cons]
    rw [Str.length_append, Str.length_append] at ih
    have sep : (Str.ofString (if k > 0 then ", " else "")).length ≤ 2 := by split <;> decide
    omega
theorem join_le : ∀ ts : List Str, (Str.join ", " ts).length ≤ (ts.map fun t => t.length + 2).sum
  | [] => by decide
  | [x] => by show x.length ≤ _; simp
  | x :: y :: r => by
    have ih := join_le (y :: r)
    show (x ++ (", " : Str) ++ Str.join ", " (y :: r)).length ≤ _
    rw [Str.length_append, Str.length_append, List.map_cons, List.sum_cons]
    have : (", " : Str).length = 2 := by decide
    omega
theorem small_cps {x : Str} (h : PyData.strOk x = true) : ∀ c ∈ x.cps.toList, c < 16 ^ 8 := fun c hc => by
  unfold PyData.strOk at h
  rw [Array.all_eq_true_iff_forall_mem] at h
  have := of_decide_eq_true (h c (Array.mem_toList_iff.mp hc))
  omega
mutual
theorem shown_le : ∀ d : PyData, d.showable = true → d.canLay0 = true → d.shown.length ≤ cost d
  | .none, _, _ => by show (("None" : Str)).length ≤ 4; decide
  | .bool b, _, _ => by cases b <;> (simp only [PyData.shown, cost]; decide)
  | .int i, h, _ => by
    simp only [PyData.shown, cost]
    exact int_text_len_1921 (by simpa [PyData.showable] using h)
  | .str x, _, h => by
    simp only [PyData.shown, cost]
    exact StrLaws.reprText_len x (small_cps (by simpa [PyData.canLay0] using h))
  | .list xs, h, l => by
    have ih := shown_les xs (by simpa [PyData.showable] using h) (by simpa [PyData.canLay0] using l)
    simp only [PyData.shown, cost]
    show (textFrom 0 "[" (PyData.shownAll xs) ++ ("]" : Str)).length ≤ _
    have := from_le (PyData.shownAll xs) 0 "["
    have a : ("[" : Str).length = 1 := by decide
    have b : ("]" : Str).length = 1 := by decide
    rw [Str.length_append]
    omega
  | .tuple xs, h, l => by
    have ih := shown_les xs (by simpa [PyData.showable] using h) (by simpa [PyData.canLay0] using l)
    simp only [PyData.shown, cost]
    show (("(" : Str) ++ Str.join ", " (PyData.shownAll xs) ++ (Str.ofString (if (PyData.shownAll xs).length == 1 then ",)" else ")"))).length ≤ _
    have := join_le (PyData.shownAll xs)
    have a : ("(" : Str).length = 1 := by decide
    have b : (Str.ofString (if (PyData.shownAll xs).length == 1 then ",)" else ")")).length ≤ 2 := by split <;> decide
    rw [Str.length_append, Str.length_append]
    omega
  | .dict _, _, h => by simp [PyData.canLay0] at h
theorem shown_les : ∀ ds : List PyData, PyData.showableAll ds = true → PyData.canLayAll0 ds = true → ((PyData.shownAll ds).map fun t => t.length + 2).sum ≤ costs ds
  | [], _, _ => Nat.le_refl _
  | d :: ds, h, l => by
    simp only [PyData.showableAll, Bool.and_eq_true] at h
    simp only [PyData.canLayAll0, Bool.and_eq_true] at l
    have h1 := shown_le d h.1 l.1
    have h2 := shown_les ds h.2 l.2
    simp only [PyData.shownAll, costs, List.map_cons, List.sum_cons]
    omega
end

end G0
namespace G0
open PySem PySem.Spec PyProof.Rows L2
/-! ### data with lists of its own: the addresses of its lists are told -/
mutual
inductive Ow (K : PySem.W.Frag) (H : Hp) : V → PyData → List Addr → Prop
  | non : Ow K H .non .none []
  | bl (b : Bool) : Ow K H (.bl b) (.bool b) []
  | int (i : Int) : Ow K H (.int i) (.int i) []
  | str (x : Str) : Ow K H (.str x) (.str x) []
  | lst {a : Addr} {xs : List V} {ds : List PyData} {fp : List Addr} : H a = some (.lst xs) → OwAll K H xs ds fp → Ow K H (.ref a) (.list ds) (a :: fp)
  | tup {a : Addr} {xs : List V} {ds : List PyData} {fp : List Addr} : SqT K H a xs → OwAll K H xs ds fp → Ow K H (.ref a) (.tuple ds) fp
inductive OwAll (K : PySem.W.Frag) (H : Hp) : List V → List PyData → List Addr → Prop
  | nil : OwAll K H [] [] []
  | cons {v : V} {vs : List V} {d : PyData} {ds : List PyData} {f g : List Addr} : Ow K H v d f → OwAll K H vs ds g → OwAll K H (v :: vs) (d :: ds) (f ++ g)
end
/-- what can be changed is no tuple -/
def Mu (o : HO) : Prop := (∀ xs, o ≠ .tup xs) ∧ ∀ ob u, o ≠ .frz ob u
theorem mu_lst {xs : List V} : Mu (.lst xs) := ⟨fun _ z => (by cases z), fun _ _ z => (by cases z)⟩
theorem mu_ins {C dx : Addr} {fs : List (Str × V)} : Mu (.ins C dx fs) := ⟨fun _ z => (by cases z), fun _ _ z => (by cases z)⟩
theorem mu_dK {kvs : List (Key × V)} : Mu (.dK kvs) := ⟨fun _ z => (by cases z), fun _ _ z => (by cases z)⟩
def MuS (S : List Addr) (H : Hp) : Prop := ∀ b ∈ S, ∀ o, H b = some o → Mu o
section
variable {K : PySem.W.Frag} {H H' : Hp} {S : List Addr} {a : Addr} {xs : List V}
theorem sqt_chgS (m : MuS S H) (c : ChgS S H H') (h : SqT K H a xs) : SqT K H' a xs := by
  rcases h with (h | ⟨o, h⟩) | h
  · exact .inl (.inl (c _ _ (fun z => (m a z _ h).1 _ rfl) h))
  · exact .inl (.inr ⟨o, c _ _ (fun z => (m a z _ h).2 _ _ rfl) h⟩)
  · exact .inr h
mutual
theorem ow_chgS (m : MuS S H) (c : ChgS S H H') : ∀ (d : PyData) (v : V) (fp : List Addr), (∀ b ∈ fp, b ∉ S) → Ow K H v d fp → Ow K H' v d fp
  | .none, _, _, _, h => by cases h; exact .non
  | .bool _, _, _, _, h => by cases h; exact .bl _
  | .int _, _, _, _, h => by cases h; exact .int _
  | .str _, _, _, _, h => by cases h; exact .str _
  | .dict _, _, _, _, h => by cases h
  | .list ds, _, _, n, h => by
    cases h with
    | lst e al => exact .lst (c _ _ (n _ (List.mem_cons_self ..)) e) (ows_chgS m c ds _ _ (fun b hb => n b (List.mem_cons_of_mem _ hb)) al)
  | .tuple ds, _, _, n, h => by
    cases h with
    | tup e al => exact .tup (sqt_chgS m c e) (ows_chgS m c ds _ _ n al)
theorem ows_chgS (m : MuS S H) (c : ChgS S H H') : ∀ (ds : List PyData) (vs : List V) (fp : List Addr), (∀ b ∈ fp, b ∉ S) → OwAll K H vs ds fp → OwAll K H' vs ds fp
  | [], _, _, _, h => by cases h; exact .nil
  | d :: ds, _, _, n, h => by
    cases h with
    | cons h1 h2 => exact .cons (ow_chgS m c d _ _ (fun b hb => n b (List.mem_append_left _ hb)) h1) (ows_chgS m c ds _ _ (fun b hb => n b (List.mem_append_right _ hb)) h2)
end
theorem mus_nil : MuS [] H := fun _ h => by cases h
theorem ow_same (s : Same H H') {d : PyData} {v : V} {fp : List Addr} (h : Ow K H v d fp) : Ow K H' v d fp := ow_chgS mus_nil (Same.s s) d v fp (fun _ _ h => by cases h) h
theorem ows_same (s : Same H H') {ds : List PyData} {vs : List V} {fp : List Addr} (h : OwAll K H vs ds fp) : OwAll K H' vs ds fp := ows_chgS mus_nil (Same.s s) ds vs fp (fun _ _ h => by cases h) h
mutual
theorem ow_dp : ∀ (d : PyData) (v : V) (fp : List Addr), Ow K H v d fp → Dp K H v d
  | .none, _, _, h => by cases h; exact .non
  | .bool _, _, _, h => by cases h; exact .bl _
  | .int _, _, _, h => by cases h; exact .int _
  | .str _, _, _, h => by cases h; exact .str _
  | .dict _, _, _, h => by cases h
  | .list ds, _, _, h => by
    cases h with
    | lst e al => exact .lst (SqL.of e) (ows_dp ds _ _ al)
  | .tuple ds, _, _, h => by
    cases h with
    | tup e al => exact .tup e (ows_dp ds _ _ al)
theorem ows_dp : ∀ (ds : List PyData) (vs : List V) (fp : List Addr), OwAll K H vs ds fp → DpAll K H vs ds
  | [], _, _, h => by cases h; exact .nil
  | d :: ds, _, _, h => by
    cases h with
    | cons h1 h2 => exact .cons (ow_dp d _ _ h1) (ows_dp ds _ _ h2)
end
-- data without lists has none
mutual
theorem ow_noL : ∀ (d : PyData) (v : V), noL d = true → Dp K H v d → Ow K H v d []
  | .none, _, _, h => by cases h; exact .non
  | .bool _, _, _, h => by cases h; exact .bl _
  | .int _, _, _, h => by cases h; exact .int _
  | .str _, _, _, h => by cases h; exact .str _
  | .list _, _, n, _ => by simp [noL] at n
  | .dict _, _, n, _ => by simp [noL] at n
  | .tuple ds, _, n, h => by
    cases h with
    | tup hs ha => exact .tup hs (ows_noL ds _ (by simpa [noL] using n) ha)
theorem ows_noL : ∀ (ds : List PyData) (vs : List V), noLs ds = true → DpAll K H vs ds → OwAll K H vs ds []
  | [], _, _, h => by cases h; exact .nil
  | d :: ds, _, n, h => by
    simp only [noLs, Bool.and_eq_true] at n
    cases h with
    | cons h1 h2 => exact .cons (f := []) (g := []) (ow_noL d _ n.1 h1) (ows_noL ds _ n.2 h2)
end
theorem ows_app {vs ws : List V} {ds es : List PyData} {f g : List Addr} : OwAll K H vs ds f → OwAll K H ws es g → OwAll K H (vs ++ ws) (ds ++ es) (f ++ g) := by
  intro h k
  match vs, ds, f, h with
  | [], [], _, .nil => exact k
  | _ :: _, _ :: _, _, .cons (f := f1) (g := g1) h1 h2 =>
    rw [List.append_assoc]
    exact .cons h1 (ows_app h2 k)
theorem ows_len {vs : List V} {ds : List PyData} {f : List Addr} (h : OwAll K H vs ds f) : vs.length = ds.length := dps_len (ows_dp _ _ _ h)
-- its lists stand in the heap
mutual
theorem ow_in : ∀ (d : PyData) (v : V) (fp : List Addr), Ow K H v d fp → ∀ b ∈ fp, ∃ ys, H b = some (.lst ys)
  | .none, _, _, h => by cases h; intro b hb; cases hb
  | .bool _, _, _, h => by cases h; intro b hb; cases hb
  | .int _, _, _, h => by cases h; intro b hb; cases hb
  | .str _, _, _, h => by cases h; intro b hb; cases hb
  | .dict _, _, _, h => by cases h
  | .list ds, _, _, h => by
    cases h with
    | lst e al =>
      intro b hb
      rcases List.mem_cons.mp hb with rfl | hb
      · exact ⟨_, e⟩
      · exact ows_in ds _ _ al b hb
  | .tuple ds, _, _, h => by
    cases h with
    | tup e al => exact ows_in ds _ _ al
theorem ows_in : ∀ (ds : List PyData) (vs : List V) (fp : List Addr), OwAll K H vs ds fp → ∀ b ∈ fp, ∃ ys, H b = some (.lst ys)
  | [], _, _, h => by cases h; intro b hb; cases hb
  | d :: ds, _, _, h => by
    cases h with
    | cons h1 h2 =>
      intro b hb
      rcases List.mem_append.mp hb with hb | hb
      · exact ow_in d _ _ h1 b hb
      · exact ows_in ds _ _ h2 b hb
end
end

end G0
namespace G0
open PySem PySem.Spec PyProof.Rows L2
def top (i : Nat) : Stmt := PySem.Challenge.pw_soleseat_k87_porters.main.body.getD i (.Pass ⟨0, 0, 0, 0⟩)
abbrev s_BadPlay__init : Stmt := inClass (top 2) 0
abbrev s_is_below : Stmt := top 4
abbrev s_is_letter : Stmt := top 11
abbrev s_letter_fault : Stmt := top 12
abbrev s_is_word : Stmt := top 13
abbrev s_is_thing : Stmt := top 14
abbrev s_Seat__init : Stmt := inClass (top 17) 0
abbrev s_Seat_ask : Stmt := inClass (top 17) 1
abbrev s_Seat_leave : Stmt := inClass (top 17) 2
abbrev s_Seat_hear : Stmt := inClass (top 17) 3
abbrev s_Seat_gone : Stmt := inClass (top 17) 4
abbrev s_Puppet__init : Stmt := inClass (top 18) 0
abbrev s_Puppet_ask : Stmt := inClass (top 18) 1
abbrev s_Puppet_leave : Stmt := inClass (top 18) 2
abbrev s_Puppet_hear : Stmt := inClass (top 18) 3
abbrev s_Puppet_gone : Stmt := inClass (top 18) 4
abbrev s_Puppet_unplayed : Stmt := inClass (top 18) 5
abbrev s_Puppet_heard : Stmt := inClass (top 18) 6
abbrev s_Puppet_next_play : Stmt := inClass (top 18) 7
abbrev s_plays_fault : Stmt := top 19
abbrev s_is_play : Stmt := top 20
abbrev s_is_send : Stmt := top 21
abbrev s_Porter__init : Stmt := inClass (top 26) 0
abbrev s_Porter_ask : Stmt := inClass (top 26) 1
abbrev s_Porter_leave : Stmt := inClass (top 26) 2
abbrev s_Porter_hear : Stmt := inClass (top 26) 3
abbrev s_Porter_gone : Stmt := inClass (top 26) 4
abbrev s_Porter_hear_please : Stmt := inClass (top 26) 5
abbrev s_Porter_hear_done : Stmt := inClass (top 26) 6
abbrev s_Porter_serve : Stmt := inClass (top 26) 7
abbrev s_Porter_come_in : Stmt := inClass (top 26) 8
abbrev s_sent_by : Stmt := top 27
abbrev s_law_box : Stmt := top 29
abbrev s_law_pick : Stmt := top 30
abbrev s_law_plays : Stmt := top 31
abbrev s_law_play : Stmt := top 32
abbrev s_law_unlike : Stmt := top 33
abbrev s_law_pairs : Stmt := top 34
abbrev s_law_deeds : Stmt := top 35
abbrev s_law_risen : Stmt := top 36
abbrev s_law_asked : Stmt := top 37
abbrev s_law_due : Stmt := top 38
abbrev s_law : Stmt := top 39
theorem u64 {k : Nat} {A : Around} (hr : Room k A) : A.units + 64 < cLine := by have := hr.un; omega
theorem u65 {k : Nat} {A : Around} (hr : Room k A) : A.units + 65 < cLine := by have := hr.un; omega
theorem dec_ii {a b : Int} : decide (V.int a = V.int b) = decide (a = b) := decide_eq_decide.mpr ⟨fun h => by cases h; rfl, fun h => by rw [h]⟩
theorem dec_str {a b : Str} : decide (V.str a = V.str b) = decide (a = b) := decide_eq_decide.mpr ⟨fun h => by cases h; rfl, fun h => by rw [h]⟩
theorem lc_yes {te : TE} {σ : L2.St} {H : Hp} {Q : VK} {B : Hp → Prop} (h : te σ H Q) : tYes σ H (fun b H3 => if b = true then te σ H3 Q else B H3) := by
  show (if true = true then te σ H Q else B H)
  exact iteT h
structure Bl (mg : Str → Option Value) : Prop where
  len : mg "len" = none
  range : mg "range" = none
  tuple : mg "tuple" = none
  list : mg "list" = none
  abs : mg "abs" = none
  max : mg "max" = none
/-! ### xs[j] += e -/
def rGetL0 (K : PySem.W.Frag) : V → V → Hp → VK → Prop := fun o i H Q => ∃ (p : Addr) (xs : List V) (j : Nat) (z : V), o = .ref p ∧ i = .int (j : Nat) ∧ SqL K H p xs ∧ xs[j]? = some z ∧ j < 1000000 ∧ Q z H
theorem pget_list {X : Cx} : PGet X (rGetL0 X.K) := by
  rintro pins s σ H o i ov iv Q I ro ri ⟨p, xs, j, z, rfl, rfl, hq, hz, lj, q⟩
  cases ro
  obtain ⟨t, rfl⟩ := ri
  obtain ⟨its, r, pl, _⟩ := I.list hq
  obtain ⟨u, eu, ru⟩ := r.get hz
  exact wpAny_getItem_list pl.isList (by omega) (by omega) (by simpa using eu) ⟨z, H, I, ru, q⟩
section
variable {P : Program} {w : World} {K : PySem.W.Frag} {mg : Str → Option Value} {base : Heap}
/-! ### the box -/
theorem bits_of {i : Int} {k : Nat} (h : i.natAbs < 2 ^ k) : Builtin.Int.intBits i ≤ k := by
  unfold Builtin.Int.intBits
  split
  · omega
  · rename_i z
    have hz : i.natAbs ≠ 0 := by simpa using z
    have := (Nat.log2_lt hz).mpr h
    omega
structure Box (n : Nat) (H : Hp) (b c : Addr) : Prop where
  at_ : ∃ (v k m : Int), H b = some (.lst [.ref c, .int v, .int k, .int m]) ∧ 0 ≤ v ∧ 0 ≤ k ∧ k ≤ (n : Int) ∧ 0 ≤ m ∧ m < 10 ^ 18
  cells : ∃ cs : List Int, H c = some (.lst (cs.map V.int))
  ne : b ≠ c
theorem Box.same {n : Nat} {H H' : Hp} {b c : Addr} (B : Box n H b c) (s : Same H H') : Box n H' b c := by
  obtain ⟨v, k, m, e, r⟩ := B.at_
  obtain ⟨cs, e2⟩ := B.cells
  exact ⟨⟨v, k, m, s _ _ e, r⟩, ⟨cs, s _ _ e2⟩, B.ne⟩
theorem Box.mono {n n' : Nat} {H : Hp} {b c : Addr} (B : Box n H b c) (le : n ≤ n') : Box n' H b c := by
  obtain ⟨v, k, m, e, h1, h2, h3, r⟩ := B.at_
  exact ⟨⟨v, k, m, e, h1, h2, by omega, r⟩, B.cells, B.ne⟩
theorem Box.mut {n : Nat} {H : Hp} {b c q : Addr} {o : HO} (B : Box n H b c) (n1 : q ≠ b) (n2 : q ≠ c) : Box n (upd H q o) b c := by
  obtain ⟨v, k, m, e, r⟩ := B.at_
  obtain ⟨cs, e2⟩ := B.cells
  exact ⟨⟨v, k, m, (upd_ne n1.symm).trans e, r⟩, ⟨cs, (upd_ne n2.symm).trans e2⟩, B.ne⟩
theorem Box.ne1 {n : Nat} {H : Hp} {b c q : Addr} (B : Box n H b c) (h : H q = none) : q ≠ b := by
  obtain ⟨v, k, m, e, r⟩ := B.at_
  exact (ne_of_none e h).symm
theorem Box.ne2 {n : Nat} {H : Hp} {b c q : Addr} (B : Box n H b c) (h : H q = none) : q ≠ c := by
  obtain ⟨cs, e⟩ := B.cells
  exact (ne_of_none e h).symm
def spPick : Sp := fun vs H Q _ => ∃ (b c : Addr) (n : Nat) (m : Int), vs = [.ref b, .int m] ∧ Box n H b c ∧ n < 100000 ∧ 0 < m ∧ m.natAbs < 2 ^ 250 ∧
  ∀ (d : Int) H', 0 ≤ d → d < m → Box (n + 1) H' b c → ChgS [b, c] H H' → Q (.int d) H'
theorem sc_law_pick : FnScope ["box", "many", "cell", "told", "mixed"] ["box", "many"] (defScope s_law_pick) :=
  ⟨rfl, rfl, rfl, by decide +kernel, rfl, by decide +kernel, by decide +kernel⟩
theorem ok_pick (F : Fn K mg "_law_pick" s_law_pick) (T : Bl mg) : Cal P w K mg base "_law_pick" 1 ["box", "many"] spPick := by
  refine cal_of F sc_law_pick
    (fun _ _ _ _ _ _ us hl => match us, hl with | [_, _], _ => rfl) ?_ ?_
  · rintro vs H Q E ⟨b, c, n, m, rfl, _⟩
    rfl
  rintro f cdv A outer s H vs Q E free hr ⟨b, c, n, m, rfl, B, nb, m0, mb, q⟩
  refine ⟨_, (pss_cons (ps_augS (pv 0) pe_int pget_list pe_int ip_add set_list)
    (pss_cons (ps_if (PW.pt (pw_and (pt_cmpR op_eq (pe_ix ix_list (pv 0) pe_int (fun _ _ => rfl)) pe_int (nomark _)) (pw_and1 (pt_truth (pe_ix ix_list (pv 0) pe_int (fun _ _ => rfl)) (by intro _; rfl)))))
    (pss_cons (ps_set (i := 2) sc_law_pick.nd rfl (Or.inl rfl) (pe_callB call_abs (by rfl) T.abs (by decide +kernel) (pa_cons (pe_bm PySem.F.plainAttrs_list PySem.F.slot_list_pop PySem.F.type_list_pop mt_popAt (pe_ix ix_list (pv 0) pe_int (fun _ _ => rfl)) (pa_cons pe_int pa_nil)) pa_nil)))
    (pss_one (ps_if (pt_cmpR op_ge (pv 2) (pe_op op_pow pe_int pe_int) (nomark _))
    (pss_one (ps_asg (pv 2) (pg_sub (pv 0) pe_int set_list)))
    (pss_one (ps_asg (pe_op op_mod (pe_op op_add (pe_op op_mul (pe_ix ix_list (pv 0) pe_int (fun _ _ => rfl)) pe_int) (pv 2)) (pe_op op_pow pe_int pe_int)) (pg_sub (pv 0) pe_int set_list))))))
    pss_nil)
    (pss_cons (ps_if (pt_cmpR op_gt (pe_ix ix_list (pv 0) pe_int (fun _ _ => rfl)) pe_int (nomark _))
    (pss_cons (ps_set (i := 3) sc_law_pick.nd rfl (Or.inl rfl) (pe_op op_mod (pe_ix ix_list (pv 0) pe_int (fun _ _ => rfl)) (pv 1)))
    (pss_cons (ps_asg (pe_op op_fdivW (pe_ix ix_list (pv 0) pe_int (fun _ _ => rfl)) (pv 1)) (pg_sub (pv 0) pe_int set_list))
    (pss_one (ps_ret (pv 3)))))
    pss_nil)
    (pss_cons (ps_set (i := 4) sc_law_pick.nd rfl (Or.inl rfl) (pe_op op_mod (pe_op op_powB (pe_op op_add (pe_op op_add (pe_op op_mul (pe_ix ix_list (pv 0) pe_int (fun _ _ => rfl)) (pe_op op_add (pe_op op_mul pe_int (pe_ix ix_list (pv 0) pe_int (fun _ _ => rfl))) pe_int)) (pe_op op_mul pe_int (pe_ix ix_list (pv 0) pe_int (fun _ _ => rfl)))) pe_int) pe_int) pe_int))
    (pss_one (ps_ret (pe_op op_mod (pe_op op_fdivW (pv 4) pe_int) (pv 1)))))))), ?_⟩
  obtain ⟨v, k, mm, hb, v0, k0, kn, mm0, mm1⟩ := B.at_
  obtain ⟨cs, hc⟩ := B.cells
  have bc := B.ne
  have dv : ∀ x : Int, CDivW x m := fun x => wide_div m0 mb (by decide) (by decide)
  refine ⟨_, rfl, b, _, 2, _, rfl, rfl, SqL.of hb, rfl, by decide, k, 1, rfl, rfl, b, _, _, _, rfl, rfl, hb, rfl, ?_⟩
  have hb1 : upd H b (.lst [.ref c, .int v, .int (k + 1), .int mm]) b = some (.lst [.ref c, .int v, .int (k + 1), .int mm]) := upd_same
  have hc1 : upd H b (.lst [.ref c, .int v, .int (k + 1), .int mm]) c = some (.lst (cs.map V.int)) := (upd_ne bc.symm).trans hc
  have ch1 : ChgS [b, c] H (upd H b (.lst [.ref c, .int v, .int (k + 1), .int mm])) := fun x o nx e => by
    simp only [List.mem_cons, List.not_mem_nil, or_false, not_or] at nx
    exact (upd_ne nx.1).trans e
  refine ⟨_, rfl, b, _, _, _, rfl, rfl, SqL.of hb1, rfl, rfl, _, rfl, ?_⟩
  rw [dec_ii]
  refine ite2 (fun c1 => ?_) (fun c1 => ?_)
  · refine ⟨_, rfl, b, _, _, _, rfl, rfl, SqL.of hb1, rfl, _, .inl ⟨_, SqL.of hc1, rfl⟩, ?_⟩
    cases cs with
    | nil =>
      refine iteF' rfl ?_
      refine ⟨_, rfl, b, _, _, _, rfl, rfl, SqL.of hb1, rfl, _, _, rfl, rfl, _, rfl, ?_⟩
      refine ite2 (fun c5 => ?_) (fun c5 => ?_)
      · refine ⟨_, rfl, b, _, _, _, rfl, rfl, SqL.of hb1, rfl, _, rfl, _, _, rfl, rfl, m0, ?_⟩
        refine ⟨_, rfl, b, _, _, _, rfl, rfl, SqL.of hb1, rfl, _, rfl, _, _, rfl, rfl, dv _, _, rfl, b, _, _, _, rfl, rfl, hb1, rfl, ?_⟩
        refine ⟨_, rfl, q _ _ (Int.emod_nonneg _ (by omega)) (Int.emod_lt_of_pos _ m0) ⟨⟨_, k + 1, _, upd_same, Int.ediv_nonneg v0 (by omega), by omega, by omega, mm0, mm1⟩, ⟨_, (upd_ne bc.symm).trans hc1⟩, bc⟩ fun x o nx e => ?_⟩
        have nx' := nx
        simp only [List.mem_cons, List.not_mem_nil, or_false, not_or] at nx'
        exact (upd_ne nx'.1).trans (ch1 x o nx e)
      · have pw : CPowB (mm * (2 * (k + 1) + 3) + 104729 * (k + 1) + 17) 3 := by
          have hm0 : 0 ≤ mm := mm0
          have hm1 : mm < 10 ^ 18 := mm1
          have b1 : mm * (2 * (k + 1) + 3) ≤ 10 ^ 18 * (2 * (k + 1) + 3) := Int.mul_le_mul_of_nonneg_right (by omega) (by omega)
          have b0 : 0 ≤ mm * (2 * (k + 1) + 3) := Int.mul_nonneg hm0 (by omega)
          have z : (mm * (2 * (k + 1) + 3) + 104729 * (k + 1) + 17).natAbs < 2 ^ 90 := by
            generalize mm * (2 * (k + 1) + 3) = y at b1 b0 ⊢
            omega
          have z2 := bits_of z
          refine ⟨by decide, ?_⟩
          generalize Builtin.Int.intBits (mm * (2 * (k + 1) + 3) + 104729 * (k + 1) + 17) = bb at z2
          omega
        refine ⟨_, rfl, b, _, _, _, rfl, rfl, SqL.of hb1, rfl, _, rfl, b, _, _, _, rfl, rfl, SqL.of hb1, rfl, _, _, rfl, rfl, .inl ⟨by decide, by decide⟩, _, _, rfl, rfl, _, _, rfl, rfl, .inr ⟨by omega, by omega⟩, _, rfl, b, _, _, _, rfl, rfl, SqL.of hb1, rfl, _, _, rfl, rfl, .inl ⟨by decide, by decide⟩, _, _, rfl, rfl, _, _, rfl, rfl, _, _, rfl, rfl, pw, _, _, rfl, rfl, (by show (0 : Int) < 2147483647; decide), ?_⟩
        refine ⟨_, rfl, _, _, rfl, rfl, ⟨by decide, by decide⟩, _, rfl, _, _, rfl, rfl, m0, ?_⟩
        exact q _ _ (Int.emod_nonneg _ (by omega)) (Int.emod_lt_of_pos _ m0) ⟨⟨_, k + 1, _, hb1, v0, by omega, by omega, mm0, mm1⟩, ⟨_, hc1⟩, bc⟩ ch1
    | cons c0 cr =>
      refine iteT' rfl ?_
      refine ⟨_, rfl, b, _, _, _, rfl, rfl, SqL.of hb1, rfl, .inl ⟨rfl, _, SqL.of hc1⟩, c, _, 0, 0, .int c0, rfl, rfl, hc1, by decide, by decide, (by simp [seqIndex?]), rfl, _, rfl, ?_⟩
      have hb2 := (upd_ne (o := .lst (((c0 :: cr).map V.int).eraseIdx 0)) bc).trans hb1
      have ec : ((c0 :: cr).map V.int).eraseIdx 0 = cr.map V.int := rfl
      rw [ec] at hb2
      have hc2 : upd (upd H b (.lst [.ref c, .int v, .int (k + 1), .int mm])) c (.lst (cr.map V.int)) c = some (.lst (cr.map V.int)) := upd_same
      have ch2 : ChgS [b, c] H (upd (upd H b (.lst [.ref c, .int v, .int (k + 1), .int mm])) c (.lst (cr.map V.int))) := ch1.put (by simp)
      have a0 : 0 ≤ (if c0 < 0 then -c0 else c0) := by split <;> omega
      refine ⟨_, rfl, _, _, rfl, rfl, ⟨by decide, by decide, by decide⟩, _, _, rfl, rfl, _, rfl, ?_⟩
      refine ite2 (fun c2 => ?_) (fun c2 => ?_)
      · refine ⟨_, rfl, _, rfl, b, _, _, _, rfl, rfl, hb2, rfl, ?_⟩
        have hb3 : upd (upd (upd H b (.lst [.ref c, .int v, .int (k + 1), .int mm])) c (.lst (cr.map V.int))) b (.lst [.ref c, .int (if c0 < 0 then -c0 else c0), .int (k + 1), .int mm]) b = some (.lst [.ref c, .int (if c0 < 0 then -c0 else c0), .int (k + 1), .int mm]) := upd_same
        have hc3 : upd (upd (upd H b (.lst [.ref c, .int v, .int (k + 1), .int mm])) c (.lst (cr.map V.int))) b (.lst [.ref c, .int (if c0 < 0 then -c0 else c0), .int (k + 1), .int mm]) c = some (.lst (cr.map V.int)) := (upd_ne bc.symm).trans hc2
        have ch3 : ChgS [b, c] H (upd (upd (upd H b (.lst [.ref c, .int v, .int (k + 1), .int mm])) c (.lst (cr.map V.int))) b (.lst [.ref c, .int (if c0 < 0 then -c0 else c0), .int (k + 1), .int mm])) := ch2.put (by simp)
        refine ⟨_, rfl, b, _, _, _, rfl, rfl, SqL.of hb3, rfl, _, _, rfl, rfl, _, rfl, ?_⟩
        refine ite2 (fun c5 => ?_) (fun c5 => ?_)
        · refine ⟨_, rfl, b, _, _, _, rfl, rfl, SqL.of hb3, rfl, _, rfl, _, _, rfl, rfl, m0, ?_⟩
          refine ⟨_, rfl, b, _, _, _, rfl, rfl, SqL.of hb3, rfl, _, rfl, _, _, rfl, rfl, dv _, _, rfl, b, _, _, _, rfl, rfl, hb3, rfl, ?_⟩
          refine ⟨_, rfl, q _ _ (Int.emod_nonneg _ (by omega)) (Int.emod_lt_of_pos _ m0) ⟨⟨_, k + 1, _, upd_same, Int.ediv_nonneg a0 (by omega), by omega, by omega, mm0, mm1⟩, ⟨_, (upd_ne bc.symm).trans hc3⟩, bc⟩ fun x o nx e => ?_⟩
          have nx' := nx
          simp only [List.mem_cons, List.not_mem_nil, or_false, not_or] at nx'
          exact (upd_ne nx'.1).trans (ch3 x o nx e)
        · have pw : CPowB (mm * (2 * (k + 1) + 3) + 104729 * (k + 1) + 17) 3 := by
            have hm0 : 0 ≤ mm := mm0
            have hm1 : mm < 10 ^ 18 := mm1
            have b1 : mm * (2 * (k + 1) + 3) ≤ 10 ^ 18 * (2 * (k + 1) + 3) := Int.mul_le_mul_of_nonneg_right (by omega) (by omega)
            have b0 : 0 ≤ mm * (2 * (k + 1) + 3) := Int.mul_nonneg hm0 (by omega)
            have z : (mm * (2 * (k + 1) + 3) + 104729 * (k + 1) + 17).natAbs < 2 ^ 90 := by
              generalize mm * (2 * (k + 1) + 3) = y at b1 b0 ⊢
              omega
            have z2 := bits_of z
            refine ⟨by decide, ?_⟩
            generalize Builtin.Int.intBits (mm * (2 * (k + 1) + 3) + 104729 * (k + 1) + 17) = bb at z2
            omega
          refine ⟨_, rfl, b, _, _, _, rfl, rfl, SqL.of hb3, rfl, _, rfl, b, _, _, _, rfl, rfl, SqL.of hb3, rfl, _, _, rfl, rfl, .inl ⟨by decide, by decide⟩, _, _, rfl, rfl, _, _, rfl, rfl, .inr ⟨by omega, by omega⟩, _, rfl, b, _, _, _, rfl, rfl, SqL.of hb3, rfl, _, _, rfl, rfl, .inl ⟨by decide, by decide⟩, _, _, rfl, rfl, _, _, rfl, rfl, _, _, rfl, rfl, pw, _, _, rfl, rfl, (by show (0 : Int) < 2147483647; decide), ?_⟩
          refine ⟨_, rfl, _, _, rfl, rfl, ⟨by decide, by decide⟩, _, rfl, _, _, rfl, rfl, m0, ?_⟩
          exact q _ _ (Int.emod_nonneg _ (by omega)) (Int.emod_lt_of_pos _ m0) ⟨⟨_, k + 1, _, hb3, a0, by omega, by omega, mm0, mm1⟩, ⟨_, hc3⟩, bc⟩ ch3
      · have p18 : (0 : Int) < 10 ^ (Int.toNat 18) := by decide
        refine ⟨_, rfl, b, _, _, _, rfl, rfl, SqL.of hb2, rfl, _, _, rfl, rfl, .inr ⟨by decide, by decide⟩, _, rfl, _, _, rfl, rfl, _, _, rfl, rfl, ⟨by decide, by decide, by decide⟩, _, _, rfl, rfl, p18, _, rfl, b, _, _, _, rfl, rfl, hb2, rfl, ?_⟩
        obtain ⟨mz, hmz⟩ : ∃ mz, mz = (mm * 31 + (if c0 < 0 then -c0 else c0)) % 10 ^ (Int.toNat 18) := ⟨_, rfl⟩
        have mz0 : 0 ≤ mz := by rw [hmz]; exact Int.emod_nonneg _ (by decide)
        have mz1 : mz < 10 ^ 18 := by rw [hmz]; exact Int.emod_lt_of_pos _ (by decide)
        have hb3 : upd (upd (upd H b (.lst [.ref c, .int v, .int (k + 1), .int mm])) c (.lst (cr.map V.int))) b (.lst [.ref c, .int v, .int (k + 1), .int mz]) b = some (.lst [.ref c, .int v, .int (k + 1), .int mz]) := upd_same
        have hc3 : upd (upd (upd H b (.lst [.ref c, .int v, .int (k + 1), .int mm])) c (.lst (cr.map V.int))) b (.lst [.ref c, .int v, .int (k + 1), .int mz]) c = some (.lst (cr.map V.int)) := (upd_ne bc.symm).trans hc2
        have ch3 : ChgS [b, c] H (upd (upd (upd H b (.lst [.ref c, .int v, .int (k + 1), .int mm])) c (.lst (cr.map V.int))) b (.lst [.ref c, .int v, .int (k + 1), .int mz])) := ch2.put (by simp)
        subst hmz
        refine ⟨_, rfl, b, _, _, _, rfl, rfl, SqL.of hb3, rfl, _, _, rfl, rfl, _, rfl, ?_⟩
        refine ite2 (fun c5 => ?_) (fun c5 => ?_)
        · refine ⟨_, rfl, b, _, _, _, rfl, rfl, SqL.of hb3, rfl, _, rfl, _, _, rfl, rfl, m0, ?_⟩
          refine ⟨_, rfl, b, _, _, _, rfl, rfl, SqL.of hb3, rfl, _, rfl, _, _, rfl, rfl, dv _, _, rfl, b, _, _, _, rfl, rfl, hb3, rfl, ?_⟩
          refine ⟨_, rfl, q _ _ (Int.emod_nonneg _ (by omega)) (Int.emod_lt_of_pos _ m0) ⟨⟨_, k + 1, _, upd_same, Int.ediv_nonneg v0 (by omega), by omega, by omega, mz0, mz1⟩, ⟨_, (upd_ne bc.symm).trans hc3⟩, bc⟩ fun x o nx e => ?_⟩
          have nx' := nx
          simp only [List.mem_cons, List.not_mem_nil, or_false, not_or] at nx'
          exact (upd_ne nx'.1).trans (ch3 x o nx e)
        · have pw : CPowB (((mm * 31 + (if c0 < 0 then -c0 else c0)) % 10 ^ (Int.toNat 18)) * (2 * (k + 1) + 3) + 104729 * (k + 1) + 17) 3 := by
            have hm0 : 0 ≤ ((mm * 31 + (if c0 < 0 then -c0 else c0)) % 10 ^ (Int.toNat 18)) := mz0
            have hm1 : ((mm * 31 + (if c0 < 0 then -c0 else c0)) % 10 ^ (Int.toNat 18)) < 10 ^ 18 := mz1
            have b1 : ((mm * 31 + (if c0 < 0 then -c0 else c0)) % 10 ^ (Int.toNat 18)) * (2 * (k + 1) + 3) ≤ 10 ^ 18 * (2 * (k + 1) + 3) := Int.mul_le_mul_of_nonneg_right (by omega) (by omega)
            have b0 : 0 ≤ ((mm * 31 + (if c0 < 0 then -c0 else c0)) % 10 ^ (Int.toNat 18)) * (2 * (k + 1) + 3) := Int.mul_nonneg hm0 (by omega)
            have z : (((mm * 31 + (if c0 < 0 then -c0 else c0)) % 10 ^ (Int.toNat 18)) * (2 * (k + 1) + 3) + 104729 * (k + 1) + 17).natAbs < 2 ^ 90 := by
              generalize ((mm * 31 + (if c0 < 0 then -c0 else c0)) % 10 ^ (Int.toNat 18)) * (2 * (k + 1) + 3) = y at b1 b0 ⊢
              omega
            have z2 := bits_of z
            refine ⟨by decide, ?_⟩
            generalize Builtin.Int.intBits (((mm * 31 + (if c0 < 0 then -c0 else c0)) % 10 ^ (Int.toNat 18)) * (2 * (k + 1) + 3) + 104729 * (k + 1) + 17) = bb at z2
            omega
          refine ⟨_, rfl, b, _, _, _, rfl, rfl, SqL.of hb3, rfl, _, rfl, b, _, _, _, rfl, rfl, SqL.of hb3, rfl, _, _, rfl, rfl, .inl ⟨by decide, by decide⟩, _, _, rfl, rfl, _, _, rfl, rfl, .inr ⟨by omega, by omega⟩, _, rfl, b, _, _, _, rfl, rfl, SqL.of hb3, rfl, _, _, rfl, rfl, .inl ⟨by decide, by decide⟩, _, _, rfl, rfl, _, _, rfl, rfl, _, _, rfl, rfl, pw, _, _, rfl, rfl, (by show (0 : Int) < 2147483647; decide), ?_⟩
          refine ⟨_, rfl, _, _, rfl, rfl, ⟨by decide, by decide⟩, _, rfl, _, _, rfl, rfl, m0, ?_⟩
          exact q _ _ (Int.emod_nonneg _ (by omega)) (Int.emod_lt_of_pos _ m0) ⟨⟨_, k + 1, _, hb3, v0, by omega, by omega, mz0, mz1⟩, ⟨_, hc3⟩, bc⟩ ch3
  · refine iteF' rfl ?_
    refine ⟨_, rfl, b, _, _, _, rfl, rfl, SqL.of hb1, rfl, _, _, rfl, rfl, _, rfl, ?_⟩
    refine ite2 (fun c5 => ?_) (fun c5 => ?_)
    · refine ⟨_, rfl, b, _, _, _, rfl, rfl, SqL.of hb1, rfl, _, rfl, _, _, rfl, rfl, m0, ?_⟩
      refine ⟨_, rfl, b, _, _, _, rfl, rfl, SqL.of hb1, rfl, _, rfl, _, _, rfl, rfl, dv _, _, rfl, b, _, _, _, rfl, rfl, hb1, rfl, ?_⟩
      refine ⟨_, rfl, q _ _ (Int.emod_nonneg _ (by omega)) (Int.emod_lt_of_pos _ m0) ⟨⟨_, k + 1, _, upd_same, Int.ediv_nonneg v0 (by omega), by omega, by omega, mm0, mm1⟩, ⟨_, (upd_ne bc.symm).trans hc1⟩, bc⟩ fun x o nx e => ?_⟩
      have nx' := nx
      simp only [List.mem_cons, List.not_mem_nil, or_false, not_or] at nx'
      exact (upd_ne nx'.1).trans (ch1 x o nx e)
    · have pw : CPowB (mm * (2 * (k + 1) + 3) + 104729 * (k + 1) + 17) 3 := by
        have hm0 : 0 ≤ mm := mm0
        have hm1 : mm < 10 ^ 18 := mm1
        have b1 : mm * (2 * (k + 1) + 3) ≤ 10 ^ 18 * (2 * (k + 1) + 3) := Int.mul_le_mul_of_nonneg_right (by omega) (by omega)
        have b0 : 0 ≤ mm * (2 * (k + 1) + 3) := Int.mul_nonneg hm0 (by omega)
        have z : (mm * (2 * (k + 1) + 3) + 104729 * (k + 1) + 17).natAbs < 2 ^ 90 := by
          generalize mm * (2 * (k + 1) + 3) = y at b1 b0 ⊢
          omega
        have z2 := bits_of z
        refine ⟨by decide, ?_⟩
        generalize Builtin.Int.intBits (mm * (2 * (k + 1) + 3) + 104729 * (k + 1) + 17) = bb at z2
        omega
      refine ⟨_, rfl, b, _, _, _, rfl, rfl, SqL.of hb1, rfl, _, rfl, b, _, _, _, rfl, rfl, SqL.of hb1, rfl, _, _, rfl, rfl, .inl ⟨by decide, by decide⟩, _, _, rfl, rfl, _, _, rfl, rfl, .inr ⟨by omega, by omega⟩, _, rfl, b, _, _, _, rfl, rfl, SqL.of hb1, rfl, _, _, rfl, rfl, .inl ⟨by decide, by decide⟩, _, _, rfl, rfl, _, _, rfl, rfl, _, _, rfl, rfl, pw, _, _, rfl, rfl, (by show (0 : Int) < 2147483647; decide), ?_⟩
      refine ⟨_, rfl, _, _, rfl, rfl, ⟨by decide, by decide⟩, _, rfl, _, _, rfl, rfl, m0, ?_⟩
      exact q _ _ (Int.emod_nonneg _ (by omega)) (Int.emod_lt_of_pos _ m0) ⟨⟨_, k + 1, _, hb1, v0, by omega, by omega, mm0, mm1⟩, ⟨_, hc1⟩, bc⟩ ch1
end

end G0
namespace G0
open PySem PySem.Spec PyProof.Rows L2
/-! ### sends and plays, as data -/
structure Snd where
  to : Int
  z : Str
  k : Int
def letD (z : Str) (k : Int) : PyData := .tuple [.str z, .int k]
def sndD (s : Snd) : PyData := .tuple [.int s.to, letD s.z s.k]
def plyD (p : Bool × List Snd) : PyData := .tuple [.bool p.1, .list (p.2.map sndD)]
structure SndOk (n : Int) (s : Snd) : Prop where
  low : 0 ≤ s.to
  top : s.to < n
  word : s.z = "ask" ∨ s.z = "key" ∨ s.z = "yes" ∨ s.z = "q"
  num0 : 0 ≤ s.k
  num1 : s.k < 10 ^ 9
def PlyOk (n : Int) (p : Bool × List Snd) : Prop := p.2.length ≤ 5 ∧ ∀ s ∈ p.2, SndOk n s
theorem dps_app' {K : PySem.W.Frag} {H : Hp} {vs ws : List V} {ds es : List PyData} (f g : List Addr) : OwAll K H vs ds f → OwAll K H ws es g → OwAll K H (vs ++ ws) (ds ++ es) (f ++ g) := by
  intro h h2
  match vs, ds, f, h with
  | [], [], _, .nil => exact h2
  | _ :: _, _ :: _, _, .cons (f := f1) (g := g1) a b =>
    have := dps_app' g1 g b h2
    rw [List.cons_append, List.cons_append, List.append_assoc]
    exact .cons a this
theorem owsN {K : PySem.W.Frag} {H : Hp} {vs : List V} {ds : List PyData} (n : noLs ds = true) (h : DpAll K H vs ds) : OwAll K H vs ds [] := ows_noL ds vs n h
mutual
theorem ow_some {K : PySem.W.Frag} {H : Hp} : ∀ {v : V} {d : PyData} {fp : List Addr}, Ow K H v d fp → ∀ x ∈ fp, H x ≠ none
  | _, _, _, .non => fun _ h => by simp at h
  | _, _, _, .bl _ => fun _ h => by simp at h
  | _, _, _, .int _ => fun _ h => by simp at h
  | _, _, _, .str _ => fun _ h => by simp at h
  | _, _, _, .lst e al => fun x h => by
    rcases List.mem_cons.mp h with rfl | h
    · rw [e]; exact fun z => nomatch z
    · exact ows_some al x h
  | _, _, _, .tup _ al => ows_some al
theorem ows_some {K : PySem.W.Frag} {H : Hp} : ∀ {vs : List V} {ds : List PyData} {fp : List Addr}, OwAll K H vs ds fp → ∀ x ∈ fp, H x ≠ none
  | _, _, _, .nil => fun _ h => by simp at h
  | _, _, _, .cons a b => fun x h => by
    rcases List.mem_append.mp h with h | h
    · exact ow_some a x h
    · exact ows_some b x h
end
theorem noL_snd (s : Snd) : noL (sndD s) = true := rfl
theorem noLs_snds : ∀ ss : List Snd, noLs (ss.map sndD) = true
  | [] => rfl
  | s :: ss => by
    have := noLs_snds ss
    simp only [List.map_cons, noLs, noL_snd, Bool.true_and]
    exact this
section
variable {P : Program} {w : World} {K : PySem.W.Frag} {mg : Str → Option Value} {base : Heap}
theorem wide9 {m : Int} (h0 : 0 < m) (h : m ≤ 10 ^ 9) : m.natAbs < 2 ^ 250 := Nat.lt_of_le_of_lt (show m.natAbs ≤ 10 ^ 9 by omega) (by decide)
/-! ### _law_box -/
def spBox (K : PySem.W.Frag) : Sp := fun vs H Q _ => ∃ (a : Addr) (ns : List Int), vs = [.ref a] ∧ SqL K H a (ns.map V.int) ∧ ∀ b c H', H b = none → H c = none → Same H H' → Box 0 H' b c → Q (.ref b) H'
theorem sc_law_box : FnScope ["cells"] ["cells"] (defScope s_law_box) :=
  ⟨rfl, rfl, rfl, by decide +kernel, rfl, by decide +kernel, by decide +kernel⟩
theorem ok_box (F : Fn K mg "_law_box" s_law_box) (T : Bl mg) : Cal P w K mg base "_law_box" 1 ["cells"] (spBox K) := by
  refine cal_of F sc_law_box
    (fun _ _ _ _ _ _ us hl => match us, hl with | [_], _ => rfl) ?_ ?_
  · rintro vs H Q E ⟨a, ns, rfl, _⟩
    rfl
  rintro f cdv A outer s H vs Q E free hr ⟨a, ns, rfl, hS, q⟩
  refine ⟨_, (pss_one (ps_ret (pe_lst (pa_cons (pe_callTy call_list_of (by rfl) T.list (by decide +kernel) (pa_cons (pv 0) pa_nil)) (pa_cons pe_int (pa_cons pe_int (pa_cons pe_int pa_nil))))))), ?_⟩
  refine ⟨_, rfl, a, _, rfl, .inl hS, fun c hc => ⟨by show 4 ≤ sizeLine; decide, fun b hb => ?_⟩⟩
  have s1 := same_upd (o := .lst (ns.map V.int)) hc
  have s2 := s1.trans (same_upd (o := .lst [.ref c, .int 0, .int 0, .int 5]) hb)
  exact q b c _ (s1.free hb) hc s2 ⟨⟨0, 0, 5, upd_same, by decide, by decide, by decide, by decide, by decide⟩, ⟨ns, same_upd hb _ _ upd_same⟩, fun z => by rw [z, upd_same] at hb; cases hb⟩
/-! ### _law_plays -/
def spPlays (K : PySem.W.Frag) : Sp := fun vs H Q _ => ∃ (b c : Addr) (n : Nat) (m : Int), vs = [.ref b, .int m] ∧ Box n H b c ∧ n < 1000 ∧ 0 < m ∧ m ≤ 60 ∧
  ∀ (l : Addr) (L : List (Bool × List Snd)) (fp : List Addr) H', Ow K H' (.ref l) (.list (L.map plyD)) fp → (∀ x ∈ fp, H x = none) → (∀ p ∈ L, PlyOk m p) → L.length ≤ 40 → ChgS [b, c] H H' → Box (n + 2000) H' b c → Q (.ref l) H'
theorem mus_box {n : Nat} {H : Hp} {b c : Addr} (B : Box n H b c) : MuS [b, c] H := by
  intro x m o e
  simp only [List.mem_cons, List.not_mem_nil, or_false] at m
  obtain ⟨v, k, mm, e1, _⟩ := B.at_
  obtain ⟨cs, e2⟩ := B.cells
  rcases m with rfl | rfl
  · rw [e1] at e; cases e; exact mu_lst
  · rw [e2] at e; cases e; exact mu_lst
theorem chg_box_none {n : Nat} {H H' : Hp} {b c q : Addr} (ch : ChgS [b, c] H H') (B : Box n H' b c) (h : H' q = none) : H q = none := ch.back h (by
  simp only [List.mem_cons, List.not_mem_nil, or_false, not_or]
  exact ⟨B.ne1 h, B.ne2 h⟩)
theorem sc_law_plays : FnScope ["box", "parts", "plays", "k", "sends", "j", "to"] ["box", "parts"] (defScope s_law_plays) :=
  ⟨rfl, rfl, rfl, by decide +kernel, rfl, by decide +kernel, by decide +kernel⟩
theorem ok_plays (F : Fn K mg "_law_plays" s_law_plays) (T : Bl mg) (C_pick : Cal P w K mg base "_law_pick" 1 ["box", "many"] spPick) : Cal P w K mg base "_law_plays" 2 ["box", "parts"] (spPlays K) := by
  refine cal_of F sc_law_plays
    (fun _ _ _ _ _ _ us hl => match us, hl with | [_, _], _ => rfl) ?_ ?_
  · rintro vs H Q E ⟨b, c, n, m, rfl, _⟩
    rfl
  rintro f cdv A outer s H vs Q E free hr ⟨b, c, n, m, rfl, B, nb, m0, mb, q⟩
  refine ⟨_, (pss_cons (ps_set (i := 2) sc_law_plays.nd rfl (Or.inl rfl) (pe_lst pa_nil))
    (pss_cons (ps_for PassesOwn.never rfl (pi_range1 (by rfl) T.range (pa_cons (pe_cal C_pick free (hr.mono (by decide)) (pa_cons (pv 0) (pa_cons pe_int pa_nil))) pa_nil)) (pg_name (i := 3) sc_law_plays.nd rfl (Or.inl rfl))
    (pss_cons (ps_set (i := 4) sc_law_plays.nd rfl (Or.inl rfl) (pe_lst pa_nil))
    (pss_cons (ps_for PassesOwn.never rfl (pi_range1 (by rfl) T.range (pa_cons (pe_ix ix_list (pe_lst (pa_cons pe_int (pa_cons pe_int (pa_cons pe_int (pa_cons pe_int (pa_cons pe_int (pa_cons pe_int pa_nil))))))) (pe_cal C_pick free (hr.mono (by decide)) (pa_cons (pv 0) (pa_cons pe_int pa_nil))) (fun _ _ => rfl)) pa_nil)) (pg_name (i := 5) sc_law_plays.nd rfl (Or.inl rfl))
    (pss_cons (ps_set (i := 6) sc_law_plays.nd rfl (Or.inl rfl) (pe_cal C_pick free (hr.mono (by decide)) (pa_cons (pv 0) (pa_cons (pv 1) pa_nil))))
    (pss_one (ps_expr (pe_bm PySem.F.plainAttrs_list PySem.F.slot_list_append PySem.F.type_list_append mt_append (pv 4) (pa_cons (pe_tup (pa_cons (pv 6) (pa_cons (pe_tup (pa_cons (pe_ix ix_list (pe_lst (pa_cons pe_str (pa_cons pe_str (pa_cons pe_str (pa_cons pe_str pa_nil))))) (pe_cal C_pick free (hr.mono (by decide)) (pa_cons (pv 0) (pa_cons pe_int pa_nil))) (fun _ _ => rfl)) (pa_cons (pe_cal C_pick free (hr.mono (by decide)) (pa_cons (pv 0) (pa_cons (pe_op op_pow pe_int pe_int) pa_nil))) pa_nil))) pa_nil))) pa_nil))))))
    (pss_one (ps_expr (pe_bm PySem.F.plainAttrs_list PySem.F.slot_list_append PySem.F.type_list_append mt_append (pv 2) (pa_cons (pe_tup (pa_cons (pe_cmpR op_eq (pe_cal C_pick free (hr.mono (by decide)) (pa_cons (pv 0) (pa_cons pe_int pa_nil))) pe_int (nomark _)) (pa_cons (pv 4) pa_nil))) pa_nil)))))))
    (pss_one (ps_ret (pv 2))))), ?_⟩
  refine ⟨Nat.zero_le _, fun l hl => ?_⟩
  have B0 := B.same (same_upd (o := .lst []) hl)
  have lb := B.ne1 hl
  have lc := B.ne2 hl
  refine ⟨_, rfl, b, c, n, 40, rfl, B0, by omega, by decide, by decide, fun d H1 d0 d1 B1 ch1 => ?_⟩
  have lH1 : H1 l = some (.lst []) := ch1 _ _ (by
    simp only [List.mem_cons, List.not_mem_nil, or_false, not_or]
    exact ⟨lb, lc⟩) upd_same
  have c01 : ChgS [b, c] H H1 := (Same.s (same_upd hl)).trans ch1
  refine ⟨_, rfl, by omega, by omega, ?_⟩
  have bH : ∀ {x : Addr}, H x = none → x ∉ [b, c] := fun h => by
    simp only [List.mem_cons, List.not_mem_nil, or_false, not_or]
    exact ⟨B.ne1 h, B.ne2 h⟩
  refine for_range (lo := 0) (n := d.toNat) (fun i σ G => (∃ z3 z4 z5 z6 : Option V, σ = [some (V.ref b), some (V.int m), some (V.ref l), z3, z4, z5, z6]) ∧ ∃ (xs : List V) (L : List (Bool × List Snd)) (fp : List Addr), G l = some (.lst xs) ∧ OwAll K G xs (L.map plyD) fp ∧ l ∉ fp ∧
    (∀ x ∈ fp, H x = none) ∧ (∀ p ∈ L, PlyOk m p) ∧ L.length = i ∧ Box (n + 1 + 45 * i) G b c ∧ ChgS [b, c] H G)
    ⟨⟨_, _, _, _, rfl⟩, [], [], [], lH1, .nil, by simp, fun x h => by simp at h, fun p h => by simp at h, rfl, B1, c01⟩ ?_ ?_
  · rintro i σ G hi ⟨⟨z3, z4, z5, z6, rfl⟩, xs, L, fp, kl, oL, lfp, fr, ok, lL, BG, cG⟩
    have lx : xs.length = L.length := by
      have := dps_len (ows_dp _ _ _ oL)
      rw [List.length_map] at this
      exact this
    refine ⟨Nat.zero_le _, fun e he => ?_⟩
    have s1 := same_upd (o := .lst []) he
    have be := BG.same s1
    have eb := BG.ne1 he
    have ec := BG.ne2 he
    have eH : H e = none := chg_box_none cG BG he
    have el : e ≠ l := (ne_of_none kl he).symm
    refine ⟨by show 6 ≤ sizeLine; decide, fun tr htr => ?_⟩
    have s2 := s1.trans (same_upd (o := .lst [.int 0, .int 0, .int 1, .int 1, .int 2, .int 5]) htr)
    have B2 := BG.same s2
    refine ⟨_, rfl, b, c, n + 1 + 45 * i, 6, rfl, B2, by omega, by decide, by decide, fun d2 H3 d20 d21 B3 ch3 => ?_⟩
    have trb := (BG.same s1).ne1 htr
    have trc := (BG.same s1).ne2 htr
    have ktr : H3 tr = some (.lst [.int 0, .int 0, .int 1, .int 1, .int 2, .int 5]) := ch3 _ _ (by
      simp only [List.mem_cons, List.not_mem_nil, or_false, not_or]
      exact ⟨trb, trc⟩) upd_same
    obtain ⟨r, er, r0, r5⟩ : ∃ r : Int, atI [V.int 0, .int 0, .int 1, .int 1, .int 2, .int 5] d2 = some (.int r) ∧ 0 ≤ r ∧ r ≤ 5 := by
      have : d2 = 0 ∨ d2 = 1 ∨ d2 = 2 ∨ d2 = 3 ∨ d2 = 4 ∨ d2 = 5 := by omega
      rcases this with rfl | rfl | rfl | rfl | rfl | rfl
      · exact ⟨_, rfl, by decide, by decide⟩
      · exact ⟨_, rfl, by decide, by decide⟩
      · exact ⟨_, rfl, by decide, by decide⟩
      · exact ⟨_, rfl, by decide, by decide⟩
      · exact ⟨_, rfl, by decide, by decide⟩
      · exact ⟨_, rfl, by decide, by decide⟩
    refine ⟨tr, _, d2, _, rfl, rfl, SqL.of ktr, er, _, rfl, by omega, by omega, ?_⟩
    have keep3 : ∀ {x : Addr} {o : HO}, x ≠ b → x ≠ c → G x = some o → H3 x = some o := fun n1 n2 z => ch3 _ _ (by
      simp only [List.mem_cons, List.not_mem_nil, or_false, not_or]
      exact ⟨n1, n2⟩) (s2 _ _ z)
    have o3 : OwAll K H3 xs (L.map plyD) fp := ows_chgS (mus_box B2) ch3 _ _ _ (fun x h => bH (fr x h)) (ows_same s2 oL)
    have efp : e ∉ fp := fun h => by
      have : ∀ (ds : List PyData) (vs : List V) (fp : List Addr), OwAll K G vs ds fp → ∀ x ∈ fp, G x ≠ none := fun ds vs fp o x h => ows_some o x h
      exact this _ _ _ oL e h he
    refine for_range (lo := 0) (n := r.toNat) (fun j σ G2 => (∃ z5 z6 : Option V, σ = [some (V.ref b), some (V.int m), some (V.ref l), some (V.int (0 + (i : Int))), some (V.ref e), z5, z6]) ∧ ∃ (ys : List V) (ss : List Snd), G2 e = some (.lst ys) ∧ DpAll K G2 ys (ss.map sndD) ∧ (∀ q ∈ ss, SndOk m q) ∧ ss.length = j ∧
      G2 l = some (.lst xs) ∧ OwAll K G2 xs (L.map plyD) fp ∧ Box (n + 1 + 45 * i + 1 + 3 * j) G2 b c ∧ ChgS [b, c] H G2)
      ⟨⟨_, _, rfl⟩, [], [], ch3 _ _ (bH eH) (same_upd htr _ _ upd_same), .nil, fun q h => by simp at h, rfl, keep3 lb lc kl, o3, B3, (cG.trans (Same.s s2)).trans ch3⟩ ?_ ?_
    · rintro j σ G2 hj ⟨⟨z5, z6, rfl⟩, ys, ss, ke, dy, oks, lj, kl2, o2, B2', c2⟩
      have ly : ys.length = ss.length := by
        have := dps_len dy
        rw [List.length_map] at this
        exact this
      refine ⟨_, rfl, _, rfl, b, c, n + 1 + 45 * i + 1 + 3 * j, m, rfl, B2', by omega, m0, wide9 m0 (by omega), fun to H4 to0 to1 B4 ch4 => ?_⟩
      have ke4 := ch4 _ _ (bH eH) ke
      refine ⟨_, rfl, .inl ⟨rfl, _, SqL.of ke4⟩, _, rfl, by show 4 ≤ sizeLine; decide, fun tw htw => ?_⟩
      have s4 := same_upd (o := .lst [.str "ask", .str "key", .str "yes", .str "q"]) htw
      have B4' := B4.same s4
      have twb := B4.ne1 htw
      have twc := B4.ne2 htw
      refine ⟨_, rfl, b, c, n + 1 + 45 * i + 1 + 3 * j + 1, 4, rfl, B4', by omega, by decide, by decide, fun d6 H6 d60 d61 B6 ch6 => ?_⟩
      have ktw : H6 tw = some (.lst [.str "ask", .str "key", .str "yes", .str "q"]) := ch6 _ _ (by
        simp only [List.mem_cons, List.not_mem_nil, or_false, not_or]
        exact ⟨twb, twc⟩) upd_same
      obtain ⟨z, ez, zw⟩ : ∃ z : Str, atI [V.str "ask", .str "key", .str "yes", .str "q"] d6 = some (.str z) ∧ (z = "ask" ∨ z = "key" ∨ z = "yes" ∨ z = "q") := by
        have : d6 = 0 ∨ d6 = 1 ∨ d6 = 2 ∨ d6 = 3 := by omega
        rcases this with rfl | rfl | rfl | rfl
        · exact ⟨_, rfl, by simp⟩
        · exact ⟨_, rfl, by simp⟩
        · exact ⟨_, rfl, by simp⟩
        · exact ⟨_, rfl, by simp⟩
      refine ⟨tw, _, d6, _, rfl, rfl, SqL.of ktw, ez, _, rfl, _, _, rfl, rfl, ⟨by decide, by decide, by decide⟩, b, c, n + 1 + 45 * i + 1 + 3 * j + 1 + 1, _, rfl, B6, by omega, by decide, by decide, fun kk H7 kk0 kk1 B7 ch7 => ?_⟩
      refine ⟨by show 2 ≤ sizeLine; decide, fun t1 ht1 => ⟨by show 2 ≤ sizeLine; decide, fun t2 ht2 => ?_⟩⟩
      have s7 := (same_upd (o := .tup [.str z, .int kk]) ht1).trans (same_upd (o := .tup [.int to, .ref t1]) ht2)
      have go : ∀ {x : Addr} {o : HO}, x ∉ [b, c] → G2 x = some o → upd (upd H7 t1 (.tup [.str z, .int kk])) t2 (.tup [.int to, .ref t1]) x = some o := fun nx e => s7 _ _ (ch7 _ _ nx (ch6 _ _ nx (s4 _ _ (ch4 _ _ nx e))))
      have oy := ows_same s7 (ows_chgS (mus_box B6) ch7 _ _ _ (fun x h => by simp at h) (ows_chgS (mus_box B4') ch6 _ _ _ (fun x h => by simp at h) (ows_same s4 (ows_chgS (mus_box B2') ch4 _ _ _ (fun x h => by simp at h) (owsN (noLs_snds ss) dy)))))
      have ox := ows_same s7 (ows_chgS (mus_box B6) ch7 _ _ _ (fun x h => bH (fr x h)) (ows_chgS (mus_box B4') ch6 _ _ _ (fun x h => bH (fr x h)) (ows_same s4 (ows_chgS (mus_box B2') ch4 _ _ _ (fun x h => bH (fr x h)) o2))))
      have ke8 := go (bH eH) ke
      have kl8 := go (bH hl) kl2
      refine ⟨e, _, _, rfl, rfl, ke8, Nat.lt_of_lt_of_le (show ys.length < 100 by omega) (by decide), ?_⟩
      refine ⟨⟨_, _, rfl⟩, ys ++ [.ref t2], ss ++ [⟨to, z, kk⟩], upd_same, ?_, fun q hq => ?_, by rw [List.length_append, lj]; rfl, (upd_ne el.symm).trans kl8, ?_, ?_, ?_⟩
      · rw [List.map_append]
        refine dps_chg ⟨_, ke8⟩ Chg.self _ _ ?_ (dps_app (ows_dp _ _ _ oy) (.cons (.tup (SqT.of upd_same) (.cons (.int _) (.cons (.tup (SqT.of (same_upd ht2 _ _ upd_same)) (.cons (.str _) (.cons (.int _) .nil))) .nil))) .nil))
        rw [← List.map_append]
        exact noLs_snds _
      · rcases List.mem_append.mp hq with h | h
        · exact oks q h
        · rw [List.mem_singleton.mp h]; exact ⟨to0, to1, zw, kk0, kk1⟩
      · exact ows_chgS (S := [e]) (fun x hx o ho => by rw [List.mem_singleton.mp hx, ke8] at ho; cases ho; exact mu_lst) (Chg.self.s (List.mem_singleton.mpr rfl)) _ _ _ (fun x h hx => efp (by rw [← List.mem_singleton.mp hx]; exact h)) ox
      · exact ((B7.same s7).mut eb ec).mono (by omega)
      · exact ((((c2.trans ch4).trans (Same.s s4)).trans ch6).trans (ch7.trans (Same.s s7))).mut eH
    · rintro σ G2 ⟨⟨z5, z6, rfl⟩, ys, ss, ke, dy, oks, lj, kl2, o2, B2', c2⟩
      refine ⟨_, rfl, .inl ⟨rfl, _, SqL.of kl2⟩, _, rfl, b, c, _, 2, rfl, B2', by omega, by decide, by decide, fun d8 H8 _ _ B8 ch8 => ⟨rfl, _, rfl, by show 2 ≤ sizeLine; decide, fun t ht => ?_⟩⟩
      have s8 := same_upd (o := .tup [.bl (decide (V.int d8 = V.int 1)), .ref e]) ht
      have ke8 := s8 _ _ (ch8 _ _ (bH eH) ke)
      have kl8 := s8 _ _ (ch8 _ _ (bH hl) kl2)
      have oy := ows_same s8 (ows_chgS (mus_box B2') ch8 _ _ _ (fun x h => by simp at h) (owsN (noLs_snds ss) dy))
      have ox := ows_same s8 (ows_chgS (mus_box B2') ch8 _ _ _ (fun x h => bH (fr x h)) o2)
      refine ⟨l, _, _, rfl, rfl, kl8, Nat.lt_of_lt_of_le (show xs.length < 100 by omega) (by decide), ?_⟩
      have all := dps_app' fp [e] ox (.cons (.tup (SqT.of upd_same) (.cons (.bl (decide (V.int d8 = V.int 1))) (.cons (.lst ke8 oy) .nil))) .nil)
      refine ⟨⟨_, _, _, _, rfl⟩, xs ++ [.ref t], L ++ [(decide (V.int d8 = V.int 1), ss)], fp ++ [e], upd_same, ?_, ?_, fun x h => ?_, fun p h => ?_, by rw [List.length_append, lL]; rfl, ?_, ?_⟩
      · rw [List.map_append]
        exact ows_chgS (S := [l]) (fun x hx o ho => by rw [List.mem_singleton.mp hx, kl8] at ho; cases ho; exact mu_lst) (Chg.self.s (List.mem_singleton.mpr rfl)) _ _ _ (fun x h hx => by
          rw [List.mem_singleton.mp hx] at h
          rcases List.mem_append.mp h with h | h
          · exact lfp h
          · exact el (List.mem_singleton.mp h).symm) all
      · intro h
        rcases List.mem_append.mp h with h | h
        · exact lfp h
        · exact el (List.mem_singleton.mp h).symm
      · rcases List.mem_append.mp h with h | h
        · exact fr x h
        · rw [List.mem_singleton.mp h]; exact eH
      · rcases List.mem_append.mp h with h | h
        · exact ok p h
        · rw [List.mem_singleton.mp h]; exact ⟨by show ss.length ≤ 5; omega, oks⟩
      · exact ((B8.same s8).mut lb lc).mono (by omega)
      · exact ((c2.trans ch8).trans (Same.s s8)).mut hl
  · rintro σ G ⟨⟨z3, z4, z5, z6, rfl⟩, xs, L, fp, kl, oL, lfp, fr, ok, lL, BG, cG⟩
    exact ⟨_, rfl, q l L (l :: fp) G (.lst kl oL) (fun x h => by
      rcases List.mem_cons.mp h with rfl | h
      · exact hl
      · exact fr x h) ok (by omega) cG (BG.mono (by omega))⟩
end

end G0
namespace G0
open PySem PySem.Spec PyProof.Rows L2
theorem small_of' {n : Nat} (h : n ≤ 10000) : n < sizeLine := Nat.lt_of_le_of_lt h (by decide)
/-! ### xs == [], t == () -/
def rEqNil (K : PySem.W.Frag) : R2 := fun x y H Q => ∃ (a b : Addr) (xs : List V), x = .ref a ∧ y = .ref b ∧
  ((SqL K H a xs ∧ SqL K H b []) ∨ (SqT K H a xs ∧ SqT K H b [])) ∧ Q (.bl xs.isEmpty) H
theorem op_eqNil {X : Cx} (hu : X.A.units < cLine) : OpR X (compareOp .Eq) (rEqNil X.K) := by
  intro pins s σ H x y v u Q I rx ry h
  obtain ⟨a, b, xs, rfl, rfl, two, q⟩ := h
  obtain rfl : v = Value.ref a := rx
  obtain rfl : u = Value.ref b := ry
  rcases two with ⟨h1, h2⟩ | ⟨h1, h2⟩
  · obtain ⟨its, r, pl, hz⟩ := I.list h1
    obtain ⟨its2, r2, pl2, hz2⟩ := I.list h2
    have e2 : its2 = [] := by cases r2; rfl
    subst e2
    cases r with
    | nil =>
      refine SeqAt.eq_listAt (e := fun _ => true) pl.isList pl2.isList rfl hu (fun j h => absurd h (Nat.not_lt_zero j)) ⟨.bl true, H, I, rfl, q⟩
    | cons _ _ =>
      exact SeqAt.eq_list_lengthsAt pl.isList pl2.isList (by simp) hu ⟨.bl false, H, I, rfl, q⟩
  · obtain ⟨its, r, pl, hz⟩ := I.tuple h1
    obtain ⟨its2, r2, pl2, hz2⟩ := I.tuple h2
    have e2 : its2 = [] := by cases r2; rfl
    subst e2
    cases r with
    | nil =>
      refine SeqAt.eq_tupleAt (e := fun _ => true) pl pl2 hu (fun j h => absurd h (Nat.not_lt_zero j)) ⟨.bl true, H, I, rfl, q⟩
    | cons _ _ =>
      refine SeqAt.eq_tupleAt (e := fun _ => true) pl pl2 hu (fun j _ h => absurd h (Nat.not_lt_zero j)) ⟨.bl false, H, I, ?_, q⟩
      simp [L2.RelV]
/-! ### data of any kind -/
inductive GD where
  | non | bl (b : Bool) | int (i : Int) | str (z : Str) | lst | dct | tup (gs : List GD)
mutual
inductive Gv (K : PySem.W.Frag) (H : Hp) : V → GD → Prop
  | non : Gv K H .non .non
  | bl (b : Bool) : Gv K H (.bl b) (.bl b)
  | int (i : Int) : Gv K H (.int i) (.int i)
  | str {z : Str} : z.length ≤ 1000 → Gv K H (.str z) (.str z)
  | lst {a : Addr} {xs : List V} : H a = some (.lst xs) → Gv K H (.ref a) .lst
  | dct {a : Addr} {kvs : List (Key × V)} : H a = some (.dK kvs) → Gv K H (.ref a) .dct
  | tup {a : Addr} {xs : List V} {gs : List GD} : SqT K H a xs → xs.length ≤ 1000 → GvAll K H xs gs → Gv K H (.ref a) (.tup gs)
inductive GvAll (K : PySem.W.Frag) (H : Hp) : List V → List GD → Prop
  | nil : GvAll K H [] []
  | cons {v : V} {vs : List V} {g : GD} {gs : List GD} : Gv K H v g → GvAll K H vs gs → GvAll K H (v :: vs) (g :: gs)
end
section
variable {K : PySem.W.Frag} {H H' : Hp}
mutual
theorem gv_same (c : Same H H') : ∀ (g : GD) (v : V), Gv K H v g → Gv K H' v g
  | .non, _, h => by cases h; exact .non
  | .bl _, _, h => by cases h; exact .bl _
  | .int _, _, h => by cases h; exact .int _
  | .str _, _, h => by cases h with | str z => exact .str z
  | .lst, _, h => by cases h with | lst e => exact .lst (c _ _ e)
  | .dct, _, h => by cases h with | dct e => exact .dct (c _ _ e)
  | .tup gs, _, h => by
    cases h with
    | tup e l a => exact .tup (sqt_same c e) l (gvs_same c gs _ a)
theorem gvs_same (c : Same H H') : ∀ (gs : List GD) (vs : List V), GvAll K H vs gs → GvAll K H' vs gs
  | [], _, h => by cases h; exact .nil
  | g :: gs, _, h => by
    cases h with
    | cons h1 h2 => exact .cons (gv_same c g _ h1) (gvs_same c gs _ h2)
end
theorem gvs_len {vs : List V} {gs : List GD} (h : GvAll K H vs gs) : vs.length = gs.length := by
  match vs, gs, h with
  | [], [], _ => rfl
  | _ :: _, _ :: _, .cons _ h2 => exact congrArg (· + 1) (gvs_len h2)
theorem gvs_get {vs : List V} {gs : List GD} (h : GvAll K H vs gs) : ∀ {i : Nat} {v : V}, vs[i]? = some v → ∃ g, gs[i]? = some g ∧ Gv K H v g := by
  match vs, gs, h with
  | [], [], _ => intro i v e; simp at e
  | v :: vs, g :: gs, .cons h1 h2 =>
    intro i w e
    cases i with
    | zero => simp at e; subst e; exact ⟨g, rfl, h1⟩
    | succ i => exact gvs_get h2 (by simpa using e)
theorem ty_sqt {a : Addr} {xs : List V} (h : SqT K H a xs) : TyX K H (.ref a) (.type "tuple") := by
  rcases h with (h | ⟨o, h⟩) | ⟨o, its, n, h1, h2, _⟩
  · exact .base (.tup h)
  · exact .fTuple h
  · exact .kTuple h1 h2
/-- the built-in class of a thing -/
def GD.ty : GD → String
  | .non => "NoneType" | .bl _ => "bool" | .int _ => "int" | .str _ => "str" | .lst => "list" | .dct => "dict" | .tup _ => "tuple"
theorem gv_ty {v : V} {g : GD} (h : Gv K H v g) : TyX K H v (.type g.ty) := by
  cases h with
  | non => exact .base .non
  | bl b => exact .base (.bl b)
  | int i => exact .base (.int i)
  | str _ => exact .base (.str _)
  | lst e => exact .base (.lst e)
  | dct e => exact .base (.dK e)
  | tup e _ _ => exact ty_sqt e
def GD.isInt : GD → Bool | .int _ => true | .bl _ => true | _ => false
def GD.isBool : GD → Bool | .bl _ => true | _ => false
def GD.isTup : GD → Bool | .tup _ => true | _ => false
def GD.isStr : GD → Bool | .str _ => true | _ => false
theorem kit_int (g : GD) : PySem.W.kitOne K (.type g.ty) (.type "int") = some g.isInt := by cases g <;> exact kit_ty (by simp only [GD.ty, GD.isInt, GD.isBool, GD.isTup, GD.isStr]; decide +kernel)
theorem kit_bool (g : GD) : PySem.W.kitOne K (.type g.ty) (.type "bool") = some g.isBool := by cases g <;> exact kit_ty (by simp only [GD.ty, GD.isInt, GD.isBool, GD.isTup, GD.isStr]; decide +kernel)
theorem kit_tup (g : GD) : PySem.W.kitOne K (.type g.ty) (.type "tuple") = some g.isTup := by cases g <;> exact kit_ty (by simp only [GD.ty, GD.isInt, GD.isBool, GD.isTup, GD.isStr]; decide +kernel)
theorem kit_str (g : GD) : PySem.W.kitOne K (.type g.ty) (.type "str") = some g.isStr := by cases g <;> exact kit_ty (by simp only [GD.ty, GD.isInt, GD.isBool, GD.isTup, GD.isStr]; decide +kernel)
end
/-! ### what is asked of data -/
def GD.less (t : Int) : GD → Bool | .int i => decide (0 ≤ i ∧ i < t) | _ => false
def signs : List Nat := ("abcdefghijklmnopqrstuvwxyz" : Str).cps.toList
def wordB (z : Str) : Bool := decide (1 ≤ z.length) && decide (z.length ≤ 8) && z.cps.toList.all (fun c => decide (c ∈ signs)) && !decide (z = "gone")
def GD.word : GD → Bool | .str z => wordB z | _ => false
mutual
def GD.part : Nat → GD → Bool
  | _, .int i => decide (0 ≤ i ∧ i < 10 ^ 60)
  | 0, .tup _ => false
  | n + 1, .tup gs => GD.parts n gs
  | _, _ => false
def GD.parts : Nat → List GD → Bool
  | _, [] => true
  | n, g :: gs => GD.part n g && GD.parts n gs
end
def bad1 (k : Nat) : List GD → Option Nat
  | [] => none
  | g :: gs => if g.part 3 then bad1 (k + 1) gs else some k
def GD.fault : GD → Option Nat
  | .tup (w :: gs) => if w.word then bad1 1 gs else some 0
  | _ => some 0
def oV : Option Nat → V
  | none => .non
  | some k => .int k

end G0
namespace G0
open PySem PySem.Spec PyProof.Rows L2
section
variable {K : PySem.W.Frag} {H H' : Hp} {p : Addr}
mutual
theorem gv_chg (hp : ∃ xs, H p = some (.lst xs)) (hp' : ∃ xs, H' p = some (.lst xs)) (c : Chg p H H') : ∀ (g : GD) (v : V), Gv K H v g → Gv K H' v g
  | .non, _, h => by cases h; exact .non
  | .bl _, _, h => by cases h; exact .bl _
  | .int _, _, h => by cases h; exact .int _
  | .str _, _, h => by cases h with | str z => exact .str z
  | .lst, _, h => by
    cases h with
    | lst e =>
      rename_i a xs
      by_cases q : a = p
      · obtain ⟨ys, hy⟩ := hp'
        rw [q]
        exact .lst hy
      · exact .lst (c _ _ q e)
  | .dct, _, h => by
    cases h with
    | dct e =>
      obtain ⟨ys, hy⟩ := hp
      exact .dct (c _ _ (ne_of e hy (by intro z; cases z)) e)
  | .tup gs, _, h => by
    cases h with
    | tup e l a => exact .tup (sqt_chg hp c e) l (gvs_chg hp hp' c gs _ a)
theorem gvs_chg (hp : ∃ xs, H p = some (.lst xs)) (hp' : ∃ xs, H' p = some (.lst xs)) (c : Chg p H H') : ∀ (gs : List GD) (vs : List V), GvAll K H vs gs → GvAll K H' vs gs
  | [], _, h => by cases h; exact .nil
  | g :: gs, _, h => by
    cases h with
    | cons h1 h2 => exact .cons (gv_chg hp hp' c g _ h1) (gvs_chg hp hp' c gs _ h2)
end
theorem gvs_app {vs ws : List V} {gs hs : List GD} : GvAll K H vs gs → GvAll K H ws hs → GvAll K H (vs ++ ws) (gs ++ hs) := by
  intro h k
  match vs, gs, h with
  | [], [], _ => exact k
  | _ :: _, _ :: _, .cons h1 h2 => exact .cons h1 (gvs_app h2 k)
theorem gvs_drop {vs : List V} {gs : List GD} : ∀ n : Nat, GvAll K H vs gs → GvAll K H (vs.drop n) (gs.drop n) := by
  intro n h
  match n, vs, gs, h with
  | 0, _, _, h => exact h
  | n + 1, [], [], _ => simpa using GvAll.nil
  | n + 1, _ :: _, _ :: _, .cons _ h2 => exact gvs_drop n h2
theorem gvs_take {vs : List V} {gs : List GD} : ∀ n : Nat, GvAll K H vs gs → GvAll K H (vs.take n) (gs.take n) := by
  intro n h
  match n, vs, gs, h with
  | 0, _, _, _ => simpa using GvAll.nil
  | n + 1, [], [], _ => simpa using GvAll.nil
  | n + 1, _ :: _, _ :: _, .cons h1 h2 => exact .cons h1 (gvs_take n h2)
theorem gvs_cut {vs : List V} {gs : List GD} (h : GvAll K H vs gs) (lo hi : Option Int) : ∃ hs, GvAll K H (cutV vs lo hi) hs := ⟨_, gvs_take _ (gvs_drop _ h)⟩
/-- any slice of a tuple -/
theorem sl_any {a : Addr} {xs : List V} {lo hi : Option Int} {Q : VK} (h : SqT K H a xs) (q : ∀ r H', Same H H' → SqT K H' r (cutV xs lo hi) → Q (.ref r) H') : rSlA K (.ref a) lo hi H Q := by
  refine ⟨a, xs, rfl, h, fun ⟨e1, e2⟩ => ?_, fun _ r hr => q r _ (same_upd hr) (SqT.of upd_same)⟩
  refine q a H (Same.refl H) ?_
  unfold cutV
  rw [e1, e2, List.drop_zero, Nat.sub_zero, List.take_length]
  exact h
theorem sl_none {σ : L2.St} {a : Addr} {xs : List V} {lo : Option Int} {Q : VK} (h : SqT K H a xs) (q : ∀ r H', Same H H' → SqT K H' r (cutV xs lo none) → Q (.ref r) H') :
    tNoPart σ H fun u H3 => rSlA K (.ref a) lo u H3 Q := sl_any h q
/-- any two tuples together -/
theorem cat_any {a b : Addr} {xs ys : List V} {Q : VK} (h1 : SqT K H a xs) (h2 : SqT K H b ys) (l : xs.length + ys.length ≤ 10000)
    (q : ∀ r H', Same H H' → SqT K H' r (xs ++ ys) → Q (.ref r) H') : rCatA K (.ref a) (.ref b) H Q := by
  refine ⟨a, b, xs, ys, rfl, rfl, h1, h2, Nat.le_of_lt (small_of' l), fun e => ?_, fun _ e => ?_, fun _ _ r hr => q r _ (same_upd hr) (SqT.of upd_same)⟩
  · subst e
    exact q b H (Same.refl H) h2
  · subst e
    exact q a H (Same.refl H) (by rw [List.append_nil]; exact h1)
/-- an item at any place -/
theorem at_any {xs : List V} {d : Int} (h0 : 0 ≤ d) (h1 : d < xs.length) : ∃ v, v ∈ xs ∧ atI xs d = some v := by
  have hk : d.toNat < xs.length := by omega
  have q : atI xs ((d.toNat : Nat) : Int) = some xs[d.toNat] := atI_nat (List.getElem?_eq_getElem hk)
  rw [show ((d.toNat : Nat) : Int) = d by omega] at q
  exact ⟨_, List.getElem_mem hk, q⟩
/-! ### letters as data of any kind -/
theorem thing_gv : ∀ {n : Nat} {d : PyData}, Thing n d → ∀ {v : V}, Dp K H v d → ∃ g, Gv K H v g := by
  intro n d h
  induction h with
  | num _ _ =>
    intro v hd
    cases hd
    exact ⟨_, .int _⟩
  | tup l _ ih =>
    intro v hd
    cases hd with
    | tup hs ha =>
      rename_i ds _ xs a
      have all : ∀ (ds' : List PyData) (xs : List V), (∀ d ∈ ds', d ∈ ds) → DpAll K H xs ds' → ∃ gs, GvAll K H xs gs := by
        intro ds'
        induction ds' with
        | nil => intro xs _ h; cases h; exact ⟨[], .nil⟩
        | cons d ds' ih2 =>
          intro xs mem h
          cases h with
          | cons h1 h2 =>
            obtain ⟨g, hg⟩ := ih d (mem d (List.mem_cons_self ..)) h1
            obtain ⟨gs, hgs⟩ := ih2 _ (fun x hx => mem x (List.mem_cons_of_mem _ hx)) h2
            exact ⟨g :: gs, .cons hg hgs⟩
      obtain ⟨gs, hgs⟩ := all ds _ (fun _ h => h) ha
      have := dps_len ha
      exact ⟨.tup gs, .tup hs (by omega) hgs⟩
theorem things_gv {n : Nat} : ∀ {ds : List PyData} {vs : List V}, (∀ d ∈ ds, Thing n d) → DpAll K H vs ds → ∃ gs, GvAll K H vs gs
  | [], _, _, h => by cases h; exact ⟨[], .nil⟩
  | d :: ds, _, m, h => by
    cases h with
    | cons h1 h2 =>
      obtain ⟨g, hg⟩ := thing_gv (m d (List.mem_cons_self ..)) h1
      obtain ⟨gs, hgs⟩ := things_gv (fun x hx => m x (List.mem_cons_of_mem _ hx)) h2
      exact ⟨g :: gs, .cons hg hgs⟩
theorem letter_gv {v : V} {d : PyData} (h : LetterD d) (hd : Dp K H v d) : ∃ a xs gs, v = .ref a ∧ SqT K H a xs ∧ GvAll K H xs gs ∧ 1 ≤ xs.length ∧ xs.length ≤ 6 := by
  obtain ⟨z, ds, rfl, hw, l, m⟩ := h
  cases hd with
  | tup hs ha =>
    have hl := dps_len ha
    cases ha with
    | cons h1 h2 =>
      obtain ⟨gs, hgs⟩ := things_gv m h2
      cases h1
      simp at hl
      exact ⟨_, _, _, rfl, hs, .cons (.str (by have := hw.2.1; omega)) hgs, by simp, by simp; omega⟩
end

end G0
namespace G0
open PySem PySem.Spec PyProof.Rows L2
structure Bk (mg : Str → Option Value) : Prop extends Bl mg where
  isinstance : mg "isinstance" = none
  int : mg "int" = none
  bool : mg "bool" = none
  str : mg "str" = none
  all : mg "all" = none

end G0
namespace G0
open PySem PySem.Spec PyProof.Rows L2
/-- the letters' constants -/
structure Lc (K : PySem.W.Frag) (mg : Str → Option Value) : Prop where
  longest : ∃ t, mg "LONGEST" = some (.int 8 t)
  deepest : ∃ t, mg "DEEPEST" = some (.int 4 t)
  top : ∃ t, mg "TOP" = some (.int (10 ^ 60) t)
  signs : ∃ t, mg "SIGNS" = some (.str "abcdefghijklmnopqrstuvwxyz" t)
  mark : ∃ e, mg "END_MARK" = some (.ref e) ∧ ∀ H, SqT K H e [.str "gone"]
theorem lc_str {x : Str} {g : TG} {tt : TT} {te : TE} {vs : List Nat} {σ : L2.St} {H1 : Hp} {D : Addr} {Qd : Hp → Prop} (Pv : Nat → Hp → Prop)
    (start : Pv 0 (upd H1 D (.lst [])))
    (turn : ∀ i c H, x.cps[i]? = some c → Pv i H → g (.str ⟨#[c]⟩) (wipe σ vs) H fun σ2 H2 => wipe σ2 vs = wipe σ vs ∧ tt σ2 H2 fun b H3 =>
      if b = true then te σ2 H3 fun y H4 => ∃ acc, H4 D = some (.lst acc) ∧ acc.length < sizeLine ∧ Pv (i + 1) (upd H4 D (.lst (acc ++ [y]))) else Pv (i + 1) H3)
    (done : ∀ H, Pv x.cps.size H → Qd H) :
    ∃ W : Nat → Nat → Hp → Prop, (∃ m, W 0 m (upd H1 D (.lst []))) ∧ ∀ i m H, W i m H →
      ((Its x).stop i H ∧ Qd H) ∨ ((Its x).go i H ∧ ∃ Nx : Hp → Prop, (∀ H', Nx H' → ∃ m', m' < m ∧ W (i + 1) m' H') ∧
        ∀ y H', (Its x).yld i H y H' → g y (wipe σ vs) H' fun σ2 H2 => wipe σ2 vs = wipe σ vs ∧ tt σ2 H2 fun b H3 =>
          if b = true then te σ2 H3 fun y H4 => ∃ acc, H4 D = some (.lst acc) ∧ acc.length < sizeLine ∧ Nx (upd H4 D (.lst (acc ++ [y]))) else Nx H3) := by
  refine ⟨fun i m H => m = x.cps.size - i ∧ i ≤ x.cps.size ∧ Pv i H, ⟨x.cps.size, by simp, Nat.zero_le _, start⟩, ?_⟩
  rintro i m H ⟨rfl, le, pv⟩
  rcases Nat.lt_or_ge i x.cps.size with lt | ge
  · refine .inr ⟨lt, Pv (i + 1), fun H' pv' => ⟨x.cps.size - (i + 1), by omega, rfl, lt, pv'⟩, fun y H' told => ?_⟩
    obtain ⟨rfl, c, hc, rfl⟩ := told
    exact turn i c H' hc pv
  · have e : i = x.cps.size := by omega
    exact .inl ⟨ge, done H (e ▸ pv)⟩
section
variable {P : Program} {w : World} {K : PySem.W.Frag} {mg : Str → Option Value} {base : Heap}
/-! ### is_below -/
def spBelow (K : PySem.W.Frag) : Sp := fun vs H Q _ => ∃ (x : V) (t : Int) (g : GD), vs = [x, .int t] ∧ Gv K H x g ∧ Q (.bl (g.less t)) H
theorem sc_is_below : FnScope ["thing", "top"] ["thing", "top"] (defScope s_is_below) :=
  ⟨rfl, rfl, rfl, by decide +kernel, rfl, by decide +kernel, by decide +kernel⟩
theorem ok_below (F : Fn K mg "is_below" s_is_below) (T : Bk mg) : Cal P w K mg base "is_below" 1 ["thing", "top"] (spBelow K) := by
  refine cal_of F sc_is_below
    (fun _ _ _ _ _ _ us hl => match us, hl with | [_, _], _ => rfl) ?_ ?_
  · rintro vs H Q E ⟨x, t, g, rfl, _⟩
    rfl
  rintro f cdv A outer s H vs Q E free hr ⟨x, t, g, rfl, hx, q⟩
  refine ⟨_, (pss_one (ps_ret (pe_and (pe_callB call_isi (by rfl) T.isinstance (by decide +kernel) (pa_cons (pv 0) (pa_cons (pe_bltn (v := .ty "int") (by rfl) T.int (by decide +kernel) rfl) pa_nil))) (pe_and (pe_not (pe_callB call_isi (by rfl) T.isinstance (by decide +kernel) (pa_cons (pv 0) (pa_cons (pe_bltn (v := .ty "bool") (by rfl) T.bool (by decide +kernel) rfl) pa_nil)))) (pe_one (pe_chain op_le op_lt pe_int (pv 0) (pv 1))))))), ?_⟩
  refine ⟨_, rfl, x, .ty "int", _, _, _, rfl, .ty _, gv_ty hx, kit_int g, _, rfl, ?_⟩
  cases hx with
  | int i =>
    refine iteT' rfl ⟨_, rfl, _, .ty "bool", _, _, _, rfl, .ty _, .base (.int i), kit_bool (.int i), _, rfl, _, rfl, iteT' rfl ⟨_, rfl, _, _, rfl, rfl, _, rfl, ?_⟩⟩
    refine ite2 (fun c => ⟨_, rfl, _, _, rfl, rfl, ?_⟩) (fun c => ?_)
    · have c' : 0 ≤ i := of_decide_eq_true c
      simpa [GD.less, c'] using q
    · have c' : ¬ 0 ≤ i := fun z => c (decide_eq_true z)
      simpa [GD.less, c'] using q
  | bl b => exact iteT' rfl ⟨_, rfl, _, .ty "bool", _, _, _, rfl, .ty _, .base (.bl b), kit_bool (.bl b), _, rfl, _, rfl, iteF' rfl q⟩
  | non => exact iteF' rfl q
  | str _ => exact iteF' rfl q
  | lst _ => exact iteF' rfl q
  | dct _ => exact iteF' rfl q
  | tup _ _ _ => exact iteF' rfl q
/-! ### _is_word -/
theorem all_signs {z : Str} : (z.cps.toList.map fun c => decide (c ∈ signs)).all id = z.cps.toList.all fun c => decide (c ∈ signs) := by
  rw [List.all_map]; rfl
def spWord (K : PySem.W.Frag) : Sp := fun vs H Q _ => ∃ (x : V) (g : GD), vs = [x] ∧ Gv K H x g ∧ ∀ H', Same H H' → Q (.bl g.word) H'
theorem sc_is_word : FnScope ["thing", "sign"] ["thing"] (defScope s_is_word) :=
  ⟨rfl, rfl, rfl, by decide +kernel, rfl, by decide +kernel, by decide +kernel⟩
theorem ok_word (F : Fn K mg "_is_word" s_is_word) (T : Bk mg) (L : Lc K mg) : Cal P w K mg base "_is_word" 1 ["thing"] (spWord K) := by
  obtain ⟨t1, hLo⟩ := L.longest
  obtain ⟨t2, hSi⟩ := L.signs
  obtain ⟨e, hMa, sMa⟩ := L.mark
  refine cal_of F sc_is_word
    (fun _ _ _ _ _ _ us hl => match us, hl with | [_], _ => rfl) ?_ ?_
  · rintro vs H Q E ⟨x, g, rfl, _⟩
    rfl
  rintro f cdv A outer s H vs Q E free hr ⟨x, g, rfl, hx, q⟩
  refine ⟨_, (pss_cons (ps_if (PW.pt (pw_or (pt_not (pt_val (pe_callB call_isi (by rfl) T.isinstance (by decide +kernel) (pa_cons (pv 0) (pa_cons (pe_bltn (v := .ty "str") (by rfl) T.str (by decide +kernel) rfl) pa_nil))))) (pw_or1 (pt_not (pt_chain op_le op_le pe_int (pe_callB call_len_str (by rfl) T.len (by decide +kernel) (pa_cons (pv 0) pa_nil)) (pe_glob (v := .int 8) (by rfl) hLo ⟨_, rfl⟩))))))
    (pss_one (ps_ret pe_bl))
    pss_nil)
    (pss_one (ps_ret (pe_and (pe_callB (cr_all (by rfl)) (by rfl) T.all (by decide +kernel) (pa_cons (pe_lc (own := [("sign", 1)]) (g := gName 1) (tt := tYes) (by rfl) sc_is_word.nd (pi_str (pv 0)) (blkOk_by (N := ["thing", "sign"]) (sc := defScope s_is_word) (by decide +kernel)) (fun _ _ _ _ _ => pg_name (i := 1) sc_is_word.nd rfl (Or.inl rfl)) (fun _ _ _ _ _ => pts_nil) (fun _ _ _ _ _ => (pe_cmpR op_inS (pv 1) (pe_glob (v := .str "abcdefghijklmnopqrstuvwxyz") (by rfl) hSi ⟨_, rfl⟩) (by rfl)))) pa_nil)) (pe_one (pe_cmpR op_ne (pv 0) (pe_ix ix_tup (pe_glob (v := .ref e) (by rfl) hMa rfl) pe_int (fun _ _ => rfl)) (nomark _))))))), ?_⟩
  refine ⟨_, rfl, x, .ty "str", _, _, _, rfl, .ty _, gv_ty hx, kit_str g, _, rfl, ?_⟩
  cases hx with
  | str hz =>
    rename_i z
    have zl : z.length ≤ sizeLine := Nat.le_trans hz (by decide)
    refine iteF' rfl ⟨_, rfl, z, rfl, zl, _, _, rfl, rfl, _, rfl, ?_⟩
    have no : wordB z = false → Q (.bl false) H := fun e => by
      have := q H (Same.refl H)
      simp only [GD.word] at this
      rwa [e] at this
    refine ite2 (fun c1 => ?_) (fun c1 => ?_)
    · have l1 : 1 ≤ z.length := by have := of_decide_eq_true c1; omega
      refine ⟨_, _, rfl, rfl, _, rfl, ?_⟩
      by_cases l8 : z.length ≤ 8
      · refine iteF' (c := !decide (((z.length : Nat) : Int) ≤ 8)) (by simp; omega) ?_
        refine ⟨_, rfl, z, rfl, fun D hD => ?_⟩
        have zs : z.cps.toList.length = z.length := by simp [Str.length]
        refine lc_str (fun i G => Same H G ∧ G D = some (.lst (((z.cps.toList.take i).map fun c => decide (c ∈ signs)).map V.bl))) ⟨same_upd hD, upd_same⟩ ?_ ?_
        · rintro i c G hc ⟨sG, hG⟩
          have hc' : z.cps.toList[i]? = some c := by rw [Array.getElem?_toList]; exact hc
          refine ⟨rfl, _, rfl, c, _, rfl, rfl, _, hG, ?_, fun b o e => ?_, ?_⟩
          · rw [List.length_map, List.length_map, List.length_take]
            exact small_of' (by omega)
          · rw [upd_ne (ne_of_none e hD)]; exact sG b o e
          · rw [upd_same, List.take_succ, hc', List.map_append, List.map_append]; rfl
        · rintro G ⟨sG, hG⟩
          have ez : z.cps.toList.take z.cps.size = z.cps.toList := List.take_of_length_le (by simp)
          rw [ez] at hG
          refine ⟨D, _, rfl, SqL.of hG, _, rfl, ?_⟩
          rw [all_signs]
          have wz : wordB z = (z.cps.toList.all (fun c => decide (c ∈ signs)) && !decide (z = "gone")) := by
            simp [wordB, l1, l8]
          have q' := q G sG
          simp only [GD.word, wz] at q'
          cases al : z.cps.toList.all fun c => decide (c ∈ signs) with
          | true =>
            rw [al] at q'
            refine iteT ⟨_, rfl, e, _, _, _, rfl, rfl, sMa _, rfl, rfl, ?_⟩
            simpa using q'
          | false =>
            rw [al] at q'
            exact iteF q'
      · refine iteT' (c := !decide (((z.length : Nat) : Int) ≤ 8)) (by simp; omega) ?_
        exact no (by simp [wordB, l8])
    · refine ⟨_, rfl, iteT' rfl ?_⟩
      have l1 : ¬ 1 ≤ z.length := fun h => c1 (decide_eq_true (by omega))
      exact no (by simp [wordB, l1])
  | bl b => exact iteT' rfl (q H (Same.refl H))
  | non => exact iteT' rfl (q H (Same.refl H))
  | int i => exact iteT' rfl (q H (Same.refl H))
  | lst _ => exact iteT' rfl (q H (Same.refl H))
  | dct _ => exact iteT' rfl (q H (Same.refl H))
  | tup _ _ _ => exact iteT' rfl (q H (Same.refl H))
/-! ### _is_thing -/
theorem parts_all (n : Nat) : ∀ gs : List GD, GD.parts n gs = (gs.map (GD.part n)).all id
  | [] => by simp [GD.parts]
  | g :: gs => by simp [GD.parts, parts_all n gs]
theorem part_not {n : Nat} {g : GD} (h : g.isTup = false) : g.part n = g.less (10 ^ 60) := by
  cases g <;> cases n <;> simp_all [GD.part, GD.less, GD.isTup]
def spIsThing (K : PySem.W.Frag) : Nat → Sp
  | 0 => fun _ _ _ _ => False
  | n + 1 => fun vs H Q _ => ∃ (x : V) (g : GD), vs = [x, .int (4 - (n : Int))] ∧ n ≤ 3 ∧ Gv K H x g ∧ (∀ H', Same H H' → Q (.bl (g.part n)) H')
theorem sc_is_thing : FnScope ["thing", "around", "part"] ["thing", "around"] (defScope s_is_thing) :=
  ⟨rfl, rfl, rfl, by decide +kernel, rfl, by decide +kernel, by decide +kernel⟩
theorem ok_isthing (n : Nat) (F : Fn K mg "_is_thing" s_is_thing) (T : Bk mg) (L : Lc K mg) (C_below : Cal P w K mg base "is_below" 1 ["thing", "top"] (spBelow K))
    (C_thing : Cal P w K mg base "_is_thing" (n + 1) ["thing", "around"] (spIsThing K n)) : Cal P w K mg base "_is_thing" (n + 1 + 1) ["thing", "around"] (spIsThing K (n + 1)) := by
  obtain ⟨t1, hDe⟩ := L.deepest
  obtain ⟨t2, hTo⟩ := L.top
  refine cal_of F sc_is_thing
    (fun _ _ _ _ _ _ us hl => match us, hl with | [_, _], _ => rfl) ?_ ?_
  · rintro vs H Q E ⟨x, g, rfl, _⟩
    rfl
  rintro f cdv A outer s H vs Q E free hr ⟨x, g, rfl, n3, hx, q⟩
  refine ⟨_, (pss_cons (ps_if (pt_not (pt_val (pe_callB call_isi (by rfl) T.isinstance (by decide +kernel) (pa_cons (pv 0) (pa_cons (pe_bltn (v := .ty "tuple") (by rfl) T.tuple (by decide +kernel) rfl) pa_nil)))))
    (pss_one (ps_ret (pe_cal C_below free (hr.mono (by omega)) (pa_cons (pv 0) (pa_cons (pe_glob (v := .int (10 ^ 60)) (by rfl) hTo ⟨_, rfl⟩) pa_nil)))))
    pss_nil)
    (pss_cons (ps_if (pt_cmpR op_eq (pv 1) (pe_glob (v := .int 4) (by rfl) hDe ⟨_, rfl⟩) (nomark _))
    (pss_one (ps_ret pe_bl))
    pss_nil)
    (pss_one (ps_ret (pe_callB (cr_all (by rfl)) (by rfl) T.all (by decide +kernel) (pa_cons (pe_lc (own := [("part", 2)]) (g := gName 2) (tt := tYes) (by rfl) sc_is_thing.nd (pi_tup (pv 0)) (blkOk_by (N := ["thing", "around", "part"]) (sc := defScope s_is_thing) (by decide +kernel)) (fun _ _ _ _ _ => pg_name (i := 2) sc_is_thing.nd rfl (Or.inl rfl)) (fun _ _ _ _ _ => pts_nil) (fun _ _ _ _ _ => (pe_cal C_thing free hr (pa_cons (pv 2) (pa_cons (pe_op op_add (pv 1) pe_int) pa_nil))))) pa_nil)))))), ?_⟩
  refine ⟨_, rfl, x, .ty "tuple", _, _, _, rfl, .ty _, gv_ty hx, kit_tup g, _, rfl, ?_⟩
  cases tg : g.isTup with
  | false =>
    refine iteT' rfl ⟨_, rfl, x, 10 ^ 60, g, rfl, hx, ?_⟩
    rw [← part_not (n := n) tg]
    exact q H (Same.refl H)
  | true =>
    refine iteF' rfl ?_
    cases hx with
    | non => cases tg
    | bl _ => cases tg
    | int _ => cases tg
    | str _ => cases tg
    | lst _ => cases tg
    | dct _ => cases tg
    | tup e xl a =>
      rename_i p xs gs
      refine ⟨_, rfl, rfl, _, rfl, ?_⟩
      refine ite2 (fun c => ?_) (fun c => ?_)
      · have n0 : n = 0 := by
          have := of_decide_eq_true c
          have e4 : (4 : Int) - (n : Int) = 4 := V.int.inj this
          omega
        subst n0
        exact q H (Same.refl H)
      · obtain ⟨m, rfl⟩ : ∃ m, n = m + 1 := by
          refine ⟨n - 1, ?_⟩
          have : n ≠ 0 := fun z => c (by subst z; rfl)
          omega
        refine ⟨_, rfl, p, rfl, ⟨_, e⟩, fun D hD => ?_⟩
        have hl := gvs_len a
        refine lc_tup (K := K) (a := p) (xs := xs) (fun i G => Same H G ∧ G D = some (.lst (((gs.take i).map (GD.part m)).map V.bl))) ⟨same_upd hD, upd_same⟩ (fun i G _ h => sqt_same h.1 e) ?_ ?_
        · rintro i y G hi ⟨sG, hG⟩
          obtain ⟨gi, hgi, hy⟩ := gvs_get a hi
          refine ⟨rfl, _, rfl, _, rfl, _, _, rfl, rfl, y, gi, (by show [y, V.int (4 - ((m + 1 : Nat) : Int) + 1)] = _; rw [show (4 - ((m + 1 : Nat) : Int) + 1) = 4 - (m : Int) by omega]), by omega, gv_same sG _ _ hy, fun G2 s2 => ?_⟩
          refine ⟨_, s2 _ _ hG, ?_, fun b o z => ?_, ?_⟩
          · rw [List.length_map, List.length_map, List.length_take]
            exact small_of' (by omega)
          · rw [upd_ne (ne_of_none z hD)]; exact s2 _ _ (sG b o z)
          · rw [upd_same, List.take_succ, hgi, List.map_append, List.map_append]; rfl
        · rintro G ⟨sG, hG⟩
          refine ⟨D, _, rfl, SqL.of hG, ?_⟩
          have eg : gs.take xs.length = gs := List.take_of_length_le (by omega)
          rw [eg, ← parts_all]
          have := q G sG
          simpa only [GD.part] using this
theorem ok_isthings (F : Fn K mg "_is_thing" s_is_thing) (T : Bk mg) (L : Lc K mg) (C_below : Cal P w K mg base "is_below" 1 ["thing", "top"] (spBelow K)) :
    ∀ n, Cal P w K mg base "_is_thing" (n + 1) ["thing", "around"] (spIsThing K n)
  | 0 => (cal_no F (fun _ _ _ _ _ _ us hl => match us, hl with | [_, _], _ => rfl) ).mono (by decide)
  | n + 1 => ok_isthing n F T L C_below (ok_isthings F T L C_below n)
/-! ### letter_fault, is_letter -/
def spFault (K : PySem.W.Frag) : Sp := fun vs H Q _ => ∃ (x : V) (g : GD), vs = [x] ∧ Gv K H x g ∧ ∀ H', Same H H' → Q (oV g.fault) H'
theorem bad1_at : ∀ (gs : List GD) (k i : Nat), (∀ j, j < i → ∀ g : GD, gs[j]? = some g → GD.part 3 g = true) → ∀ g : GD, gs[i]? = some g → GD.part 3 g = false → bad1 k gs = some (k + i)
  | [], k, i, _, g, h, _ => by simp at h
  | a :: gs, k, 0, _, g, h, b => by
    simp at h; subst h
    simp [bad1, b]
  | a :: gs, k, i + 1, p, g, h, b => by
    have a3 := p 0 (Nat.succ_pos i) a rfl
    have ih := bad1_at gs (k + 1) i (fun j hj g' hg => p (j + 1) (by omega) g' (by simpa using hg)) g (by simpa using h) b
    simp [bad1, a3, ih]; omega
theorem bad1_no : ∀ (gs : List GD) (k : Nat), (∀ (j : Nat) (g : GD), gs[j]? = some g → GD.part 3 g = true) → bad1 k gs = none
  | [], k, _ => rfl
  | a :: gs, k, p => by
    have a3 := p 0 a rfl
    have ih := bad1_no gs (k + 1) (fun j g' hg => p (j + 1) g' (by simpa using hg))
    simp [bad1, a3, ih]
theorem sc_letter_fault : FnScope ["thing", "at"] ["thing"] (defScope s_letter_fault) :=
  ⟨rfl, rfl, rfl, by decide +kernel, rfl, by decide +kernel, by decide +kernel⟩
theorem ok_fault (F : Fn K mg "letter_fault" s_letter_fault) (T : Bk mg) (C_word : Cal P w K mg base "_is_word" 1 ["thing"] (spWord K))
    (C_thing : Cal P w K mg base "_is_thing" 5 ["thing", "around"] (spIsThing K 4)) : Cal P w K mg base "letter_fault" 6 ["thing"] (spFault K) := by
  refine cal_of F sc_letter_fault
    (fun _ _ _ _ _ _ us hl => match us, hl with | [_], _ => rfl) ?_ ?_
  · rintro vs H Q E ⟨x, g, rfl, _⟩
    rfl
  rintro f cdv A outer s H vs Q E free hr ⟨x, g, rfl, hx, q⟩
  refine ⟨_, (pss_cons (ps_if (PW.pt (pw_or (pt_not (pt_val (pe_callB call_isi (by rfl) T.isinstance (by decide +kernel) (pa_cons (pv 0) (pa_cons (pe_bltn (v := .ty "tuple") (by rfl) T.tuple (by decide +kernel) rfl) pa_nil))))) (pw_or (pt_cmpR op_eq (pe_callB call_len_seq (by rfl) T.len (by decide +kernel) (pa_cons (pv 0) pa_nil)) pe_int (nomark _)) (pw_or1 (pt_not (pt_val (pe_cal C_word free (hr.mono (by decide)) (pa_cons (pe_ix ix_tup (pv 0) pe_int (fun _ _ => rfl)) pa_nil))))))))
    (pss_one (ps_ret pe_int))
    pss_nil)
    (pss_cons (ps_for PassesOwn.never rfl (pi_range2 (by rfl) T.range (pa_cons pe_int (pa_cons (pe_callB call_len_seq (by rfl) T.len (by decide +kernel) (pa_cons (pv 0) pa_nil)) pa_nil))) (pg_name (i := 1) sc_letter_fault.nd rfl (Or.inl rfl))
    (pss_one (ps_if (pt_not (pt_val (pe_cal C_thing free hr (pa_cons (pe_ix ix_tup (pv 0) (pv 1) (fun _ _ => rfl)) (pa_cons pe_int pa_nil)))))
    (pss_one (ps_ret (pv 1)))
    pss_nil)))
    (pss_one (ps_ret pe_non)))), ?_⟩
  refine ⟨_, rfl, x, .ty "tuple", _, _, _, rfl, .ty _, gv_ty hx, kit_tup g, _, rfl, ?_⟩
  cases hx with
  | non => exact iteT' rfl (q H (Same.refl H))
  | bl _ => exact iteT' rfl (q H (Same.refl H))
  | int _ => exact iteT' rfl (q H (Same.refl H))
  | str _ => exact iteT' rfl (q H (Same.refl H))
  | lst _ => exact iteT' rfl (q H (Same.refl H))
  | dct _ => exact iteT' rfl (q H (Same.refl H))
  | tup e xl a =>
    rename_i p xs gs
    refine iteF' rfl ⟨_, rfl, p, _, rfl, .inr e, rfl, _, rfl, ?_⟩
    have hl := gvs_len a
    cases a with
    | nil => exact iteT' rfl (q H (Same.refl H))
    | cons hw ha =>
      rename_i v vs g gs
      refine iteF' (by simp; omega) ?_
      refine ⟨_, rfl, p, _, _, _, rfl, rfl, e, atI_nat (j := 0) rfl, v, g, rfl, hw, fun H1 s1 => ?_⟩
      refine ⟨_, rfl, ?_⟩
      cases wg : g.word with
      | false =>
        refine iteT' rfl ?_
        have z : Q (.int 0) H1 := by simpa [GD.fault, wg, oV] using q H1 s1
        exact z
      | true =>
        refine iteF' rfl ?_
        have l' : vs.length = gs.length := by simpa using hl
        refine ⟨_, rfl, p, _, rfl, .inr (sqt_same s1 e), _, _, rfl, by simp at xl ⊢; omega, ?_⟩
        have fa : GD.fault (.tup (g :: gs)) = bad1 1 gs := by simp [GD.fault, wg]
        refine for_range (lo := 1) (n := ((((v :: vs).length : Nat) : Int) - 1).toNat) (fun i σ G => (∃ z : Option V, σ = [some (.ref p), z]) ∧ Same H G ∧ ∀ j, j < i → ∀ g : GD, gs[j]? = some g → GD.part 3 g = true)
          ⟨⟨_, rfl⟩, s1, fun j h => absurd h (Nat.not_lt_zero j)⟩ ?_ ?_
        · rintro i σ G hi ⟨⟨z, rfl⟩, sG, hp⟩
          have hi' : i < vs.length := by simp at hi; omega
          have at1 : (v :: vs)[1 + i]? = some vs[i] := by rw [show 1 + i = i + 1 by omega, List.getElem?_cons_succ, List.getElem?_eq_getElem hi']
          have at2 : atI (v :: vs) ((1 : Int) + (i : Int)) = some vs[i] := by
            have := atI_nat at1
            rwa [show ((1 + i : Nat) : Int) = 1 + (i : Int) by omega] at this
          obtain ⟨gi, hgi, hy⟩ := gvs_get ha (List.getElem?_eq_getElem hi')
          refine ⟨_, rfl, _, rfl, p, _, _, _, rfl, rfl, sqt_same sG e, at2, _, gi, rfl, by decide, gv_same sG _ _ hy, fun G2 s2 => ?_⟩
          refine ⟨_, rfl, ?_⟩
          cases pg : GD.part 3 gi with
          | true =>
            refine iteF' rfl ⟨⟨_, rfl⟩, sG.trans s2, fun j hj g' hg' => ?_⟩
            rcases Nat.lt_or_ge j i with lt | ge
            · exact hp j lt g' hg'
            · have : j = i := by omega
              subst this
              rw [hgi] at hg'
              cases hg'
              exact pg
          | false =>
            refine iteT' rfl ?_
            have b := bad1_at gs 1 i hp gi hgi pg
            have := q G2 (sG.trans s2)
            rw [fa, b] at this
            exact ⟨_, rfl, by simpa [oV] using this⟩
        · rintro σ G ⟨⟨z, rfl⟩, sG, hp⟩
          have b := bad1_no gs 1 (fun j g' hg' => hp j (by
            have := (List.getElem?_eq_some_iff.mp hg').1
            simp; omega) g' hg')
          have := q G sG
          rw [fa, b] at this
          exact this
def spIsLetter (K : PySem.W.Frag) : Sp := fun vs H Q _ => ∃ (x : V) (g : GD), vs = [x] ∧ Gv K H x g ∧ ∀ H', Same H H' → Q (.bl (decide (g.fault = none))) H'
theorem sc_is_letter : FnScope ["thing"] ["thing"] (defScope s_is_letter) :=
  ⟨rfl, rfl, rfl, by decide +kernel, rfl, by decide +kernel, by decide +kernel⟩
theorem ok_isletter (F : Fn K mg "is_letter" s_is_letter) (C_letter_fault : Cal P w K mg base "letter_fault" 6 ["thing"] (spFault K)) :
    Cal P w K mg base "is_letter" 7 ["thing"] (spIsLetter K) := by
  refine cal_of F sc_is_letter
    (fun _ _ _ _ _ _ us hl => match us, hl with | [_], _ => rfl) ?_ ?_
  · rintro vs H Q E ⟨x, g, rfl, _⟩
    rfl
  rintro f cdv A outer s H vs Q E free hr ⟨x, g, rfl, hx, q⟩
  refine ⟨_, (pss_one (ps_ret (pe_cmpR op_isN (pe_cal C_letter_fault free hr (pa_cons (pv 0) pa_nil)) pe_non (nomark _)))), ?_⟩
  refine ⟨_, rfl, x, g, rfl, hx, fun H1 s1 => ⟨rfl, ?_⟩⟩
  have := q H1 s1
  cases e : g.fault <;> simpa [e, oV] using this
end

end G0
namespace G0
open PySem PySem.Spec PyProof.Rows L2
theorem n_puF_me_stt : (("me" : Str) = "state") = False := eq_false (by decide +kernel)
theorem n_puF_me_sits : (("me" : Str) = "sits") = False := eq_false (by decide +kernel)
theorem n_puF_me_pls : (("me" : Str) = "_plays") = False := eq_false (by decide +kernel)
theorem n_puF_me_ply : (("me" : Str) = "_played") = False := eq_false (by decide +kernel)
theorem n_puF_stt_me : (("state" : Str) = "me") = False := eq_false (by decide +kernel)
theorem n_puF_stt_sits : (("state" : Str) = "sits") = False := eq_false (by decide +kernel)
theorem n_puF_stt_pls : (("state" : Str) = "_plays") = False := eq_false (by decide +kernel)
theorem n_puF_stt_ply : (("state" : Str) = "_played") = False := eq_false (by decide +kernel)
theorem n_puF_sits_me : (("sits" : Str) = "me") = False := eq_false (by decide +kernel)
theorem n_puF_sits_stt : (("sits" : Str) = "state") = False := eq_false (by decide +kernel)
theorem n_puF_sits_pls : (("sits" : Str) = "_plays") = False := eq_false (by decide +kernel)
theorem n_puF_sits_ply : (("sits" : Str) = "_played") = False := eq_false (by decide +kernel)
theorem n_puF_pls_me : (("_plays" : Str) = "me") = False := eq_false (by decide +kernel)
theorem n_puF_pls_stt : (("_plays" : Str) = "state") = False := eq_false (by decide +kernel)
theorem n_puF_pls_sits : (("_plays" : Str) = "sits") = False := eq_false (by decide +kernel)
theorem n_puF_pls_ply : (("_plays" : Str) = "_played") = False := eq_false (by decide +kernel)
theorem n_puF_ply_me : (("_played" : Str) = "me") = False := eq_false (by decide +kernel)
theorem n_puF_ply_stt : (("_played" : Str) = "state") = False := eq_false (by decide +kernel)
theorem n_puF_ply_sits : (("_played" : Str) = "sits") = False := eq_false (by decide +kernel)
theorem n_puF_ply_pls : (("_played" : Str) = "_plays") = False := eq_false (by decide +kernel)
def puF (me : Int) (stt : Str) (sits : Bool) (pls : Addr) (ply : Int) : List (Str × V) := [("me", .int me), ("state", .str stt), ("sits", .bl sits), ("_plays", .ref pls), ("_played", .int ply)]
theorem puF_me (me : Int) (stt : Str) (sits : Bool) (pls : Addr) (ply : Int) : (puF me stt sits pls ply).lookup ("me" : Str) = some (.int me) := by unfold puF; rw [List.lookup_cons_self]
theorem puF_put_me (me : Int) (stt : Str) (sits : Bool) (pls : Addr) (ply : Int) (me' : Int) : putF "me" (.int me') (puF me stt sits pls ply) = puF me' stt sits pls ply := by
  simp only [puF, putF, if_false, if_true]
theorem puF_stt (me : Int) (stt : Str) (sits : Bool) (pls : Addr) (ply : Int) : (puF me stt sits pls ply).lookup ("state" : Str) = some (.str stt) := by unfold puF; rw [List.lookup_cons, beq_false_of_ne (fun z => by rw [n_puF_stt_me] at z; exact z)]; simp only []; rw [List.lookup_cons_self]
theorem puF_put_stt (me : Int) (stt : Str) (sits : Bool) (pls : Addr) (ply : Int) (stt' : Str) : putF "state" (.str stt') (puF me stt sits pls ply) = puF me stt' sits pls ply := by
  simp only [puF, putF, n_puF_me_stt, if_false, if_true]
theorem puF_sits (me : Int) (stt : Str) (sits : Bool) (pls : Addr) (ply : Int) : (puF me stt sits pls ply).lookup ("sits" : Str) = some (.bl sits) := by unfold puF; rw [List.lookup_cons, beq_false_of_ne (fun z => by rw [n_puF_sits_me] at z; exact z)]; simp only []; rw [List.lookup_cons, beq_false_of_ne (fun z => by rw [n_puF_sits_stt] at z; exact z)]; simp only []; rw [List.lookup_cons_self]
theorem puF_put_sits (me : Int) (stt : Str) (sits : Bool) (pls : Addr) (ply : Int) (sits' : Bool) : putF "sits" (.bl sits') (puF me stt sits pls ply) = puF me stt sits' pls ply := by
  simp only [puF, putF, n_puF_me_sits, n_puF_stt_sits, if_false, if_true]
theorem puF_pls (me : Int) (stt : Str) (sits : Bool) (pls : Addr) (ply : Int) : (puF me stt sits pls ply).lookup ("_plays" : Str) = some (.ref pls) := by unfold puF; rw [List.lookup_cons, beq_false_of_ne (fun z => by rw [n_puF_pls_me] at z; exact z)]; simp only []; rw [List.lookup_cons, beq_false_of_ne (fun z => by rw [n_puF_pls_stt] at z; exact z)]; simp only []; rw [List.lookup_cons, beq_false_of_ne (fun z => by rw [n_puF_pls_sits] at z; exact z)]; simp only []; rw [List.lookup_cons_self]
theorem puF_put_pls (me : Int) (stt : Str) (sits : Bool) (pls : Addr) (ply : Int) (pls' : Addr) : putF "_plays" (.ref pls') (puF me stt sits pls ply) = puF me stt sits pls' ply := by
  simp only [puF, putF, n_puF_me_pls, n_puF_stt_pls, n_puF_sits_pls, if_false, if_true]
theorem puF_ply (me : Int) (stt : Str) (sits : Bool) (pls : Addr) (ply : Int) : (puF me stt sits pls ply).lookup ("_played" : Str) = some (.int ply) := by unfold puF; rw [List.lookup_cons, beq_false_of_ne (fun z => by rw [n_puF_ply_me] at z; exact z)]; simp only []; rw [List.lookup_cons, beq_false_of_ne (fun z => by rw [n_puF_ply_stt] at z; exact z)]; simp only []; rw [List.lookup_cons, beq_false_of_ne (fun z => by rw [n_puF_ply_sits] at z; exact z)]; simp only []; rw [List.lookup_cons, beq_false_of_ne (fun z => by rw [n_puF_ply_pls] at z; exact z)]; simp only []; rw [List.lookup_cons_self]
theorem puF_put_ply (me : Int) (stt : Str) (sits : Bool) (pls : Addr) (ply : Int) (ply' : Int) : putF "_played" (.int ply') (puF me stt sits pls ply) = puF me stt sits pls ply' := by
  simp only [puF, putF, n_puF_me_ply, n_puF_stt_ply, n_puF_sits_ply, n_puF_pls_ply, if_false, if_true]
theorem puF_no (me : Int) (stt : Str) (sits : Bool) (pls : Addr) (ply : Int) {x : Str} (h0 : x ≠ ("me" : Str)) (h1 : x ≠ ("state" : Str)) (h2 : x ≠ ("sits" : Str)) (h3 : x ≠ ("_plays" : Str)) (h4 : x ≠ ("_played" : Str)) : (puF me stt sits pls ply).lookup x = none := by
  unfold puF
  rw [List.lookup_cons, beq_false_of_ne h0]; simp only []
  rw [List.lookup_cons, beq_false_of_ne h1]; simp only []
  rw [List.lookup_cons, beq_false_of_ne h2]; simp only []
  rw [List.lookup_cons, beq_false_of_ne h3]; simp only []
  rw [List.lookup_cons, beq_false_of_ne h4]; rfl
theorem puF_made (me : Int) (stt : Str) (sits : Bool) (pls : Addr) (ply : Int) : putF "_played" (.int ply) (putF "_plays" (.ref pls) (putF "sits" (.bl sits) (putF "state" (.str stt) (putF "me" (.int me) ([] )))))= puF me stt sits pls ply := by
  simp only [putF, puF, n_puF_me_stt, n_puF_me_sits, n_puF_stt_sits, n_puF_me_pls, n_puF_stt_pls, n_puF_sits_pls, n_puF_me_ply, n_puF_stt_ply, n_puF_sits_ply, n_puF_pls_ply, if_false, if_true]
end G0
namespace G0
open PySem PySem.Spec PyProof.Rows L2
theorem n_ptF_me_stt : (("me" : Str) = "state") = False := eq_false (by decide +kernel)
theorem n_ptF_me_sits : (("me" : Str) = "sits") = False := eq_false (by decide +kernel)
theorem n_ptF_me_inr : (("me" : Str) = "inner") = False := eq_false (by decide +kernel)
theorem n_ptF_me_por : (("me" : Str) = "porter") = False := eq_false (by decide +kernel)
theorem n_ptF_me_srv : (("me" : Str) = "serves") = False := eq_false (by decide +kernel)
theorem n_ptF_me_mts : (("me" : Str) = "_mates") = False := eq_false (by decide +kernel)
theorem n_ptF_me_wts : (("me" : Str) = "_waits") = False := eq_false (by decide +kernel)
theorem n_ptF_stt_me : (("state" : Str) = "me") = False := eq_false (by decide +kernel)
theorem n_ptF_stt_sits : (("state" : Str) = "sits") = False := eq_false (by decide +kernel)
theorem n_ptF_stt_inr : (("state" : Str) = "inner") = False := eq_false (by decide +kernel)
theorem n_ptF_stt_por : (("state" : Str) = "porter") = False := eq_false (by decide +kernel)
theorem n_ptF_stt_srv : (("state" : Str) = "serves") = False := eq_false (by decide +kernel)
theorem n_ptF_stt_mts : (("state" : Str) = "_mates") = False := eq_false (by decide +kernel)
theorem n_ptF_stt_wts : (("state" : Str) = "_waits") = False := eq_false (by decide +kernel)
theorem n_ptF_sits_me : (("sits" : Str) = "me") = False := eq_false (by decide +kernel)
theorem n_ptF_sits_stt : (("sits" : Str) = "state") = False := eq_false (by decide +kernel)
theorem n_ptF_sits_inr : (("sits" : Str) = "inner") = False := eq_false (by decide +kernel)
theorem n_ptF_sits_por : (("sits" : Str) = "porter") = False := eq_false (by decide +kernel)
theorem n_ptF_sits_srv : (("sits" : Str) = "serves") = False := eq_false (by decide +kernel)
theorem n_ptF_sits_mts : (("sits" : Str) = "_mates") = False := eq_false (by decide +kernel)
theorem n_ptF_sits_wts : (("sits" : Str) = "_waits") = False := eq_false (by decide +kernel)
theorem n_ptF_inr_me : (("inner" : Str) = "me") = False := eq_false (by decide +kernel)
theorem n_ptF_inr_stt : (("inner" : Str) = "state") = False := eq_false (by decide +kernel)
theorem n_ptF_inr_sits : (("inner" : Str) = "sits") = False := eq_false (by decide +kernel)
theorem n_ptF_inr_por : (("inner" : Str) = "porter") = False := eq_false (by decide +kernel)
theorem n_ptF_inr_srv : (("inner" : Str) = "serves") = False := eq_false (by decide +kernel)
theorem n_ptF_inr_mts : (("inner" : Str) = "_mates") = False := eq_false (by decide +kernel)
theorem n_ptF_inr_wts : (("inner" : Str) = "_waits") = False := eq_false (by decide +kernel)
theorem n_ptF_por_me : (("porter" : Str) = "me") = False := eq_false (by decide +kernel)
theorem n_ptF_por_stt : (("porter" : Str) = "state") = False := eq_false (by decide +kernel)
theorem n_ptF_por_sits : (("porter" : Str) = "sits") = False := eq_false (by decide +kernel)
theorem n_ptF_por_inr : (("porter" : Str) = "inner") = False := eq_false (by decide +kernel)
theorem n_ptF_por_srv : (("porter" : Str) = "serves") = False := eq_false (by decide +kernel)
theorem n_ptF_por_mts : (("porter" : Str) = "_mates") = False := eq_false (by decide +kernel)
theorem n_ptF_por_wts : (("porter" : Str) = "_waits") = False := eq_false (by decide +kernel)
theorem n_ptF_srv_me : (("serves" : Str) = "me") = False := eq_false (by decide +kernel)
theorem n_ptF_srv_stt : (("serves" : Str) = "state") = False := eq_false (by decide +kernel)
theorem n_ptF_srv_sits : (("serves" : Str) = "sits") = False := eq_false (by decide +kernel)
theorem n_ptF_srv_inr : (("serves" : Str) = "inner") = False := eq_false (by decide +kernel)
theorem n_ptF_srv_por : (("serves" : Str) = "porter") = False := eq_false (by decide +kernel)
theorem n_ptF_srv_mts : (("serves" : Str) = "_mates") = False := eq_false (by decide +kernel)
theorem n_ptF_srv_wts : (("serves" : Str) = "_waits") = False := eq_false (by decide +kernel)
theorem n_ptF_mts_me : (("_mates" : Str) = "me") = False := eq_false (by decide +kernel)
theorem n_ptF_mts_stt : (("_mates" : Str) = "state") = False := eq_false (by decide +kernel)
theorem n_ptF_mts_sits : (("_mates" : Str) = "sits") = False := eq_false (by decide +kernel)
theorem n_ptF_mts_inr : (("_mates" : Str) = "inner") = False := eq_false (by decide +kernel)
theorem n_ptF_mts_por : (("_mates" : Str) = "porter") = False := eq_false (by decide +kernel)
theorem n_ptF_mts_srv : (("_mates" : Str) = "serves") = False := eq_false (by decide +kernel)
theorem n_ptF_mts_wts : (("_mates" : Str) = "_waits") = False := eq_false (by decide +kernel)
theorem n_ptF_wts_me : (("_waits" : Str) = "me") = False := eq_false (by decide +kernel)
theorem n_ptF_wts_stt : (("_waits" : Str) = "state") = False := eq_false (by decide +kernel)
theorem n_ptF_wts_sits : (("_waits" : Str) = "sits") = False := eq_false (by decide +kernel)
theorem n_ptF_wts_inr : (("_waits" : Str) = "inner") = False := eq_false (by decide +kernel)
theorem n_ptF_wts_por : (("_waits" : Str) = "porter") = False := eq_false (by decide +kernel)
theorem n_ptF_wts_srv : (("_waits" : Str) = "serves") = False := eq_false (by decide +kernel)
theorem n_ptF_wts_mts : (("_waits" : Str) = "_mates") = False := eq_false (by decide +kernel)
def ptF (me : Int) (stt : Str) (sits : Bool) (inr : Addr) (por : V) (srv : V) (mts : Addr) (wts : V) : List (Str × V) := [("me", .int me), ("state", .str stt), ("sits", .bl sits), ("inner", .ref inr), ("porter", por), ("serves", srv), ("_mates", .ref mts), ("_waits", wts)]
theorem ptF_me (me : Int) (stt : Str) (sits : Bool) (inr : Addr) (por : V) (srv : V) (mts : Addr) (wts : V) : (ptF me stt sits inr por srv mts wts).lookup ("me" : Str) = some (.int me) := by unfold ptF; rw [List.lookup_cons_self]
theorem ptF_put_me (me : Int) (stt : Str) (sits : Bool) (inr : Addr) (por : V) (srv : V) (mts : Addr) (wts : V) (me' : Int) : putF "me" (.int me') (ptF me stt sits inr por srv mts wts) = ptF me' stt sits inr por srv mts wts := by
  simp only [ptF, putF, if_false, if_true]
theorem ptF_stt (me : Int) (stt : Str) (sits : Bool) (inr : Addr) (por : V) (srv : V) (mts : Addr) (wts : V) : (ptF me stt sits inr por srv mts wts).lookup ("state" : Str) = some (.str stt) := by unfold ptF; rw [List.lookup_cons, beq_false_of_ne (fun z => by rw [n_ptF_stt_me] at z; exact z)]; simp only []; rw [List.lookup_cons_self]
theorem ptF_put_stt (me : Int) (stt : Str) (sits : Bool) (inr : Addr) (por : V) (srv : V) (mts : Addr) (wts : V) (stt' : Str) : putF "state" (.str stt') (ptF me stt sits inr por srv mts wts) = ptF me stt' sits inr por srv mts wts := by
  simp only [ptF, putF, n_ptF_me_stt, if_false, if_true]
theorem ptF_sits (me : Int) (stt : Str) (sits : Bool) (inr : Addr) (por : V) (srv : V) (mts : Addr) (wts : V) : (ptF me stt sits inr por srv mts wts).lookup ("sits" : Str) = some (.bl sits) := by unfold ptF; rw [List.lookup_cons, beq_false_of_ne (fun z => by rw [n_ptF_sits_me] at z; exact z)]; simp only []; rw [List.lookup_cons, beq_false_of_ne (fun z => by rw [n_ptF_sits_stt] at z; exact z)]; simp only []; rw [List.lookup_cons_self]
theorem ptF_put_sits (me : Int) (stt : Str) (sits : Bool) (inr : Addr) (por : V) (srv : V) (mts : Addr) (wts : V) (sits' : Bool) : putF "sits" (.bl sits') (ptF me stt sits inr por srv mts wts) = ptF me stt sits' inr por srv mts wts := by
  simp only [ptF, putF, n_ptF_me_sits, n_ptF_stt_sits, if_false, if_true]
theorem ptF_inr (me : Int) (stt : Str) (sits : Bool) (inr : Addr) (por : V) (srv : V) (mts : Addr) (wts : V) : (ptF me stt sits inr por srv mts wts).lookup ("inner" : Str) = some (.ref inr) := by unfold ptF; rw [List.lookup_cons, beq_false_of_ne (fun z => by rw [n_ptF_inr_me] at z; exact z)]; simp only []; rw [List.lookup_cons, beq_false_of_ne (fun z => by rw [n_ptF_inr_stt] at z; exact z)]; simp only []; rw [List.lookup_cons, beq_false_of_ne (fun z => by rw [n_ptF_inr_sits] at z; exact z)]; simp only []; rw [List.lookup_cons_self]
theorem ptF_put_inr (me : Int) (stt : Str) (sits : Bool) (inr : Addr) (por : V) (srv : V) (mts : Addr) (wts : V) (inr' : Addr) : putF "inner" (.ref inr') (ptF me stt sits inr por srv mts wts) = ptF me stt sits inr' por srv mts wts := by
  simp only [ptF, putF, n_ptF_me_inr, n_ptF_stt_inr, n_ptF_sits_inr, if_false, if_true]
theorem ptF_por (me : Int) (stt : Str) (sits : Bool) (inr : Addr) (por : V) (srv : V) (mts : Addr) (wts : V) : (ptF me stt sits inr por srv mts wts).lookup ("porter" : Str) = some (por) := by unfold ptF; rw [List.lookup_cons, beq_false_of_ne (fun z => by rw [n_ptF_por_me] at z; exact z)]; simp only []; rw [List.lookup_cons, beq_false_of_ne (fun z => by rw [n_ptF_por_stt] at z; exact z)]; simp only []; rw [List.lookup_cons, beq_false_of_ne (fun z => by rw [n_ptF_por_sits] at z; exact z)]; simp only []; rw [List.lookup_cons, beq_false_of_ne (fun z => by rw [n_ptF_por_inr] at z; exact z)]; simp only []; rw [List.lookup_cons_self]
theorem ptF_put_por (me : Int) (stt : Str) (sits : Bool) (inr : Addr) (por : V) (srv : V) (mts : Addr) (wts : V) (por' : V) : putF "porter" (por') (ptF me stt sits inr por srv mts wts) = ptF me stt sits inr por' srv mts wts := by
  simp only [ptF, putF, n_ptF_me_por, n_ptF_stt_por, n_ptF_sits_por, n_ptF_inr_por, if_false, if_true]
theorem ptF_srv (me : Int) (stt : Str) (sits : Bool) (inr : Addr) (por : V) (srv : V) (mts : Addr) (wts : V) : (ptF me stt sits inr por srv mts wts).lookup ("serves" : Str) = some (srv) := by unfold ptF; rw [List.lookup_cons, beq_false_of_ne (fun z => by rw [n_ptF_srv_me] at z; exact z)]; simp only []; rw [List.lookup_cons, beq_false_of_ne (fun z => by rw [n_ptF_srv_stt] at z; exact z)]; simp only []; rw [List.lookup_cons, beq_false_of_ne (fun z => by rw [n_ptF_srv_sits] at z; exact z)]; simp only []; rw [List.lookup_cons, beq_false_of_ne (fun z => by rw [n_ptF_srv_inr] at z; exact z)]; simp only []; rw [List.lookup_cons, beq_false_of_ne (fun z => by rw [n_ptF_srv_por] at z; exact z)]; simp only []; rw [List.lookup_cons_self]
theorem ptF_put_srv (me : Int) (stt : Str) (sits : Bool) (inr : Addr) (por : V) (srv : V) (mts : Addr) (wts : V) (srv' : V) : putF "serves" (srv') (ptF me stt sits inr por srv mts wts) = ptF me stt sits inr por srv' mts wts := by
  simp only [ptF, putF, n_ptF_me_srv, n_ptF_stt_srv, n_ptF_sits_srv, n_ptF_inr_srv, n_ptF_por_srv, if_false, if_true]
theorem ptF_mts (me : Int) (stt : Str) (sits : Bool) (inr : Addr) (por : V) (srv : V) (mts : Addr) (wts : V) : (ptF me stt sits inr por srv mts wts).lookup ("_mates" : Str) = some (.ref mts) := by unfold ptF; rw [List.lookup_cons, beq_false_of_ne (fun z => by rw [n_ptF_mts_me] at z; exact z)]; simp only []; rw [List.lookup_cons, beq_false_of_ne (fun z => by rw [n_ptF_mts_stt] at z; exact z)]; simp only []; rw [List.lookup_cons, beq_false_of_ne (fun z => by rw [n_ptF_mts_sits] at z; exact z)]; simp only []; rw [List.lookup_cons, beq_false_of_ne (fun z => by rw [n_ptF_mts_inr] at z; exact z)]; simp only []; rw [List.lookup_cons, beq_false_of_ne (fun z => by rw [n_ptF_mts_por] at z; exact z)]; simp only []; rw [List.lookup_cons, beq_false_of_ne (fun z => by rw [n_ptF_mts_srv] at z; exact z)]; simp only []; rw [List.lookup_cons_self]
theorem ptF_put_mts (me : Int) (stt : Str) (sits : Bool) (inr : Addr) (por : V) (srv : V) (mts : Addr) (wts : V) (mts' : Addr) : putF "_mates" (.ref mts') (ptF me stt sits inr por srv mts wts) = ptF me stt sits inr por srv mts' wts := by
  simp only [ptF, putF, n_ptF_me_mts, n_ptF_stt_mts, n_ptF_sits_mts, n_ptF_inr_mts, n_ptF_por_mts, n_ptF_srv_mts, if_false, if_true]
theorem ptF_wts (me : Int) (stt : Str) (sits : Bool) (inr : Addr) (por : V) (srv : V) (mts : Addr) (wts : V) : (ptF me stt sits inr por srv mts wts).lookup ("_waits" : Str) = some (wts) := by unfold ptF; rw [List.lookup_cons, beq_false_of_ne (fun z => by rw [n_ptF_wts_me] at z; exact z)]; simp only []; rw [List.lookup_cons, beq_false_of_ne (fun z => by rw [n_ptF_wts_stt] at z; exact z)]; simp only []; rw [List.lookup_cons, beq_false_of_ne (fun z => by rw [n_ptF_wts_sits] at z; exact z)]; simp only []; rw [List.lookup_cons, beq_false_of_ne (fun z => by rw [n_ptF_wts_inr] at z; exact z)]; simp only []; rw [List.lookup_cons, beq_false_of_ne (fun z => by rw [n_ptF_wts_por] at z; exact z)]; simp only []; rw [List.lookup_cons, beq_false_of_ne (fun z => by rw [n_ptF_wts_srv] at z; exact z)]; simp only []; rw [List.lookup_cons, beq_false_of_ne (fun z => by rw [n_ptF_wts_mts] at z; exact z)]; simp only []; rw [List.lookup_cons_self]
theorem ptF_put_wts (me : Int) (stt : Str) (sits : Bool) (inr : Addr) (por : V) (srv : V) (mts : Addr) (wts : V) (wts' : V) : putF "_waits" (wts') (ptF me stt sits inr por srv mts wts) = ptF me stt sits inr por srv mts wts' := by
  simp only [ptF, putF, n_ptF_me_wts, n_ptF_stt_wts, n_ptF_sits_wts, n_ptF_inr_wts, n_ptF_por_wts, n_ptF_srv_wts, n_ptF_mts_wts, if_false, if_true]
theorem ptF_no (me : Int) (stt : Str) (sits : Bool) (inr : Addr) (por : V) (srv : V) (mts : Addr) (wts : V) {x : Str} (h0 : x ≠ ("me" : Str)) (h1 : x ≠ ("state" : Str)) (h2 : x ≠ ("sits" : Str)) (h3 : x ≠ ("inner" : Str)) (h4 : x ≠ ("porter" : Str)) (h5 : x ≠ ("serves" : Str)) (h6 : x ≠ ("_mates" : Str)) (h7 : x ≠ ("_waits" : Str)) : (ptF me stt sits inr por srv mts wts).lookup x = none := by
  unfold ptF
  rw [List.lookup_cons, beq_false_of_ne h0]; simp only []
  rw [List.lookup_cons, beq_false_of_ne h1]; simp only []
  rw [List.lookup_cons, beq_false_of_ne h2]; simp only []
  rw [List.lookup_cons, beq_false_of_ne h3]; simp only []
  rw [List.lookup_cons, beq_false_of_ne h4]; simp only []
  rw [List.lookup_cons, beq_false_of_ne h5]; simp only []
  rw [List.lookup_cons, beq_false_of_ne h6]; simp only []
  rw [List.lookup_cons, beq_false_of_ne h7]; rfl
theorem ptF_made (me : Int) (stt : Str) (sits : Bool) (inr : Addr) (por : V) (srv : V) (mts : Addr) (wts : V) : putF "_waits" (wts) (putF "_mates" (.ref mts) (putF "serves" (srv) (putF "porter" (por) (putF "inner" (.ref inr) (putF "sits" (.bl sits) (putF "state" (.str stt) (putF "me" (.int me) ([] ))))))))= ptF me stt sits inr por srv mts wts := by
  simp only [putF, ptF, n_ptF_me_stt, n_ptF_me_sits, n_ptF_stt_sits, n_ptF_me_inr, n_ptF_stt_inr, n_ptF_sits_inr, n_ptF_me_por, n_ptF_stt_por, n_ptF_sits_por, n_ptF_inr_por, n_ptF_me_srv, n_ptF_stt_srv, n_ptF_sits_srv, n_ptF_inr_srv, n_ptF_por_srv, n_ptF_me_mts, n_ptF_stt_mts, n_ptF_sits_mts, n_ptF_inr_mts, n_ptF_por_mts, n_ptF_srv_mts, n_ptF_me_wts, n_ptF_stt_wts, n_ptF_sits_wts, n_ptF_inr_wts, n_ptF_por_wts, n_ptF_srv_wts, n_ptF_mts_wts, if_false, if_true]
end G0
/-! A def with the cell __class__: its first statement says super().__init__(..). -/
namespace G0
open PySem PySem.Spec PyProof.Rows L2 NdefX
abbrev nfS (name qual : Str) (params : Arguments) (body : List Stmt) (scope : Scope) (cc cda : Addr) : NF := ⟨name, qual, params, body, scope, [("__class__", cc)], cda⟩
/-- a statement whose code must be told -/
def P1 (X : Cx) (body : List Stmt) (st : Stmt) (t : TS) : Prop :=
  ∀ (pins : List (Addr × Obj)) (s : Shared) (σ : L2.St) (H : Hp) (D : Ends), Inv X pins σ H s → t D σ H →
    _root_.PySem.wpAt (model X.prog X.w) X.A (.func body X.env) (exec st X.env) (SP X pins D) X.xe s
theorem fnS_of {CX : CXT} {P : Program} {w : World} {K : PySem.W.Frag} {mg : Str → Option Value} {base : Heap} {k : Nat}
    {f cc cda : Addr} {name qual : Str} {params : Arguments} {st : Stmt} {body : List Stmt} {scope : Scope} {dV kV doc pm ct oc cl : Value} {v : Option Value}
    {an od cld : Option Addr} {osl csl : Array (Option Value)} {N ps : List Str} {sp : Sp}
    (lk : K.lookup f = some ⟨oc, od, .func (PySem.W.ksFn name qual params (st :: body) scope dV kV doc pm an (.ref cda) ct cc), osl⟩)
    (coded : PySem.W.codeIn K (.ref cda) qual = true) (lc : K.lookup cc = some ⟨cl, cld, .cell v, csl⟩) (S : NScope N ps ["__class__"] scope)
    (len : ∀ zs G R W, sp zs G R W → zs.length = ps.length)
    (inner : ∀ (A : Around) (outer : List Env) (s : Shared) (H : Hp) (vs : List V) (Q : VK) (E : XK),
      Room k (A.deeper (envF (nfS name qual params (st :: body) scope cc cda) f s.heap.objs.size)) → sp vs H Q E →
      ∃ t1 t2, P1 (ncx CX P w K mg base N (nfS name qual params (st :: body) scope cc cda) f A outer s H E) (st :: body) st t1 ∧
        PSs (ncx CX P w K mg base N (nfS name qual params (st :: body) scope cc cda) f A outer s H E) body t2 ∧
        t1 { nx := fun σ' H' => t2 { nx := fun _ H' => Q .non H', rt := Q } σ' H', rt := Q } (startF N vs [none]) H) :
    FnOk P w K mg base CX (k + 1) f (PySem.W.ksFn name qual params (st :: body) scope dV kV doc pm an (.ref cda) ct cc) ps sp := by
  refine ⟨len, fun A outer s H given us vs Q E hr e0 bd r hsp => ?_⟩
  have hl := len _ _ _ _ hsp
  have KX : K.In s.heap := e0.mod.kin.keeps fun b o z => (e0.bs b o z).1
  have lim : s.heap.NoLimit := e0.mod.nolimit.keeps fun b o e => (e0.bs b o e).1
  have CA : CellsAt [("__class__", cc)] ["__class__"] [none] s.heap H := {
    len := rfl
    all := fun y c e => by
      have : c = cc := by
        simp only [List.lookup] at e
        split at e
        · exact (Option.some.inj e).symm
        · cases e
      subst this
      exact ⟨(e0.bs _ _ (e0.mod.kin _ _ lc)).2, v, ⟨_, KX _ _ lc, rfl⟩⟩
    inj := fun x y c h1 h2 => by
      have q : ∀ z c', List.lookup z [(("__class__" : Str), cc)] = some c' → z = "__class__" := fun z c' e => by
        simp only [List.lookup] at e
        split at e
        · rename_i h
          exact beq_iff_eq.mp h
        · cases e
      rw [q _ _ h1, q _ _ h2]
    has := fun i y e => by
      match i, e with
      | 0, e =>
        cases e
        exact ⟨cc, rfl, fun v h => by cases h⟩
      | i + 1, e => cases e }
  refine codeAny_call_function hr.depth (KX _ _ lk) rfl S.co S.gen rfl (PySem.W.codeRec_of KX coded) (bd _ _ _ _ ?_)
  refine wpAny_newFunctionEnv S.nocell (fun ⟨n, _⟩ hy => S.par n (List.of_mem_zip hy).1) (fun h₁ hns hsb => ⟨lim.fresh _ hsb, ?_⟩) S.kind
  show codeAny _ _ (.func (st :: body) (envF (nfS name qual params (st :: body) scope cc cda) f s.heap.objs.size)) _ _
  refine PySem.ks_codeAny_funcAt ?_
  have kp : ∀ b o, s.heap.get? b = some o → h₁.get? b = some o := fun b o e => hsb.extBut b o (Nat.ne_of_lt (Heap.lt_size e)) (Heap.get?_push_of_some _ e)
  obtain ⟨t1, t2, h1, h2, hq⟩ := inner A outer s H vs Q E (hr.deeper _) hsp
  have I : Inv (ncx CX P w K mg base N (nfS name qual params (st :: body) scope cc cda) f A outer s H E) [] (startF N vs [none]) H { s with heap := h₁, toks := s.toks + (ps.zip us).length } := inv_startN S hr.hd e0 hl r CA hns kp
  have fin : ∀ {σ' : L2.St} {H' : Hp} {v : V} {u : Value} {s' : Shared}, Inv (ncx CX P w K mg base N (nfS name qual params (st :: body) scope cc cda) f A outer s H E) [] σ' H' s' → L2.RelV v u → Q v H' → CE outer P w H s Q u s' :=
    fun {σ' H' v u s'} J rv q => ⟨v, H', J.os, J.bare, J.base, J.hok, rv, q⟩
  refine PySem.ks_wpAt_execs_cons (PySem.ks_wpAt_mono (h1 [] _ (startF N vs [none]) H _ I hq) (fun fl s' hs => ?_) fun e s' hs => hs)
  match fl, hs with
  | .ret u, ⟨v, σ', H', J, rv, q⟩ => exact fin J rv q
  | .brk, ⟨_, _, _, q⟩ => exact False.elim q
  | .cont, ⟨_, _, _, q⟩ => exact False.elim q
  | .next, ⟨σ', H', J, q⟩ =>
    refine _root_.PySem.wpAt_of_wpAny (wpAny_mono (h2.run [] _ σ' H' _ J q) (fun fl s' hs => ?_) fun e s' hs => hs)
    match fl, hs with
    | .ret u, ⟨v, σ', H', J, rv, q⟩ => exact fin J rv q
    | .next, ⟨σ', H', J, q⟩ => exact fin (v := V.non) (u := Value.none) J rfl q
    | .brk, ⟨_, _, _, q⟩ => exact False.elim q
    | .cont, ⟨_, _, _, q⟩ => exact False.elim q
end G0
namespace G0
open PySem PySem.Spec PyProof.Rows L2 NdefX
/-- what super() without arguments asks of the text and the written part -/
structure SupF (P : Program) (K : PySem.W.Frag) (N : List Str) (f cc cda D : Addr) (fd : FuncData) (params : Arguments) (scope : Scope) : Prop where
  fun_ : ∃ oc od osl, K.lookup f = some ⟨oc, od, .func fd, osl⟩ ∧ fd.params = params
  arg : ∃ ar : Arg, (params.posonlyargs ++ params.args).head? = some ar ∧ N[0]? = some ar.arg ∧ scope.names.lookup ar.arg = some .local
  code : ∃ ccl cdd vs ccs file tf, K.lookup cda = some ⟨ccl, cdd, .fields vs, ccs⟩ ∧ vs[2]? = some (.str file tf) ∧ ((P.main.file : Str) == file) = true
  cell : ∃ cl cld csl, K.lookup cc = some ⟨cl, cld, .cell (some (.ref D)), csl⟩
  cls : ∃ cdD, PySem.W.clsIn K D = some cdD
  miss : PySem.W.nsIn K mainGlobals "super" = some none
  sup : scope.names.lookup ("super" : Str) = some .globalImplicit
  own : scope.names.lookup ("__class__" : Str) = some .free
  kind : scope.kind = .function
  top : (P.main.scope.names.lookup ("super" : Str)).isSome = false
  any_ : PySem.W.nsIn K cStatics "thirdparty.any" = some none
/-- super() is made: an object of its own, held by a pin -/
theorem sup_node {CX : CXT} {P : Program} {w : World} {K : PySem.W.Frag} {mg : Str → Option Value} {base : Heap} {N : List Str}
    {f cc cda D a C : Addr} {name qual : Str} {params : Arguments} {st : List Stmt} {scope : Scope} {fd : FuncData}
    {A : Around} {outer : List Env} {s0 : Shared} {H0 : Hp} {E : XK} {pins : List (Addr × Obj)} {s : Shared} {σ : L2.St} {H : Hp} {p0 p1 : Pos} {attr : Str} {whole : Sem Value} {Q : Value → Shared → Prop} {EE : Value → Shared → Prop} {ox : Obj} {odx : Option Obj}
    (F : SupF P K N f cc cda D fd params scope)
    (I : Inv (ncx CX P w K mg base N (nfS name qual params st scope cc cda) f A outer s0 H0 E) pins σ H s) (hs : σ[0]? = some (some (.ref a)))
    (J : PySem.W.InstAt s.heap a ox C odx) (hsub : PySem.W.mroIn K C (.ref D) = some true) (hat : (attr == ("__class__" : Str)) = false)
    (h : ∀ h', (∀ b o, s.heap.get? b = some o → h'.get? b = some o) → h'.get? s.heap.objs.size = some (PySem.W.ks_superObj D a C) → Q (.ref s.heap.objs.size) { s with heap := h' }) :
    _root_.PySem.wpAt (model P w) (A.deeper (envF (nfS name qual params st scope cc cda) f s0.heap.objs.size)) (.func st (envF (nfS name qual params st scope cc cda) f s0.heap.objs.size))
      (attributeBase (.Call (.Name "super" p0) [] [] p1) attr (envF (nfS name qual params st scope cc cda) f s0.heap.objs.size) whole) Q EE s := by
  obtain ⟨oc, od, osl, hf, hpar⟩ := F.fun_
  obtain ⟨ar, hp, hN, hka⟩ := F.arg
  obtain ⟨ccl, cdd, vs, ccs, file, tf, hcode, hvs, hfile⟩ := F.code
  obtain ⟨cl, cld, csl, hcell⟩ := F.cell
  obtain ⟨cdD, hD⟩ := F.cls
  have X : K.In s.heap := I.kIn
  have M : Mod K mg base := I.mod
  obtain ⟨mb, hb, hboot⟩ := M.blt
  obtain ⟨m, hns, hlook⟩ := I.loc
  obtain ⟨u, ru, look⟩ := hlook 0 ar.arg (.ref a) hN hs (.inl hka)
  have ru : u = Value.ref a := ru
  subst ru
  have hv : m ar.arg = some (.ref a) := by
    rcases look with ⟨_, e⟩ | ⟨e, _⟩
    · exact e
    · exfalso
      have e : scope.names.lookup ar.arg = some .cell ∨ scope.names.lookup ar.arg = some .free := e
      rw [hka] at e
      rcases e with e | e <;> cases e
  have kb : ∀ b o, base.get? b = some o → s.heap.get? b = some o := I.bk
  obtain ⟨hh, g, d, t, os⟩ := s
  obtain ⟨oD, hD1, hD2⟩ : ∃ oD, hh.get? D = some oD ∧ oD.data = .cls cdD := by
    unfold PySem.W.clsIn at hD
    split at hD
    · rename_i c d cd' sl ho
      cases hD
      exact ⟨_, X _ _ ho, rfl⟩
    · cases hD
  subst hpar
  refine PySem.ks_wpAt_super_base F.sup F.own hat rfl (X _ _ hf) rfl hp rfl (X _ _ hcode) rfl hvs hfile F.top ?_
  refine PySem.W.ks_loadName_global F.kind F.sup (PySem.Calls.loadGlobal_builtin (M.glob.keeps kb) (PySem.W.mg_none_of M.kin M.glob F.miss) (hb.keeps kb) ((hboot _ (by decide +kernel)).trans (show bootBuiltins "super" = some (.type "super") by first | rfl | decide +kernel)) ⟨rfl, ?_⟩)
  refine wpAny_loadName_free F.kind F.own rfl ⟨_, X _ _ hcell, rfl⟩ ?_
  refine wpAny_loadName_local F.kind hka hns hv ?_
  refine PySem.ks_wpAny_isType_cls hD1 hD2 ⟨rfl, ?_⟩
  refine PySem.ks_wpAny_call_super hD1 hD2 J.at_ J.cls (fun c e => ?_) (PySem.W.looks_mroIn X hsub) (fun h' e k => h h' k e)
  have := J.no
  unfold PySem.W.notCls at this
  rw [e] at this
  exact Bool.noConfusion this
end G0
namespace G0
open PySem PySem.Spec PyProof.Rows L2 NdefX
section
variable {prog : Program} {w : World} {A : Around} {E : Value → Shared → Prop} {h : Heap} {g : Array GenState} {d : Drawn} {t : Nat} {os : OsState}
/-- a bound ValueError.__init__ is called: the exception's arguments are laid anew -/
theorem mw_code {nm q : Str} {C N : Addr} {bs bm : List Value} {hdct : Bool} {sn : List Str} {sub : List Value} {ab : Bool} {col : Option Bool} {dd : Option Addr} {k0 k1 k2 k3 k5 : Option Value} {u e t0 : Addr} {rest : List Value} {Q : Value → Shared → Prop}
    (hC : h.get? C = some (excClassObj nm q C N bs bm hdct sn sub ab col dd k0 k1 k2 k3 k5 "ValueError.__new__")) (he : h.get? e = some (PySem.HandSPX.excO C t0)) (hu : h.get? u = some (PySem.W.kxs_mw "ValueError.__init__" e)) (few : rest.length ≤ sizeLine)
    (k : ∀ h' t1, (∀ b o, b ≠ e → h.get? b = some o → h'.get? b = some o) → h'.get? e = some (PySem.HandSPX.excO C t1) → Q .none ⟨h', g, d, t, os⟩) :
    wpAny (model prog w) A (call (.ref u) rest) Q E ⟨h, g, d, t, os⟩ := by
  refine wpAny_call (codeAny_of_tree ?_)
  show wpAny _ A.in1 (callAny (.ref u) ⟨rest, []⟩) _ _ _
  simp only [callAny]
  refine wpAny_bind (wpAny_load hu ?_)
  simp only [PySem.W.kxs_mw, show (Value.type "method-wrapper" == Value.type "method" || Value.type "method-wrapper" == Value.type "builtin_function_or_method" || Value.type "method-wrapper" == Value.type "method-wrapper") = true by decide, if_true]
  refine PySem.W.KFB.if_so (by decide) ?_
  refine wpAny_bind (PySem.ESX.check_bound PySem.F.excBase_ValueError hC he rfl ?_)
  refine wpAny_bind (wpAny_pure (wpAny_pure ?_))
  refine ⟨Code.quiet_builtin _ (by decide +kernel), codeAny_builtin PySem.F.excBase_ValueError.initEntry ?_⟩
  rw [Around.under_plainId PySem.F.excBase_ValueError.init.plain _]
  wp_walk
  refine k _ h.objs.size (fun b o hb ho => ?_) ?_
  · rw [Heap.get?_update_other _ _ (Ne.symm hb)]
    exact Heap.get?_push_of_some _ ho
  · rw [Heap.get?_update_self _ (Heap.get?_push_of_some _ he) rfl]
    rfl
end
section
variable {X : Cx} {pins : List (Addr × Obj)} {σ : L2.St} {H : Hp} {s : Shared} {a C u : Addr} {us : List Value} {Q : Value → Shared → Prop} {E : Value → Shared → Prop} {A : Around}
theorem mw_ok (T : OexC X.K C) (I : Inv X pins σ H s) (e : H a = some (exo a C none)) (hu : s.heap.get? u = some (PySem.W.kxs_mw "ValueError.__init__" a)) (hl : us.length ≤ sizeLine) (k : ∀ s', Inv X pins σ H s' → Q .none s') :
    wpAny (model X.prog X.w) A (call (.ref u) us) Q E s := by
  obtain ⟨nm, q, N, bs, bm, sn, sub, ab, col, dd, k0, k1, k2, k3, k5, hC, hbm⟩ := T.cls
  obtain ⟨t1, ho⟩ := exo_at I.hok e
  obtain ⟨hp, g, d, t, os⟩ := s
  refine mw_code (I.kIn _ _ hC) ho hu hl fun h' t2 keep hx => ?_
  have J := I.write (t' := t) (x := a) (e := a) (o := exo a C none) (by rw [e]; exact True.intro) (.inl rfl) keep ⟨_, hx⟩ (exo_ok hx)
  have eu : upd H a (exo a C none) = H := by
    funext b
    by_cases hb : b = a
    · rw [hb, upd_same, e]
    · rw [upd_ne hb]
  rw [eu] at J
  exact k _ J
end
end G0
namespace G0
open PySem PySem.Spec PyProof.Rows L2 NdefX
/-- super().__init__(..) of an own exception -/
def tSupX (K : PySem.W.Frag) (D : Addr) (ta : TA) : TS := fun Dn σ H => ∃ a C : Addr, σ[0]? = some (some (.ref a)) ∧ OexC K C ∧ H a = some (exo a C none) ∧ PySem.W.mroIn K C (.ref D) = some true ∧
  PySem.W.ks_superIn K C D "__init__" = some (some (.builtin "ValueError.__init__")) ∧ PySem.W.subIn K (.ref C) (.type "ValueError") = some true ∧
  ta σ H fun vs H1 => vs.length ≤ 1000 ∧ H1 a = some (exo a C none) ∧ Dn.nx σ H1
theorem p1_supX {CX : CXT} {P : Program} {w : World} {K : PySem.W.Frag} {mg : Str → Option Value} {base : Heap} {N : List Str}
    {f cc cda D : Addr} {name qual : Str} {params : Arguments} {st : List Stmt} {scope : Scope} {fd : FuncData}
    {A : Around} {outer : List Env} {s0 : Shared} {H0 : Hp} {E : XK} {p0 p1 ap pos pos' : Pos} {e : Expr} {es : List Expr} {ta : TA} {pl : Sem Bool}
    (F : SupF P K N f cc cda D fd params scope) (ha : PA (ncx CX P w K mg base N (nfS name qual params st scope cc cda) f A outer s0 H0 E) (e :: es) ta)
    (he : starEach (e :: es) (envF (nfS name qual params st scope cc cda) f s0.heap.objs.size) = (false, eval e (envF (nfS name qual params st scope cc cda) f s0.heap.objs.size)) :: starEach es (envF (nfS name qual params st scope cc cda) f s0.heap.objs.size) := by rfl)
    (hpl : (backTo pos (starEach es (envF (nfS name qual params st scope cc cda) f s0.heap.objs.size))).any (·.1) = false := by rfl)
    (hsw : swapsWith (.Call (.Attribute (.Call (.Name "super" p0) [] [] p1) "__init__" ap) (e :: es) [] pos) none pos'.line (envF (nfS name qual params st scope cc cda) f s0.heap.objs.size) = pure false := by rfl)
    (hev : eval (.Call (.Attribute (.Call (.Name "super" p0) [] [] p1) "__init__" ap) (e :: es) [] pos) (envF (nfS name qual params st scope cc cda) f s0.heap.objs.size) = (do
      let ov ← attributeBase (.Call (.Name "super" p0) [] [] p1) "__init__" (envF (nfS name qual params st scope cc cda) f s0.heap.objs.size) (eval (.Call (.Name "super" p0) [] [] p1) (envF (nfS name qual params st scope cc cda) f s0.heap.objs.size))
      standAt ap.atName
      let (f', first) ← holding [ov] (getMethod ov "__init__" pl)
      callWith pos f' first (backTo pos (starEach (e :: es) (envF (nfS name qual params st scope cc cda) f s0.heap.objs.size))) []) := by rfl) :
    P1 (ncx CX P w K mg base N (nfS name qual params st scope cc cda) f A outer s0 H0 E) st (.Expr (.Call (.Attribute (.Call (.Name "super" p0) [] [] p1) "__init__" ap) (e :: es) [] pos) pos') (tSupX K D ta) := by
  rintro pins s σ H Dn I ⟨a, C, hs, T, ea, hm, hsu, hve, q⟩
  obtain ⟨t0, ho⟩ := exo_at I.hok ea
  have J : PySem.W.InstAt s.heap a _ C none := ⟨ho, rfl, rfl, trivial⟩
  have fresh := I.hok.fresh (Nat.le_refl s.heap.objs.size)
  refine PySem.ks_wpAt_Expr_any (PySem.ks_wpAt_MethodCall (sup_node F I hs J hm (by decide) fun h' k e1 => ?_) hev) I.quiet hsw
  obtain ⟨hh, g, d, t, os⟩ := s
  have I1 : Inv (ncx CX P w K mg base N (nfS name qual params st scope cc cda) f A outer s0 H0 E) pins σ H ⟨h', g, d, t, os⟩ := I.kept (t' := t) k
  have X1 : K.In h' := I1.kIn
  obtain ⟨t1, ho1⟩ := exo_at I1.hok ea
  have J1 : PySem.W.InstAt h' a _ C none := ⟨ho1, rfl, rfl, trivial⟩
  have hI : PySem.W.Looks (model P w) h' (isInstance (.ref a) (.type "ValueError")) true := J1.type.andThen (PySem.W.looks_subIn X1 hve)
  cases hc : PySem.W.clsIn K C with
  | none => unfold PySem.W.ks_superIn at hsu; rw [hc] at hsu; cases hsu
  | some cd =>
    unfold PySem.W.ks_superIn at hsu
    rw [hc] at hsu
    refine PySem.W.kxs_getMethod PySem.W.kxs_ValueError e1 (PySem.W.looks_opaque X1 F.any_) (l₀ := cd.mro) (fun A Q E s k q => wpAny_bind ((PySem.W.looks_clsIn X1 hc) A _ E s k (wpAny_pure q))) rfl X1 hsu hI (PySem.W.ks_ne X1 J1 hc) (by decide) ?_
    have k2 : ∀ b o, h'.get? b = some o → (h'.push (PySem.W.kxs_mw "ValueError.__init__" a)).get? b = some o := fun b o e => Heap.get?_push_of_some _ e
    have I2 : Inv (ncx CX P w K mg base N (nfS name qual params st scope cc cda) f A outer s0 H0 E) pins σ H ⟨h'.push (PySem.W.kxs_mw "ValueError.__init__" a), g, d, t + 1, os⟩ := I1.kept (t' := t + 1) k2
    have pin : ∀ p ∈ pins ++ [(h'.objs.size, PySem.W.kxs_mw "ValueError.__init__" a)], (h'.push (PySem.W.kxs_mw "ValueError.__init__" a)).get? p.1 = some p.2 ∧ H p.1 = none ∧
        p.1 ≠ (envF (nfS name qual params st scope cc cda) f s0.heap.objs.size).locals ∧ p.1 ∉ frs outer ∧ ∀ v, p.2.data ≠ .cell v := by
      intro p hp
      rcases List.mem_append.mp hp with hp | hp
      · exact I2.pin p (List.mem_append_right _ hp)
      · rw [List.mem_singleton.mp hp]
        exact ⟨Heap.get?_push_at rfl rfl, I1.hok.fresh (Nat.le_refl _), fun z => absurd (Nat.lt_of_le_of_lt (Nat.le_of_eq z) I1.lt) (Nat.lt_irrefl _), I1.nofs (Nat.le_refl _), fun v z => by cases z⟩
    have I3 := I2.pins_of pin
    refine PySem.W.kxs_callWith1 (h₀ := base) (L := (envF (nfS name qual params st scope cc cda) f s0.heap.objs.size).locals) (news := [(h'.objs.size, PySem.W.kxs_mw "ValueError.__init__" a)]) (i := "ValueError.__init__") (x := a) ?_ (List.mem_singleton.mpr rfl) ?_ he hpl
    · intro p hp
      have hp := List.mem_singleton.mp hp
      subst hp
      refine ⟨Heap.get?_push_at rfl rfl, fun z => absurd (Nat.lt_of_le_of_lt (Nat.le_of_eq z) I1.lt) (Nat.lt_irrefl _), ?_⟩
      cases z : base.get? h'.objs.size with
      | none => rfl
      | some o => exact absurd (Heap.lt_size (I1.bk _ _ z)) (Nat.lt_irrefl _)
    · refine wpAny_mono (ha.run pos _ _ σ H _ I3 q) (fun us s3 got => ?_) fun e s' h => h
      obtain ⟨vs, H3, I4, r, vl, ea3, qn⟩ := got
      have hu := (I4.pin (h'.objs.size, PySem.W.kxs_mw "ValueError.__init__" a) (List.mem_append_right _ (List.mem_append_right _ (List.mem_singleton.mpr rfl)))).1
      refine ⟨hu, mw_ok T I4 ea3 hu (by rw [← r.length, sizeLine_eq]; omega) fun s' I5 => ?_⟩
      exact ⟨σ, H3, I5.unpinned, qn⟩
end G0
namespace G0
open PySem PySem.Spec PyProof.Rows L2 NdefX
/-- __init__ of an own exception: super().__init__('..'), then self.f = y -/
def spXI (C : Addr) (fld : Str) : Sp := fun vs H Q _ => ∃ (a : Addr) (y : V), vs = [.ref a, y] ∧ H a = some (exo a C none) ∧ ∀ dx, H dx = none → dx ≠ a → Q .non (upd (upd H dx (exd dx [(fld, y)])) a (exo a C (some dx)))
/-- what an own exception class asks -/
structure XcK (K : PySem.W.Frag) (C : Addr) (fld : Str) : Prop where
  T : OexC K C
  mro : PySem.W.mroIn K C (.ref C) = some true
  sup : PySem.W.ks_superIn K C C "__init__" = some (some (.builtin "ValueError.__init__"))
  ve : PySem.W.subIn K (.ref C) (.type "ValueError") = some true
  no : PySem.W.findIn K (.ref C) fld = some none
theorem ok_xinit {CX : CXT} {P : Program} {w : World} {K : PySem.W.Frag} {mg : Str → Option Value} {base : Heap}
    {f cc cda C : Addr} {name qual y fld m : Str} {params : Arguments} {scope : Scope} {dV kV doc pm ct oc cl : Value} {v : Option Value}
    {an od cld : Option Addr} {osl csl : Array (Option Value)} {p0 p1 ap mp pos pos' q0 q1 q2 q3 : Pos} {j : Nat}
    (lk : K.lookup f = some ⟨oc, od, .func (PySem.W.ksFn name qual params [.Expr (.Call (.Attribute (.Call (.Name "super" p0) [] [] p1) "__init__" ap) [.Constant (.str m) j mp] [] pos) pos',
      .Assign [.Attribute (.Name "self" q0) fld q1] (.Name y q2) q3] scope dV kV doc pm an (.ref cda) ct cc), osl⟩)
    (coded : PySem.W.codeIn K (.ref cda) qual = true) (lc : K.lookup cc = some ⟨cl, cld, .cell v, csl⟩)
    (S : NScope ["self", y, "__class__"] ["self", y] ["__class__"] scope) (X : XcK K C fld) (hy1 : (y == ("__debug__" : Str)) = false) (hy2 : (y == ("__classdict__" : Str)) = false)
    (hev : ∀ env : Env, ∃ pl : Sem Bool, eval (.Call (.Attribute (.Call (.Name "super" p0) [] [] p1) "__init__" ap) [.Constant (.str m) j mp] [] pos) env = (do
      let ov ← attributeBase (.Call (.Name "super" p0) [] [] p1) "__init__" env (eval (.Call (.Name "super" p0) [] [] p1) env)
      standAt ap.atName
      let (f', first) ← holding [ov] (getMethod ov "__init__" pl)
      callWith pos f' first (backTo pos (starEach [.Constant (.str m) j mp] env)) []))
    (hsw : ∀ env : Env, swapsWith (.Call (.Attribute (.Call (.Name "super" p0) [] [] p1) "__init__" ap) [.Constant (.str m) j mp] [] pos) none pos'.line env = pure false) (hs2 : ∀ env : Env, swapsWith (.Name y q2) (some (.Attribute (.Name "self" q0) fld q1)) q3.line env = pure false)
    (F : SupF P K ["self", y, "__class__"] f cc cda C (PySem.W.ksFn name qual params [.Expr (.Call (.Attribute (.Call (.Name "super" p0) [] [] p1) "__init__" ap) [.Constant (.str m) j mp] [] pos) pos',
      .Assign [.Attribute (.Name "self" q0) fld q1] (.Name y q2) q3] scope dV kV doc pm an (.ref cda) ct cc) params scope) :
    FnOk P w K mg base CX (0 + 1) f (PySem.W.ksFn name qual params [.Expr (.Call (.Attribute (.Call (.Name "super" p0) [] [] p1) "__init__" ap) [.Constant (.str m) j mp] [] pos) pos',
      .Assign [.Attribute (.Name "self" q0) fld q1] (.Name y q2) q3] scope dV kV doc pm an (.ref cda) ct cc) ["self", y] (spXI C fld) := by
  refine fnS_of lk coded lc S ?_ fun A outer s H vs Q E hr h => ?_
  · rintro vs H Q E ⟨a, z, rfl, _⟩
    rfl
  · obtain ⟨a, z, rfl, ea, q⟩ := h
    obtain ⟨pl, hpl⟩ := hev (envF (nfS name qual params [.Expr (.Call (.Attribute (.Call (.Name "super" p0) [] [] p1) "__init__" ap) [.Constant (.str m) j mp] [] pos) pos', .Assign [.Attribute (.Name "self" q0) fld q1] (.Name y q2) q3] scope cc cda) f s.heap.objs.size)
    refine ⟨_, _, p1_supX F (pa_cons pe_str pa_nil) (hsw := hsw _) (hev := hpl), pss_one (ps_ost (pv 0 (by rfl) (.inl (S.par _ (by simp)))) (pv 1 (by rfl) (.inl (S.par _ (by simp))) hy1 hy2) (hs2 _)), ?_⟩
    refine ⟨a, C, rfl, X.T, ea, X.mro, X.sup, X.ve, by show 1 ≤ 1000; decide, ea, ?_⟩
    exact ⟨_, rfl, _, rfl, a, C, rfl, X.T, X.no, .inl ⟨ea, fun dx h1 h2 => q dx h1 h2⟩⟩
end G0
namespace G0
open PySem PySem.Spec PyProof.Rows L2 NdefX
/-- raise X(e) -/
theorem ps_raiseX {X : Cx} {W : WX} {x y fld : Str} {C fI : Addr} {fd : FuncData} {p pos pos' : Pos} {e : Expr} {te : TE} (T : OexC X.K C) (iC : PySem.W.findIn X.K (.ref C) "__init__" = some (some (.ref fI)))
    (tI : PySem.W.typeIn X.K (.ref fI) = some (.type "function")) (F1 : FnOk X.prog X.w X.K X.mg X.base CX0 1 fI fd ["self", y] (spXI C fld)) (hb : Binds X.K fd ["self", y] []) (hr : Room 2 X.A)
    (hg : Gl X x) (hm : X.mg x = some (.ref C)) (hc : X.calm = true) (tk : Takes X W) (ha : PE X e te) (hdb : (x == ("__debug__" : Str)) = false := by decide)
    (he : starEach [e] X.env = (false, eval e X.env) :: starEach [] X.env := by rfl) (hpl : (backTo pos (starEach [] X.env)).any (·.1) = false := by rfl) :
    PS X (.Raise (some (.Call (.Name x p) [e] [] pos)) none pos') (fun _ σ H => tMkO C (spXI C fld) [] (tCons te tNil) σ H fun cls d H' => W cls d σ H') :=
  ps_raise hc tk (pmk_oex T iC tI F1 hr hb .nil pass0 hg hm (pa_cons (hs := he) ha pa_nil) hdb he hpl)
theorem xc_done {C : Addr} {fld : Str} {y : V} {H1 : Hp} {R : XK} (h : ∀ d, H1 d = none → R (.ref C) (some d) (upd H1 d (.xd [(fld, y)]))) :
    [y].length ≤ 1000 ∧ ∀ a, H1 a = none → spXI C fld (.ref a :: ([y] ++ [])) (upd H1 a (exo a C none))
      (fun v H2 => v = .non ∧ ∃ (d : Addr) (fs : List (Str × V)), H2 a = some (exo a C (some d)) ∧ H2 d = some (exd d fs) ∧ H1 d = none ∧ R (.ref C) (some d) (upd (del H2 a) d (.xd fs))) (fun _ _ _ => False) := by
  refine ⟨by show 1 ≤ 1000; decide, fun a ha => ⟨a, y, rfl, upd_same, fun dx h1 h2 => ?_⟩⟩
  have hd : H1 dx = none := by rw [upd_ne h2] at h1; exact h1
  refine ⟨rfl, dx, [(fld, y)], upd_same, by rw [upd_ne h2, upd_same], hd, ?_⟩
  have e : upd (del (upd (upd (upd H1 a (exo a C none)) dx (exd dx [(fld, y)])) a (exo a C (some dx))) a) dx (.xd [(fld, y)]) = upd H1 dx (.xd [(fld, y)]) := by
    funext b
    by_cases c : b = dx
    · subst c; rw [upd_same, upd_same]
    · rw [upd_ne c, upd_ne c]
      by_cases c2 : b = a
      · subst c2; rw [del_same, ha]
      · rw [del_ne c2, upd_ne c2, upd_ne c, upd_ne c2]
  rw [e]
  exact h dx hd
end G0
namespace G0
open PySem PySem.Spec PyProof.Rows L2 NdefX ClX
/-- super().__init__(..) of an instance of an own class, D's base giving a def -/
def tSupM (K : PySem.W.Frag) (D f2 : Addr) (sp : Sp) (ta : TA) : TS := fun Dn σ H => ∃ (a C dx : Addr) (fs : List (Str × V)), σ[0]? = some (some (.ref a)) ∧ H a = some (.ins C dx fs) ∧ PySem.W.mroIn K C (.ref D) = some true ∧
  PySem.W.ks_superIn K C D "__init__" = some (some (.ref f2)) ∧ PySem.W.typeIn K (.ref f2) = some (.type "function") ∧ PySem.W.fnIn K f2 = true ∧
  ta σ H fun vs H1 => sp (.ref a :: vs) H1 (fun _ H2 => Dn.nx σ H2) (fun _ _ _ => False)
theorem p1_supM {CX : CXT} {P : Program} {w : World} {K : PySem.W.Frag} {mg : Str → Option Value} {base : Heap} {N : List Str} {k2 : Nat} {sp : Sp}
    {f cc cda D f2 : Addr} {name qual : Str} {params : Arguments} {st : List Stmt} {scope : Scope} {fd : FuncData}
    {A : Around} {outer : List Env} {s0 : Shared} {H0 : Hp} {E : XK} {p0 p1 ap pos pos' : Pos} {e : Expr} {es : List Expr} {ta : TA} {pl : Sem Bool}
    (F : SupF P K N f cc cda D fd params scope) (F2 : FnR P w K mg base CX0 k2 f2 sp) (hr : Room k2 (A.deeper (envF (nfS name qual params st scope cc cda) f s0.heap.objs.size)))
    (ha : PA (ncx CX P w K mg base N (nfS name qual params st scope cc cda) f A outer s0 H0 E) (e :: es) ta)
    (he : starEach (e :: es) (envF (nfS name qual params st scope cc cda) f s0.heap.objs.size) = (false, eval e (envF (nfS name qual params st scope cc cda) f s0.heap.objs.size)) :: starEach es (envF (nfS name qual params st scope cc cda) f s0.heap.objs.size) := by rfl)
    (hpl : (backTo pos (starEach es (envF (nfS name qual params st scope cc cda) f s0.heap.objs.size))).any (·.1) = false := by rfl)
    (hsw : swapsWith (.Call (.Attribute (.Call (.Name "super" p0) [] [] p1) "__init__" ap) (e :: es) [] pos) none pos'.line (envF (nfS name qual params st scope cc cda) f s0.heap.objs.size) = pure false := by rfl)
    (hev : eval (.Call (.Attribute (.Call (.Name "super" p0) [] [] p1) "__init__" ap) (e :: es) [] pos) (envF (nfS name qual params st scope cc cda) f s0.heap.objs.size) = (do
      let ov ← attributeBase (.Call (.Name "super" p0) [] [] p1) "__init__" (envF (nfS name qual params st scope cc cda) f s0.heap.objs.size) (eval (.Call (.Name "super" p0) [] [] p1) (envF (nfS name qual params st scope cc cda) f s0.heap.objs.size))
      standAt ap.atName
      let (f', first) ← holding [ov] (getMethod ov "__init__" pl)
      callWith pos f' first (backTo pos (starEach (e :: es) (envF (nfS name qual params st scope cc cda) f s0.heap.objs.size))) []) := by rfl) :
    P1 (ncx CX P w K mg base N (nfS name qual params st scope cc cda) f A outer s0 H0 E) st (.Expr (.Call (.Attribute (.Call (.Name "super" p0) [] [] p1) "__init__" ap) (e :: es) [] pos) pos') (tSupM K D f2 sp ta) := by
  rintro pins s σ H Dn I ⟨a, C, dx, fs, hs, ea, hm, hsu, hty, hfn, q⟩
  obtain ⟨mA, OM, _⟩ := ins_get I.hok ea
  obtain ⟨od, J, _⟩ := OM.look
  refine PySem.ks_wpAt_Expr_any (PySem.ks_wpAt_MethodCall (sup_node F I hs J hm (by decide) fun h' k e1 => ?_) hev) I.quiet hsw
  obtain ⟨hh, g, d, t, os⟩ := s
  have I1 : Inv (ncx CX P w K mg base N (nfS name qual params st scope cc cda) f A outer s0 H0 E) pins σ H ⟨h', g, d, t, os⟩ := I.kept (t' := t) k
  have X1 : K.In h' := I1.kIn
  obtain ⟨mA1, OM1, _⟩ := ins_get I1.hok ea
  obtain ⟨od1, J1, _⟩ := OM1.look
  cases hc : PySem.W.clsIn K C with
  | none => unfold PySem.W.ks_superIn at hsu; rw [hc] at hsu; cases hsu
  | some cd =>
    unfold PySem.W.ks_superIn at hsu
    rw [hc] at hsu
    obtain ⟨of, hof, hofc⟩ : ∃ of, h'.get? f2 = some of ∧ of.cls = .type "function" := by
      have ht' : (K.lookup f2).map (·.cls) = some (.type "function") := hty
      cases z : K.lookup f2 with
      | none => rw [z] at ht'; cases ht'
      | some of => rw [z] at ht'; exact ⟨of, X1 _ _ z, Option.some.inj ht'⟩
    refine PySem.ks_wpAny_getMethod_super e1 (PySem.W.looks_opaque X1 F.any_) (l₀ := cd.mro) (fun A Q E s k q => wpAny_bind ((PySem.W.looks_clsIn X1 hc) A _ E s k (wpAny_pure q))) rfl X1 hsu hof hofc (PySem.W.ks_ne X1 J1 hc) (by decide) ?_
    have I3 := met_new (g := f2) (C := a) I1
    refine callwith_cm (C := a) (g := f2) I3 ?_ hfn ?_ he hpl
    · cases z : base.get? h'.objs.size with
      | none => exact z
      | some o => exact absurd (Heap.lt_size (I1.bk _ _ z)) (Nat.lt_irrefl _)
    · refine wpAny_mono (ha.run pos _ _ σ H _ I3 q) (fun us s3 got => ?_) fun e s' h => h
      obtain ⟨vs, H3, I4, r, qn⟩ := got
      refine ⟨⟨pin_at I4, I4.kIn⟩, ?_⟩
      refine wpAny_mono (run_cm F2 hr pass0 I4 r qn) (fun u s' z => ?_) fun e s' h => h
      obtain ⟨v, H', I5, _, qq⟩ := z
      exact ⟨σ, H', I5, qq⟩
end G0
namespace G0
open PySem PySem.Spec PyProof.Rows L2 NdefX ClX
structure Bp (mg : Str → Option Value) : Prop extends Bk mg where
  enumerate : mg "enumerate" = none
/-! ### what is never reached; a for over enumerate -/
def tDead : TS := fun _ _ _ => False
theorem ps_dead {X : Cx} {st : Stmt} : PS X st tDead := ⟨fun _ _ _ _ _ _ h => h.elim⟩
theorem for_enum {K : PySem.W.Frag} {a : Addr} {xs : List V} {g : TG} {tb : TS} {D : Ends} {σ : L2.St} {H : Hp} (Pv : Nat → L2.St → Hp → Prop) (h0 : Pv 0 σ H) (here : ∀ i σ H, Pv i σ H → SqL K H a xs)
    (turn : ∀ i x (t : Addr) σ H, xs[i]? = some x → Pv i σ H → H t = none → g (.ref t) σ (upd H t (.tup [.int (i : Nat), x])) fun σ2 H2 => tb { D with nx := Pv (i + 1), ct := Pv (i + 1), bk := D.nx } σ2 H2) (done : ∀ σ H, Pv xs.length σ H → D.nx σ H) :
    ∃ W : Nat → Nat → L2.St → Hp → Prop, (∃ m, W 0 m σ H) ∧ ∀ i m σ H, W i m σ H →
      ((Ite K a).stop i H ∧ D.nx σ H) ∨ ((Ite K a).go i H ∧ ∃ N : L2.St → Hp → Prop, (∀ σ' H', N σ' H' → ∃ m', m' < m ∧ W (i + 1) m' σ' H') ∧ ∀ x H', (Ite K a).yld i H x H' → g x σ H' fun σ2 H2 => tb { D with nx := N, ct := N, bk := D.nx } σ2 H2) := by
  refine ⟨fun i m σ H => m = xs.length - i ∧ i ≤ xs.length ∧ Pv i σ H, ⟨_, rfl, Nat.zero_le _, h0⟩, ?_⟩
  rintro i m σ H ⟨rfl, le, pv⟩
  have sq := here i σ H pv
  rcases Nat.lt_or_ge i xs.length with lt | ge
  · refine .inr ⟨⟨xs, xs[i], sq, List.getElem?_eq_getElem lt⟩, Pv (i + 1), fun σ' H' p' => ⟨xs.length - (i + 1), by omega, rfl, lt, p'⟩, fun v H' told => ?_⟩
    obtain ⟨t, x, rfl, ht, rfl, all⟩ := told
    exact turn i x t σ H (all xs sq) pv ht
  · have e : i = xs.length := by omega
    subst e
    exact .inl ⟨⟨xs, sq, Nat.le_refl _⟩, done σ H pv⟩
section
variable {P : Program} {w : World} {K : PySem.W.Frag} {mg : Str → Option Value} {base : Heap}
theorem two_dp {H : Hp} {x : V} {d1 d2 : PyData} (h : Dp K H x (.tuple [d1, d2])) : ∃ t v1 v2, x = .ref t ∧ SqT K H t [v1, v2] ∧ Dp K H v1 d1 ∧ Dp K H v2 d2 := by
  cases h with
  | tup hs ha =>
    cases ha with
    | cons h1 h2 =>
      cases h2 with
      | cons h3 h4 =>
        cases h4
        exact ⟨_, _, _, rfl, hs, h1, h3⟩
theorem lst_dp {H : Hp} {x : V} {ds : List PyData} (h : Dp K H x (.list ds)) : ∃ a xs, x = .ref a ∧ SqL K H a xs ∧ DpAll K H xs ds := by
  cases h with
  | lst hs ha => exact ⟨_, _, rfl, hs, ha⟩
theorem dps_at {H : Hp} {vs : List V} {ds : List PyData} (h : DpAll K H vs ds) : ∀ {i : Nat} {v : V}, vs[i]? = some v → ∃ d, ds[i]? = some d ∧ Dp K H v d := by
  match vs, ds, h with
  | [], [], _ => intro i v e; simp at e
  | v :: vs, d :: ds, .cons h1 h2 =>
    intro i v' e
    cases i with
    | zero => exact ⟨d, rfl, by have : v = v' := by simpa using e
                                rw [← this]; exact h1⟩
    | succ i => exact dps_at h2 (by simpa using e)
theorem dps_at' {α : Type} {f : α → PyData} {H : Hp} {vs : List V} {L : List α} (h : DpAll K H vs (L.map f)) {i : Nat} {v : V} (e : vs[i]? = some v) : ∃ a, L[i]? = some a ∧ Dp K H v (f a) := by
  obtain ⟨d, e1, e2⟩ := dps_at h e
  rw [List.getElem?_map] at e1
  cases z : L[i]? with
  | none => rw [z] at e1; cases e1
  | some a =>
    rw [z] at e1
    cases e1
    exact ⟨a, rfl, e2⟩
theorem ty_sql {H : Hp} {a : Addr} {xs : List V} (h : SqL K H a xs) : TyX K H (.ref a) (.type "list") := by
  rcases h with (h | ⟨o, h⟩) | ⟨o, its, n, h1, h2, _⟩
  · exact .base (.lst h)
  · exact .base (.frz h)
  · exact .kList h1 h2
theorem word_len {z : Str} (h : z = "ask" ∨ z = "key" ∨ z = "yes" ∨ z = "q") : z.length ≤ 1000 ∧ GD.word (.str z) = true := by
  rcases h with rfl | rfl | rfl | rfl
  · exact ⟨by decide +kernel, by decide +kernel⟩
  · exact ⟨by decide +kernel, by decide +kernel⟩
  · exact ⟨by decide +kernel, by decide +kernel⟩
  · exact ⟨by decide +kernel, by decide +kernel⟩
theorem let_ok {n : Int} {s : Snd} (h : SndOk n s) : GD.fault (.tup [.str s.z, .int s.k]) = none := by
  have h1 := h.num0
  have h2 := h.num1
  have h3 : s.k < 10 ^ 60 := by omega
  have h4 : GD.part 3 (.int s.k) = true := by
    unfold GD.part
    exact decide_eq_true ⟨h1, h3⟩
  simp [GD.fault, (word_len h.word).2, bad1, h4]
theorem let_gv {H : Hp} {n : Int} {s : Snd} {v : V} (h : SndOk n s) (d : Dp K H v (letD s.z s.k)) : Gv K H v (.tup [.str s.z, .int s.k]) := by
  obtain ⟨t, v1, v2, rfl, qt, d1, d2⟩ := two_dp d
  cases d1
  cases d2
  exact .tup qt (show 2 ≤ 1000 by decide) (.cons (.str (word_len h.word).1) (.cons (.int _) .nil))
/-! ### _is_send, _is_play, _plays_fault -/
def spSnd (K : PySem.W.Frag) : Sp := fun vs H Q _ => ∃ (x : V) (n : Int) (s : Snd), vs = [x, .int n] ∧ Dp K H x (sndD s) ∧ SndOk n s ∧ ∀ H', Same H H' → Q (.bl true) H'
theorem sc_is_send : FnScope ["thing", "seats"] ["thing", "seats"] (defScope s_is_send) :=
  ⟨rfl, rfl, rfl, by decide +kernel, rfl, by decide +kernel, by decide +kernel⟩
theorem ok_issend (F : Fn K mg "_is_send" s_is_send) (T : Bp mg) (Cis_below : Cal P w K mg base "is_below" 1 ["thing", "top"] (spBelow K)) (Cis_letter : Cal P w K mg base "is_letter" 7 ["thing"] (spIsLetter K)) : Cal P w K mg base "_is_send" 8 ["thing", "seats"] (spSnd K) := by
  refine cal_of F sc_is_send
    (fun _ _ _ _ _ _ us hl => match us, hl with | [_, _], _ => rfl) ?_ ?_
  · rintro vs H Q E ⟨x, n, s, rfl, _⟩
    rfl
  rintro f cdv A outer s' H vs Q E free hr ⟨x, n, s, rfl, dx, ok, q⟩
  refine ⟨_, (pss_cons (ps_if (PW.pt (pw_or (pt_not (pt_val (pe_callB call_isi (by rfl) T.isinstance (by decide +kernel) (pa_cons (pv 0) (pa_cons (pe_bltn (v := .ty "tuple") (by rfl) T.tuple (by decide +kernel) rfl) pa_nil))))) (pw_or1 (pt_cmpR op_ne (pe_callB call_len_seq (by rfl) T.len (by decide +kernel) (pa_cons (pv 0) pa_nil)) pe_int (nomark _)))))
    (pss_one (ps_ret pe_bl))
    pss_nil)
    (pss_one (ps_ret (pe_and (pe_cal Cis_below free (hr.mono (by decide)) (pa_cons (pe_ix ix_tup (pv 0) pe_int (fun _ _ => rfl)) (pa_cons (pv 1) pa_nil))) (pe_one (pe_cal Cis_letter free (hr.mono (by decide)) (pa_cons (pe_ix ix_tup (pv 0) pe_int (fun _ _ => rfl)) pa_nil))))))), ?_⟩
  obtain ⟨t, v1, v2, rfl, qt, d1, d2⟩ := two_dp dx
  cases d1
  refine ⟨_, rfl, _, .ty "tuple", _, _, _, rfl, .ty _, ty_sqt qt, kit_ty (r := true) (by decide +kernel), _, rfl, ?_⟩
  refine iteF' rfl ?_
  refine ⟨_, rfl, t, _, rfl, .inr qt, rfl, _, rfl, iteF' rfl ?_⟩
  refine ⟨_, rfl, t, _, _, _, rfl, rfl, qt, rfl, _, rfl, .int s.to, n, .int s.to, rfl, .int _, _, rfl, ?_⟩
  refine iteT' (by simp [GD.less, ok.low, ok.top]) ?_
  refine ⟨_, rfl, t, _, _, _, rfl, rfl, qt, rfl, v2, _, rfl, let_gv ok d2, fun H' s1 => ?_⟩
  rw [decide_eq_true (let_ok ok)]
  exact q _ s1
def spPly (K : PySem.W.Frag) : Sp := fun vs H Q _ => ∃ (x : V) (n : Int) (p : Bool × List Snd), vs = [x, .int n] ∧ Dp K H x (plyD p) ∧ PlyOk n p ∧ ∀ H', Same H H' → Q (.bl true) H'
theorem sc_is_play : FnScope ["thing", "seats", "goes", "sends", "send"] ["thing", "seats"] (defScope s_is_play) :=
  ⟨rfl, rfl, rfl, by decide +kernel, rfl, by decide +kernel, by decide +kernel⟩
theorem ok_isplay (F : Fn K mg "_is_play" s_is_play) (T : Bp mg) (C_is_send : Cal P w K mg base "_is_send" 8 ["thing", "seats"] (spSnd K)) : Cal P w K mg base "_is_play" 9 ["thing", "seats"] (spPly K) := by
  refine cal_of F sc_is_play
    (fun _ _ _ _ _ _ us hl => match us, hl with | [_, _], _ => rfl) ?_ ?_
  · rintro vs H Q E ⟨x, n, p, rfl, _⟩
    rfl
  rintro f cdv A outer s' H vs Q E free hr ⟨x, n, p, rfl, dx, ok, q⟩
  refine ⟨_, (pss_cons (ps_if (PW.pt (pw_or (pt_not (pt_val (pe_callB call_isi (by rfl) T.isinstance (by decide +kernel) (pa_cons (pv 0) (pa_cons (pe_bltn (v := .ty "tuple") (by rfl) T.tuple (by decide +kernel) rfl) pa_nil))))) (pw_or1 (pt_cmpR op_ne (pe_callB call_len_seq (by rfl) T.len (by decide +kernel) (pa_cons (pv 0) pa_nil)) pe_int (nomark _)))))
    (pss_one (ps_ret pe_bl))
    pss_nil)
    (pss_cons (ps_asg (pv 0) (pg_tup (by rfl) (pgs_cons (pg_name (i := 2) sc_is_play.nd rfl (Or.inl rfl)) (pgs_cons (pg_name (i := 3) sc_is_play.nd rfl (Or.inl rfl)) pgs_nil))))
    (pss_cons (ps_if (PW.pt (pw_or (pt_not (pt_val (pe_callB call_isi (by rfl) T.isinstance (by decide +kernel) (pa_cons (pv 2) (pa_cons (pe_bltn (v := .ty "bool") (by rfl) T.bool (by decide +kernel) rfl) pa_nil))))) (pw_or1 (pt_not (pt_val (pe_callB call_isi (by rfl) T.isinstance (by decide +kernel) (pa_cons (pv 3) (pa_cons (pe_bltn (v := .ty "list") (by rfl) T.list (by decide +kernel) rfl) pa_nil))))))))
    (pss_one (ps_ret pe_bl))
    pss_nil)
    (pss_one (ps_ret (pe_callB (cr_all (by rfl)) (by rfl) T.all (by decide +kernel) (pa_cons (pe_lc (own := [("send", 4)]) (g := gName 4) (tt := tYes) (by rfl) sc_is_play.nd (pi_list (pv 3)) (blkOk_by (N := ["thing", "seats", "goes", "sends", "send"]) (sc := defScope s_is_play) (by decide +kernel)) (fun _ _ _ _ _ => pg_name (i := 4) sc_is_play.nd rfl (Or.inl rfl)) (fun _ _ _ _ _ => pts_nil) (fun _ _ _ _ _ => (pe_cal C_is_send free (hr.mono (by decide)) (pa_cons (pv 4) (pa_cons (pv 1) pa_nil))))) pa_nil))))))), ?_⟩
  obtain ⟨t, v1, v2, rfl, qt, d1, d2⟩ := two_dp dx
  cases d1
  obtain ⟨a, xs, rfl, qa, da⟩ := lst_dp d2
  have lx : xs.length = p.2.length := by rw [dps_len da, List.length_map]
  have l5 := ok.1
  refine ⟨_, rfl, _, .ty "tuple", _, _, _, rfl, .ty _, ty_sqt qt, kit_ty (r := true) (by decide +kernel), _, rfl, ?_⟩
  refine iteF' rfl ?_
  refine ⟨_, rfl, t, _, rfl, .inr qt, rfl, _, rfl, iteF' rfl ?_⟩
  refine ⟨_, rfl, t, _, rfl, qt, rfl, _, _, rfl, _, _, rfl, rfl, ?_⟩
  refine ⟨_, rfl, _, .ty "bool", _, _, _, rfl, .ty _, .base (.bl _), kit_ty (r := true) (by decide +kernel), _, rfl, ?_⟩
  refine iteF' rfl ?_
  refine ⟨_, rfl, _, .ty "list", _, _, _, rfl, .ty _, ty_sql qa, kit_ty (r := true) (by decide +kernel), _, rfl, iteF' rfl ?_⟩
  refine ⟨_, rfl, a, rfl, ⟨_, qa⟩, fun D hD => ?_⟩
  refine lc_list (K := K) (a := a) (xs := xs) (fun i G => Same H G ∧ G D = some (.lst ((List.replicate i true).map V.bl))) ⟨same_upd hD, upd_same⟩ (fun i G _ h => h.1.seq qa) ?_ ?_
  · rintro i y G hi ⟨sG, kD⟩
    obtain ⟨s, es, ds⟩ := dps_at' da hi
    have li := (List.getElem?_eq_some_iff.mp hi).1
    refine ⟨rfl, lc_yes ?_⟩
    refine ⟨_, rfl, _, rfl, y, n, s, rfl, dp_same sG _ _ ds, ok.2 s (List.mem_of_getElem? es), fun G2 s2 => ⟨_, s2 _ _ kD, ?_, fun c o e => ?_, ?_⟩⟩
    · rw [List.length_map, List.length_replicate]
      exact Nat.lt_of_lt_of_le (show i < 100 by omega) (by decide)
    · rw [upd_ne (ne_of_none e hD)]
      exact s2 _ _ (sG _ _ e)
    · rw [List.replicate_succ', List.map_append]
      exact upd_same
  rintro G ⟨sG, kD⟩
  refine ⟨D, _, rfl, SqL.of kD, ?_⟩
  rw [List.all_replicate]
  have := q _ sG
  simpa using this
def spPF (K : PySem.W.Frag) : Sp := fun vs H Q _ => ∃ (x : V) (n : Int) (L : List (Bool × List Snd)), vs = [x, .int n] ∧ Dp K H x (.list (L.map plyD)) ∧ (∀ p ∈ L, PlyOk n p) ∧ L.length ≤ 100 ∧ ∀ H', Same H H' → Q .non H'
theorem sc_plays_fault : FnScope ["plays", "seats", "at", "play"] ["plays", "seats"] (defScope s_plays_fault) :=
  ⟨rfl, rfl, rfl, by decide +kernel, rfl, by decide +kernel, by decide +kernel⟩
theorem ok_pfault (F : Fn K mg "_plays_fault" s_plays_fault) (T : Bp mg) (hM : ∃ t, mg "MOST" = some (.int 200 t)) (C_is_play : Cal P w K mg base "_is_play" 9 ["thing", "seats"] (spPly K)) : Cal P w K mg base "_plays_fault" 10 ["plays", "seats"] (spPF K) := by
  obtain ⟨t0, hMo⟩ := hM
  refine cal_of F sc_plays_fault
    (fun _ _ _ _ _ _ us hl => match us, hl with | [_, _], _ => rfl) ?_ ?_
  · rintro vs H Q E ⟨x, n, L, rfl, _⟩
    rfl
  rintro f cdv A outer s' H vs Q E free hr ⟨x, n, L, rfl, dx, ok, few, q⟩
  refine ⟨_, (pss_cons (ps_if (pt_not (pt_val (pe_callB call_isi (by rfl) T.isinstance (by decide +kernel) (pa_cons (pv 0) (pa_cons (pe_bltn (v := .ty "list") (by rfl) T.list (by decide +kernel) rfl) pa_nil)))))
    (pss_one (ps_ret pe_int))
    pss_nil)
    (pss_cons (ps_for PassesOwn.never rfl (pi_enum (by rfl) T.enumerate (pa_cons (pv 0) pa_nil)) (pg_tup (by rfl) (pgs_cons (pg_name (i := 2) sc_plays_fault.nd rfl (Or.inl rfl)) (pgs_cons (pg_name (i := 3) sc_plays_fault.nd rfl (Or.inl rfl)) pgs_nil)))
    (pss_one (ps_if (PW.pt (pw_or (pt_cmpR op_eq (pv 2) (pe_glob (v := .int 200) (by rfl) hMo ⟨_, rfl⟩) (nomark _)) (pw_or1 (pt_not (pt_val (pe_cal C_is_play free (hr.mono (by decide)) (pa_cons (pv 3) (pa_cons (pv 1) pa_nil))))))))
    (pss_one (ps_ret (pv 2)))
    pss_nil)))
    (pss_one (ps_ret pe_non)))), ?_⟩
  obtain ⟨a, xs, rfl, qa, da⟩ := lst_dp dx
  have lx : xs.length = L.length := by rw [dps_len da, List.length_map]
  refine ⟨_, rfl, _, .ty "list", _, _, _, rfl, .ty _, ty_sql qa, kit_ty (r := true) (by decide +kernel), _, rfl, ?_⟩
  refine iteF' rfl ?_
  refine ⟨_, rfl, a, _, rfl, qa, ?_⟩
  refine for_enum (K := K) (a := a) (xs := xs) (fun i σ G => (∃ z2 z3 : Option V, σ = [some (V.ref a), some (V.int n), z2, z3]) ∧ Same H G) ⟨⟨_, _, rfl⟩, Same.refl H⟩ (fun i σ G h => h.2.seq qa) ?_ ?_
  · rintro i y T σ G hi ⟨⟨z2, z3, rfl⟩, sG⟩ hT
    obtain ⟨p, ep, dp⟩ := dps_at' da hi
    have li := (List.getElem?_eq_some_iff.mp hi).1
    have sT := sG.trans (same_upd (o := .tup [.int (i : Nat), y]) hT)
    refine ⟨T, [.int (i : Nat), y], rfl, SqT.of upd_same, rfl, _, _, rfl, _, _, rfl, rfl, ?_⟩
    refine ⟨_, rfl, rfl, _, rfl, ?_⟩
    rw [dec_ii]
    refine iteF' (by simp; omega) ?_
    refine ⟨_, rfl, _, rfl, y, n, p, rfl, dp_same sT _ _ dp, ok p (List.mem_of_getElem? ep), fun G2 s2 => ⟨_, rfl, ?_⟩⟩
    refine iteF' rfl ?_
    exact ⟨⟨_, _, rfl⟩, sT.trans s2⟩
  · rintro σ G ⟨⟨z2, z3, rfl⟩, sG⟩
    exact q _ sG
end

end G0
namespace G0
open PySem PySem.Spec PyProof.Rows L2 NdefX ClX
section
variable {P : Program} {w : World} {K : PySem.W.Frag} {mg : Str → Option Value} {base : Heap} {C f : Addr} {fd : FuncData}
def Me (P : Program) (w : World) (K : PySem.W.Frag) (mg : Str → Option Value) (base : Heap) (C : Addr) (x : Str) (k : Nat) (ps : List Str) (sp : Sp) : Prop :=
  ∃ f fd, FnOk P w K mg base CX0 k f fd ps sp ∧ Binds K fd ps [] ∧ Meth K C x f
structure PupT (K : PySem.W.Frag) (C : Addr) : Prop where
  cl : Cls K C
  me : NoAttr K C "me"
  state : NoAttr K C "state"
  sits : NoAttr K C "sits"
  plays : NoAttr K C "_plays"
  played : NoAttr K C "_played"
/-- a puppet and the plays that it keeps -/
structure Pup (K : PySem.W.Frag) (C : Addr) (H : Hp) (q dx : Addr) (me : Int) (st : Str) (si : Bool) (pl : Addr) (k : Nat) (L : List (Bool × List Snd)) (fp : List Addr) : Prop where
  hp : H q = some (.ins C dx (puF me st si pl (k : Int)))
  ow : Ow K H (.ref pl) (.list (L.map plyD)) fp
  le : k ≤ L.length
  few : L.length ≤ 100
  five : ∀ p ∈ L, p.2.length ≤ 5
mutual
theorem ow_lst {H : Hp} : ∀ {v : V} {d : PyData} {fp : List Addr}, Ow K H v d fp → ∀ x ∈ fp, ∃ xs, H x = some (.lst xs)
  | _, _, _, .non => fun _ h => by simp at h
  | _, _, _, .bl _ => fun _ h => by simp at h
  | _, _, _, .int _ => fun _ h => by simp at h
  | _, _, _, .str _ => fun _ h => by simp at h
  | _, _, _, .lst e al => fun x h => by
    rcases List.mem_cons.mp h with rfl | h
    · exact ⟨_, e⟩
    · exact ows_lst al x h
  | _, _, _, .tup _ al => ows_lst al
theorem ows_lst {H : Hp} : ∀ {vs : List V} {ds : List PyData} {fp : List Addr}, OwAll K H vs ds fp → ∀ x ∈ fp, ∃ xs, H x = some (.lst xs)
  | _, _, _, .nil => fun _ h => by simp at h
  | _, _, _, .cons a b => fun x h => by
    rcases List.mem_append.mp h with h | h
    · exact ow_lst a x h
    · exact ows_lst b x h
end
/-- data with lists of their own, under a change of an object -/
theorem ow_chgI {H H' : Hp} {q D dx : Addr} {fs : List (Str × V)} {v : V} {d : PyData} {fp : List Addr} (hq : H q = some (.ins D dx fs)) (c : Chg q H H') (h : Ow K H v d fp) : Ow K H' v d fp :=
  ow_chgS (S := [q]) (fun b hb o ho => by rw [List.mem_singleton.mp hb, hq] at ho; cases ho; exact mu_ins) (c.s (List.mem_singleton.mpr rfl)) d v fp (fun b hb z => by
    obtain ⟨xs, e⟩ := ow_lst h b hb
    rw [List.mem_singleton.mp z, hq] at e
    cases e) h
theorem sqt_chgI {H H' : Hp} {q D dx : Addr} {fs : List (Str × V)} (hq : H q = some (.ins D dx fs)) (c : Chg q H H') {a : Addr} {xs : List V} (h : SqT K H a xs) : SqT K H' a xs :=
  sqt_chgS (S := [q]) (fun b hb o ho => by rw [List.mem_singleton.mp hb, hq] at ho; cases ho; exact mu_ins) (c.s (List.mem_singleton.mpr rfl)) h
/-- data without lists, under a change of an object -/
theorem dps_chgI {H H' : Hp} {q D dx : Addr} {fs : List (Str × V)} {vs : List V} {ds : List PyData} (hq : H q = some (.ins D dx fs)) (c : Chg q H H') (n : noLs ds = true) (h : DpAll K H vs ds) : DpAll K H' vs ds :=
  ows_dp _ _ _ (ows_chgS (S := [q]) (fun b hb o ho => by rw [List.mem_singleton.mp hb, hq] at ho; cases ho; exact mu_ins) (c.s (List.mem_singleton.mpr rfl)) ds vs [] (fun b hb => by simp at hb) (owsN n h))
def nxt (L : List (Bool × List Snd)) (k : Nat) : Bool × List Snd := (L[k]?).getD (true, [])
def nxk (L : List (Bool × List Snd)) (k : Nat) : Nat := if k < L.length then k + 1 else k
theorem Pup.same {H H' : Hp} {q dx : Addr} {me : Int} {st : Str} {si : Bool} {pl : Addr} {k : Nat} {L : List (Bool × List Snd)} {fp : List Addr} (M : Pup K C H q dx me st si pl k L fp) (s : Same H H') : Pup K C H' q dx me st si pl k L fp :=
  { M with hp := s _ _ M.hp, ow := ow_same s M.ow }
/-! ### unplayed, _next_play -/
def spUn (K : PySem.W.Frag) (C : Addr) : Sp := fun vs H Q _ => ∃ (q dx : Addr) (me : Int) (st : Str) (si : Bool) (pl : Addr) (k : Nat) (L : List (Bool × List Snd)) (fp : List Addr), vs = [.ref q] ∧ Pup K C H q dx me st si pl k L fp ∧ Q (.int ((L.length : Int) - (k : Int))) H
theorem sc_Puppet_unplayed : FnScope ["self"] ["self"] (defScope s_Puppet_unplayed) :=
  ⟨rfl, rfl, rfl, by decide +kernel, rfl, by decide +kernel, by decide +kernel⟩
theorem ok_unplayed (F : Fun K "unplayed" "Puppet.unplayed" s_Puppet_unplayed f fd) (T : Bp mg) (S : PupT K C) : FnOk P w K mg base CX0 1 f fd ["self"] (spUn K C) := by
  refine F.ok sc_Puppet_unplayed (fun vs H Q E h => ?_) (fun cdv A outer s H vs Q E hr h => ?_)
  · obtain ⟨q, _, _, _, _, _, _, _, _, rfl, _⟩ := h
    rfl
  obtain ⟨p, dx, me, st, si, pl, k, L, fp, rfl, M, q⟩ := h
  refine ⟨_, (pss_one (ps_ret (pe_op op_sub (pe_callB call_len_seq (by rfl) T.len (by decide +kernel) (pa_cons (pe_fld (pv 0) (by rfl)) pa_nil)) (pe_fld (pv 0) (by rfl))))), ?_⟩
  obtain ⟨a, xs, e, qa, da⟩ := lst_dp (ow_dp _ _ _ M.ow)
  cases e
  have lx : xs.length = L.length := by rw [dps_len da, List.length_map]
  refine ⟨_, rfl, p, C, dx, _, _, rfl, M.hp, S.cl, S.plays, puF_pls _ _ _ _ _, pl, _, rfl, .inl qa, _, rfl, p, C, dx, _, _, rfl, M.hp, S.cl, S.played, puF_ply _ _ _ _ _, _, _, rfl, rfl, ?_⟩
  rw [lx]
  exact q
def spNext (K : PySem.W.Frag) (C : Addr) : Sp := fun vs H Q _ => ∃ (q dx : Addr) (me : Int) (st : Str) (si : Bool) (pl : Addr) (k : Nat) (L : List (Bool × List Snd)) (fp : List Addr), vs = [.ref q] ∧ Pup K C H q dx me st si pl k L fp ∧
  ∀ (t r : Addr) (ys : List V) H', H r = none → Chg q H H' → SqT K H' t [.bl (nxt L k).1, .ref r] → H' r = some (.lst ys) → DpAll K H' ys ((nxt L k).2.map sndD) → H' q = some (.ins C dx (puF me st si pl ((nxk L k : Nat) : Int))) → Q (.ref t) H'
theorem sc_Puppet_next_play : FnScope ["self", "goes", "sends"] ["self"] (defScope s_Puppet_next_play) :=
  ⟨rfl, rfl, rfl, by decide +kernel, rfl, by decide +kernel, by decide +kernel⟩
theorem ok_next (F : Fun K "_next_play" "Puppet._next_play" s_Puppet_next_play f fd) (T : Bp mg) (S : PupT K C) (MU : Me P w K mg base C "unplayed" 1 ["self"] (spUn K C)) : FnOk P w K mg base CX0 2 f fd ["self"] (spNext K C) := by
  obtain ⟨fU, fdU, GU, bU, mU⟩ := MU
  refine F.ok sc_Puppet_next_play (fun vs H Q E h => ?_) (fun cdv A outer s H vs Q E hr h => ?_)
  · obtain ⟨q, _, _, _, _, _, _, _, _, rfl, _⟩ := h
    rfl
  obtain ⟨p, dx, me, st, si, pl, k, L, fp, rfl, M, q⟩ := h
  refine ⟨_, (pss_cons (ps_if (pt_cmpR op_eq (pe_meth0 (pv 0) S.cl mU GU hr bU .nil pass0) pe_int (nomark _))
    (pss_one (ps_ret (pe_tup (pa_cons pe_bl (pa_cons (pe_lst pa_nil) pa_nil)))))
    pss_nil)
    (pss_cons (ps_asg (pe_ix ix_list (pe_fld (pv 0) (by rfl)) (pe_fld (pv 0) (by rfl)) (fun _ _ => rfl)) (pg_tup (by rfl) (pgs_cons (pg_name (i := 1) sc_Puppet_next_play.nd rfl (Or.inl rfl)) (pgs_cons (pg_name (i := 2) sc_Puppet_next_play.nd rfl (Or.inl rfl)) pgs_nil))))
    (pss_cons (ps_fldaug (pv 0) pe_int in_add)
    (pss_one (ps_ret (pe_tup (pa_cons (pv 1) (pa_cons (pe_callTy call_list_of (by rfl) T.list (by decide +kernel) (pa_cons (pv 2) pa_nil)) pa_nil)))))))), ?_⟩
  obtain ⟨a, xs, e, qa, da⟩ := lst_dp (ow_dp _ _ _ M.ow)
  cases e
  have lx : xs.length = L.length := by rw [dps_len da, List.length_map]
  have le := M.le
  refine ⟨_, rfl, p, dx, _, rfl, M.hp, (puF_no _ _ _ _ _ (by decide +kernel) (by decide +kernel) (by decide +kernel) (by decide +kernel) (by decide +kernel)), p, dx, me, st, si, pl, k, L, fp, rfl, M, rfl, _, rfl, ?_⟩
  rw [dec_ii]
  refine ite2 (fun c => ?_) (fun c => ?_)
  · have e1 : (L.length : Int) - (k : Int) = 0 := of_decide_eq_true c
    have e2 : ¬ k < L.length := by omega
    have n1 : nxt L k = (true, []) := by unfold nxt; rw [List.getElem?_eq_none (by omega)]; rfl
    have n2 : nxk L k = k := by unfold nxk; rw [if_neg e2]
    refine ⟨Nat.zero_le _, fun r hr' => ⟨by show 2 ≤ sizeLine; decide, fun t ht => ?_⟩⟩
    have s1 := same_upd (o := .lst []) hr'
    have s2 := s1.trans (same_upd (o := .tup [.bl true, .ref r]) ht)
    rw [n1, n2] at q
    exact q t r [] _ hr' (Chg.same s2) (SqT.of upd_same) (same_upd ht _ _ upd_same) .nil (s2 _ _ M.hp)
  · have e1 : ¬ (L.length : Int) - (k : Int) = 0 := fun z => c (decide_eq_true z)
    have e2 : k < L.length := by omega
    have kx : k < xs.length := by omega
    obtain ⟨pp, ep, dp⟩ := dps_at' da (List.getElem?_eq_getElem kx)
    have n1 : nxt L k = pp := by unfold nxt; rw [ep]; rfl
    have n2 : nxk L k = k + 1 := by unfold nxk; rw [if_pos e2]
    obtain ⟨t0, v1, v2, et, qt, d1, d2⟩ := two_dp dp
    cases d1
    obtain ⟨a2, ys, rfl, qy, dy⟩ := lst_dp d2
    have at_ : atI xs ((k : Nat) : Int) = some (.ref t0) := by rw [← et]; exact atI_nat (List.getElem?_eq_getElem kx)
    refine ⟨_, rfl, p, C, dx, _, _, rfl, M.hp, S.cl, S.plays, puF_pls _ _ _ _ _, _, rfl, p, C, dx, _, _, rfl, M.hp, S.cl, S.played, puF_ply _ _ _ _ _, pl, _, _, _, rfl, rfl, qa, at_, t0, _, rfl, qt, rfl, _, _, rfl, _, _, rfl, rfl, ?_⟩
    refine ⟨_, rfl, p, C, dx, _, _, rfl, M.hp, S.cl, S.played, puF_ply _ _ _ _ _, _, 1, rfl, rfl, dx, _, M.hp, (by show 5 < 1000; decide), ?_⟩
    rw [puF_put_ply]
    have cg : Chg p H (upd H p (.ins C dx (puF me st si pl ((k : Int) + 1)))) := Chg.self
    have qy' := ow_chgI M.hp cg M.ow
    have np : ∀ {x : Addr} {zs : List V}, H x = some (.lst zs) → x ≠ p := fun h => ne_of h M.hp (by intro z; cases z)
    have qy2 : SqL K (upd H p (.ins C dx (puF me st si pl ((k : Int) + 1)))) a2 ys := by
      rcases qy with (z | ⟨o, z⟩) | z
      · exact .inl (.inl (cg _ _ (np z) z))
      · exact .inl (.inr ⟨o, cg _ _ (ne_of z M.hp (by intro y; cases y)) z⟩)
      · exact .inr z
    refine ⟨_, rfl, _, rfl, a2, _, rfl, .inl qy2, fun r hr' => ⟨by show 2 ≤ sizeLine; decide, fun t ht => ?_⟩⟩
    have rp : r ≠ p := fun z => by rw [z, upd_same] at hr'; cases hr'
    have s1 := same_upd (o := .lst ys) hr'
    have s2 := s1.trans (same_upd (o := .tup [.bl pp.1, .ref r]) ht)
    rw [n1, n2] at q
    refine q t r ys _ ((upd_ne rp).symm.trans hr') (cg.trans (Chg.same s2)) (SqT.of upd_same) (same_upd ht _ _ upd_same) (dps_same s2 _ _ (dps_chgI M.hp cg (noLs_snds _) dy)) ?_
    rw [Int.natCast_add]
    exact s2 _ _ upd_same
end

end G0
namespace G0
open PySem PySem.Spec PyProof.Rows L2 NdefX ClX
section
variable {P : Program} {w : World} {K : PySem.W.Frag} {mg : Str → Option Value} {base : Heap} {C f : Addr} {fd : FuncData}
/-! ### a puppet's deeds -/
def spPup (K : PySem.W.Frag) (C : Addr) (m : Nat) (g : Bool → Str → Str) : Sp := fun vs H Q _ => ∃ (q : Addr) (rest : List V) (dx : Addr) (me : Int) (st : Str) (si : Bool) (pl : Addr) (k : Nat) (L : List (Bool × List Snd)) (fp : List Addr), vs = .ref q :: rest ∧ rest.length = m ∧ Pup K C H q dx me st si pl k L fp ∧
  ∀ (r : Addr) (ys : List V) H', H r = none → Chg q H H' → H' r = some (.lst ys) → DpAll K H' ys ((nxt L k).2.map sndD) → H' q = some (.ins C dx (puF me (g (nxt L k).1 st) si pl ((nxk L k : Nat) : Int))) → Q (.ref r) H'
def gAsk (b : Bool) (_ : Str) : Str := if b = true then "in" else "asking"
def gLeave (_ : Bool) (_ : Str) : Str := "out"
def gHear (b : Bool) (st : Str) : Str := if b = true ∧ st = "asking" then "in" else st
theorem sc_Puppet_ask : FnScope ["self", "goes", "sends"] ["self"] (defScope s_Puppet_ask) :=
  ⟨rfl, rfl, rfl, by decide +kernel, rfl, by decide +kernel, by decide +kernel⟩
theorem ok_pask (F : Fun K "ask" "Puppet.ask" s_Puppet_ask f fd) (S : PupT K C) (MN : Me P w K mg base C "_next_play" 2 ["self"] (spNext K C)) : FnOk P w K mg base CX0 3 f fd ["self"] (spPup K C 0 gAsk) := by
  obtain ⟨fN, fdN, GN, bN, mN⟩ := MN
  refine F.ok sc_Puppet_ask (fun vs H Q E h => ?_) (fun cdv A outer s H vs Q E hr h => ?_)
  · obtain ⟨q, rest, _, _, _, _, _, _, _, _, rfl, e, _⟩ := h
    rw [List.length_cons, e]; rfl
  obtain ⟨p, rest, dx, me, st, si, pl, k, L, fp, rfl, e0, M, q⟩ := h
  have e1 : rest = [] := List.eq_nil_of_length_eq_zero e0
  subst e1
  refine ⟨_, (pss_cons (ps_asg (pe_meth0 (pv 0) S.cl mN GN hr bN .nil pass0) (pg_tup (by rfl) (pgs_cons (pg_name (i := 1) sc_Puppet_ask.nd rfl (Or.inl rfl)) (pgs_cons (pg_name (i := 2) sc_Puppet_ask.nd rfl (Or.inl rfl)) pgs_nil))))
    (pss_cons (ps_fld (pv 0) (pe_ifExp (pt_val (pv 1)) pe_str pe_str) rfl)
    (pss_one (ps_ret (pv 2))))), ?_⟩
  refine ⟨_, rfl, p, dx, _, rfl, M.hp, (puF_no _ _ _ _ _ (by decide +kernel) (by decide +kernel) (by decide +kernel) (by decide +kernel) (by decide +kernel)), p, dx, me, st, si, pl, k, L, fp, rfl, M, fun t r ys H1 hr0 cg qt kr dy kp => ⟨t, _, rfl, qt, rfl, _, _, rfl, _, _, rfl, rfl, ?_⟩⟩
  have np : r ≠ p := (ne_of_none M.hp hr0).symm
  refine ⟨_, rfl, _, rfl, ?_⟩
  cases hb : (nxt L k).1 with
  | true =>
    rw [hb] at q
    refine iteT' rfl ?_
    refine ⟨_, rfl, p, C, dx, _, rfl, kp, S.cl, S.state, (by show 5 < 1000; decide), ?_⟩
    rw [puF_put_stt]
    exact ⟨_, rfl, q r ys _ hr0 (cg.trans Chg.self) ((upd_ne np).trans kr) (dps_chgI kp Chg.self (noLs_snds _) dy) upd_same⟩
  | false =>
    rw [hb] at q
    refine iteF' rfl ?_
    refine ⟨_, rfl, p, C, dx, _, rfl, kp, S.cl, S.state, (by show 5 < 1000; decide), ?_⟩
    rw [puF_put_stt]
    exact ⟨_, rfl, q r ys _ hr0 (cg.trans Chg.self) ((upd_ne np).trans kr) (dps_chgI kp Chg.self (noLs_snds _) dy) upd_same⟩
theorem sc_Puppet_leave : FnScope ["self", "_", "sends"] ["self"] (defScope s_Puppet_leave) :=
  ⟨rfl, rfl, rfl, by decide +kernel, rfl, by decide +kernel, by decide +kernel⟩
theorem ok_pleave (F : Fun K "leave" "Puppet.leave" s_Puppet_leave f fd) (S : PupT K C) (MN : Me P w K mg base C "_next_play" 2 ["self"] (spNext K C)) : FnOk P w K mg base CX0 3 f fd ["self"] (spPup K C 0 gLeave) := by
  obtain ⟨fN, fdN, GN, bN, mN⟩ := MN
  refine F.ok sc_Puppet_leave (fun vs H Q E h => ?_) (fun cdv A outer s H vs Q E hr h => ?_)
  · obtain ⟨q, rest, _, _, _, _, _, _, _, _, rfl, e, _⟩ := h
    rw [List.length_cons, e]; rfl
  obtain ⟨p, rest, dx, me, st, si, pl, k, L, fp, rfl, e0, M, q⟩ := h
  have e1 : rest = [] := List.eq_nil_of_length_eq_zero e0
  subst e1
  refine ⟨_, (pss_cons (ps_asg (pe_meth0 (pv 0) S.cl mN GN hr bN .nil pass0) (pg_tup (by rfl) (pgs_cons (pg_name (i := 1) sc_Puppet_leave.nd rfl (Or.inl rfl)) (pgs_cons (pg_name (i := 2) sc_Puppet_leave.nd rfl (Or.inl rfl)) pgs_nil))))
    (pss_cons (ps_fld (pv 0) pe_str rfl)
    (pss_one (ps_ret (pv 2))))), ?_⟩
  refine ⟨_, rfl, p, dx, _, rfl, M.hp, (puF_no _ _ _ _ _ (by decide +kernel) (by decide +kernel) (by decide +kernel) (by decide +kernel) (by decide +kernel)), p, dx, me, st, si, pl, k, L, fp, rfl, M, fun t r ys H1 hr0 cg qt kr dy kp => ⟨t, _, rfl, qt, rfl, _, _, rfl, _, _, rfl, rfl, ?_⟩⟩
  have np : r ≠ p := (ne_of_none M.hp hr0).symm
  refine ⟨_, rfl, p, C, dx, _, rfl, kp, S.cl, S.state, (by show 5 < 1000; decide), ?_⟩
  rw [puF_put_stt]
  exact ⟨_, rfl, q r ys _ hr0 (cg.trans Chg.self) ((upd_ne np).trans kr) (dps_chgI kp Chg.self (noLs_snds _) dy) upd_same⟩
theorem sc_Puppet_heard : FnScope ["self", "goes", "sends"] ["self"] (defScope s_Puppet_heard) :=
  ⟨rfl, rfl, rfl, by decide +kernel, rfl, by decide +kernel, by decide +kernel⟩
theorem ok_heard (F : Fun K "_heard" "Puppet._heard" s_Puppet_heard f fd) (S : PupT K C) (MN : Me P w K mg base C "_next_play" 2 ["self"] (spNext K C)) : FnOk P w K mg base CX0 3 f fd ["self"] (spPup K C 0 gHear) := by
  obtain ⟨fN, fdN, GN, bN, mN⟩ := MN
  refine F.ok sc_Puppet_heard (fun vs H Q E h => ?_) (fun cdv A outer s H vs Q E hr h => ?_)
  · obtain ⟨q, rest, _, _, _, _, _, _, _, _, rfl, e, _⟩ := h
    rw [List.length_cons, e]; rfl
  obtain ⟨p, rest, dx, me, st, si, pl, k, L, fp, rfl, e0, M, q⟩ := h
  have e1 : rest = [] := List.eq_nil_of_length_eq_zero e0
  subst e1
  refine ⟨_, (pss_cons (ps_asg (pe_meth0 (pv 0) S.cl mN GN hr bN .nil pass0) (pg_tup (by rfl) (pgs_cons (pg_name (i := 1) sc_Puppet_heard.nd rfl (Or.inl rfl)) (pgs_cons (pg_name (i := 2) sc_Puppet_heard.nd rfl (Or.inl rfl)) pgs_nil))))
    (pss_cons (ps_if (PW.pt (pw_and (pt_val (pv 1)) (pw_and1 (pt_cmpR op_eq (pe_fld (pv 0) (by rfl)) pe_str (nomark _)))))
    (pss_one (ps_fld (pv 0) pe_str rfl))
    pss_nil)
    (pss_one (ps_ret (pv 2))))), ?_⟩
  refine ⟨_, rfl, p, dx, _, rfl, M.hp, (puF_no _ _ _ _ _ (by decide +kernel) (by decide +kernel) (by decide +kernel) (by decide +kernel) (by decide +kernel)), p, dx, me, st, si, pl, k, L, fp, rfl, M, fun t r ys H1 hr0 cg qt kr dy kp => ⟨t, _, rfl, qt, rfl, _, _, rfl, _, _, rfl, rfl, ?_⟩⟩
  have np : r ≠ p := (ne_of_none M.hp hr0).symm
  refine ⟨_, rfl, _, rfl, ?_⟩
  cases hb : (nxt L k).1 with
  | true =>
    rw [hb] at q
    refine iteT' rfl ?_
    refine ⟨_, rfl, p, C, dx, _, _, rfl, kp, S.cl, S.state, puF_stt _ _ _ _ _, rfl, _, rfl, ?_⟩
    rw [dec_str]
    by_cases c : st = "asking"
    · refine iteT' (by simp [c]) ?_
      refine ⟨_, rfl, p, C, dx, _, rfl, kp, S.cl, S.state, (by show 5 < 1000; decide), ?_⟩
      rw [puF_put_stt]
      have eg : gHear true st = "in" := by unfold gHear; rw [if_pos ⟨rfl, c⟩]
      rw [eg] at q
      exact ⟨_, rfl, q r ys _ hr0 (cg.trans Chg.self) ((upd_ne np).trans kr) (dps_chgI kp Chg.self (noLs_snds _) dy) upd_same⟩
    · refine iteF' (by simp [c]) ?_
      have eg : gHear true st = st := by unfold gHear; rw [if_neg (fun z => c z.2)]
      rw [eg] at q
      exact ⟨_, rfl, q r ys _ hr0 cg kr dy kp⟩
  | false =>
    rw [hb] at q
    refine iteF' rfl ?_
    refine iteF' rfl ?_
    have eg : gHear false st = st := by unfold gHear; rw [if_neg (fun z => by cases z.1)]
    rw [eg] at q
    exact ⟨_, rfl, q r ys _ hr0 cg kr dy kp⟩
theorem sc_Puppet_hear : FnScope ["self", "sender", "letter"] ["self", "sender", "letter"] (defScope s_Puppet_hear) :=
  ⟨rfl, rfl, rfl, by decide +kernel, rfl, by decide +kernel, by decide +kernel⟩
theorem ok_phear (F : Fun K "hear" "Puppet.hear" s_Puppet_hear f fd) (S : PupT K C) (MH : Me P w K mg base C "_heard" 3 ["self"] (spPup K C 0 gHear)) : FnOk P w K mg base CX0 4 f fd ["self", "sender", "letter"] (spPup K C 2 gHear) := by
  obtain ⟨fN, fdN, GN, bN, mN⟩ := MH
  refine F.ok sc_Puppet_hear (fun vs H Q E h => ?_) (fun cdv A outer s H vs Q E hr h => ?_)
  · obtain ⟨q, rest, _, _, _, _, _, _, _, _, rfl, e, _⟩ := h
    rw [List.length_cons, e]; rfl
  obtain ⟨p, rest, dx, me, st, si, pl, k, L, fp, rfl, e0, M, q⟩ := h
  obtain ⟨r1, r2, rfl⟩ : ∃ r1 r2, rest = [r1, r2] := by
    match rest, e0 with
    | [r1, r2], _ => exact ⟨r1, r2, rfl⟩
  refine ⟨_, (pss_one (ps_ret (pe_meth0 (pv 0) S.cl mN GN hr bN .nil pass0))), ?_⟩
  exact ⟨_, rfl, p, dx, _, rfl, M.hp, (puF_no _ _ _ _ _ (by decide +kernel) (by decide +kernel) (by decide +kernel) (by decide +kernel) (by decide +kernel)), p, [], dx, me, st, si, pl, k, L, fp, rfl, rfl, M, q⟩
end

end G0
namespace G0
open PySem PySem.Spec PyProof.Rows L2 NdefX ClX
section
variable {P : Program} {w : World} {K : PySem.W.Frag} {mg : Str → Option Value} {base : Heap} {C : Addr}
/-! ### Seat.__init__, of an object of a class under it -/
def seatG (m : Int) : List (Str × V) := [("me", .int m), ("state", .str "out"), ("sits", .bl false)]
theorem seatG_made (m : Int) : putF "sits" (.bl false) (putF "state" (.str "out") (putF "me" (.int m) [])) = seatG m := by
  simp only [putF, seatG, n_puF_me_stt, n_puF_me_sits, n_puF_stt_sits, if_false, if_true]
def spSeat0 (C : Addr) : Sp := fun vs H Q _ => ∃ (p dx : Addr) (m : Int), vs = [.ref p, .int m] ∧ H p = some (.ins C dx []) ∧ Q .non (upd H p (.ins C dx (seatG m)))
theorem sc_Seat__init : FnScope ["self", "me"] ["self", "me"] (defScope s_Seat__init) :=
  ⟨rfl, rfl, rfl, by decide +kernel, rfl, by decide +kernel, by decide +kernel⟩
theorem ok_seat0 {f : Addr} {fd : FuncData} (F : Fun K "__init__" "Seat.__init__" s_Seat__init f fd) (c : Cls K C) (n1 : NoAttr K C "me") (n2 : NoAttr K C "state") (n3 : NoAttr K C "sits") : FnOk P w K mg base CX0 1 f fd ["self", "me"] (spSeat0 C) := by
  refine F.ok sc_Seat__init (fun vs H Q E h => ?_) (fun cdv A outer s H vs Q E hr h => ?_)
  · obtain ⟨p, dx, m, rfl, _⟩ := h
    rfl
  obtain ⟨p, dx, m, rfl, hp, q⟩ := h
  refine ⟨_, (pss_cons (ps_fld (pv 0) (pv 1) rfl)
    (pss_cons (ps_fld (pv 0) pe_str rfl)
    (pss_one (ps_fld (pv 0) pe_bl rfl)))), ?_⟩
  refine ⟨_, rfl, _, rfl, p, C, dx, _, rfl, hp, c, n1, (by show 0 < 1000; decide), ?_⟩
  refine ⟨_, rfl, p, C, dx, _, rfl, upd_same, c, n2, (by show 1 < 1000; decide), ?_⟩
  refine ⟨_, rfl, p, C, dx, _, rfl, upd_same, c, n3, (by show 2 < 1000; decide), ?_⟩
  rw [upd_upd, upd_upd, seatG_made]
  exact q
theorem fnR_of {k : Nat} {f : Addr} {fd : FuncData} {ps : List Str} {sp : Sp} (F : FnOk P w K mg base CX0 k f fd ps sp) (b : Binds K fd ps []) : FnR P w K mg base CX0 k f sp :=
  fun A outer s H us vs Q E hr e0 r h => by
    have hl : (us ++ []).length = ps.length := by rw [List.append_nil, ← r.length]; exact F.len _ _ _ _ h
    have KX : K.In s.heap := e0.mod.kin.keeps fun b o z => (e0.bs b o z).1
    have bt := b s us KX hl
    rw [List.append_nil] at bt
    exact F.run A outer s H ⟨us, []⟩ us vs Q E hr e0 bt r h
/-! ### Puppet.__init__ -/
theorem call_list_ofK {X : Cx} (K : PySem.W.Frag) (hK : X.K = K) : CallR X (.type "list") (fun xs H Q => ∃ p ys, xs = [.ref p] ∧ (SqL K H p ys ∨ SqT K H p ys) ∧ ∀ l : Addr, H l = none → Q (.ref l) (upd H l (.lst ys))) := by
  subst hK
  exact call_list_of
def spPInit (K : PySem.W.Frag) (C : Addr) : Sp := fun vs H Q _ => ∃ (p dx : Addr) (m n : Int) (l : Addr) (L : List (Bool × List Snd)) (fp0 : List Addr), vs = [.ref p, .int m, .int n, .ref l] ∧ H p = some (.ins C dx []) ∧ Ow K H (.ref l) (.list (L.map plyD)) fp0 ∧ (∀ p ∈ L, PlyOk n p) ∧ L.length ≤ 100 ∧
  ∀ pl fp H', (∀ x ∈ fp, H x = none) → Chg p H H' → Ow K H' (.ref pl) (.list (L.map plyD)) fp → H' p = some (.ins C dx (puF m "out" false pl 0)) → Q .non H'
theorem puF_rest (m : Int) (pl : Addr) : putF "_played" (.int 0) (putF "_plays" (.ref pl) (seatG m)) = puF m "out" false pl 0 := by
  simp only [putF, seatG, puF, n_puF_me_pls, n_puF_stt_pls, n_puF_sits_pls, n_puF_me_ply, n_puF_stt_ply, n_puF_sits_ply, n_puF_pls_ply, if_false, if_true]
theorem ok_pinit {f cc cda D f2 : Addr} {dV kV doc pm ct oc cl : Value} {v : Option Value} {an od cld : Option Addr} {osl csl : Array (Option Value)} (T : Bp mg)
    (lk : K.lookup f = some ⟨oc, od, .func (PySem.W.ksFn "__init__" "Puppet.__init__" (defArgs s_Puppet__init) (defBody s_Puppet__init) (defScope s_Puppet__init) dV kV doc pm an (.ref cda) ct cc), osl⟩)
    (coded : PySem.W.codeIn K (.ref cda) "Puppet.__init__" = true) (lc : K.lookup cc = some ⟨cl, cld, .cell v, csl⟩)
    (F : SupF P K ["self", "me", "seats", "plays", "__class__", "fault", "goes", "sends"] f cc cda D (PySem.W.ksFn "__init__" "Puppet.__init__" (defArgs s_Puppet__init) (defBody s_Puppet__init) (defScope s_Puppet__init) dV kV doc pm an (.ref cda) ct cc) (defArgs s_Puppet__init) (defScope s_Puppet__init))
    (F2 : FnR P w K mg base CX0 1 f2 (spSeat0 C)) (S : PupT K C) (mro : PySem.W.mroIn K C (.ref D) = some true) (su : PySem.W.ks_superIn K C D "__init__" = some (some (.ref f2))) (ty : PySem.W.typeIn K (.ref f2) = some (.type "function")) (fi : PySem.W.fnIn K f2 = true)
    (C_plays_fault : Cal P w K mg base "_plays_fault" 10 ["plays", "seats"] (spPF K)) :
    FnOk P w K mg base CX0 11 f (PySem.W.ksFn "__init__" "Puppet.__init__" (defArgs s_Puppet__init) (defBody s_Puppet__init) (defScope s_Puppet__init) dV kV doc pm an (.ref cda) ct cc) ["self", "me", "seats", "plays"] (spPInit K C) := by
  have NS : NScope ["self", "me", "seats", "plays", "__class__", "fault", "goes", "sends"] ["self", "me", "seats", "plays"] ["__class__"] (defScope s_Puppet__init) := nscope_by (by decide +kernel)
  refine fnS_of lk coded lc NS ?_ fun A outer s H vs Q E hr h => ?_
  · rintro vs H Q E ⟨p, dx, m, n, l, L, fp0, rfl, _⟩
    rfl
  obtain ⟨p, dx, m, n, l, L, fp0, rfl, hp, oL, ok, few, q⟩ := h
  have free := True.intro
  refine ⟨_, _, p1_supM F F2 (hr.mono (by decide)) (pa_cons (pv 1 (by rfl) (.inl (NS.par _ (by simp)))) pa_nil), (pss_cons (ps_set (i := 5) NS.nd rfl (Or.inl rfl) (pe_cal C_plays_fault free (hr.mono (by decide)) (pa_cons (pv 3) (pa_cons (pv 2) pa_nil))))
    (pss_cons (ps_if (pt_cmpR op_notN (pv 5) pe_non (nomark _))
    (pss_one ps_dead)
    pss_nil)
    (pss_cons (ps_fld (pv 0) (pe_lc (own := [("goes", 6), ("sends", 7)]) (g := gTup K 2 (gCons (gName 6) (gCons (gName 7) gNil))) (tt := tYes) (by rfl) NS.nd (pi_list (pv 3)) (blkOk_by (N := ["self", "me", "seats", "plays", "__class__", "fault", "goes", "sends"]) (sc := defScope s_Puppet__init) (by decide +kernel)) (fun _ _ _ _ _ => pg_tup (by rfl) (pgs_cons (pg_name (i := 6) NS.nd rfl (Or.inl rfl)) (pgs_cons (pg_name (i := 7) NS.nd rfl (Or.inl rfl)) pgs_nil))) (fun _ _ _ _ _ => pts_nil) (fun _ _ _ _ _ => (pe_tup (pa_cons (pv 6) (pa_cons (pe_callTy (T := "list") (call_list_ofK K rfl) (by rfl) T.list (by decide +kernel) (pa_cons (pv 7) pa_nil)) pa_nil))))) rfl)
    (pss_one (ps_fld (pv 0) pe_int rfl))))), ?_⟩
  refine ⟨p, C, dx, [], rfl, hp, mro, su, ty, fi, _, rfl, p, dx, m, rfl, hp, ?_⟩
  have oL1 := ow_chgI hp (Chg.self (o := .ins C dx (seatG m))) oL
  refine ⟨_, rfl, _, rfl, .ref l, n, L, rfl, ow_dp _ _ _ oL1, ok, few, fun H2 s2 => ?_⟩
  have kp2 := s2 _ _ (upd_same (a := p) (H := H) (o := .ins C dx (seatG m)))
  refine ⟨_, rfl, rfl, _, rfl, ?_⟩
  refine iteF' rfl ?_
  have dL2 := dp_same s2 _ _ (ow_dp _ _ _ oL1)
  obtain ⟨l', xs, el, qa, da⟩ := lst_dp dL2
  cases el
  have lx : xs.length = L.length := by rw [dps_len da, List.length_map]
  have H2n : ∀ {x : Addr}, H2 x = none → H x = none := fun h => Chg.back Chg.self (s2.free h) (fun z => by rw [z, kp2] at h; cases h)
  refine ⟨_, rfl, l, rfl, ⟨_, qa⟩, fun D' hD => ?_⟩
  refine lc_list (K := K) (a := l) (xs := xs) (fun i G => ∃ (ys : List V) (fp : List Addr), G D' = some (.lst ys) ∧ ys.length = i ∧ OwAll K G ys ((L.take i).map plyD) fp ∧ D' ∉ fp ∧ (∀ x ∈ fp, H2 x = none) ∧ Same H2 G) ⟨[], [], upd_same, rfl, .nil, by simp, fun x h => by simp at h, same_upd hD⟩ (fun i G _ ⟨_, _, _, _, _, _, _, s⟩ => s.seq qa) ?_ ?_
  · rintro i y G hi ⟨ys, fp, kD, ly, oG, nD, fr, sG⟩
    obtain ⟨pp, ep, dp⟩ := dps_at' da hi
    have li := (List.getElem?_eq_some_iff.mp hi).1
    obtain ⟨t0, v1, v2, rfl, qt, d1, d2⟩ := two_dp dp
    cases d1
    obtain ⟨a2, zs, rfl, qz, dz⟩ := lst_dp d2
    refine ⟨t0, _, rfl, (sqt_same sG qt), rfl, _, _, rfl, _, _, rfl, rfl, rfl, lc_yes ?_⟩
    refine ⟨_, rfl, _, rfl, a2, zs, rfl, .inl (sG.seq qz), fun e he => ⟨by show 2 ≤ sizeLine; decide, fun u hu => ?_⟩⟩
    have s3 := (same_upd (o := .lst zs) he).trans (same_upd (o := .tup [.bl pp.1, .ref e]) hu)
    have lD : ∀ x ∈ fp, x ≠ D' := fun x h z => nD (by rw [← z]; exact h)
    have eD : e ≠ D' := (ne_of_none kD he).symm
    have kD3 := s3 _ _ kD
    have e3 := same_upd (o := .tup [.bl pp.1, .ref e]) hu _ _ (upd_same (a := e) (H := G) (o := .lst zs))
    have o3 : OwAll K _ (ys ++ [.ref u]) ((L.take i).map plyD ++ [plyD pp]) (fp ++ [e]) := dps_app' fp [e] (ows_same s3 oG) (.cons (.tup (SqT.of upd_same) (.cons (.bl pp.1) (.cons (.lst e3 (owsN (noLs_snds _) (dps_same (sG.trans s3) _ _ dz))) .nil))) .nil)
    refine ⟨_, kD3, Nat.lt_of_lt_of_le (show ys.length < 200 by omega) (by decide), ys ++ [.ref u], fp ++ [e], upd_same, by rw [List.length_append, ly]; rfl, ?_, fun h => ?_, fun x h => ?_, ?_⟩
    · rw [List.take_succ, ep, List.map_append]
      exact ows_chgS (S := [D']) (fun x hx o ho => by rw [List.mem_singleton.mp hx, kD3] at ho; cases ho; exact mu_lst) (Chg.self.s (List.mem_singleton.mpr rfl)) _ _ _ (fun x h hx => by
        rw [List.mem_singleton] at hx
        rcases List.mem_append.mp h with h | h
        · exact lD x h hx
        · rw [List.mem_singleton.mp h] at hx; exact eD hx) o3
    · rcases List.mem_append.mp h with h | h
      · exact nD h
      · exact eD (List.mem_singleton.mp h).symm
    · rcases List.mem_append.mp h with h | h
      · exact fr x h
      · rw [List.mem_singleton.mp h]; exact sG.free he
    · intro c o ec
      rw [upd_ne (ne_of_none ec hD)]
      exact s3 _ _ (sG _ _ ec)
  · rintro G ⟨ys, fp, kD, ly, oG, nD, fr, sG⟩
    have kG := sG _ _ kp2
    have pD : p ≠ D' := ne_of_none kp2 hD
    refine ⟨_, rfl, p, C, dx, _, rfl, kG, S.cl, S.plays, (by show 3 < 1000; decide), ?_⟩
    refine ⟨_, rfl, p, C, dx, _, rfl, upd_same, S.cl, S.played, (by show 4 < 1000; decide), ?_⟩
    rw [upd_upd, puF_rest]
    rw [lx, List.take_length] at oG
    refine q D' (D' :: fp) _ (fun x h => ?_) ?_ ?_ upd_same
    · rcases List.mem_cons.mp h with rfl | h
      · exact H2n hD
      · exact H2n (fr x h)
    · intro b o nb e
      rw [upd_ne nb]
      exact sG _ _ (s2 _ _ (by rw [upd_ne nb]; exact e))
    · exact ow_chgI kG Chg.self (.lst kD oG)
end

end G0
namespace G0
open PySem PySem.Spec PyProof.Rows L2 NdefX ClX
/-! ### what is sent, as data: pairs (to, a tuple) -/
abbrev Itm := Int × List PyData
def itD (i : Itm) : PyData := .tuple [.int i.1, .tuple i.2]
def trn (ms : List Int) (s : Snd) : Itm := ((ms[s.to.toNat]?).getD 0, [.str s.z, .int s.k])
def Its (is : List Itm) : Prop := ∀ i ∈ is, noLs i.2 = true
theorem noLs_its : ∀ {is : List Itm}, Its is → noLs (is.map itD) = true
  | [], _ => rfl
  | i :: is, h => by
    have h1 := h i (List.mem_cons_self ..)
    have h2 := noLs_its (is := is) (fun j hj => h j (List.mem_cons_of_mem _ hj))
    simp only [List.map_cons, noLs, itD, noL, h1, Bool.true_and, Bool.and_true]
    exact h2
theorem its_trn (ms : List Int) (ss : List Snd) : Its (ss.map (trn ms)) := fun i h => by
  obtain ⟨s, _, rfl⟩ := List.mem_map.mp h
  rfl
section
variable {P : Program} {w : World} {K : PySem.W.Frag} {mg : Str → Option Value} {base : Heap} {C CP f : Addr} {fd : FuncData}
/-! ### sent_by -/
def spSent (K : PySem.W.Frag) : Sp := fun vs H Q _ => ∃ (r mts : Addr) (ys : List V) (ss : List Snd) (ms : List Int), vs = [.ref r, .ref mts] ∧ SqL K H r ys ∧ DpAll K H ys (ss.map sndD) ∧ SqL K H mts (ms.map V.int) ∧ (∀ s ∈ ss, SndOk ms.length s) ∧ ss.length ≤ 5 ∧
  ∀ (r' : Addr) (zs : List V) H', H r' = none → Same H H' → H' r' = some (.lst zs) → DpAll K H' zs ((ss.map (trn ms)).map itD) → Q (.ref r') H'
theorem sc_sent_by : FnScope ["sends", "mates", "part", "letter"] ["sends", "mates"] (defScope s_sent_by) :=
  ⟨rfl, rfl, rfl, by decide +kernel, rfl, by decide +kernel, by decide +kernel⟩
theorem ok_sent (F : Fn K mg "sent_by" s_sent_by) : Cal P w K mg base "sent_by" 1 ["sends", "mates"] (spSent K) := by
  refine cal_of F sc_sent_by
    (fun _ _ _ _ _ _ us hl => match us, hl with | [_, _], _ => rfl) ?_ ?_
  · rintro vs H Q E ⟨r, mts, ys, ss, ms, rfl, _⟩
    rfl
  rintro f cdv A outer s' H vs Q E free hr ⟨r, mts, ys, ss, ms, rfl, hs, hd, hm, ok, l5, q⟩
  refine ⟨_, (pss_one (ps_ret (pe_lc (own := [("part", 2), ("letter", 3)]) (g := gTup K 2 (gCons (gName 2) (gCons (gName 3) gNil))) (tt := tYes) (by rfl) sc_sent_by.nd (pi_list (pv 0)) (blkOk_by (N := ["sends", "mates", "part", "letter"]) (sc := defScope s_sent_by) (by decide +kernel)) (fun _ _ _ _ _ => pg_tup (by rfl) (pgs_cons (pg_name (i := 2) sc_sent_by.nd rfl (Or.inl rfl)) (pgs_cons (pg_name (i := 3) sc_sent_by.nd rfl (Or.inl rfl)) pgs_nil))) (fun _ _ _ _ _ => pts_nil) (fun _ _ _ _ _ => (pe_tup (pa_cons (pe_ix (ix_listK K) (pv 1) (pv 2) (fun _ _ => rfl)) (pa_cons (pv 3) pa_nil))))))), ?_⟩
  have ly : ys.length = ss.length := by rw [dps_len hd, List.length_map]
  refine ⟨_, rfl, r, rfl, ⟨_, hs⟩, fun D hD => ?_⟩
  refine lc_list (K := K) (a := r) (xs := ys) (fun i G => Same H G ∧ ∃ zs, zs.length = i ∧ G D = some (.lst zs) ∧ DpAll K G zs (((ss.take i).map (trn ms)).map itD)) ⟨same_upd hD, [], rfl, upd_same, .nil⟩ (fun i G _ h => h.1.seq hs) ?_ ?_
  · rintro i y G hi ⟨sG, zs, lz, kD, dz⟩
    obtain ⟨s, es, ds⟩ := dps_at' hd hi
    have li := (List.getElem?_eq_some_iff.mp hi).1
    have so := ok s (List.mem_of_getElem? es)
    obtain ⟨t0, v1, v2, rfl, qt, d1, d2⟩ := two_dp ds
    cases d1
    have s0 := so.low
    have s1 := so.top
    have hms : (ms.map V.int)[s.to.toNat]? = some (V.int ((ms[s.to.toNat]?).getD 0)) := by
      rw [List.getElem?_map, List.getElem?_eq_getElem (by omega)]
      rfl
    have at_ : atI (ms.map V.int) s.to = some (V.int ((ms[s.to.toNat]?).getD 0)) := by
      have := atI_nat hms
      rw [Int.toNat_of_nonneg s0] at this
      exact this
    refine ⟨t0, _, rfl, sqt_same sG qt, rfl, _, _, rfl, _, _, rfl, rfl, rfl, lc_yes ?_⟩
    refine ⟨_, rfl, _, rfl, mts, _, _, _, rfl, rfl, sG.seq hm, at_, _, rfl, by show 2 ≤ sizeLine; decide, fun u hu => ?_⟩
    have s3 := same_upd (o := .tup [V.int ((ms[s.to.toNat]?).getD 0), v2]) hu
    have kD3 := s3 _ _ kD
    refine ⟨_, kD3, Nat.lt_of_lt_of_le (show zs.length < 100 by omega) (by decide), fun c o e => ?_, zs ++ [.ref u], by rw [List.length_append, lz]; rfl, upd_same, ?_⟩
    · rw [upd_ne (ne_of_none e hD)]
      exact s3 _ _ (sG _ _ e)
    · have n1 : noLs (((ss.take (i + 1)).map (trn ms)).map itD) = true := noLs_its (its_trn _ _)
      refine dps_chg ⟨_, kD3⟩ Chg.self _ _ n1 ?_
      rw [List.take_succ, es, List.map_append, List.map_append]
      refine dps_app (dps_same s3 _ _ dz) (.cons (.tup (SqT.of upd_same) (.cons (.int _) (.cons (dp_same (sG.trans s3) _ _ d2) .nil))) .nil)
  rintro G ⟨sG, zs, lz, kD, dz⟩
  rw [ly, List.take_length] at dz
  exact q D zs G hD sG kD dz
end

end G0
namespace G0
open PySem PySem.Spec PyProof.Rows L2
/-! ### data under a change of objects -/
section
variable {K : PySem.W.Frag} {H H' : Hp} {S : List Addr}
def InsS (S : List Addr) (H : Hp) : Prop := ∀ b ∈ S, ∃ C dx fs, H b = some (.ins C dx fs)
theorem sqt_chgO (m : InsS S H) (c : ChgS S H H') {a : Addr} {xs : List V} (h : SqT K H a xs) : SqT K H' a xs := by
  rcases h with (h | ⟨o, h⟩) | h
  · exact .inl (.inl (c _ _ (fun z => by obtain ⟨_, _, _, e⟩ := m a z; rw [e] at h; cases h) h))
  · exact .inl (.inr ⟨o, c _ _ (fun z => by obtain ⟨_, _, _, e⟩ := m a z; rw [e] at h; cases h) h⟩)
  · exact .inr h
theorem sql_chgO (m : InsS S H) (c : ChgS S H H') {a : Addr} {xs : List V} (h : SqL K H a xs) : SqL K H' a xs := by
  rcases h with (h | ⟨o, h⟩) | h
  · exact .inl (.inl (c _ _ (fun z => by obtain ⟨_, _, _, e⟩ := m a z; rw [e] at h; cases h) h))
  · exact .inl (.inr ⟨o, c _ _ (fun z => by obtain ⟨_, _, _, e⟩ := m a z; rw [e] at h; cases h) h⟩)
  · exact .inr h
mutual
theorem dp_chgO (m : InsS S H) (c : ChgS S H H') : ∀ (d : PyData) (v : V), Dp K H v d → Dp K H' v d
  | .none, _, h => by cases h; exact .non
  | .bool _, _, h => by cases h; exact .bl _
  | .int _, _, h => by cases h; exact .int _
  | .str _, _, h => by cases h; exact .str _
  | .list ds, _, h => by
    cases h with
    | lst hs ha => exact .lst (sql_chgO m c hs) (dps_chgO m c ds _ ha)
  | .dict _, _, h => by cases h
  | .tuple ds, _, h => by
    cases h with
    | tup hs ha => exact .tup (sqt_chgO m c hs) (dps_chgO m c ds _ ha)
theorem dps_chgO (m : InsS S H) (c : ChgS S H H') : ∀ (ds : List PyData) (vs : List V), DpAll K H vs ds → DpAll K H' vs ds
  | [], _, h => by cases h; exact .nil
  | d :: ds, _, h => by
    cases h with
    | cons h1 h2 => exact .cons (dp_chgO m c d _ h1) (dps_chgO m c ds _ h2)
end
end

end G0
namespace G0
open PySem PySem.Spec PyProof.Rows L2 NdefX ClX
theorem seq_by {A B : TS} {D : Ends} {σ : L2.St} {H : Hp} (Inv : L2.St → Hp → Prop) (first : ∀ N : L2.St → Hp → Prop, (∀ σ G, Inv σ G → N σ G) → A { D with nx := N } σ H) (rest : ∀ σ G, Inv σ G → B D σ G) : tSeq A B D σ H := first _ rest
section
variable {P : Program} {w : World} {K : PySem.W.Frag} {mg : Str → Option Value} {base : Heap} {C CP f : Addr} {fd : FuncData}
/-! ### a porter -/
structure PtT (K : PySem.W.Frag) (C : Addr) : Prop where
  cl : Cls K C
  me : NoAttr K C "me"
  state : NoAttr K C "state"
  sits : NoAttr K C "sits"
  inner : NoAttr K C "inner"
  porter : NoAttr K C "porter"
  serves : NoAttr K C "serves"
  mates : NoAttr K C "_mates"
  waits : NoAttr K C "_waits"
def porV : Option Int → V
  | none => .non
  | some q => .int q
structure MV where
  me : Int
  si : Bool
  por : Option Int
  ms : List Int
  L : List (Bool × List Snd)
  meP : Int
  siP : Bool
structure MA where
  p : Addr
  dx : Addr
  inr : Addr
  dxP : Addr
  mts : Addr
  pl : Addr
  fp : List Addr
structure Pt (K : PySem.W.Frag) (C CP : Addr) (v : MV) (a : MA) (sv wt : Option Int) (sP : Str) (k : Nat) (H : Hp) : Prop where
  hp : H a.p = some (.ins C a.dx (ptF v.me "out" v.si a.inr (porV v.por) (porV sv) a.mts (porV wt)))
  pup : Pup K CP H a.inr a.dxP v.meP sP v.siP a.pl k v.L a.fp
  hm : H a.mts = some (.lst (v.ms.map V.int))
  ok : ∀ x ∈ v.L, PlyOk v.ms.length x
  few : v.ms.length ≤ 6
  nd : v.ms.Nodup
theorem nxt_ok {n : Int} {L : List (Bool × List Snd)} (ok : ∀ x ∈ L, PlyOk n x) (k : Nat) : PlyOk n (nxt L k) := by
  unfold nxt
  cases e : L[k]? with
  | none => exact ⟨Nat.zero_le _, fun s h => by simp at h⟩
  | some p => exact ok p (List.mem_of_getElem? e)
theorem chg2 {p q : Addr} {H H' H1 : Hp} (c : Chg q H H1) (d : Chg p H1 H') : ChgS [p, q] H H' := fun b o n e => by
  simp only [List.mem_cons, List.not_mem_nil, or_false, not_or] at n
  exact d _ _ n.1 (c _ _ n.2 e)
theorem first_at : ∀ {ms : List Int} {s : Int}, s ∈ ms → ∃ j, (ms.map V.int)[j]? = some (.int s) ∧ ∀ (m : Nat) (z' : V), m < j → (ms.map V.int)[m]? = some z' → eqV z' (.int s) = false
  | [], _, h => by cases h
  | x :: ms, s, h => by
    by_cases e : x = s
    · exact ⟨0, by rw [e]; rfl, fun m z h => by cases h⟩
    · rcases List.mem_cons.mp h with z | h
      · exact absurd z.symm e
      · obtain ⟨j, h1, h2⟩ := first_at h
        refine ⟨j + 1, h1, fun m z hm hz => ?_⟩
        cases m with
        | zero =>
          have : V.int x = z := by simpa using hz
          rw [← this]
          simp [eqV, e]
        | succ m => exact h2 m z (by omega) hz
section
variable {v : MV} {a : MA} {sv wt : Option Int} {sP : Str} {k : Nat} {H H' : Hp}
theorem Pt.ne (M : Pt K C CP v a sv wt sP k H) : a.p ≠ a.inr := fun z => by
  have h1 := M.hp
  rw [z, M.pup.hp] at h1
  simp only [Option.some.injEq, HO.ins.injEq] at h1
  have := congrArg List.length h1.2.2
  simp [ptF, puF] at this
theorem Pt.same (M : Pt K C CP v a sv wt sP k H) (s : Same H H') : Pt K C CP v a sv wt sP k H' := { M with hp := s _ _ M.hp, pup := M.pup.same s, hm := s _ _ M.hm }
theorem Pt.nem (M : Pt K C CP v a sv wt sP k H) : a.mts ≠ a.p := ne_of M.hm M.hp (by intro z; cases z)
theorem Pt.nemI (M : Pt K C CP v a sv wt sP k H) : a.mts ≠ a.inr := ne_of M.hm M.pup.hp (by intro z; cases z)
/-- whom it serves, who waits -/
theorem Pt.put (M : Pt K C CP v a sv wt sP k H) (sv2 wt2 : Option Int) : Pt K C CP v a sv2 wt2 sP k (upd H a.p (.ins C a.dx (ptF v.me "out" v.si a.inr (porV v.por) (porV sv2) a.mts (porV wt2)))) :=
  { M with
    hp := upd_same
    pup := { M.pup with hp := by rw [upd_ne M.ne.symm]; exact M.pup.hp
                        ow := ow_chgI M.hp Chg.self M.pup.ow }
    hm := by rw [upd_ne M.nem]; exact M.hm }
/-- the puppet has done a deed -/
theorem Pt.did (M : Pt K C CP v a sv wt sP k H) (c : Chg a.inr H H') {s2 : Str} (e : H' a.inr = some (.ins CP a.dxP (puF v.meP s2 v.siP a.pl ((nxk v.L k : Nat) : Int)))) : Pt K C CP v a sv wt s2 (nxk v.L k) H' :=
  { M with
    hp := c _ _ M.ne M.hp
    pup := { M.pup with hp := e
                        ow := ow_chgI M.pup.hp c M.pup.ow
                        le := by
                          unfold nxk
                          have := M.pup.le
                          split <;> omega }
    hm := c _ _ M.nemI M.hm }
theorem Pt.back (M : Pt K C CP v a sv wt sP k H') (c : ChgS [a.p, a.inr] H H') {q : Addr} (h : H' q = none) : H q = none := c.back h (by
  simp only [List.mem_cons, List.not_mem_nil, or_false, not_or]
  exact ⟨fun z => (by rw [z, M.hp] at h; cases h), fun z => (by rw [z, M.pup.hp] at h; cases h)⟩)
end
theorem Pt.insS {v : MV} {a : MA} {sv wt : Option Int} {sP : Str} {k : Nat} {H : Hp} (M : Pt K C CP v a sv wt sP k H) : InsS [a.p, a.inr] H := fun b hb => by
  simp only [List.mem_cons, List.not_mem_nil, or_false] at hb
  rcases hb with rfl | rfl
  · exact ⟨_, _, _, M.hp⟩
  · exact ⟨_, _, _, M.pup.hp⟩
def cinP (por sv : Option Int) (was now : Str) : List Itm := if was = "in" ∨ now ≠ "in" then [] else match por with | none => [(sv.getD 0, [.str "yours"])] | some q => [(q, [.str "please"])]
def doneI : Option Int → List Itm
  | none => []
  | some q => [(q, [.str "done"])]
theorem its_cinP (por sv : Option Int) (was now : Str) : Its (cinP por sv was now) := by
  unfold cinP
  split
  · intro i h; simp at h
  · cases por with
    | none => intro i h; rw [List.mem_singleton.mp h]; rfl
    | some q => intro i h; rw [List.mem_singleton.mp h]; rfl
theorem cinP_len (por sv : Option Int) (was now : Str) : (cinP por sv was now).length ≤ 1 := by
  unfold cinP
  split
  · exact Nat.zero_le _
  · split <;> simp
structure Pls (K : PySem.W.Frag) (mg : Str → Option Value) : Prop where
  please : ∃ e, mg "PLEASE" = some (.ref e) ∧ ∀ H, SqT K H e [.str "please"]
  done : ∃ e, mg "DONE" = some (.ref e) ∧ ∀ H, SqT K H e [.str "done"]
  yours : ∃ e, mg "YOURS" = some (.ref e) ∧ ∀ H, SqT K H e [.str "yours"]
/-! ### _come_in -/
def spCome (K : PySem.W.Frag) (C CP : Addr) : Sp := fun vs H Q _ => ∃ (v : MV) (a : MA) (sv wt : Option Int) (sP : Str) (k : Nat) (was : Str), vs = [.ref a.p, .str was] ∧ Pt K C CP v a sv wt sP k H ∧ (¬ (was = "in" ∨ sP ≠ "in") → sv ≠ none) ∧
  ∀ (r : Addr) (ys : List V) H', H r = none → Same H H' → H' r = some (.lst ys) → DpAll K H' ys ((cinP v.por sv was sP).map itD) → Q (.ref r) H'
theorem sc_Porter_come_in : FnScope ["self", "was"] ["self", "was"] (defScope s_Porter_come_in) :=
  ⟨rfl, rfl, rfl, by decide +kernel, rfl, by decide +kernel, by decide +kernel⟩
theorem ok_come (F : Fun K "_come_in" "Porter._come_in" s_Porter_come_in f fd) (S : PtT K C) (SP : PupT K CP) (G : Pls K mg) : FnOk P w K mg base CX0 1 f fd ["self", "was"] (spCome K C CP) := by
  obtain ⟨⟨e, hPl, hS⟩, _, e', hYo, hS'⟩ := G
  refine F.ok sc_Porter_come_in (fun vs H Q E h => ?_) (fun cdv A outer s H vs Q E hr h => ?_)
  · obtain ⟨v, a, _, _, _, _, _, rfl, _⟩ := h
    rfl
  obtain ⟨v, a, sv, wt, sP, k, was, rfl, M, hsv, q⟩ := h
  refine ⟨_, (pss_cons (ps_if (PW.pt (pw_or (pt_cmpR op_eq (pv 1) pe_str (nomark _)) (pw_or1 (pt_cmpR op_ne (pe_fld (pe_fld (pv 0) (by rfl)) (by rfl)) pe_str (nomark _)))))
    (pss_one (ps_ret (pe_lst pa_nil)))
    pss_nil)
    (pss_cons (ps_if (pt_cmpR op_isN (pe_fld (pv 0) (by rfl)) pe_non (nomark _))
    (pss_one (ps_ret (pe_lst (pa_cons (pe_tup (pa_cons (pe_fld (pv 0) (by rfl)) (pa_cons (pe_glob (v := .ref e') (by rfl) hYo rfl) pa_nil))) pa_nil))))
    pss_nil)
    (pss_one (ps_ret (pe_lst (pa_cons (pe_tup (pa_cons (pe_fld (pv 0) (by rfl)) (pa_cons (pe_glob (v := .ref e) (by rfl) hPl rfl) pa_nil))) pa_nil)))))), ?_⟩
  refine ⟨_, rfl, rfl, _, rfl, ?_⟩
  rw [dec_str]
  have fI := ptF_inr v.me "out" v.si a.inr (porV v.por) (porV sv) a.mts (porV wt)
  have fP := ptF_por v.me "out" v.si a.inr (porV v.por) (porV sv) a.mts (porV wt)
  have fV := ptF_srv v.me "out" v.si a.inr (porV v.por) (porV sv) a.mts (porV wt)
  have fS := puF_stt v.meP sP v.siP a.pl (k : Int)
  have nil : cinP v.por sv was sP = [] → (tRet (tLst tNil) { nx := fun _ H' => Q V.non H', rt := Q } (L2.start ["self", "was"] [V.ref a.p, V.str was]) H) := fun e1 => by
    refine ⟨Nat.zero_le _, fun r hr' => q r [] _ hr' (same_upd hr') upd_same ?_⟩
    rw [e1]; exact .nil
  refine ite2 (fun c => ?_) (fun c => ?_)
  · have c' : was = "in" := of_decide_eq_true c
    refine iteT' rfl ?_
    exact nil (by unfold cinP; rw [if_pos (.inl c')])
  have c' : ¬ was = "in" := fun z => c (decide_eq_true z)
  refine ⟨_, rfl, a.p, C, a.dx, _, _, rfl, M.hp, S.cl, S.inner, fI, a.inr, CP, a.dxP, _, _, rfl, M.pup.hp, SP.cl, SP.state, fS, rfl, _, rfl, ?_⟩
  rw [dec_str]
  by_cases ci : ¬ sP = "in"
  · refine iteT' (by simp [ci]) ?_
    exact nil (by unfold cinP; rw [if_pos (.inr ci)])
  have ci := Classical.not_not.mp ci
  refine iteF' (by simp [ci]) ?_
  have nc : ¬ (was = "in" ∨ sP ≠ "in") := fun z => z.elim c' (fun h => h ci)
  refine ⟨_, rfl, a.p, C, a.dx, _, _, rfl, M.hp, S.cl, S.porter, fP, rfl, _, rfl, ?_⟩
  rcases (show v.por = none ∨ ∃ g, v.por = some g by cases v.por <;> simp) with hpor | ⟨g, hpor⟩
  · refine iteT' (by rw [hpor]; rfl) ?_
    obtain ⟨x, hx⟩ : ∃ x, sv = some x := by
      cases e : sv with
      | none => exact absurd e (hsv nc)
      | some x => exact ⟨x, rfl⟩
    refine ⟨_, rfl, a.p, C, a.dx, _, _, rfl, M.hp, S.cl, S.serves, fV, by show 2 ≤ sizeLine; decide, fun t ht => ⟨by show 1 ≤ sizeLine; decide, fun r hr' => ?_⟩⟩
    have s1 := same_upd (o := .tup [porV sv, .ref e']) ht
    have s2 := s1.trans (same_upd (o := .lst [.ref t]) hr')
    refine q r [.ref t] _ (s1.free hr') s2 upd_same ?_
    have e1 : cinP v.por sv was sP = [(x, [.str "yours"])] := by unfold cinP; rw [if_neg nc, hpor, hx]; rfl
    have e2 : porV sv = .int x := by rw [hx]; rfl
    rw [e1]
    exact .cons (.tup (xs := [.int x, .ref e']) (SqT.of (by have := same_upd (o := .lst [.ref t]) hr' _ _ upd_same; rw [e2] at this ⊢; exact this)) (.cons (.int _) (.cons (.tup (hS' _) (.cons (.str _) .nil)) .nil))) .nil
  · refine iteF' (by rw [hpor]; rfl) ?_
    refine ⟨_, rfl, a.p, C, a.dx, _, _, rfl, M.hp, S.cl, S.porter, fP, by show 2 ≤ sizeLine; decide, fun t ht => ⟨by show 1 ≤ sizeLine; decide, fun r hr' => ?_⟩⟩
    have s1 := same_upd (o := .tup [porV v.por, .ref e]) ht
    have s2 := s1.trans (same_upd (o := .lst [.ref t]) hr')
    refine q r [.ref t] _ (s1.free hr') s2 upd_same ?_
    have e1 : cinP v.por sv was sP = [(g, [.str "please"])] := by unfold cinP; rw [if_neg nc, hpor]
    have e2 : porV v.por = .int g := by rw [hpor]; rfl
    rw [e1]
    exact .cons (.tup (xs := [.int g, .ref e]) (SqT.of (by have := same_upd (o := .lst [.ref t]) hr' _ _ upd_same; rw [e2] at this ⊢; exact this)) (.cons (.int _) (.cons (.tup (hS _) (.cons (.str _) .nil)) .nil))) .nil
end

end G0
namespace G0
open PySem PySem.Spec PyProof.Rows L2 NdefX ClX
section
variable {P : Program} {w : World} {K : PySem.W.Frag} {mg : Str → Option Value} {base : Heap} {C CP f : Addr} {fd : FuncData}
/-! ### _serve, _hear_please, _hear_done -/
def srvI (v : MV) (s : Int) (sP : Str) (k : Nat) : List Itm := (nxt v.L k).2.map (trn v.ms) ++ cinP v.por (some s) "out" (gAsk (nxt v.L k).1 sP)
theorem its_app {a b : List Itm} (h : Its a) (g : Its b) : Its (a ++ b) := fun i hi => (List.mem_append.mp hi).elim (h i) (g i)
theorem its_srv (v : MV) (s : Int) (sP : Str) (k : Nat) : Its (srvI v s sP k) := its_app (its_trn _ _) (its_cinP _ _ _ _)
def spServe (K : PySem.W.Frag) (C CP : Addr) : Sp := fun vs H Q _ => ∃ (v : MV) (a : MA) (sv wt : Option Int) (sP : Str) (k : Nat) (s : Int), vs = [.ref a.p, .int s] ∧ Pt K C CP v a sv wt sP k H ∧
  ∀ (r : Addr) (ys : List V) H', H r = none → ChgS [a.p, a.inr] H H' → H' r = some (.lst ys) → DpAll K H' ys ((srvI v s sP k).map itD) → Pt K C CP v a (some s) wt (gAsk (nxt v.L k).1 sP) (nxk v.L k) H' → Q (.ref r) H'
theorem sc_Porter_serve : FnScope ["self", "sender", "sends"] ["self", "sender"] (defScope s_Porter_serve) :=
  ⟨rfl, rfl, rfl, by decide +kernel, rfl, by decide +kernel, by decide +kernel⟩
theorem ok_serve (F : Fun K "_serve" "Porter._serve" s_Porter_serve f fd) (S : PtT K C) (SP : PupT K CP) (Csent_by : Cal P w K mg base "sent_by" 1 ["sends", "mates"] (spSent K)) (MA' : Me P w K mg base CP "ask" 3 ["self"] (spPup K CP 0 gAsk)) (MC : Me P w K mg base C "_come_in" 1 ["self", "was"] (spCome K C CP)) :
    FnOk P w K mg base CX0 4 f fd ["self", "sender"] (spServe K C CP) := by
  obtain ⟨fA, fdA, GA, bA, mA⟩ := MA'
  obtain ⟨fC, fdC, GC, bC, mC⟩ := MC
  refine F.ok sc_Porter_serve (fun vs H Q E h => ?_) (fun cdv A outer s H vs Q E hr h => ?_)
  · obtain ⟨v, a, _, _, _, _, _, rfl, _⟩ := h
    rfl
  obtain ⟨v, a, sv, wt, sP, k, s, rfl, M, q⟩ := h
  have free := True.intro
  have hr3 : Room 3 _ := hr
  have hr1 : Room 1 _ := hr.mono (by decide)
  refine ⟨_, (pss_cons (ps_set (i := 2) sc_Porter_serve.nd rfl (Or.inl rfl) (pe_cal Csent_by free (hr.mono (by decide)) (pa_cons (pe_meth0 (pe_fld (pv 0) (by rfl)) SP.cl mA GA hr3 bA .nil pass0) (pa_cons (pe_fld (pv 0) (by rfl)) pa_nil))))
    (pss_cons (ps_fld (pv 0) (pv 1) rfl)
    (pss_one (ps_ret (pe_op op_cat (pv 2) (pe_meth (pv 0) S.cl mC GC hr1 bC .nil pass0 (pa_cons pe_str pa_nil))))))), ?_⟩
  refine ⟨_, rfl, a.p, C, a.dx, _, _, rfl, M.hp, S.cl, S.inner, ptF_inr _ _ _ _ _ _ _ _, a.inr, a.dxP, _, rfl, M.pup.hp, (puF_no _ _ _ _ _ (by decide +kernel) (by decide +kernel) (by decide +kernel) (by decide +kernel) (by decide +kernel)), a.inr, [], a.dxP, v.meP, sP, v.siP, a.pl, k, v.L, a.fp, rfl, rfl, M.pup, fun r ys H1 hr0 cg kr dy kp => ?_⟩
  have M1 := M.did cg kp
  have po := nxt_ok M.ok k
  refine ⟨_, rfl, a.p, C, a.dx, _, _, rfl, M1.hp, S.cl, S.mates, ptF_mts _ _ _ _ _ _ _ _, r, a.mts, ys, (nxt v.L k).2, v.ms, rfl, SqL.of kr, dy, SqL.of M1.hm, po.2, po.1, fun r' zs H2 hr' s2 kr' dz => ?_⟩
  have M2 := M1.same s2
  refine ⟨_, rfl, _, rfl, a.p, C, a.dx, _, rfl, M2.hp, S.cl, S.serves, (by show 8 < 1000; decide), ?_⟩
  rw [ptF_put_srv]
  have M3 := M2.put (some s) wt
  have rp : r' ≠ a.p := ne_of kr' M2.hp (by intro z; cases z)
  have dz3 := dps_chgI M2.hp (Chg.self (o := .ins C a.dx (ptF v.me "out" v.si a.inr (porV v.por) (.int s) a.mts (porV wt)))) (noLs_its (its_trn _ _)) dz
  refine ⟨_, rfl, _, rfl, a.p, a.dx, _, rfl, M3.hp, (ptF_no _ _ _ _ _ _ _ _ (by decide +kernel) (by decide +kernel) (by decide +kernel) (by decide +kernel) (by decide +kernel) (by decide +kernel) (by decide +kernel) (by decide +kernel)), v, a, some s, wt, _, _, "out", rfl, M3, fun _ => nofun, fun r2 ys2 H4 hr2 s4 kr2 d2 => ?_⟩
  have M4 := M3.same s4
  have kr4 := s4 _ _ ((upd_ne rp).trans kr')
  have dz4 := dps_same s4 _ _ dz3
  have l1 : zs.length ≤ 5 := by rw [dps_len dz, List.length_map, List.length_map]; exact po.1
  have l2 : ys2.length ≤ 1 := by
    rw [dps_len d2, List.length_map]
    exact cinP_len _ _ _ _
  refine ⟨r', r2, zs, ys2, rfl, rfl, kr4, kr2, Nat.le_trans (show zs.length + ys2.length ≤ 6 by omega) (by decide), fun l hl => ?_⟩
  have s5 := same_upd (o := .lst (zs ++ ys2)) hl
  have c04 : ChgS [a.p, a.inr] H H4 := chg2 cg (((Chg.same s2).trans Chg.self).trans (Chg.same s4))
  refine q l _ _ (M4.back c04 hl) (c04.trans (Same.s s5)) upd_same ?_ (M4.same s5)
  unfold srvI
  rw [List.map_append]
  exact dps_same s5 _ _ (dps_app dz4 d2)
def spPlease (K : PySem.W.Frag) (C CP : Addr) : Sp := fun vs H Q _ => ∃ (v : MV) (a : MA) (sv wt : Option Int) (sP : Str) (k : Nat) (s : Int), vs = [.ref a.p, .int s] ∧ Pt K C CP v a sv wt sP k H ∧
  ((sv = none ∧ ∀ (r : Addr) (ys : List V) H', H r = none → ChgS [a.p, a.inr] H H' → H' r = some (.lst ys) → DpAll K H' ys ((srvI v s sP k).map itD) → Pt K C CP v a (some s) wt (gAsk (nxt v.L k).1 sP) (nxk v.L k) H' → Q (.ref r) H') ∨
   (sv ≠ none ∧ ∀ (r : Addr) H', H r = none → ChgS [a.p, a.inr] H H' → H' r = some (.lst []) → Pt K C CP v a sv (some s) sP k H' → Q (.ref r) H'))
theorem sc_Porter_hear_please : FnScope ["self", "sender"] ["self", "sender"] (defScope s_Porter_hear_please) :=
  ⟨rfl, rfl, rfl, by decide +kernel, rfl, by decide +kernel, by decide +kernel⟩
theorem ok_please (F : Fun K "_hear_please" "Porter._hear_please" s_Porter_hear_please f fd) (S : PtT K C) (MS : Me P w K mg base C "_serve" 4 ["self", "sender"] (spServe K C CP)) :
    FnOk P w K mg base CX0 5 f fd ["self", "sender"] (spPlease K C CP) := by
  obtain ⟨fA, fdA, GA, bA, mA⟩ := MS
  refine F.ok sc_Porter_hear_please (fun vs H Q E h => ?_) (fun cdv A outer s H vs Q E hr h => ?_)
  · obtain ⟨v, a, _, _, _, _, _, rfl, _⟩ := h
    rfl
  obtain ⟨v, a, sv, wt, sP, k, s, rfl, M, h⟩ := h
  have hr4 : Room 4 _ := hr
  refine ⟨_, (pss_cons (ps_if (pt_cmpR op_isN (pe_fld (pv 0) (by rfl)) pe_non (nomark _))
    (pss_one (ps_ret (pe_meth (pv 0) S.cl mA GA hr4 bA .nil pass0 (pa_cons (pv 1) pa_nil))))
    pss_nil)
    (pss_cons (ps_fld (pv 0) (pv 1) rfl)
    (pss_one (ps_ret (pe_lst pa_nil))))), ?_⟩
  refine ⟨_, rfl, a.p, C, a.dx, _, _, rfl, M.hp, S.cl, S.serves, ptF_srv _ _ _ _ _ _ _ _, rfl, _, rfl, ?_⟩
  rcases h with ⟨hsv, q⟩ | ⟨hsv, q⟩
  · refine iteT' (by rw [hsv]; rfl) ?_
    exact ⟨_, rfl, a.p, a.dx, _, rfl, M.hp, (ptF_no _ _ _ _ _ _ _ _ (by decide +kernel) (by decide +kernel) (by decide +kernel) (by decide +kernel) (by decide +kernel) (by decide +kernel) (by decide +kernel) (by decide +kernel)), _, rfl, v, a, sv, wt, sP, k, s, rfl, M, q⟩
  · refine iteF' (by cases sv with
      | none => exact absurd rfl hsv
      | some x => rfl) ?_
    refine ⟨_, rfl, _, rfl, a.p, C, a.dx, _, rfl, M.hp, S.cl, S.waits, (by show 8 < 1000; decide), ?_⟩
    rw [ptF_put_wts]
    refine ⟨Nat.zero_le _, fun r hr' => ?_⟩
    have M2 := M.put sv (some s)
    have c05 : ChgS [a.p, a.inr] H _ := chg2 (Chg.same (Same.refl H)) (Chg.self (o := .ins C a.dx (ptF v.me "out" v.si a.inr (porV v.por) (porV sv) a.mts (.int s))))
    exact q r _ (M2.back c05 hr') (c05.trans (Same.s (same_upd hr'))) upd_same (M2.same (same_upd hr'))
end

end G0
namespace G0
open PySem PySem.Spec PyProof.Rows L2 NdefX ClX
section
variable {P : Program} {w : World} {K : PySem.W.Frag} {mg : Str → Option Value} {base : Heap} {C CP f : Addr} {fd : FuncData}
def leftI (v : MV) (k : Nat) : List Itm := doneI v.por ++ (nxt v.L k).2.map (trn v.ms)
theorem its_left (v : MV) (k : Nat) : Its (leftI v k) := its_app (fun i h => by
  cases hp : v.por with
  | none => rw [hp] at h; cases h
  | some q => rw [hp] at h; rw [List.mem_singleton.mp h]; rfl) (its_trn _ _)
def spHdone (K : PySem.W.Frag) (C CP : Addr) : Sp := fun vs H Q _ => ∃ (v : MV) (a : MA) (sv wt : Option Int) (sP : Str) (k : Nat), vs = [.ref a.p] ∧ Pt K C CP v a sv wt sP k H ∧
  ((wt = none ∧ ∀ (r : Addr) (ys : List V) H', H r = none → ChgS [a.p, a.inr] H H' → H' r = some (.lst ys) → DpAll K H' ys ((leftI v k).map itD) → Pt K C CP v a none none "out" (nxk v.L k) H' → Q (.ref r) H') ∨
   (∃ s, wt = some s ∧ ∀ (r : Addr) (ys : List V) H', H r = none → ChgS [a.p, a.inr] H H' → H' r = some (.lst ys) → DpAll K H' ys ((leftI v k ++ srvI v s "out" (nxk v.L k)).map itD) →
     Pt K C CP v a (some s) none (gAsk (nxt v.L (nxk v.L k)).1 "out") (nxk v.L (nxk v.L k)) H' → Q (.ref r) H'))
theorem sc_Porter_hear_done : FnScope ["self", "sends", "sender"] ["self"] (defScope s_Porter_hear_done) :=
  ⟨rfl, rfl, rfl, by decide +kernel, rfl, by decide +kernel, by decide +kernel⟩
theorem ok_hdone (F : Fun K "_hear_done" "Porter._hear_done" s_Porter_hear_done f fd) (S : PtT K C) (SP : PupT K CP) (G : Pls K mg) (Csent_by : Cal P w K mg base "sent_by" 1 ["sends", "mates"] (spSent K)) (MA' : Me P w K mg base CP "leave" 3 ["self"] (spPup K CP 0 gLeave)) (MS : Me P w K mg base C "_serve" 4 ["self", "sender"] (spServe K C CP)) :
    FnOk P w K mg base CX0 5 f fd ["self"] (spHdone K C CP) := by
  obtain ⟨fA, fdA, GA, bA, mA⟩ := MA'
  obtain ⟨fS, fdS, GS, bS, mS⟩ := MS
  obtain ⟨_, ⟨e, hDo, hS⟩, _⟩ := G
  refine F.ok sc_Porter_hear_done (fun vs H Q E h => ?_) (fun cdv A outer s H vs Q E hr h => ?_)
  · obtain ⟨v, a, _, _, _, _, rfl, _⟩ := h
    rfl
  obtain ⟨v, a, sv, wt, sP, k, rfl, M, h⟩ := h
  have free := True.intro
  have hr3 : Room 3 _ := hr.mono (by decide)
  have hr4 : Room 4 _ := hr
  refine ⟨_, (pss_cons (ps_set (i := 1) sc_Porter_hear_done.nd rfl (Or.inl rfl) (pe_cal Csent_by free (hr.mono (by decide)) (pa_cons (pe_meth0 (pe_fld (pv 0) (by rfl)) SP.cl mA GA hr3 bA .nil pass0) (pa_cons (pe_fld (pv 0) (by rfl)) pa_nil))))
    (pss_cons (ps_if (pt_cmpR op_notN (pe_fld (pv 0) (by rfl)) pe_non (nomark _))
    (pss_one (ps_set (i := 1) sc_Porter_hear_done.nd rfl (Or.inl rfl) (pe_op op_cat (pe_lst (pa_cons (pe_tup (pa_cons (pe_fld (pv 0) (by rfl)) (pa_cons (pe_glob (v := .ref e) (by rfl) hDo rfl) pa_nil))) pa_nil)) (pv 1))))
    pss_nil)
    (pss_cons (ps_fld (pv 0) pe_non rfl)
    (pss_cons (ps_if (pt_cmpR op_isN (pe_fld (pv 0) (by rfl)) pe_non (nomark _))
    (pss_one (ps_ret (pv 1)))
    pss_nil)
    (pss_cons (ps_set (i := 2) sc_Porter_hear_done.nd rfl (Or.inl rfl) (pe_fld (pv 0) (by rfl)))
    (pss_cons (ps_fld (pv 0) pe_non rfl)
    (pss_one (ps_ret (pe_op op_cat (pv 1) (pe_meth (pv 0) S.cl mS GS hr4 bS .nil pass0 (pa_cons (pv 2) pa_nil))))))))))), ?_⟩
  refine ⟨_, rfl, a.p, C, a.dx, _, _, rfl, M.hp, S.cl, S.inner, ptF_inr _ _ _ _ _ _ _ _, a.inr, a.dxP, _, rfl, M.pup.hp, (puF_no _ _ _ _ _ (by decide +kernel) (by decide +kernel) (by decide +kernel) (by decide +kernel) (by decide +kernel)), a.inr, [], a.dxP, v.meP, sP, v.siP, a.pl, k, v.L, a.fp, rfl, rfl, M.pup, fun r ys H1 hr0 cg kr dy kp => ?_⟩
  have M1 : Pt K C CP v a sv wt "out" (nxk v.L k) H1 := M.did cg kp
  have po := nxt_ok M.ok k
  refine ⟨_, rfl, a.p, C, a.dx, _, _, rfl, M1.hp, S.cl, S.mates, ptF_mts _ _ _ _ _ _ _ _, r, a.mts, ys, (nxt v.L k).2, v.ms, rfl, SqL.of kr, dy, SqL.of M1.hm, po.2, po.1, fun r' zs H2 hr' s2 kr' dz => ?_⟩
  have M2 := M1.same s2
  have l1 : zs.length ≤ 5 := by rw [dps_len dz, List.length_map, List.length_map]; exact po.1
  dsimp only [gName]
  refine seq_by (fun σ G => ∃ (r2 : Addr) (zs2 : List V), σ = [some (V.ref a.p), some (V.ref r2), none] ∧ G r2 = some (.lst zs2) ∧ zs2.length ≤ 6 ∧ DpAll K G zs2 ((leftI v k).map itD) ∧ Same H2 G ∧ H r2 = none) (fun N hN => ?_) ?_
  · refine ⟨_, rfl, a.p, C, a.dx, _, _, rfl, M2.hp, S.cl, S.porter, ptF_por _ _ _ _ _ _ _ _, rfl, _, rfl, ?_⟩
    rcases (show v.por = none ∨ ∃ g, v.por = some g by cases v.por <;> simp) with hpor | ⟨g, hpor⟩
    · refine iteF' (by rw [hpor]; rfl) ?_
      refine hN _ _ ⟨r', zs, rfl, kr', by omega, ?_, Same.refl H2, cg.back hr' (fun z => by rw [z, kp] at hr'; cases hr')⟩
      have e1 : leftI v k = (nxt v.L k).2.map (trn v.ms) := by unfold leftI; rw [hpor]; rfl
      rw [e1]; exact dz
    · refine iteT' (by rw [hpor]; rfl) ?_
      have e2 : porV v.por = .int g := by rw [hpor]; rfl
      refine ⟨_, rfl, a.p, C, a.dx, _, _, rfl, M2.hp, S.cl, S.porter, ptF_por _ _ _ _ _ _ _ _, by show 2 ≤ sizeLine; decide, fun t ht => ⟨by show 1 ≤ sizeLine; decide, fun r2 hr2 => ?_⟩⟩
      have s4 := (same_upd (o := .tup [porV v.por, .ref e]) ht).trans (same_upd (o := .lst [.ref t]) hr2)
      refine ⟨_, rfl, r2, r', [.ref t], zs, rfl, rfl, upd_same, s4 _ _ kr', Nat.le_trans (show _ ≤ 6 by simp; omega) (by decide), fun l hl => ?_⟩
      have s5 := same_upd (o := .lst ([.ref t] ++ zs)) hl
      have s45 := s4.trans s5
      have hlH : H l = none := cg.back (s2.free (s4.free hl)) (fun z => by have := s2.free (s4.free hl); rw [z, kp] at this; cases this)
      refine hN _ _ ⟨l, [.ref t] ++ zs, rfl, upd_same, by show ([_] ++ zs).length ≤ 6; rw [List.length_append]; show 1 + _ ≤ 6; omega, ?_, s45, hlH⟩
      have e1 : leftI v k = [(g, [.str "done"])] ++ (nxt v.L k).2.map (trn v.ms) := by unfold leftI; rw [hpor]; rfl
      rw [e1, List.map_append]
      refine dps_same s5 _ _ (dps_app (.cons (.tup (xs := [.int g, .ref e]) (SqT.of (by have := same_upd (o := .lst [.ref t]) hr2 _ _ (upd_same (a := t)); rw [e2] at this ⊢; exact this)) (.cons (.int _) (.cons (.tup (hS _) (.cons (.str _) .nil)) .nil))) .nil) (dps_same s4 _ _ dz))
  rintro σ G ⟨r2, zs2, rfl, kr2, l6, d2, sG, hr2⟩
  have M3 := M2.same sG
  refine ⟨_, rfl, a.p, C, a.dx, _, rfl, M3.hp, S.cl, S.serves, (by show 8 < 1000; decide), ?_⟩
  rw [ptF_put_srv]
  have M4 := M3.put none wt
  have cS : Chg a.p G (upd G a.p (.ins C a.dx (ptF v.me "out" v.si a.inr (porV v.por) .non a.mts (porV wt)))) := Chg.self
  have rp : r2 ≠ a.p := ne_of kr2 M3.hp (by intro z; cases z)
  have kr4 := cS _ _ rp kr2
  have d4 := dps_chgI M3.hp cS (noLs_its (its_left v k)) d2
  have c04 : ChgS [a.p, a.inr] H _ := chg2 cg ((Chg.same (s2.trans sG)).trans cS)
  refine ⟨_, rfl, a.p, C, a.dx, _, _, rfl, M4.hp, S.cl, S.waits, ptF_wts _ _ _ _ _ _ _ _, rfl, _, rfl, ?_⟩
  rcases h with ⟨hwt, q⟩ | ⟨x, hwt, q⟩
  · refine iteT' (by rw [hwt]; rfl) ?_
    exact ⟨_, rfl, q r2 zs2 _ hr2 c04 kr4 d4 (by rw [hwt] at M4 ⊢; exact M4)⟩
  · refine iteF' (by rw [hwt]; rfl) ?_
    subst hwt
    refine ⟨_, rfl, a.p, C, a.dx, _, _, rfl, M4.hp, S.cl, S.waits, ptF_wts _ _ _ _ _ _ _ _, ?_⟩
    refine ⟨_, rfl, a.p, C, a.dx, _, rfl, M4.hp, S.cl, S.waits, (by show 8 < 1000; decide), ?_⟩
    rw [ptF_put_wts, upd_upd]
    have M5 := M3.put none none
    have cS5 : Chg a.p G (upd G a.p (.ins C a.dx (ptF v.me "out" v.si a.inr (porV v.por) .non a.mts .non))) := Chg.self
    have kr5 := cS5 _ _ rp kr2
    have d5 := dps_chgI M3.hp cS5 (noLs_its (its_left v k)) d2
    have c05 : ChgS [a.p, a.inr] H _ := chg2 cg ((Chg.same (s2.trans sG)).trans cS5)
    refine ⟨_, rfl, _, rfl, a.p, a.dx, _, rfl, M5.hp, (ptF_no _ _ _ _ _ _ _ _ (by decide +kernel) (by decide +kernel) (by decide +kernel) (by decide +kernel) (by decide +kernel) (by decide +kernel) (by decide +kernel) (by decide +kernel)), _, rfl, v, a, none, none, "out", _, x, rfl, M5, fun r3 ys3 H6 hr3 c6 k6 d6 M6 => ?_⟩
    have r2n : r2 ∉ [a.p, a.inr] := by
      simp only [List.mem_cons, List.not_mem_nil, or_false, not_or]
      exact ⟨rp, ne_of kr5 M5.pup.hp (by intro z; cases z)⟩
    have kr6 := c6 _ _ r2n kr5
    have d56 := dps_chgO M5.insS c6 _ _ d5
    have l3 : ys3.length ≤ 6 := by
      rw [dps_len d6, List.length_map]
      have := (nxt_ok M.ok (nxk v.L k)).1
      have := cinP_len v.por (some x) "out" (gAsk (nxt v.L (nxk v.L k)).1 "out")
      unfold srvI
      rw [List.length_append, List.length_map]
      omega
    refine ⟨r2, r3, zs2, ys3, rfl, rfl, kr6, k6, Nat.le_trans (show zs2.length + ys3.length ≤ 12 by omega) (by decide), fun l hl => ?_⟩
    have s7 := same_upd (o := .lst (zs2 ++ ys3)) hl
    have c06 := c05.trans c6
    refine q l _ _ (M6.back c06 hl) (c06.trans (Same.s s7)) upd_same ?_ (M6.same s7)
    rw [List.map_append]
    exact dps_same s7 _ _ (dps_app d56 d6)
end

end G0
namespace G0
open PySem PySem.Spec PyProof.Rows L2 NdefX ClX
section
variable {P : Program} {w : World} {K : PySem.W.Frag} {mg : Str → Option Value} {base : Heap} {C CP f : Addr} {fd : FuncData}
/-! ### hear -/
structure Op where
  sv : Option Int
  wt : Option Int
  sP : Str
  k : Nat
  is : List Itm
def outP (v : MV) (sv wt : Option Int) (sP : Str) (k : Nat) (z : Str) (s : Int) : Op :=
  if z = "yours" then ⟨sv, wt, sP, k, [(sv.getD 0, [.str "yours"])]⟩ else
  if z = "letter" then ⟨sv, wt, gHear (nxt v.L k).1 sP, nxk v.L k, (nxt v.L k).2.map (trn v.ms) ++ cinP v.por sv sP (gHear (nxt v.L k).1 sP)⟩ else
  if z = "please" then (if sv = none then ⟨some s, wt, gAsk (nxt v.L k).1 sP, nxk v.L k, srvI v s sP k⟩ else ⟨sv, some s, sP, k, []⟩) else
  match wt with
  | none => ⟨none, none, "out", nxk v.L k, leftI v k⟩
  | some x => ⟨some x, none, gAsk (nxt v.L (nxk v.L k)).1 "out", nxk v.L (nxk v.L k), leftI v k ++ srvI v x "out" (nxk v.L k)⟩
def HearOk (v : MV) (sv : Option Int) (sP z : Str) (s : Int) : Prop := (z = "yours" ∧ v.por = some s ∧ sv ≠ none) ∨ (z = "letter" ∧ v.por ≠ some s ∧ s ∈ v.ms ∧ (sP = "asking" → sv ≠ none)) ∨ (z = "please" ∧ v.por ≠ some s ∧ s ∉ v.ms) ∨ (z = "done" ∧ v.por ≠ some s ∧ s ∉ v.ms)
theorem n_letter_yours : (("letter" : Str) = "yours") = False := eq_false (by decide +kernel)
theorem n_please_yours : (("please" : Str) = "yours") = False := eq_false (by decide +kernel)
theorem n_please_letter : (("please" : Str) = "letter") = False := eq_false (by decide +kernel)
theorem n_done_yours : (("done" : Str) = "yours") = False := eq_false (by decide +kernel)
theorem n_done_letter : (("done" : Str) = "letter") = False := eq_false (by decide +kernel)
theorem n_done_please : (("done" : Str) = "please") = False := eq_false (by decide +kernel)
theorem eqv_word (a b : Str) : PyData.eqv (.tuple [.str a]) (.tuple [.str b]) = decide (a = b) := by
  simp only [PyData.eqv, PyData.eqvAll, Bool.and_true]
  by_cases h : a = b
  · subst h; simp
  · simp [h]
def spPhear' (K : PySem.W.Frag) (C CP : Addr) : Sp := fun vs H Q _ => ∃ (v : MV) (a : MA) (sv wt : Option Int) (sP : Str) (k : Nat) (z : Str) (s : Int) (x : V), vs = [.ref a.p, .int s, x] ∧ Pt K C CP v a sv wt sP k H ∧ HearOk v sv sP z s ∧ (z = "please" ∨ z = "done" → ∃ t, x = .ref t ∧ SqT K H t [.str z]) ∧
  ∀ (r : Addr) (ys : List V) H', H r = none → ChgS [a.p, a.inr] H H' → H' r = some (.lst ys) → DpAll K H' ys ((outP v sv wt sP k z s).is.map itD) → Pt K C CP v a (outP v sv wt sP k z s).sv (outP v sv wt sP k z s).wt (outP v sv wt sP k z s).sP (outP v sv wt sP k z s).k H' → Q (.ref r) H'
theorem sc_Porter_hear : FnScope ["self", "sender", "letter", "was", "sends"] ["self", "sender", "letter"] (defScope s_Porter_hear) :=
  ⟨rfl, rfl, rfl, by decide +kernel, rfl, by decide +kernel, by decide +kernel⟩
theorem ok_prhear (F : Fun K "hear" "Porter.hear" s_Porter_hear f fd) (S : PtT K C) (SP : PupT K CP) (G : Pls K mg) (Csent_by : Cal P w K mg base "sent_by" 1 ["sends", "mates"] (spSent K)) (MA' : Me P w K mg base CP "hear" 4 ["self", "sender", "letter"] (spPup K CP 2 gHear)) (MC : Me P w K mg base C "_come_in" 1 ["self", "was"] (spCome K C CP))
    (MP : Me P w K mg base C "_hear_please" 5 ["self", "sender"] (spPlease K C CP)) (MD : Me P w K mg base C "_hear_done" 5 ["self"] (spHdone K C CP)) :
    FnOk P w K mg base CX0 6 f fd ["self", "sender", "letter"] (spPhear' K C CP) := by
  obtain ⟨fA, fdA, GA, bA, mA⟩ := MA'
  obtain ⟨fC, fdC, GC, bC, mC⟩ := MC
  obtain ⟨fP, fdP, GP, bP, mP⟩ := MP
  obtain ⟨fD, fdD, GD', bD, mD⟩ := MD
  obtain ⟨⟨ep, hPl, hSp⟩, _, e', hYo, hS'⟩ := G
  refine F.ok sc_Porter_hear (fun vs H Q E h => ?_) (fun cdv A outer s H vs Q E hr h => ?_)
  · obtain ⟨v, a, _, _, _, _, _, _, _, rfl, _⟩ := h
    rfl
  obtain ⟨v, a, sv, wt, sP, k, z, s, x, rfl, M, hok, hx, q⟩ := h
  have free := True.intro
  have hr4 : Room 4 _ := hr.mono (by decide)
  have hr5 : Room 5 _ := hr
  have hr1 : Room 1 _ := hr.mono (by decide)
  refine ⟨_, (pss_cons (ps_if (pt_cmpR op_eq (pv 1) (pe_fld (pv 0) (by rfl)) (nomark _))
    (pss_one (ps_ret (pe_lst (pa_cons (pe_tup (pa_cons (pe_fld (pv 0) (by rfl)) (pa_cons (pe_glob (v := .ref e') (by rfl) hYo rfl) pa_nil))) pa_nil))))
    pss_nil)
    (pss_cons (ps_if (pt_cmpR u_in (pv 1) (pe_fld (pv 0) (by rfl)) (by rfl))
    (pss_cons (ps_set (i := 3) sc_Porter_hear.nd rfl (Or.inl rfl) (pe_fld (pe_fld (pv 0) (by rfl)) (by rfl)))
    (pss_cons (ps_set (i := 4) sc_Porter_hear.nd rfl (Or.inl rfl) (pe_cal Csent_by free (hr.mono (by decide)) (pa_cons (pe_meth (pe_fld (pv 0) (by rfl)) SP.cl mA GA hr4 bA .nil pass0 (pa_cons (pe_bm PySem.F.plainAttrs_list PySem.F.slot_list_index PySem.F.type_list_index mt_index (pe_fld (pv 0) (by rfl)) (pa_cons (pv 1) pa_nil)) (pa_cons (pv 2) pa_nil))) (pa_cons (pe_fld (pv 0) (by rfl)) pa_nil))))
    (pss_one (ps_ret (pe_op op_cat (pv 4) (pe_meth (pv 0) S.cl mC GC hr1 bC .nil pass0 (pa_cons (pv 3) pa_nil)))))))
    pss_nil)
    (pss_cons (ps_if (pt_cmpR (op_eqD (u64 hr)) (pv 2) (pe_glob (v := .ref ep) (by rfl) hPl rfl) (nomark _))
    (pss_one (ps_ret (pe_meth (pv 0) S.cl mP GP hr5 bP .nil pass0 (pa_cons (pv 1) pa_nil))))
    pss_nil)
    (pss_one (ps_ret (pe_meth0 (pv 0) S.cl mD GD' hr5 bD .nil pass0)))))), ?_⟩
  refine ⟨_, rfl, _, rfl, a.p, C, a.dx, _, _, rfl, M.hp, S.cl, S.porter, ptF_por _ _ _ _ _ _ _ _, by cases v.por <;> rfl, _, rfl, ?_⟩
  rcases hok with ⟨rfl, hp, hsv⟩ | hok
  · refine iteT' (by rw [hp]; simp [porV]) ?_
    obtain ⟨y, hy⟩ : ∃ y, sv = some y := by
      cases e : sv with
      | none => exact absurd e hsv
      | some x => exact ⟨x, rfl⟩
    subst hy
    refine ⟨_, rfl, a.p, C, a.dx, _, _, rfl, M.hp, S.cl, S.serves, ptF_srv _ _ _ _ _ _ _ _, by show 2 ≤ sizeLine; decide, fun t ht => ⟨by show 1 ≤ sizeLine; decide, fun r hr' => ?_⟩⟩
    have s2 := (same_upd (o := .tup [porV (some y), .ref e']) ht).trans (same_upd (o := .lst [.ref t]) hr')
    unfold outP at q
    rw [if_pos rfl] at q
    exact q r [.ref t] _ ((same_upd (o := .tup [porV (some y), .ref e']) ht).free hr') (Same.s s2) upd_same (.cons (.tup (xs := [.int y, .ref e']) (SqT.of (same_upd hr' _ _ upd_same)) (.cons (.int _) (.cons (.tup (hS' _) (.cons (.str _) .nil)) .nil))) .nil) (M.same s2)
  have e0 : decide (V.int s = porV v.por) = false := by
    refine decide_eq_false fun z => ?_
    cases e : v.por with
    | none => rw [e] at z; cases z
    | some g =>
      rw [e] at z; cases z
      rcases hok with ⟨_, h, _⟩ | ⟨_, h, _⟩ | ⟨_, h, _⟩
      · exact h e
      · exact h e
      · exact h e
  refine iteF' e0 ?_
  refine ⟨_, rfl, _, rfl, a.p, C, a.dx, _, _, rfl, M.hp, S.cl, S.mates, ptF_mts _ _ _ _ _ _ _ _, ?_⟩
  refine .inl ⟨a.mts, _, rfl, .inl (SqL.of M.hm), rfl, flat_ints _, _, rfl, ?_⟩
  show (if (inV (.int s) (v.ms.map V.int)) = true then _ else _)
  rw [inV_ints]
  rcases hok with ⟨rfl, hp, hin, hsv⟩ | hok
  · refine iteT' (decide_eq_true hin) ?_
    refine ⟨_, rfl, a.p, C, a.dx, _, _, rfl, M.hp, S.cl, S.inner, ptF_inr _ _ _ _ _ _ _ _, a.inr, CP, a.dxP, _, _, rfl, M.pup.hp, SP.cl, SP.state, puF_stt _ _ _ _ _, ?_⟩
    obtain ⟨j, hj, hfirst⟩ := first_at hin
    refine ⟨_, rfl, a.p, C, a.dx, _, _, rfl, M.hp, S.cl, S.inner, ptF_inr _ _ _ _ _ _ _ _, a.inr, a.dxP, _, rfl, M.pup.hp, (puF_no _ _ _ _ _ (by decide +kernel) (by decide +kernel) (by decide +kernel) (by decide +kernel) (by decide +kernel)), ?_⟩
    refine ⟨_, rfl, a.p, C, a.dx, _, _, rfl, M.hp, S.cl, S.mates, ptF_mts _ _ _ _ _ _ _ _, .inl ⟨rfl, _, SqL.of M.hm⟩, _, rfl, a.mts, _, _, j, _, rfl, rfl, SqL.of M.hm, rfl, flat_ints _, hj, (by simp [eqV]), hfirst, _, rfl, ?_⟩
    refine ⟨a.inr, [.int (j : Nat), x], a.dxP, v.meP, sP, v.siP, a.pl, k, v.L, a.fp, rfl, rfl, M.pup, fun r ys H1 hr0 cg kr dy kp => ?_⟩
    have M1 := M.did cg kp
    have po := nxt_ok M.ok k
    refine ⟨_, rfl, a.p, C, a.dx, _, _, rfl, M1.hp, S.cl, S.mates, ptF_mts _ _ _ _ _ _ _ _, r, a.mts, ys, (nxt v.L k).2, v.ms, rfl, SqL.of kr, dy, SqL.of M1.hm, po.2, po.1, fun r' zs H2 hr' s2 kr' dz => ?_⟩
    have M2 := M1.same s2
    have nsv : ¬ (sP = "in" ∨ gHear (nxt v.L k).1 sP ≠ "in") → sv ≠ none := fun h => by
      refine hsv (Classical.byContradiction fun na => h ?_)
      by_cases hi : sP = "in"
      · exact .inl hi
      · refine .inr ?_
        unfold gHear
        rw [if_neg (fun z => na z.2)]
        exact hi
    refine ⟨_, rfl, _, rfl, a.p, a.dx, _, rfl, M2.hp, (ptF_no _ _ _ _ _ _ _ _ (by decide +kernel) (by decide +kernel) (by decide +kernel) (by decide +kernel) (by decide +kernel) (by decide +kernel) (by decide +kernel) (by decide +kernel)), _, rfl, v, a, sv, wt, _, _, sP, rfl, M2, nsv, fun r2 ys2 H4 hr2 s4 kr2 d2 => ?_⟩
    have M4 := M2.same s4
    have kr4 := s4 _ _ kr'
    have dz4 := dps_same s4 _ _ dz
    have l1 : zs.length ≤ 5 := by rw [dps_len dz, List.length_map, List.length_map]; exact po.1
    have l2 : ys2.length ≤ 1 := by
      rw [dps_len d2, List.length_map]
      exact cinP_len _ _ _ _
    refine ⟨r', r2, zs, ys2, rfl, rfl, kr4, kr2, Nat.le_trans (show zs.length + ys2.length ≤ 6 by omega) (by decide), fun l hl => ?_⟩
    have s5 := same_upd (o := .lst (zs ++ ys2)) hl
    have c04 : ChgS [a.p, a.inr] H H4 := chg2 cg (Chg.same (s2.trans s4))
    unfold outP at q
    rw [if_neg (by simp [n_letter_yours]), if_pos rfl] at q
    refine q l _ _ (M4.back c04 hl) (c04.trans (Same.s s5)) upd_same ?_ (M4.same s5)
    rw [List.map_append]
    exact dps_same s5 _ _ (dps_app dz4 d2)
  have nin : s ∉ v.ms := by rcases hok with ⟨_, _, h⟩ | ⟨_, _, h⟩ <;> exact h
  refine iteF' (decide_eq_false nin) ?_
  have hz : z = "please" ∨ z = "done" := by rcases hok with ⟨h, _⟩ | ⟨h, _⟩ <;> simp [h]
  obtain ⟨t, rfl, qt⟩ := hx hz
  have sz : SeqAt.shaped (.tuple [.str z]) = true := by rcases hz with rfl | rfl <;> decide +kernel
  refine ⟨_, rfl, .tuple [.str z], .tuple [.str "please"], .tup qt (.cons (.str _) .nil), .tup (hSp _) (.cons (.str _) .nil), sz, by decide +kernel, _, rfl, ?_⟩
  rw [eqv_word]
  rcases hok with ⟨rfl, hp, _⟩ | ⟨rfl, hp, _⟩
  · refine iteT' (by simp) ?_
    unfold outP at q
    rw [if_neg (by simp [n_please_yours]), if_neg (by simp [n_please_letter]), if_pos rfl] at q
    refine ⟨_, rfl, a.p, a.dx, _, rfl, M.hp, (ptF_no _ _ _ _ _ _ _ _ (by decide +kernel) (by decide +kernel) (by decide +kernel) (by decide +kernel) (by decide +kernel) (by decide +kernel) (by decide +kernel) (by decide +kernel)), _, rfl, v, a, sv, wt, sP, k, s, rfl, M, ?_⟩
    by_cases hsv : sv = none
    · rw [if_pos hsv] at q
      exact .inl ⟨hsv, q⟩
    · rw [if_neg hsv] at q
      exact .inr ⟨hsv, fun r H' hr' c e M2 => q r [] H' hr' c e .nil M2⟩
  · refine iteF' (by simp [n_done_please]) ?_
    unfold outP at q
    rw [if_neg (by simp [n_done_yours]), if_neg (by simp [n_done_letter]), if_neg (by simp [n_done_please])] at q
    refine ⟨_, rfl, a.p, a.dx, _, rfl, M.hp, (ptF_no _ _ _ _ _ _ _ _ (by decide +kernel) (by decide +kernel) (by decide +kernel) (by decide +kernel) (by decide +kernel) (by decide +kernel) (by decide +kernel) (by decide +kernel)), v, a, sv, wt, sP, k, rfl, M, ?_⟩
    cases wt with
    | none => exact .inl ⟨rfl, q⟩
    | some y => exact .inr ⟨y, rfl, q⟩
end

end G0
namespace G0
open PySem PySem.Spec PyProof.Rows L2 NdefX ClX
section
variable {P : Program} {w : World} {K : PySem.W.Frag} {mg : Str → Option Value} {base : Heap} {C : Addr}
/-! ### Porter.__init__ -/
theorem ptF_rest (m : Int) (inr mts : Addr) (por : V) : putF "_waits" .non (putF "_mates" (.ref mts) (putF "serves" .non (putF "porter" por (putF "inner" (.ref inr) (seatG m))))) = ptF m "out" false inr por .non mts .non := by
  simp only [putF, seatG, ptF, n_ptF_me_inr, n_ptF_stt_inr, n_ptF_sits_inr, n_ptF_me_por, n_ptF_stt_por, n_ptF_sits_por, n_ptF_inr_por, n_ptF_me_srv, n_ptF_stt_srv, n_ptF_sits_srv, n_ptF_inr_srv, n_ptF_por_srv, n_ptF_me_mts, n_ptF_stt_mts, n_ptF_sits_mts, n_ptF_inr_mts, n_ptF_por_mts, n_ptF_srv_mts,
    n_ptF_me_wts, n_ptF_stt_wts, n_ptF_sits_wts, n_ptF_inr_wts, n_ptF_por_wts, n_ptF_srv_wts, n_ptF_mts_wts, if_false, if_true]
def spTInit (K : PySem.W.Frag) (C : Addr) : Sp := fun vs H Q _ => ∃ (p dx : Addr) (m : Int) (inr : Addr) (por : Option Int) (l : Addr) (ms : List Int), vs = [.ref p, .int m, .ref inr, .ref l, porV por] ∧ H p = some (.ins C dx []) ∧ SqL K H l (ms.map V.int) ∧ l ≠ p ∧
  ∀ mts H', H mts = none → Chg p H H' → H' mts = some (.lst (ms.map V.int)) → H' p = some (.ins C dx (ptF m "out" false inr (porV por) .non mts .non)) → Q .non H'
theorem sqL_ne {H : Hp} {l p : Addr} {xs : List V} {o : HO} (h : SqL K H l xs) (n : l ≠ p) : SqL K (upd H p o) l xs := by
  rcases h with (h | ⟨ob, h⟩) | h
  · exact .inl (.inl ((upd_ne n).trans h))
  · exact .inl (.inr ⟨ob, (upd_ne n).trans h⟩)
  · exact .inr h
theorem ok_tinit {f cc cda D f2 : Addr} {dV kV doc pm ct oc cl : Value} {v : Option Value} {an od cld : Option Addr} {osl csl : Array (Option Value)} (T : Bp mg)
    (lk : K.lookup f = some ⟨oc, od, .func (PySem.W.ksFn "__init__" "Porter.__init__" (defArgs s_Porter__init) (defBody s_Porter__init) (defScope s_Porter__init) dV kV doc pm an (.ref cda) ct cc), osl⟩)
    (coded : PySem.W.codeIn K (.ref cda) "Porter.__init__" = true) (lc : K.lookup cc = some ⟨cl, cld, .cell v, csl⟩)
    (F : SupF P K ["self", "me", "inner", "mates", "porter", "__class__"] f cc cda D (PySem.W.ksFn "__init__" "Porter.__init__" (defArgs s_Porter__init) (defBody s_Porter__init) (defScope s_Porter__init) dV kV doc pm an (.ref cda) ct cc) (defArgs s_Porter__init) (defScope s_Porter__init))
    (F2 : FnR P w K mg base CX0 1 f2 (spSeat0 C)) (S : PtT K C) (mro : PySem.W.mroIn K C (.ref D) = some true) (su : PySem.W.ks_superIn K C D "__init__" = some (some (.ref f2))) (ty : PySem.W.typeIn K (.ref f2) = some (.type "function")) (fi : PySem.W.fnIn K f2 = true) :
    FnOk P w K mg base CX0 2 f (PySem.W.ksFn "__init__" "Porter.__init__" (defArgs s_Porter__init) (defBody s_Porter__init) (defScope s_Porter__init) dV kV doc pm an (.ref cda) ct cc) ["self", "me", "inner", "mates", "porter"] (spTInit K C) := by
  have NS : NScope ["self", "me", "inner", "mates", "porter", "__class__"] ["self", "me", "inner", "mates", "porter"] ["__class__"] (defScope s_Porter__init) := nscope_by (by decide +kernel)
  refine fnS_of lk coded lc NS ?_ fun A outer s H vs Q E hr h => ?_
  · rintro vs H Q E ⟨p, dx, m, inr, por, l, ms, rfl, _⟩
    rfl
  obtain ⟨p, dx, m, inr, por, l, ms, rfl, hp, hl, nl, q⟩ := h
  have free := True.intro
  refine ⟨_, _, p1_supM F F2 hr (pa_cons (pv 1 (by rfl) (.inl (NS.par _ (by simp)))) pa_nil), (pss_cons (ps_fld (pv 0) (pv 2) rfl)
    (pss_cons (ps_fld (pv 0) (pv 4) rfl)
    (pss_cons (ps_fld (pv 0) pe_non rfl)
    (pss_cons (ps_fld (pv 0) (pe_callTy call_list_of (by rfl) T.list (by decide +kernel) (pa_cons (pv 3) pa_nil)) rfl)
    (pss_one (ps_fld (pv 0) pe_non rfl)))))), ?_⟩
  refine ⟨p, C, dx, [], rfl, hp, mro, su, ty, fi, _, rfl, p, dx, m, rfl, hp, ?_⟩
  refine ⟨_, rfl, _, rfl, p, C, dx, _, rfl, upd_same, S.cl, S.inner, (by show 3 < 1000; decide), ?_⟩
  refine ⟨_, rfl, _, rfl, p, C, dx, _, rfl, upd_same, S.cl, S.porter, (by show 4 < 1000; decide), ?_⟩
  refine ⟨_, rfl, p, C, dx, _, rfl, upd_same, S.cl, S.serves, (by show 5 < 1000; decide), ?_⟩
  rw [upd_upd, upd_upd, upd_upd]
  refine ⟨_, rfl, l, _, rfl, .inl (sqL_ne hl nl), fun mts hm => ?_⟩
  have mp : mts ≠ p := fun z => by rw [z, upd_same] at hm; cases hm
  refine ⟨_, rfl, p, C, dx, _, rfl, (by rw [upd_ne mp.symm]; exact upd_same), S.cl, S.mates, (by show 6 < 1000; decide), ?_⟩
  refine ⟨_, rfl, p, C, dx, _, rfl, upd_same, S.cl, S.waits, (by show 7 < 1000; decide), ?_⟩
  rw [upd_upd, ptF_rest]
  refine q mts _ ((upd_ne mp).symm.trans hm) ?_ ((upd_ne mp).trans upd_same) upd_same
  intro b o nb e
  rw [upd_ne nb, upd_ne (ne_of_none e ((upd_ne mp).symm.trans hm)), upd_ne nb]
  exact e
end

end G0
namespace G0
open PySem PySem.Spec PyProof.Rows L2
theorem map_erase : ∀ (xs : List Int) (i : Nat), (xs.map V.int).eraseIdx i = (xs.eraseIdx i).map V.int
  | [], _ => rfl
  | _ :: _, 0 => rfl
  | x :: xs, i + 1 => by
    rw [List.map_cons, List.eraseIdx_cons_succ, List.eraseIdx_cons_succ, List.map_cons, map_erase xs i]
theorem erase_perm : ∀ (xs : List Int) (i : Nat) (v : Int), xs[i]? = some v → (v :: xs.eraseIdx i).Perm xs
  | [], _, _, h => by cases h
  | x :: xs, 0, v, h => by
    have : x = v := by simpa using h
    rw [this]; exact List.Perm.refl _
  | x :: xs, i + 1, v, h => by
    rw [List.eraseIdx_cons_succ]
    exact (List.Perm.swap x v _).trans ((erase_perm xs i v h).cons x)
section
variable {P : Program} {w : World} {K : PySem.W.Frag} {mg : Str → Option Value} {base : Heap} {C CP f : Addr} {fd : FuncData}
/-! ### _law_unlike -/
def spUnlike : Sp := fun vs H Q _ => ∃ (b c : Addr) (n : Nat) (m : Nat), vs = [.ref b, .int (m : Nat)] ∧ Box n H b c ∧ n < 50000 ∧ m ≤ 13 ∧
  ∀ (r : Addr) (ms : List Int) H', H r = none → ChgS [b, c] H H' → Box (n + 13) H' b c → H' r = some (.lst (ms.map V.int)) → ms.length = m → ms.Nodup → (∀ x ∈ ms, 0 ≤ x ∧ x < 60) → Q (.ref r) H'
theorem sc_law_unlike : FnScope ["box", "many", "left", "row", "k"] ["box", "many"] (defScope s_law_unlike) :=
  ⟨rfl, rfl, rfl, by decide +kernel, rfl, by decide +kernel, by decide +kernel⟩
theorem ok_unlike (F : Fn K mg "_law_unlike" s_law_unlike) (T : Bl mg) (C_pick : Cal P w K mg base "_law_pick" 1 ["box", "many"] spPick) : Cal P w K mg base "_law_unlike" 2 ["box", "many"] spUnlike := by
  refine cal_of F sc_law_unlike
    (fun _ _ _ _ _ _ us hl => match us, hl with | [_, _], _ => rfl) ?_ ?_
  · rintro vs H Q E ⟨b, c, n, m, rfl, _⟩
    rfl
  rintro f cdv A outer s' H vs Q E free hr ⟨b, c, n, m, rfl, B, nb, m7, q⟩
  refine ⟨_, (pss_cons (ps_set (i := 2) sc_law_unlike.nd rfl (Or.inl rfl) (pe_listRg (by rfl) (by rfl) T.list (prg_1 (by rfl) T.range pe_int)))
    (pss_cons (ps_set (i := 3) sc_law_unlike.nd rfl (Or.inl rfl) (pe_lst pa_nil))
    (pss_cons (ps_for PassesOwn.never rfl (pi_range1 (by rfl) T.range (pa_cons (pv 1) pa_nil)) (pg_name (i := 4) sc_law_unlike.nd rfl (Or.inl rfl))
    (pss_one (ps_expr (pe_bm PySem.F.plainAttrs_list PySem.F.slot_list_append PySem.F.type_list_append mt_append (pv 3) (pa_cons (pe_bm PySem.F.plainAttrs_list PySem.F.slot_list_pop PySem.F.type_list_pop mt_popAt (pv 2) (pa_cons (pe_cal C_pick free (hr.mono (by decide)) (pa_cons (pv 0) (pa_cons (pe_callB call_len_seq (by rfl) T.len (by decide +kernel) (pa_cons (pv 2) pa_nil)) pa_nil))) pa_nil)) pa_nil)))))
    (pss_one (ps_ret (pv 3)))))), ?_⟩
  refine ⟨60, rfl, RgOk.of_le (by decide) (by decide) (by decide) (by decide), fun l hl => ?_⟩
  have B0 := B.same (same_upd (o := .lst (rgV 0 60)) hl)
  have lb := B.ne1 hl
  have lc := B.ne2 hl
  refine ⟨Nat.zero_le _, fun row hrow => ?_⟩
  have rb := B0.ne1 hrow
  have rc := B0.ne2 hrow
  have lrow : row ≠ l := fun z => by rw [z, upd_same] at hrow; cases hrow
  have hrow0 : H row = none := (upd_ne lrow).symm.trans hrow
  have hk : (60 - 0 : Int).toNat = 60 := rfl
  obtain ⟨L60, e60, nd60, in60, len60⟩ : ∃ L : List Int, rgV 0 60 = L.map V.int ∧ L.Nodup ∧ (∀ x ∈ L, 0 ≤ x ∧ x < 60) ∧ L.length = 60 := ⟨(List.range 60).map fun i : Nat => (i : Int), by decide +kernel, by decide +kernel, by decide +kernel, by decide +kernel⟩
  refine ⟨_, rfl, _, rfl, by omega, by omega, ?_⟩
  refine for_range (lo := 0) (n := m) (fun i σ G => (∃ z4 : Option V, σ = [some (V.ref b), some (V.int (m : Nat)), some (V.ref l), some (V.ref row), z4]) ∧ ∃ ls rs : List Int, G l = some (.lst (ls.map V.int)) ∧ G row = some (.lst (rs.map V.int)) ∧ rs.length = i ∧ ls.length + i = 60 ∧ (rs ++ ls).Nodup ∧ (∀ x ∈ rs ++ ls, 0 ≤ x ∧ x < 60) ∧ Box (n + i) G b c ∧ ChgS [b, c] H G)
    ⟨⟨_, rfl⟩, L60, [], (by rw [← e60]; exact same_upd hrow _ _ upd_same), upd_same, rfl, len60, nd60, in60, B0.same (same_upd hrow), (Same.s (same_upd hl)).trans (Same.s (same_upd hrow))⟩ ?_ ?_
  · rintro i σ G hi ⟨⟨z4, rfl⟩, ls, rs, kl, kr, lr, ll, nd, inn, BG, cG⟩
    have hnb : ∀ {x : Addr}, x ≠ b → x ≠ c → x ∉ [b, c] := fun h1 h2 => by
      simp only [List.mem_cons, List.not_mem_nil, or_false, not_or]
      exact ⟨h1, h2⟩
    refine ⟨_, rfl, .inl ⟨rfl, _, SqL.of kr⟩, _, rfl, .inl ⟨rfl, _, SqL.of kl⟩, _, rfl, _, rfl, l, _, rfl, .inl (SqL.of kl), b, c, n + i, _, rfl, BG, by omega, by rw [List.length_map]; omega, wide9 (by rw [List.length_map]; omega) (by rw [List.length_map]; omega), fun d H1 d0 d1 B1 c1 => ?_⟩
    rw [List.length_map] at d1
    have kl1 := c1 _ _ (hnb lb lc) kl
    have kr1 := c1 _ _ (hnb rb rc) kr
    obtain ⟨y, hy⟩ : ∃ y, ls[d.toNat]? = some y := ⟨_, List.getElem?_eq_getElem (by omega)⟩
    refine ⟨l, _, d, d.toNat, .int y, rfl, rfl, kl1, by omega, by omega, ?_, by rw [List.getElem?_map, hy]; rfl, ?_⟩
    · unfold seqIndex?
      rw [List.length_map]
      simp only [if_neg (show ¬ d < 0 by omega)]
      rw [if_pos (by simp; omega)]
    rw [map_erase]
    have kr2 := (upd_ne (H := H1) (o := .lst ((ls.eraseIdx d.toNat).map V.int)) lrow).trans kr1
    refine ⟨row, _, _, rfl, rfl, kr2, Nat.lt_of_lt_of_le (show (rs.map V.int).length < 100 by rw [List.length_map]; omega) (by decide), ?_⟩
    have pe := erase_perm ls _ _ hy
    have pe2 : ((rs ++ [y]) ++ ls.eraseIdx d.toNat).Perm (rs ++ ls) := by
      rw [List.append_assoc]
      exact pe.append_left rs
    refine ⟨⟨_, rfl⟩, ls.eraseIdx d.toNat, rs ++ [y], (upd_ne lrow.symm).trans upd_same, by rw [List.map_append]; exact upd_same, by rw [List.length_append, lr]; rfl, ?_, pe2.nodup_iff.mpr nd, fun x h => inn x (pe2.mem_iff.mp h), ?_, ?_⟩
    · rw [List.length_eraseIdx_of_lt (by omega)]; omega
    · exact (B1.mut lb lc).mut rb rc
    · exact ((cG.trans c1).mut hl).mut hrow0
  · rintro σ G ⟨⟨z4, rfl⟩, ls, rs, kl, kr, lr, ll, nd, inn, BG, cG⟩
    exact ⟨_, rfl, q row rs G hrow0 cG (BG.mono (by omega)) kr lr (List.nodup_append.mp nd).1 (fun x h => inn x (List.mem_append_left _ h))⟩
end

end G0
namespace G0
open PySem PySem.Spec PyProof.Rows L2
section
variable {P : Program} {w : World} {K : PySem.W.Frag} {mg : Str → Option Value} {base : Heap} {C CP f : Addr} {fd : FuncData}
/-! ### _law_play, _law_turned, _law_pairs -/
def spPlay (K : PySem.W.Frag) : Sp := fun vs H Q _ => ∃ (pl at_ : Addr) (n : Nat) (L : List (Bool × List Snd)) (fp : List Addr), vs = [.ref pl, .ref at_] ∧ H at_ = some (.lst [.int (n : Nat)]) ∧ Ow K H (.ref pl) (.list (L.map plyD)) fp ∧ at_ ∉ fp ∧ n < 1000 ∧ L.length ≤ 40 ∧
  ∀ (x : V) H', Chg at_ H H' → H' at_ = some (.lst [.int ((n + 1 : Nat) : Int)]) → Dp K H' x (plyD (nxt L n)) → Q x H'
theorem ow_chgL {H H' : Hp} {q : Addr} {xs : List V} {v : V} {d : PyData} {fp : List Addr} (hq : H q = some (.lst xs)) (n : q ∉ fp) (c : Chg q H H') (h : Ow K H v d fp) : Ow K H' v d fp :=
  ow_chgS (S := [q]) (fun b hb o ho => by rw [List.mem_singleton.mp hb, hq] at ho; cases ho; exact mu_lst) (c.s (List.mem_singleton.mpr rfl)) d v fp (fun b hb z => n (by rw [← List.mem_singleton.mp z]; exact hb)) h
theorem sc_law_play : FnScope ["plays", "at"] ["plays", "at"] (defScope s_law_play) :=
  ⟨rfl, rfl, rfl, by decide +kernel, rfl, by decide +kernel, by decide +kernel⟩
theorem ok_play (F : Fn K mg "_law_play" s_law_play) (T : Bl mg) : Cal P w K mg base "_law_play" 1 ["plays", "at"] (spPlay K) := by
  refine cal_of F sc_law_play
    (fun _ _ _ _ _ _ us hl => match us, hl with | [_, _], _ => rfl) ?_ ?_
  · rintro vs H Q E ⟨pl, a, n, L, fp, rfl, _⟩
    rfl
  rintro f cdv A outer s' H vs Q E free hr ⟨pl, a, n, L, fp, rfl, ha, oL, nin, n9, l40, q⟩
  refine ⟨_, (pss_cons (ps_augS (pv 1) pe_int pget_list pe_int ip_add set_list)
    (pss_cons (ps_if (pt_cmpR op_le (pe_ix ix_list (pv 1) pe_int (fun _ _ => rfl)) (pe_callB call_len_seq (by rfl) T.len (by decide +kernel) (pa_cons (pv 0) pa_nil)) (nomark _))
    (pss_one (ps_ret (pe_ix ix_list (pv 0) (pe_op op_sub (pe_ix ix_list (pv 1) pe_int (fun _ _ => rfl)) pe_int) (fun _ _ => rfl))))
    pss_nil)
    (pss_one (ps_ret (pe_tup (pa_cons pe_bl (pa_cons (pe_lst pa_nil) pa_nil))))))), ?_⟩
  refine ⟨_, rfl, a, _, 0, _, rfl, rfl, SqL.of ha, rfl, by decide, (n : Nat), 1, rfl, rfl, a, _, _, _, rfl, rfl, ha, rfl, ?_⟩
  have ka : upd H a (.lst [.int ((n : Nat) + 1)]) a = some (.lst [.int ((n : Nat) + 1)]) := upd_same
  have o1 := ow_chgL ha nin (Chg.self (o := .lst [.int ((n : Nat) + 1)])) oL
  obtain ⟨pl', xs, e, qa, da⟩ := lst_dp (ow_dp _ _ _ o1)
  cases e
  have lx : xs.length = L.length := by rw [dps_len da, List.length_map]
  refine ⟨_, rfl, a, _, _, _, rfl, rfl, SqL.of ka, rfl, _, rfl, pl, _, rfl, .inl qa, _, _, rfl, rfl, _, rfl, ?_⟩
  rw [lx]
  refine ite2 (fun c => ?_) (fun c => ?_)
  · have c' : ((n : Nat) : Int) + 1 ≤ (L.length : Nat) := of_decide_eq_true c
    have nx : n < xs.length := by omega
    obtain ⟨pp, ep, dp⟩ := dps_at' da (List.getElem?_eq_getElem nx)
    refine ⟨_, rfl, _, rfl, a, _, _, _, rfl, rfl, SqL.of ka, rfl, _, _, rfl, rfl, pl, _, _, xs[n], rfl, rfl, qa, ?_, ?_⟩
    · have := atI_nat (List.getElem?_eq_getElem nx)
      rw [show ((n : Nat) : Int) + 1 - 1 = (n : Nat) by omega]
      exact this
    · refine q _ _ Chg.self (by rw [Int.natCast_add]; exact ka) ?_
      unfold nxt
      rw [ep]
      exact dp
  · have c' : ¬ ((n : Nat) : Int) + 1 ≤ (L.length : Nat) := fun z => c (decide_eq_true z)
    refine ⟨Nat.zero_le _, fun r hr' => ⟨by show 2 ≤ sizeLine; decide, fun t ht => ?_⟩⟩
    have s2 := (same_upd (o := .lst []) hr').trans (same_upd (o := .tup [.bl true, .ref r]) ht)
    refine q _ _ (Chg.self.trans (Chg.same s2)) (by rw [Int.natCast_add]; exact s2 _ _ ka) ?_
    unfold nxt
    rw [List.getElem?_eq_none (by omega)]
    exact .tup (SqT.of upd_same) (.cons (.bl _) (.cons (.lst (SqL.of (same_upd ht _ _ upd_same)) .nil) .nil))
/-! ### _law_pairs -/
def ItOk (i : Itm) : Prop := ∃ z : Str, (z = "ask" ∨ z = "key" ∨ z = "yes" ∨ z = "q" ∨ z = "please" ∨ z = "done" ∨ z = "yours") ∧ (i.2 = [.str z] ∨ ∃ k, i.2 = [.str z, .int k])
theorem lay_it {i : Itm} (h : ItOk i) : (itD i).canLay0 = true ∧ (itD i).depth ≤ 2 := by
  obtain ⟨a, b⟩ := i
  obtain ⟨z, hz, h⟩ := h
  have sz : (PyData.str z).canLay0 = true := by rcases hz with rfl | rfl | rfl | rfl | rfl | rfl | rfl <;> decide +kernel
  rcases h with h | ⟨k, h⟩
  · simp only at h
    subst h
    refine ⟨?_, by simp [itD, PyData.depth, PyData.depthAll]⟩
    simp only [itD, PyData.canLay0, PyData.canLayAll0, Bool.and_true, Bool.true_and] at sz ⊢
    exact sz
  · simp only at h
    subst h
    refine ⟨?_, by simp [itD, PyData.depth, PyData.depthAll]⟩
    simp only [itD, PyData.canLay0, PyData.canLayAll0, Bool.and_true, Bool.true_and] at sz ⊢
    exact sz
theorem lay_its : ∀ {is : List Itm}, (∀ i ∈ is, ItOk i) → PyData.canLayAll0 (is.map itD) = true ∧ PyData.depthAll (is.map itD) ≤ 2
  | [], _ => by simp [PyData.canLayAll0, PyData.depthAll]
  | i :: is, h => by
    have h1 := lay_it (h i (List.mem_cons_self ..))
    have h2 := lay_its (is := is) fun j m => h j (List.mem_cons_of_mem _ m)
    refine ⟨by simp only [List.map_cons, PyData.canLayAll0, h1.1, h2.1, Bool.and_true], ?_⟩
    simp only [List.map_cons, PyData.depthAll]
    omega
theorem shaped_its {is : List Itm} (h : ∀ i ∈ is, ItOk i) : SeqAt.shaped (.list (is.map itD)) = true := by
  show ((PyData.list (is.map itD)).canLay0 && decide ((PyData.list (is.map itD)).depth ≤ 64)) = true
  have := lay_its h
  simp only [PyData.canLay0, PyData.depth, this.1, Bool.true_and]
  exact decide_eq_true (by omega)
theorem eqv_its {is : List Itm} (h : ∀ i ∈ is, ItOk i) : PyData.eqv (.list (is.map itD)) (.list (is.map itD)) = true := PySem.SeqAt.eqv_refl _ (SeqAt.canLay_of_shaped (shaped_its h))
def spPairs (K : PySem.W.Frag) : Sp := fun vs H Q _ => ∃ (r d : Addr) (ys zs : List V) (is : List Itm), vs = [.ref r, .ref d] ∧ SqL K H r ys ∧ SqL K H d zs ∧ DpAll K H ys (is.map itD) ∧ DpAll K H zs (is.map itD) ∧ (∀ i ∈ is, ItOk i) ∧ is.length ≤ 20 ∧
  ∀ H', Same H H' → Q (.bl true) H'
theorem sc_law_pairs : FnScope ["found", "due", "pair"] ["found", "due"] (defScope s_law_pairs) :=
  ⟨rfl, rfl, rfl, by decide +kernel, rfl, by decide +kernel, by decide +kernel⟩
theorem ok_pairs (F : Fn K mg "_law_pairs" s_law_pairs) (T : Bp mg) : Cal P w K mg base "_law_pairs" 1 ["found", "due"] (spPairs K) := by
  refine cal_of F sc_law_pairs
    (fun _ _ _ _ _ _ us hl => match us, hl with | [_, _], _ => rfl) ?_ ?_
  · rintro vs H Q E ⟨r, d, ys, zs, is, rfl, _⟩
    rfl
  rintro f cdv A outer s' H vs Q E free hr ⟨r, d, ys, zs, is, rfl, hr', hd, dy, dz, sh, l10, q⟩
  refine ⟨_, (pss_cons (ps_if (PW.pt (pw_or (pt_not (pt_val (pe_callB call_isi (by rfl) T.isinstance (by decide +kernel) (pa_cons (pv 0) (pa_cons (pe_bltn (v := .ty "list") (by rfl) T.list (by decide +kernel) rfl) pa_nil))))) (pw_or1 (pt_cmpR (op_neD (u64 hr)) (pv 0) (pv 1) (nomark _)))))
    (pss_one (ps_ret pe_bl))
    pss_nil)
    (pss_cons (ps_for PassesOwn.never rfl (pi_list (pv 0)) (pg_name (i := 2) sc_law_pairs.nd rfl (Or.inl rfl))
    (pss_one (ps_if (PW.pt (pw_or (pt_not (pt_val (pe_callB call_isi (by rfl) T.isinstance (by decide +kernel) (pa_cons (pv 2) (pa_cons (pe_bltn (v := .ty "tuple") (by rfl) T.tuple (by decide +kernel) rfl) pa_nil))))) (pw_or (pt_not (pt_val (pe_callB call_isi (by rfl) T.isinstance (by decide +kernel) (pa_cons (pe_ix ix_tup (pv 2) pe_int (fun _ _ => rfl)) (pa_cons (pe_bltn (v := .ty "int") (by rfl) T.int (by decide +kernel) rfl) pa_nil))))) (pw_or1 (pt_not (pt_val (pe_callB call_isi (by rfl) T.isinstance (by decide +kernel) (pa_cons (pe_ix ix_tup (pv 2) pe_int (fun _ _ => rfl)) (pa_cons (pe_bltn (v := .ty "tuple") (by rfl) T.tuple (by decide +kernel) rfl) pa_nil)))))))))
    (pss_one (ps_ret pe_bl))
    pss_nil)))
    (pss_one (ps_ret pe_bl)))), ?_⟩
  refine ⟨_, rfl, _, .ty "list", _, _, _, rfl, .ty _, ty_sql hr', kit_ty (r := true) (by decide +kernel), _, rfl, ?_⟩
  refine iteF' rfl ?_
  refine ⟨_, rfl, _, rfl, _, _, .lst hr' dy, .lst hd dz, shaped_its sh, shaped_its sh, _, rfl, ?_⟩
  refine iteF' (by rw [eqv_its sh]; rfl) ?_
  refine ⟨_, rfl, r, rfl, ⟨_, hr'⟩, ?_⟩
  refine for_list (K := K) (a := r) (xs := ys) (fun i σ G => (∃ z2 : Option V, σ = [some (V.ref r), some (V.ref d), z2]) ∧ Same H G) ⟨⟨_, rfl⟩, Same.refl H⟩ (fun i σ G _ h => h.2.seq hr') ?_ ?_
  · rintro i y σ G hi ⟨⟨z2, rfl⟩, sG⟩
    obtain ⟨it, ei, di⟩ := dps_at' dy hi
    obtain ⟨t0, v1, v2, rfl, qt, d1, d2⟩ := two_dp di
    cases d1
    have qt := sqt_same sG qt
    have d2 := dp_same sG _ _ d2
    obtain ⟨t1, ws, rfl, q1, _⟩ : ∃ t1 ws, v2 = .ref t1 ∧ SqT K G t1 ws ∧ DpAll K G ws it.2 := by
      cases d2 with
      | tup a b => exact ⟨_, _, rfl, a, b⟩
    refine ⟨_, rfl, _, .ty "tuple", _, _, _, rfl, .ty _, ty_sqt qt, kit_ty (r := true) (by decide +kernel), _, rfl, ?_⟩
    refine iteF' rfl ?_
    refine ⟨_, rfl, t0, _, _, _, rfl, rfl, qt, rfl, _, .ty "int", _, _, _, rfl, .ty _, .base (.int _), kit_ty (r := true) (by decide +kernel), _, rfl, ?_⟩
    refine iteF' rfl ?_
    refine ⟨_, rfl, t0, _, _, _, rfl, rfl, qt, rfl, _, .ty "tuple", _, _, _, rfl, .ty _, ty_sqt q1, kit_ty (r := true) (by decide +kernel), _, rfl, ?_⟩
    refine iteF' rfl ?_
    exact ⟨⟨_, rfl⟩, sG⟩
  · rintro σ G ⟨⟨z2, rfl⟩, sG⟩
    exact q G sG
end

end G0
namespace G0
open PySem PySem.Spec PyProof.Rows L2
section
variable {P : Program} {w : World} {K : PySem.W.Frag} {mg : Str → Option Value} {base : Heap} {C CP f : Addr} {fd : FuncData}
/-! ### _law_deeds -/
def stV (sv wt : Option Int) (sP : Str) (aw gr : Bool) : List V := [porV sv, porV wt, .str sP, .bl aw, .bl gr]
def ddE (d : Int × Str) : PyData := .tuple [.int d.1, .str d.2]
def ddr (c : Bool) (n : Nat) (d : Int × Str) : List (Int × Str) := if c = true then List.replicate n d else []
theorem ddr_t {c : Bool} (h : c = true) (n : Nat) (d : Int × Str) : ddr c n d = List.replicate n d := by unfold ddr; rw [if_pos h]
theorem ddr_f {c : Bool} (h : c = false) (n : Nat) (d : Int × Str) : ddr c n d = [] := by unfold ddr; rw [if_neg (by rw [h]; decide)]
def ddh (z : Str) (ms : List Int) : List (Int × Str) := ms.map fun s => (s, z)
def freeB (sv wt : Option Int) (gr : Bool) : Bool := decide (sv = none) || (gr && decide (wt = none))
def ddp (c : Bool) (sv : Option Int) (bs : List Int) : List (Int × Str) := if c = true then ddh "please" (bs.filter fun s => !decide (V.int s = porV sv)) else []
def dds (sv wt : Option Int) (aw gr : Bool) (por : Option Int) (ms bs : List Int) : List (Int × Str) :=
  ((ddh "letter" ms ++ ddp (freeB sv wt gr) sv bs) ++ ddr aw ms.length (por.getD 0, "yours")) ++ ddr gr ms.length (sv.getD 0, "done")
theorem noLs_dds : ∀ ds : List (Int × Str), noLs (ds.map ddE) = true
  | [] => rfl
  | d :: ds => by
    have := noLs_dds ds
    simp only [List.map_cons, noLs, ddE, noL, Bool.true_and, Bool.and_true]
    exact this
theorem dps_rep {H : Hp} {v : V} {d : PyData} (h : Dp K H v d) : ∀ n : Nat, DpAll K H (List.replicate n v) (List.replicate n d)
  | 0 => .nil
  | n + 1 => .cons h (dps_rep h n)
theorem porV_non (o : Option Int) : decide (porV o = V.non) = decide (o = none) := by
  cases o <;> simp [porV]
def spDeeds (K : PySem.W.Frag) : Sp := fun vs H Q _ => ∃ (sa mts bw : Addr) (sv wt : Option Int) (sP : Str) (aw gr : Bool) (por : Option Int) (ms bs : List Int), vs = [.ref sa, .ref mts, .ref bw, porV por] ∧ H sa = some (.lst (stV sv wt sP aw gr)) ∧ H mts = some (.lst (ms.map V.int)) ∧ H bw = some (.lst (bs.map V.int)) ∧ ms.length ≤ 6 ∧ bs.length ≤ 6 ∧ (aw = true → por ≠ none) ∧ (gr = true → sv ≠ none) ∧
  ∀ (r : Addr) (ys : List V) H', H r = none → Same H H' → H' r = some (.lst ys) → DpAll K H' ys ((dds sv wt aw gr por ms bs).map ddE) → Q (.ref r) H'
theorem sc_law_deeds : FnScope ["state", "mates", "below", "porter", "deeds", "seat"] ["state", "mates", "below", "porter"] (defScope s_law_deeds) :=
  ⟨rfl, rfl, rfl, by decide +kernel, rfl, by decide +kernel, by decide +kernel⟩
theorem ok_deeds (F : Fn K mg "_law_deeds" s_law_deeds) (T : Bl mg) : Cal P w K mg base "_law_deeds" 1 ["state", "mates", "below", "porter"] (spDeeds K) := by
  refine cal_of F sc_law_deeds
    (fun _ _ _ _ _ _ us hl => match us, hl with | [_, _, _, _], _ => rfl) ?_ ?_
  · rintro vs H Q E ⟨sa, mts, bw, sv, wt, sP, aw, gr, por, ms, bs, rfl, _⟩
    rfl
  rintro f cdv A outer s' H vs Q E free hr ⟨sa, mts, bw, sv, wt, sP, aw, gr, por, ms, bs, rfl, hs, hm, hb, l6, l7, ha, hg, q⟩
  refine ⟨_, (pss_cons (ps_setLc (i := 4) (own := [("seat", 5)]) (g := gName 5) (tt := tYes) (by rfl) sc_law_deeds.nd rfl rfl (sw_true rfl rfl rfl (by decide +kernel)) (pi_list (pv 1)) (blkOk_by (N := ["state", "mates", "below", "porter", "deeds", "seat"]) (sc := defScope s_law_deeds) (by decide +kernel)) (fun _ _ _ _ _ => pg_name (i := 5) sc_law_deeds.nd rfl (Or.inl rfl)) (fun _ _ _ _ _ => pts_nil) (fun _ _ _ _ _ => (pe_tup (pa_cons (pv 5) (pa_cons pe_str pa_nil)))))
    (pss_cons (ps_if (PW.pt (pw_or (pt_cmpR op_isN (pe_ix ix_list (pv 0) pe_int (fun _ _ => rfl)) pe_non (nomark _)) (pw_or1 (PW.pt (pw_and (pt_truth (pe_ix ix_list (pv 0) pe_int (fun _ _ => rfl)) (by intro _; rfl)) (pw_and1 (pt_cmpR op_isN (pe_ix ix_list (pv 0) pe_int (fun _ _ => rfl)) pe_non (nomark _))))))))
    (pss_one (ps_expr (pe_bm PySem.F.plainAttrs_list PySem.F.slot_list_extend PySem.F.type_list_extend mt_extend (pv 4) (pa_cons (pe_lc (own := [("seat", 5)]) (g := gName 5)  (by rfl) sc_law_deeds.nd (pi_list (pv 2)) (blkOk_by (N := ["state", "mates", "below", "porter", "deeds", "seat"]) (sc := defScope s_law_deeds) (by decide +kernel)) (fun _ _ _ _ _ => pg_name (i := 5) sc_law_deeds.nd rfl (Or.inl rfl)) (fun _ _ _ _ _ => pts_one (pt_cmpR op_ne (pv 5) (pe_ix (ix_listK K) (pv 0) pe_int (fun _ _ => rfl)) (nomark _))) (fun _ _ _ _ _ => (pe_tup (pa_cons (pv 5) (pa_cons pe_str pa_nil))))) pa_nil))))
    pss_nil)
    (pss_cons (ps_if (pt_truth (pe_ix ix_list (pv 0) pe_int (fun _ _ => rfl)) (by intro _; rfl))
    (pss_one (ps_expr (pe_bm PySem.F.plainAttrs_list PySem.F.slot_list_extend PySem.F.type_list_extend mt_extend (pv 4) (pa_cons (pe_op op_rep (pe_lst (pa_cons (pe_tup (pa_cons (pv 3) (pa_cons pe_str pa_nil))) pa_nil)) (pe_callB call_len_seq (by rfl) T.len (by decide +kernel) (pa_cons (pv 1) pa_nil))) pa_nil))))
    pss_nil)
    (pss_cons (ps_if (pt_truth (pe_ix ix_list (pv 0) pe_int (fun _ _ => rfl)) (by intro _; rfl))
    (pss_one (ps_expr (pe_bm PySem.F.plainAttrs_list PySem.F.slot_list_extend PySem.F.type_list_extend mt_extend (pv 4) (pa_cons (pe_op op_rep (pe_lst (pa_cons (pe_tup (pa_cons (pe_ix ix_list (pv 0) pe_int (fun _ _ => rfl)) (pa_cons pe_str pa_nil))) pa_nil)) (pe_callB call_len_seq (by rfl) T.len (by decide +kernel) (pa_cons (pv 1) pa_nil))) pa_nil))))
    pss_nil)
    (pss_one (ps_ret (pv 4))))))), ?_⟩
  refine ⟨_, rfl, mts, rfl, ⟨_, SqL.of hm⟩, fun D hD => ?_⟩
  refine lc_list (K := K) (a := mts) (xs := ms.map V.int) (fun i G => Same H G ∧ ∃ zs, zs.length = i ∧ G D = some (.lst zs) ∧ DpAll K G zs ((ddh "letter" (ms.take i)).map ddE)) ⟨same_upd hD, [], rfl, upd_same, .nil⟩ (fun i G _ h => SqL.of (h.1 _ _ hm)) ?_ ?_
  · rintro i y G hi ⟨sG, zs, lz, kD, dz⟩
    rw [List.getElem?_map] at hi
    obtain ⟨s, es, rfl⟩ : ∃ s, ms[i]? = some s ∧ y = .int s := by
      cases e : ms[i]? with
      | none => rw [e] at hi; cases hi
      | some s => rw [e] at hi; cases hi; exact ⟨s, rfl, rfl⟩
    have li := (List.getElem?_eq_some_iff.mp es).1
    refine ⟨rfl, lc_yes ?_⟩
    refine ⟨_, rfl, by show 2 ≤ sizeLine; decide, fun u hu => ?_⟩
    have s3 := same_upd (o := .tup [.int s, .str "letter"]) hu
    have kD3 := s3 _ _ kD
    refine ⟨_, kD3, Nat.lt_of_lt_of_le (show zs.length < 100 by omega) (by decide), fun c o e => ?_, zs ++ [.ref u], by rw [List.length_append, lz]; rfl, upd_same, ?_⟩
    · rw [upd_ne (ne_of_none e hD)]
      exact s3 _ _ (sG _ _ e)
    · refine dps_chg ⟨_, kD3⟩ Chg.self _ _ (noLs_dds _) ?_
      unfold ddh
      rw [List.take_succ, es, List.map_append, List.map_append]
      exact dps_app (dps_same s3 _ _ dz) (.cons (.tup (SqT.of upd_same) (.cons (.int _) (.cons (.str _) .nil))) .nil)
  rintro G0 ⟨sG0, zs, lz, kD0, dz0⟩
  rw [List.length_map, List.take_length] at dz0
  rw [List.length_map] at lz
  dsimp only [gName]
  refine seq_by (fun σ G => σ = [some (V.ref sa), some (V.ref mts), some (V.ref bw), some (porV por), some (V.ref D), none] ∧ ∃ ys, G D = some (.lst ys) ∧ DpAll K G ys ((ddh "letter" ms ++ ddp (freeB sv wt gr) sv bs).map ddE) ∧ Same H G ∧ ys.length ≤ 12) (fun N hN => ?_) ?_
  · obtain ⟨ys, G, hG, sG, kD, dz, ly⟩ : ∃ ys G, G = G0 ∧ Same H G ∧ G D = some (.lst ys) ∧ DpAll K G ys ((ddh "letter" ms).map ddE) ∧ ys.length ≤ 6 := ⟨zs, G0, rfl, sG0, kD0, dz0, by omega⟩
    rw [← hG]
    have no : freeB sv wt gr = false → N [some (V.ref sa), some (V.ref mts), some (V.ref bw), some (porV por), some (V.ref D), none] G := fun cf => by
      refine hN _ _ ⟨rfl, ys, kD, ?_, sG, by omega⟩
      have e9 : ddp (freeB sv wt gr) sv bs = [] := by unfold ddp; rw [if_neg (by rw [cf]; decide)]
      rw [e9, List.append_nil]
      exact dz
    refine ⟨_, rfl, sa, _, _, _, rfl, rfl, SqL.of (sG _ _ hs), rfl, rfl, _, rfl, ?_⟩
    rw [porV_non]
    by_cases c1 : sv = none
    · refine iteT' (by simp [c1]) ?_
      refine iteT' rfl ?_
      refine ⟨_, rfl, .inl ⟨rfl, _, SqL.of kD⟩, _, rfl, bw, rfl, ⟨_, SqL.of (sG _ _ hb)⟩, fun E5 hE5 => ?_⟩
      refine lc_list (K := K) (a := bw) (xs := bs.map V.int) (fun i G' => Same G G' ∧ ∃ z2, z2.length ≤ i ∧ G' E5 = some (.lst z2) ∧ DpAll K G' z2 ((ddh "please" ((bs.take i).filter fun s => !decide (V.int s = porV sv))).map ddE)) ⟨same_upd hE5, [], Nat.le_refl _, upd_same, .nil⟩ (fun i G' _ h => SqL.of ((sG.trans h.1) _ _ hb)) ?_ ?_
      · rintro i y G' hi ⟨s', z2, lz2, kE, dz2⟩
        rw [List.getElem?_map] at hi
        obtain ⟨s, es, rfl⟩ : ∃ s, bs[i]? = some s ∧ y = .int s := by
          cases e : bs[i]? with
          | none => rw [e] at hi; cases hi
          | some s => rw [e] at hi; cases hi; exact ⟨s, rfl, rfl⟩
        have li := (List.getElem?_eq_some_iff.mp es).1
        refine ⟨rfl, ?_⟩
        refine ⟨_, rfl, _, rfl, sa, _, _, _, rfl, rfl, SqL.of ((sG.trans s') _ _ hs), rfl, by cases sv <;> rfl, _, rfl, ?_⟩
        by_cases cs : decide (V.int s = porV sv) = true
        · refine iteF' (by simp [cs]) ?_
          refine ⟨s', z2, by omega, kE, ?_⟩
          rw [List.take_succ, es, List.filter_append]
          have : (Option.some s).toList.filter (fun s => !decide (V.int s = porV sv)) = [] := by simp [cs]
          rw [this, List.append_nil]
          exact dz2
        · refine iteT' (by simpa using cs) ?_
          refine ⟨_, rfl, by show 2 ≤ sizeLine; decide, fun u hu => ?_⟩
          have s3 := same_upd (o := .tup [.int s, .str "please"]) hu
          have kE3 := s3 _ _ kE
          refine ⟨_, kE3, Nat.lt_of_lt_of_le (show z2.length < 100 by omega) (by decide), fun c o e => ?_, z2 ++ [.ref u], by rw [List.length_append]; show _ + 1 ≤ _; omega, upd_same, ?_⟩
          · rw [upd_ne (ne_of_none e hE5)]
            exact s3 _ _ (s' _ _ e)
          · refine dps_chg ⟨_, kE3⟩ Chg.self _ _ (noLs_dds _) ?_
            rw [List.take_succ, es, List.filter_append]
            have : (Option.some s).toList.filter (fun s => !decide (V.int s = porV sv)) = [s] := by simpa using cs
            rw [this]
            unfold ddh
            rw [List.map_append, List.map_append]
            exact dps_app (dps_same s3 _ _ dz2) (.cons (.tup (SqT.of upd_same) (.cons (.int _) (.cons (.str _) .nil))) .nil)
      rintro G' ⟨s', z2, lz2, kE, dz2⟩
      rw [List.length_map] at lz2
      rw [List.length_map, List.take_length] at dz2
      have kD' := s' _ _ kD
      refine ⟨D, E5, ys, z2, rfl, rfl, kD', kE, Nat.le_trans (show _ ≤ 100 by omega) (by decide), ?_⟩
      refine hN _ _ ⟨rfl, ys ++ z2, upd_same, ?_, fun c o ec => by rw [upd_ne (ne_of_none ec hD)]; exact s' _ _ (sG _ _ ec), by rw [List.length_append]; omega⟩
      refine dps_chg ⟨_, kD'⟩ Chg.self _ _ (noLs_dds _) ?_
      rw [List.map_append]
      have e9 : ddp (freeB sv wt gr) sv bs = ddh "please" (bs.filter fun s => !decide (V.int s = porV sv)) := by unfold ddp; rw [if_pos (by simp [freeB, c1])]
      rw [e9]
      exact dps_app (dps_same s' _ _ dz) dz2
    refine iteF' (by simp [c1]) ?_
    refine ⟨_, rfl, sa, _, _, _, rfl, rfl, SqL.of (sG _ _ hs), rfl, _, rfl, ?_⟩
    by_cases c2 : gr = true
    · refine iteT' c2 ?_
      refine ⟨_, rfl, sa, _, _, _, rfl, rfl, SqL.of (sG _ _ hs), rfl, rfl, _, rfl, ?_⟩
      rw [porV_non]
      by_cases c3 : wt = none
      · refine iteT' (by simp [c3]) ?_
        refine ⟨_, rfl, .inl ⟨rfl, _, SqL.of kD⟩, _, rfl, bw, rfl, ⟨_, SqL.of (sG _ _ hb)⟩, fun E5 hE5 => ?_⟩
        refine lc_list (K := K) (a := bw) (xs := bs.map V.int) (fun i G' => Same G G' ∧ ∃ z2, z2.length ≤ i ∧ G' E5 = some (.lst z2) ∧ DpAll K G' z2 ((ddh "please" ((bs.take i).filter fun s => !decide (V.int s = porV sv))).map ddE)) ⟨same_upd hE5, [], Nat.le_refl _, upd_same, .nil⟩ (fun i G' _ h => SqL.of ((sG.trans h.1) _ _ hb)) ?_ ?_
        · rintro i y G' hi ⟨s', z2, lz2, kE, dz2⟩
          rw [List.getElem?_map] at hi
          obtain ⟨s, es, rfl⟩ : ∃ s, bs[i]? = some s ∧ y = .int s := by
            cases e : bs[i]? with
            | none => rw [e] at hi; cases hi
            | some s => rw [e] at hi; cases hi; exact ⟨s, rfl, rfl⟩
          have li := (List.getElem?_eq_some_iff.mp es).1
          refine ⟨rfl, ?_⟩
          refine ⟨_, rfl, _, rfl, sa, _, _, _, rfl, rfl, SqL.of ((sG.trans s') _ _ hs), rfl, by cases sv <;> rfl, _, rfl, ?_⟩
          by_cases cs : decide (V.int s = porV sv) = true
          · refine iteF' (by simp [cs]) ?_
            refine ⟨s', z2, by omega, kE, ?_⟩
            rw [List.take_succ, es, List.filter_append]
            have : (Option.some s).toList.filter (fun s => !decide (V.int s = porV sv)) = [] := by simp [cs]
            rw [this, List.append_nil]
            exact dz2
          · refine iteT' (by simpa using cs) ?_
            refine ⟨_, rfl, by show 2 ≤ sizeLine; decide, fun u hu => ?_⟩
            have s3 := same_upd (o := .tup [.int s, .str "please"]) hu
            have kE3 := s3 _ _ kE
            refine ⟨_, kE3, Nat.lt_of_lt_of_le (show z2.length < 100 by omega) (by decide), fun c o e => ?_, z2 ++ [.ref u], by rw [List.length_append]; show _ + 1 ≤ _; omega, upd_same, ?_⟩
            · rw [upd_ne (ne_of_none e hE5)]
              exact s3 _ _ (s' _ _ e)
            · refine dps_chg ⟨_, kE3⟩ Chg.self _ _ (noLs_dds _) ?_
              rw [List.take_succ, es, List.filter_append]
              have : (Option.some s).toList.filter (fun s => !decide (V.int s = porV sv)) = [s] := by simpa using cs
              rw [this]
              unfold ddh
              rw [List.map_append, List.map_append]
              exact dps_app (dps_same s3 _ _ dz2) (.cons (.tup (SqT.of upd_same) (.cons (.int _) (.cons (.str _) .nil))) .nil)
        rintro G' ⟨s', z2, lz2, kE, dz2⟩
        rw [List.length_map] at lz2
        rw [List.length_map, List.take_length] at dz2
        have kD' := s' _ _ kD
        refine ⟨D, E5, ys, z2, rfl, rfl, kD', kE, Nat.le_trans (show _ ≤ 100 by omega) (by decide), ?_⟩
        refine hN _ _ ⟨rfl, ys ++ z2, upd_same, ?_, fun c o ec => by rw [upd_ne (ne_of_none ec hD)]; exact s' _ _ (sG _ _ ec), by rw [List.length_append]; omega⟩
        refine dps_chg ⟨_, kD'⟩ Chg.self _ _ (noLs_dds _) ?_
        rw [List.map_append]
        have e9 : ddp (freeB sv wt gr) sv bs = ddh "please" (bs.filter fun s => !decide (V.int s = porV sv)) := by unfold ddp; rw [if_pos (by simp [freeB, c2, c3])]
        rw [e9]
        exact dps_app (dps_same s' _ _ dz) dz2
      · refine iteF' (by simp [c3]) ?_
        exact no (by simp [freeB, c1, c2, c3])
    · refine iteF' (by simpa using c2) ?_
      refine iteF' rfl ?_
      exact no (by simp [freeB, c1, c2])
  rintro σ G ⟨rfl, ys, kD, dz, sG, ly⟩
  refine seq_by (fun σ G => σ = [some (V.ref sa), some (V.ref mts), some (V.ref bw), some (porV por), some (V.ref D), none] ∧ ∃ ys, G D = some (.lst ys) ∧ DpAll K G ys (((ddh "letter" ms ++ ddp (freeB sv wt gr) sv bs) ++ ddr aw ms.length (por.getD 0, "yours")).map ddE) ∧ Same H G ∧ ys.length ≤ 18) (fun N hN => ?_) ?_
  · refine ⟨_, rfl, sa, _, _, _, rfl, rfl, SqL.of (sG _ _ hs), rfl, _, rfl, ?_⟩
    by_cases c : aw = true
    · obtain ⟨g, rfl⟩ : ∃ g, por = some g := by
        cases por with
        | none => exact absurd rfl (ha c)
        | some g => exact ⟨g, rfl⟩
      refine iteT' c ?_
      refine ⟨_, rfl, .inl ⟨rfl, _, SqL.of kD⟩, _, rfl, by show 2 ≤ sizeLine; decide, fun t ht => ⟨by show 1 ≤ sizeLine; decide, fun e he => ?_⟩⟩
      have s3 := (same_upd (o := .tup [porV (some g), .str "yours"]) ht).trans (same_upd (o := .lst [.ref t]) he)
      have kD3 := s3 _ _ kD
      refine ⟨_, rfl, mts, _, rfl, .inl (SqL.of ((sG.trans s3) _ _ hm)), e, _, _, rfl, rfl, upd_same, by rw [List.length_map]; omega, by rw [List.length_map]; omega, Nat.le_trans (show _ ≤ 6 by rw [List.length_map]; simp; omega) (by decide), fun e2 he2 => ?_⟩
      have lf : (List.replicate (((ms.map V.int).length : Nat) : Int).toNat [V.ref t]).flatten = List.replicate ms.length (V.ref t) := by rw [List.flatten_replicate_singleton, List.length_map]; rfl
      rw [lf] at *
      have s4 := same_upd (o := .lst (List.replicate ms.length (V.ref t))) he2
      have kD4 := s4 _ _ kD3
      refine ⟨D, e2, _, _, rfl, rfl, kD4, upd_same, Nat.le_trans (show _ ≤ 100 by rw [List.length_replicate]; omega) (by decide), ?_⟩
      refine hN _ _ ⟨rfl, ys ++ List.replicate ms.length (V.ref t), upd_same, ?_, fun c o ec => by rw [upd_ne (ne_of_none ec hD)]; exact s4 _ _ (s3 _ _ (sG _ _ ec)), by rw [List.length_append, List.length_replicate]; omega⟩
      refine dps_chg ⟨_, kD4⟩ Chg.self _ _ (noLs_dds _) ?_
      rw [List.map_append]
      rw [ddr_t (c := aw) c]
      rw [List.map_replicate]
      refine dps_app (dps_same (s3.trans s4) _ _ dz) (dps_rep (.tup (xs := [porV (some g), .str "yours"]) (SqT.of (s4 _ _ (same_upd he _ _ upd_same))) (.cons (.int _) (.cons (.str _) .nil))) _)
    · refine iteF' (by simpa using c) ?_
      refine hN _ _ ⟨rfl, ys, kD, ?_, sG, by omega⟩
      rw [ddr_f (c := aw) (by simpa using c), List.append_nil]
      exact dz
  clear ly
  rintro σ G ⟨rfl, ys, kD, dz, sG, ly⟩
  refine seq_by (fun σ G => σ = [some (V.ref sa), some (V.ref mts), some (V.ref bw), some (porV por), some (V.ref D), none] ∧ ∃ ys, G D = some (.lst ys) ∧ DpAll K G ys ((dds sv wt aw gr por ms bs).map ddE) ∧ Same H G ∧ ys.length ≤ 24) (fun N hN => ?_) ?_
  · refine ⟨_, rfl, sa, _, _, _, rfl, rfl, SqL.of (sG _ _ hs), rfl, _, rfl, ?_⟩
    by_cases c : gr = true
    · obtain ⟨g, rfl⟩ : ∃ g, sv = some g := by
        cases sv with
        | none => exact absurd rfl (hg c)
        | some g => exact ⟨g, rfl⟩
      refine iteT' c ?_
      unfold dds at *
      refine ⟨_, rfl, .inl ⟨rfl, _, SqL.of kD⟩, _, rfl, sa, _, _, _, rfl, rfl, SqL.of (sG _ _ hs), rfl, by show 2 ≤ sizeLine; decide, fun t ht => ⟨by show 1 ≤ sizeLine; decide, fun e he => ?_⟩⟩
      have s3 := (same_upd (o := .tup [porV (some g), .str "done"]) ht).trans (same_upd (o := .lst [.ref t]) he)
      have kD3 := s3 _ _ kD
      refine ⟨_, rfl, mts, _, rfl, .inl (SqL.of ((sG.trans s3) _ _ hm)), e, _, _, rfl, rfl, upd_same, by rw [List.length_map]; omega, by rw [List.length_map]; omega, Nat.le_trans (show _ ≤ 6 by rw [List.length_map]; simp; omega) (by decide), fun e2 he2 => ?_⟩
      have lf : (List.replicate (((ms.map V.int).length : Nat) : Int).toNat [V.ref t]).flatten = List.replicate ms.length (V.ref t) := by rw [List.flatten_replicate_singleton, List.length_map]; rfl
      rw [lf] at *
      have s4 := same_upd (o := .lst (List.replicate ms.length (V.ref t))) he2
      have kD4 := s4 _ _ kD3
      refine ⟨D, e2, _, _, rfl, rfl, kD4, upd_same, Nat.le_trans (show _ ≤ 100 by rw [List.length_replicate]; omega) (by decide), ?_⟩
      refine hN _ _ ⟨rfl, ys ++ List.replicate ms.length (V.ref t), upd_same, ?_, fun c o ec => by rw [upd_ne (ne_of_none ec hD)]; exact s4 _ _ (s3 _ _ (sG _ _ ec)), by rw [List.length_append, List.length_replicate]; omega⟩
      refine dps_chg ⟨_, kD4⟩ Chg.self _ _ (noLs_dds _) ?_
      rw [List.map_append]
      rw [ddr_t (c := gr) c]
      rw [List.map_replicate]
      refine dps_app (dps_same (s3.trans s4) _ _ dz) (dps_rep (.tup (xs := [porV (some g), .str "done"]) (SqT.of (s4 _ _ (same_upd he _ _ upd_same))) (.cons (.int _) (.cons (.str _) .nil))) _)
    · refine iteF' (by simpa using c) ?_
      refine hN _ _ ⟨rfl, ys, kD, ?_, sG, by omega⟩
      unfold dds
      rw [ddr_f (c := gr) (by simpa using c), List.append_nil]
      exact dz
  clear ly
  rintro σ G ⟨rfl, ys, kD, dz, sG, ly⟩
  exact ⟨_, rfl, q D ys G hD sG kD dz⟩
end

end G0
namespace G0
open PySem PySem.Spec PyProof.Rows L2
section
variable {P : Program} {w : World} {K : PySem.W.Frag} {mg : Str → Option Value} {base : Heap} {C CP f : Addr} {fd : FuncData}
/-! ### _law_risen, _law_asked -/
def risI (por sv : Option Int) : List Itm := match por with | none => [(sv.getD 0, [.str "yours"])] | some q => [(q, [.str "please"])]
def isN (o : Option Int) : Bool := match o with | none => true | some _ => false
theorem its_ris (por sv : Option Int) : Its (risI por sv) := by
  unfold risI
  cases por with
  | none => intro i h; rw [List.mem_singleton.mp h]; rfl
  | some q => intro i h; rw [List.mem_singleton.mp h]; rfl
def spRisen (K : PySem.W.Frag) : Sp := fun vs H Q _ => ∃ (sa : Addr) (sv wt : Option Int) (sP : Str) (aw gr : Bool) (por : Option Int), vs = [.ref sa, porV por] ∧ H sa = some (.lst (stV sv wt sP aw gr)) ∧ sv ≠ none ∧
  ∀ (r : Addr) (ys : List V) H', H r = none → Chg sa H H' → H' r = some (.lst ys) → DpAll K H' ys ((risI por sv).map itD) → H' sa = some (.lst (stV sv wt sP (aw || !isN por) (gr || isN por))) → Q (.ref r) H'
theorem sc_law_risen : FnScope ["state", "porter"] ["state", "porter"] (defScope s_law_risen) :=
  ⟨rfl, rfl, rfl, by decide +kernel, rfl, by decide +kernel, by decide +kernel⟩
theorem ok_risen (F : Fn K mg "_law_risen" s_law_risen) : Cal P w K mg base "_law_risen" 1 ["state", "porter"] (spRisen K) := by
  refine cal_of F sc_law_risen
    (fun _ _ _ _ _ _ us hl => match us, hl with | [_, _], _ => rfl) ?_ ?_
  · rintro vs H Q E ⟨sa, sv, wt, sP, aw, gr, por, rfl, _⟩
    rfl
  rintro f cdv A outer s' H vs Q E free hr ⟨sa, sv, wt, sP, aw, gr, por, rfl, hs, hsv, q⟩
  refine ⟨_, (pss_cons (ps_if (pt_cmpR op_notN (pv 1) pe_non (nomark _))
    (pss_cons (ps_asg pe_bl (pg_sub (pv 0) pe_int set_list))
    (pss_one (ps_ret (pe_lst (pa_cons (pe_tup (pa_cons (pv 1) (pa_cons (pe_tup (pa_cons pe_str pa_nil)) pa_nil))) pa_nil)))))
    pss_nil)
    (pss_cons (ps_asg pe_bl (pg_sub (pv 0) pe_int set_list))
    (pss_one (ps_ret (pe_lst (pa_cons (pe_tup (pa_cons (pe_ix ix_list (pv 0) pe_int (fun _ _ => rfl)) (pa_cons (pe_tup (pa_cons pe_str pa_nil)) pa_nil))) pa_nil)))))), ?_⟩
  refine ⟨_, rfl, rfl, _, rfl, ?_⟩
  cases por with
  | some g =>
    refine iteT' (by rfl) ?_
    refine ⟨_, rfl, sa, _, _, _, rfl, rfl, hs, rfl, ?_⟩
    have c1 : Chg sa H (upd H sa (.lst (stV sv wt sP true gr))) := Chg.self
    refine ⟨_, rfl, by show 1 ≤ sizeLine; decide, fun u hu => ⟨by show 2 ≤ sizeLine; decide, fun u2 hu2 => ⟨by show 1 ≤ sizeLine; decide, fun e he => ?_⟩⟩⟩
    have su := same_upd (o := .tup [.str "please"]) hu
    have su2 := same_upd (o := .tup [porV (some g), .ref u]) hu2
    have se := same_upd (o := .lst [.ref u2]) he
    have s3 := (su.trans su2).trans se
    have he0 := su.free (su2.free he)
    have en : e ≠ sa := fun z => by rw [z, upd_same] at he0; cases he0
    refine q e _ _ ((upd_ne en).symm.trans he0) (c1.trans (Chg.same s3)) upd_same ?_ ?_
    · exact .cons (.tup (xs := [.int g, .ref u]) (SqT.of (se _ _ upd_same)) (.cons (.int _) (.cons (.tup (SqT.of (se _ _ (su2 _ _ upd_same))) (.cons (.str _) .nil)) .nil))) .nil
    · have e1 : (aw || !isN (some g)) = true := by simp [isN]
      have e2 : (gr || isN (some g)) = gr := by simp [isN]
      rw [e1, e2]
      exact s3 _ _ upd_same
  | none =>
    refine iteF' (by rfl) ?_
    refine ⟨_, rfl, sa, _, _, _, rfl, rfl, hs, rfl, ?_⟩
    obtain ⟨y, hy⟩ : ∃ y, sv = some y := by
      cases e : sv with
      | none => exact absurd e hsv
      | some x => exact ⟨x, rfl⟩
    subst hy
    have c1 : Chg sa H (upd H sa (.lst (stV (some y) wt sP aw true))) := Chg.self
    have k1 : upd H sa (.lst (stV (some y) wt sP aw true)) sa = some (.lst (stV (some y) wt sP aw true)) := upd_same
    refine ⟨_, rfl, sa, _, _, _, rfl, rfl, SqL.of k1, rfl, by show 1 ≤ sizeLine; decide, fun u hu => ⟨by show 2 ≤ sizeLine; decide, fun u2 hu2 => ⟨by show 1 ≤ sizeLine; decide, fun e he => ?_⟩⟩⟩
    have su := same_upd (o := .tup [.str "yours"]) hu
    have su2 := same_upd (o := .tup [porV (some y), .ref u]) hu2
    have se := same_upd (o := .lst [.ref u2]) he
    have s3 := (su.trans su2).trans se
    have he0 := su.free (su2.free he)
    have en : e ≠ sa := fun z => by rw [z] at he0; exact nomatch he0.symm.trans k1
    refine q e _ _ ((upd_ne en).symm.trans he0) (c1.trans (Chg.same s3)) upd_same ?_ ?_
    · exact .cons (.tup (xs := [.int y, .ref u]) (SqT.of (se _ _ upd_same)) (.cons (.int _) (.cons (.tup (SqT.of (se _ _ (su2 _ _ upd_same))) (.cons (.str _) .nil)) .nil))) .nil
    · have e1 : (aw || !isN none) = aw := by simp [isN]
      have e2 : (gr || isN none) = true := by simp [isN]
      rw [e1, e2]
      exact s3 _ _ k1
def spAskd (K : PySem.W.Frag) : Sp := fun vs H Q _ => ∃ (sa tx r : Addr) (sv wt : Option Int) (sP : Str) (aw gr b : Bool) (x2 : V) (por : Option Int) (zs : List V) (is : List Itm), vs = [.ref sa, .ref tx, .ref r, porV por] ∧ H sa = some (.lst (stV sv wt sP aw gr)) ∧ sv ≠ none ∧ SqT K H tx [.bl b, x2] ∧ H r = some (.lst zs) ∧ r ≠ sa ∧
  DpAll K H zs (is.map itD) ∧ Its is ∧ is.length ≤ 5 ∧
  ∀ (r2 : Addr) (ys : List V) H', (r2 = r ∨ H r2 = none) → Chg sa H H' → H' r2 = some (.lst ys) → DpAll K H' ys ((is ++ (if b = true then risI por sv else [])).map itD) →
    H' sa = some (.lst (stV sv wt (if b = true then "in" else "asking") (if b = true then (aw || !isN por) else aw) (if b = true then (gr || isN por) else gr))) → Q (.ref r2) H'
theorem sc_law_asked : FnScope ["state", "play", "turned", "porter"] ["state", "play", "turned", "porter"] (defScope s_law_asked) :=
  ⟨rfl, rfl, rfl, by decide +kernel, rfl, by decide +kernel, by decide +kernel⟩
theorem ok_asked (F : Fn K mg "_law_asked" s_law_asked) (C_risen : Cal P w K mg base "_law_risen" 1 ["state", "porter"] (spRisen K)) : Cal P w K mg base "_law_asked" 2 ["state", "play", "turned", "porter"] (spAskd K) := by
  refine cal_of F sc_law_asked
    (fun _ _ _ _ _ _ us hl => match us, hl with | [_, _, _, _], _ => rfl) ?_ ?_
  · rintro vs H Q E ⟨sa, tx, r, sv, wt, sP, aw, gr, b, x2, por, zs, is, rfl, _⟩
    rfl
  rintro f cdv A outer s' H vs Q E free hr ⟨sa, tx, r, sv, wt, sP, aw, gr, b, x2, por, zs, is, rfl, hs, hsv, qx, kr, rn, dz, its, l5, q⟩
  refine ⟨_, (pss_cons (ps_asg pe_str (pg_sub (pv 0) pe_int set_list))
    (pss_cons (ps_if (pt_not (pt_truth (pe_ix ix_tup (pv 1) pe_int (fun _ _ => rfl)) (by intro _; rfl)))
    (pss_one (ps_ret (pv 2)))
    pss_nil)
    (pss_cons (ps_asg pe_str (pg_sub (pv 0) pe_int set_list))
    (pss_one (ps_ret (pe_op op_cat (pv 2) (pe_cal C_risen free (hr.mono (by decide)) (pa_cons (pv 0) (pa_cons (pv 3) pa_nil))))))))), ?_⟩
  refine ⟨_, rfl, sa, _, _, _, rfl, rfl, hs, rfl, ?_⟩
  have c1 : Chg sa H (upd H sa (.lst (stV sv wt "asking" aw gr))) := Chg.self
  have k1 : upd H sa (.lst (stV sv wt "asking" aw gr)) sa = some (.lst (stV sv wt "asking" aw gr)) := upd_same
  have nz := noLs_its its
  have lz : zs.length ≤ 5 := by rw [dps_len dz, List.length_map]; exact l5
  refine ⟨_, rfl, tx, _, _, _, rfl, rfl, sqt_chg ⟨_, hs⟩ c1 qx, rfl, _, rfl, ?_⟩
  cases b with
  | false =>
    refine iteT' rfl ?_
    refine ⟨_, rfl, q r zs _ (.inl rfl) c1 (c1 _ _ rn kr) ?_ k1⟩
    have e1 : is ++ (if false = true then risI por sv else []) = is := by simp
    rw [e1]
    exact dps_chg ⟨_, hs⟩ c1 _ _ nz dz
  | true =>
    refine iteF' rfl ?_
    refine ⟨_, rfl, sa, _, _, _, rfl, rfl, k1, rfl, ?_⟩
    have eu : (upd (upd H sa (.lst (stV sv wt "asking" aw gr))) sa (.lst (stV sv wt "in" aw gr))) = upd H sa (.lst (stV sv wt "in" aw gr)) := upd_upd
    have c2 : Chg sa H (upd (upd H sa (.lst (stV sv wt "asking" aw gr))) sa (.lst (stV sv wt "in" aw gr))) := by rw [eu]; exact Chg.self
    have k2 : (upd (upd H sa (.lst (stV sv wt "asking" aw gr))) sa (.lst (stV sv wt "in" aw gr))) sa = some (.lst (stV sv wt "in" aw gr)) := upd_same
    refine ⟨_, rfl, _, rfl, _, rfl, sa, sv, wt, "in", aw, gr, por, rfl, k2, hsv, fun r3 ys3 H3 hr3 c3 kr3 d3 k3 => ?_⟩
    have kr2 := c3 _ _ rn (c2 _ _ rn kr)
    have dz2 := dps_chg ⟨_, k2⟩ c3 _ _ nz (dps_chg ⟨_, hs⟩ c2 _ _ nz dz)
    have l3 : ys3.length = 1 := by
      rw [dps_len d3, List.length_map]
      cases por <;> rfl
    refine ⟨r, r3, zs, ys3, rfl, rfl, kr2, kr3, Nat.le_trans (show _ ≤ 6 by omega) (by decide), fun l hl => ?_⟩
    have s5 := same_upd (o := .lst (zs ++ ys3)) hl
    have ln : l ≠ sa := fun z => by rw [z] at hl; rw [hl] at k3; cases k3
    refine q l _ _ (.inr ((c2.trans c3).back hl ln)) ((c2.trans c3).trans (Chg.same s5)) upd_same ?_ (s5 _ _ k3)
    rw [if_pos rfl, List.map_append]
    exact dps_same s5 _ _ (dps_app dz2 d3)
end

end G0
namespace G0
open PySem PySem.Spec PyProof.Rows L2
section
variable {P : Program} {w : World} {K : PySem.W.Frag} {mg : Str → Option Value} {base : Heap} {C CP f : Addr} {fd : FuncData}
/-! ### _law_due -/
structure Dq where
  sv : Option Int
  wt : Option Int
  sP : Str
  aw : Bool
  gr : Bool
  n : Nat
  is : List Itm
def asqI (por sv : Option Int) (b : Bool) : List Itm := if b = true then risI por sv else []
def asqD (por sv wt : Option Int) (aw gr b : Bool) (n : Nat) (pre tl : List Itm) : Dq := ⟨sv, wt, if b = true then "in" else "asking", if b = true then (aw || !isN por) else aw, if b = true then (gr || isN por) else gr, n, pre ++ (tl ++ asqI por sv b)⟩
def tnd (ms : List Int) (L : List (Bool × List Snd)) (n : Nat) : List Itm := (nxt L n).2.map (trn ms)
def dneD (por : Option Int) (ms : List Int) (L : List (Bool × List Snd)) (aw : Bool) (n : Nat) : Option Int → Dq
  | none => ⟨none, none, "out", aw, false, n + 1, doneI por ++ tnd ms L n⟩
  | some x => asqD por (some x) none aw false (nxt L (n + 1)).1 (n + 2) (doneI por ++ tnd ms L n) (tnd ms L (n + 1))
def dueQ (por : Option Int) (ms : List Int) (L : List (Bool × List Snd)) (sv wt : Option Int) (sP : Str) (aw gr : Bool) (n : Nat) (z : Str) (s : Int) : Dq :=
  if z = "yours" then ⟨sv, wt, sP, false, true, n, [(sv.getD 0, [.str "yours"])]⟩ else
  if z = "please" ∧ sv ≠ none then ⟨sv, some s, sP, aw, gr, n, []⟩ else
  if z = "please" then asqD por (some s) wt aw gr (nxt L n).1 (n + 1) [] (tnd ms L n) else
  if z = "letter" then (if sP ≠ "asking" ∨ (nxt L n).1 = false then ⟨sv, wt, sP, aw, gr, n + 1, tnd ms L n⟩ else ⟨sv, wt, "in", aw || !isN por, gr || isN por, n + 1, tnd ms L n ++ risI por sv⟩) else
  dneD por ms L aw n wt
structure Dr (K : PySem.W.Frag) (sA aA dr mt pl : Addr) (fp : List Addr) (ms : List Int) (L : List (Bool × List Snd)) (G : Hp) : Prop where
  hd : G dr = some (.lst [.ref pl, .ref aA])
  hm : G mt = some (.lst (ms.map V.int))
  ow : Ow K G (.ref pl) (.list (L.map plyD)) fp
  n1 : sA ∉ fp
  n2 : aA ∉ fp
  sa : sA ≠ aA
  d1 : dr ≠ sA
  d2 : dr ≠ aA
  m1 : mt ≠ sA
  m2 : mt ≠ aA
theorem Dr.same {sA aA dr mt pl : Addr} {fp : List Addr} {ms : List Int} {L : List (Bool × List Snd)} {G G' : Hp} (D : Dr K sA aA dr mt pl fp ms L G) (s : Same G G') : Dr K sA aA dr mt pl fp ms L G' :=
  { D with hd := s _ _ D.hd, hm := s _ _ D.hm, ow := ow_same s D.ow }
theorem Dr.chgS {sA aA dr mt pl : Addr} {fp : List Addr} {ms : List Int} {L : List (Bool × List Snd)} {G G' : Hp} {xs : List V} (D : Dr K sA aA dr mt pl fp ms L G) (h : G sA = some (.lst xs)) (c : Chg sA G G') : Dr K sA aA dr mt pl fp ms L G' :=
  { D with hd := c _ _ D.d1 D.hd, hm := c _ _ D.m1 D.hm, ow := ow_chgL h D.n1 c D.ow }
theorem Dr.chgA {sA aA dr mt pl : Addr} {fp : List Addr} {ms : List Int} {L : List (Bool × List Snd)} {G G' : Hp} {xs : List V} (D : Dr K sA aA dr mt pl fp ms L G) (h : G aA = some (.lst xs)) (c : Chg aA G G') : Dr K sA aA dr mt pl fp ms L G' :=
  { D with hd := c _ _ D.d2 D.hd, hm := c _ _ D.m2 D.hm, ow := ow_chgL h D.n2 c D.ow }
def spDue (K : PySem.W.Frag) : Sp := fun vs H Q _ => ∃ (sA t dr mt aA pl : Addr) (fp : List Addr) (sv wt : Option Int) (sP : Str) (aw gr : Bool) (n : Nat) (z : Str) (s : Int) (por : Option Int) (ms : List Int) (L : List (Bool × List Snd)), vs = [.ref sA, .ref t, .ref dr, .ref mt, porV por] ∧
  H sA = some (.lst (stV sv wt sP aw gr)) ∧ H aA = some (.lst [.int (n : Nat)]) ∧ SqT K H t [.int s, .str z] ∧ Dr K sA aA dr mt pl fp ms L H ∧ (∀ x ∈ L, PlyOk ms.length x) ∧ L.length ≤ 40 ∧ n < 900 ∧ (z = "yours" ∨ z = "please" ∨ z = "letter" ∨ z = "done") ∧ (z = "yours" → sv ≠ none) ∧ (z = "letter" → sP = "asking" → sv ≠ none) ∧
  ∀ (r : Addr) (ys : List V) H', r ≠ sA → r ≠ aA → ChgS [sA, aA] H H' → H' r = some (.lst ys) → DpAll K H' ys ((dueQ por ms L sv wt sP aw gr n z s).is.map itD) →
    H' sA = some (.lst (stV (dueQ por ms L sv wt sP aw gr n z s).sv (dueQ por ms L sv wt sP aw gr n z s).wt (dueQ por ms L sv wt sP aw gr n z s).sP (dueQ por ms L sv wt sP aw gr n z s).aw (dueQ por ms L sv wt sP aw gr n z s).gr)) →
    H' aA = some (.lst [.int ((dueQ por ms L sv wt sP aw gr n z s).n : Nat)]) → Q (.ref r) H'
theorem sc_law_due : FnScope ["state", "deed", "draw", "mates", "porter", "play", "sent", "to", "letter"] ["state", "deed", "draw", "mates", "porter"] (defScope s_law_due) :=
  ⟨rfl, rfl, rfl, by decide +kernel, rfl, by decide +kernel, by decide +kernel⟩
theorem ok_due (F : Fn K mg "_law_due" s_law_due) (C_play : Cal P w K mg base "_law_play" 1 ["plays", "at"] (spPlay K)) (C_risen : Cal P w K mg base "_law_risen" 1 ["state", "porter"] (spRisen K)) (C_asked : Cal P w K mg base "_law_asked" 2 ["state", "play", "turned", "porter"] (spAskd K)) :
    Cal P w K mg base "_law_due" 3 ["state", "deed", "draw", "mates", "porter"] (spDue K) := by
  refine cal_of F sc_law_due
    (fun _ _ _ _ _ _ us hl => match us, hl with | [_, _, _, _, _], _ => rfl) ?_ ?_
  · rintro vs H Q E ⟨sA, t, dr, mt, aA, pl, fp, sv, wt, sP, aw, gr, n, z, s, por, ms, L, rfl, _⟩
    rfl
  rintro f cdv A outer s' H vs Q E free hr ⟨sA, t, dr, mt, aA, pl, fp, sv, wt, sP, aw, gr, n, z, s, por, ms, L, rfl, hs, ha, qt, D, okL, l40, n9, hz, hy, hl, q⟩
  refine ⟨_, (pss_cons (ps_if (pt_cmpR op_eq (pe_ix ix_tup (pv 1) pe_int (fun _ _ => rfl)) pe_str (nomark _))
    (pss_cons (ps_asg pe_bl (pg_sub (pv 0) pe_int set_list))
    (pss_cons (ps_asg pe_bl (pg_sub (pv 0) pe_int set_list))
    (pss_one (ps_ret (pe_lst (pa_cons (pe_tup (pa_cons (pe_ix ix_list (pv 0) pe_int (fun _ _ => rfl)) (pa_cons (pe_tup (pa_cons pe_str pa_nil)) pa_nil))) pa_nil))))))
    pss_nil)
    (pss_cons (ps_if (PW.pt (pw_and (pt_cmpR op_eq (pe_ix ix_tup (pv 1) pe_int (fun _ _ => rfl)) pe_str (nomark _)) (pw_and1 (pt_cmpR op_notN (pe_ix ix_list (pv 0) pe_int (fun _ _ => rfl)) pe_non (nomark _)))))
    (pss_cons (ps_asg (pe_ix ix_tup (pv 1) pe_int (fun _ _ => rfl)) (pg_sub (pv 0) pe_int set_list))
    (pss_one (ps_ret (pe_lst pa_nil))))
    pss_nil)
    (pss_cons (ps_set (i := 5) sc_law_due.nd rfl (Or.inl rfl) (pe_cal C_play free (hr.mono (by decide)) (pa_cons (pe_ix ix_list (pv 2) pe_int (fun _ _ => rfl)) (pa_cons (pe_ix ix_list (pv 2) pe_int (fun _ _ => rfl)) pa_nil))))
    (pss_cons (ps_setLc (i := 6) (own := [("to", 7), ("letter", 8)]) (g := gTup K 2 (gCons (gName 7) (gCons (gName 8) gNil))) (tt := tYes) (by rfl) sc_law_due.nd rfl rfl (sw_true rfl rfl rfl (by decide +kernel)) (pi_list (pe_ix ix_tup (pv 5) pe_int (fun _ _ => rfl))) (blkOk_by (N := ["state", "deed", "draw", "mates", "porter", "play", "sent", "to", "letter"]) (sc := defScope s_law_due) (by decide +kernel)) (fun _ _ _ _ _ => pg_tup (by rfl) (pgs_cons (pg_name (i := 7) sc_law_due.nd rfl (Or.inl rfl)) (pgs_cons (pg_name (i := 8) sc_law_due.nd rfl (Or.inl rfl)) pgs_nil))) (fun _ _ _ _ _ => pts_nil) (fun _ _ _ _ _ => (pe_tup (pa_cons (pe_ix (ix_listK K) (pv 3) (pv 7) (fun _ _ => rfl)) (pa_cons (pv 8) pa_nil)))))
    (pss_cons (ps_if (pt_cmpR op_eq (pe_ix ix_tup (pv 1) pe_int (fun _ _ => rfl)) pe_str (nomark _))
    (pss_cons (ps_asg (pe_ix ix_tup (pv 1) pe_int (fun _ _ => rfl)) (pg_sub (pv 0) pe_int set_list))
    (pss_one (ps_ret (pe_cal C_asked free (hr.mono (by decide)) (pa_cons (pv 0) (pa_cons (pv 5) (pa_cons (pv 6) (pa_cons (pv 4) pa_nil))))))))
    pss_nil)
    (pss_cons (ps_if (pt_cmpR op_eq (pe_ix ix_tup (pv 1) pe_int (fun _ _ => rfl)) pe_str (nomark _))
    (pss_cons (ps_if (PW.pt (pw_or (pt_cmpR op_ne (pe_ix ix_list (pv 0) pe_int (fun _ _ => rfl)) pe_str (nomark _)) (pw_or1 (pt_not (pt_truth (pe_ix ix_tup (pv 5) pe_int (fun _ _ => rfl)) (by intro _; rfl))))))
    (pss_one (ps_ret (pv 6)))
    pss_nil)
    (pss_cons (ps_asg pe_str (pg_sub (pv 0) pe_int set_list))
    (pss_one (ps_ret (pe_op op_cat (pv 6) (pe_cal C_risen free (hr.mono (by decide)) (pa_cons (pv 0) (pa_cons (pv 4) pa_nil))))))))
    pss_nil)
    (pss_cons (ps_asg pe_str (pg_sub (pv 0) pe_int set_list))
    (pss_cons (ps_asg pe_bl (pg_sub (pv 0) pe_int set_list))
    (pss_cons (ps_if (pt_cmpR op_notN (pv 4) pe_non (nomark _))
    (pss_one (ps_set (i := 6) sc_law_due.nd rfl (Or.inl rfl) (pe_op op_cat (pe_lst (pa_cons (pe_tup (pa_cons (pv 4) (pa_cons (pe_tup (pa_cons pe_str pa_nil)) pa_nil))) pa_nil)) (pv 6))))
    pss_nil)
    (pss_cons (ps_asg (pe_ix ix_list (pv 0) pe_int (fun _ _ => rfl)) (pg_sub (pv 0) pe_int set_list))
    (pss_cons (ps_asg pe_non (pg_sub (pv 0) pe_int set_list))
    (pss_cons (ps_if (pt_cmpR op_isN (pe_ix ix_list (pv 0) pe_int (fun _ _ => rfl)) pe_non (nomark _))
    (pss_one (ps_ret (pv 6)))
    pss_nil)
    (pss_cons (ps_set (i := 5) sc_law_due.nd rfl (Or.inl rfl) (pe_cal C_play free (hr.mono (by decide)) (pa_cons (pe_ix ix_list (pv 2) pe_int (fun _ _ => rfl)) (pa_cons (pe_ix ix_list (pv 2) pe_int (fun _ _ => rfl)) pa_nil))))
    (pss_one (ps_ret (pe_op op_cat (pv 6) (pe_cal C_asked free (hr.mono (by decide)) (pa_cons (pv 0) (pa_cons (pv 5) (pa_cons (pe_lc (own := [("to", 7), ("letter", 8)]) (g := gTup K 2 (gCons (gName 7) (gCons (gName 8) gNil))) (tt := tYes) (by rfl) sc_law_due.nd (pi_list (pe_ix ix_tup (pv 5) pe_int (fun _ _ => rfl))) (blkOk_by (N := ["state", "deed", "draw", "mates", "porter", "play", "sent", "to", "letter"]) (sc := defScope s_law_due) (by decide +kernel)) (fun _ _ _ _ _ => pg_tup (by rfl) (pgs_cons (pg_name (i := 7) sc_law_due.nd rfl (Or.inl rfl)) (pgs_cons (pg_name (i := 8) sc_law_due.nd rfl (Or.inl rfl)) pgs_nil))) (fun _ _ _ _ _ => pts_nil) (fun _ _ _ _ _ => (pe_tup (pa_cons (pe_ix (ix_listK K) (pv 3) (pv 7) (fun _ _ => rfl)) (pa_cons (pv 8) pa_nil))))) (pa_cons (pv 4) pa_nil))))))))))))))))))))), ?_⟩
  have sa0 := D.sa
  refine ⟨_, rfl, t, _, _, _, rfl, rfl, qt, rfl, rfl, _, rfl, ?_⟩
  rw [dec_str]
  by_cases cy : z = "yours"
  · refine iteT' (by simp [cy]) ?_
    obtain ⟨y, hy'⟩ : ∃ y, sv = some y := by
      cases e : sv with
      | none => exact absurd e (hy cy)
      | some x => exact ⟨x, rfl⟩
    subst hy'
    refine ⟨_, rfl, sA, _, _, _, rfl, rfl, hs, rfl, ?_⟩
    refine ⟨_, rfl, sA, _, _, _, rfl, rfl, upd_same, rfl, ?_⟩
    have k1 : upd (upd H sA (.lst ((stV (some y) wt sP aw gr).set 3 (.bl false)))) sA (.lst (stV (some y) wt sP false true)) sA = some (.lst (stV (some y) wt sP false true)) := upd_same
    have c1 : Chg sA H (upd (upd H sA (.lst ((stV (some y) wt sP aw gr).set 3 (.bl false)))) sA (.lst (stV (some y) wt sP false true))) := by rw [upd_upd]; exact Chg.self
    have ka := c1 _ _ sa0.symm ha
    refine ⟨_, rfl, sA, _, _, _, rfl, rfl, SqL.of k1, rfl, by show 1 ≤ sizeLine; decide, fun u hu => ⟨by show 2 ≤ sizeLine; decide, fun u2 hu2 => ⟨by show 1 ≤ sizeLine; decide, fun e he => ?_⟩⟩⟩
    have su := same_upd (o := .tup [.str "yours"]) hu
    have su2 := same_upd (o := .tup [porV (some y), .ref u]) hu2
    have se := same_upd (o := .lst [.ref u2]) he
    have s3 := (su.trans su2).trans se
    have he0 := su.free (su2.free he)
    have ne : e ≠ sA := fun z => by rw [z] at he0; exact nomatch he0.symm.trans k1
    have ne2 : e ≠ aA := fun z => by rw [z] at he0; exact nomatch he0.symm.trans ka
    have e1 : dueQ por ms L (some y) wt sP aw gr n z s = ⟨some y, wt, sP, false, true, n, [(y, [.str "yours"])]⟩ := by unfold dueQ; rw [if_pos cy]; rfl
    rw [e1] at q
    exact q e _ _ ne ne2 ((c1.trans (Chg.same s3)).s (by simp)) upd_same (.cons (.tup (xs := [.int y, .ref u]) (SqT.of (se _ _ upd_same)) (.cons (.int _) (.cons (.tup (SqT.of (se _ _ (su2 _ _ upd_same))) (.cons (.str _) .nil)) .nil))) .nil) (s3 _ _ k1) (s3 _ _ ka)
  refine iteF' (by simp [cy]) ?_
  unfold tNext
  dsimp only
  refine seq_by (fun σ G => σ = L2.start ["state", "deed", "draw", "mates", "porter", "play", "sent", "to", "letter"] [V.ref sA, .ref t, .ref dr, .ref mt, porV por] ∧ H = G ∧ ¬ (z = "please" ∧ sv ≠ none)) (fun N hN => ?_) ?_
  · refine ⟨_, rfl, t, _, _, _, rfl, rfl, qt, rfl, rfl, _, rfl, ?_⟩
    rw [dec_str]
    by_cases cp : z = "please"
    · refine iteT' (by simp [cp]) ?_
      refine ⟨_, rfl, sA, _, _, _, rfl, rfl, SqL.of hs, rfl, rfl, _, rfl, ?_⟩
      rw [porV_non]
      by_cases c0 : sv = none
      · refine iteF' (by simp [c0]) ?_
        exact hN _ _ ⟨rfl, rfl, fun h => h.2 c0⟩
      · refine iteT' (by simp [c0]) ?_
        refine ⟨_, rfl, t, _, _, _, rfl, rfl, qt, rfl, _, rfl, sA, _, _, _, rfl, rfl, hs, rfl, ?_⟩
        have k1 : upd H sA (.lst (stV sv (some s) sP aw gr)) sA = some (.lst (stV sv (some s) sP aw gr)) := upd_same
        have c1 : Chg sA H (upd H sA (.lst (stV sv (some s) sP aw gr))) := Chg.self
        have ka := c1 _ _ sa0.symm ha
        refine ⟨Nat.zero_le _, fun e he => ?_⟩
        have s3 := same_upd (o := .lst []) he
        have ne : e ≠ sA := fun z => by rw [z] at he; exact nomatch he.symm.trans k1
        have ne2 : e ≠ aA := fun z => by rw [z] at he; exact nomatch he.symm.trans ka
        have e1 : dueQ por ms L sv wt sP aw gr n z s = ⟨sv, some s, sP, aw, gr, n, []⟩ := by unfold dueQ; rw [if_neg cy, if_pos ⟨cp, c0⟩]
        rw [e1] at q
        exact q e [] _ ne ne2 ((c1.trans (Chg.same s3)).s (by simp)) upd_same .nil (s3 _ _ k1) (s3 _ _ ka)
    · refine iteF' (by simp [cp]) ?_
      refine iteF' rfl ?_
      exact hN _ _ ⟨rfl, rfl, fun h => cp h.1⟩
  rintro σ G ⟨rfl, rfl, npl⟩
  -- the play
  refine ⟨_, rfl, dr, _, _, _, rfl, rfl, SqL.of D.hd, rfl, _, rfl, dr, _, _, _, rfl, rfl, SqL.of D.hd, rfl, pl, aA, n, L, fp, rfl, ha, D.ow, D.n2, by omega, l40, fun x H1 c1 k1 dx => ?_⟩
  have D1 := D.chgA ha c1
  have hs1 := c1 _ _ sa0 hs
  have qt1 := sqt_chg ⟨_, ha⟩ c1 qt
  obtain ⟨tx, v1, v2, rfl, qx, d1, d2⟩ := two_dp dx
  cases d1
  obtain ⟨a2, ws, rfl, qa, da⟩ := lst_dp d2
  refine ⟨_, rfl, tx, _, _, _, rfl, rfl, qx, rfl, a2, rfl, ⟨_, qa⟩, fun DD hDD => ?_⟩
  refine lc_list (K := K) (a := a2) (xs := ws) (fun i G => Same (H1) G ∧ ∃ zs, zs.length = i ∧ G DD = some (.lst zs) ∧ DpAll K G zs ((((nxt L n).2.take i).map (trn ms)).map itD)) ⟨same_upd hDD, [], rfl, upd_same, .nil⟩ (fun i G _ h => h.1.seq qa) ?_ ?_
  · rintro i y G hi ⟨sG, zs, lz, kD, dz⟩
    obtain ⟨s, es, ds⟩ := dps_at' da hi
    have li := (List.getElem?_eq_some_iff.mp hi).1
    have so := (nxt_ok okL n).2 s (List.mem_of_getElem? es)
    have l5 := (nxt_ok okL n).1
    have lw := dps_len da
    rw [List.length_map] at lw
    obtain ⟨t0, v1, v2, rfl, qt, d1, d2⟩ := two_dp ds
    cases d1
    have s0 := so.low
    have s1 := so.top
    have hms : (ms.map V.int)[s.to.toNat]? = some (V.int ((ms[s.to.toNat]?).getD 0)) := by
      rw [List.getElem?_map, List.getElem?_eq_getElem (by omega)]
      rfl
    have at_ : atI (ms.map V.int) s.to = some (V.int ((ms[s.to.toNat]?).getD 0)) := by
      have := atI_nat hms
      rw [Int.toNat_of_nonneg s0] at this
      exact this
    refine ⟨t0, _, rfl, sqt_same sG qt, rfl, _, _, rfl, _, _, rfl, rfl, rfl, lc_yes ?_⟩
    refine ⟨_, rfl, _, rfl, mt, _, _, _, rfl, rfl, SqL.of (sG _ _ D1.hm), at_, _, rfl, by show 2 ≤ sizeLine; decide, fun u hu => ?_⟩
    have s3 := same_upd (o := .tup [V.int ((ms[s.to.toNat]?).getD 0), v2]) hu
    have kD3 := s3 _ _ kD
    refine ⟨_, kD3, Nat.lt_of_lt_of_le (show zs.length < 100 by omega) (by decide), fun c o e => ?_, zs ++ [.ref u], by rw [List.length_append, lz]; rfl, upd_same, ?_⟩
    · rw [upd_ne (ne_of_none e hDD)]
      exact s3 _ _ (sG _ _ e)
    · have n1 : noLs (((((nxt L n).2.take (i + 1)).map (trn ms))).map itD) = true := noLs_its (its_trn _ _)
      refine dps_chg ⟨_, kD3⟩ Chg.self _ _ n1 ?_
      rw [List.take_succ, es, List.map_append, List.map_append]
      refine dps_app (dps_same s3 _ _ dz) (.cons (.tup (SqT.of upd_same) (.cons (.int _) (.cons (dp_same (sG.trans s3) _ _ d2) .nil))) .nil)
  rintro G2 ⟨sG, zs, lz, kz, dz⟩
  have lw := dps_len da
  rw [List.length_map] at lw
  rw [lw, List.take_length] at dz
  have l5 := (nxt_ok okL n).1
  have nzs : DD ≠ sA := (ne_of_none hs1 hDD).symm
  have nza : DD ≠ aA := (ne_of_none k1 hDD).symm
  have D2 := D1.same sG
  have hs2 := sG _ _ hs1
  have ha2 := sG _ _ k1
  have qt2 := sqt_same sG qt1
  have qx2 := sqt_same sG qx
  have c02 : ChgS [sA, aA] H G2 := (c1.s (by simp)).trans (Same.s sG)
  have ndz := its_trn ms (nxt L n).2
  refine ⟨_, rfl, t, _, _, _, rfl, rfl, qt2, rfl, rfl, _, rfl, ?_⟩
  rw [dec_str]
  by_cases cp : z = "please"
  · refine iteT' (by simp [cp]) ?_
    have c0 : sv = none := Classical.byContradiction fun h => npl ⟨cp, h⟩
    refine ⟨_, rfl, t, _, _, _, rfl, rfl, qt2, rfl, _, rfl, sA, _, _, _, rfl, rfl, hs2, rfl, ?_⟩
    have k3 : upd G2 sA (.lst (stV (some s) wt sP aw gr)) sA = some (.lst (stV (some s) wt sP aw gr)) := upd_same
    have c3 : Chg sA G2 (upd G2 sA (.lst (stV (some s) wt sP aw gr))) := Chg.self
    have e1 : dueQ por ms L sv wt sP aw gr n z s = asqD por (some s) wt aw gr (nxt L n).1 (n + 1) [] (tnd ms L n) := by unfold dueQ; rw [if_neg cy, if_neg npl, if_pos cp]
    rw [e1] at q
    refine ⟨_, rfl, _, rfl, _, rfl, _, rfl, sA, tx, DD, some s, wt, sP, aw, gr, (nxt L n).1, .ref a2, por, zs, tnd ms L n, rfl, k3, nofun, sqt_chg ⟨_, hs2⟩ c3 qx2, c3 _ _ nzs kz, nzs, dps_chg ⟨_, hs2⟩ c3 _ _ (noLs_its ndz) dz, ndz, by unfold tnd; rw [List.length_map]; exact l5, fun r2 ys H' rn c4 kr d4 k4 => ?_⟩
    have c34 := c3.trans c4
    have ka := c34 _ _ sa0.symm ha2
    have hs3 : (upd G2 sA (.lst (stV (some s) wt sP aw gr))) aA = some (.lst [.int ((n + 1 : Nat) : Int)]) := c3 _ _ sa0.symm ha2
    have rn1 : r2 ≠ sA := by
      rcases rn with rfl | h
      · exact nzs
      · exact fun z => by rw [z] at h; exact nomatch h.symm.trans k3
    have rn2 : r2 ≠ aA := by
      rcases rn with rfl | h
      · exact nza
      · exact fun z => by rw [z] at h; exact nomatch h.symm.trans hs3
    refine q r2 ys H' rn1 rn2 (c02.trans (c34.s (by simp))) kr d4 k4 ka
  refine iteF' (by simp [cp]) ?_
  refine ⟨_, rfl, t, _, _, _, rfl, rfl, qt2, rfl, rfl, _, rfl, ?_⟩
  rw [dec_str]
  by_cases cl : z = "letter"
  · refine iteT' (by simp [cl]) ?_
    have hl' := hl cl
    refine ⟨_, rfl, sA, _, _, _, rfl, rfl, SqL.of hs2, rfl, rfl, _, rfl, ?_⟩
    rw [dec_str]
    have e1 : dueQ por ms L sv wt sP aw gr n z s = (if sP ≠ "asking" ∨ (nxt L n).1 = false then ⟨sv, wt, sP, aw, gr, n + 1, tnd ms L n⟩ else ⟨sv, wt, "in", aw || !isN por, gr || isN por, n + 1, tnd ms L n ++ risI por sv⟩) := by unfold dueQ; rw [if_neg cy, if_neg npl, if_neg cp, if_pos cl]
    rw [e1] at q
    have ret : (sP ≠ "asking" ∨ (nxt L n).1 = false) → Q (.ref DD) G2 := fun h => by
      rw [if_pos h] at q
      exact q DD zs G2 nzs nza c02 kz dz hs2 ha2
    by_cases ca : sP = "asking"
    · refine iteF' (by simp [ca]) ?_
      refine ⟨_, rfl, tx, _, _, _, rfl, rfl, qx2, rfl, _, rfl, ?_⟩
      cases hb : (nxt L n).1 with
      | false =>
        refine iteT' rfl ?_
        exact ⟨_, rfl, ret (.inr hb)⟩
      | true =>
        refine iteF' rfl ?_
        rw [if_neg (fun h => h.elim (fun h => h ca) (fun h => by rw [hb] at h; cases h))] at q
        refine ⟨_, rfl, sA, _, _, _, rfl, rfl, hs2, rfl, ?_⟩
        have k3 : upd G2 sA (.lst (stV sv wt "in" aw gr)) sA = some (.lst (stV sv wt "in" aw gr)) := upd_same
        have c3 : Chg sA G2 (upd G2 sA (.lst (stV sv wt "in" aw gr))) := Chg.self
        refine ⟨_, rfl, _, rfl, _, rfl, sA, sv, wt, "in", aw, gr, por, rfl, k3, hl' ca, fun r3 ys3 H3 hr3 c4 kr3 d3 k4 => ?_⟩
        have c34 := c3.trans c4
        have ka := c34 _ _ sa0.symm ha2
        have kz4 := c34 _ _ nzs kz
        have dz4 := dps_chg ⟨_, k3⟩ c4 _ _ (noLs_its ndz) (dps_chg ⟨_, hs2⟩ c3 _ _ (noLs_its ndz) dz)
        have l3 : ys3.length = 1 := by
          rw [dps_len d3, List.length_map]
          cases por <;> rfl
        have lz5 : zs.length ≤ 5 := by rw [lz, lw]; exact l5
        refine ⟨DD, r3, zs, ys3, rfl, rfl, kz4, kr3, Nat.le_trans (show _ ≤ 6 by omega) (by decide), fun l hl => ?_⟩
        have s5 := same_upd (o := .lst (zs ++ ys3)) hl
        have ln : l ≠ sA := fun z => by rw [z] at hl; exact nomatch hl.symm.trans k4
        have ln2 : l ≠ aA := fun z => by rw [z] at hl; exact nomatch hl.symm.trans ka
        refine q l _ _ ln ln2 ((c02.trans (c34.s (by simp))).trans (Same.s s5)) upd_same ?_ (s5 _ _ k4) (s5 _ _ ka)
        rw [List.map_append]
        exact dps_same s5 _ _ (dps_app dz4 d3)
    · refine iteT' (by simp [ca]) ?_
      refine iteT' rfl ?_
      exact ⟨_, rfl, ret (.inl ca)⟩
  refine iteF' (by simp [cl]) ?_
  have hlz : zs.length ≤ 5 := by rw [lz, lw]; exact l5
  refine ⟨_, rfl, sA, _, _, _, rfl, rfl, hs2, rfl, ?_⟩
  refine ⟨_, rfl, sA, _, _, _, rfl, rfl, upd_same, rfl, ?_⟩
  rw [upd_upd]
  have k3 : upd G2 sA (.lst (stV sv wt "out" aw false)) sA = some (.lst (stV sv wt "out" aw false)) := upd_same
  have c3 : Chg sA G2 (upd G2 sA (.lst (stV sv wt "out" aw false))) := Chg.self
  have kz3 := c3 _ _ nzs kz
  have dz3 := dps_chg ⟨_, hs2⟩ c3 _ _ (noLs_its ndz) dz
  have ha3 := c3 _ _ sa0.symm ha2
  have D3 := D2.chgS hs2 c3
  have c03 := c02.trans (c3.s (S := [sA, aA]) (by simp))
  have qt3 := sqt_chg ⟨_, hs2⟩ c3 qt2
  -- done to the porter
  dsimp only
  refine seq_by (fun σ G => ∃ (r2 : Addr) (zs2 : List V), σ = [some (V.ref sA), some (.ref t), some (.ref dr), some (.ref mt), some (porV por), some (.ref tx), some (.ref r2), none, none] ∧ Same (upd G2 sA (.lst (stV sv wt "out" aw false))) G ∧ G r2 = some (.lst zs2) ∧ zs2.length ≤ 6 ∧ DpAll K G zs2 ((doneI por ++ tnd ms L n).map itD) ∧ r2 ≠ sA ∧ r2 ≠ aA) (fun N hN => ?_) ?_
  · refine ⟨_, rfl, rfl, _, rfl, ?_⟩
    cases por with
    | none =>
      refine iteF' (by rfl) ?_
      exact hN _ _ ⟨DD, zs, rfl, Same.refl _, kz3, by omega, dz3, nzs, nza⟩
    | some g =>
      refine iteT' (by rfl) ?_
      refine ⟨_, rfl, by show 1 ≤ sizeLine; decide, fun u hu => ⟨by show 2 ≤ sizeLine; decide, fun u2 hu2 => ⟨by show 1 ≤ sizeLine; decide, fun e he => ?_⟩⟩⟩
      have su := same_upd (o := .tup [.str "done"]) hu
      have su2 := same_upd (o := .tup [porV (some g), .ref u]) hu2
      have se := same_upd (o := .lst [.ref u2]) he
      have s3 := (su.trans su2).trans se
      refine ⟨_, rfl, e, DD, [.ref u2], zs, rfl, rfl, upd_same, s3 _ _ kz3, Nat.le_trans (show _ ≤ 6 by simp; omega) (by decide), fun l hl => ?_⟩
      have sl := same_upd (o := .lst ([.ref u2] ++ zs)) hl
      have hl0 := s3.free hl
      refine hN _ _ ⟨l, [.ref u2] ++ zs, rfl, s3.trans sl, upd_same, by show ([_] ++ zs).length ≤ 6; rw [List.length_append]; show 1 + _ ≤ 6; omega, ?_, (ne_of_none k3 hl0).symm, (ne_of_none ha3 hl0).symm⟩
      rw [List.map_append]
      exact dps_app (.cons (.tup (xs := [.int g, .ref u]) (SqT.of (sl _ _ (se _ _ upd_same))) (.cons (.int _) (.cons (.tup (SqT.of (sl _ _ (se _ _ (su2 _ _ upd_same)))) (.cons (.str _) .nil)) .nil))) .nil) (dps_same (s3.trans sl) _ _ dz3)
  rintro σ G4 ⟨r2, zs2, rfl, s34, kr2, l6, dr2, rn1, rn2⟩
  have k4 := s34 _ _ k3
  have ha4 := s34 _ _ ha3
  have D4 := D3.same s34
  have ndr : Its (doneI por ++ tnd ms L n) := its_app (fun i h => by
    cases por with
    | none => cases h
    | some q => rw [List.mem_singleton.mp h]; rfl) ndz
  refine ⟨_, rfl, sA, _, _, _, rfl, rfl, SqL.of k4, rfl, _, rfl, sA, _, _, _, rfl, rfl, k4, rfl, ?_⟩
  refine ⟨_, rfl, sA, _, _, _, rfl, rfl, upd_same, rfl, ?_⟩
  rw [upd_upd]
  have k5 : upd G4 sA (.lst (stV wt none "out" aw false)) sA = some (.lst (stV wt none "out" aw false)) := upd_same
  have c5 : Chg sA G4 (upd G4 sA (.lst (stV wt none "out" aw false))) := Chg.self
  have kr5 := c5 _ _ rn1 kr2
  have dr5 := dps_chg ⟨_, k4⟩ c5 _ _ (noLs_its ndr) dr2
  have ha5 := c5 _ _ sa0.symm ha4
  have D5 := D4.chgS k4 c5
  have c05 := (c03.trans (Same.s s34)).trans (c5.s (S := [sA, aA]) (by simp))
  refine ⟨_, rfl, sA, _, _, _, rfl, rfl, SqL.of k5, rfl, rfl, _, rfl, ?_⟩
  have e1 : dueQ por ms L sv wt sP aw gr n z s = dneD por ms L aw n wt := by unfold dueQ; rw [if_neg cy, if_neg npl, if_neg cp, if_neg cl]
  rw [e1] at q
  cases wt with
  | none =>
    refine iteT' (by rfl) ?_
    exact ⟨_, rfl, q r2 zs2 _ rn1 rn2 c05 kr5 dr5 k5 ha5⟩
  | some y =>
    refine iteF' (by rfl) ?_
    refine ⟨_, rfl, dr, _, _, _, rfl, rfl, SqL.of D5.hd, rfl, _, rfl, dr, _, _, _, rfl, rfl, SqL.of D5.hd, rfl, pl, aA, n + 1, L, fp, rfl, ha5, D5.ow, D5.n2, by omega, l40, fun x6 H6 c6 k6 dx6 => ?_⟩
    have D6 := D5.chgA ha5 c6
    have hs6 := c6 _ _ sa0 k5
    have kr6 := c6 _ _ rn2 kr5
    have dr6 := dps_chg ⟨_, ha5⟩ c6 _ _ (noLs_its ndr) dr5
    obtain ⟨tx6, w1, w2, rfl, qx6, dw1, dw2⟩ := two_dp dx6
    cases dw1
    obtain ⟨a6, ws6, rfl, qa6, da6⟩ := lst_dp dw2
    refine ⟨_, rfl, _, rfl, _, rfl, _, rfl, tx6, _, _, _, rfl, rfl, qx6, rfl, a6, rfl, ⟨_, qa6⟩, fun D7 hD7 => ?_⟩
    refine lc_list (K := K) (a := a6) (xs := ws6) (fun i G => Same (H6) G ∧ ∃ zs, zs.length = i ∧ G D7 = some (.lst zs) ∧ DpAll K G zs ((((nxt L (n + 1)).2.take i).map (trn ms)).map itD)) ⟨same_upd hD7, [], rfl, upd_same, .nil⟩ (fun i G _ h => h.1.seq qa6) ?_ ?_
    · rintro i y G hi ⟨sG, zs, lz, kD, dz⟩
      obtain ⟨s, es, ds⟩ := dps_at' da6 hi
      have li := (List.getElem?_eq_some_iff.mp hi).1
      have so := (nxt_ok okL (n + 1)).2 s (List.mem_of_getElem? es)
      have l5 := (nxt_ok okL (n + 1)).1
      have lw := dps_len da6
      rw [List.length_map] at lw
      obtain ⟨t0, v1, v2, rfl, qt, d1, d2⟩ := two_dp ds
      cases d1
      have s0 := so.low
      have s1 := so.top
      have hms : (ms.map V.int)[s.to.toNat]? = some (V.int ((ms[s.to.toNat]?).getD 0)) := by
        rw [List.getElem?_map, List.getElem?_eq_getElem (by omega)]
        rfl
      have at_ : atI (ms.map V.int) s.to = some (V.int ((ms[s.to.toNat]?).getD 0)) := by
        have := atI_nat hms
        rw [Int.toNat_of_nonneg s0] at this
        exact this
      refine ⟨t0, _, rfl, sqt_same sG qt, rfl, _, _, rfl, _, _, rfl, rfl, rfl, lc_yes ?_⟩
      refine ⟨_, rfl, _, rfl, mt, _, _, _, rfl, rfl, SqL.of (sG _ _ D6.hm), at_, _, rfl, by show 2 ≤ sizeLine; decide, fun u hu => ?_⟩
      have s3 := same_upd (o := .tup [V.int ((ms[s.to.toNat]?).getD 0), v2]) hu
      have kD3 := s3 _ _ kD
      refine ⟨_, kD3, Nat.lt_of_lt_of_le (show zs.length < 100 by omega) (by decide), fun c o e => ?_, zs ++ [.ref u], by rw [List.length_append, lz]; rfl, upd_same, ?_⟩
      · rw [upd_ne (ne_of_none e hD7)]
        exact s3 _ _ (sG _ _ e)
      · have n1 : noLs (((((nxt L (n + 1)).2.take (i + 1)).map (trn ms))).map itD) = true := noLs_its (its_trn _ _)
        refine dps_chg ⟨_, kD3⟩ Chg.self _ _ n1 ?_
        rw [List.take_succ, es, List.map_append, List.map_append]
        refine dps_app (dps_same s3 _ _ dz) (.cons (.tup (SqT.of upd_same) (.cons (.int _) (.cons (dp_same (sG.trans s3) _ _ d2) .nil))) .nil)
    rintro G7 ⟨s67, zs7, lz7, kz7, dz7⟩
    have lw7 := dps_len da6
    rw [List.length_map] at lw7
    rw [lw7, List.take_length] at dz7
    have l57 := (nxt_ok okL (n + 1)).1
    have nd7 := its_trn ms (nxt L (n + 1)).2
    refine ⟨_, rfl, sA, tx6, D7, some y, none, "out", aw, false, (nxt L (n + 1)).1, .ref a6, por, zs7, tnd ms L (n + 1), rfl, s67 _ _ hs6, nofun, sqt_same s67 qx6, kz7, (ne_of_none hs6 hD7).symm, dz7, nd7, by unfold tnd; rw [List.length_map]; exact l57, fun r8 ys8 H8 rn8 c8 kr8 d8 k8 => ?_⟩
    have kr28 := c8 _ _ rn1 (s67 _ _ kr6)
    have dr8 := dps_chg ⟨_, s67 _ _ hs6⟩ c8 _ _ (noLs_its ndr) (dps_same s67 _ _ dr6)
    have ka8 := c8 _ _ sa0.symm (s67 _ _ k6)
    have l8 : ys8.length ≤ 6 := by
      rw [dps_len d8, List.length_map, List.length_append]
      unfold tnd
      rw [List.length_map]
      split
      · have : (risI por (some y)).length = 1 := by cases por <;> rfl
        omega
      · show _ + 0 ≤ 6; omega
    refine ⟨r2, r8, zs2, ys8, rfl, rfl, kr28, kr8, Nat.le_trans (show _ ≤ 12 by omega) (by decide), fun l hl => ?_⟩
    have s9 := same_upd (o := .lst (zs2 ++ ys8)) hl
    have ln : l ≠ sA := fun z => by rw [z] at hl; exact nomatch hl.symm.trans k8
    have ln2 : l ≠ aA := fun z => by rw [z] at hl; exact nomatch hl.symm.trans ka8
    refine q l _ _ ln ln2 ((((c05.trans (c6.s (by simp))).trans (Same.s s67)).trans (c8.s (by simp))).trans (Same.s s9)) upd_same ?_ (s9 _ _ k8) (s9 _ _ ka8)
    show DpAll K _ _ (((doneI por ++ tnd ms L n) ++ (tnd ms L (n + 1) ++ asqI por (some y) (nxt L (n + 1)).1)).map itD)
    rw [List.map_append]
    exact dps_same s9 _ _ (dps_app dr8 d8)
end

end G0
namespace G0
open PySem PySem.Spec PyProof.Rows L2
/-! ### what the law holds against a porter -/
theorem n_out_in : (("out" : Str) = "in") = False := eq_false (by decide +kernel)
theorem n_out_asking : (("out" : Str) = "asking") = False := eq_false (by decide +kernel)
theorem n_in_out : (("in" : Str) = "out") = False := eq_false (by decide +kernel)
theorem n_in_asking : (("in" : Str) = "asking") = False := eq_false (by decide +kernel)
theorem n_asking_out : (("asking" : Str) = "out") = False := eq_false (by decide +kernel)
theorem n_asking_in : (("asking" : Str) = "in") = False := eq_false (by decide +kernel)
theorem n_letter_please : (("letter" : Str) = "please") = False := eq_false (by decide +kernel)
theorem n_letter_done : (("letter" : Str) = "done") = False := eq_false (by decide +kernel)
theorem n_please_done : (("please" : Str) = "done") = False := eq_false (by decide +kernel)
def Sok (por sv wt : Option Int) (sP : Str) (aw gr : Bool) : Prop := (sv = none ∧ wt = none ∧ sP = "out" ∧ aw = false ∧ gr = false) ∨ (sv ≠ none ∧ wt = none ∧ sP = "asking" ∧ aw = false ∧ gr = false) ∨ (sv ≠ none ∧ wt = none ∧ sP = "in" ∧ aw = true ∧ gr = false ∧ por ≠ none) ∨ (sv ≠ none ∧ sP = "in" ∧ aw = false ∧ gr = true)
def Fits (sv wt : Option Int) (aw gr : Bool) (z : Str) : Prop := z = "letter" ∨ (z = "please" ∧ freeB sv wt gr = true) ∨ (z = "yours" ∧ aw = true) ∨ (z = "done" ∧ gr = true)
theorem nxt_min (L : List (Bool × List Snd)) (n : Nat) : nxt L (min n L.length) = nxt L n := by
  unfold nxt
  rcases Nat.lt_or_ge n L.length with h | h
  · rw [Nat.min_eq_left (by omega)]
  · rw [Nat.min_eq_right h, List.getElem?_eq_none (Nat.le_refl _), List.getElem?_eq_none h]
theorem nxk_min (L : List (Bool × List Snd)) (n : Nat) : nxk L (min n L.length) = min (n + 1) L.length := by
  unfold nxk
  split <;> omega
theorem cin_ris (por sv : Option Int) (was : Str) (h : was ≠ "in") (b : Bool) : cinP por sv was (if b = true then "in" else "asking") = asqI por sv b := by
  unfold cinP asqI risI
  cases b with
  | true => rw [if_neg (fun z => z.elim h (fun y => y rfl)), if_pos rfl] <;> cases por <;> rfl
  | false => rw [if_pos (.inr (by simp [n_asking_in])), if_neg (by decide)]
theorem same_out (v : MV) {sv wt : Option Int} {sP : Str} {aw gr : Bool} {n : Nat} {z : Str} {s : Int} (h : Sok v.por sv wt sP aw gr) (f : Fits sv wt aw gr z) :
    (outP v sv wt sP (min n v.L.length) z s).sv = (dueQ v.por v.ms v.L sv wt sP aw gr n z s).sv ∧ (outP v sv wt sP (min n v.L.length) z s).wt = (dueQ v.por v.ms v.L sv wt sP aw gr n z s).wt ∧ (outP v sv wt sP (min n v.L.length) z s).sP = (dueQ v.por v.ms v.L sv wt sP aw gr n z s).sP ∧
    (outP v sv wt sP (min n v.L.length) z s).is = (dueQ v.por v.ms v.L sv wt sP aw gr n z s).is ∧ (outP v sv wt sP (min n v.L.length) z s).k = min (dueQ v.por v.ms v.L sv wt sP aw gr n z s).n v.L.length ∧
    Sok v.por (dueQ v.por v.ms v.L sv wt sP aw gr n z s).sv (dueQ v.por v.ms v.L sv wt sP aw gr n z s).wt (dueQ v.por v.ms v.L sv wt sP aw gr n z s).sP (dueQ v.por v.ms v.L sv wt sP aw gr n z s).aw (dueQ v.por v.ms v.L sv wt sP aw gr n z s).gr := by
  have on : ("out" : Str) ≠ "in" := by rw [ne_eq, n_out_in]; exact id
  have ca := fun (x : Option Int) (b : Bool) => cin_ris v.por x "out" on b
  unfold outP srvI leftI
  simp only [nxt_min, nxk_min, gAsk, ca]
  rcases f with rfl | ⟨rfl, f⟩ | ⟨rfl, f⟩ | ⟨rfl, f⟩
  · unfold dueQ Sok cinP tnd risI isN gHear
    cases hb : (nxt v.L n).1 <;> cases hp : v.por <;> rcases h with ⟨e1, e2, e3, e4, e5⟩ | ⟨e1, e2, e3, e4, e5⟩ | ⟨e1, e2, e3, e4, e5, e6⟩ | ⟨e1, e3, e4, e5⟩ <;>
      simp_all [n_out_in, n_out_asking, n_in_out, n_in_asking, n_asking_out, n_asking_in, n_letter_yours, n_please_letter, n_letter_please]
  · unfold dueQ Sok asqD asqI tnd risI isN
    cases hb : (nxt v.L n).1 <;> cases hp : v.por <;> rcases h with ⟨e1, e2, e3, e4, e5⟩ | ⟨e1, e2, e3, e4, e5⟩ | ⟨e1, e2, e3, e4, e5, e6⟩ | ⟨e1, e3, e4, e5⟩ <;>
      simp_all [freeB, n_out_in, n_out_asking, n_in_out, n_in_asking, n_asking_out, n_asking_in, n_please_yours, n_please_letter, n_letter_please]
  · unfold dueQ Sok
    cases hp : v.por <;> rcases h with ⟨e1, e2, e3, e4, e5⟩ | ⟨e1, e2, e3, e4, e5⟩ | ⟨e1, e2, e3, e4, e5, e6⟩ | ⟨e1, e3, e4, e5⟩ <;>
      simp_all [n_out_in, n_out_asking, n_in_out, n_in_asking, n_asking_out, n_asking_in]
  · unfold dueQ Sok dneD asqD asqI tnd risI isN
    cases hb : (nxt v.L (n + 1)).1 <;> cases hp : v.por <;> cases hw : wt <;> rcases h with ⟨e1, e2, e3, e4, e5⟩ | ⟨e1, e2, e3, e4, e5⟩ | ⟨e1, e2, e3, e4, e5, e6⟩ | ⟨e1, e3, e4, e5⟩ <;>
      simp_all [n_out_in, n_out_asking, n_in_out, n_in_asking, n_asking_out, n_asking_in, n_done_yours, n_done_letter, n_done_please]
theorem it_trn {n : Int} {s : Snd} (ms : List Int) (h : SndOk n s) : ItOk (trn ms s) := by
  refine ⟨s.z, ?_, .inr ⟨_, rfl⟩⟩
  rcases h.word with e | e | e | e
  · exact .inl e
  · exact .inr (.inl e)
  · exact .inr (.inr (.inl e))
  · exact .inr (.inr (.inr (.inl e)))
def AllOk (m : Nat) (is : List Itm) : Prop := (∀ i ∈ is, ItOk i) ∧ is.length ≤ m
theorem AllOk.app {m k : Nat} {a b : List Itm} (h : AllOk m a) (g : AllOk k b) : AllOk (m + k) (a ++ b) :=
  ⟨fun i hi => (List.mem_append.mp hi).elim (h.1 i) (g.1 i), by rw [List.length_append]; have := h.2; have := g.2; omega⟩
theorem AllOk.mono {m k : Nat} {a : List Itm} (h : AllOk m a) (l : m ≤ k) : AllOk k a := ⟨h.1, Nat.le_trans h.2 l⟩
theorem ok_word1 (q : Int) {z : Str} (h : z = "please" ∨ z = "done" ∨ z = "yours") : AllOk 1 [(q, [PyData.str z])] := ⟨fun i hi => by
  rw [List.mem_singleton.mp hi]
  refine ⟨z, ?_, .inl rfl⟩
  rcases h with e | e | e
  · exact .inr (.inr (.inr (.inr (.inl e))))
  · exact .inr (.inr (.inr (.inr (.inr (.inl e)))))
  · exact .inr (.inr (.inr (.inr (.inr (.inr e))))), Nat.le_refl _⟩
theorem ok_nil : AllOk 0 [] := ⟨fun i h => (by cases h), Nat.le_refl _⟩
theorem ok_tnd (ms : List Int) {m : Int} {L : List (Bool × List Snd)} (ok : ∀ x ∈ L, PlyOk m x) (n : Nat) : AllOk 5 (tnd ms L n) := by
  have := nxt_ok ok n
  refine ⟨fun i hi => ?_, by unfold tnd; rw [List.length_map]; exact this.1⟩
  obtain ⟨s, hs, rfl⟩ := List.mem_map.mp hi
  exact it_trn ms (this.2 s hs)
theorem ok_ris (por sv : Option Int) : AllOk 1 (risI por sv) := by
  cases por with
  | none => exact ok_word1 _ (.inr (.inr rfl))
  | some q => exact ok_word1 _ (.inl rfl)
theorem ok_asq (por sv : Option Int) (b : Bool) : AllOk 1 (asqI por sv b) := by
  unfold asqI
  split
  · exact ok_ris por sv
  · exact ok_nil.mono (by decide)
theorem ok_don (por : Option Int) : AllOk 1 (doneI por) := by
  cases por with
  | none => exact ok_nil.mono (by decide)
  | some q => exact ok_word1 _ (.inr (.inl rfl))
theorem ok_dues (por : Option Int) (ms : List Int) {m : Int} {L : List (Bool × List Snd)} (ok : ∀ x ∈ L, PlyOk m x) (sv wt : Option Int) (sP : Str) (aw gr : Bool) (n : Nat) (z : Str) (s : Int) : AllOk 20 (dueQ por ms L sv wt sP aw gr n z s).is := by
  have t := ok_tnd ms ok
  unfold dueQ
  split
  · exact (ok_word1 _ (.inr (.inr rfl))).mono (by decide)
  split
  · exact ok_nil.mono (by decide)
  split
  · exact (ok_nil.app ((t n).app (ok_asq _ _ _))).mono (by decide)
  split
  · split
    · exact (t n).mono (by decide)
    · exact ((t n).app (ok_ris _ _)).mono (by decide)
  · cases wt with
    | none => exact ((ok_don por).app (t n)).mono (by decide)
    | some x => exact (((ok_don por).app (t n)).app ((t (n + 1)).app (ok_asq _ _ _))).mono (by decide)
theorem dueN (por : Option Int) (ms : List Int) (L : List (Bool × List Snd)) (sv wt : Option Int) (sP : Str) (aw gr : Bool) (n : Nat) (z : Str) (s : Int) : (dueQ por ms L sv wt sP aw gr n z s).n ≤ n + 2 := by
  unfold dueQ
  split
  · exact Nat.le_add_right _ _
  split
  · exact Nat.le_add_right _ _
  split
  · show n + 1 ≤ n + 2; omega
  split
  · split
    · show n + 1 ≤ n + 2; omega
    · show n + 1 ≤ n + 2; omega
  · cases wt with
    | none => show n + 1 ≤ n + 2; omega
    | some x => exact Nat.le_refl _
theorem ddr_mem {c : Bool} {n : Nat} {d e : Int × Str} (h : e ∈ ddr c n d) : c = true ∧ e = d := by
  unfold ddr at h
  split at h
  · rename_i hc
    exact ⟨hc, (List.mem_replicate.mp h).2⟩
  · cases h
/-- each deed that is drawn can be done -/
theorem dds_ok {v : MV} {sv wt : Option Int} {sP : Str} {aw gr : Bool} {bs : List Int} (hq : ∀ q, v.por = some q → q ∉ v.ms ∧ q ∉ bs) (dis : ∀ x ∈ bs, x ∉ v.ms) (hv : ∀ x, sv = some x → x ∈ bs) (ok : Sok v.por sv wt sP aw gr) {z : Str} {s : Int} (h : (s, z) ∈ dds sv wt aw gr v.por v.ms bs) :
    Fits sv wt aw gr z ∧ HearOk v sv sP z s ∧ (z = "yours" ∨ z = "please" ∨ z = "letter" ∨ z = "done") ∧ (z = "please" → s ∈ bs) := by
  have hgr : gr = true → sv ≠ none := fun e => by
    rcases ok with ⟨_, _, _, _, e5⟩ | ⟨e1, _, _, _, _⟩ | ⟨e1, _, _, _, _, _⟩ | ⟨e1, _, _, _⟩
    · rw [e5] at e; cases e
    all_goals exact e1
  have haw : aw = true → sv ≠ none ∧ v.por ≠ none := fun e => by
    rcases ok with ⟨_, _, _, e4, _⟩ | ⟨_, _, _, e4, _⟩ | ⟨e1, _, _, _, _, e6⟩ | ⟨_, _, e4, _⟩
    · rw [e4] at e; cases e
    · rw [e4] at e; cases e
    · exact ⟨e1, e6⟩
    · rw [e4] at e; cases e
  have hask : sP = "asking" → sv ≠ none := fun e => by
    rcases ok with ⟨_, _, e3, _, _⟩ | ⟨e1, _, _, _, _⟩ | ⟨e1, _, _, _, _, _⟩ | ⟨e1, _, _, _⟩
    · rw [e3, n_out_asking] at e; cases e
    all_goals exact e1
  have nq : ∀ {x : Int}, x ∈ v.ms ∨ x ∈ bs → v.por ≠ some x := fun h e => h.elim (hq _ e).1 (hq _ e).2
  unfold dds at h
  rcases List.mem_append.mp h with h | h
  · rcases List.mem_append.mp h with h | h
    · rcases List.mem_append.mp h with h | h
      · obtain ⟨x, hx, e⟩ := List.mem_map.mp h
        cases e
        exact ⟨.inl rfl, .inr (.inl ⟨rfl, nq (.inl hx), hx, hask⟩), .inr (.inr (.inl rfl)), fun e => by rw [n_letter_please] at e; cases e⟩
      · unfold ddp at h
        split at h
        · rename_i hc
          obtain ⟨x, hx, e⟩ := List.mem_map.mp h
          cases e
          have hb := (List.mem_filter.mp hx).1
          exact ⟨.inr (.inl ⟨rfl, hc⟩), .inr (.inr (.inl ⟨rfl, nq (.inr hb), dis _ hb⟩)), .inr (.inl rfl), fun _ => hb⟩
        · cases h
    · obtain ⟨c, e⟩ := ddr_mem h
      cases e
      obtain ⟨h1, h2⟩ := haw c
      refine ⟨.inr (.inr (.inl ⟨rfl, c⟩)), .inl ⟨rfl, ?_, h1⟩, .inl rfl, fun e => by rw [eq_comm, n_please_yours] at e; cases e⟩
      cases hp : v.por with
      | none => exact absurd hp h2
      | some q => rfl
  · obtain ⟨c, e⟩ := ddr_mem h
    cases e
    obtain ⟨x, hx⟩ : ∃ x, sv = some x := by
      cases e : sv with
      | none => exact absurd e (hgr c)
      | some x => exact ⟨x, rfl⟩
    have hb := hv x hx
    rw [hx]
    exact ⟨.inr (.inr (.inr ⟨rfl, c⟩)), .inr (.inr (.inr ⟨rfl, nq (.inr hb), dis _ hb⟩)), .inr (.inr (.inr rfl)), fun e => by rw [n_done_please] at e; cases e⟩
theorem dds_len (sv wt : Option Int) (aw gr : Bool) (por : Option Int) (ms bs : List Int) : ms.length ≤ (dds sv wt aw gr por ms bs).length := by
  unfold dds ddh
  rw [List.length_append, List.length_append, List.length_append, List.length_map]
  omega
/-- whom it serves and who waits stand among those beneath -/
theorem due_in {por : Option Int} {ms : List Int} {L : List (Bool × List Snd)} {sv wt : Option Int} {sP : Str} {aw gr : Bool} {n : Nat} {z : Str} {s : Int} {bs : List Int} (hv : ∀ x, sv = some x → x ∈ bs) (hw : ∀ x, wt = some x → x ∈ bs) (hp : z = "please" → s ∈ bs) :
    (∀ x, (dueQ por ms L sv wt sP aw gr n z s).sv = some x → x ∈ bs) ∧ (∀ x, (dueQ por ms L sv wt sP aw gr n z s).wt = some x → x ∈ bs) := by
  unfold dueQ
  split
  · exact ⟨hv, hw⟩
  split
  · rename_i h
    exact ⟨hv, fun x e => (by cases e; exact hp h.1)⟩
  split
  · rename_i h
    exact ⟨fun x e => (by cases e; exact hp h), hw⟩
  split
  · split
    · exact ⟨hv, hw⟩
    · exact ⟨hv, hw⟩
  · cases wt with
    | none => exact ⟨fun x e => (by cases e), fun x e => (by cases e)⟩
    | some y => exact ⟨fun x e => (by cases e; exact hw y rfl), fun x e => (by cases e)⟩
/-! ### the law's state -/
structure Lcm where
  mt : Addr
  bw : Addr
  dr : Addr
  pl : Addr
  sl : Addr
  sA : Addr
  aA : Addr
  fp : List Addr
  cs : List Int
  bs : List Int
structure Lwm (K : PySem.W.Frag) (C CP : Addr) (v : MV) (a : MA) (c : Lcm) (svM wtM : Option Int) (sPM : Str) (k : Nat) (sv wt : Option Int) (sP : Str) (aw gr : Bool) (n : Nat) (G : Hp) : Prop where
  mb : Pt K C CP v a svM wtM sPM k G
  dr : Dr K c.sA c.aA c.dr c.mt c.pl c.fp v.ms v.L G
  hbw : G c.bw = some (.lst (c.bs.map V.int))
  hsl : G c.sl = some (.lst (c.cs.map V.int))
  hst : G c.sA = some (.lst (stV sv wt sP aw gr))
  hat : G c.aA = some (.lst [.int (n : Nat)])
  b1 : c.bw ≠ c.sA
  b2 : c.bw ≠ c.aA
  l1 : c.sl ≠ c.sA
  l2 : c.sl ≠ c.aA
  q1 : a.mts ≠ c.sA
  q2 : a.mts ≠ c.aA
  f1 : c.sA ∉ a.fp
  f2 : c.aA ∉ a.fp
section
variable {K : PySem.W.Frag} {C CP : Addr} {v : MV} {a : MA} {c : Lcm} {svM wtM : Option Int} {sPM : Str} {k : Nat} {sv wt : Option Int} {sP : Str} {aw gr : Bool} {n : Nat} {G G' : Hp}
theorem Lwm.same (L : Lwm K C CP v a c svM wtM sPM k sv wt sP aw gr n G) (s : Same G G') : Lwm K C CP v a c svM wtM sPM k sv wt sP aw gr n G' :=
  { L with mb := L.mb.same s, dr := L.dr.same s, hbw := s _ _ L.hbw, hsl := s _ _ L.hsl, hst := s _ _ L.hst, hat := s _ _ L.hat }
/-- a list of the law's changes -/
theorem Pt.keepL {q : Addr} {xs : List V} (M : Pt K C CP v a svM wtM sPM k G) (h : G q = some (.lst xs)) (f : q ∉ a.fp) (m : a.mts ≠ q) (ch : Chg q G G') : Pt K C CP v a svM wtM sPM k G' :=
  { M with
    hp := ch _ _ (ne_of M.hp h (by intro z; cases z)) M.hp
    pup := { M.pup with hp := ch _ _ (ne_of M.pup.hp h (by intro z; cases z)) M.pup.hp
                        ow := ow_chgL h f ch M.pup.ow }
    hm := ch _ _ m M.hm }
/-- the law's own lists are changed -/
theorem Lwm.chgD (L : Lwm K C CP v a c svM wtM sPM k sv wt sP aw gr n G) (ch : ChgS [c.sA, c.aA] G G') {sv' wt' : Option Int} {sP' : Str} {aw' gr' : Bool} {n' : Nat} (e : G' c.sA = some (.lst (stV sv' wt' sP' aw' gr'))) (e2 : G' c.aA = some (.lst [.int (n' : Nat)])) : Lwm K C CP v a c svM wtM sPM k sv' wt' sP' aw' gr' n' G' := by
  have no : ∀ {q : Addr}, q ≠ c.sA → q ≠ c.aA → q ∉ [c.sA, c.aA] := fun h1 h2 => by
    simp only [List.mem_cons, List.not_mem_nil, or_false, not_or]
    exact ⟨h1, h2⟩
  have mu : MuS [c.sA, c.aA] G := fun b hb o ho => by
    simp only [List.mem_cons, List.not_mem_nil, or_false] at hb
    rcases hb with rfl | rfl
    · rw [L.hst] at ho; cases ho; exact mu_lst
    · rw [L.hat] at ho; cases ho; exact mu_lst
  have nf : ∀ {fs : List Addr}, c.sA ∉ fs → c.aA ∉ fs → ∀ b ∈ fs, b ∉ [c.sA, c.aA] := fun h1 h2 b hb => no (fun z => h1 (by rw [← z]; exact hb)) (fun z => h2 (by rw [← z]; exact hb))
  have ip : ∀ {q : Addr} {D dx : Addr} {fs : List (Str × V)}, G q = some (.ins D dx fs) → q ∉ [c.sA, c.aA] := fun h => no (ne_of h L.hst (by intro z; cases z)) (ne_of h L.hat (by intro z; cases z))
  exact { L with
    mb := { L.mb with
      hp := ch _ _ (ip L.mb.hp) L.mb.hp
      pup := { L.mb.pup with hp := ch _ _ (ip L.mb.pup.hp) L.mb.pup.hp, ow := ow_chgS mu ch _ _ _ (nf L.f1 L.f2) L.mb.pup.ow }
      hm := ch _ _ (no L.q1 L.q2) L.mb.hm }
    dr := { L.dr with hd := ch _ _ (no L.dr.d1 L.dr.d2) L.dr.hd, hm := ch _ _ (no L.dr.m1 L.dr.m2) L.dr.hm, ow := ow_chgS mu ch _ _ _ (nf L.dr.n1 L.dr.n2) L.dr.ow }
    hbw := ch _ _ (no L.b1 L.b2) L.hbw
    hsl := ch _ _ (no L.l1 L.l2) L.hsl
    hst := e
    hat := e2 }
/-- the machine is changed -/
theorem Lwm.chgM (L : Lwm K C CP v a c svM wtM sPM k sv wt sP aw gr n G) (ch : ChgS [a.p, a.inr] G G') {sv' wt' : Option Int} {sP' : Str} {k' : Nat} (M : Pt K C CP v a sv' wt' sP' k' G') : Lwm K C CP v a c sv' wt' sP' k' sv wt sP aw gr n G' := by
  have no : ∀ {q : Addr} {xs : List V}, G q = some (.lst xs) → q ∉ [a.p, a.inr] := fun h => by
    simp only [List.mem_cons, List.not_mem_nil, or_false, not_or]
    exact ⟨ne_of h L.mb.hp (by intro z; cases z), ne_of h L.mb.pup.hp (by intro z; cases z)⟩
  have mu : MuS [a.p, a.inr] G := fun b hb o ho => by
    simp only [List.mem_cons, List.not_mem_nil, or_false] at hb
    rcases hb with rfl | rfl
    · rw [L.mb.hp] at ho; cases ho; exact mu_ins
    · rw [L.mb.pup.hp] at ho; cases ho; exact mu_ins
  exact { L with
    mb := M
    dr := { L.dr with hd := ch _ _ (no L.dr.hd) L.dr.hd, hm := ch _ _ (no L.dr.hm) L.dr.hm, ow := ow_chgS mu ch _ _ _ (fun b hb => Exists.elim (ow_lst L.dr.ow b hb) fun _ e => no e) L.dr.ow }
    hbw := ch _ _ (no L.hbw) L.hbw
    hsl := ch _ _ (no L.hsl) L.hsl
    hst := ch _ _ (no L.hst) L.hst
    hat := ch _ _ (no L.hat) L.hat }
end

end G0
namespace G0
open PySem PySem.Spec PyProof.Rows L2
structure BpL (mg : Str → Option Value) : Prop extends Bp mg where
  max_ : mg "max" = none
section
variable {P : Program} {w : World} {K : PySem.W.Frag} {mg : Str → Option Value} {base : Heap} {C CP : Addr}
def MkP (P : Program) (w : World) (K : PySem.W.Frag) (mg : Str → Option Value) (base : Heap) (C : Addr) (x : Str) (k : Nat) (ps : List Str) (sp : Sp) : Prop :=
  ∃ f fd, FnOk P w K mg base CX0 k f fd ps sp ∧ Binds K fd ps [] ∧ Mk K C f ∧ mg x = some (.ref C)
def spLaw (K : PySem.W.Frag) : Sp := fun vs H Q _ => ∃ (a : Addr) (ns : List Int), vs = [.ref a] ∧ SqL K H a (ns.map V.int) ∧ ns.length ≤ 63 ∧ ∀ H', Q (.bl true) H'
theorem sc_law : FnScope ["script", "box", "parts", "under", "seats", "mates", "below", "me", "porter", "draw", "handed", "machine", "state", "cell", "deeds", "deed", "letter", "due"] ["script"] (defScope s_law) :=
  ⟨rfl, rfl, rfl, by decide +kernel, rfl, by decide +kernel, by decide +kernel⟩
theorem ok_law (F : Fn K mg "law" s_law) (T : BpL mg) (S : PtT K C) (SP : PupT K CP) (C_box : Cal P w K mg base "_law_box" 1 ["cells"] (spBox K)) (C_pick : Cal P w K mg base "_law_pick" 1 ["box", "many"] spPick) (C_plays : Cal P w K mg base "_law_plays" 2 ["box", "parts"] (spPlays K))
    (C_unlike : Cal P w K mg base "_law_unlike" 2 ["box", "many"] spUnlike) (C_pairs : Cal P w K mg base "_law_pairs" 1 ["found", "due"] (spPairs K)) (C_deeds : Cal P w K mg base "_law_deeds" 1 ["state", "mates", "below", "porter"] (spDeeds K))
    (C_due : Cal P w K mg base "_law_due" 3 ["state", "deed", "draw", "mates", "porter"] (spDue K)) (MH : Me P w K mg base C "hear" 6 ["self", "sender", "letter"] (spPhear' K C CP))
    (KP : MkP P w K mg base CP "Puppet" 11 ["self", "me", "seats", "plays"] (spPInit K CP)) (KM : MkP P w K mg base C "Porter" 2 ["self", "me", "inner", "mates", "porter"] (spTInit K C)) : Cal P w K mg base "law" 13 ["script"] (spLaw K) := by
  obtain ⟨fU, fdU, GU, bU, mU⟩ := MH
  obtain ⟨fP, fdP, GP, bP, KPm, gP⟩ := KP
  obtain ⟨fM, fdM, GM, bM, KMm, gM⟩ := KM
  refine cal_of F sc_law
    (fun _ _ _ _ _ _ us hl => match us, hl with | [_], _ => rfl) ?_ ?_
  · rintro vs H Q E ⟨a, ns, rfl, _⟩
    rfl
  rintro f cdv A outer s' H vs Q E free hr ⟨sa, ns, rfl, hS, l63, q⟩
  have hr6 : Room 6 _ := hr.mono (by decide)
  have hr3 : Room 3 _ := hr.mono (by decide)
  have hr12 : Room 12 _ := hr
  refine ⟨_, (pss_cons (ps_set (i := 1) sc_law.nd rfl (Or.inl rfl) (pe_cal C_box free (hr.mono (by decide)) (pa_cons (pe_slice sl_list (pv 0) po_none (po_some pe_int)) pa_nil)))
    (pss_cons (ps_set (i := 2) sc_law.nd rfl (Or.inl rfl) (pe_op op_add pe_int (pe_cal C_pick free (hr.mono (by decide)) (pa_cons (pv 1) (pa_cons pe_int pa_nil)))))
    (pss_cons (ps_set (i := 3) sc_law.nd rfl (Or.inl rfl) (pe_op op_add pe_int (pe_cal C_pick free (hr.mono (by decide)) (pa_cons (pv 1) (pa_cons pe_int pa_nil)))))
    (pss_cons (ps_set (i := 4) sc_law.nd rfl (Or.inl rfl) (pe_cal C_unlike free (hr.mono (by decide)) (pa_cons (pv 1) (pa_cons (pe_op op_add (pe_op op_add (pv 2) (pv 3)) pe_int) pa_nil))))
    (pss_cons (ps_set (i := 5) sc_law.nd rfl (Or.inl rfl) (pe_slice sl_list (pv 4) po_none (po_some (pv 2))))
    (pss_cons (ps_set (i := 6) sc_law.nd rfl (Or.inl rfl) (pe_slice sl_list (pv 4) (po_some (pv 2)) (po_some (pe_op op_add (pv 2) (pv 3)))))
    (pss_cons (ps_set (i := 7) sc_law.nd rfl (Or.inl rfl) (pe_ix ix_list (pv 5) (pe_cal C_pick free (hr.mono (by decide)) (pa_cons (pv 1) (pa_cons (pv 2) pa_nil))) (fun _ _ => rfl)))
    (pss_cons (ps_set (i := 8) sc_law.nd rfl (Or.inl rfl) (pe_ifExp (pt_cmpR op_gt (pe_cal C_pick free (hr.mono (by decide)) (pa_cons (pv 1) (pa_cons pe_int pa_nil))) pe_int (nomark _)) (pe_ix ix_list (pv 4) (pe_op op_add (pv 2) (pv 3)) (fun _ _ => rfl)) pe_non))
    (pss_cons (ps_set (i := 9) sc_law.nd rfl (Or.inl rfl) (pe_lst (pa_cons (pe_cal C_plays free (hr.mono (by decide)) (pa_cons (pv 1) (pa_cons (pv 2) pa_nil))) (pa_cons (pe_lst (pa_cons pe_int pa_nil)) pa_nil))))
    (pss_cons (ps_set (i := 10) sc_law.nd rfl (Or.inl rfl) (pe_callTy call_list_of (by rfl) T.list (by decide +kernel) (pa_cons (pv 5) pa_nil)))
    (pss_cons (ps_set (i := 11) sc_law.nd rfl (Or.inl rfl) (pe_make KMm GM hr3 (by rfl) gM bM .nil pass0 (pa_cons (pv 7) (pa_cons (pe_make KPm GP hr12 (by rfl) gP bP .nil pass0 (pa_cons (pe_bm PySem.F.plainAttrs_list PySem.F.slot_list_index PySem.F.type_list_index mt_index (pv 5) (pa_cons (pv 7) pa_nil)) (pa_cons (pv 2) (pa_cons (pe_ix ix_list (pv 9) pe_int (fun _ _ => rfl)) pa_nil)))) (pa_cons (pv 10) (pa_cons (pv 8) pa_nil))))))
    (pss_cons (ps_expr (pe_bm0 PySem.F.plainAttrs_list PySem.F.slot_list_clear PySem.F.type_list_clear mt_clear (pv 10)))
    (pss_cons (ps_set (i := 12) sc_law.nd rfl (Or.inl rfl) (pe_lst (pa_cons pe_non (pa_cons pe_non (pa_cons pe_str (pa_cons pe_bl (pa_cons pe_bl pa_nil)))))))
    (pss_cons (ps_for PassesOwn.never rfl (pi_list (pe_slice sl_list (pv 0) (po_some pe_int) po_none)) (pg_name (i := 13) sc_law.nd rfl (Or.inl rfl))
    (pss_cons (ps_set (i := 14) sc_law.nd rfl (Or.inl rfl) (pe_cal C_deeds free (hr.mono (by decide)) (pa_cons (pv 12) (pa_cons (pv 5) (pa_cons (pv 6) (pa_cons (pv 8) pa_nil))))))
    (pss_cons (ps_set (i := 15) sc_law.nd rfl (Or.inl rfl) (pe_ix ix_list (pv 14) (pe_op op_mod (pv 13) (pe_callB call_len_seq (by rfl) T.len (by decide +kernel) (pa_cons (pv 14) pa_nil))) (fun _ _ => rfl)))
    (pss_cons (ps_set (i := 16) sc_law.nd rfl (Or.inl rfl) (pe_ifExp (pt_cmpR op_eq (pe_ix ix_tup (pv 15) pe_int (fun _ _ => rfl)) pe_str (nomark _)) (pe_tup (pa_cons pe_str (pa_cons (pe_op op_mod (pv 13) (pe_op op_pow pe_int pe_int)) pa_nil))) (pe_tup (pa_cons (pe_ix ix_tup (pv 15) pe_int (fun _ _ => rfl)) pa_nil))))
    (pss_cons (ps_set (i := 17) sc_law.nd rfl (Or.inl rfl) (pe_cal C_due free (hr.mono (by decide)) (pa_cons (pv 12) (pa_cons (pv 15) (pa_cons (pv 9) (pa_cons (pv 5) (pa_cons (pv 8) pa_nil)))))))
    (pss_cons (ps_if (pt_not (pt_val (pe_cal C_pairs free (hr.mono (by decide)) (pa_cons (pe_meth (pv 11) S.cl mU GU hr6 bU .nil pass0 (pa_cons (pe_ix ix_tup (pv 15) pe_int (fun _ _ => rfl)) (pa_cons (pv 16) pa_nil))) (pa_cons (pv 17) pa_nil)))))
    (pss_one (ps_ret pe_bl))
    pss_nil)
    (pss_cons (ps_if (PW.pt (pw_or (pt_cmpR op_ne (pe_fld (pv 11) (by rfl)) (pe_ix ix_list (pv 12) pe_int (fun _ _ => rfl)) (nomark _)) (pw_or (pt_cmpR op_ne (pe_fld (pe_fld (pv 11) (by rfl)) (by rfl)) (pe_ix ix_list (pv 12) pe_int (fun _ _ => rfl)) (nomark _)) (pw_or1 (pt_cmpR op_ne (pe_fld (pv 11) (by rfl)) pe_str (nomark _))))))
    (pss_one (ps_ret pe_bl))
    pss_nil)
    (pss_one (ps_if (PW.pt (pw_or (pt_cmpR op_ne (pe_fld (pv 11) (by rfl)) (pv 7) (nomark _)) (pw_or1 (pt_cmpR op_ne (pe_fld (pv 11) (by rfl)) (pv 8) (nomark _)))))
    (pss_one (ps_ret pe_bl))
    pss_nil)))))))))
    (pss_one (ps_ret pe_bl)))))))))))))))), ?_⟩
  have nbL : ∀ {G : Hp} {b c x : Addr} {n : Nat}, Box n G b c → x ≠ b → x ≠ c → x ∉ [b, c] := fun _ h1 h2 => by
    simp only [List.mem_cons, List.not_mem_nil, or_false, not_or]
    exact ⟨h1, h2⟩
  -- the box
  refine ⟨_, rfl, _, rfl, sa, _, rfl, hS, fun s1 hs1 => ?_⟩
  obtain ⟨n1, en1⟩ : ∃ n1 : List Int, cutV (ns.map V.int) none (some 3) = n1.map V.int := ⟨_, by unfold cutV; rw [← List.map_drop, ← List.map_take]⟩
  rw [en1]
  have u1 := same_upd (o := .lst (n1.map V.int)) hs1
  refine ⟨s1, n1, rfl, SqL.of upd_same, fun b c H1 hb hc u2 B1 => ?_⟩
  -- parts, under, seats
  refine ⟨_, rfl, b, c, 0, 6, rfl, B1, by decide, by decide, by decide, fun d1 H2 d10 d11 B2 c2 => ?_⟩
  obtain ⟨e1, rfl⟩ : ∃ e : Nat, d1 = (e : Int) := ⟨d1.toNat, by omega⟩
  refine ⟨_, _, rfl, rfl, ?_⟩
  rw [show (fun i j => V.int (i + j)) (1 : Int) (e1 : Int) = V.int ((e1 + 1 : Nat) : Int) from congrArg V.int (by omega)]
  refine ⟨_, rfl, b, c, _, 5, rfl, B2, by decide, by decide, by decide, fun d2 H3 d20 d21 B3 c3 => ?_⟩
  obtain ⟨e2, rfl⟩ : ∃ e : Nat, d2 = (e : Int) := ⟨d2.toNat, by omega⟩
  refine ⟨_, _, rfl, rfl, ?_⟩
  rw [show (fun i j => V.int (i + j)) (1 : Int) (e2 : Int) = V.int ((e2 + 1 : Nat) : Int) from congrArg V.int (by omega)]
  refine ⟨_, rfl, _, rfl, _, rfl, _, _, rfl, rfl, _, _, rfl, rfl, b, c, _, e1 + e2 + 3, by show [V.ref b, V.int (((e1 + 1 : Nat) : Int) + ((e2 + 1 : Nat) : Int) + 1)] = _; rw [show ((e1 + 1 : Nat) : Int) + ((e2 + 1 : Nat) : Int) + 1 = ((e1 + e2 + 3 : Nat) : Int) by omega], B3, by decide, by omega, fun rs ss H4 hrs c4 B4 krs ls nds ins => ?_⟩
  have rsb := B3.ne1 hrs
  have rsc := B3.ne2 hrs
  -- mates, below
  refine ⟨_, rfl, _, rfl, _, rfl, rs, _, rfl, SqL.of krs, fun mt hmt => ?_⟩
  obtain ⟨ms, ems⟩ : ∃ ms, ms = ss.take (e1 + 1) := ⟨_, rfl⟩
  have lms : ms.length = e1 + 1 := by rw [ems, List.length_take]; omega
  have ndm : ms.Nodup := by rw [ems]; exact nds.sublist (List.take_sublist _ _)
  have ecut : cutV (ss.map V.int) none (some ((e1 + 1 : Nat) : Int)) = ms.map V.int := by
    unfold cutV
    rw [ems, HT.sIx_none, HT.sIx_nat, List.drop_zero, List.map_take, List.length_map, Nat.sub_zero, Nat.min_eq_left (by omega)]
  rw [ecut]
  have u5 := same_upd (o := .lst (ms.map V.int)) hmt
  have B5 := B4.same u5
  have mtb := B4.ne1 hmt
  have mtc := B4.ne2 hmt
  refine ⟨_, rfl, _, rfl, _, rfl, _, rfl, _, rfl, _, _, rfl, rfl, _, rfl, rs, _, rfl, SqL.of (u5 _ _ krs), fun bw hbw => ?_⟩
  obtain ⟨bs, ebs⟩ : ∃ bs, bs = (ss.drop (e1 + 1)).take (e2 + 1) := ⟨_, rfl⟩
  have lbs : bs.length = e2 + 1 := by rw [ebs, List.length_take, List.length_drop]; omega
  have ecut2 : cutV (ss.map V.int) (some ((e1 + 1 : Nat) : Int)) (some (((e1 + 1 : Nat) : Int) + ((e2 + 1 : Nat) : Int))) = bs.map V.int := by
    unfold cutV
    rw [show ((e1 + 1 : Nat) : Int) + ((e2 + 1 : Nat) : Int) = ((e1 + e2 + 2 : Nat) : Int) by omega, ebs, HT.sIx_nat, HT.sIx_nat, List.length_map, Nat.min_eq_left (by omega), Nat.min_eq_left (by omega), ← List.map_drop, ← List.map_take, show e1 + e2 + 2 - (e1 + 1) = e2 + 1 by omega]
  rw [ecut2]
  have u6 := same_upd (o := .lst (bs.map V.int)) hbw
  have B6 := B5.same u6
  have bwb := B5.ne1 hbw
  have bwc := B5.ne2 hbw
  -- they are unlike
  have dis : ∀ x ∈ bs, x ∉ ms := fun x h1 h2 => by
    rw [ebs] at h1
    rw [ems] at h2
    have := (List.nodup_append.mp (by rw [List.take_append_drop]; exact nds : (ss.take (e1 + 1) ++ ss.drop (e1 + 1)).Nodup)).2.2
    exact this x h2 x (List.mem_of_mem_take h1) rfl
  refine ⟨_, rfl, _, rfl, _, rfl, b, c, _, _, rfl, B6, by decide, by omega, wide9 (by omega) (by omega), fun dm H7 dm0 dm1 B7 c7 => ?_⟩
  have kmt7 := c7 _ _ (nbL B6 mtb mtc) (u6 _ _ (upd_same (a := mt) (H := H4) (o := .lst (ms.map V.int))))
  have kbw7 := c7 _ _ (nbL B6 bwb bwc) (upd_same (a := bw) (o := .lst (bs.map V.int)))
  have krs7 := c7 _ _ (nbL B6 rsb rsc) (u6 _ _ (u5 _ _ krs))
  obtain ⟨em, rfl⟩ : ∃ e : Nat, dm = (e : Int) := ⟨dm.toNat, by omega⟩
  obtain ⟨me, hme⟩ : ∃ me, ms[em]? = some me := ⟨_, List.getElem?_eq_getElem (by omega)⟩
  refine ⟨mt, _, _, .int me, rfl, rfl, SqL.of kmt7, atI_nat (by rw [List.getElem?_map, hme]; rfl), ?_⟩
  -- porter
  dsimp only [gName]
  refine seq_by (fun σ G => ∃ por : Option Int, σ = [some (V.ref sa), some (V.ref b), some (V.int ((e1 + 1 : Nat) : Int)), some (V.int ((e2 + 1 : Nat) : Int)), some (V.ref rs), some (V.ref mt), some (V.ref bw), some (V.int me), some (porV por), none, none, none, none, none, none, none, none, none] ∧ (∀ q, por = some q → q ∉ ms ∧ q ∉ bs) ∧ ChgS [b, c] H7 G ∧ Box 100 G b c) (fun N hN => ?_) ?_
  · refine ⟨_, rfl, b, c, _, 4, rfl, B7, by decide, by decide, by decide, fun d5 H8 d50 d51 B8 c8 => ?_⟩
    refine ⟨_, _, rfl, rfl, _, rfl, ?_⟩
    have krs8 := c8 _ _ (nbL B7 rsb rsc) krs7
    refine ite2 (fun cc => ?_) (fun cc => ?_)
    · obtain ⟨g, hg⟩ : ∃ g, ss[e1 + e2 + 2]? = some g := ⟨_, List.getElem?_eq_getElem (by omega)⟩
      refine ⟨_, rfl, _, rfl, _, rfl, _, _, rfl, rfl, rs, _, _, .int g, rfl, rfl, SqL.of krs8, by rw [show ((e1 + 1 : Nat) : Int) + ((e2 + 1 : Nat) : Int) = ((e1 + e2 + 2 : Nat) : Int) by omega]; exact atI_nat (by rw [List.getElem?_map, hg]; rfl), ?_⟩
      have far : ∀ j, j < e1 + e2 + 2 → ss[j]? ≠ some g := fun j hj e => by
        have := (List.pairwise_iff_getElem.mp nds) j (e1 + e2 + 2) (by omega) (by omega) hj
        rw [List.getElem?_eq_getElem (by omega)] at e hg
        exact this (by rw [Option.some.inj e, Option.some.inj hg])
      refine hN _ _ ⟨some g, rfl, fun q hq => ?_, c8, B8.mono (by omega)⟩
      cases hq
      constructor
      · intro hin
        rw [ems] at hin
        obtain ⟨j, hj⟩ := List.mem_iff_getElem?.mp hin
        have hj1 : j < e1 + 1 := by
          have := (List.getElem?_eq_some_iff.mp hj).1
          rw [List.length_take] at this
          omega
        rw [List.getElem?_take_of_lt hj1] at hj
        exact far j (by omega) hj
      · intro hin
        rw [ebs] at hin
        obtain ⟨j, hj⟩ := List.mem_iff_getElem?.mp hin
        have hj1 : j < e2 + 1 := by
          have := (List.getElem?_eq_some_iff.mp hj).1
          rw [List.length_take] at this
          omega
        rw [List.getElem?_take_of_lt hj1, List.getElem?_drop] at hj
        exact far (e1 + 1 + j) (by omega) hj
    · exact hN _ _ ⟨none, rfl, (fun q hq => by cases hq), c8, B8.mono (by omega)⟩
  rintro σ G8 ⟨por, rfl, hpor, c8, B8⟩
  have kmt8 := c8 _ _ (nbL B7 mtb mtc) kmt7
  have kbw8 := c8 _ _ (nbL B7 bwb bwc) kbw7
  -- the draw
  refine ⟨_, rfl, _, rfl, b, c, 100, _, rfl, B8, by decide, by omega, by omega, fun pl L fp H9 oL fr okL l40 c9 B9 => ?_⟩
  have kmt9 := c9 _ _ (nbL B8 mtb mtc) kmt8
  have kbw9 := c9 _ _ (nbL B8 bwb bwc) kbw8
  have hbH : H b = none := u1.free hb
  have hcH : H c = none := u1.free hc
  have keep : ∀ {G G' : Hp}, Same H G → ChgS [b, c] G G' → Same H G' := fun s ch x o e => ch _ _ (by
    simp only [List.mem_cons, List.not_mem_nil, or_false, not_or]
    exact ⟨ne_of_none e hbH, ne_of_none e hcH⟩) (s _ _ e)
  have z9 : Same H H9 := keep (keep (keep ((((keep (keep (keep (u1.trans u2) c2) c3) c4).trans u5).trans u6)) c7) c8) c9
  refine ⟨by show 1 ≤ sizeLine; decide, fun aA haA => ⟨by show 2 ≤ sizeLine; decide, fun dr hdr => ?_⟩⟩
  have v1 := same_upd (o := .lst [.int 0]) haA
  have v2 := same_upd (o := .lst [.ref pl, .ref aA]) hdr
  have kaA : upd (upd H9 aA (.lst [.int 0])) dr (.lst [.ref pl, .ref aA]) aA = some (.lst [.int ((0 : Nat) : Int)]) := v2 _ _ upd_same
  have kdr : upd (upd H9 aA (.lst [.int 0])) dr (.lst [.ref pl, .ref aA]) dr = some (.lst [.ref pl, .ref aA]) := upd_same
  have v := v1.trans v2
  have ndr : dr ≠ aA := (ne_of_none (upd_same (a := aA) (o := .lst [.int 0])) hdr).symm
  have nfp : ∀ {x : Addr} {fs : List Addr} {w : V} {d : PyData} {G : Hp}, Ow K G w d fs → G x = none → x ∉ fs := fun o h m => by
    obtain ⟨xs, e⟩ := ow_lst o _ m
    rw [e] at h; cases h
  have fA : aA ∉ fp := nfp oL haA
  have oL0 := ow_same v oL
  have kmt0 := v _ _ kmt9
  have kbw0 := v _ _ kbw9
  have z0 := z9.trans v
  generalize upd (upd H9 aA (.lst [.int 0])) dr (.lst [.ref pl, .ref aA]) = H0 at kaA kdr v oL0 kmt0 kbw0 z0
  have nA : ∀ {x : Addr} {o : HO}, H9 x = some o → x ≠ aA := fun h => ne_of_none h haA
  -- the list that is handed in
  refine ⟨_, rfl, mt, _, rfl, .inl (SqL.of kmt0), fun hd hhd => ?_⟩
  have u7 := same_upd (o := .lst (ms.map V.int)) hhd
  have hdf : hd ∉ fp := nfp oL0 hhd
  have khd7 : upd H0 hd (.lst (ms.map V.int)) hd = some (.lst (ms.map V.int)) := upd_same
  have kmtJ := u7 _ _ kmt0
  have kbwJ := u7 _ _ kbw0
  have kaAJ := u7 _ _ kaA
  have kdrJ := u7 _ _ kdr
  have oL7 := ow_same u7 oL0
  have mthd : mt ≠ hd := ne_of_none kmt0 hhd
  have bwhd : bw ≠ hd := ne_of_none kbw0 hhd
  have aAhd : aA ≠ hd := ne_of_none kaA hhd
  have drhd : dr ≠ hd := ne_of_none kdr hhd
  have z7 := z0.trans u7
  have hdH : H hd = none := z0.free hhd
  generalize upd H0 hd (.lst (ms.map V.int)) = HJ at u7 khd7 kmtJ kbwJ kaAJ kdrJ oL7 z7
  -- the puppet and the porter
  obtain ⟨j, hj, hfirst⟩ := first_at (List.mem_of_getElem? hme)
  refine ⟨_, rfl, _, rfl, .inl ⟨rfl, _, SqL.of kmtJ⟩, _, rfl, mt, _, _, j, _, rfl, rfl, SqL.of kmtJ, rfl, flat_ints _, hj, (by simp [eqV]), hfirst, _, rfl, _, rfl, dr, _, _, _, rfl, rfl, SqL.of kdrJ, rfl, fun pp dp hpp hdp npp => ?_⟩
  have hdp' : upd HJ dp (.own pp) pp = none := (upd_ne npp.symm).trans hpp
  have u8 := (same_upd (o := .own pp) hdp).trans (same_upd (o := .ins CP dp []) hdp')
  have kpp8 : upd (upd HJ dp (.own pp)) pp (.ins CP dp []) pp = some (.ins CP dp []) := upd_same
  generalize upd (upd HJ dp (.own pp)) pp (.ins CP dp []) = HK at u8 kpp8
  refine ⟨pp, dp, (j : Nat), _, pl, L, fp, rfl, kpp8, ow_same u8 oL7, okL, by omega, fun pl2 fp2 HL fr2 cL oPL kppL => ⟨rfl, ?_⟩⟩
  have inK : ∀ {x : Addr} {xs : List V}, HJ x = some (.lst xs) → HL x = some (.lst xs) := fun h => cL _ _ (ne_of (u8 _ _ h) kpp8 (by intro z; cases z)) (u8 _ _ h)
  have oLL := ow_chgI kpp8 cL (ow_same u8 oL7)
  refine ⟨_, rfl, _, rfl, fun pm dm hpm hdm npm => ?_⟩
  have hdm' : upd HL dm (.own pm) pm = none := (upd_ne npm.symm).trans hpm
  have uM := (same_upd (o := .own pm) hdm).trans (same_upd (o := .ins C dm []) hdm')
  have kpmM : upd (upd HL dm (.own pm)) pm (.ins C dm []) pm = some (.ins C dm []) := upd_same
  generalize upd (upd HL dm (.own pm)) pm (.ins C dm []) = HM at uM kpmM
  have khdM := uM _ _ (inK khd7)
  refine ⟨pm, dm, me, pp, por, hd, ms, rfl, kpmM, SqL.of khdM, ne_of khdM kpmM (by intro z; cases z), fun mts HN hmts cN kmts kpm => ⟨rfl, ?_⟩⟩
  have inM : ∀ {x : Addr} {xs : List V}, HJ x = some (.lst xs) → HN x = some (.lst xs) := fun h => cN _ _ (ne_of (uM _ _ (inK h)) kpmM (by intro z; cases z)) (uM _ _ (inK h))
  have oLN := ow_chgI kpmM cN (ow_same uM oLL)
  have oPN := ow_chgI kpmM cN (ow_same uM oPL)
  have kppN := cN _ _ (ne_of_none kppL hpm) (uM _ _ kppL)
  have zN : Same H HN := fun x o e => by
    have e7 := z7 _ _ e
    have eL := cL _ _ (fun z => by rw [z] at e7; exact absurd hpp (by rw [e7]; exact fun y => nomatch y)) (u8 _ _ e7)
    exact cN _ _ (fun z => by rw [z] at eL; exact absurd hpm (by rw [eL]; exact fun y => nomatch y)) (uM _ _ eL)
  have MN : Pt K C CP ⟨me, false, por, ms, L, (j : Nat), false⟩ ⟨pm, dm, pp, dp, mts, pl2, fp2⟩ none none "out" 0 HN := {
    hp := kpm
    pup := { hp := kppN, ow := oPN, le := Nat.zero_le _, few := by show L.length ≤ 100; omega, five := fun p hp => (okL p hp).1 }
    hm := kmts
    ok := fun x hx => by have := okL x hx; show PlyOk ((ms.length : Nat) : Int) x; rw [lms]; exact this
    few := by show ms.length ≤ 6; omega
    nd := ndm }
  have khdN := inM khd7
  have hdf2 : hd ∉ fp2 := fun h => by
    have := fr2 _ h
    rw [u8 _ _ khd7] at this; cases this
  have hdm2 : mts ≠ hd := (ne_of_none khdM hmts).symm
  refine ⟨_, rfl, .inl ⟨rfl, _, SqL.of khdN⟩, hd, _, rfl, rfl, khdN, ?_⟩
  have MO := MN.keepL khdN hdf2 hdm2 (Chg.self (o := .lst []))
  have keepO : ∀ {x : Addr} {o : HO}, x ≠ hd → HN x = some o → upd HN hd (.lst []) x = some o := fun n e => by rw [upd_ne n]; exact e
  have kmtO := keepO mthd (inM kmtJ)
  have kbwO := keepO bwhd (inM kbwJ)
  have kaAO := keepO aAhd (inM kaAJ)
  have kdrO := keepO drhd (inM kdrJ)
  have oLO := ow_chgL khdN hdf (Chg.self (o := .lst [])) oLN
  have zO : Same H (upd HN hd (.lst [])) := fun x o e => keepO (ne_of_none e hdH) (zN _ _ e)
  generalize upd HN hd (.lst []) = HO' at MO kmtO kbwO kaAO kdrO oLO zO
  -- what the law holds
  refine ⟨by show 5 ≤ sizeLine; decide, fun sA hsA => ?_⟩
  have uS := same_upd (o := .lst (stV none none "out" false false)) hsA
  have ksA : upd HO' sA (.lst (stV none none "out" false false)) sA = some (.lst (stV none none "out" false false)) := upd_same
  refine ⟨_, rfl, _, rfl, sa, _, rfl, (zO.trans uS).seq hS, fun sl hsl => ?_⟩
  obtain ⟨cs, ecs, lcs⟩ : ∃ cs : List Int, cutV (ns.map V.int) (some 3) none = cs.map V.int ∧ cs.length ≤ 63 := by
    refine ⟨_, by unfold cutV; rw [← List.map_drop, ← List.map_take], ?_⟩
    rw [List.length_take, List.length_drop]
    omega
  rw [ecs]
  have uT := same_upd (o := .lst (cs.map V.int)) hsl
  have uST := uS.trans uT
  have kslT : upd (upd HO' sA (.lst (stV none none "out" false false))) sl (.lst (cs.map V.int)) sl = some (.lst (cs.map V.int)) := upd_same
  have L0 : Lwm K C CP ⟨me, false, por, ms, L, (j : Nat), false⟩ ⟨pm, dm, pp, dp, mts, pl2, fp2⟩ ⟨mt, bw, dr, pl, sl, sA, aA, fp, cs, bs⟩ none none "out" (min 0 L.length) none none "out" false false 0 (upd (upd HO' sA (.lst (stV none none "out" false false))) sl (.lst (cs.map V.int))) := {
    mb := by
      rw [Nat.zero_min]
      exact MO.same uST
    dr := {
      hd := uST _ _ kdrO
      hm := uST _ _ kmtO
      ow := ow_same uST oLO
      n1 := nfp oLO hsA
      n2 := fA
      sa := (ne_of_none kaAO hsA).symm
      d1 := ne_of_none kdrO hsA
      d2 := ndr
      m1 := ne_of_none kmtO hsA
      m2 := nA kmt9 }
    hbw := uST _ _ kbwO
    hsl := kslT
    hst := uT _ _ ksA
    hat := uST _ _ kaAO
    b1 := ne_of_none kbwO hsA
    b2 := nA kbw9
    l1 := (ne_of_none ksA hsl).symm
    l2 := (ne_of_none (uS _ _ kaAO) hsl).symm
    q1 := ne_of_none MO.hm hsA
    q2 := (ne_of_none (uM _ _ (inK kaAJ)) hmts).symm
    f1 := nfp MO.pup.ow hsA
    f2 := fun h => by
      have := fr2 _ h
      rw [u8 _ _ kaAJ] at this; cases this }
  have goal0 := L0
  refine ⟨sl, rfl, ⟨_, SqL.of kslT⟩, ?_⟩
  refine for_list (K := K) (a := sl) (xs := cs.map V.int) (fun i σ G => (∃ z13 z14 z15 z16 z17 : Option V, σ = [some (V.ref sa), some (V.ref b), some (V.int ((e1 + 1 : Nat) : Int)), some (V.int ((e2 + 1 : Nat) : Int)), some (V.ref rs), some (V.ref mt), some (V.ref bw), some (V.int me), some (porV por), some (V.ref dr), some (V.ref hd), some (V.ref pm), some (V.ref sA), z13, z14, z15, z16, z17]) ∧
    ∃ (sv wt : Option Int) (sP : Str) (aw gr : Bool) (n : Nat), Lwm K C CP ⟨me, false, por, ms, L, (j : Nat), false⟩ ⟨pm, dm, pp, dp, mts, pl2, fp2⟩ ⟨mt, bw, dr, pl, sl, sA, aA, fp, cs, bs⟩ sv wt sP (min n L.length) sv wt sP aw gr n G ∧ Sok por sv wt sP aw gr ∧ n ≤ 2 * i ∧ (∀ x, sv = some x → x ∈ bs) ∧ (∀ x, wt = some x → x ∈ bs)) ⟨⟨_, _, _, _, _, rfl⟩, _, _, _, _, _, _, L0, .inl ⟨rfl, rfl, rfl, rfl, rfl⟩, Nat.le_refl _, fun x e => (by cases e), fun x e => (by cases e)⟩ (fun i σ G _ h => by
      obtain ⟨_, _, _, _, _, _, _, z, _⟩ := h
      exact SqL.of z.hsl) ?_ ?_
  · clear L0 goal0 MO MN
    rintro i x σ G hi ⟨⟨z13, z14, z15, z16, z17, rfl⟩, sv, wt, sP, aw, gr, n, L1, ok, ni, hsv, hwt⟩
    obtain ⟨v, hv⟩ : ∃ v : MV, v = ⟨me, false, por, ms, L, (j : Nat), false⟩ := ⟨_, rfl⟩
    obtain ⟨a, ha⟩ : ∃ a : MA, a = ⟨pm, dm, pp, dp, mts, pl2, fp2⟩ := ⟨_, rfl⟩
    obtain ⟨cc, hcc⟩ : ∃ cc : Lcm, cc = ⟨mt, bw, dr, pl, sl, sA, aA, fp, cs, bs⟩ := ⟨_, rfl⟩
    rw [← hv, ← ha, ← hcc] at L1
    have il := (List.getElem?_eq_some_iff.mp hi).1
    rw [List.length_map] at il
    obtain ⟨cell, rfl⟩ : ∃ cell, x = V.int cell := by
      rw [List.getElem?_map] at hi
      cases e : cs[i]? with
      | none => rw [e] at hi; cases hi
      | some y => rw [e] at hi; cases hi; exact ⟨y, rfl⟩
    -- the deeds
    have haw : aw = true → por ≠ none := fun e => by
      rcases ok with ⟨_, _, _, e4, _⟩ | ⟨_, _, _, e4, _⟩ | ⟨_, _, _, _, _, e6⟩ | ⟨_, _, e4, _⟩
      · rw [e4] at e; cases e
      · rw [e4] at e; cases e
      · exact e6
      · rw [e4] at e; cases e
    have hgr : gr = true → sv ≠ none := fun e => by
      rcases ok with ⟨_, _, _, _, e5⟩ | ⟨e1, _, _, _, _⟩ | ⟨e1, _, _, _, _, _⟩ | ⟨e1, _, _, _⟩
      · rw [e5] at e; cases e
      all_goals exact e1
    have hst1 : G sA = some (.lst (stV sv wt sP aw gr)) := by have := L1.hst; rw [hcc] at this; exact this
    have hmt1 : G mt = some (.lst (ms.map V.int)) := by have := L1.dr.hm; rw [hcc, hv] at this; exact this
    have hbw1 : G bw = some (.lst (bs.map V.int)) := by have := L1.hbw; rw [hcc] at this; exact this
    refine ⟨_, rfl, _, rfl, _, rfl, _, rfl, sA, mt, bw, sv, wt, sP, aw, gr, por, ms, bs, rfl, hst1, hmt1, hbw1, by omega, by omega, haw, hgr, fun r1 ys1 G1 hr1 s1 k1 d1 => ?_⟩
    have ly := dps_len d1
    rw [List.length_map] at ly
    have ld := dds_len sv wt aw gr por ms bs
    have y0 : 0 < ys1.length := by omega
    have m0 := Int.emod_nonneg cell (show ((ys1.length : Nat) : Int) ≠ 0 by omega)
    have m1 := Int.emod_lt_of_pos cell (show (0 : Int) < ((ys1.length : Nat) : Int) by omega)
    obtain ⟨e, he⟩ : ∃ e : Nat, cell % ((ys1.length : Nat) : Int) = (e : Int) := ⟨(cell % ((ys1.length : Nat) : Int)).toNat, by omega⟩
    have ee : e < ys1.length := by omega
    obtain ⟨⟨s, z⟩, ez, dy⟩ := dps_at' d1 (List.getElem?_eq_getElem ee)
    obtain ⟨t, w1, w2, et, qt, dw1, dw2⟩ := two_dp dy
    cases dw1
    cases dw2
    have hokv : Sok v.por sv wt sP aw gr := by rw [hv]; exact ok
    obtain ⟨fits, hok, hz, hpl⟩ := dds_ok (v := v) (sv := sv) (wt := wt) (sP := sP) (aw := aw) (gr := gr) (bs := bs) (z := z) (s := s) (by rw [hv]; exact hpor) (by rw [hv]; exact dis) hsv hokv (by rw [hv]; exact List.mem_of_getElem? ez)
    refine ⟨_, rfl, _, rfl, _, rfl, r1, _, rfl, .inl (SqL.of k1), _, _, rfl, rfl, by omega, r1, _, _, .ref t, rfl, rfl, SqL.of k1, by rw [he, ← et]; exact atI_nat (List.getElem?_eq_getElem ee), ?_⟩
    have L2 := L1.same s1
    -- the letter
    have p60 : (0 : Int) < 10 ^ (Int.toNat 60) := by decide
    dsimp only [gName]
    refine seq_by (fun σ G' => ∃ x16 : V, σ = [some (V.ref sa), some (V.ref b), some (V.int ((e1 + 1 : Nat) : Int)), some (V.int ((e2 + 1 : Nat) : Int)), some (V.ref rs), some (V.ref mt), some (V.ref bw), some (V.int me), some (porV por), some (V.ref dr), some (V.ref hd), some (V.ref pm), some (V.ref sA), some (V.int cell), some (V.ref r1), some (V.ref t), some x16, z17] ∧
      Same G1 G' ∧ (z = "please" ∨ z = "done" → ∃ t', x16 = .ref t' ∧ SqT K G' t' [.str z])) (fun N hN => ?_) ?_
    · refine ⟨_, rfl, t, _, _, _, rfl, rfl, qt, rfl, rfl, _, rfl, ?_⟩
      rw [dec_str]
      by_cases cz : z = "letter"
      · refine iteT' (by simp [cz]) ?_
        refine ⟨_, rfl, _, _, rfl, rfl, ⟨by decide, by decide, by decide⟩, _, _, rfl, rfl, p60, by show 2 ≤ sizeLine; decide, fun u hu => ?_⟩
        exact hN _ _ ⟨_, rfl, same_upd hu, fun h => by
          rw [cz, n_letter_please, n_letter_done] at h
          exact h.elim False.elim False.elim⟩
      · refine iteF' (by simp [cz]) ?_
        refine ⟨_, rfl, t, _, _, _, rfl, rfl, qt, rfl, by show 1 ≤ sizeLine; decide, fun u hu => ?_⟩
        exact hN _ _ ⟨_, rfl, same_upd hu, fun _ => ⟨u, rfl, SqT.of upd_same⟩⟩
    rintro σ G3 ⟨x16, rfl, s13, hx⟩
    have L3 := L2.same s13
    have qt3 := sqt_same s13 qt
    -- what is due
    have hst3 : G3 sA = some (.lst (stV sv wt sP aw gr)) := s13 _ _ (s1 _ _ hst1)
    have hat3 : G3 aA = some (.lst [.int (n : Nat)]) := by have := L3.hat; rw [hcc] at this; exact this
    have D3 : Dr K sA aA dr mt pl fp ms L G3 := by have := L3.dr; rw [hcc, hv] at this; exact this
    have okL' : ∀ x ∈ L, PlyOk ((ms.length : Nat) : Int) x := fun x hx => by rw [lms]; exact okL x hx
    have hy : z = "yours" → sv ≠ none := fun e => by
      rcases hok with ⟨_, _, h⟩ | ⟨h, _⟩ | ⟨h, _⟩ | ⟨h, _⟩
      · exact h
      · rw [h, n_letter_yours] at e; cases e
      · rw [h, n_please_yours] at e; cases e
      · rw [h, n_done_yours] at e; cases e
    have hlt : z = "letter" → sP = "asking" → sv ≠ none := fun e => by
      rcases hok with ⟨h, _⟩ | ⟨_, _, _, h⟩ | ⟨h, _⟩ | ⟨h, _⟩
      · rw [h, eq_comm, n_letter_yours] at e; cases e
      · exact h
      · rw [h, n_please_letter] at e; cases e
      · rw [h, n_done_letter] at e; cases e
    refine ⟨_, rfl, _, rfl, _, rfl, _, rfl, _, rfl, sA, t, dr, mt, aA, pl, fp, sv, wt, sP, aw, gr, n, z, s, por, ms, L, rfl, hst3, hat3, qt3, D3, okL', l40, by omega, hz, hy, hlt, fun r3 ys3 G7 rn rn2 c7 kr7 d7 k7 ka7 => ?_⟩
    obtain ⟨D, hD⟩ : ∃ D, D = dueQ por ms L sv wt sP aw gr n z s := ⟨_, rfl⟩
    have so := same_out v (n := n) (s := s) hokv fits
    have hD' : dueQ v.por v.ms v.L sv wt sP aw gr n z s = D := by rw [hD, hv]
    rw [hD'] at so
    obtain ⟨so1, so2, so3, so4, so5, so6⟩ := so
    have dn := dueN por ms L sv wt sP aw gr n z s
    have din := due_in (por := por) (ms := ms) (L := L) (sv := sv) (wt := wt) (sP := sP) (aw := aw) (gr := gr) (n := n) (z := z) (s := s) hsv hwt hpl
    have it := ok_dues por ms okL' sv wt sP aw gr n z s
    rw [← hD] at k7 ka7 d7 dn din it
    have L7 := L3.chgD (by rw [hcc]; exact c7) (by rw [hcc]; exact k7) (by rw [hcc]; exact ka7)
    have qt7 : SqT K G7 t [.int s, .str z] := by
      refine sqt_chgS (S := [sA, aA]) (fun b hb o ho => ?_) c7 qt3
      simp only [List.mem_cons, List.not_mem_nil, or_false] at hb
      rcases hb with rfl | rfl
      · rw [hst3] at ho; cases ho; exact mu_lst
      · rw [hat3] at ho; cases ho; exact mu_lst
    have hx7 : z = "please" ∨ z = "done" → ∃ t', x16 = .ref t' ∧ SqT K G7 t' [.str z] := fun h => by
      obtain ⟨t', e1, e2⟩ := hx h
      refine ⟨t', e1, sqt_chgS (S := [sA, aA]) (fun b hb o ho => ?_) c7 e2⟩
      simp only [List.mem_cons, List.not_mem_nil, or_false] at hb
      rcases hb with rfl | rfl
      · rw [hst3] at ho; cases ho; exact mu_lst
      · rw [hat3] at ho; cases ho; exact mu_lst
    have hp7 : G7 pm = some (.ins C dm (ptF me "out" false pp (porV por) (porV sv) mts (porV wt))) := by have := L7.mb.hp; rw [hv, ha] at this; exact this
    have mb7 : Pt K C CP v a sv wt sP (min n v.L.length) G7 := by have := L7.mb; rw [hv] at this ⊢; exact this
    refine ⟨_, rfl, pm, dm, _, rfl, hp7, (ptF_no _ _ _ _ _ _ _ _ (by decide +kernel) (by decide +kernel) (by decide +kernel) (by decide +kernel) (by decide +kernel) (by decide +kernel) (by decide +kernel) (by decide +kernel)), _, rfl, t, _, _, _, rfl, rfl, qt7, rfl, _, rfl, v, a, sv, wt, sP, min n v.L.length, z, s, x16, by rw [ha]; rfl, mb7, hok, hx7, fun r2 ys2 G8 hr2 c8 k8 d8 M8 => ?_⟩
    rw [so1, so2, so3, so5] at M8
    rw [so4] at d8
    have L8 := L7.chgM c8 M8
    have kr8 := c8 _ _ (by
      simp only [List.mem_cons, List.not_mem_nil, or_false, not_or]
      exact ⟨ne_of kr7 mb7.hp (by intro z; cases z), ne_of kr7 mb7.pup.hp (by intro z; cases z)⟩) kr7
    have d78 := dps_chgO mb7.insS c8 _ _ d7
    refine ⟨_, rfl, r2, r3, ys2, ys3, D.is, rfl, SqL.of k8, SqL.of kr8, d8, d78, it.1, it.2, fun G9 s9 => ?_⟩
    have L9 := L8.same s9
    subst hv ha hcc
    have hst9 : G9 sA = some (.lst (stV D.sv D.wt D.sP D.aw D.gr)) := L9.hst
    have hp9 : G9 pm = some (.ins C dm (ptF me "out" false pp (porV por) (porV D.sv) mts (porV D.wt))) := L9.mb.hp
    have M9 : Pup K CP G9 pp dp (j : Nat) D.sP false pl2 (min D.n L.length) L fp2 := L9.mb.pup
    refine ⟨_, rfl, ?_⟩
    refine iteF' rfl ?_
    -- whom it serves, inner's state, its own
    refine ⟨_, rfl, pm, C, dm, _, _, rfl, hp9, S.cl, S.serves, ptF_srv _ _ _ _ _ _ _ _, _, rfl, sA, _, _, _, rfl, rfl, SqL.of hst9, rfl, by cases D.sv <;> rfl, _, rfl, ?_⟩
    refine iteF' (by simp) ?_
    refine ⟨_, rfl, pm, C, dm, _, _, rfl, hp9, S.cl, S.inner, ptF_inr _ _ _ _ _ _ _ _, pp, CP, dp, _, _, rfl, M9.hp, SP.cl, SP.state, puF_stt _ _ _ _ _, _, rfl, sA, _, _, _, rfl, rfl, SqL.of hst9, rfl, rfl, _, rfl, ?_⟩
    rw [dec_str]
    refine iteF' (by simp) ?_
    refine ⟨_, rfl, pm, C, dm, _, _, rfl, hp9, S.cl, S.state, ptF_stt _ _ _ _ _ _ _ _, rfl, _, rfl, ?_⟩
    refine iteF' (by simp) ?_
    -- me, porter
    refine ⟨_, rfl, pm, C, dm, _, _, rfl, hp9, S.cl, S.me, ptF_me _ _ _ _ _ _ _ _, _, rfl, rfl, _, rfl, ?_⟩
    refine iteF' (by simp) ?_
    refine ⟨_, rfl, pm, C, dm, _, _, rfl, hp9, S.cl, S.porter, ptF_por _ _ _ _ _ _ _ _, _, rfl, by cases por <;> rfl, _, rfl, ?_⟩
    refine iteF' (by simp) ?_
    exact ⟨⟨_, _, _, _, _, rfl⟩, D.sv, D.wt, D.sP, D.aw, D.gr, D.n, L9, so6, by omega, din.1, din.2⟩
  · rintro σ G ⟨⟨z13, z14, z15, z16, z17, rfl⟩, _⟩
    exact q G
end

end G0
namespace G0
open PySem PySem.Spec PyProof.Rows L2 NdefX ClX
theorem made_Puppet {P : Program} {w : World} {K : PySem.W.Frag} {mg : Str → Option Value} {base : Heap} {C fI cc cda fS : Addr} {oc kV doc pm ct cl ccl : Value} {od an cld cdd : Option Addr} {osl csl ccs : Array (Option Value)} {vs : Array Value} {file : Str} {tf : Tok} {cdD : ClassData} {fd2 : FuncData}
    (T : Bp mg) (S : PupT K C) (mgC : mg "Puppet" = some (.ref C)) (mk : PySem.W.makesIn K C = true) (kc : PySem.W.keepIn K (.ref C) = true)
    (FS : Fun K "__init__" "Seat.__init__" s_Seat__init fS fd2)
    (i1 : PySem.W.findIn K (.ref C) "__init__" = some (some (.ref fI))) (i2 : PySem.W.isFn K (.ref fI) = true)
    (i3 : K.lookup fI = some ⟨oc, od, .func (PySem.W.ksFn "__init__" "Puppet.__init__" (defArgs s_Puppet__init) (defBody s_Puppet__init) (defScope s_Puppet__init) .none kV doc pm an (.ref cda) ct cc), osl⟩)
    (i4 : PySem.W.codeIn K (.ref cda) "Puppet.__init__" = true) (i5 : K.lookup cc = some ⟨cl, cld, .cell (some (.ref C)), csl⟩) (i6 : K.lookup cda = some ⟨ccl, cdd, .fields vs, ccs⟩)
    (w7 : vs[2]? = some (.str file tf)) (w8 : ((P.main.file : Str) == file) = true) (w9 : PySem.W.clsIn K C = some cdD) (i10 : PySem.W.nsIn K mainGlobals "super" = some none)
    (w11 : (P.main.scope.names.lookup ("super" : Str)).isSome = false) (i12 : PySem.W.nsIn K cStatics "thirdparty.any" = some none) (w13 : PySem.W.mroIn K C (.ref C) = some true)
    (w14 : PySem.W.ks_superIn K C C "__init__" = some (some (.ref fS))) (i15 : PySem.W.typeIn K (.ref fS) = some (.type "function")) (w16 : PySem.W.fnIn K fS = true)
    (CF : Cal P w K mg base "_plays_fault" 10 ["plays", "seats"] (spPF K)) : MkP P w K mg base C "Puppet" 11 ["self", "me", "seats", "plays"] (spPInit K C) := by
  have F2 : FnR P w K mg base CX0 1 fS (spSeat0 C) := fnR_of (ps := ["self", "me"]) (ok_seat0 FS S.cl S.me S.state S.sits) (FS.binds (fun _ _ _ _ _ _ us hl => match us, hl with | [_, _], _ => rfl) )
  have F : SupF P K ["self", "me", "seats", "plays", "__class__", "fault", "goes", "sends"] fI cc cda C (PySem.W.ksFn "__init__" "Puppet.__init__" (defArgs s_Puppet__init) (defBody s_Puppet__init) (defScope s_Puppet__init) .none kV doc pm an (.ref cda) ct cc) (defArgs s_Puppet__init) (defScope s_Puppet__init) := {
    fun_ := ⟨_, _, _, i3, rfl⟩
    arg := ⟨_, rfl, rfl, by decide +kernel⟩
    code := ⟨_, _, _, _, _, _, i6, w7, w8⟩
    cell := ⟨_, _, _, i5⟩
    cls := ⟨_, w9⟩
    miss := i10
    sup := by decide +kernel
    own := by decide +kernel
    kind := rfl
    top := w11
    any_ := i12 }
  exact ⟨fI, _, ok_pinit T i3 i4 i5 F F2 S w13 w14 i15 w16 CF, .all (fun us hl => match us, hl with | [_, _, _, _], _ => rfl), ⟨mk, i1, i2, kc⟩, mgC⟩
theorem made_Porter {P : Program} {w : World} {K : PySem.W.Frag} {mg : Str → Option Value} {base : Heap} {C fI cc cda fS : Addr} {oc kV doc pm ct cl ccl : Value} {od an cld cdd : Option Addr} {osl csl ccs : Array (Option Value)} {vs : Array Value} {file : Str} {tf : Tok} {cdD : ClassData} {fd2 : FuncData}
    (T : Bp mg) (S : PtT K C) (mgC : mg "Porter" = some (.ref C)) (mk : PySem.W.makesIn K C = true) (kc : PySem.W.keepIn K (.ref C) = true)
    (FS : Fun K "__init__" "Seat.__init__" s_Seat__init fS fd2)
    (i1 : PySem.W.findIn K (.ref C) "__init__" = some (some (.ref fI))) (i2 : PySem.W.isFn K (.ref fI) = true)
    (i3 : K.lookup fI = some ⟨oc, od, .func (PySem.W.ksFn "__init__" "Porter.__init__" (defArgs s_Porter__init) (defBody s_Porter__init) (defScope s_Porter__init) .none kV doc pm an (.ref cda) ct cc), osl⟩)
    (i4 : PySem.W.codeIn K (.ref cda) "Porter.__init__" = true) (i5 : K.lookup cc = some ⟨cl, cld, .cell (some (.ref C)), csl⟩) (i6 : K.lookup cda = some ⟨ccl, cdd, .fields vs, ccs⟩)
    (w7 : vs[2]? = some (.str file tf)) (w8 : ((P.main.file : Str) == file) = true) (w9 : PySem.W.clsIn K C = some cdD) (i10 : PySem.W.nsIn K mainGlobals "super" = some none)
    (w11 : (P.main.scope.names.lookup ("super" : Str)).isSome = false) (i12 : PySem.W.nsIn K cStatics "thirdparty.any" = some none) (w13 : PySem.W.mroIn K C (.ref C) = some true)
    (w14 : PySem.W.ks_superIn K C C "__init__" = some (some (.ref fS))) (i15 : PySem.W.typeIn K (.ref fS) = some (.type "function")) (w16 : PySem.W.fnIn K fS = true) : MkP P w K mg base C "Porter" 2 ["self", "me", "inner", "mates", "porter"] (spTInit K C) := by
  have F2 : FnR P w K mg base CX0 1 fS (spSeat0 C) := fnR_of (ps := ["self", "me"]) (ok_seat0 FS S.cl S.me S.state S.sits) (FS.binds (fun _ _ _ _ _ _ us hl => match us, hl with | [_, _], _ => rfl) )
  have F : SupF P K ["self", "me", "inner", "mates", "porter", "__class__"] fI cc cda C (PySem.W.ksFn "__init__" "Porter.__init__" (defArgs s_Porter__init) (defBody s_Porter__init) (defScope s_Porter__init) .none kV doc pm an (.ref cda) ct cc) (defArgs s_Porter__init) (defScope s_Porter__init) := {
    fun_ := ⟨_, _, _, i3, rfl⟩
    arg := ⟨_, rfl, rfl, by decide +kernel⟩
    code := ⟨_, _, _, _, _, _, i6, w7, w8⟩
    cell := ⟨_, _, _, i5⟩
    cls := ⟨_, w9⟩
    miss := i10
    sup := by decide +kernel
    own := by decide +kernel
    kind := rfl
    top := w11
    any_ := i12 }
  exact ⟨fI, _, ok_tinit T i3 i4 i5 F F2 S w13 w14 i15 w16, .all (fun us hl => match us, hl with | [_, _, _, _, _], _ => rfl), ⟨mk, i1, i2, kc⟩, mgC⟩
theorem mark_of {K : PySem.W.Frag} {mg : Str → Option Value} {h : Heap} {e : Addr} {x z : Str} {dd : Option Addr} {n : Nat} {sl : Array (Option Value)} {t : Tok} (X : K.In h) (G : h.Ns mainGlobals mg)
    (a : PySem.W.nsIn K mainGlobals x = some (some (.ref e))) (l : K.lookup e = some ⟨.type "tuple", dd, .seq #[.str z t] n, sl⟩) :
    ∃ e, mg x = some (.ref e) ∧ ∀ H, SqT K H e [.str z] :=
  ⟨e, PySem.W.mg_of X G a, fun _ => .inr ⟨_, _, _, l, rfl, rfl, (by show 1 ≤ sizeLine; decide), .cons ⟨_, rfl⟩ .nil⟩⟩
theorem me_of {P : Program} {w : World} {K : PySem.W.Frag} {mg : Str → Option Value} {base : Heap} {C : Addr} {x qual : Str} {st : Stmt} {k : Nat} {ps : List Str} {sp : Sp}
    (F : Fm K C x qual st) (ok : ∀ f fd, Fun K x qual st f fd → FnOk P w K mg base CX0 k f fd ps sp)
    (bd : ∀ (kV doc pm : Value) (an : Option Addr) (cdv ct : Value) (us : List Value), us.length = ps.length →
      bindArgs (PySem.W.fnOf x qual (defArgs st) (defBody st) (defScope st) .none kV doc pm an cdv ct) ⟨us, []⟩ = pure (ps.zip us)) :
    Me P w K mg base C x k ps sp := by
  obtain ⟨f, fd, F, m⟩ := F
  exact ⟨f, fd, ok f fd F, F.binds bd, m⟩
theorem whole {P : Program} {w : World} {K : PySem.W.Frag} {mg : Str → Option Value} {base : Heap} {C CP : Addr} (T : BpL mg) (Lt : Lc K mg) (hM : ∃ t, mg "MOST" = some (.int 200 t)) (Gp : Pls K mg) (S : PtT K C) (SP : PupT K CP)
    (F_is_below : Fn K mg "is_below" s_is_below) (F_is_letter : Fn K mg "is_letter" s_is_letter) (F_letter_fault : Fn K mg "letter_fault" s_letter_fault) (F_is_word : Fn K mg "_is_word" s_is_word) (F_is_thing : Fn K mg "_is_thing" s_is_thing) (F_is_send : Fn K mg "_is_send" s_is_send) (F_is_play : Fn K mg "_is_play" s_is_play) (F_plays_fault : Fn K mg "_plays_fault" s_plays_fault) (F_sent_by : Fn K mg "sent_by" s_sent_by) (F_law_box : Fn K mg "_law_box" s_law_box) (F_law_pick : Fn K mg "_law_pick" s_law_pick) (F_law_plays : Fn K mg "_law_plays" s_law_plays) (F_law_play : Fn K mg "_law_play" s_law_play) (F_law_unlike : Fn K mg "_law_unlike" s_law_unlike) (F_law_pairs : Fn K mg "_law_pairs" s_law_pairs) (F_law_deeds : Fn K mg "_law_deeds" s_law_deeds) (F_law_risen : Fn K mg "_law_risen" s_law_risen) (F_law_asked : Fn K mg "_law_asked" s_law_asked) (F_law_due : Fn K mg "_law_due" s_law_due) (F_law : Fn K mg "law" s_law)
    (M_Puppet_ask : Fm K CP "ask" "Puppet.ask" s_Puppet_ask) (M_Puppet_leave : Fm K CP "leave" "Puppet.leave" s_Puppet_leave) (M_Puppet_hear : Fm K CP "hear" "Puppet.hear" s_Puppet_hear) (M_Puppet_heard : Fm K CP "_heard" "Puppet._heard" s_Puppet_heard) (M_Puppet_next_play : Fm K CP "_next_play" "Puppet._next_play" s_Puppet_next_play) (M_Puppet_unplayed : Fm K CP "unplayed" "Puppet.unplayed" s_Puppet_unplayed) (M_Porter_hear : Fm K C "hear" "Porter.hear" s_Porter_hear) (M_Porter_hear_please : Fm K C "_hear_please" "Porter._hear_please" s_Porter_hear_please) (M_Porter_hear_done : Fm K C "_hear_done" "Porter._hear_done" s_Porter_hear_done) (M_Porter_serve : Fm K C "_serve" "Porter._serve" s_Porter_serve) (M_Porter_come_in : Fm K C "_come_in" "Porter._come_in" s_Porter_come_in)
    (KP : Cal P w K mg base "_plays_fault" 10 ["plays", "seats"] (spPF K) → MkP P w K mg base CP "Puppet" 11 ["self", "me", "seats", "plays"] (spPInit K CP)) (KM : MkP P w K mg base C "Porter" 2 ["self", "me", "inner", "mates", "porter"] (spTInit K C)) : Cal P w K mg base "law" 13 ["script"] (spLaw K) := by
  have B := ok_below (P := P) (w := w) (base := base) F_is_below T.toBk
  have Wd := ok_word (P := P) (w := w) (base := base) F_is_word T.toBk Lt
  have Th := ok_isthings (P := P) (w := w) (base := base) F_is_thing T.toBk Lt B
  have Fa := ok_fault (P := P) (w := w) (base := base) F_letter_fault T.toBk Wd (Th 4)
  have Il := ok_isletter (P := P) (w := w) (base := base) F_is_letter Fa
  have Is := ok_issend (P := P) (w := w) (base := base) F_is_send T.toBp B Il
  have Ip := ok_isplay (P := P) (w := w) (base := base) F_is_play T.toBp Is
  have Pf := ok_pfault (P := P) (w := w) (base := base) F_plays_fault T.toBp hM Ip
  have Pk := ok_pick (P := P) (w := w) (base := base) (K := K) F_law_pick T.toBl
  have Un := me_of (P := P) (w := w) (mg := mg) (base := base) (ps := ["self"]) M_Puppet_unplayed (fun f fd F => ok_unplayed F T.toBp SP) (fun _ _ _ _ _ _ us hl => match us, hl with | [_], _ => rfl) 
  have Nx := me_of (P := P) (w := w) (mg := mg) (base := base) (ps := ["self"]) M_Puppet_next_play (fun f fd F => ok_next F T.toBp SP Un) (fun _ _ _ _ _ _ us hl => match us, hl with | [_], _ => rfl) 
  have Pa := me_of (P := P) (w := w) (mg := mg) (base := base) (ps := ["self"]) M_Puppet_ask (fun f fd F => ok_pask F SP Nx) (fun _ _ _ _ _ _ us hl => match us, hl with | [_], _ => rfl) 
  have Pl := me_of (P := P) (w := w) (mg := mg) (base := base) (ps := ["self"]) M_Puppet_leave (fun f fd F => ok_pleave F SP Nx) (fun _ _ _ _ _ _ us hl => match us, hl with | [_], _ => rfl) 
  have Ph0 := me_of (P := P) (w := w) (mg := mg) (base := base) (ps := ["self"]) M_Puppet_heard (fun f fd F => ok_heard F SP Nx) (fun _ _ _ _ _ _ us hl => match us, hl with | [_], _ => rfl) 
  have Ph := me_of (P := P) (w := w) (mg := mg) (base := base) (ps := ["self", "sender", "letter"]) M_Puppet_hear (fun f fd F => ok_phear F SP Ph0) (fun _ _ _ _ _ _ us hl => match us, hl with | [_, _, _], _ => rfl) 
  have Se := ok_sent (P := P) (w := w) (base := base) F_sent_by
  have Co := me_of (P := P) (w := w) (mg := mg) (base := base) (ps := ["self", "was"]) M_Porter_come_in (fun f fd F => ok_come F S SP Gp) (fun _ _ _ _ _ _ us hl => match us, hl with | [_, _], _ => rfl) 
  have Sv := me_of (P := P) (w := w) (mg := mg) (base := base) (ps := ["self", "sender"]) M_Porter_serve (fun f fd F => ok_serve F S SP Se Pa Co) (fun _ _ _ _ _ _ us hl => match us, hl with | [_, _], _ => rfl) 
  have Hp := me_of (P := P) (w := w) (mg := mg) (base := base) (ps := ["self", "sender"]) M_Porter_hear_please (fun f fd F => ok_please F S Sv) (fun _ _ _ _ _ _ us hl => match us, hl with | [_, _], _ => rfl) 
  have Hd := me_of (P := P) (w := w) (mg := mg) (base := base) (ps := ["self"]) M_Porter_hear_done (fun f fd F => ok_hdone F S SP Gp Se Pl Sv) (fun _ _ _ _ _ _ us hl => match us, hl with | [_], _ => rfl) 
  have Mh := me_of (P := P) (w := w) (mg := mg) (base := base) (ps := ["self", "sender", "letter"]) M_Porter_hear (fun f fd F => ok_prhear F S SP Gp Se Ph Co Hp Hd) (fun _ _ _ _ _ _ us hl => match us, hl with | [_, _, _], _ => rfl) 
  have Ri := ok_risen (P := P) (w := w) (base := base) F_law_risen
  exact ok_law F_law T S SP (ok_box F_law_box T.toBl) Pk (ok_plays F_law_plays T.toBl Pk) (ok_unlike F_law_unlike T.toBl Pk) (ok_pairs F_law_pairs T.toBp) (ok_deeds F_law_deeds T.toBl) (ok_due F_law_due (ok_play F_law_play T.toBl) Ri (ok_asked F_law_asked Ri)) Mh (KP Pf) KM
theorem all_mk {P : Program} {w : World} {K : PySem.W.Frag} {h : Heap} {mg : Str → Option Value} {fa : Addr}
    {C_Puppet : Addr} {C_Porter : Addr} {C_Seat : Addr} {f1 : Addr} {od1 an1 : Option Addr} {sl1 : Array (Option Value)} {oc1 kV1 dc1 pm1 cd1 ct1 : Value} {f2 : Addr} {od2 an2 : Option Addr} {sl2 : Array (Option Value)} {oc2 kV2 dc2 pm2 cd2 ct2 : Value} {f3 : Addr} {od3 an3 : Option Addr} {sl3 : Array (Option Value)} {oc3 kV3 dc3 pm3 cd3 ct3 : Value} {f4 : Addr} {od4 an4 : Option Addr} {sl4 : Array (Option Value)} {oc4 kV4 dc4 pm4 cd4 ct4 : Value} {f5 : Addr} {od5 an5 : Option Addr} {sl5 : Array (Option Value)} {oc5 kV5 dc5 pm5 cd5 ct5 : Value} {f6 : Addr} {od6 an6 : Option Addr} {sl6 : Array (Option Value)} {oc6 kV6 dc6 pm6 cd6 ct6 : Value} {f7 : Addr} {od7 an7 : Option Addr} {sl7 : Array (Option Value)} {oc7 kV7 dc7 pm7 cd7 ct7 : Value} {f8 : Addr} {od8 an8 : Option Addr} {sl8 : Array (Option Value)} {oc8 kV8 dc8 pm8 cd8 ct8 : Value} {f9 : Addr} {od9 an9 : Option Addr} {sl9 : Array (Option Value)} {oc9 kV9 dc9 pm9 cd9 ct9 : Value} {f10 : Addr} {od10 an10 : Option Addr} {sl10 : Array (Option Value)} {oc10 kV10 dc10 pm10 cd10 ct10 : Value} {f11 : Addr} {od11 an11 : Option Addr} {sl11 : Array (Option Value)} {oc11 kV11 dc11 pm11 cd11 ct11 : Value} {f12 : Addr} {od12 an12 : Option Addr} {sl12 : Array (Option Value)} {oc12 kV12 dc12 pm12 cd12 ct12 : Value} {f13 : Addr} {od13 an13 : Option Addr} {sl13 : Array (Option Value)} {oc13 kV13 dc13 pm13 cd13 ct13 : Value} {f14 : Addr} {od14 an14 : Option Addr} {sl14 : Array (Option Value)} {oc14 kV14 dc14 pm14 cd14 ct14 : Value} {f15 : Addr} {od15 an15 : Option Addr} {sl15 : Array (Option Value)} {oc15 kV15 dc15 pm15 cd15 ct15 : Value} {f16 : Addr} {od16 an16 : Option Addr} {sl16 : Array (Option Value)} {oc16 kV16 dc16 pm16 cd16 ct16 : Value} {f17 : Addr} {od17 an17 : Option Addr} {sl17 : Array (Option Value)} {oc17 kV17 dc17 pm17 cd17 ct17 : Value} {f18 : Addr} {od18 an18 : Option Addr} {sl18 : Array (Option Value)} {oc18 kV18 dc18 pm18 cd18 ct18 : Value} {f19 : Addr} {od19 an19 : Option Addr} {sl19 : Array (Option Value)} {oc19 kV19 dc19 pm19 cd19 ct19 : Value} {f20 : Addr} {od20 an20 : Option Addr} {sl20 : Array (Option Value)} {oc20 kV20 dc20 pm20 cd20 ct20 : Value} {f21 : Addr} {od21 an21 : Option Addr} {sl21 : Array (Option Value)} {oc21 kV21 dc21 pm21 cd21 ct21 : Value} {f22 : Addr} {od22 an22 : Option Addr} {sl22 : Array (Option Value)} {oc22 kV22 dc22 pm22 cd22 ct22 : Value} {f23 : Addr} {od23 an23 : Option Addr} {sl23 : Array (Option Value)} {oc23 kV23 dc23 pm23 cd23 ct23 : Value} {f24 : Addr} {od24 an24 : Option Addr} {sl24 : Array (Option Value)} {oc24 kV24 dc24 pm24 cd24 ct24 : Value} {f25 : Addr} {od25 an25 : Option Addr} {sl25 : Array (Option Value)} {oc25 kV25 dc25 pm25 cd25 ct25 : Value} {f26 : Addr} {od26 an26 : Option Addr} {sl26 : Array (Option Value)} {oc26 kV26 dc26 pm26 cd26 ct26 : Value} {f27 : Addr} {od27 an27 : Option Addr} {sl27 : Array (Option Value)} {oc27 kV27 dc27 pm27 cd27 ct27 : Value} {f28 : Addr} {od28 an28 : Option Addr} {sl28 : Array (Option Value)} {oc28 kV28 dc28 pm28 cd28 ct28 : Value} {f29 : Addr} {od29 an29 : Option Addr} {sl29 : Array (Option Value)} {oc29 kV29 dc29 pm29 cd29 ct29 : Value} {f30 : Addr} {od30 an30 : Option Addr} {sl30 : Array (Option Value)} {oc30 kV30 dc30 pm30 cd30 ct30 : Value} {f31 : Addr} {od31 an31 : Option Addr} {sl31 : Array (Option Value)} {oc31 kV31 dc31 pm31 cd31 ct31 : Value} {f32 : Addr} {od32 an32 : Option Addr} {sl32 : Array (Option Value)} {oc32 kV32 dc32 pm32 cd32 ct32 : Value} {t1 t2 t3 t4 t5 t6 t7 t8 t9 : Tok} {em ep ed ey : Addr} {edd epp edp eyp : Option Addr} {en epn edn eyn : Nat} {esl epl edl eyl : Array (Option Value)} {fIP ccP cdaP : Addr} {ocP kVP docP pmP ctP clP cclP : Value} {odP anP cldP cddP : Option Addr} {oslP cslP ccsP : Array (Option Value)} {vsP : Array Value} {fileP : Str} {tfP : Tok} {cdDP : ClassData} {fIM ccM cdaM : Addr} {ocM kVM docM pmM ctM clM cclM : Value} {odM anM cldM cddM : Option Addr} {oslM cslM ccsM : Array (Option Value)} {vsM : Array Value} {fileM : Str} {tfM : Tok} {cdDM : ClassData}
    (X : K.In h) (G : h.Ns mainGlobals mg) (hfa : mg "law" = some (.ref fa))
    (aC_Puppet : PySem.W.nsIn K mainGlobals "Puppet" = some (some (.ref C_Puppet)))
    (pg_Puppet : PySem.W.plainGet K C_Puppet Str.empty = true)
    (hd_Puppet : PySem.W.hasDictIn K C_Puppet = true)
    (po_Puppet : PySem.W.plainOver K C_Puppet = true)
    (sa_Puppet : PySem.W.findIn K (.ref C_Puppet) "__setattr__" = some (some (.builtin "object.__setattr__")))
    (mk_Puppet : PySem.W.makesIn K C_Puppet = true)
    (kc_Puppet : PySem.W.keepIn K (.ref C_Puppet) = true)
    (aC_Porter : PySem.W.nsIn K mainGlobals "Porter" = some (some (.ref C_Porter)))
    (pg_Porter : PySem.W.plainGet K C_Porter Str.empty = true)
    (hd_Porter : PySem.W.hasDictIn K C_Porter = true)
    (po_Porter : PySem.W.plainOver K C_Porter = true)
    (sa_Porter : PySem.W.findIn K (.ref C_Porter) "__setattr__" = some (some (.builtin "object.__setattr__")))
    (mk_Porter : PySem.W.makesIn K C_Porter = true)
    (kc_Porter : PySem.W.keepIn K (.ref C_Porter) = true)
    (aC_Seat : PySem.W.nsIn K mainGlobals "Seat" = some (some (.ref C_Seat)))
    (pg_Seat : PySem.W.plainGet K C_Seat Str.empty = true)
    (hd_Seat : PySem.W.hasDictIn K C_Seat = true)
    (po_Seat : PySem.W.plainOver K C_Seat = true)
    (sa_Seat : PySem.W.findIn K (.ref C_Seat) "__setattr__" = some (some (.builtin "object.__setattr__")))
    (mk_Seat : PySem.W.makesIn K C_Seat = true)
    (kc_Seat : PySem.W.keepIn K (.ref C_Seat) = true)
    (a1 : PySem.W.nsIn K mainGlobals "is_below" = some (some (.ref f1)))
    (l1 : K.lookup f1 = some ⟨oc1, od1, .func (PySem.W.fnOf "is_below" "is_below" (defArgs s_is_below) (defBody s_is_below) (defScope s_is_below) .none kV1 dc1 pm1 an1 cd1 ct1), sl1⟩)
    (c1 : PySem.W.codeIn K cd1 "is_below" = true)
    (k1 : PySem.W.keepIn K (.ref f1) = true)
    (a2 : PySem.W.nsIn K mainGlobals "is_letter" = some (some (.ref f2)))
    (l2 : K.lookup f2 = some ⟨oc2, od2, .func (PySem.W.fnOf "is_letter" "is_letter" (defArgs s_is_letter) (defBody s_is_letter) (defScope s_is_letter) .none kV2 dc2 pm2 an2 cd2 ct2), sl2⟩)
    (c2 : PySem.W.codeIn K cd2 "is_letter" = true)
    (k2 : PySem.W.keepIn K (.ref f2) = true)
    (a3 : PySem.W.nsIn K mainGlobals "letter_fault" = some (some (.ref f3)))
    (l3 : K.lookup f3 = some ⟨oc3, od3, .func (PySem.W.fnOf "letter_fault" "letter_fault" (defArgs s_letter_fault) (defBody s_letter_fault) (defScope s_letter_fault) .none kV3 dc3 pm3 an3 cd3 ct3), sl3⟩)
    (c3 : PySem.W.codeIn K cd3 "letter_fault" = true)
    (k3 : PySem.W.keepIn K (.ref f3) = true)
    (a4 : PySem.W.nsIn K mainGlobals "_is_word" = some (some (.ref f4)))
    (l4 : K.lookup f4 = some ⟨oc4, od4, .func (PySem.W.fnOf "_is_word" "_is_word" (defArgs s_is_word) (defBody s_is_word) (defScope s_is_word) .none kV4 dc4 pm4 an4 cd4 ct4), sl4⟩)
    (c4 : PySem.W.codeIn K cd4 "_is_word" = true)
    (k4 : PySem.W.keepIn K (.ref f4) = true)
    (a5 : PySem.W.nsIn K mainGlobals "_is_thing" = some (some (.ref f5)))
    (l5 : K.lookup f5 = some ⟨oc5, od5, .func (PySem.W.fnOf "_is_thing" "_is_thing" (defArgs s_is_thing) (defBody s_is_thing) (defScope s_is_thing) .none kV5 dc5 pm5 an5 cd5 ct5), sl5⟩)
    (c5 : PySem.W.codeIn K cd5 "_is_thing" = true)
    (k5 : PySem.W.keepIn K (.ref f5) = true)
    (a6 : PySem.W.nsIn K mainGlobals "_is_send" = some (some (.ref f6)))
    (l6 : K.lookup f6 = some ⟨oc6, od6, .func (PySem.W.fnOf "_is_send" "_is_send" (defArgs s_is_send) (defBody s_is_send) (defScope s_is_send) .none kV6 dc6 pm6 an6 cd6 ct6), sl6⟩)
    (c6 : PySem.W.codeIn K cd6 "_is_send" = true)
    (k6 : PySem.W.keepIn K (.ref f6) = true)
    (a7 : PySem.W.nsIn K mainGlobals "_is_play" = some (some (.ref f7)))
    (l7 : K.lookup f7 = some ⟨oc7, od7, .func (PySem.W.fnOf "_is_play" "_is_play" (defArgs s_is_play) (defBody s_is_play) (defScope s_is_play) .none kV7 dc7 pm7 an7 cd7 ct7), sl7⟩)
    (c7 : PySem.W.codeIn K cd7 "_is_play" = true)
    (k7 : PySem.W.keepIn K (.ref f7) = true)
    (a8 : PySem.W.nsIn K mainGlobals "_plays_fault" = some (some (.ref f8)))
    (l8 : K.lookup f8 = some ⟨oc8, od8, .func (PySem.W.fnOf "_plays_fault" "_plays_fault" (defArgs s_plays_fault) (defBody s_plays_fault) (defScope s_plays_fault) .none kV8 dc8 pm8 an8 cd8 ct8), sl8⟩)
    (c8 : PySem.W.codeIn K cd8 "_plays_fault" = true)
    (k8 : PySem.W.keepIn K (.ref f8) = true)
    (a9 : PySem.W.nsIn K mainGlobals "sent_by" = some (some (.ref f9)))
    (l9 : K.lookup f9 = some ⟨oc9, od9, .func (PySem.W.fnOf "sent_by" "sent_by" (defArgs s_sent_by) (defBody s_sent_by) (defScope s_sent_by) .none kV9 dc9 pm9 an9 cd9 ct9), sl9⟩)
    (c9 : PySem.W.codeIn K cd9 "sent_by" = true)
    (k9 : PySem.W.keepIn K (.ref f9) = true)
    (a10 : PySem.W.nsIn K mainGlobals "_law_box" = some (some (.ref f10)))
    (l10 : K.lookup f10 = some ⟨oc10, od10, .func (PySem.W.fnOf "_law_box" "_law_box" (defArgs s_law_box) (defBody s_law_box) (defScope s_law_box) .none kV10 dc10 pm10 an10 cd10 ct10), sl10⟩)
    (c10 : PySem.W.codeIn K cd10 "_law_box" = true)
    (k10 : PySem.W.keepIn K (.ref f10) = true)
    (a11 : PySem.W.nsIn K mainGlobals "_law_pick" = some (some (.ref f11)))
    (l11 : K.lookup f11 = some ⟨oc11, od11, .func (PySem.W.fnOf "_law_pick" "_law_pick" (defArgs s_law_pick) (defBody s_law_pick) (defScope s_law_pick) .none kV11 dc11 pm11 an11 cd11 ct11), sl11⟩)
    (c11 : PySem.W.codeIn K cd11 "_law_pick" = true)
    (k11 : PySem.W.keepIn K (.ref f11) = true)
    (a12 : PySem.W.nsIn K mainGlobals "_law_plays" = some (some (.ref f12)))
    (l12 : K.lookup f12 = some ⟨oc12, od12, .func (PySem.W.fnOf "_law_plays" "_law_plays" (defArgs s_law_plays) (defBody s_law_plays) (defScope s_law_plays) .none kV12 dc12 pm12 an12 cd12 ct12), sl12⟩)
    (c12 : PySem.W.codeIn K cd12 "_law_plays" = true)
    (k12 : PySem.W.keepIn K (.ref f12) = true)
    (a13 : PySem.W.nsIn K mainGlobals "_law_play" = some (some (.ref f13)))
    (l13 : K.lookup f13 = some ⟨oc13, od13, .func (PySem.W.fnOf "_law_play" "_law_play" (defArgs s_law_play) (defBody s_law_play) (defScope s_law_play) .none kV13 dc13 pm13 an13 cd13 ct13), sl13⟩)
    (c13 : PySem.W.codeIn K cd13 "_law_play" = true)
    (k13 : PySem.W.keepIn K (.ref f13) = true)
    (a14 : PySem.W.nsIn K mainGlobals "_law_unlike" = some (some (.ref f14)))
    (l14 : K.lookup f14 = some ⟨oc14, od14, .func (PySem.W.fnOf "_law_unlike" "_law_unlike" (defArgs s_law_unlike) (defBody s_law_unlike) (defScope s_law_unlike) .none kV14 dc14 pm14 an14 cd14 ct14), sl14⟩)
    (c14 : PySem.W.codeIn K cd14 "_law_unlike" = true)
    (k14 : PySem.W.keepIn K (.ref f14) = true)
    (a15 : PySem.W.nsIn K mainGlobals "_law_pairs" = some (some (.ref f15)))
    (l15 : K.lookup f15 = some ⟨oc15, od15, .func (PySem.W.fnOf "_law_pairs" "_law_pairs" (defArgs s_law_pairs) (defBody s_law_pairs) (defScope s_law_pairs) .none kV15 dc15 pm15 an15 cd15 ct15), sl15⟩)
    (c15 : PySem.W.codeIn K cd15 "_law_pairs" = true)
    (k15 : PySem.W.keepIn K (.ref f15) = true)
    (a16 : PySem.W.nsIn K mainGlobals "_law_deeds" = some (some (.ref f16)))
    (l16 : K.lookup f16 = some ⟨oc16, od16, .func (PySem.W.fnOf "_law_deeds" "_law_deeds" (defArgs s_law_deeds) (defBody s_law_deeds) (defScope s_law_deeds) .none kV16 dc16 pm16 an16 cd16 ct16), sl16⟩)
    (c16 : PySem.W.codeIn K cd16 "_law_deeds" = true)
    (k16 : PySem.W.keepIn K (.ref f16) = true)
    (a17 : PySem.W.nsIn K mainGlobals "_law_risen" = some (some (.ref f17)))
    (l17 : K.lookup f17 = some ⟨oc17, od17, .func (PySem.W.fnOf "_law_risen" "_law_risen" (defArgs s_law_risen) (defBody s_law_risen) (defScope s_law_risen) .none kV17 dc17 pm17 an17 cd17 ct17), sl17⟩)
    (c17 : PySem.W.codeIn K cd17 "_law_risen" = true)
    (k17 : PySem.W.keepIn K (.ref f17) = true)
    (a18 : PySem.W.nsIn K mainGlobals "_law_asked" = some (some (.ref f18)))
    (l18 : K.lookup f18 = some ⟨oc18, od18, .func (PySem.W.fnOf "_law_asked" "_law_asked" (defArgs s_law_asked) (defBody s_law_asked) (defScope s_law_asked) .none kV18 dc18 pm18 an18 cd18 ct18), sl18⟩)
    (c18 : PySem.W.codeIn K cd18 "_law_asked" = true)
    (k18 : PySem.W.keepIn K (.ref f18) = true)
    (a19 : PySem.W.nsIn K mainGlobals "_law_due" = some (some (.ref f19)))
    (l19 : K.lookup f19 = some ⟨oc19, od19, .func (PySem.W.fnOf "_law_due" "_law_due" (defArgs s_law_due) (defBody s_law_due) (defScope s_law_due) .none kV19 dc19 pm19 an19 cd19 ct19), sl19⟩)
    (c19 : PySem.W.codeIn K cd19 "_law_due" = true)
    (k19 : PySem.W.keepIn K (.ref f19) = true)
    (a20 : PySem.W.nsIn K mainGlobals "law" = some (some (.ref f20)))
    (l20 : K.lookup f20 = some ⟨oc20, od20, .func (PySem.W.fnOf "law" "law" (defArgs s_law) (defBody s_law) (defScope s_law) .none kV20 dc20 pm20 an20 cd20 ct20), sl20⟩)
    (c20 : PySem.W.codeIn K cd20 "law" = true)
    (k20 : PySem.W.keepIn K (.ref f20) = true)
    (a21 : PySem.W.findIn K (.ref C_Seat) "__init__" = some (some (.ref f21)))
    (i21 : PySem.W.isFn K (.ref f21) = true)
    (l21 : K.lookup f21 = some ⟨oc21, od21, .func (PySem.W.fnOf "__init__" "Seat.__init__" (defArgs s_Seat__init) (defBody s_Seat__init) (defScope s_Seat__init) .none kV21 dc21 pm21 an21 cd21 ct21), sl21⟩)
    (c21 : PySem.W.codeIn K cd21 "Seat.__init__" = true)
    (k21 : PySem.W.keepIn K (.ref f21) = true)
    (a22 : PySem.W.findIn K (.ref C_Puppet) "ask" = some (some (.ref f22)))
    (i22 : PySem.W.isFn K (.ref f22) = true)
    (l22 : K.lookup f22 = some ⟨oc22, od22, .func (PySem.W.fnOf "ask" "Puppet.ask" (defArgs s_Puppet_ask) (defBody s_Puppet_ask) (defScope s_Puppet_ask) .none kV22 dc22 pm22 an22 cd22 ct22), sl22⟩)
    (c22 : PySem.W.codeIn K cd22 "Puppet.ask" = true)
    (k22 : PySem.W.keepIn K (.ref f22) = true)
    (a23 : PySem.W.findIn K (.ref C_Puppet) "leave" = some (some (.ref f23)))
    (i23 : PySem.W.isFn K (.ref f23) = true)
    (l23 : K.lookup f23 = some ⟨oc23, od23, .func (PySem.W.fnOf "leave" "Puppet.leave" (defArgs s_Puppet_leave) (defBody s_Puppet_leave) (defScope s_Puppet_leave) .none kV23 dc23 pm23 an23 cd23 ct23), sl23⟩)
    (c23 : PySem.W.codeIn K cd23 "Puppet.leave" = true)
    (k23 : PySem.W.keepIn K (.ref f23) = true)
    (a24 : PySem.W.findIn K (.ref C_Puppet) "hear" = some (some (.ref f24)))
    (i24 : PySem.W.isFn K (.ref f24) = true)
    (l24 : K.lookup f24 = some ⟨oc24, od24, .func (PySem.W.fnOf "hear" "Puppet.hear" (defArgs s_Puppet_hear) (defBody s_Puppet_hear) (defScope s_Puppet_hear) .none kV24 dc24 pm24 an24 cd24 ct24), sl24⟩)
    (c24 : PySem.W.codeIn K cd24 "Puppet.hear" = true)
    (k24 : PySem.W.keepIn K (.ref f24) = true)
    (a25 : PySem.W.findIn K (.ref C_Puppet) "_heard" = some (some (.ref f25)))
    (i25 : PySem.W.isFn K (.ref f25) = true)
    (l25 : K.lookup f25 = some ⟨oc25, od25, .func (PySem.W.fnOf "_heard" "Puppet._heard" (defArgs s_Puppet_heard) (defBody s_Puppet_heard) (defScope s_Puppet_heard) .none kV25 dc25 pm25 an25 cd25 ct25), sl25⟩)
    (c25 : PySem.W.codeIn K cd25 "Puppet._heard" = true)
    (k25 : PySem.W.keepIn K (.ref f25) = true)
    (a26 : PySem.W.findIn K (.ref C_Puppet) "_next_play" = some (some (.ref f26)))
    (i26 : PySem.W.isFn K (.ref f26) = true)
    (l26 : K.lookup f26 = some ⟨oc26, od26, .func (PySem.W.fnOf "_next_play" "Puppet._next_play" (defArgs s_Puppet_next_play) (defBody s_Puppet_next_play) (defScope s_Puppet_next_play) .none kV26 dc26 pm26 an26 cd26 ct26), sl26⟩)
    (c26 : PySem.W.codeIn K cd26 "Puppet._next_play" = true)
    (k26 : PySem.W.keepIn K (.ref f26) = true)
    (a27 : PySem.W.findIn K (.ref C_Puppet) "unplayed" = some (some (.ref f27)))
    (i27 : PySem.W.isFn K (.ref f27) = true)
    (l27 : K.lookup f27 = some ⟨oc27, od27, .func (PySem.W.fnOf "unplayed" "Puppet.unplayed" (defArgs s_Puppet_unplayed) (defBody s_Puppet_unplayed) (defScope s_Puppet_unplayed) .none kV27 dc27 pm27 an27 cd27 ct27), sl27⟩)
    (c27 : PySem.W.codeIn K cd27 "Puppet.unplayed" = true)
    (k27 : PySem.W.keepIn K (.ref f27) = true)
    (a28 : PySem.W.findIn K (.ref C_Porter) "hear" = some (some (.ref f28)))
    (i28 : PySem.W.isFn K (.ref f28) = true)
    (l28 : K.lookup f28 = some ⟨oc28, od28, .func (PySem.W.fnOf "hear" "Porter.hear" (defArgs s_Porter_hear) (defBody s_Porter_hear) (defScope s_Porter_hear) .none kV28 dc28 pm28 an28 cd28 ct28), sl28⟩)
    (c28 : PySem.W.codeIn K cd28 "Porter.hear" = true)
    (k28 : PySem.W.keepIn K (.ref f28) = true)
    (a29 : PySem.W.findIn K (.ref C_Porter) "_hear_please" = some (some (.ref f29)))
    (i29 : PySem.W.isFn K (.ref f29) = true)
    (l29 : K.lookup f29 = some ⟨oc29, od29, .func (PySem.W.fnOf "_hear_please" "Porter._hear_please" (defArgs s_Porter_hear_please) (defBody s_Porter_hear_please) (defScope s_Porter_hear_please) .none kV29 dc29 pm29 an29 cd29 ct29), sl29⟩)
    (c29 : PySem.W.codeIn K cd29 "Porter._hear_please" = true)
    (k29 : PySem.W.keepIn K (.ref f29) = true)
    (a30 : PySem.W.findIn K (.ref C_Porter) "_hear_done" = some (some (.ref f30)))
    (i30 : PySem.W.isFn K (.ref f30) = true)
    (l30 : K.lookup f30 = some ⟨oc30, od30, .func (PySem.W.fnOf "_hear_done" "Porter._hear_done" (defArgs s_Porter_hear_done) (defBody s_Porter_hear_done) (defScope s_Porter_hear_done) .none kV30 dc30 pm30 an30 cd30 ct30), sl30⟩)
    (c30 : PySem.W.codeIn K cd30 "Porter._hear_done" = true)
    (k30 : PySem.W.keepIn K (.ref f30) = true)
    (a31 : PySem.W.findIn K (.ref C_Porter) "_serve" = some (some (.ref f31)))
    (i31 : PySem.W.isFn K (.ref f31) = true)
    (l31 : K.lookup f31 = some ⟨oc31, od31, .func (PySem.W.fnOf "_serve" "Porter._serve" (defArgs s_Porter_serve) (defBody s_Porter_serve) (defScope s_Porter_serve) .none kV31 dc31 pm31 an31 cd31 ct31), sl31⟩)
    (c31 : PySem.W.codeIn K cd31 "Porter._serve" = true)
    (k31 : PySem.W.keepIn K (.ref f31) = true)
    (a32 : PySem.W.findIn K (.ref C_Porter) "_come_in" = some (some (.ref f32)))
    (i32 : PySem.W.isFn K (.ref f32) = true)
    (l32 : K.lookup f32 = some ⟨oc32, od32, .func (PySem.W.fnOf "_come_in" "Porter._come_in" (defArgs s_Porter_come_in) (defBody s_Porter_come_in) (defScope s_Porter_come_in) .none kV32 dc32 pm32 an32 cd32 ct32), sl32⟩)
    (c32 : PySem.W.codeIn K cd32 "Porter._come_in" = true)
    (k32 : PySem.W.keepIn K (.ref f32) = true)
    (n_Puppet_me : PySem.W.findIn K (.ref C_Puppet) "me" = some none)
    (n_Puppet_state : PySem.W.findIn K (.ref C_Puppet) "state" = some none)
    (n_Puppet_sits : PySem.W.findIn K (.ref C_Puppet) "sits" = some none)
    (n_Puppet__plays : PySem.W.findIn K (.ref C_Puppet) "_plays" = some none)
    (n_Puppet__played : PySem.W.findIn K (.ref C_Puppet) "_played" = some none)
    (n_Porter_me : PySem.W.findIn K (.ref C_Porter) "me" = some none)
    (n_Porter_state : PySem.W.findIn K (.ref C_Porter) "state" = some none)
    (n_Porter_sits : PySem.W.findIn K (.ref C_Porter) "sits" = some none)
    (n_Porter_inner : PySem.W.findIn K (.ref C_Porter) "inner" = some none)
    (n_Porter_porter : PySem.W.findIn K (.ref C_Porter) "porter" = some none)
    (n_Porter_serves : PySem.W.findIn K (.ref C_Porter) "serves" = some none)
    (n_Porter__mates : PySem.W.findIn K (.ref C_Porter) "_mates" = some none)
    (n_Porter__waits : PySem.W.findIn K (.ref C_Porter) "_waits" = some none)
    (i1P : PySem.W.findIn K (.ref C_Puppet) "__init__" = some (some (.ref fIP)))
    (i2P : PySem.W.isFn K (.ref fIP) = true)
    (i3P : K.lookup fIP = some ⟨ocP, odP, .func (PySem.W.ksFn "__init__" "Puppet.__init__" (defArgs s_Puppet__init) (defBody s_Puppet__init) (defScope s_Puppet__init) .none kVP docP pmP anP (.ref cdaP) ctP ccP), oslP⟩)
    (ii4P : PySem.W.codeIn K (.ref cdaP) "Puppet.__init__" = true)
    (ii5P : K.lookup ccP = some ⟨clP, cldP, .cell (some (.ref C_Puppet)), cslP⟩)
    (ii6P : K.lookup cdaP = some ⟨cclP, cddP, .fields vsP, ccsP⟩)
    (w7P : vsP[2]? = some (.str fileP tfP))
    (w8P : ((P.main.file : Str) == fileP) = true)
    (w9P : PySem.W.clsIn K C_Puppet = some cdDP)
    (w13P : PySem.W.mroIn K C_Puppet (.ref C_Puppet) = some true)
    (w14P : PySem.W.ks_superIn K C_Puppet C_Puppet "__init__" = some (some (.ref f21)))
    (i1M : PySem.W.findIn K (.ref C_Porter) "__init__" = some (some (.ref fIM)))
    (i2M : PySem.W.isFn K (.ref fIM) = true)
    (i3M : K.lookup fIM = some ⟨ocM, odM, .func (PySem.W.ksFn "__init__" "Porter.__init__" (defArgs s_Porter__init) (defBody s_Porter__init) (defScope s_Porter__init) .none kVM docM pmM anM (.ref cdaM) ctM ccM), oslM⟩)
    (ii4M : PySem.W.codeIn K (.ref cdaM) "Porter.__init__" = true)
    (ii5M : K.lookup ccM = some ⟨clM, cldM, .cell (some (.ref C_Porter)), cslM⟩)
    (ii6M : K.lookup cdaM = some ⟨cclM, cddM, .fields vsM, ccsM⟩)
    (w7M : vsM[2]? = some (.str fileM tfM))
    (w8M : ((P.main.file : Str) == fileM) = true)
    (w9M : PySem.W.clsIn K C_Porter = some cdDM)
    (w13M : PySem.W.mroIn K C_Porter (.ref C_Porter) = some true)
    (w14M : PySem.W.ks_superIn K C_Porter C_Porter "__init__" = some (some (.ref f21)))
    (ii10 : PySem.W.nsIn K mainGlobals "super" = some none)
    (w11 : (P.main.scope.names.lookup ("super" : Str)).isSome = false)
    (ii12 : PySem.W.nsIn K cStatics "thirdparty.any" = some none)
    (ii15 : PySem.W.typeIn K (.ref f21) = some (.type "function"))
    (w16 : PySem.W.fnIn K f21 = true)
    (m1 : PySem.W.nsIn K mainGlobals "LONGEST" = some (some (.int 8 t1)))
    (m2 : PySem.W.nsIn K mainGlobals "DEEPEST" = some (some (.int 4 t2)))
    (m3 : PySem.W.nsIn K mainGlobals "TOP" = some (some (.int (10 ^ 60) t3)))
    (m4 : PySem.W.nsIn K mainGlobals "SIGNS" = some (some (.str "abcdefghijklmnopqrstuvwxyz" t4)))
    (m5 : PySem.W.nsIn K mainGlobals "END_MARK" = some (some (.ref em)))
    (m6 : K.lookup em = some ⟨.type "tuple", edd, .seq #[.str "gone" t5] en, esl⟩)
    (m7 : PySem.W.nsIn K mainGlobals "MOST" = some (some (.int 200 t6)))
    (m8 : PySem.W.nsIn K mainGlobals "PLEASE" = some (some (.ref ep)))
    (m9 : K.lookup ep = some ⟨.type "tuple", epp, .seq #[.str "please" t7] epn, epl⟩)
    (m10 : PySem.W.nsIn K mainGlobals "DONE" = some (some (.ref ed)))
    (m11 : K.lookup ed = some ⟨.type "tuple", edp, .seq #[.str "done" t8] edn, edl⟩)
    (m12 : PySem.W.nsIn K mainGlobals "YOURS" = some (some (.ref ey)))
    (m13 : K.lookup ey = some ⟨.type "tuple", eyp, .seq #[.str "yours" t9] eyn, eyl⟩)
    (b_len : PySem.W.nsIn K mainGlobals "len" = some none)
    (b_range : PySem.W.nsIn K mainGlobals "range" = some none)
    (b_tuple : PySem.W.nsIn K mainGlobals "tuple" = some none)
    (b_list : PySem.W.nsIn K mainGlobals "list" = some none)
    (b_abs : PySem.W.nsIn K mainGlobals "abs" = some none)
    (b_max : PySem.W.nsIn K mainGlobals "max" = some none)
    (b_isinstance : PySem.W.nsIn K mainGlobals "isinstance" = some none)
    (b_int : PySem.W.nsIn K mainGlobals "int" = some none)
    (b_bool : PySem.W.nsIn K mainGlobals "bool" = some none)
    (b_str : PySem.W.nsIn K mainGlobals "str" = some none)
    (b_all : PySem.W.nsIn K mainGlobals "all" = some none)
    (b_enumerate : PySem.W.nsIn K mainGlobals "enumerate" = some none) :
    ∃ fd : FuncData, (∀ (s : Shared) (v : Value), BindsTo s fd ⟨[v], []⟩ [("script", v)]) ∧
      ∀ base : Heap, K.In base → base.Ns mainGlobals mg → FnG P w K mg base CX0 13 fa fd ["script"] (spLaw K) := by
  have F_is_below : Fn K mg "is_below" s_is_below := fn_top X G a1 l1 c1 k1
  have F_is_letter : Fn K mg "is_letter" s_is_letter := fn_top X G a2 l2 c2 k2
  have F_letter_fault : Fn K mg "letter_fault" s_letter_fault := fn_top X G a3 l3 c3 k3
  have F_is_word : Fn K mg "_is_word" s_is_word := fn_top X G a4 l4 c4 k4
  have F_is_thing : Fn K mg "_is_thing" s_is_thing := fn_top X G a5 l5 c5 k5
  have F_is_send : Fn K mg "_is_send" s_is_send := fn_top X G a6 l6 c6 k6
  have F_is_play : Fn K mg "_is_play" s_is_play := fn_top X G a7 l7 c7 k7
  have F_plays_fault : Fn K mg "_plays_fault" s_plays_fault := fn_top X G a8 l8 c8 k8
  have F_sent_by : Fn K mg "sent_by" s_sent_by := fn_top X G a9 l9 c9 k9
  have F_law_box : Fn K mg "_law_box" s_law_box := fn_top X G a10 l10 c10 k10
  have F_law_pick : Fn K mg "_law_pick" s_law_pick := fn_top X G a11 l11 c11 k11
  have F_law_plays : Fn K mg "_law_plays" s_law_plays := fn_top X G a12 l12 c12 k12
  have F_law_play : Fn K mg "_law_play" s_law_play := fn_top X G a13 l13 c13 k13
  have F_law_unlike : Fn K mg "_law_unlike" s_law_unlike := fn_top X G a14 l14 c14 k14
  have F_law_pairs : Fn K mg "_law_pairs" s_law_pairs := fn_top X G a15 l15 c15 k15
  have F_law_deeds : Fn K mg "_law_deeds" s_law_deeds := fn_top X G a16 l16 c16 k16
  have F_law_risen : Fn K mg "_law_risen" s_law_risen := fn_top X G a17 l17 c17 k17
  have F_law_asked : Fn K mg "_law_asked" s_law_asked := fn_top X G a18 l18 c18 k18
  have F_law_due : Fn K mg "_law_due" s_law_due := fn_top X G a19 l19 c19 k19
  have F_law : Fn K mg "law" s_law := fn_top X G a20 l20 c20 k20
  have M_Seat__init : Fm K C_Seat "__init__" "Seat.__init__" s_Seat__init := fm_top a21 i21 l21 c21 k21
  have M_Puppet_ask : Fm K C_Puppet "ask" "Puppet.ask" s_Puppet_ask := fm_top a22 i22 l22 c22 k22
  have M_Puppet_leave : Fm K C_Puppet "leave" "Puppet.leave" s_Puppet_leave := fm_top a23 i23 l23 c23 k23
  have M_Puppet_hear : Fm K C_Puppet "hear" "Puppet.hear" s_Puppet_hear := fm_top a24 i24 l24 c24 k24
  have M_Puppet_heard : Fm K C_Puppet "_heard" "Puppet._heard" s_Puppet_heard := fm_top a25 i25 l25 c25 k25
  have M_Puppet_next_play : Fm K C_Puppet "_next_play" "Puppet._next_play" s_Puppet_next_play := fm_top a26 i26 l26 c26 k26
  have M_Puppet_unplayed : Fm K C_Puppet "unplayed" "Puppet.unplayed" s_Puppet_unplayed := fm_top a27 i27 l27 c27 k27
  have M_Porter_hear : Fm K C_Porter "hear" "Porter.hear" s_Porter_hear := fm_top a28 i28 l28 c28 k28
  have M_Porter_hear_please : Fm K C_Porter "_hear_please" "Porter._hear_please" s_Porter_hear_please := fm_top a29 i29 l29 c29 k29
  have M_Porter_hear_done : Fm K C_Porter "_hear_done" "Porter._hear_done" s_Porter_hear_done := fm_top a30 i30 l30 c30 k30
  have M_Porter_serve : Fm K C_Porter "_serve" "Porter._serve" s_Porter_serve := fm_top a31 i31 l31 c31 k31
  have M_Porter_come_in : Fm K C_Porter "_come_in" "Porter._come_in" s_Porter_come_in := fm_top a32 i32 l32 c32 k32
  have B_len := PySem.W.mg_none_of X G b_len
  have B_range := PySem.W.mg_none_of X G b_range
  have B_tuple := PySem.W.mg_none_of X G b_tuple
  have B_list := PySem.W.mg_none_of X G b_list
  have B_abs := PySem.W.mg_none_of X G b_abs
  have B_max := PySem.W.mg_none_of X G b_max
  have B_isinstance := PySem.W.mg_none_of X G b_isinstance
  have B_int := PySem.W.mg_none_of X G b_int
  have B_bool := PySem.W.mg_none_of X G b_bool
  have B_str := PySem.W.mg_none_of X G b_str
  have B_all := PySem.W.mg_none_of X G b_all
  have B_enumerate := PySem.W.mg_none_of X G b_enumerate
  have T_Puppet : Cls K C_Puppet := ⟨pg_Puppet, hd_Puppet, po_Puppet, sa_Puppet⟩
  have G_Puppet := PySem.W.mg_of X G aC_Puppet
  have T_Porter : Cls K C_Porter := ⟨pg_Porter, hd_Porter, po_Porter, sa_Porter⟩
  have G_Porter := PySem.W.mg_of X G aC_Porter
  have T_Seat : Cls K C_Seat := ⟨pg_Seat, hd_Seat, po_Seat, sa_Seat⟩
  have G_Seat := PySem.W.mg_of X G aC_Seat
  have SP : PupT K C_Puppet := ⟨T_Puppet, n_Puppet_me, n_Puppet_state, n_Puppet_sits, n_Puppet__plays, n_Puppet__played⟩
  have S : PtT K C_Porter := ⟨T_Porter, n_Porter_me, n_Porter_state, n_Porter_sits, n_Porter_inner, n_Porter_porter, n_Porter_serves, n_Porter__mates, n_Porter__waits⟩
  have T : BpL mg := ⟨⟨⟨⟨B_len, B_range, B_tuple, B_list, B_abs, B_max⟩, B_isinstance, B_int, B_bool, B_str, B_all⟩, B_enumerate⟩, B_max⟩
  exact law_end F_law hfa (fun _ _ _ _ _ _ s v => .of_eq rfl) fun base _ _ => whole T ⟨⟨_, PySem.W.mg_of X G m1⟩, ⟨_, PySem.W.mg_of X G m2⟩, ⟨_, PySem.W.mg_of X G m3⟩, ⟨_, PySem.W.mg_of X G m4⟩, mark_of X G m5 m6⟩ ⟨_, PySem.W.mg_of X G m7⟩ ⟨mark_of X G m8 m9, mark_of X G m10 m11, mark_of X G m12 m13⟩ S SP
    F_is_below F_is_letter F_letter_fault F_is_word F_is_thing F_is_send F_is_play F_plays_fault F_sent_by F_law_box F_law_pick F_law_plays F_law_play F_law_unlike F_law_pairs F_law_deeds F_law_risen F_law_asked F_law_due F_law
    M_Puppet_ask M_Puppet_leave M_Puppet_hear M_Puppet_heard M_Puppet_next_play M_Puppet_unplayed M_Porter_hear M_Porter_hear_please M_Porter_hear_done M_Porter_serve M_Porter_come_in
    (fun CF => made_Puppet T.toBp SP G_Puppet mk_Puppet kc_Puppet (fun_mk l21 c21 k21) i1P i2P i3P ii4P ii5P ii6P w7P w8P w9P ii10 w11 ii12 w13P w14P ii15 w16 CF)
    (made_Porter T.toBp S G_Porter mk_Porter kc_Porter (fun_mk l21 c21 k21) i1M i2M i3M ii4M ii5M ii6M w7M w8M w9M ii10 w11 ii12 w13M w14M ii15 w16)
end G0
open PySem PySem.W PyProof.Rows in
set_option maxRecDepth 100000 in
set_option maxHeartbeats 0 in
set_option pp.maxSteps 20 in
theorem PySem.Challenge.cw_soleseat_k87_porters_holds : PySem.Challenge.rw_soleseat_k87_porters.Holds := by
  w_on; o_law; k_head; (case hw => w_witness2)
  k_fill
  refine G0.walk_ofG (l := PySem.Challenge.rw_soleseat_k87_porters) (n := 63) (k := 13) (x := "script") (sp := G0.spLaw) rfl (by decide) rfl ⟨rfl, by decide, by decide⟩ (fun w h Y => PySem.W.kIn_of Y) ?F (fun K H a ns hl _ hS => ⟨a, ns, rfl, hS, hl, fun _ => rfl⟩)
  case F =>
    intro w mg fa h KX G hmg
    refine' G0.all_mk KX G hmg ?aC_Puppet ?pg_Puppet ?hd_Puppet ?po_Puppet ?sa_Puppet ?mk_Puppet ?kc_Puppet ?aC_Porter ?pg_Porter ?hd_Porter ?po_Porter ?sa_Porter ?mk_Porter ?kc_Porter ?aC_Seat ?pg_Seat ?hd_Seat ?po_Seat ?sa_Seat ?mk_Seat ?kc_Seat ?a1 ?l1 ?c1 ?k1 ?a2 ?l2 ?c2 ?k2 ?a3 ?l3 ?c3 ?k3 ?a4 ?l4 ?c4 ?k4 ?a5 ?l5 ?c5 ?k5 ?a6 ?l6 ?c6 ?k6 ?a7 ?l7 ?c7 ?k7 ?a8 ?l8 ?c8 ?k8 ?a9 ?l9 ?c9 ?k9 ?a10 ?l10 ?c10 ?k10 ?a11 ?l11 ?c11 ?k11 ?a12 ?l12 ?c12 ?k12 ?a13 ?l13 ?c13 ?k13 ?a14 ?l14 ?c14 ?k14 ?a15 ?l15 ?c15 ?k15 ?a16 ?l16 ?c16 ?k16 ?a17 ?l17 ?c17 ?k17 ?a18 ?l18 ?c18 ?k18 ?a19 ?l19 ?c19 ?k19 ?a20 ?l20 ?c20 ?k20 ?a21 ?i21 ?l21 ?c21 ?k21 ?a22 ?i22 ?l22 ?c22 ?k22 ?a23 ?i23 ?l23 ?c23 ?k23 ?a24 ?i24 ?l24 ?c24 ?k24 ?a25 ?i25 ?l25 ?c25 ?k25 ?a26 ?i26 ?l26 ?c26 ?k26 ?a27 ?i27 ?l27 ?c27 ?k27 ?a28 ?i28 ?l28 ?c28 ?k28 ?a29 ?i29 ?l29 ?c29 ?k29 ?a30 ?i30 ?l30 ?c30 ?k30 ?a31 ?i31 ?l31 ?c31 ?k31 ?a32 ?i32 ?l32 ?c32 ?k32 ?n_Puppet_me ?n_Puppet_state ?n_Puppet_sits ?n_Puppet__plays ?n_Puppet__played ?n_Porter_me ?n_Porter_state ?n_Porter_sits ?n_Porter_inner ?n_Porter_porter ?n_Porter_serves ?n_Porter__mates ?n_Porter__waits ?i1P ?i2P ?i3P ?ii4P ?ii5P ?ii6P ?w7P ?w8P ?w9P ?w13P ?w14P ?i1M ?i2M ?i3M ?ii4M ?ii5M ?ii6M ?w7M ?w8M ?w9M ?w13M ?w14M ?ii10 ?w11 ?ii12 ?ii15 ?w16 ?m1 ?m2 ?m3 ?m4 ?m5 ?m6 ?m7 ?m8 ?m9 ?m10 ?m11 ?m12 ?m13 ?b_len ?b_range ?b_tuple ?b_list ?b_abs ?b_max ?b_isinstance ?b_int ?b_bool ?b_str ?b_all ?b_enumerate
    (case aC_Puppet => k_is)
    (case pg_Puppet => k_is)
    (case hd_Puppet => k_is)
    (case po_Puppet => k_is)
    (case sa_Puppet => k_is)
    (case mk_Puppet => k_is)
    (case kc_Puppet => k_is)
    (case aC_Porter => k_is)
    (case pg_Porter => k_is)
    (case hd_Porter => k_is)
    (case po_Porter => k_is)
    (case sa_Porter => k_is)
    (case mk_Porter => k_is)
    (case kc_Porter => k_is)
    (case aC_Seat => k_is)
    (case pg_Seat => k_is)
    (case hd_Seat => k_is)
    (case po_Seat => k_is)
    (case sa_Seat => k_is)
    (case mk_Seat => k_is)
    (case kc_Seat => k_is)
    (case a1 => k_is)
    (case l1 => k_is)
    (case c1 => k_is)
    (case k1 => k_is)
    (case a2 => k_is)
    (case l2 => k_is)
    (case c2 => k_is)
    (case k2 => k_is)
    (case a3 => k_is)
    (case l3 => k_is)
    (case c3 => k_is)
    (case k3 => k_is)
    (case a4 => k_is)
    (case l4 => k_is)
    (case c4 => k_is)
    (case k4 => k_is)
    (case a5 => k_is)
    (case l5 => k_is)
    (case c5 => k_is)
    (case k5 => k_is)
    (case a6 => k_is)
    (case l6 => k_is)
    (case c6 => k_is)
    (case k6 => k_is)
    (case a7 => k_is)
    (case l7 => k_is)
    (case c7 => k_is)
    (case k7 => k_is)
    (case a8 => k_is)
    (case l8 => k_is)
    (case c8 => k_is)
    (case k8 => k_is)
    (case a9 => k_is)
    (case l9 => k_is)
    (case c9 => k_is)
    (case k9 => k_is)
    (case a10 => k_is)
    (case l10 => k_is)
    (case c10 => k_is)
    (case k10 => k_is)
    (case a11 => k_is)
    (case l11 => k_is)
    (case c11 => k_is)
    (case k11 => k_is)
    (case a12 => k_is)
    (case l12 => k_is)
    (case c12 => k_is)
    (case k12 => k_is)
    (case a13 => k_is)
    (case l13 => k_is)
    (case c13 => k_is)
    (case k13 => k_is)
    (case a14 => k_is)
    (case l14 => k_is)
    (case c14 => k_is)
    (case k14 => k_is)
    (case a15 => k_is)
    (case l15 => k_is)
    (case c15 => k_is)
    (case k15 => k_is)
    (case a16 => k_is)
    (case l16 => k_is)
    (case c16 => k_is)
    (case k16 => k_is)
    (case a17 => k_is)
    (case l17 => k_is)
    (case c17 => k_is)
    (case k17 => k_is)
    (case a18 => k_is)
    (case l18 => k_is)
    (case c18 => k_is)
    (case k18 => k_is)
    (case a19 => k_is)
    (case l19 => k_is)
    (case c19 => k_is)
    (case k19 => k_is)
    (case a20 => k_is)
    (case l20 => k_is)
    (case c20 => k_is)
    (case k20 => k_is)
    (case a21 => k_is)
    (case i21 => k_is)
    (case l21 => k_is)
    (case c21 => k_is)
    (case k21 => k_is)
    (case a22 => k_is)
    (case i22 => k_is)
    (case l22 => k_is)
    (case c22 => k_is)
    (case k22 => k_is)
    (case a23 => k_is)
    (case i23 => k_is)
    (case l23 => k_is)
    (case c23 => k_is)
    (case k23 => k_is)
    (case a24 => k_is)
    (case i24 => k_is)
    (case l24 => k_is)
    (case c24 => k_is)
    (case k24 => k_is)
    (case a25 => k_is)
    (case i25 => k_is)
    (case l25 => k_is)
    (case c25 => k_is)
    (case k25 => k_is)
    (case a26 => k_is)
    (case i26 => k_is)
    (case l26 => k_is)
    (case c26 => k_is)
    (case k26 => k_is)
    (case a27 => k_is)
    (case i27 => k_is)
    (case l27 => k_is)
    (case c27 => k_is)
    (case k27 => k_is)
    (case a28 => k_is)
    (case i28 => k_is)
    (case l28 => k_is)
    (case c28 => k_is)
    (case k28 => k_is)
    (case a29 => k_is)
    (case i29 => k_is)
    (case l29 => k_is)
    (case c29 => k_is)
    (case k29 => k_is)
    (case a30 => k_is)
    (case i30 => k_is)
    (case l30 => k_is)
    (case c30 => k_is)
    (case k30 => k_is)
    (case a31 => k_is)
    (case i31 => k_is)
    (case l31 => k_is)
    (case c31 => k_is)
    (case k31 => k_is)
    (case a32 => k_is)
    (case i32 => k_is)
    (case l32 => k_is)
    (case c32 => k_is)
    (case k32 => k_is)
    (case n_Puppet_me => k_is)
    (case n_Puppet_state => k_is)
    (case n_Puppet_sits => k_is)
    (case n_Puppet__plays => k_is)
    (case n_Puppet__played => k_is)
    (case n_Porter_me => k_is)
    (case n_Porter_state => k_is)
    (case n_Porter_sits => k_is)
    (case n_Porter_inner => k_is)
    (case n_Porter_porter => k_is)
    (case n_Porter_serves => k_is)
    (case n_Porter__mates => k_is)
    (case n_Porter__waits => k_is)
    (case i1P => k_is)
    (case i2P => k_is)
    (case i3P => k_is)
    (case ii4P => k_is)
    (case ii5P => k_is)
    (case ii6P => k_is)
    (case w7P => first | k_is | exact rfl | decide +kernel)
    (case w8P => first | k_is | exact rfl | decide +kernel)
    (case w9P => first | k_is | exact rfl | decide +kernel)
    (case w13P => first | k_is | exact rfl | decide +kernel)
    (case w14P => first | k_is | exact rfl | decide +kernel)
    (case i1M => k_is)
    (case i2M => k_is)
    (case i3M => k_is)
    (case ii4M => k_is)
    (case ii5M => k_is)
    (case ii6M => k_is)
    (case w7M => first | k_is | exact rfl | decide +kernel)
    (case w8M => first | k_is | exact rfl | decide +kernel)
    (case w9M => first | k_is | exact rfl | decide +kernel)
    (case w13M => first | k_is | exact rfl | decide +kernel)
    (case w14M => first | k_is | exact rfl | decide +kernel)
    (case ii10 => k_is)
    (case w11 => first | k_is | exact rfl | decide +kernel)
    (case ii12 => k_is)
    (case ii15 => k_is)
    (case w16 => first | k_is | exact rfl | decide +kernel)
    (case m1 => k_is)
    (case m2 => k_is)
    (case m3 => k_is)
    (case m4 => k_is)
    (case m5 => k_is)
    (case m6 => k_is)
    (case m7 => k_is)
    (case m8 => k_is)
    (case m9 => k_is)
    (case m10 => k_is)
    (case m11 => k_is)
    (case m12 => k_is)
    (case m13 => k_is)
    (case b_len => k_is)
    (case b_range => k_is)
    (case b_tuple => k_is)
    (case b_list => k_is)
    (case b_abs => k_is)
    (case b_max => k_is)
    (case b_isinstance => k_is)
    (case b_int => k_is)
    (case b_bool => k_is)
    (case b_str => k_is)
    (case b_all => k_is)
    (case b_enumerate => k_is)
#print axioms PySem.Challenge.cw_soleseat_k87_porters_holds
namespace G0

end G0
