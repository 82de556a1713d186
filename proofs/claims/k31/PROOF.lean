import PyProof.Rows.All
import Wide.All
import OpenK.AllK
import Wide.FinOn
import HandS.ForMost
import HandS.Wide
import HandS.Conv
import HandS.TupAny
import HandS.Deep
import HandS.Steps
import HandS.NoneIn
import HandS.IsInst
import HandS.More
import HandS.Defaults
import HandS.Small
import HandS.TupLe
import HandS.TupSets
import HandS.EndBits
import HandS.Nested
import HandS.ExcInit
import HandS.ExcSuper
import HandS.ClsMeth
import KE.KSuper
import KE.KExcSuper
import HandS.Zip
import HandS.IsInst
import HandS.MakeKwOnly
import HandS.DictComp
import HandS.SortInts
import HandS.Conv
import HandS.More
import HandS.Wide
import HandS.Deep
import HandS.Style
import HandS.WideBits
import HandS.Dict
import HandS.DictTup
import HandS.TupLen
import HandS.Walk
import PySem.Challenge.RW_soleseat_k31_whole_stampers_by_a_model
set_option Elab.async false
set_option maxRecDepth 100000
set_option maxHeartbeats 1000000
set_option linter.all false
/-! Calls where nothing is under repr around: the layer's defs, with one premise more (no guard around). -/
namespace G0
open PySem PySem.Spec PyProof.Rows L2
structure FnG (P : Program) (w : World) (K : PySem.W.Frag) (mg : Str → Option Value) (base : Heap) (CX : CXT)
    (k : Nat) (f : Addr) (fd : FuncData) (ps : List Str) (sp : Sp) : Prop where
  args : ∀ zs G R W, sp zs G R W → zs.length = ps.length
  runs : ∀ (B : Around) (around : List Env) (t : Shared) (G : Hp) (given : Args) (bound : List Value) (zs : List V) (R : VK) (W : XK),
    B.guards = some [] → Room k B → Env0 P w K mg base B around t G →
    BindsTo t fd given (ps.zip bound) → Vals zs bound → sp zs G R W →
    codeAny (model P w) B (.call (.ref f) given) (CR CX around P w G t R W) t
theorem FnG.of {P : Program} {w : World} {K : PySem.W.Frag} {mg : Str → Option Value} {base : Heap} {CX : CXT}
    {k : Nat} {f : Addr} {fd : FuncData} {ps : List Str} {sp : Sp} (F : FnOk P w K mg base CX k f fd ps sp) :
    FnG P w K mg base CX k f fd ps sp :=
  ⟨F.len, fun B around t G given bound zs R W _ hr => F.run B around t G given bound zs R W hr⟩
theorem FnG.mono {P : Program} {w : World} {K : PySem.W.Frag} {mg : Str → Option Value} {base : Heap} {CX : CXT}
    {j k : Nat} {f : Addr} {fd : FuncData} {ps : List Str} {sp : Sp} (F : FnG P w K mg base CX j f fd ps sp) (h : j ≤ k) :
    FnG P w K mg base CX k f fd ps sp :=
  ⟨F.args, fun B around t G given bound zs R W hg hr => F.runs B around t G given bound zs R W hg (hr.mono h)⟩
section
variable {X : Cx} {CX : CXT} {k : Nat} {f : Addr} {fd : FuncData} {ps : List Str} {sp : Sp}
  {dvs : List V} {ds : List Value} {E : XK} {x : Str} {p pos : Pos} {e : Expr} {es : List Expr} {t : TA}
theorem goes {pins : List (Addr × Obj)} {σ : L2.St} {H : Hp} {s : Shared} {Q : VK} {us : List Value} {vs : List V}
    (F : FnG X.prog X.w X.K X.mg X.base CX k f fd ps sp) (free : X.A.guards = some []) (hr : Room k X.A)
    (hb : Binds X.K fd ps ds) (hd : Vals dvs ds) (hx : Passes CX X E)
    (I : Inv X pins σ H s) (r : Vals vs us) (h : sp (vs ++ dvs) H Q E) :
    wpAny (model X.prog X.w) X.A (call (.ref f) us) (EP X pins σ Q) X.xe s := by
  have both : Vals (vs ++ dvs) (us ++ ds) := r.append hd
  have many : (us ++ ds).length = ps.length := both.length.symm.trans (F.args _ _ _ _ h)
  have it := F.runs X.A X.stack s H ⟨us, []⟩ (us ++ ds) (vs ++ dvs) Q E free hr I.env0 (hb s us I.kIn many) both h
  refine wpAny_call (codeAny_mono it fun out s' told => ?_)
  match out, told with
  | .error e, told => exact hx pins σ H s e s' I told
  | .ok (.ret u), told => exact I.after told
  | .ok .next, told => exact told.elim
  | .ok .brk, told => exact told.elim
  | .ok .cont, told => exact told.elim
theorem pe_callG (F : FnG X.prog X.w X.K X.mg X.base CX k f fd ps sp) (free : X.A.guards = some []) (hr : Room k X.A)
    (hg : Gl X x) (hm : X.mg x = some (.ref f)) (hk : PySem.W.keepIn X.K (.ref f) = true)
    (hb : Binds X.K fd ps ds) (hd : Vals dvs ds) (hx : Passes CX X E) (ha : PA X (e :: es) t)
    (n1 : (x == ("__debug__" : Str)) = false := by decide)
    (n2 : starEach (e :: es) X.env = (false, eval e X.env) :: starEach es X.env := by rfl)
    (n3 : (backTo pos (starEach es X.env)).any (·.1) = false := by rfl) :
    PE X (.Call (.Name x p) (e :: es) [] pos) (tCall sp dvs E t) :=
  ⟨fun pins s σ H Q I h => wpAny_Call_Name_kw (ld_glob I hg hm
    (PySem.W.callWith_K (h₀ := X.base) I.ok.mod.kin hk
      (thn (ha.run pos pins s σ H _ I h) fun us s1 ⟨vs, H1, I1, r, q⟩ =>
        ⟨I1.kIn, goes F free hr hb hd hx I1 r q⟩) n2 n3) n1)⟩
end
/-- a def's body, where nothing is under repr -/
theorem fnG_of {CX : CXT} {P : Program} {w : World} {K : PySem.W.Frag} {mg : Str → Option Value} {base : Heap} {k : Nat}
    {f : Addr} {name qual : Str} {params : Arguments} {body : List Stmt} {scope : Scope} {dV kV doc pm cdv ct oc : Value}
    {an od : Option Addr} {osl : Array (Option Value)} {N ps : List Str} {sp : Sp}
    (lk : K.lookup f = some ⟨oc, od, .func (PySem.W.fnOf name qual params body scope dV kV doc pm an cdv ct), osl⟩)
    (coded : PySem.W.codeIn K cdv qual = true) (S : FnScope N ps scope)
    (len : ∀ zs G R W, sp zs G R W → zs.length = ps.length)
    (inner : ∀ (B : Around) (around : List Env) (t : Shared) (G : Hp) (zs : List V) (R : VK) (W : XK), B.guards = some [] →
      Room k (B.deeper (envOfC qual scope t.heap.objs.size f cdv)) → sp zs G R W →
      ∃ tb, PSs (cxOf CX P w K mg base N qual scope f cdv B around t G W) body tb ∧
        tb { nx := fun _ G' => R .non G', rt := R } (start N zs) G) :
    FnG P w K mg base CX (k + 1) f (PySem.W.fnOf name qual params body scope dV kV doc pm an cdv ct) ps sp := by
  refine ⟨len, fun B around t G given bound zs R W free room e0 bd rel asked => ?_⟩
  have many := len _ _ _ _ asked
  have KX : K.In t.heap := e0.mod.kin.keeps fun b o z => (e0.bs b o z).1
  have lim : t.heap.NoLimit := e0.mod.nolimit.keeps fun b o z => (e0.bs b o z).1
  have kinds : ∀ y ∈ ps.zip bound, scope.names.lookup y.1 = some .local ∨
      (scope.names.lookup y.1 = some .cell ∧ ((cellsFrom (t.heap.objs.size + 1) scope.names []).lookup y.1).isSome = true) := by
    intro y hy
    cases S.par y.1 (List.of_mem_zip hy).1 with
    | inl q => exact .inl q
    | inr q => exact .inr ⟨q, PySem.W.cellsFrom_some _ _ _ (.inl q)⟩
  refine codeAny_call_function room.depth (KX _ _ lk) rfl S.co S.gen rfl (PySem.W.codeRec_of KX coded) (bd _ _ _ _ ?_)
  refine wpAny_newFunctionEnv_cells S.kind kinds fun env same t1 made => ?_
  subst same
  refine ⟨lim.keeps made.toInCall.keep, codeAny_func ?_⟩
  obtain ⟨tb, derived, holds⟩ := inner B around t G zs R W free (room.deeper _) asked
  have J : Inv (cxOf CX P w K mg base N qual scope f cdv B around t G W) [] (start N zs) G t1 :=
    inv_start S room.hd e0 many rel made
  refine wpAny_mono (derived.run [] t1 (start N zs) G _ J holds) (fun fl t' told => ?_) fun e t' told => told
  match fl, told with
  | .ret u, ⟨v, σ', G', J', rv, q⟩ => exact ⟨v, G', J'.os, J'.bare, J'.base, J'.hok, rv, q⟩
  | .next, ⟨σ', G', J', q⟩ => exact ⟨V.non, G', J'.os, J'.bare, J'.base, J'.hok, (rfl : Value.none = Value.none), q⟩
  | .brk, ⟨_, _, _, q⟩ => exact q.elim
  | .cont, ⟨_, _, _, q⟩ => exact q.elim
theorem okG {P : Program} {w : World} {K : PySem.W.Frag} {mg : Str → Option Value} {base : Heap} {x qual : Str} {st : Stmt}
    {f : Addr} {fd : FuncData} {N ps : List Str} {k : Nat} {sp : Sp} (F : Fun K x qual st f fd) (S : FnScope N ps (defScope st))
    (len : ∀ zs G R W, sp zs G R W → zs.length = ps.length)
    (inner : ∀ (cdv : Value) (B : Around) (around : List Env) (t : Shared) (G : Hp) (zs : List V) (R : VK) (W : XK), B.guards = some [] →
      Room k (B.deeper (envOfC qual (defScope st) t.heap.objs.size f cdv)) → sp zs G R W →
      ∃ tb, PSs (cxOf CX0 P w K mg base N qual (defScope st) f cdv B around t G W).nox (defBody st) tb ∧
        tb { nx := fun _ G' => R .non G', rt := R } (start N zs) G) :
    FnG P w K mg base CX0 (k + 1) f fd ps sp := by
  obtain ⟨oc, od, kV, doc, pm, an, cdv, ct, osl, rfl, lk, coded⟩ := F.ex
  refine fnG_of lk coded S len fun B around t G zs R W free room asked => ?_
  obtain ⟨tb, derived, holds⟩ := inner cdv B around t G zs R W free room asked
  exact ⟨tb, derived.nox, holds⟩
/-- the law's own call -/
theorem law_callG {P : Program} {w : World} {K : PySem.W.Frag} {mg mb : Str → Option Value} {CX : CXT} {k : Nat} {fa a : Addr}
    {fd : FuncData} {x : Str} {sp : Sp} {s₁ : Shared} {vs : List Value} {ns : List Int}
    (KX : K.In s₁.heap) (gl : s₁.heap.Ns mainGlobals mg) (bl : s₁.heap.Ns builtinsNs mb)
    (boot : ∀ x : Str, x ≠ "__name__" → mb x = bootBuiltins x) (lim : s₁.heap.NoLimit) (nogens : s₁.gens = #[])
    (at_ : s₁.heap.get? a = some { cls := .type "list", data := .seq vs.toArray }) (nums : IntsAre vs ns) (short : ns.length ≤ sizeLine)
    (room : Room k callerA)
    (F : ∀ base : Heap, K.In base → base.Ns mainGlobals mg → FnG P w K mg base CX k fa fd [x] sp)
    (bound : ∀ (s : Shared) (u : Value), BindsTo s fd ⟨[u], []⟩ [(x, u)])
    (asked : ∀ H : Hp, Only H → SqL K H a (ns.map V.int) → sp [.ref a] H (fun v _ => v = .bl true) fun _ _ _ => False)
    (never : ∀ H e s', CX [] H s₁ (fun _ _ _ => False) e s' → False) :
    codeAny (model P w) callerA (.call (.ref fa) ⟨[.ref a], []⟩)
      (fun r s' => r = .ok (.ret (.bool true)) ∧ OldK s₁.heap s'.heap ∧ s'.os = s₁.os ∧ AllBare s'.gens) s₁ := by
  have rel := vals_ints nums
  have many := nums.length
  have from_ : ∀ H : Hp, Only H → SqL K H a (ns.map V.int) → HOk P w H s₁.heap → (∀ b, H b ≠ none → b = a) →
      (H a ≠ none → K.lookup a = none) → codeAny (model P w) callerA (.call (.ref fa) ⟨[.ref a], []⟩)
        (fun r s' => r = .ok (.ret (.bool true)) ∧ OldK s₁.heap s'.heap ∧ s'.os = s₁.os ∧ AllBare s'.gens) s₁ := by
    intro H only seq fine one away
    have down : ∀ {b : Addr} {o : Obj}, s₁.heap.get? b = some o → H b = none →
      (hidT s₁.heap H).get? b = some o := fun e n => hidT_get e n
    have untracked : ∀ {b : Addr} {o : Obj}, s₁.heap.get? b = some o → (b = a → False) → H b = none := by
      intro b o _ n
      by_cases q : H b = none
      · exact q
      · exact (n (one b q)).elim
    have nodict : ∀ {b : Addr} {o : Obj} {es : Array DictEntry} {ep : Nat},
        s₁.heap.get? b = some o → o.data = .dict es ep → H b = none := by
      intro b o es ep e d
      refine untracked e fun q => ?_
      rw [q, at_] at e
      have e' := Option.some.inj e
      rw [← e'] at d
      have d' : Data.seq vs.toArray _ = Data.dict es ep := d
      exact absurd d' (fun h => by cases h)
    have spaces : ∀ {b : Addr} {m : Str → Option Value}, s₁.heap.Ns b m → (hidT s₁.heap H).Ns b m := by
      intro b m ns
      obtain ⟨o, es, ep, e, d, r⟩ := ns
      exact ⟨o, es, ep, down e (nodict e d), d, r⟩
    have written : K.In (hidT s₁.heap H) := by
      intro b o e
      refine down (KX b o e) ?_
      by_cases q : H b = none
      · exact q
      · have same := one b q
        rw [same] at q e
        rw [away q] at e
        cases e
    have md : Mod K mg (hidT s₁.heap H) := by
      obtain ⟨mc, h1, h2⟩ := lim
      exact ⟨written, spaces gl, ⟨mb, spaces bl, boot⟩, ⟨mc, spaces h1, h2⟩⟩
    have e0 : Env0 P w K mg (hidT s₁.heap H) callerA [] s₁ H :=
      ⟨rfl, md, fun b o e => of_hidT e, Nat.le_of_eq (hidT_size _ _), trivial,
        fun b hb => (List.not_mem_nil (show b ∈ ([] : List Addr) from hb)).elim, fine, .of_eq nogens⟩
    have it := (F _ written (spaces gl)).runs callerA [] s₁ H ⟨[.ref a], []⟩ [.ref a] [.ref a] _ _ rfl room e0
      (bound s₁ (.ref a)) (.cons rfl .nil) (asked H only seq)
    refine codeAny_mono it fun out s' told => ?_
    match out, told with
    | .error e, told => exact (never H e s' told).elim
    | .ok .next, told => exact told.elim
    | .ok .brk, told => exact told.elim
    | .ok .cont, told => exact told.elim
    | .ok (.ret u), ⟨v, H', os, bare, un, fine', r', q⟩ =>
      have q' : v = .bl true := q
      subst q'
      have u' : u = Value.bool true := r'
      subst u'
      refine ⟨rfl, OldK.of_keep fun b o e => ?_, os, bare⟩
      cases q : H b with
      | none => exact un.keep b o e q (fun z => (List.not_mem_nil (show b ∈ ([] : List Addr) from z)).elim) (List.not_mem_nil)
      | some u =>
        rcases only b with z | ⟨ob, xs, z⟩
        · have z1 := q.symm.trans z
          cases z1
        · have z' := un.frzs b ob _ z
          have e1 := (fine b _ z).1
          have e2 := (fine' b _ z').1
          exact e2.trans (e1.symm.trans e)
  cases known : K.lookup a with
  | some o =>
    have e := (KX a o known).symm.trans at_
    have e' := Option.some.inj e
    subst e'
    refine from_ (fun _ => none) (fun _ => .inl rfl) (.inr ⟨_, vs.toArray, _, known, rfl, rfl, rfl, ?_, ?_⟩)
      (fun b u z => by have z1 : (none : Option HO) = some u := z; cases z1) (fun b z => (z rfl).elim) fun z => (z rfl).elim
    · rw [List.size_toArray, many]; exact short
    · simpa using rel
  | none =>
    have self : (fun b => if b = a then some (HO.frz { cls := .type "list", data := .seq vs.toArray } (.lst (ns.map V.int))) else none) a
        = some (HO.frz { cls := .type "list", data := .seq vs.toArray } (.lst (ns.map V.int))) := if_pos rfl
    refine from_ (fun b => if b = a then some (HO.frz { cls := .type "list", data := .seq vs.toArray } (.lst (ns.map V.int))) else none)
      (fun b => ?_) (.inl (.inr ⟨_, self⟩)) (fun b u z => ?_) (fun b z => ?_) fun _ => known
    · by_cases same : b = a
      · exact .inr ⟨_, _, if_pos same⟩
      · exact .inl (if_neg same)
    · by_cases same : b = a
      · subst same
        have z' := Option.some.inj ((if_pos rfl).symm.trans z)
        subst z'
        exact ⟨at_, by rw [List.length_map]; exact short, vs, _, rel, at_⟩
      · have z1 := (if_neg same).symm.trans z
        cases z1
    · by_cases same : b = a
      · exact same
      · exact (z (if_neg same)).elim
theorem walk_ofG {l : PySem.W.OpenLaw} {n k : Nat} {q : Program} {loose : List Str} {XP : (Str → Option Value) → Heap → Prop}
    {YP : World → Heap → Prop} {d : DefRec} {K : Params → PySem.W.Frag} {sp : PySem.W.Frag → Sp} {x : Str}
    (hn : l.most = some n) (hn2 : n ≤ sizeLine) (hdf : d.params.defaults = []) (room : Room k callerA)
    (hY : ∀ (w : World) (h : Heap), YP w h → (K w.params).In h)
    (F : ∀ (w : World) (mg : Str → Option Value) (fa : Addr) (h : Heap), (K w.params).In h → h.Ns mainGlobals mg →
      mg d.name = some (.ref fa) → ∃ fd : FuncData, (∀ (s : Shared) (u : Value), BindsTo s fd ⟨[u], []⟩ [(x, u)]) ∧
        ∀ base : Heap, (K w.params).In base → base.Ns mainGlobals mg →
          FnG l.prog w (K w.params) mg base CX0 k fa fd [x] (sp (K w.params)))
    (asked : ∀ (K : PySem.W.Frag) (H : Hp) (a : Addr) (ns : List Int), ns.length ≤ n → Only H → SqL K H a (ns.map V.int) →
      sp K [.ref a] H (fun v _ => v = .bl true) fun _ _ _ => False) :
    PySem.W.WalkO q loose XP YP l.row.toRowW d [] (fun f vs => PySem.call f vs) := by
  refine Att.attach_call hn hdf fun w s₀ s₁ mg mb fa o pm cd doc a vs ns G Y ho hd hcd named obj nums few nogens => ?_
  have KX := hY w _ Y
  obtain ⟨fd, bound, all⟩ := F w mg fa _ KX G.T.g named
  exact law_callG KX G.T.g G.T.b G.T.builtins G.T.nolimit nogens obj nums (Nat.le_trans few hn2) room all bound
    (fun H only seq => asked _ H a ns few only seq) fun H e s' z => z
end G0
namespace G0
open PySem PySem.Spec PyProof.Rows L2
/-! ### a def of the module's top, by its name (no word of guards: for laws without repr) -/
def Fn (K : PySem.W.Frag) (mg : Str → Option Value) (x : Str) (st : Stmt) : Prop :=
  ∃ f fd, Fun K x x st f fd ∧ mg x = some (.ref f)
def Cal (P : Program) (w : World) (K : PySem.W.Frag) (mg : Str → Option Value) (base : Heap) (x : Str) (k : Nat) (ps : List Str) (sp : Sp) : Prop :=
  ∃ f fd, FnOk P w K mg base CX0 k f fd ps sp ∧ Binds K fd ps [] ∧ mg x = some (.ref f) ∧ PySem.W.keepIn K (.ref f) = true ∧
    ∃ oc od osl, K.lookup f = some ⟨oc, od, .func fd, osl⟩
theorem fn_top {K : PySem.W.Frag} {h : Heap} {mg : Str → Option Value} {x : Str} {st : Stmt} {f : Addr} {oc : Value} {od an : Option Addr}
    {osl : Array (Option Value)} {kV doc pm cdv ct : Value} (X : K.In h) (G : h.Ns mainGlobals mg)
    (a : PySem.W.nsIn K mainGlobals x = some (some (.ref f)))
    (l : K.lookup f = some ⟨oc, od, .func (PySem.W.fnOf x x (defArgs st) (defBody st) (defScope st) .none kV doc pm an cdv ct), osl⟩)
    (c : PySem.W.codeIn K cdv x = true) (k : PySem.W.keepIn K (.ref f) = true) : Fn K mg x st :=
  ⟨f, _, fun_mk l c k, PySem.W.mg_of X G a⟩
/-- a method of the class at C -/
def Fm (K : PySem.W.Frag) (C : Addr) (x qual : Str) (st : Stmt) : Prop := ∃ f fd, Fun K x qual st f fd ∧ Meth K C x f
theorem fm_top {K : PySem.W.Frag} {C : Addr} {x qual : Str} {st : Stmt} {f : Addr} {oc : Value} {od an : Option Addr}
    {osl : Array (Option Value)} {kV doc pm cdv ct : Value}
    (a : PySem.W.findIn K (.ref C) x = some (some (.ref f))) (i : PySem.W.isFn K (.ref f) = true)
    (l : K.lookup f = some ⟨oc, od, .func (PySem.W.fnOf x qual (defArgs st) (defBody st) (defScope st) .none kV doc pm an cdv ct), osl⟩)
    (c : PySem.W.codeIn K cdv qual = true) (k : PySem.W.keepIn K (.ref f) = true) : Fm K C x qual st :=
  ⟨f, _, fun_mk l c k, ⟨a, i, k⟩⟩
section
variable {P : Program} {w : World} {K : PySem.W.Frag} {mg : Str → Option Value} {base : Heap}
theorem cal_of {x : Str} {st : Stmt} {N ps : List Str} {k : Nat} {sp : Sp} (F : Fn K mg x st) (S : FnScope N ps (defScope st))
    (bd : ∀ (kV doc pm : Value) (an : Option Addr) (cdv ct : Value) (us : List Value), us.length = ps.length →
      bindArgs (PySem.W.fnOf x x (defArgs st) (defBody st) (defScope st) .none kV doc pm an cdv ct) ⟨us, []⟩ = pure (ps.zip us))
    (len : ∀ zs G R W, sp zs G R W → zs.length = ps.length)
    (inner : ∀ (f : Addr) (cdv : Value) (B : Around) (around : List Env) (t : Shared) (G : Hp) (zs : List V) (R : VK) (W : XK), True →
      Room k (B.deeper (envOfC x (defScope st) t.heap.objs.size f cdv)) → sp zs G R W →
      ∃ tb, PSs (cxOf CX0 P w K mg base N x (defScope st) f cdv B around t G W).nox (defBody st) tb ∧
        tb { nx := fun _ G' => R .non G', rt := R } (start N zs) G) :
    Cal P w K mg base x (k + 1) ps sp := by
  obtain ⟨f, fd, F, m⟩ := F
  obtain ⟨oc, od, kV, doc, pm, an, cdv, ct, osl, e, lk, c⟩ := id F.ex
  exact ⟨f, fd, F.ok S len (fun cdv B around t G zs R W room h => inner f cdv B around t G zs R W True.intro room h), F.binds bd, m, F.kp, oc, od, osl, lk⟩
theorem Cal.mono {x : Str} {j k : Nat} {ps : List Str} {sp : Sp} (C : Cal P w K mg base x j ps sp) (h : j ≤ k) : Cal P w K mg base x k ps sp := by
  obtain ⟨f, fd, F, r⟩ := C
  exact ⟨f, fd, F.mono h, r⟩
/-- the law itself, at the end -/
theorem law_end {st : Stmt} {k : Nat} {sp : Sp} {fa : Addr} (F : Fn K mg "law" st) (hm : mg "law" = some (.ref fa))
    (bt : ∀ (kV doc pm : Value) (an : Option Addr) (cdv ct : Value) (s : Shared) (v : Value),
      BindsTo s (PySem.W.fnOf "law" "law" (defArgs st) (defBody st) (defScope st) .none kV doc pm an cdv ct) ⟨[v], []⟩ [("script", v)])
    (C : ∀ base : Heap, K.In base → base.Ns mainGlobals mg → Cal P w K mg base "law" k ["script"] sp) :
    ∃ fd : FuncData, (∀ (s : Shared) (v : Value), BindsTo s fd ⟨[v], []⟩ [("script", v)]) ∧
      ∀ base : Heap, K.In base → base.Ns mainGlobals mg → FnG P w K mg base CX0 k fa fd ["script"] sp := by
  obtain ⟨f, fd, F, m⟩ := F
  obtain ⟨oc, od, kV, doc, pm, an, cdv, ct, osl, e, lk, c⟩ := id F.ex
  have ef := m.symm.trans hm
  cases ef
  refine ⟨fd, fun s v => by rw [e]; exact bt _ _ _ _ _ _ s v, fun base kin ns => ?_⟩
  obtain ⟨f', fd', G, _, m', _, oc', od', osl', lk'⟩ := C base kin ns
  have ef := m.symm.trans m'
  cases ef
  have ed := lk.symm.trans lk'
  cases ed
  exact FnG.of G
end
section
variable {X : Cx} {k : Nat} {ps : List Str} {sp : Sp} {x : Str} {p pos : Pos} {e : Expr} {es : List Expr} {t : TA}
theorem pe_cal (C : Cal X.prog X.w X.K X.mg X.base x k ps sp) (free : True) (hr : Room k X.A)
    (ha : PA X (e :: es) t) (hg : Gl X x := by rfl) (n1 : (x == ("__debug__" : Str)) = false := by decide)
    (n2 : starEach (e :: es) X.env = (false, eval e X.env) :: starEach es X.env := by rfl)
    (n3 : (backTo pos (starEach es X.env)).any (·.1) = false := by rfl) (hx : Passes CX0 X E0 := by exact pass0) :
    PE X (.Call (.Name x p) (e :: es) [] pos) (tCall sp [] E0 t) := by
  obtain ⟨f, fd, F, b, m, kp, _⟩ := C
  exact pe_call F hr hg m kp b .nil hx ha n1 n2 n3
/-! ### repr of data -/
def rRep (K : PySem.W.Frag) : List V → Hp → VK → Prop := fun xs H Q => ∃ (x : V) (d : PyData), xs = [x] ∧ Dp K H x d ∧
  d.showable = true ∧ d.hasDict = false ∧ d.depth ≤ 64 ∧ d.shown.length ≤ sizeLine ∧ Q (.str d.shown) H
theorem call_rep (free : X.A.guards = some []) (hu : X.A.units + 66 < cLine) : CallR X (.builtin "repr") (rRep X.K) := by
  intro pins s σ H xs us Q I r h
  obtain ⟨x, d, rfl, hd, hs, hn, h64, hz, q⟩ := h
  obtain ⟨u, rfl, rx⟩ := vals1 r
  have viaRef : ∀ (a : Addr), x = .ref a → wpAny (model X.prog X.w) X.A (call (.builtin "repr") [u]) (EP X pins σ Q) X.xe s := by
    intro a e
    subst e
    obtain rfl : u = Value.ref a := rx
    obtain ⟨as, rd⟩ := Dp.reads I d _ _ hd (rfl : RelV (.ref a) (.ref a))
    exact repr_of_reads' rd hs (PyData.noDict_hsm hn) free (by omega) (fun _ _ e => e)
      (fun h' w t kp => ⟨.str d.shown, H, I.kept (t' := t) kp, ⟨_, rfl⟩, q⟩) hz
  cases hd with
  | non =>
    obtain rfl : u = Value.none := rx
    exact PySem.P.repr_of_none ⟨.str _, H, I.tok _, ⟨_, rfl⟩, by simpa only [PyData.shown] using q⟩
  | bl b =>
    obtain rfl : u = Value.bool b := rx
    exact PySem.P.repr_of_bool ⟨.str _, H, I.tok _, ⟨_, rfl⟩, by simpa only [PyData.shown] using q⟩
  | int i =>
    obtain ⟨t, rfl⟩ := rx
    exact PySem.P.repr_of_int (by simpa [PyData.showable] using hs) ⟨.str _, H, I.tok _, ⟨_, rfl⟩, by simpa only [PyData.shown] using q⟩
  | str z =>
    obtain ⟨t, rfl⟩ := rx
    exact PySem.P.repr_of_str ⟨.str _, H, I.tok _, ⟨_, rfl⟩, by simpa only [PyData.shown] using q⟩ (by simpa only [PyData.shown] using hz)
  | lst _ _ => exact viaRef _ rfl
  | tup _ _ => exact viaRef _ rfl
/-! ### operators of several kinds in one -/
theorem u_eq (hu : X.A.units + 64 < cLine) : OpR X (compareOp .Eq) (fun x y H Q => rEq x y H Q ∨ rEqD X.K x y H Q) := op_eq.or (op_eqD hu)
theorem u_ne (hu : X.A.units + 64 < cLine) : OpR X (compareOp .NotEq) (fun x y H Q => rNe x y H Q ∨ rNeD X.K x y H Q) := op_ne.or (op_neD hu)
theorem u_in : OpR X (compareOp .In) (fun x y H Q => rIn X.K false x y H Q ∨ rInS x y H Q) := op_in_seq.or op_inS
theorem u_notin : OpR X (compareOp .NotIn) (fun x y H Q => rIn X.K true x y H Q ∨ rNotInS x y H Q) := op_notIn_seq.or op_notInS
end
theorem pe_fldK {X : Cx} {e : Expr} {f : Str} {pos : Pos} {ta : TE} (K : PySem.W.Frag) (ha : PE X e ta) (hK : X.K = K := by rfl)
    (hb : attributeBase e f X.env (eval e X.env) = eval e X.env := by rfl) : PE X (.Attribute e f pos) (tFld K ta f) := by
  subst hK
  exact pe_fld ha hb
/-! ### the written part named, for what stands within a comprehension -/
theorem op_K {X : Cx} {f : Value → Value → Sem Value} (r : PySem.W.Frag → R2) (K : PySem.W.Frag) (ho : OpR X f (r X.K)) (hK : X.K = K) : OpR X f (r K) := hK ▸ ho
theorem ix_K {X : Cx} (r : PySem.W.Frag → R2) (K : PySem.W.Frag) (ho : IxR X (r X.K)) (hK : X.K = K) : IxR X (r K) := hK ▸ ho
theorem call_K {X : Cx} {f : Value} (r : PySem.W.Frag → List V → Hp → VK → Prop) (K : PySem.W.Frag) (ho : CallR X f (r X.K)) (hK : X.K = K) : CallR X f (r K) := hK ▸ ho
section
variable {X : Cx} (K : PySem.W.Frag)
theorem u_inK (hK : X.K = K := by rfl) : OpR X (compareOp .In) (fun x y H Q => rIn K false x y H Q ∨ rInS x y H Q) := op_K (fun K x y H Q => rIn K false x y H Q ∨ rInS x y H Q) K u_in hK
theorem u_notinK (hK : X.K = K := by rfl) : OpR X (compareOp .NotIn) (fun x y H Q => rIn K true x y H Q ∨ rNotInS x y H Q) := op_K (fun K x y H Q => rIn K true x y H Q ∨ rNotInS x y H Q) K u_notin hK
theorem ix_listK (hK : X.K = K := by rfl) : IxR X (rIxL K) := ix_K rIxL K ix_list hK
theorem ix_tupK (hK : X.K = K := by rfl) : IxR X (rIxT K) := ix_K rIxT K ix_tup hK
theorem ix_seqK (hK : X.K = K := by rfl) : IxR X (rIx K) := ix_K rIx K ix_seq hK
theorem call_len_seqK (hK : X.K = K := by rfl) : CallR X (.builtin "len") (fun xs H Q => ∃ p ys, xs = [.ref p] ∧ (SqL K H p ys ∨ SqT K H p ys) ∧ Q (.int ys.length) H) :=
  call_K (fun K xs H Q => ∃ p ys, xs = [.ref p] ∧ (SqL K H p ys ∨ SqT K H p ys) ∧ Q (.int ys.length) H) K call_len_seq hK
end
/-! ### what changes: one list -/
/-- all that is tracked but p stays -/
def Chg (p : Addr) (H H' : Hp) : Prop := ∀ b o, b ≠ p → H b = some o → H' b = some o
theorem Chg.refl (p : Addr) (H : Hp) : Chg p H H := fun _ _ _ e => e
theorem Chg.trans {p : Addr} {H H1 H2 : Hp} (a : Chg p H H1) (b : Chg p H1 H2) : Chg p H H2 := fun c o n e => b c o n (a c o n e)
theorem Chg.self {p : Addr} {H : Hp} {o : HO} : Chg p H (upd H p o) := fun b u n e => by rw [upd_ne n]; exact e
theorem Chg.new {p q : Addr} {H H1 : Hp} {o : HO} (a : Chg p H H1) (n : H1 q = none) : Chg p H (upd H1 q o) := fun b u m e => by
  rw [upd_ne (ne_of_none (a b u m e) n)]; exact a b u m e
theorem Chg.same {p : Addr} {H H1 : Hp} (a : Same H H1) : Chg p H H1 := fun b o _ e => a b o e
theorem same_upd {H : Hp} {q : Addr} {o : HO} (n : H q = none) : Same H (upd H q o) := fun b u e => by
  rw [upd_ne (ne_of_none e n)]; exact e
/-! ### a law's draws: the pot -/
def PotL (n : Nat) (xs : List V) : Prop := ∃ a b c : Int, xs = [.int a, .int b, .int c] ∧ 0 ≤ a ∧ 0 ≤ b ∧ b < 2305843009213693951 ∧ 0 ≤ c ∧ c ≤ n
def PotAt (n : Nat) (H : Hp) (p : Addr) : Prop := ∃ xs, H p = some (.lst xs) ∧ PotL n xs
theorem PotL.mono {n m : Nat} {xs : List V} (h : PotL n xs) (le : n ≤ m) : PotL m xs := by
  obtain ⟨a, b, c, e, h1, h2, h3, h4, h5⟩ := h
  exact ⟨a, b, c, e, h1, h2, h3, h4, by omega⟩
theorem PotAt.mono {n m : Nat} {H : Hp} {p : Addr} (h : PotAt n H p) (le : n ≤ m) : PotAt m H p := by
  obtain ⟨xs, e, h⟩ := h
  exact ⟨xs, e, h.mono le⟩
theorem PotAt.keep {n : Nat} {H H' : Hp} {p : Addr} (h : PotAt n H p) (s : Same H H') : PotAt n H' p := by
  obtain ⟨xs, e, h⟩ := h
  exact ⟨xs, s _ _ e, h⟩
theorem PotAt.at {n : Nat} {H : Hp} {p : Addr} {xs : List V} (h : PotL n xs) : PotAt n (upd H p (.lst xs)) p := ⟨xs, upd_same, h⟩
end G0
/-! Wide powers, the law's own call with the script's bits told, len of an own object, sorted of a tuple of tuples of ints. -/
namespace G0
open PySem PySem.Spec PyProof.Rows L2
def CPowB (i j : Int) : Prop := 0 ≤ j ∧ (Builtin.Int.intBits i : Int) * j ≤ 2 ^ 27
theorem op_powB {X : Cx} : OpR X (binaryOp .Pow) (rI CPowB fun i j => .int (i ^ j.toNat)) := opI fun _ _ _ _ _ _ _ hc q => pow_int hc.1 hc.2 q
theorem walk_ofGB {l : PySem.W.OpenLaw} {n k : Nat} {q : Program} {loose : List Str} {XP : (Str → Option Value) → Heap → Prop}
    {YP : World → Heap → Prop} {d : DefRec} {K : Params → PySem.W.Frag} {sp : PySem.W.Frag → Sp} {x : Str}
    (hn : l.most = some n) (hn2 : n ≤ sizeLine) (hdf : d.params.defaults = []) (room : Room k callerA)
    (hY : ∀ (w : World) (h : Heap), YP w h → (K w.params).In h)
    (F : ∀ (w : World) (mg : Str → Option Value) (fa : Addr) (h : Heap), (K w.params).In h → h.Ns mainGlobals mg →
      mg d.name = some (.ref fa) → ∃ fd : FuncData, (∀ (s : Shared) (u : Value), BindsTo s fd ⟨[u], []⟩ [(x, u)]) ∧
        ∀ base : Heap, (K w.params).In base → base.Ns mainGlobals mg →
          FnG l.prog w (K w.params) mg base CX0 k fa fd [x] (sp (K w.params)))
    (asked : ∀ (K : PySem.W.Frag) (H : Hp) (a : Addr) (ns : List Int), ns.length ≤ n → (∀ z ∈ ns, Builtin.Int.intBits z ≤ 1048576) → Only H → SqL K H a (ns.map V.int) →
      sp K [.ref a] H (fun v _ => v = .bl true) fun _ _ _ => False) :
    PySem.W.WalkO q loose XP YP l.row.toRowW d [] (fun f vs => PySem.call f vs) := by
  refine Att.attach_callB hn hdf fun w s₀ s₁ mg mb fa o pm cd doc a vs ns G Y ho hd hcd named obj nums few bits nogens => ?_
  have KX := hY w _ Y
  obtain ⟨fd, bound, all⟩ := F w mg fa _ KX G.T.g named
  exact law_callG KX G.T.g G.T.b G.T.builtins G.T.nolimit nogens obj nums (Nat.le_trans few hn2) room all bound
    (fun H only seq => asked _ H a ns few bits only seq) fun H e s' z => z
/-! ### len of an own object -/
section
variable {X : Cx} {CX : CXT} {k : Nat} {f C : Addr} {fd : FuncData} {ps : List Str} {sp : Sp} {dvs : List V} {ds : List Value} {E : XK}
theorem run_fn1 {pins : List (Addr × Obj)} {σ : L2.St} {H : Hp} {s : Shared} {Q : VK} {us : List Value} {vs : List V}
    (F : FnOk X.prog X.w X.K X.mg X.base CX k f fd ps sp) (hr : Room (k + 1) X.A) (hb : Binds X.K fd ps ds) (hd : Vals dvs ds) (hx : Passes CX X E)
    (I : Inv X pins σ H s) (r : Vals vs us) (h : sp (vs ++ dvs) H Q E) : wpAny (model X.prog X.w) X.A.in1 (call (.ref f) us) (EP X pins σ Q) X.xe s := by
  have r2 : Vals (vs ++ dvs) (us ++ ds) := r.append hd
  have hl : (us ++ ds).length = ps.length := by rw [← r2.length]; exact F.len _ _ _ _ h
  refine wpAny_call (codeAny_mono (F.run X.A.in1 X.stack s H ⟨us, []⟩ (us ++ ds) (vs ++ dvs) Q E hr.in1 I.env0.in1 (hb s us I.kIn hl) r2 h) fun r s' hq => ?_)
  cases r with
  | error e => exact hx pins σ H s e s' I hq
  | ok fl =>
    cases fl with
    | ret u => exact I.after hq
    | next => exact False.elim hq
    | brk => exact False.elim hq
    | cont => exact False.elim hq
def rLenOwn (C : Addr) (sp : Sp) (E : XK) : List V → Hp → VK → Prop := fun xs H Q => ∃ (a dx : Addr) (fs : List (Str × V)), xs = [.ref a] ∧ H a = some (.ins C dx fs) ∧
  sp [.ref a] H (fun v H2 => ∃ n : Nat, v = .int n ∧ n ≤ sizeLine ∧ Q (.int n) H2) E
theorem call_lenOwn (hm : Meth X.K C "__len__" f) (F : FnOk X.prog X.w X.K X.mg X.base CX k f fd ps sp) (hr : Room (k + 1) X.A) (hb : Binds X.K fd ps []) (hx : Passes CX X E) :
    CallR X (.builtin "len") (rLenOwn C sp E) := by
  intro pins s σ H xs us Q I r h
  obtain ⟨a, dx, fs, rfl, e, q⟩ := h
  obtain ⟨u, rfl, ru⟩ := vals1 r
  obtain rfl : u = Value.ref a := ru
  obtain ⟨mA, O, _, _, _, _⟩ := ins_get I.hok e
  obtain ⟨od, ho, _⟩ := lookIn_ns O.ns
  have IA : PySem.W.InstAt s.heap a (PySem.W.instObj C dx) C (some od) := ⟨O.obj, rfl, rfl, ho⟩
  refine Calls.call_function_entry kind_len plain_len entry_len (args_len1 _) ?_
  unfold Builtin.«len»
  refine wpAny_bind (m := oneArg "len" _) (wpAny_pure ?_)
  refine wpAny_bind (m := callSpecial? (.ref a) (Str.ofString "__len__")) (PySem.W.special_fn I.kIn IA hm.at_ (beq_iff_eq.mp hm.fn)
    (wpAny_mono (run_fn1 (us := [.ref a]) (vs := [.ref a]) F hr hb .nil hx I (.cons rfl .nil) q) (fun r s' hr' => ?_) fun _ _ y => y))
  obtain ⟨v, H', I', rv, n, rfl, hn, q'⟩ := hr'
  obtain ⟨t, rfl⟩ := (show ∃ t, r = Value.int n t from rv)
  rw [sizeLine_eq] at hn
  refine wpAny_bind (wpAny_holding (wpAny_pure ?_))
  refine wpAny_bind (wpAny_letGo ?_)
  show wpAny _ _ (if ((n : Nat) : Int) < 0 then _ else _) _ _ _
  rw [if_neg (by omega)]
  show wpAny _ _ (if ((n : Nat) : Int) ≥ 2 ^ 63 then _ else _) _ _ _
  rw [if_neg (by omega)]
  exact wpAny_bind (wpAny_mkInt (wpAny_pure ⟨_, rfl, .int n, H', I'.tok _, ⟨_, rfl⟩, q'⟩))
end
/-! ### sorted of a tuple of tuples of ints -/
section
variable {prog : Program} {w : World} {A : Around} {E : Value → Shared → Prop} {s : Shared}
theorem collect_tup {l : Addr} {vs : List Value} {Q : List Value → Shared → Prop} (hl : IsTup s.heap l vs.toArray)
    (h : Q vs { s with heap := (s.heap.push (seqObj "list" #[] 0)).update s.heap.objs.size (Obj.mapSeq (· ++ vs.toArray)) }) (hsz : vs.length ≤ sizeLine) :
    wpAny (model prog w) A (collect (.ref l)) Q E s := by
  obtain ⟨o, ho, hc, n, hd⟩ := id hl
  unfold collect
  refine wpAny_bind (wpAny_runValue (codeAny_builtin entry_proto_collect' ?_))
  show wpAny _ _ (do again (.builtin "list.__iadd__" ⟨[← newList [], .ref l], []⟩)) _ _ s
  refine wpAny_bind (wpAny_newList (wpAny_pure ⟨Code.quiet_builtin _ (by decide +kernel), codeAny_builtin entry_list_iadd' ?_⟩))
  show wpAny _ _ (Builtin.List.listExtendWith (.ref s.heap.objs.size) (.ref l) (.ref s.heap.objs.size)) _ _ { s with heap := s.heap.push (seqObj "list" #[] 0) }
  unfold Builtin.List.listExtendWith
  have ho' : (s.heap.push (seqObj "list" #[] 0)).get? l = some o := Heap.get?_push_of_some _ ho
  refine wpAny_bind (wpAny_typeOf (T := "tuple") ⟨o, ho', hc⟩ ?_)
  have ht : (Value.type "tuple" == Value.type "tuple") = true := by rfl
  rw [if_pos (by rw [ht]; simp)]
  refine wpAny_bind (listItems_at ho' hd ?_)
  refine wpAny_bind (listItems_at (xs := #[]) (n := 0) (Heap.get?_push_size _ rfl) rfl ?_)
  rw [if_neg (by simp)]
  refine wpAny_bind (listUpdate_at (xs := #[]) (n := 0) (Heap.get?_push_size _ rfl) rfl ?_ (Nat.zero_le _) (by show (#[] ++ vs.toArray).size ≤ sizeLine + 1; simp only [Array.size_append, List.size_toArray, List.length_nil]; omega))
  refine wpAny_pure ?_
  show wpAny (model prog w) A (do
      let o ← load s.heap.objs.size
      match o.data with
      | .seq xs _ => pure xs.toList
      | _ => unsupported "internal:collect") Q E { s with heap := (s.heap.push (seqObj "list" #[] 0)).update s.heap.objs.size (Obj.mapSeq (· ++ vs.toArray)) }
  refine wpAny_bind (wpAny_load (get?_update_seq (Heap.get?_push_size _ rfl) _) ?_)
  show wpAny _ _ (pure ((#[] : Array Value) ++ vs.toArray).toList) Q E _
  rw [show ((#[] : Array Value) ++ vs.toArray).toList = vs by simp]
  exact wpAny_pure h
open TS in
theorem sorted_tupsT {l : Addr} {vs : List Value} {d : Nat} {B : Int} {Q : Value → Shared → Prop} (hl : IsTup s.heap l vs.toArray) (h64 : vs.length < 64) (hd : 1 ≤ d) (x : TupsOk s.heap d B vs)
    (h : ∀ out : Array Value, out.toList.Perm vs → out.toList.Pairwise (fun u v => code B (intsOf s.heap u) ≤ code B (intsOf s.heap v)) → Q (.ref (s.heap.objs.size + 1)) { s with heap := sortedAll s.heap vs out }) :
    wpAny (model prog w) A (call (.builtin "sorted") [.ref l]) Q E s := by
  refine Calls.call_function_entry kind_sorted plain_sorted entry_sorted (args_sorted1 _) ?_
  unfold Builtin.«sorted»
  refine wpAny_bind (m := checkCount "sorted" 1 1 _) (wpAny_pure ?_)
  refine wpAny_bind (collect_tup hl ?_ (by rw [sizeLine_eq]; omega))
  refine wpAny_bind (wpAny_newList ?_ (by rw [sizeLine_eq]; omega))
  have hsz : ((s.heap.push (seqObj "list" #[] 0)).update s.heap.objs.size (Obj.mapSeq (· ++ vs.toArray))).objs.size = s.heap.objs.size + 1 := by
    rw [Heap.size_update, size_push']
  have hoL : (((s.heap.push (seqObj "list" #[] 0)).update s.heap.objs.size (Obj.mapSeq (· ++ vs.toArray))).push (seqObj "list" vs.toArray 0)).get? (s.heap.objs.size + 1) = some (seqObj "list" vs.toArray 0) := by
    rw [← hsz]; exact Heap.get?_push_size _ rfl
  have keep : ∀ b o, s.heap.get? b = some o → o.cls = .type "tuple" → (((s.heap.push (seqObj "list" #[] 0)).update s.heap.objs.size (Obj.mapSeq (· ++ vs.toArray))).push (seqObj "list" vs.toArray 0)).get? b = some o := fun b o q _ => by
    have hlt : b < s.heap.objs.size := Heap.lt_size q
    rw [Heap.get?_push_ne _ _ _ (by rw [hsz]; exact Nat.ne_of_lt (Nat.lt_succ_of_lt hlt)), Heap.get?_update_ne _ _ _ _ (Nat.ne_of_lt hlt), Heap.get?_push_ne _ _ _ (Nat.ne_of_lt hlt)]
    exact q
  show wpAny _ _ _ _ _ { s with heap := ((s.heap.push (seqObj "list" #[] 0)).update s.heap.objs.size (Obj.mapSeq (· ++ vs.toArray))).push (seqObj "list" vs.toArray 0) }
  rw [hsz]
  refine wpAny_bind (wpAny_holding (wpAny_call_entry slot_list_sort ⟨_, hoL, rfl⟩ entry_list_sort (sort_tups hoL h64 hd (x.keeps keep) (fun v => code B (intsOf s.heap v)) (fun v hv ns t => ?_) fun out a1 a2 => ⟨_, rfl, ?_⟩) (args_list_sort _)))
  · obtain ⟨ns0, t0, _⟩ := x v hv
    have e : ns = ns0 := t.ints.symm.trans (t0.keeps keep).ints
    rw [e]
    show code B (intsOf s.heap v) = code B ns0
    rw [t0.ints]
  · exact wpAny_pure ⟨_, rfl, h out a1 a2⟩
end
def rSortUT (K : PySem.W.Frag) (d : Nat) (B : Int) : List V → Hp → VK → Prop := fun vs H Q => ∃ (a : Addr) (xs : List V), vs = [V.ref a] ∧ SqT K H a xs ∧ xs.length < 64 ∧ (∀ x ∈ xs, ∃ ns, TupI K H x ns ∧ ns.length = d ∧ TS.Bd B ns) ∧
  ∀ (ys : List V) (p : Addr), ys.Perm xs → ys.Pairwise (fun x y => ∀ n m, TupI K H x n → TupI K H y m → TS.code B n ≤ TS.code B m) → H p = none → Q (.ref p) (upd H p (.lst ys))
theorem cr_sortTT {X : Cx} {d : Nat} {B : Int} (hd : 1 ≤ d) : CallR X (.builtin "sorted") (rSortUT X.K d B) := by
  intro pins s σ H vs us Q I r h
  obtain ⟨a, xs, rfl, hs, h64, hx, q⟩ := h
  obtain ⟨its, rv, hl, hz⟩ := I.tuple hs
  rw [Vals.ref1 r]
  obtain ⟨e1, e2⟩ := bkV_refs rv fun x m => by
    obtain ⟨ns, ⟨t, e, _⟩, _⟩ := hx x m
    exact ⟨t, e⟩
  refine sorted_tupsT (d := d) (B := B) hl (by rw [← rv.length]; exact h64) hd (fun v hv => ?_) fun out h1 h2 => ?_
  · obtain ⟨t, rfl⟩ := e2 v hv
    have hm : V.ref t ∈ xs := by
      rw [e1]
      exact List.mem_map.mpr ⟨_, hv, rfl⟩
    obtain ⟨ns, ⟨t', e, ht⟩, hn, hb⟩ := hx _ hm
    cases e
    exact ⟨ns, tupI_raw I ht, hn, hb⟩
  · obtain ⟨ep, he'⟩ := PyProof.Rows.sortedAll_at s.heap its out
    have h3 : ∀ u ∈ out.toList, ∃ a, u = Value.ref a := fun u hu => e2 u (h1.mem_iff.mp hu)
    have hp : (out.toList.map bkV).Perm xs := by
      rw [e1]
      exact h1.map bkV
    have hlen : (out.toList.map bkV).length ≤ sizeLine := by
      rw [hp.length_eq]
      exact hz
    refine ⟨.ref _, upd H (s.heap.objs.size + 1) (.lst (out.toList.map bkV)), I.laid (t' := s.toks) (fun _ _ => PyProof.Rows.sortedAll_old) (Nat.le_succ _) ⟨hlen, out.toList, ep, bkV_vals h3, he'⟩, rfl, q _ _ hp ?_ (I.hok.fresh (Nat.le_succ _))⟩
    rw [List.pairwise_map]
    refine List.Pairwise.imp (fun {u v} huv n m hn hm => ?_) h2
    obtain ⟨t, et, ht⟩ := hn
    obtain ⟨t', et', ht'⟩ := hm
    have eu := bkV_ref et
    have ev := bkV_ref et'
    have i1 : TS.intsOf s.heap u = n := by
      rw [eu]
      exact (tupI_raw I ht).ints
    have i2 : TS.intsOf s.heap v = m := by
      rw [ev]
      exact (tupI_raw I ht').ints
    rw [← i1, ← i2]
    exact huv
end G0
namespace G0
open PySem PySem.Spec PyProof.Rows L2
/-! ### data -/
mutual
def noL : PyData → Bool
  | .none | .bool _ | .int _ | .str _ => true
  | .list _ | .dict _ => false
  | .tuple xs => noLs xs
def noLs : List PyData → Bool
  | [] => true
  | x :: xs => noL x && noLs xs
end
section
variable {K : PySem.W.Frag} {H H' : Hp} {p : Addr}
theorem sqt_chg (hp : ∃ xs, H p = some (.lst xs)) (c : Chg p H H') {a : Addr} {xs : List V} (h : SqT K H a xs) : SqT K H' a xs := by
  obtain ⟨ys, hp⟩ := hp
  rcases h with (h | ⟨o, h⟩) | h
  · exact .inl (.inl (c _ _ (ne_of h hp (by intro z; cases z)) h))
  · exact .inl (.inr ⟨o, c _ _ (ne_of h hp (by intro z; cases z)) h⟩)
  · exact .inr h
theorem sqt_same (c : Same H H') {a : Addr} {xs : List V} (h : SqT K H a xs) : SqT K H' a xs := by
  rcases h with (h | ⟨o, h⟩) | h
  · exact .inl (.inl (c _ _ h))
  · exact .inl (.inr ⟨o, c _ _ h⟩)
  · exact .inr h
mutual
theorem dp_chg (hp : ∃ xs, H p = some (.lst xs)) (c : Chg p H H') : ∀ (d : PyData) (v : V), noL d = true → Dp K H v d → Dp K H' v d
  | .none, _, _, h => by cases h; exact .non
  | .bool _, _, _, h => by cases h; exact .bl _
  | .int _, _, _, h => by cases h; exact .int _
  | .str _, _, _, h => by cases h; exact .str _
  | .list _, _, n, _ => by simp [noL] at n
  | .dict _, _, n, _ => by simp [noL] at n
  | .tuple ds, _, n, h => by
    cases h with
    | tup hs ha => exact .tup (sqt_chg hp c hs) (dps_chg hp c ds _ (by simpa [noL] using n) ha)
theorem dps_chg (hp : ∃ xs, H p = some (.lst xs)) (c : Chg p H H') : ∀ (ds : List PyData) (vs : List V), noLs ds = true → DpAll K H vs ds → DpAll K H' vs ds
  | [], _, _, h => by cases h; exact .nil
  | d :: ds, _, n, h => by
    simp only [noLs, Bool.and_eq_true] at n
    cases h with
    | cons h1 h2 => exact .cons (dp_chg hp c d _ n.1 h1) (dps_chg hp c ds _ n.2 h2)
end
mutual
theorem dp_same (c : Same H H') : ∀ (d : PyData) (v : V), Dp K H v d → Dp K H' v d
  | .none, _, h => by cases h; exact .non
  | .bool _, _, h => by cases h; exact .bl _
  | .int _, _, h => by cases h; exact .int _
  | .str _, _, h => by cases h; exact .str _
  | .list ds, _, h => by
    cases h with
    | lst hs ha => exact .lst (c.seq hs) (dps_same c ds _ ha)
  | .dict _, _, h => by cases h
  | .tuple ds, _, h => by
    cases h with
    | tup hs ha => exact .tup (sqt_same c hs) (dps_same c ds _ ha)
theorem dps_same (c : Same H H') : ∀ (ds : List PyData) (vs : List V), DpAll K H vs ds → DpAll K H' vs ds
  | [], _, h => by cases h; exact .nil
  | d :: ds, _, h => by
    cases h with
    | cons h1 h2 => exact .cons (dp_same c d _ h1) (dps_same c ds _ h2)
end
theorem dps_app {vs ws : List V} {ds es : List PyData} : DpAll K H vs ds → DpAll K H ws es → DpAll K H (vs ++ ws) (ds ++ es) := by
  intro h g
  match vs, ds, h with
  | [], [], _ => exact g
  | _ :: _, _ :: _, .cons h1 h2 => exact .cons h1 (dps_app h2 g)
theorem dps_len {vs : List V} {ds : List PyData} : DpAll K H vs ds → vs.length = ds.length := by
  intro h
  match vs, ds, h with
  | [], [], _ => rfl
  | _ :: _, _ :: _, .cons _ h2 => exact congrArg (· + 1) (dps_len h2)
end
theorem noLs_of : ∀ {ds : List PyData}, (∀ d ∈ ds, noL d = true) → noLs ds = true
  | [], _ => rfl
  | d :: ds, h => by
    simp only [noLs, Bool.and_eq_true]
    exact ⟨h d (List.mem_cons_self ..), noLs_of fun x hx => h x (List.mem_cons_of_mem _ hx)⟩
/-! ### things and letters -/
inductive Thing : Nat → PyData → Prop
  | num {n : Nat} {i : Int} : 0 ≤ i → i < 10 ^ 60 → Thing n (.int i)
  | tup {n : Nat} {ds : List PyData} : ds.length ≤ 2 → (∀ d ∈ ds, Thing n d) → Thing (n + 1) (.tuple ds)
theorem Thing.noL {n : Nat} {d : PyData} (h : Thing n d) : noL d = true := by
  induction h with
  | num _ _ => rfl
  | tup _ _ ih =>
    simp only [G0.noL]
    exact noLs_of ih
theorem Thing.mono {n m : Nat} {d : PyData} (h : Thing n d) (le : n ≤ m) : Thing m d := by
  induction h generalizing m with
  | num a b => exact .num a b
  | tup l _ ih =>
    cases m with
    | zero => omega
    | succ m => exact .tup l fun d hd => ih d hd (by omega)
def WordOk (z : Str) : Prop := 1 ≤ z.length ∧ z.length ≤ 8 ∧ (∀ c ∈ z.cps.toList, 97 ≤ c ∧ c ≤ 122) ∧ z ≠ "gone"
def LetterD (d : PyData) : Prop := ∃ (z : Str) (ds : List PyData), d = .tuple (.str z :: ds) ∧ WordOk z ∧ ds.length ≤ 5 ∧ ∀ x ∈ ds, Thing 3 x
theorem LetterD.noL {d : PyData} (h : LetterD d) : noL d = true := by
  obtain ⟨z, ds, rfl, _, _, hd⟩ := h
  simp only [G0.noL, noLs, Bool.true_and]
  exact noLs_of fun x hx => (hd x hx).noL
theorem Chg.mut {p D : Addr} {H0 H1 : Hp} {o : HO} (a : Chg p H0 H1) (n : H0 D = none) : Chg p H0 (upd H1 D o) := fun b u m e => by
  rw [upd_ne (ne_of_none e n)]; exact a b u m e
theorem PotAt.ne {n : Nat} {H H' : Hp} {p D : Addr} {o : HO} (h : PotAt n H p) (d : p ≠ D) (e : H' = upd H D o) : PotAt n H' p := by
  obtain ⟨xs, q, r⟩ := h
  exact ⟨xs, by rw [e, upd_ne d]; exact q, r⟩
theorem PotAt.new {n : Nat} {H : Hp} {p D : Addr} {o : HO} (h : PotAt n H p) (d : H D = none) : PotAt n (upd H D o) p := h.keep (same_upd d)
theorem PotAt.neD {n : Nat} {H : Hp} {p D : Addr} (h : PotAt n H p) (d : H D = none) : p ≠ D := by
  obtain ⟨xs, q, r⟩ := h
  exact ne_of_none q d
theorem PotAt.lst {n : Nat} {H : Hp} {p : Addr} (h : PotAt n H p) : ∃ xs, H p = some (.lst xs) := by
  obtain ⟨xs, q, r⟩ := h
  exact ⟨xs, q⟩
theorem PotAt.neT {n : Nat} {H : Hp} {p t : Addr} {xs : List V} (h : PotAt n H p) (d : H t = some (.tup xs)) : t ≠ p := by
  obtain ⟨ys, q, r⟩ := h
  exact ne_of d q (by intro z; cases z)
theorem Cal.imp {P : Program} {w : World} {K : PySem.W.Frag} {mg : Str → Option Value} {base : Heap} {x : Str} {k : Nat} {ps : List Str} {sp sp' : Sp}
    (C : Cal P w K mg base x k ps sp) (h : ∀ vs H Q E, sp' vs H Q E → sp vs H Q E) : Cal P w K mg base x k ps sp' := by
  obtain ⟨f, fd, F, r⟩ := C
  exact ⟨f, fd, ⟨fun a b c d q => F.len _ _ _ _ (h _ _ _ _ q), fun A o s H args us vs Q E hr he hb hv hs => F.run A o s H args us vs Q E hr he hb hv (h _ _ _ _ hs)⟩, r⟩
theorem cal_no {P : Program} {w : World} {K : PySem.W.Frag} {mg : Str → Option Value} {base : Heap} {x : Str} {st : Stmt} {ps : List Str} (F : Fn K mg x st)
    (bd : ∀ (kV doc pm : Value) (an : Option Addr) (cdv ct : Value) (us : List Value), us.length = ps.length →
      bindArgs (PySem.W.fnOf x x (defArgs st) (defBody st) (defScope st) .none kV doc pm an cdv ct) ⟨us, []⟩ = pure (ps.zip us)) :
    Cal P w K mg base x 0 ps (fun _ _ _ _ => False) := by
  obtain ⟨f, fd, F, m⟩ := F
  obtain ⟨oc, od, kV, doc, pm, an, cdv, ct, osl, e, lk, c⟩ := id F.ex
  exact ⟨f, fd, ⟨fun _ _ _ _ h => h.elim, fun _ _ _ _ _ _ _ _ _ _ _ _ _ h => h.elim⟩, F.binds bd, m, F.kp, oc, od, osl, lk⟩
/-! ### texts of small letters -/
theorem az : ∀ j : Fin 26, (("abcdefghijklmnopqrstuvwxyz" : Str).cps.toList)[j.val]? = some (97 + j.val) := by decide +kernel
theorem az_at {d : Int} (h0 : 0 ≤ d) (h1 : d < 26) : atI ("abcdefghijklmnopqrstuvwxyz" : Str).cps.toList d = some (97 + d.toNat) := by
  have e : d = ((d.toNat : Nat) : Int) := by omega
  have q := az ⟨d.toNat, by omega⟩
  rw [e]
  exact atI_nat q
def sg (c : Nat) : Str := ⟨#[c]⟩
open TL in
theorem joinL_sg : ∀ cs : List Nat, joinL [] (cs.map fun c => [c]) = cs
  | [] => rfl
  | [c] => rfl
  | c :: d :: r => by
    show [c] ++ ([] ++ joinL [] ((d :: r).map fun c => [c])) = c :: d :: r
    rw [joinL_sg (d :: r)]
    rfl
open TL in
theorem tl_of (z : Str) : tl z = z.cps.toList := rfl
open TL in
theorem join_sg (cs : List Nat) : (Txt.join "" (cs.map sg)).cps.toList = cs := by
  rw [join_eq, ← tl_of, tl_join]
  have e : (cs.map sg).map tl = cs.map fun c => [c] := by rw [List.map_map]; rfl
  rw [e]
  exact joinL_sg cs
open TL in
theorem join_sg_len (cs : List Nat) : (Txt.join "" (cs.map sg)).length = cs.length := by
  have e := congrArg List.length (join_sg cs)
  rw [← e]
  show _ = (Txt.join "" (cs.map sg)).cps.toList.length
  simp [Str.length]
theorem sum_sg : ∀ cs : List Nat, ((cs.map sg).map (·.length)).sum = cs.length
  | [] => rfl
  | c :: r => by
    show 1 + ((r.map sg).map (·.length)).sum = r.length + 1
    rw [sum_sg r]; omega

end G0
namespace G0
open PySem PySem.Spec PyProof.Rows L2
theorem iteF' {c : Bool} {A B : Prop} (e : c = false) (h : B) : if c = true then A else B := by rw [e]; exact iteF h
theorem iteT' {c : Bool} {A B : Prop} (e : c = true) (h : A) : if c = true then A else B := by rw [e]; exact iteT h
/-! ### several lists may change -/
def ChgS (S : List Addr) (H H' : Hp) : Prop := ∀ b o, b ∉ S → H b = some o → H' b = some o
section
variable {S : List Addr} {p q : Addr} {H H' H0 H1 H2 : Hp} {o : HO}
theorem ChgS.refl : ChgS S H H := fun _ _ _ e => e
theorem ChgS.trans (a : ChgS S H H1) (b : ChgS S H1 H2) : ChgS S H H2 := fun c o n e => b c o n (a c o n e)
theorem Chg.s (h : Chg p H H') (m : p ∈ S) : ChgS S H H' := fun b o n e => h b o (fun z => n (z ▸ m)) e
theorem Same.s (h : Same H H') : ChgS S H H' := fun b o _ e => h b o e
theorem ChgS.mono {T : List Addr} (h : ChgS S H H') (m : ∀ b ∈ S, b ∈ T) : ChgS T H H' := fun b o n e => h b o (fun z => n (m b z)) e
theorem ChgS.new (a : ChgS S H H1) (n : H1 q = none) : ChgS S H (upd H1 q o) := fun b u m e => by
  rw [upd_ne (ne_of_none (a b u m e) n)]; exact a b u m e
theorem ChgS.mut (a : ChgS S H H1) (n : H q = none) : ChgS S H (upd H1 q o) := fun b u m e => by
  rw [upd_ne (ne_of_none e n)]; exact a b u m e
theorem ChgS.put (a : ChgS S H H1) (m : q ∈ S) : ChgS S H (upd H1 q o) := fun b u n e => by
  have nb : b ≠ q := fun z => n (by rw [z]; exact m)
  rw [upd_ne nb]; exact a b u n e
/-- what is new behind was new ahead -/
theorem ChgS.back (a : ChgS S H H1) (n : H1 q = none) (m : q ∉ S) : H q = none := by
  cases e : H q with
  | none => rfl
  | some u => rw [a q u m e] at n; cases n
theorem Chg.back (a : Chg p H H1) (n : H1 q = none) (m : q ≠ p) : H q = none := by
  cases e : H q with
  | none => rfl
  | some u => rw [a q u m e] at n; cases n
theorem PotAt.keepS {n : Nat} (h : PotAt n H p) (s : ChgS S H H') (m : p ∉ S) : PotAt n H' p := by
  obtain ⟨xs, e, h⟩ := h
  exact ⟨xs, s _ _ m e, h⟩
end
/-! ### lists of ints -/
section
variable {K : PySem.W.Frag} {H : Hp}
theorem dps_ints : ∀ ns : List Int, DpAll K H (ns.map V.int) (ns.map PyData.int)
  | [] => .nil
  | n :: r => .cons (.int n) (dps_ints r)
theorem dp_ints {a : Addr} {ns : List Int} (h : H a = some (.lst (ns.map V.int))) : Dp K H (.ref a) (.list (ns.map PyData.int)) := .lst (SqL.of h) (dps_ints ns)
theorem lay_ints : ∀ ns : List Int, PyData.canLayAll0 (ns.map PyData.int) = true
  | [] => by simp [PyData.canLayAll0]
  | n :: r => by simp [PyData.canLayAll0, PyData.canLay0, lay_ints r]
theorem deep_ints : ∀ ns : List Int, PyData.depthAll (ns.map PyData.int) = 0
  | [] => by simp [PyData.depthAll]
  | n :: r => by simp [PyData.depthAll, PyData.depth, deep_ints r]
theorem shaped_ints (ns : List Int) : SeqAt.shaped (.list (ns.map PyData.int)) = true := by
  show ((PyData.list (ns.map PyData.int)).canLay0 && decide ((PyData.list (ns.map PyData.int)).depth ≤ 64)) = true
  simp [PyData.canLay0, PyData.depth, lay_ints, deep_ints]
theorem flat_ints : ∀ ns : List Int, (ns.map V.int).all flatV = true
  | [] => rfl
  | n :: r => by simp [flatV, flat_ints r]
theorem inV_ints (v : Int) : ∀ ns : List Int, inV (.int v) (ns.map V.int) = decide (v ∈ ns)
  | [] => by simp [inV]
  | n :: r => by
    have ih := inV_ints v r
    unfold inV at ih ⊢
    rw [List.map_cons, List.any_cons, ih]
    show ((n == v) || decide (v ∈ r)) = decide (v ∈ n :: r)
    by_cases e : n = v
    · subst e; simp
    · have e' : ¬ v = n := fun z => e z.symm
      simp [e, e']
theorem at_ints {ns : List Int} {d : Int} (h0 : 0 ≤ d) (h1 : d < ns.length) : ∃ v, v ∈ ns ∧ atI (ns.map V.int) d = some (.int v) := by
  have hk : d.toNat < ns.length := by omega
  have ek : d = ((d.toNat : Nat) : Int) := by omega
  refine ⟨ns[d.toNat], List.getElem_mem hk, ?_⟩
  have q : atI (ns.map V.int) ((d.toNat : Nat) : Int) = some (.int ns[d.toNat]) := atI_nat (by rw [List.getElem?_map, List.getElem?_eq_getElem hk] <;> rfl)
  rw [← ek] at q
  exact q
end
/-! ### how long a repr is -/
mutual
def cost : PyData → Nat
  | .none => 4
  | .bool _ => 5
  | .int _ => 1921
  | .str x => 10 * x.length + 2
  | .list xs => 2 + costs xs
  | .tuple xs => 4 + costs xs
  | .dict _ => 0
def costs : List PyData → Nat
  | [] => 0
  | x :: xs => cost x + 2 + costs xs
end
theorem from_le : ∀ (ts : List Str) (k : Nat) (acc : Str), (textFrom k acc ts).length ≤ acc.length + (ts.map fun t => t.length + 2).sum
  | [], k, acc => by show acc.length ≤ _; simp
  | t :: r, k, acc => by
    have ih := from_le r (k + 1) (acc ++ (if k > 0 then ", " else "" : String) ++ t)
    show (textFrom (k + 1) _ r).length ≤ _
    rw [List.map_cons, List.sum_cons]
    rw [Str.length_append, Str.length_append] at ih
    have sep : (Str.ofString (if k > 0 then ", " else "")).length ≤ 2 := by split <;> decide
    omega
theorem join_le : ∀ ts : List Str, (Str.join ", " ts).length ≤ (ts.map fun t => t.length + 2).sum
  | [] => by decide
  | [x] => by show x.length ≤ _; simp
  | x :: y :: r => by
    have ih := join_le (y :: r)
    show (x ++ (", " : Str) ++ Str.join ", " (y :: r)).length ≤ _
    rw [Str.length_append, Str.length_append, List.map_cons, List.sum_cons]
    have : (", " : Str).length = 2 := by decide
    omega
theorem small_cps {x : Str} (h : PyData.strOk x = true) : ∀ c ∈ x.cps.toList, c < 16 ^ 8 := fun c hc => by
  unfold PyData.strOk at h
  rw [Array.all_eq_true_iff_forall_mem] at h
  have := of_decide_eq_true (h c (Array.mem_toList_iff.mp hc))
  omega
mutual
theorem shown_le : ∀ d : PyData, d.showable = true → d.canLay0 = true → d.shown.length ≤ cost d
  | .none, _, _ => by show (("None" : Str)).length ≤ 4; decide
  | .bool b, _, _ => by cases b <;> (simp only [PyData.shown, cost]; decide)
  | .int i, h, _ => by
    simp only [PyData.shown, cost]
    exact int_text_len_1921 (by simpa [PyData.showable] using h)
  | .str x, _, h => by
    simp only [PyData.shown, cost]
    exact StrLaws.reprText_len x (small_cps (by simpa [PyData.canLay0] using h))
  | .list xs, h, l => by
    have ih := shown_les xs (by simpa [PyData.showable] using h) (by simpa [PyData.canLay0] using l)
    simp only [PyData.shown, cost]
    show (textFrom 0 "[" (PyData.shownAll xs) ++ ("]" : Str)).length ≤ _
    have := from_le (PyData.shownAll xs) 0 "["
    have a : ("[" : Str).length = 1 := by decide
    have b : ("]" : Str).length = 1 := by decide
    rw [Str.length_append]
    omega
  | .tuple xs, h, l => by
    have ih := shown_les xs (by simpa [PyData.showable] using h) (by simpa [PyData.canLay0] using l)
    simp only [PyData.shown, cost]
    show (("(" : Str) ++ Str.join ", " (PyData.shownAll xs) ++ (Str.ofString (if (PyData.shownAll xs).length == 1 then ",)" else ")"))).length ≤ _
    have := join_le (PyData.shownAll xs)
    have a : ("(" : Str).length = 1 := by decide
    have b : (Str.ofString (if (PyData.shownAll xs).length == 1 then ",)" else ")")).length ≤ 2 := by split <;> decide
    rw [Str.length_append, Str.length_append]
    omega
  | .dict _, _, h => by simp [PyData.canLay0] at h
theorem shown_les : ∀ ds : List PyData, PyData.showableAll ds = true → PyData.canLayAll0 ds = true → ((PyData.shownAll ds).map fun t => t.length + 2).sum ≤ costs ds
  | [], _, _ => Nat.le_refl _
  | d :: ds, h, l => by
    simp only [PyData.showableAll, Bool.and_eq_true] at h
    simp only [PyData.canLayAll0, Bool.and_eq_true] at l
    have h1 := shown_le d h.1 l.1
    have h2 := shown_les ds h.2 l.2
    simp only [PyData.shownAll, costs, List.map_cons, List.sum_cons]
    omega
end

end G0
namespace G0
open PySem PySem.Spec PyProof.Rows L2
theorem n_me_stt : (("me" : Str) = "state") = False := eq_false (by decide +kernel)
theorem n_me_sits : (("me" : Str) = "sits") = False := eq_false (by decide +kernel)
theorem n_me_cnt : (("me" : Str) = "count") = False := eq_false (by decide +kernel)
theorem n_me_stp : (("me" : Str) = "stamp") = False := eq_false (by decide +kernel)
theorem n_me_sts : (("me" : Str) = "_seats") = False := eq_false (by decide +kernel)
theorem n_me_awt : (("me" : Str) = "_awaits") = False := eq_false (by decide +kernel)
theorem n_me_hld : (("me" : Str) = "_holds") = False := eq_false (by decide +kernel)
theorem n_me_tgn : (("me" : Str) = "_told_gone") = False := eq_false (by decide +kernel)
theorem n_stt_me : (("state" : Str) = "me") = False := eq_false (by decide +kernel)
theorem n_stt_sits : (("state" : Str) = "sits") = False := eq_false (by decide +kernel)
theorem n_stt_cnt : (("state" : Str) = "count") = False := eq_false (by decide +kernel)
theorem n_stt_stp : (("state" : Str) = "stamp") = False := eq_false (by decide +kernel)
theorem n_stt_sts : (("state" : Str) = "_seats") = False := eq_false (by decide +kernel)
theorem n_stt_awt : (("state" : Str) = "_awaits") = False := eq_false (by decide +kernel)
theorem n_stt_hld : (("state" : Str) = "_holds") = False := eq_false (by decide +kernel)
theorem n_stt_tgn : (("state" : Str) = "_told_gone") = False := eq_false (by decide +kernel)
theorem n_sits_me : (("sits" : Str) = "me") = False := eq_false (by decide +kernel)
theorem n_sits_stt : (("sits" : Str) = "state") = False := eq_false (by decide +kernel)
theorem n_sits_cnt : (("sits" : Str) = "count") = False := eq_false (by decide +kernel)
theorem n_sits_stp : (("sits" : Str) = "stamp") = False := eq_false (by decide +kernel)
theorem n_sits_sts : (("sits" : Str) = "_seats") = False := eq_false (by decide +kernel)
theorem n_sits_awt : (("sits" : Str) = "_awaits") = False := eq_false (by decide +kernel)
theorem n_sits_hld : (("sits" : Str) = "_holds") = False := eq_false (by decide +kernel)
theorem n_sits_tgn : (("sits" : Str) = "_told_gone") = False := eq_false (by decide +kernel)
theorem n_cnt_me : (("count" : Str) = "me") = False := eq_false (by decide +kernel)
theorem n_cnt_stt : (("count" : Str) = "state") = False := eq_false (by decide +kernel)
theorem n_cnt_sits : (("count" : Str) = "sits") = False := eq_false (by decide +kernel)
theorem n_cnt_stp : (("count" : Str) = "stamp") = False := eq_false (by decide +kernel)
theorem n_cnt_sts : (("count" : Str) = "_seats") = False := eq_false (by decide +kernel)
theorem n_cnt_awt : (("count" : Str) = "_awaits") = False := eq_false (by decide +kernel)
theorem n_cnt_hld : (("count" : Str) = "_holds") = False := eq_false (by decide +kernel)
theorem n_cnt_tgn : (("count" : Str) = "_told_gone") = False := eq_false (by decide +kernel)
theorem n_stp_me : (("stamp" : Str) = "me") = False := eq_false (by decide +kernel)
theorem n_stp_stt : (("stamp" : Str) = "state") = False := eq_false (by decide +kernel)
theorem n_stp_sits : (("stamp" : Str) = "sits") = False := eq_false (by decide +kernel)
theorem n_stp_cnt : (("stamp" : Str) = "count") = False := eq_false (by decide +kernel)
theorem n_stp_sts : (("stamp" : Str) = "_seats") = False := eq_false (by decide +kernel)
theorem n_stp_awt : (("stamp" : Str) = "_awaits") = False := eq_false (by decide +kernel)
theorem n_stp_hld : (("stamp" : Str) = "_holds") = False := eq_false (by decide +kernel)
theorem n_stp_tgn : (("stamp" : Str) = "_told_gone") = False := eq_false (by decide +kernel)
theorem n_sts_me : (("_seats" : Str) = "me") = False := eq_false (by decide +kernel)
theorem n_sts_stt : (("_seats" : Str) = "state") = False := eq_false (by decide +kernel)
theorem n_sts_sits : (("_seats" : Str) = "sits") = False := eq_false (by decide +kernel)
theorem n_sts_cnt : (("_seats" : Str) = "count") = False := eq_false (by decide +kernel)
theorem n_sts_stp : (("_seats" : Str) = "stamp") = False := eq_false (by decide +kernel)
theorem n_sts_awt : (("_seats" : Str) = "_awaits") = False := eq_false (by decide +kernel)
theorem n_sts_hld : (("_seats" : Str) = "_holds") = False := eq_false (by decide +kernel)
theorem n_sts_tgn : (("_seats" : Str) = "_told_gone") = False := eq_false (by decide +kernel)
theorem n_awt_me : (("_awaits" : Str) = "me") = False := eq_false (by decide +kernel)
theorem n_awt_stt : (("_awaits" : Str) = "state") = False := eq_false (by decide +kernel)
theorem n_awt_sits : (("_awaits" : Str) = "sits") = False := eq_false (by decide +kernel)
theorem n_awt_cnt : (("_awaits" : Str) = "count") = False := eq_false (by decide +kernel)
theorem n_awt_stp : (("_awaits" : Str) = "stamp") = False := eq_false (by decide +kernel)
theorem n_awt_sts : (("_awaits" : Str) = "_seats") = False := eq_false (by decide +kernel)
theorem n_awt_hld : (("_awaits" : Str) = "_holds") = False := eq_false (by decide +kernel)
theorem n_awt_tgn : (("_awaits" : Str) = "_told_gone") = False := eq_false (by decide +kernel)
theorem n_hld_me : (("_holds" : Str) = "me") = False := eq_false (by decide +kernel)
theorem n_hld_stt : (("_holds" : Str) = "state") = False := eq_false (by decide +kernel)
theorem n_hld_sits : (("_holds" : Str) = "sits") = False := eq_false (by decide +kernel)
theorem n_hld_cnt : (("_holds" : Str) = "count") = False := eq_false (by decide +kernel)
theorem n_hld_stp : (("_holds" : Str) = "stamp") = False := eq_false (by decide +kernel)
theorem n_hld_sts : (("_holds" : Str) = "_seats") = False := eq_false (by decide +kernel)
theorem n_hld_awt : (("_holds" : Str) = "_awaits") = False := eq_false (by decide +kernel)
theorem n_hld_tgn : (("_holds" : Str) = "_told_gone") = False := eq_false (by decide +kernel)
theorem n_tgn_me : (("_told_gone" : Str) = "me") = False := eq_false (by decide +kernel)
theorem n_tgn_stt : (("_told_gone" : Str) = "state") = False := eq_false (by decide +kernel)
theorem n_tgn_sits : (("_told_gone" : Str) = "sits") = False := eq_false (by decide +kernel)
theorem n_tgn_cnt : (("_told_gone" : Str) = "count") = False := eq_false (by decide +kernel)
theorem n_tgn_stp : (("_told_gone" : Str) = "stamp") = False := eq_false (by decide +kernel)
theorem n_tgn_sts : (("_told_gone" : Str) = "_seats") = False := eq_false (by decide +kernel)
theorem n_tgn_awt : (("_told_gone" : Str) = "_awaits") = False := eq_false (by decide +kernel)
theorem n_tgn_hld : (("_told_gone" : Str) = "_holds") = False := eq_false (by decide +kernel)
def stF (me : Int) (stt : Str) (sits : Bool) (cnt : Int) (stp : V) (sts : Int) (awt : Addr) (hld : Addr) (tgn : Addr) : List (Str × V) := [("me", .int me), ("state", .str stt), ("sits", .bl sits), ("count", .int cnt), ("stamp", stp), ("_seats", .int sts), ("_awaits", .ref awt), ("_holds", .ref hld), ("_told_gone", .ref tgn)]
theorem stF_me (me : Int) (stt : Str) (sits : Bool) (cnt : Int) (stp : V) (sts : Int) (awt : Addr) (hld : Addr) (tgn : Addr) : (stF me stt sits cnt stp sts awt hld tgn).lookup ("me" : Str) = some (.int me) := by unfold stF; rw [List.lookup_cons_self]
theorem stF_put_me (me : Int) (stt : Str) (sits : Bool) (cnt : Int) (stp : V) (sts : Int) (awt : Addr) (hld : Addr) (tgn : Addr) (me' : Int) : putF "me" (.int me') (stF me stt sits cnt stp sts awt hld tgn) = stF me' stt sits cnt stp sts awt hld tgn := by
  simp only [stF, putF, if_false, if_true]
theorem stF_stt (me : Int) (stt : Str) (sits : Bool) (cnt : Int) (stp : V) (sts : Int) (awt : Addr) (hld : Addr) (tgn : Addr) : (stF me stt sits cnt stp sts awt hld tgn).lookup ("state" : Str) = some (.str stt) := by unfold stF; rw [List.lookup_cons, beq_false_of_ne (fun z => by rw [n_stt_me] at z; exact z)]; simp only []; rw [List.lookup_cons_self]
theorem stF_put_stt (me : Int) (stt : Str) (sits : Bool) (cnt : Int) (stp : V) (sts : Int) (awt : Addr) (hld : Addr) (tgn : Addr) (stt' : Str) : putF "state" (.str stt') (stF me stt sits cnt stp sts awt hld tgn) = stF me stt' sits cnt stp sts awt hld tgn := by
  simp only [stF, putF, n_me_stt, if_false, if_true]
theorem stF_sits (me : Int) (stt : Str) (sits : Bool) (cnt : Int) (stp : V) (sts : Int) (awt : Addr) (hld : Addr) (tgn : Addr) : (stF me stt sits cnt stp sts awt hld tgn).lookup ("sits" : Str) = some (.bl sits) := by unfold stF; rw [List.lookup_cons, beq_false_of_ne (fun z => by rw [n_sits_me] at z; exact z)]; simp only []; rw [List.lookup_cons, beq_false_of_ne (fun z => by rw [n_sits_stt] at z; exact z)]; simp only []; rw [List.lookup_cons_self]
theorem stF_put_sits (me : Int) (stt : Str) (sits : Bool) (cnt : Int) (stp : V) (sts : Int) (awt : Addr) (hld : Addr) (tgn : Addr) (sits' : Bool) : putF "sits" (.bl sits') (stF me stt sits cnt stp sts awt hld tgn) = stF me stt sits' cnt stp sts awt hld tgn := by
  simp only [stF, putF, n_me_sits, n_stt_sits, if_false, if_true]
theorem stF_cnt (me : Int) (stt : Str) (sits : Bool) (cnt : Int) (stp : V) (sts : Int) (awt : Addr) (hld : Addr) (tgn : Addr) : (stF me stt sits cnt stp sts awt hld tgn).lookup ("count" : Str) = some (.int cnt) := by unfold stF; rw [List.lookup_cons, beq_false_of_ne (fun z => by rw [n_cnt_me] at z; exact z)]; simp only []; rw [List.lookup_cons, beq_false_of_ne (fun z => by rw [n_cnt_stt] at z; exact z)]; simp only []; rw [List.lookup_cons, beq_false_of_ne (fun z => by rw [n_cnt_sits] at z; exact z)]; simp only []; rw [List.lookup_cons_self]
theorem stF_put_cnt (me : Int) (stt : Str) (sits : Bool) (cnt : Int) (stp : V) (sts : Int) (awt : Addr) (hld : Addr) (tgn : Addr) (cnt' : Int) : putF "count" (.int cnt') (stF me stt sits cnt stp sts awt hld tgn) = stF me stt sits cnt' stp sts awt hld tgn := by
  simp only [stF, putF, n_me_cnt, n_stt_cnt, n_sits_cnt, if_false, if_true]
theorem stF_stp (me : Int) (stt : Str) (sits : Bool) (cnt : Int) (stp : V) (sts : Int) (awt : Addr) (hld : Addr) (tgn : Addr) : (stF me stt sits cnt stp sts awt hld tgn).lookup ("stamp" : Str) = some (stp) := by unfold stF; rw [List.lookup_cons, beq_false_of_ne (fun z => by rw [n_stp_me] at z; exact z)]; simp only []; rw [List.lookup_cons, beq_false_of_ne (fun z => by rw [n_stp_stt] at z; exact z)]; simp only []; rw [List.lookup_cons, beq_false_of_ne (fun z => by rw [n_stp_sits] at z; exact z)]; simp only []; rw [List.lookup_cons, beq_false_of_ne (fun z => by rw [n_stp_cnt] at z; exact z)]; simp only []; rw [List.lookup_cons_self]
theorem stF_put_stp (me : Int) (stt : Str) (sits : Bool) (cnt : Int) (stp : V) (sts : Int) (awt : Addr) (hld : Addr) (tgn : Addr) (stp' : V) : putF "stamp" (stp') (stF me stt sits cnt stp sts awt hld tgn) = stF me stt sits cnt stp' sts awt hld tgn := by
  simp only [stF, putF, n_me_stp, n_stt_stp, n_sits_stp, n_cnt_stp, if_false, if_true]
theorem stF_sts (me : Int) (stt : Str) (sits : Bool) (cnt : Int) (stp : V) (sts : Int) (awt : Addr) (hld : Addr) (tgn : Addr) : (stF me stt sits cnt stp sts awt hld tgn).lookup ("_seats" : Str) = some (.int sts) := by unfold stF; rw [List.lookup_cons, beq_false_of_ne (fun z => by rw [n_sts_me] at z; exact z)]; simp only []; rw [List.lookup_cons, beq_false_of_ne (fun z => by rw [n_sts_stt] at z; exact z)]; simp only []; rw [List.lookup_cons, beq_false_of_ne (fun z => by rw [n_sts_sits] at z; exact z)]; simp only []; rw [List.lookup_cons, beq_false_of_ne (fun z => by rw [n_sts_cnt] at z; exact z)]; simp only []; rw [List.lookup_cons, beq_false_of_ne (fun z => by rw [n_sts_stp] at z; exact z)]; simp only []; rw [List.lookup_cons_self]
theorem stF_put_sts (me : Int) (stt : Str) (sits : Bool) (cnt : Int) (stp : V) (sts : Int) (awt : Addr) (hld : Addr) (tgn : Addr) (sts' : Int) : putF "_seats" (.int sts') (stF me stt sits cnt stp sts awt hld tgn) = stF me stt sits cnt stp sts' awt hld tgn := by
  simp only [stF, putF, n_me_sts, n_stt_sts, n_sits_sts, n_cnt_sts, n_stp_sts, if_false, if_true]
theorem stF_awt (me : Int) (stt : Str) (sits : Bool) (cnt : Int) (stp : V) (sts : Int) (awt : Addr) (hld : Addr) (tgn : Addr) : (stF me stt sits cnt stp sts awt hld tgn).lookup ("_awaits" : Str) = some (.ref awt) := by unfold stF; rw [List.lookup_cons, beq_false_of_ne (fun z => by rw [n_awt_me] at z; exact z)]; simp only []; rw [List.lookup_cons, beq_false_of_ne (fun z => by rw [n_awt_stt] at z; exact z)]; simp only []; rw [List.lookup_cons, beq_false_of_ne (fun z => by rw [n_awt_sits] at z; exact z)]; simp only []; rw [List.lookup_cons, beq_false_of_ne (fun z => by rw [n_awt_cnt] at z; exact z)]; simp only []; rw [List.lookup_cons, beq_false_of_ne (fun z => by rw [n_awt_stp] at z; exact z)]; simp only []; rw [List.lookup_cons, beq_false_of_ne (fun z => by rw [n_awt_sts] at z; exact z)]; simp only []; rw [List.lookup_cons_self]
theorem stF_put_awt (me : Int) (stt : Str) (sits : Bool) (cnt : Int) (stp : V) (sts : Int) (awt : Addr) (hld : Addr) (tgn : Addr) (awt' : Addr) : putF "_awaits" (.ref awt') (stF me stt sits cnt stp sts awt hld tgn) = stF me stt sits cnt stp sts awt' hld tgn := by
  simp only [stF, putF, n_me_awt, n_stt_awt, n_sits_awt, n_cnt_awt, n_stp_awt, n_sts_awt, if_false, if_true]
theorem stF_hld (me : Int) (stt : Str) (sits : Bool) (cnt : Int) (stp : V) (sts : Int) (awt : Addr) (hld : Addr) (tgn : Addr) : (stF me stt sits cnt stp sts awt hld tgn).lookup ("_holds" : Str) = some (.ref hld) := by unfold stF; rw [List.lookup_cons, beq_false_of_ne (fun z => by rw [n_hld_me] at z; exact z)]; simp only []; rw [List.lookup_cons, beq_false_of_ne (fun z => by rw [n_hld_stt] at z; exact z)]; simp only []; rw [List.lookup_cons, beq_false_of_ne (fun z => by rw [n_hld_sits] at z; exact z)]; simp only []; rw [List.lookup_cons, beq_false_of_ne (fun z => by rw [n_hld_cnt] at z; exact z)]; simp only []; rw [List.lookup_cons, beq_false_of_ne (fun z => by rw [n_hld_stp] at z; exact z)]; simp only []; rw [List.lookup_cons, beq_false_of_ne (fun z => by rw [n_hld_sts] at z; exact z)]; simp only []; rw [List.lookup_cons, beq_false_of_ne (fun z => by rw [n_hld_awt] at z; exact z)]; simp only []; rw [List.lookup_cons_self]
theorem stF_put_hld (me : Int) (stt : Str) (sits : Bool) (cnt : Int) (stp : V) (sts : Int) (awt : Addr) (hld : Addr) (tgn : Addr) (hld' : Addr) : putF "_holds" (.ref hld') (stF me stt sits cnt stp sts awt hld tgn) = stF me stt sits cnt stp sts awt hld' tgn := by
  simp only [stF, putF, n_me_hld, n_stt_hld, n_sits_hld, n_cnt_hld, n_stp_hld, n_sts_hld, n_awt_hld, if_false, if_true]
theorem stF_tgn (me : Int) (stt : Str) (sits : Bool) (cnt : Int) (stp : V) (sts : Int) (awt : Addr) (hld : Addr) (tgn : Addr) : (stF me stt sits cnt stp sts awt hld tgn).lookup ("_told_gone" : Str) = some (.ref tgn) := by unfold stF; rw [List.lookup_cons, beq_false_of_ne (fun z => by rw [n_tgn_me] at z; exact z)]; simp only []; rw [List.lookup_cons, beq_false_of_ne (fun z => by rw [n_tgn_stt] at z; exact z)]; simp only []; rw [List.lookup_cons, beq_false_of_ne (fun z => by rw [n_tgn_sits] at z; exact z)]; simp only []; rw [List.lookup_cons, beq_false_of_ne (fun z => by rw [n_tgn_cnt] at z; exact z)]; simp only []; rw [List.lookup_cons, beq_false_of_ne (fun z => by rw [n_tgn_stp] at z; exact z)]; simp only []; rw [List.lookup_cons, beq_false_of_ne (fun z => by rw [n_tgn_sts] at z; exact z)]; simp only []; rw [List.lookup_cons, beq_false_of_ne (fun z => by rw [n_tgn_awt] at z; exact z)]; simp only []; rw [List.lookup_cons, beq_false_of_ne (fun z => by rw [n_tgn_hld] at z; exact z)]; simp only []; rw [List.lookup_cons_self]
theorem stF_put_tgn (me : Int) (stt : Str) (sits : Bool) (cnt : Int) (stp : V) (sts : Int) (awt : Addr) (hld : Addr) (tgn : Addr) (tgn' : Addr) : putF "_told_gone" (.ref tgn') (stF me stt sits cnt stp sts awt hld tgn) = stF me stt sits cnt stp sts awt hld tgn' := by
  simp only [stF, putF, n_me_tgn, n_stt_tgn, n_sits_tgn, n_cnt_tgn, n_stp_tgn, n_sts_tgn, n_awt_tgn, n_hld_tgn, if_false, if_true]
theorem stF_no (me : Int) (stt : Str) (sits : Bool) (cnt : Int) (stp : V) (sts : Int) (awt : Addr) (hld : Addr) (tgn : Addr) {x : Str} (h0 : x ≠ ("me" : Str)) (h1 : x ≠ ("state" : Str)) (h2 : x ≠ ("sits" : Str)) (h3 : x ≠ ("count" : Str)) (h4 : x ≠ ("stamp" : Str)) (h5 : x ≠ ("_seats" : Str)) (h6 : x ≠ ("_awaits" : Str)) (h7 : x ≠ ("_holds" : Str)) (h8 : x ≠ ("_told_gone" : Str)) : (stF me stt sits cnt stp sts awt hld tgn).lookup x = none := by
  unfold stF
  rw [List.lookup_cons, beq_false_of_ne h0]; simp only []
  rw [List.lookup_cons, beq_false_of_ne h1]; simp only []
  rw [List.lookup_cons, beq_false_of_ne h2]; simp only []
  rw [List.lookup_cons, beq_false_of_ne h3]; simp only []
  rw [List.lookup_cons, beq_false_of_ne h4]; simp only []
  rw [List.lookup_cons, beq_false_of_ne h5]; simp only []
  rw [List.lookup_cons, beq_false_of_ne h6]; simp only []
  rw [List.lookup_cons, beq_false_of_ne h7]; simp only []
  rw [List.lookup_cons, beq_false_of_ne h8]; rfl
end G0
namespace G0
open PySem PySem.Spec PyProof.Rows L2
def top (i : Nat) : Stmt := PySem.Challenge.pw_soleseat_k31_whole_stampers_by_a_model.main.body.getD i (.Pass ⟨0, 0, 0, 0⟩)
abbrev s_NoSeat__init : Stmt := inClass (top 2) 0
abbrev s_is_below : Stmt := top 4
abbrev s_look_at_many : Stmt := top 7
abbrev s_Seat__init : Stmt := inClass (top 9) 0
abbrev s_Seat_ask : Stmt := inClass (top 9) 1
abbrev s_Seat_leave : Stmt := inClass (top 9) 2
abbrev s_Seat_hear : Stmt := inClass (top 9) 3
abbrev s_Seat_gone : Stmt := inClass (top 9) 4
abbrev s_BadCounts__init : Stmt := inClass (top 11) 0
abbrev s_Stamper__init : Stmt := inClass (top 14) 0
abbrev s_Stamper_ask : Stmt := inClass (top 14) 1
abbrev s_Stamper_leave : Stmt := inClass (top 14) 2
abbrev s_Stamper_hear : Stmt := inClass (top 14) 3
abbrev s_Stamper_gone : Stmt := inClass (top 14) 4
abbrev s_Stamper_awaits : Stmt := inClass (top 14) 5
abbrev s_Stamper_holds : Stmt := inClass (top 14) 6
abbrev s_Stamper_told_gone : Stmt := inClass (top 14) 7
abbrev s_Stamper_hear_ask : Stmt := inClass (top 14) 8
abbrev s_Stamper_yes : Stmt := inClass (top 14) 9
abbrev s_Stamper_await_no_more : Stmt := inClass (top 14) 10
abbrev s_Stamper_come_in_where_none_is_awaited : Stmt := inClass (top 14) 11
abbrev s_stampers : Stmt := top 17
abbrev s_counts_fault : Stmt := top 18
abbrev s_law_pot : Stmt := top 20
abbrev s_law_draw : Stmt := top 21
abbrev s_law_same : Stmt := top 22
abbrev s_law_seats : Stmt := top 23
abbrev s_law_firsts : Stmt := top 24
abbrev s_law_model : Stmt := top 25
abbrev s_law_comes_in : Stmt := top 26
abbrev s_law_asks : Stmt := top 27
abbrev s_law_leaves : Stmt := top 28
abbrev s_law_hears : Stmt := top 29
abbrev s_law_put : Stmt := top 30
abbrev s_law_taken : Stmt := top 31
abbrev s_law_falls : Stmt := top 32
abbrev s_law_deed : Stmt := top 33
abbrev s_law_stands : Stmt := top 34
abbrev s_law_kept : Stmt := top 35
abbrev s_law_done : Stmt := top 36
abbrev s_law : Stmt := top 37
section
structure BlS (mg : Str → Option Value) : Prop where
  len : mg "len" = none
  range : mg "range" = none
  list : mg "list" = none
  sorted : mg "sorted" = none
  max : mg "max" = none
variable {P : Program} {w : World} {K : PySem.W.Frag} {mg : Str → Option Value} {base : Heap} {C f : Addr} {fd : FuncData}
theorem u66 {k : Nat} {A : Around} (hr : Room k A) : A.units + 66 < cLine := by have := hr.un; omega
theorem u64 {k : Nat} {A : Around} (hr : Room k A) : A.units + 64 < cLine := by have := hr.un; omega
theorem u0 {k : Nat} {A : Around} (hr : Room k A) : A.units < cLine := by have := hr.un; omega
def Me (P : Program) (w : World) (K : PySem.W.Frag) (mg : Str → Option Value) (base : Heap) (C : Addr) (x : Str) (k : Nat) (ps : List Str) (sp : Sp) : Prop :=
  ∃ f fd, FnOk P w K mg base CX0 k f fd ps sp ∧ Binds K fd ps [] ∧ Meth K C x f
structure StT (K : PySem.W.Frag) (C : Addr) : Prop where
  cl : Cls K C
  me : NoAttr K C "me"
  state : NoAttr K C "state"
  count : NoAttr K C "count"
  stamp : NoAttr K C "stamp"
  seats : NoAttr K C "_seats"
  awaits : NoAttr K C "_awaits"
  holds : NoAttr K C "_holds"
  gone : NoAttr K C "_told_gone"
/-- a stamper: its fields, its three lists -/
structure Stm (H : Hp) (C p dx : Addr) (me : Int) (st : Str) (si : Bool) (cnt : Int) (stp : V) (n : Int) (aw hl tg : Addr) (ws hs ts : List Int) : Prop where
  hp : H p = some (.ins C dx (stF me st si cnt stp n aw hl tg))
  ha : H aw = some (.lst (ws.map V.int))
  hh : H hl = some (.lst (hs.map V.int))
  ht : H tg = some (.lst (ts.map V.int))
  nah : aw ≠ hl
  nat : aw ≠ tg
  nht : hl ≠ tg
theorem Stm.same {H H' : Hp} {p dx : Addr} {me : Int} {st : Str} {si : Bool} {cnt : Int} {stp : V} {n : Int} {aw hl tg : Addr} {ws hs ts : List Int} (S : Stm H C p dx me st si cnt stp n aw hl tg ws hs ts) (s : Same H H') : Stm H' C p dx me st si cnt stp n aw hl tg ws hs ts :=
  ⟨s _ _ S.hp, s _ _ S.ha, s _ _ S.hh, s _ _ S.ht, S.nah, S.nat, S.nht⟩
/-! ### awaits, holds -/
def spTells (C : Addr) (which : Nat) : Sp := fun vs H Q _ => ∃ (p dx : Addr) (me : Int) (st : Str) (si : Bool) (cnt : Int) (stp : V) (n : Int) (aw hl tg : Addr) (ws hs ts : List Int), vs = [.ref p] ∧ Stm H C p dx me st si cnt stp n aw hl tg ws hs ts ∧
  ∀ l, H l = none → Q (.ref l) (upd H l (.lst ((if which = 0 then ws else hs).map V.int)))
theorem sc_Stamper_awaits : FnScope ["self"] ["self"] (defScope s_Stamper_awaits) :=
  ⟨rfl, rfl, rfl, by decide +kernel, rfl, by decide +kernel, by decide +kernel⟩
theorem ok_awaits (F : Fun K "awaits" "Stamper.awaits" s_Stamper_awaits f fd) (T : BlS mg) (S : StT K C) : FnOk P w K mg base CX0 1 f fd ["self"] (spTells C 0) := by
  refine F.ok sc_Stamper_awaits (fun vs H Q E h => ?_) (fun cdv A outer s H vs Q E hr h => ?_)
  · obtain ⟨p, _, _, _, _, _, _, _, _, _, _, _, _, _, rfl, _⟩ := h
    rfl
  obtain ⟨p, dx, me, st, si, cnt, stp, n, aw, hl, tg, ws, hs, ts, rfl, M, q⟩ := h
  refine ⟨_, (pss_one (ps_ret (pe_callTy call_list_of (by rfl) T.list (by decide +kernel) (pa_cons (pe_fld (pv 0) (by rfl)) pa_nil)))), ?_⟩
  exact ⟨_, rfl, p, C, dx, _, _, rfl, M.hp, S.cl, S.awaits, stF_awt _ _ _ _ _ _ _ _ _, aw, _, rfl, .inl (SqL.of M.ha), q⟩
theorem sc_Stamper_holds : FnScope ["self"] ["self"] (defScope s_Stamper_holds) :=
  ⟨rfl, rfl, rfl, by decide +kernel, rfl, by decide +kernel, by decide +kernel⟩
theorem ok_holds (F : Fun K "holds" "Stamper.holds" s_Stamper_holds f fd) (T : BlS mg) (S : StT K C) : FnOk P w K mg base CX0 1 f fd ["self"] (spTells C 1) := by
  refine F.ok sc_Stamper_holds (fun vs H Q E h => ?_) (fun cdv A outer s H vs Q E hr h => ?_)
  · obtain ⟨p, _, _, _, _, _, _, _, _, _, _, _, _, _, rfl, _⟩ := h
    rfl
  obtain ⟨p, dx, me, st, si, cnt, stp, n, aw, hl, tg, ws, hs, ts, rfl, M, q⟩ := h
  refine ⟨_, (pss_one (ps_ret (pe_callTy call_list_of (by rfl) T.list (by decide +kernel) (pa_cons (pe_fld (pv 0) (by rfl)) pa_nil)))), ?_⟩
  exact ⟨_, rfl, p, C, dx, _, _, rfl, M.hp, S.cl, S.holds, stF_hld _ _ _ _ _ _ _ _ _, hl, _, rfl, .inl (SqL.of M.hh), q⟩
/-! ### told_gone -/
def spToldGone (C : Addr) : Sp := fun vs H Q _ => ∃ (p dx : Addr) (me : Int) (st : Str) (si : Bool) (cnt : Int) (stp : V) (n : Int) (aw hl tg : Addr) (ws hs ts : List Int), vs = [.ref p] ∧ Stm H C p dx me st si cnt stp n aw hl tg ws hs ts ∧ ts.length < 64 ∧
  ∀ (us : List Int) l, us.Perm ts → us.Pairwise (· ≤ ·) → H l = none → Q (.ref l) (upd H l (.lst (us.map V.int)))
theorem sc_Stamper_told_gone : FnScope ["self"] ["self"] (defScope s_Stamper_told_gone) :=
  ⟨rfl, rfl, rfl, by decide +kernel, rfl, by decide +kernel, by decide +kernel⟩
theorem ok_toldgone (F : Fun K "told_gone" "Stamper.told_gone" s_Stamper_told_gone f fd) (T : BlS mg) (S : StT K C) : FnOk P w K mg base CX0 1 f fd ["self"] (spToldGone C) := by
  refine F.ok sc_Stamper_told_gone (fun vs H Q E h => ?_) (fun cdv A outer s H vs Q E hr h => ?_)
  · obtain ⟨p, _, _, _, _, _, _, _, _, _, _, _, _, _, rfl, _⟩ := h
    rfl
  obtain ⟨p, dx, me, st, si, cnt, stp, n, aw, hl, tg, ws, hs, ts, rfl, M, len, q⟩ := h
  refine ⟨_, (pss_one (ps_ret (pe_callB cr_sorted (by rfl) T.sorted (by decide +kernel) (pa_cons (pe_fld (pv 0) (by rfl)) pa_nil)))), ?_⟩
  exact ⟨_, rfl, p, C, dx, _, _, rfl, M.hp, S.cl, S.gone, stF_tgn _ _ _ _ _ _ _ _ _, tg, ts, rfl, SqL.of M.ht, len, fun us l p1 p2 hl => q us l p1 p2 hl⟩
/-! ### _yes -/
def spYes (C : Addr) : Sp := fun vs H Q _ => ∃ (p dx : Addr) (me : Int) (st : Str) (si : Bool) (cnt : Int) (stp : V) (n : Int) (aw hl tg : Addr) (k : Int), vs = [.ref p, .int k] ∧ H p = some (.ins C dx (stF me st si cnt stp n aw hl tg)) ∧
  ∀ t1 t H', H t1 = none → H t = none → Same H H' → H' t1 = some (.tup [.str "yes", .int cnt]) → H' t = some (.tup [.int k, .ref t1]) → Q (.ref t) H'
theorem sc_Stamper_yes : FnScope ["self", "seat"] ["self", "seat"] (defScope s_Stamper_yes) :=
  ⟨rfl, rfl, rfl, by decide +kernel, rfl, by decide +kernel, by decide +kernel⟩
theorem ok_yes (F : Fun K "_yes" "Stamper._yes" s_Stamper_yes f fd) (S : StT K C) : FnOk P w K mg base CX0 1 f fd ["self", "seat"] (spYes C) := by
  refine F.ok sc_Stamper_yes (fun vs H Q E h => ?_) (fun cdv A outer s H vs Q E hr h => ?_)
  · obtain ⟨p, _, _, _, _, _, _, _, _, _, _, _, rfl, _⟩ := h
    rfl
  obtain ⟨p, dx, me, st, si, cnt, stp, n, aw, hl, tg, k, rfl, hp, q⟩ := h
  refine ⟨_, (pss_one (ps_ret (pe_tup (pa_cons (pv 1) (pa_cons (pe_tup (pa_cons pe_str (pa_cons (pe_fld (pv 0) (by rfl)) pa_nil))) pa_nil))))), ?_⟩
  refine ⟨_, rfl, _, rfl, p, C, dx, _, _, rfl, hp, S.cl, S.count, stF_cnt _ _ _ _ _ _ _ _ _, by show 2 ≤ sizeLine; decide, ?_⟩
  intro t1 ht1
  refine ⟨by show 2 ≤ sizeLine; decide, ?_⟩
  intro t ht
  have n0 : H t = none := by
    cases z : H t with
    | none => rfl
    | some o => rw [same_upd ht1 _ _ z] at ht; cases ht
  exact q t1 t _ ht1 n0 ((same_upd ht1).trans (same_upd ht)) (same_upd ht _ _ upd_same) upd_same
/-! ### coming in -/
def inB (st : Str) (ws : List Int) : Bool := decide (st = "asking") && decide (ws = [])
def spCome (C : Addr) : Sp := fun vs H Q _ => ∃ (p dx : Addr) (me : Int) (st : Str) (si : Bool) (cnt : Int) (stp : V) (n : Int) (aw hl tg : Addr) (ws : List Int), vs = [.ref p] ∧ H p = some (.ins C dx (stF me st si cnt stp n aw hl tg)) ∧ H aw = some (.lst (ws.map V.int)) ∧
  (if inB st ws = true then Q .non (upd H p (.ins C dx (stF me "in" si cnt stp n aw hl tg))) else Q .non H)
theorem sc_Stamper_come_in_where_none_is_awaited : FnScope ["self"] ["self"] (defScope s_Stamper_come_in_where_none_is_awaited) :=
  ⟨rfl, rfl, rfl, by decide +kernel, rfl, by decide +kernel, by decide +kernel⟩
theorem ok_come (F : Fun K "_come_in_where_none_is_awaited" "Stamper._come_in_where_none_is_awaited" s_Stamper_come_in_where_none_is_awaited f fd) (T : BlS mg) (S : StT K C) : FnOk P w K mg base CX0 1 f fd ["self"] (spCome C) := by
  refine F.ok sc_Stamper_come_in_where_none_is_awaited (fun vs H Q E h => ?_) (fun cdv A outer s H vs Q E hr h => ?_)
  · obtain ⟨p, _, _, _, _, _, _, _, _, _, _, _, rfl, _⟩ := h
    rfl
  obtain ⟨p, dx, me, st, si, cnt, stp, n, aw, hl, tg, ws, rfl, hp, ha, q⟩ := h
  refine ⟨_, (pss_one (ps_if (PW.pt (pw_and (pt_cmpR op_eq (pe_fld (pv 0) (by rfl)) pe_str (nomark _)) (pw_and1 (pt_cmpR op_eq (pe_callB call_len_seq (by rfl) T.len (by decide +kernel) (pa_cons (pe_fld (pv 0) (by rfl)) pa_nil)) pe_int (nomark _)))))
    (pss_one (ps_fld (pv 0) pe_str rfl))
    pss_nil)), ?_⟩
  refine ⟨_, rfl, p, C, dx, _, _, rfl, hp, S.cl, S.state, stF_stt _ _ _ _ _ _ _ _ _, rfl, _, rfl, ?_⟩
  by_cases c1 : st = "asking"
  · refine iteT' (by simp [c1]) ?_
    refine ⟨_, rfl, p, C, dx, _, _, rfl, hp, S.cl, S.awaits, stF_awt _ _ _ _ _ _ _ _ _, aw, _, rfl, .inl (SqL.of ha), rfl, _, rfl, ?_⟩
    rw [List.length_map]
    by_cases c2 : ws = []
    · refine iteT' (by simp [c2]) ?_
      refine ⟨_, rfl, p, C, dx, _, rfl, hp, S.cl, S.state, (by show 9 < 1000; decide), ?_⟩
      rw [stF_put_stt]
      rw [show inB st ws = true from by simp [inB, c1, c2]] at q
      exact q
    · refine iteF' (by cases ws with | nil => exact absurd rfl c2 | cons _ _ => simp; omega) ?_
      rw [show inB st ws = false from by simp [inB, c2]] at q
      exact q
  · refine iteF' (by simp [c1]) ?_
    rw [show inB st ws = false from by simp [inB, c1]] at q
    exact q
/-! ### _await_no_more -/
def stB (st : Str) (ws : List Int) : Str := if inB st ws = true then "in" else st
theorem filt_snoc {α : Type} {M : List α} {i : Nat} {k : α} (e : M[i]? = some k) (g : α → Bool) : (M.take (i + 1)).filter g = (M.take i).filter g ++ (if g k = true then [k] else []) := by
  rw [List.take_succ, e, List.filter_append]
  cases h : g k <;> simp [h]
theorem ints_at {ns : List Int} {i : Nat} {x : V} (h : (ns.map V.int)[i]? = some x) : ∃ k, ns[i]? = some k ∧ x = V.int k := by
  rw [List.getElem?_map] at h
  cases e : ns[i]? with
  | none => rw [e] at h; cases h
  | some k => rw [e] at h; exact ⟨k, rfl, (Option.some.inj h).symm⟩
theorem dec_ii {a b : Int} : decide (V.int a = V.int b) = decide (a = b) := decide_eq_decide.mpr ⟨fun h => by cases h; rfl, fun h => by rw [h]⟩
def spNoMore (C : Addr) : Sp := fun vs H Q _ => ∃ (p dx : Addr) (me : Int) (st : Str) (si : Bool) (cnt : Int) (stp : V) (n : Int) (aw hl tg : Addr) (ws : List Int) (k : Int), vs = [.ref p, .int k] ∧ H p = some (.ins C dx (stF me st si cnt stp n aw hl tg)) ∧ H aw = some (.lst (ws.map V.int)) ∧ ws.length ≤ 1000 ∧
  ∀ aw' H', H aw' = none → Chg p H H' → H' aw' = some (.lst ((ws.filter fun j => !decide (j = k)).map V.int)) → H' p = some (.ins C dx (stF me (stB st (ws.filter fun j => !decide (j = k))) si cnt stp n aw' hl tg)) → Q .non H'
theorem sc_Stamper_await_no_more : FnScope ["self", "seat", "other"] ["self", "seat"] (defScope s_Stamper_await_no_more) :=
  ⟨rfl, rfl, rfl, by decide +kernel, rfl, by decide +kernel, by decide +kernel⟩
theorem ok_nomore (F : Fun K "_await_no_more" "Stamper._await_no_more" s_Stamper_await_no_more f fd) (S : StT K C) (MC : Me P w K mg base C "_come_in_where_none_is_awaited" 1 ["self"] (spCome C)) : FnOk P w K mg base CX0 2 f fd ["self", "seat"] (spNoMore C) := by
  obtain ⟨fC, fdC, GC, bC, mC⟩ := MC
  refine F.ok sc_Stamper_await_no_more (fun vs H Q E h => ?_) (fun cdv A outer s H vs Q E hr h => ?_)
  · obtain ⟨p, _, _, _, _, _, _, _, _, _, _, _, _, rfl, _⟩ := h
    rfl
  obtain ⟨p, dx, me, st, si, cnt, stp, n, aw, hl, tg, ws, k, rfl, hp, ha, len, q⟩ := h
  refine ⟨_, (pss_cons (ps_fld (pv 0) (pe_lc (own := [("other", 2)]) (g := gName 2)  (by rfl) sc_Stamper_await_no_more.nd (pi_list (pe_fld (pv 0) (by rfl))) (blkOk_by (N := ["self", "seat", "other"]) (sc := defScope s_Stamper_await_no_more) (by decide +kernel)) (fun _ _ _ _ _ => pg_name (i := 2) sc_Stamper_await_no_more.nd rfl (Or.inl rfl)) (fun _ _ _ _ _ => pts_one (pt_cmpR op_ne (pv 2) (pv 1) (nomark _))) (fun _ _ _ _ _ => (pv 2))) rfl)
    (pss_one (ps_expr (pe_meth0 (pv 0) S.cl mC GC hr bC .nil pass0)))), ?_⟩
  refine ⟨_, rfl, p, C, dx, _, _, rfl, hp, S.cl, S.awaits, stF_awt _ _ _ _ _ _ _ _ _, aw, rfl, ⟨_, SqL.of ha⟩, fun J hJ => ?_⟩
  refine lc_list (K := K) (a := aw) (xs := ws.map V.int) (fun i G => G = upd H J (.lst (((ws.take i).filter fun j => !decide (j = k)).map V.int))) (by simp) (fun i G _ h => by rw [h]; exact SqL.of (same_upd hJ _ _ ha)) ?_ ?_
  · rintro i x G hi rfl
    obtain ⟨y, ey, rfl⟩ := ints_at hi
    have i9 : i < ws.length := (List.getElem?_eq_some_iff.mp ey).1
    refine ⟨rfl, _, rfl, _, rfl, rfl, _, rfl, ?_⟩
    rw [filt_snoc ey]
    refine ite2 (fun c2 => ?_) (fun c2 => ?_)
    · have c3 : (fun j => !decide (j = k)) y = true := by simpa [dec_ii] using c2
      rw [if_pos c3]
      have lf := List.length_filter_le (fun j => !decide (j = k)) (ws.take i)
      refine ⟨_, rfl, _, upd_same, ?_, ?_⟩
      · rw [List.length_map]
        exact Nat.lt_of_le_of_lt (Nat.le_trans lf (by rw [List.length_take]; omega)) (Nat.lt_of_le_of_lt len (by decide))
      · rw [upd_upd, List.map_append]; rfl
    · have c3 : ¬ ((fun j => !decide (j = k)) y = true) := by simpa [dec_ii] using c2
      rw [if_neg c3, List.append_nil]
  rintro G rfl
  rw [List.length_map, List.take_length]
  have pJ : p ≠ J := ne_of_none hp hJ
  refine ⟨_, rfl, p, C, dx, _, rfl, by rw [upd_ne pJ]; exact hp, S.cl, S.awaits, (by show 9 < 1000; decide), ?_⟩
  rw [stF_put_awt]
  generalize hF : (ws.filter fun j => !decide (j = k)) = wf at q ⊢
  obtain ⟨G1, hG1⟩ : ∃ G1, G1 = upd (upd H J (.lst (wf.map V.int))) p (.ins C dx (stF me st si cnt stp n J hl tg)) := ⟨_, rfl⟩
  rw [← hG1]
  have g1 : G1 p = some (.ins C dx (stF me st si cnt stp n J hl tg)) := by rw [hG1]; exact upd_same
  have g2 : G1 J = some (.lst (wf.map V.int)) := by rw [hG1, upd_ne pJ.symm]; exact upd_same
  have c1 : Chg p H G1 := fun b o nb e => by rw [hG1, upd_ne nb]; exact same_upd hJ _ _ e
  refine ⟨_, rfl, p, dx, _, rfl, g1, stF_no _ _ _ _ _ _ _ _ _ (by decide +kernel) (by decide +kernel) (by decide +kernel) (by decide +kernel) (by decide +kernel) (by decide +kernel) (by decide +kernel) (by decide +kernel) (by decide +kernel),
    p, dx, me, st, si, cnt, stp, n, J, hl, tg, wf, rfl, g1, g2, ?_⟩
  cases hb : inB st wf with
  | true =>
    rw [if_pos rfl]
    refine q J _ hJ (c1.trans Chg.self) (by rw [upd_ne pJ.symm]; exact g2) ?_
    rw [show stB st wf = "in" from by simp [stB, hb]]
    exact upd_same
  | false =>
    rw [if_neg (by simp)]
    refine q J _ hJ c1 g2 ?_
    rw [show stB st wf = st from by simp [stB, hb]]
    exact g1
end

end G0
namespace G0
open PySem PySem.Spec PyProof.Rows L2
section
variable {P : Program} {w : World} {K : PySem.W.Frag} {mg : Str → Option Value} {base : Heap} {C f : Addr} {fd : FuncData}
theorem dec_str {a b : Str} : decide (V.str a = V.str b) = decide (a = b) := decide_eq_decide.mpr ⟨fun h => by cases h; rfl, fun h => by rw [h]⟩
theorem sqt_chgI {H H' : Hp} {p D dx : Addr} {fs : List (Str × V)} (hp : H p = some (.ins D dx fs)) (c : Chg p H H') {a : Addr} {xs : List V} (h : SqT K H a xs) : SqT K H' a xs := by
  rcases h with (h | ⟨o, h⟩) | h
  · exact .inl (.inl (c _ _ (ne_of h hp (by intro z; cases z)) h))
  · exact .inl (.inr ⟨o, c _ _ (ne_of h hp (by intro z; cases z)) h⟩)
  · exact .inr h
/-! ### _hear_ask -/
def holdB (st : Str) (sn : List Int) (c k : Int) : Bool := decide (st = "in") || (decide (st = "asking") && HT.lexLt sn [c, k])
def spHearAsk (K : PySem.W.Frag) (C : Addr) : Sp := fun vs H Q _ => ∃ (p dx : Addr) (me : Int) (st : Str) (si : Bool) (cnt : Int) (stp : V) (n : Int) (aw hl tg : Addr) (hs sn : List Int) (k c : Int), vs = [.ref p, .int k, .int c] ∧
  H p = some (.ins C dx (stF me st si cnt stp n aw hl tg)) ∧ H hl = some (.lst (hs.map V.int)) ∧ hs.length < 1000 ∧ (st = "asking" → ∃ sa, stp = .ref sa ∧ SqT K H sa (sn.map V.int)) ∧
  (if holdB st sn c k = true then ∀ l H', H l = none → H' l = some (.lst []) → H' hl = some (.lst ((hs ++ [k]).map V.int)) → Chg hl H H' → Q (.ref l) H'
    else ∀ l t t1 H', H l = none → Same H H' → H' l = some (.lst [.ref t]) → H' t = some (.tup [.int k, .ref t1]) → H' t1 = some (.tup [.str "yes", .int cnt]) → Q (.ref l) H')
theorem sc_Stamper_hear_ask : FnScope ["self", "sender", "count"] ["self", "sender", "count"] (defScope s_Stamper_hear_ask) :=
  ⟨rfl, rfl, rfl, by decide +kernel, rfl, by decide +kernel, by decide +kernel⟩
theorem ok_hearask (F : Fun K "_hear_ask" "Stamper._hear_ask" s_Stamper_hear_ask f fd) (S : StT K C) (MY : Me P w K mg base C "_yes" 1 ["self", "seat"] (spYes C)) : FnOk P w K mg base CX0 2 f fd ["self", "sender", "count"] (spHearAsk K C) := by
  obtain ⟨fY, fdY, GY, bY, mY⟩ := MY
  refine F.ok sc_Stamper_hear_ask (fun vs H Q E h => ?_) (fun cdv A outer s H vs Q E hr h => ?_)
  · obtain ⟨p, _, _, _, _, _, _, _, _, _, _, _, _, _, _, rfl, _⟩ := h
    rfl
  obtain ⟨p, dx, me, st, si, cnt, stp, n, aw, hl, tg, hs, sn, k, c, rfl, hp, hh, len, hsn, q⟩ := h
  refine ⟨_, (pss_cons (ps_if (PW.pt (pw_or (pt_cmpR op_eq (pe_fld (pv 0) (by rfl)) pe_str (nomark _)) (pw_or1 (PW.pt (pw_and (pt_cmpR op_eq (pe_fld (pv 0) (by rfl)) pe_str (nomark _)) (pw_and1 (pt_cmpR (op_ltT (u0 hr)) (pe_fld (pv 0) (by rfl)) (pe_tup (pa_cons (pv 2) (pa_cons (pv 1) pa_nil))) (nomark _))))))))
    (pss_cons (ps_expr (pe_bm PySem.F.plainAttrs_list PySem.F.slot_list_append PySem.F.type_list_append mt_append (pe_fld (pv 0) (by rfl)) (pa_cons (pv 1) pa_nil)))
    (pss_one (ps_ret (pe_lst pa_nil))))
    pss_nil)
    (pss_one (ps_ret (pe_lst (pa_cons (pe_meth (pv 0) S.cl mY GY hr bY .nil pass0 (pa_cons (pv 1) pa_nil)) pa_nil))))), ?_⟩
  refine ⟨_, rfl, p, C, dx, _, _, rfl, hp, S.cl, S.state, stF_stt _ _ _ _ _ _ _ _ _, rfl, _, rfl, ?_⟩
  rw [dec_str]
  by_cases c1 : st = "in"
  · refine iteT' (by simp [c1]) ?_
    refine iteT ?_
    rw [if_pos (show holdB st sn c k = true from by simp [holdB, c1])] at q
    refine ⟨_, rfl, p, C, dx, _, _, rfl, hp, S.cl, S.holds, stF_hld _ _ _ _ _ _ _ _ _, .inl ⟨rfl, _, SqL.of hh⟩, _, rfl, hl, _, _, rfl, rfl, hh, Nat.lt_of_lt_of_le (show (hs.map V.int).length < 1000 by rw [List.length_map]; exact len) (by decide), ?_⟩
    refine ⟨Nat.zero_le _, fun l hl' => ?_⟩
    have nlh : l ≠ hl := fun z => by rw [z, upd_same] at hl'; cases hl'
    have nl : H l = none := by rw [upd_ne nlh] at hl'; exact hl'
    have nl0 : H l = none := by
      cases z : H l with
      | none => rfl
      | some o => rw [(Same.refl H) _ _ z] at nl; cases nl
    refine q l _ nl0 upd_same (by rw [upd_ne nlh.symm, upd_same, List.map_append]; rfl) fun b o nb e => ?_
    rw [upd_ne (ne_of_none ((Same.refl H) _ _ e) nl), upd_ne nb]
    exact (Same.refl H) _ _ e
  · refine iteF' (by simp [c1]) ?_
    refine ⟨_, rfl, p, C, dx, _, _, rfl, hp, S.cl, S.state, stF_stt _ _ _ _ _ _ _ _ _, rfl, _, rfl, ?_⟩
    rw [dec_str]
    by_cases c2 : st = "asking"
    · refine iteT' (by simp [c2]) ?_
      obtain ⟨sa, rfl, zs⟩ := hsn c2
      refine ⟨_, rfl, p, C, dx, _, _, rfl, hp, S.cl, S.stamp, stF_stp _ _ _ _ _ _ _ _ _, _, rfl, _, rfl, by show 2 ≤ sizeLine; decide, fun t2 ht2 => ?_⟩
      have s2 := same_upd (o := .tup [.int c, .int k]) ht2
      refine ⟨sa, t2, sn, [c, k], rfl, rfl, sqt_same s2 zs, SqT.of upd_same, _, rfl, ?_⟩
      cases hlt : HT.lexLt sn [c, k] with
      | true =>
        refine iteT ?_
        rw [if_pos (show holdB st sn c k = true from by simp [holdB, c2, hlt])] at q
        refine ⟨_, rfl, p, C, dx, _, _, rfl, (s2 _ _ hp), S.cl, S.holds, stF_hld _ _ _ _ _ _ _ _ _, .inl ⟨rfl, _, SqL.of (s2 _ _ hh)⟩, _, rfl, hl, _, _, rfl, rfl, (s2 _ _ hh), Nat.lt_of_lt_of_le (show (hs.map V.int).length < 1000 by rw [List.length_map]; exact len) (by decide), ?_⟩
        refine ⟨Nat.zero_le _, fun l hl' => ?_⟩
        have nlh : l ≠ hl := fun z => by rw [z, upd_same] at hl'; cases hl'
        have nl : (upd H t2 (.tup [.int c, .int k])) l = none := by rw [upd_ne nlh] at hl'; exact hl'
        have nl0 : H l = none := by
          cases z : H l with
          | none => rfl
          | some o => rw [s2 _ _ z] at nl; cases nl
        refine q l _ nl0 upd_same (by rw [upd_ne nlh.symm, upd_same, List.map_append]; rfl) fun b o nb e => ?_
        rw [upd_ne (ne_of_none (s2 _ _ e) nl), upd_ne nb]
        exact s2 _ _ e
      | false =>
        refine iteF ?_
        rw [if_neg (show ¬ (holdB st sn c k = true) from by simp [holdB, c1, hlt])] at q
        refine ⟨_, rfl, p, dx, _, rfl, (s2 _ _ hp), stF_no _ _ _ _ _ _ _ _ _ (by decide +kernel) (by decide +kernel) (by decide +kernel) (by decide +kernel) (by decide +kernel) (by decide +kernel) (by decide +kernel) (by decide +kernel) (by decide +kernel), _, rfl, p, dx, me, st, si, cnt, _, n, aw, hl, tg, k, rfl, (s2 _ _ hp), fun t1 t H1 h1 h2 s1 v1 v2 => ?_⟩
        refine ⟨by show 1 ≤ sizeLine; decide, fun l hl' => ?_⟩
        have sA := s2.trans s1
        have nl : H l = none := by
          cases z : H l with
          | none => rfl
          | some o => rw [sA _ _ z] at hl'; cases hl'
        exact q l t t1 _ nl (sA.trans (same_upd hl')) upd_same (same_upd hl' _ _ v2) (same_upd hl' _ _ v1)
    · refine iteF' (by simp [c2]) ?_
      rw [if_neg (show ¬ (holdB st sn c k = true) from by simp [holdB, c1, c2])] at q
      refine ⟨_, rfl, p, dx, _, rfl, hp, stF_no _ _ _ _ _ _ _ _ _ (by decide +kernel) (by decide +kernel) (by decide +kernel) (by decide +kernel) (by decide +kernel) (by decide +kernel) (by decide +kernel) (by decide +kernel) (by decide +kernel), _, rfl, p, dx, me, st, si, cnt, _, n, aw, hl, tg, k, rfl, hp, fun t1 t H1 h1 h2 s1 v1 v2 => ?_⟩
      refine ⟨by show 1 ≤ sizeLine; decide, fun l hl' => ?_⟩
      have sA := (Same.refl H).trans s1
      have nl : H l = none := by
        cases z : H l with
        | none => rfl
        | some o => rw [sA _ _ z] at hl'; cases hl'
      exact q l t t1 _ nl (sA.trans (same_upd hl')) upd_same (same_upd hl' _ _ v2) (same_upd hl' _ _ v1)
end

end G0
namespace G0
open PySem PySem.Spec PyProof.Rows L2
section
variable {P : Program} {w : World} {K : PySem.W.Frag} {mg : Str → Option Value} {base : Heap} {C f : Addr} {fd : FuncData}
/-! ### hear -/
def maxI (i j : Int) : Int := if j > i then j else i
/-- a letter ("ask", c) or ("yes", c) is heard -/
def spHear (K : PySem.W.Frag) (C : Addr) : Sp := fun vs H Q _ => ∃ (p dx : Addr) (me : Int) (st : Str) (si : Bool) (cnt : Int) (stp : V) (n : Int) (aw hl tg lt : Addr) (ws hs sn : List Int) (k c : Int) (isAsk : Bool), vs = [.ref p, .int k, .ref lt] ∧
  H p = some (.ins C dx (stF me st si cnt stp n aw hl tg)) ∧ H aw = some (.lst (ws.map V.int)) ∧ H hl = some (.lst (hs.map V.int)) ∧ hs.length < 1000 ∧ ws.length ≤ 1000 ∧ (st = "asking" → ∃ sa, stp = .ref sa ∧ SqT K H sa (sn.map V.int)) ∧
  SqT K H lt [.str (if isAsk = true then "ask" else "yes"), .int c] ∧
  (if isAsk = true then
    (if holdB st sn c k = true then ∀ l H', H l = none → H' l = some (.lst []) → H' hl = some (.lst ((hs ++ [k]).map V.int)) → H' p = some (.ins C dx (stF me st si (maxI cnt c) stp n aw hl tg)) → ChgS [p, hl] H H' → Q (.ref l) H'
      else ∀ l t t1 H', H l = none → Chg p H H' → H' p = some (.ins C dx (stF me st si (maxI cnt c) stp n aw hl tg)) → H' l = some (.lst [.ref t]) → H' t = some (.tup [.int k, .ref t1]) → H' t1 = some (.tup [.str "yes", .int (maxI cnt c)]) → Q (.ref l) H')
    else ∀ l aw' H', H l = none → H aw' = none → l ≠ aw' → Chg p H H' → H' l = some (.lst []) → H' aw' = some (.lst ((ws.filter fun j => !decide (j = k)).map V.int)) →
      H' p = some (.ins C dx (stF me (stB st (ws.filter fun j => !decide (j = k))) si (maxI cnt c) stp n aw' hl tg)) → Q (.ref l) H')
theorem at0 {xs : List V} {v : V} (h : xs[0]? = some v) : atI xs 0 = some v := (show atI xs ((0 : Nat) : Int) = some v from atI_nat h)
theorem at1 {xs : List V} {v : V} (h : xs[1]? = some v) : atI xs 1 = some v := (show atI xs ((1 : Nat) : Int) = some v from atI_nat h)
theorem sc_Stamper_hear : FnScope ["self", "sender", "letter"] ["self", "sender", "letter"] (defScope s_Stamper_hear) :=
  ⟨rfl, rfl, rfl, by decide +kernel, rfl, by decide +kernel, by decide +kernel⟩
theorem ok_hear (F : Fun K "hear" "Stamper.hear" s_Stamper_hear f fd) (T : BlS mg) (S : StT K C) (MH : Me P w K mg base C "_hear_ask" 2 ["self", "sender", "count"] (spHearAsk K C)) (MN : Me P w K mg base C "_await_no_more" 2 ["self", "seat"] (spNoMore C)) :
    FnOk P w K mg base CX0 3 f fd ["self", "sender", "letter"] (spHear K C) := by
  obtain ⟨fH, fdH, GH, bH, mH⟩ := MH
  obtain ⟨fN, fdN, GN, bN, mN⟩ := MN
  refine F.ok sc_Stamper_hear (fun vs H Q E h => ?_) (fun cdv A outer s H vs Q E hr h => ?_)
  · obtain ⟨p, _, _, _, _, _, _, _, _, _, _, _, _, _, _, _, _, _, rfl, _⟩ := h
    rfl
  obtain ⟨p, dx, me, st, si, cnt, stp, n, aw, hl, tg, lt, ws, hs, sn, k, c, isAsk, rfl, hp, ha, hh, lh, lw, hsn, hlt, q⟩ := h
  refine ⟨_, (pss_cons (ps_fld (pv 0) (pe_callB (call_max2 rfl) (by rfl) T.max (by decide +kernel) (pa_cons (pe_fld (pv 0) (by rfl)) (pa_cons (pe_ix ix_tup (pv 2) pe_int (fun _ _ => rfl)) pa_nil))) rfl)
    (pss_cons (ps_if (pt_cmpR op_eq (pe_ix ix_tup (pv 2) pe_int (fun _ _ => rfl)) pe_str (nomark _))
    (pss_one (ps_ret (pe_meth (pv 0) S.cl mH GH hr bH .nil pass0 (pa_cons (pv 1) (pa_cons (pe_ix ix_tup (pv 2) pe_int (fun _ _ => rfl)) pa_nil)))))
    pss_nil)
    (pss_cons (ps_expr (pe_meth (pv 0) S.cl mN GN hr bN .nil pass0 (pa_cons (pv 1) pa_nil)))
    (pss_one (ps_ret (pe_lst pa_nil)))))), ?_⟩
  refine ⟨_, rfl, p, C, dx, _, _, rfl, hp, S.cl, S.count, stF_cnt _ _ _ _ _ _ _ _ _, _, rfl, lt, _, _, _, rfl, rfl, hlt, at1 rfl, _, _, rfl, _, rfl, p, C, dx, _, rfl, hp, S.cl, S.count, (by show 9 < 1000; decide), ?_⟩
  rw [stF_put_cnt]
  have cI : Chg p H (upd H p (.ins C dx (stF me st si (maxI cnt c) stp n aw hl tg))) := Chg.self
  have naw : aw ≠ p := ne_of ha hp (by intro z; cases z)
  have nhl : hl ≠ p := ne_of hh hp (by intro z; cases z)
  obtain ⟨G, hG⟩ : ∃ G, G = upd H p (.ins C dx (stF me st si (maxI cnt c) stp n aw hl tg)) := ⟨_, rfl⟩
  rw [← (show G = upd H p (.ins C dx (stF me st si (if c > cnt then c else cnt) stp n aw hl tg)) from hG)]
  have gp : G p = some (.ins C dx (stF me st si (maxI cnt c) stp n aw hl tg)) := by rw [hG]; exact upd_same
  rw [← hG] at cI
  have ga := cI _ _ naw ha
  have gh := cI _ _ nhl hh
  have gl := sqt_chgI hp cI hlt
  refine ⟨_, rfl, lt, _, _, _, rfl, rfl, gl, at0 rfl, rfl, _, rfl, ?_⟩
  rw [dec_str]
  cases isAsk with
  | true =>
    refine iteT' (by decide +kernel) ?_
    rw [if_pos rfl] at q
    refine ⟨_, rfl, p, dx, _, rfl, gp, stF_no _ _ _ _ _ _ _ _ _ (by decide +kernel) (by decide +kernel) (by decide +kernel) (by decide +kernel) (by decide +kernel) (by decide +kernel) (by decide +kernel) (by decide +kernel) (by decide +kernel),
      _, rfl, _, rfl, lt, _, _, _, rfl, rfl, gl, at1 rfl, p, dx, me, st, si, maxI cnt c, stp, n, aw, hl, tg, hs, sn, k, c, rfl, gp, gh, lh, (fun e => by obtain ⟨sa, e1, z⟩ := hsn e; exact ⟨sa, e1, sqt_chgI hp cI z⟩), ?_⟩
    have back : ∀ {l : Addr}, G l = none → H l = none := fun {l} e => by
      cases z : H l with
      | none => rfl
      | some o =>
        by_cases lp : l = p
        · rw [lp, gp] at e; cases e
        · rw [cI _ _ lp z] at e; cases e
    cases hb : holdB st sn c k with
    | true =>
      rw [hb, if_pos rfl] at q
      rw [if_pos rfl]
      intro l H' hl' v1 v2 ch
      exact q l H' (back hl') v1 v2 (ch _ _ nhl.symm gp) ((cI.s (by simp)).trans (ch.s (by simp)))
    | false =>
      rw [hb, if_neg (by simp)] at q
      rw [if_neg (by simp)]
      intro l t t1 H' hl' s1 v1 v2 v3
      exact q l t t1 H' (back hl') (cI.trans (Chg.same s1)) (s1 _ _ gp) v1 v2 v3
  | false =>
    refine iteF' (by decide +kernel) ?_
    rw [if_neg (by simp)] at q
    refine ⟨_, rfl, p, dx, _, rfl, gp, stF_no _ _ _ _ _ _ _ _ _ (by decide +kernel) (by decide +kernel) (by decide +kernel) (by decide +kernel) (by decide +kernel) (by decide +kernel) (by decide +kernel) (by decide +kernel) (by decide +kernel),
      _, rfl, p, dx, me, st, si, maxI cnt c, stp, n, aw, hl, tg, ws, k, rfl, gp, ga, lw, fun aw' H' h1 c1 v1 v2 => ?_⟩
    refine ⟨Nat.zero_le _, fun l hl' => ?_⟩
    have nla : l ≠ aw' := fun z => by rw [z, v1] at hl'; cases hl'
    have c2 := cI.trans c1
    have lp : l ≠ p := fun z => by rw [z, v2] at hl'; cases hl'
    have ap : aw' ≠ p := fun z => by rw [z, gp] at h1; cases h1
    exact q l aw' _ (c2.back hl' lp) (cI.back h1 ap) nla (c2.new hl') upd_same (by rw [upd_ne nla.symm]; exact v1) (by rw [upd_ne lp.symm]; exact v2)
end

end G0
namespace G0
open PySem PySem.Spec PyProof.Rows L2
section
variable {P : Program} {w : World} {K : PySem.W.Frag} {mg : Str → Option Value} {base : Heap} {C f : Addr} {fd : FuncData}
def yesD (word : Str) (cnt k : Int) : PyData := .tuple [.int k, .tuple [.str word, .int cnt]]
theorem noLs_yes (word : Str) (cnt : Int) : ∀ ks : List Int, noLs (ks.map (yesD word cnt)) = true
  | [] => rfl
  | k :: ks => by
    have ih := noLs_yes word cnt ks
    simp only [List.map_cons, noLs, yesD, noL, Bool.true_and]
    exact ih
theorem dp_yes {H : Hp} {t t1 : Addr} {word : Str} {cnt k : Int} (h1 : SqT K H t [.int k, .ref t1]) (h2 : SqT K H t1 [.str word, .int cnt]) : Dp K H (.ref t) (yesD word cnt k) :=
  .tup h1 (.cons (.int k) (.cons (.tup h2 (.cons (.str word) (.cons (.int cnt) .nil))) .nil))
mutual
theorem dp_sqt {H H' : Hp} (c : ∀ a xs, SqT K H a xs → SqT K H' a xs) : ∀ (d : PyData) (v : V), noL d = true → Dp K H v d → Dp K H' v d
  | .none, _, _, h => by cases h; exact .non
  | .bool _, _, _, h => by cases h; exact .bl _
  | .int _, _, _, h => by cases h; exact .int _
  | .str _, _, _, h => by cases h; exact .str _
  | .list _, _, n, _ => by simp [noL] at n
  | .dict _, _, n, _ => by simp [noL] at n
  | .tuple ds, _, n, h => by
    cases h with
    | tup hs ha => exact .tup (c _ _ hs) (dps_sqt c ds _ (by simpa [noL] using n) ha)
theorem dps_sqt {H H' : Hp} (c : ∀ a xs, SqT K H a xs → SqT K H' a xs) : ∀ (ds : List PyData) (vs : List V), noLs ds = true → DpAll K H vs ds → DpAll K H' vs ds
  | [], _, _, h => by cases h; exact .nil
  | d :: ds, _, n, h => by
    simp only [noLs, Bool.and_eq_true] at n
    cases h with
    | cons h1 h2 => exact .cons (dp_sqt c d _ n.1 h1) (dps_sqt c ds _ n.2 h2)
end
/-! ### leave -/
def spLeave (K : PySem.W.Frag) (C : Addr) : Sp := fun vs H Q _ => ∃ (p dx : Addr) (me : Int) (st : Str) (si : Bool) (cnt : Int) (stp : V) (n : Int) (aw hl tg : Addr) (hs : List Int), vs = [.ref p] ∧ H p = some (.ins C dx (stF me st si cnt stp n aw hl tg)) ∧ H hl = some (.lst (hs.map V.int)) ∧ hs.length < 1000 ∧
  ∀ l hl' H' xs, H l = none → H hl' = none → l ≠ hl' → Chg p H H' → H' l = some (.lst xs) → DpAll K H' xs (hs.map (yesD "yes" cnt)) → H' hl' = some (.lst []) → H' p = some (.ins C dx (stF me "out" si cnt .non n aw hl' tg)) → Q (.ref l) H'
theorem sc_Stamper_leave : FnScope ["self", "answers", "seat"] ["self"] (defScope s_Stamper_leave) :=
  ⟨rfl, rfl, rfl, by decide +kernel, rfl, by decide +kernel, by decide +kernel⟩
theorem ok_leave (F : Fun K "leave" "Stamper.leave" s_Stamper_leave f fd) (S : StT K C) (MY : Me P w K mg base C "_yes" 1 ["self", "seat"] (spYes C)) : FnOk P w K mg base CX0 2 f fd ["self"] (spLeave K C) := by
  obtain ⟨fY, fdY, GY, bY, mY⟩ := MY
  refine F.ok sc_Stamper_leave (fun vs H Q E h => ?_) (fun cdv A outer s H vs Q E hr h => ?_)
  · obtain ⟨p, _, _, _, _, _, _, _, _, _, _, _, rfl, _⟩ := h
    rfl
  obtain ⟨p, dx, me, st, si, cnt, stp, n, aw, hl, tg, hs, rfl, hp, hh, len, q⟩ := h
  refine ⟨_, (pss_cons (ps_setLc (i := 1) (own := [("seat", 2)]) (g := gName 2) (tt := tYes) (by rfl) sc_Stamper_leave.nd rfl rfl (sw_true rfl rfl rfl (by decide +kernel)) (pi_list (pe_fld (pv 0) (by rfl))) (blkOk_by (N := ["self", "answers", "seat"]) (sc := defScope s_Stamper_leave) (by decide +kernel)) (fun _ _ _ _ _ => pg_name (i := 2) sc_Stamper_leave.nd rfl (Or.inl rfl)) (fun _ _ _ _ _ => pts_nil) (fun _ _ _ _ _ => (pe_meth (pv 0) S.cl mY GY hr bY .nil pass0 (pa_cons (pv 2) pa_nil))))
    (pss_cons (ps_fld (pv 0) (pe_lst pa_nil) rfl)
    (pss_cons (ps_fld (pv 0) pe_non rfl)
    (pss_cons (ps_fld (pv 0) pe_str rfl)
    (pss_one (ps_ret (pv 1))))))), ?_⟩
  refine ⟨_, rfl, p, C, dx, _, _, rfl, hp, S.cl, S.holds, stF_hld _ _ _ _ _ _ _ _ _, hl, rfl, ⟨_, SqL.of hh⟩, fun J hJ => ?_⟩
  refine lc_list (K := K) (a := hl) (xs := hs.map V.int) (fun i G => ∃ acc : List V, G J = some (.lst acc) ∧ DpAll K G acc ((hs.take i).map (yesD "yes" cnt)) ∧ Same H G) ⟨[], upd_same, by simpa using DpAll.nil, same_upd hJ⟩ (fun i G _ h => by obtain ⟨_, _, _, z⟩ := h; exact SqL.of (z _ _ hh)) ?_ ?_
  · rintro i x G hi ⟨acc, hG, hA, sG⟩
    obtain ⟨y, ey, rfl⟩ := ints_at hi
    have i9 : i < hs.length := (List.getElem?_eq_some_iff.mp ey).1
    refine ⟨rfl, ?_⟩
    show tMeth C "_yes" (spYes C) [] E0 (tVar 0) (tCons (tVar 2) tNil) _ _ _
    refine ⟨_, rfl, p, dx, _, rfl, sG _ _ hp, stF_no _ _ _ _ _ _ _ _ _ (by decide +kernel) (by decide +kernel) (by decide +kernel) (by decide +kernel) (by decide +kernel) (by decide +kernel) (by decide +kernel) (by decide +kernel) (by decide +kernel), _, rfl, p, dx, me, st, si, cnt, stp, n, aw, hl, tg, y, rfl, sG _ _ hp, fun t1 t G2 h1 h2 s2 v1 v2 => ?_⟩
    have hG2 := s2 _ _ hG
    have hA2 := dps_same s2 _ _ hA
    have la := dps_len hA2
    have l2 : acc.length ≤ 1000 := by rw [la, List.length_map, List.length_take]; omega
    refine ⟨acc, hG2, Nat.lt_of_le_of_lt l2 (by decide), acc ++ [.ref t], upd_same, ?_, fun b o e => by rw [upd_ne (ne_of_none e hJ)]; exact s2 _ _ (sG _ _ e)⟩
    have e1 : (hs.take (i + 1)).map (yesD "yes" cnt) = (hs.take i).map (yesD "yes" cnt) ++ [yesD "yes" cnt y] := by
      rw [List.take_succ, ey, List.map_append]; rfl
    rw [e1]
    refine dps_chg ⟨_, hG2⟩ Chg.self _ _ ?_ (dps_app hA2 (.cons (dp_yes (SqT.of v2) (SqT.of v1)) .nil))
    rw [← e1]
    exact noLs_yes _ _ _
  rintro G ⟨acc, hG, hA, sG⟩
  rw [List.length_map, List.take_length] at hA
  refine ⟨Nat.zero_le _, fun hl' hhl => ?_⟩
  have hpG := sG _ _ hp
  have s1 := same_upd (o := .lst []) hhl
  refine ⟨_, rfl, p, C, dx, _, rfl, s1 _ _ hpG, S.cl, S.holds, (by show 9 < 1000; decide), ?_⟩
  rw [stF_put_hld]
  refine ⟨_, rfl, p, C, dx, _, rfl, upd_same, S.cl, S.stamp, (by show 9 < 1000; decide), ?_⟩
  rw [stF_put_stp]
  refine ⟨_, rfl, p, C, dx, _, rfl, upd_same, S.cl, S.state, (by show 9 < 1000; decide), ?_⟩
  rw [stF_put_stt, upd_upd, upd_upd]
  have hJG : J ≠ hl' := ne_of_none hG hhl
  have pJ : J ≠ p := (ne_of_none hp hJ).symm
  have ph : hl' ≠ p := (ne_of_none hpG hhl).symm
  have nh : H hl' = none := by
    cases z : H hl' with
    | none => rfl
    | some o => rw [sG _ _ z] at hhl; cases hhl
  have c1 : Chg p H (upd (upd G hl' (.lst [])) p (.ins C dx (stF me "out" si cnt .non n aw hl' tg))) := fun b o nb e => by rw [upd_ne nb]; exact s1 _ _ (sG _ _ e)
  refine ⟨_, rfl, q J hl' _ acc hJ nh hJG c1 (by rw [upd_ne pJ]; exact s1 _ _ hG) ?_ (by rw [upd_ne ph]; exact upd_same) upd_same⟩
  have hA1 := dps_same s1 _ _ hA
  have i1 : ∀ {a : Addr} {zs : List V}, SqT K (upd G hl' (.lst [])) a zs → SqT K (upd (upd G hl' (.lst [])) p (.ins C dx (stF me "out" si cnt .non n aw hl' tg))) a zs := fun z => sqt_chgI (s1 _ _ hpG) Chg.self z
  exact dps_sqt (fun _ _ z => i1 z) _ _ (noLs_yes _ _ _) hA1
end

end G0
namespace G0
open PySem PySem.Spec PyProof.Rows L2
section
variable {P : Program} {w : World} {K : PySem.W.Frag} {mg : Str → Option Value} {base : Heap} {C f : Addr} {fd : FuncData}
/-! ### gone -/
def spSGone (C : Addr) : Sp := fun vs H Q _ => ∃ (p dx : Addr) (me : Int) (st : Str) (si : Bool) (cnt : Int) (stp : V) (n : Int) (aw hl tg : Addr) (ws hs ts : List Int) (k : Int), vs = [.ref p, .int k] ∧ Stm H C p dx me st si cnt stp n aw hl tg ws hs ts ∧ ws.length ≤ 1000 ∧ hs.length ≤ 1000 ∧ ts.length < 1000 ∧
  ∀ l hl' aw' H', H l = none → H hl' = none → H aw' = none → l ≠ hl' → l ≠ aw' → hl' ≠ aw' → ChgS [p, tg] H H' → H' l = some (.lst []) → H' hl' = some (.lst ((hs.filter fun j => !decide (j = k)).map V.int)) → H' aw' = some (.lst ((ws.filter fun j => !decide (j = k)).map V.int)) →
    H' tg = some (.lst ((ts ++ [k]).map V.int)) → H' p = some (.ins C dx (stF me (stB st (ws.filter fun j => !decide (j = k))) si cnt stp n aw' hl' tg)) → Q (.ref l) H'
theorem sc_Stamper_gone : FnScope ["self", "seat", "other"] ["self", "seat"] (defScope s_Stamper_gone) :=
  ⟨rfl, rfl, rfl, by decide +kernel, rfl, by decide +kernel, by decide +kernel⟩
theorem ok_sgone (F : Fun K "gone" "Stamper.gone" s_Stamper_gone f fd) (S : StT K C) (MN : Me P w K mg base C "_await_no_more" 2 ["self", "seat"] (spNoMore C)) : FnOk P w K mg base CX0 3 f fd ["self", "seat"] (spSGone C) := by
  obtain ⟨fN, fdN, GN, bN, mN⟩ := MN
  refine F.ok sc_Stamper_gone (fun vs H Q E h => ?_) (fun cdv A outer s H vs Q E hr h => ?_)
  · obtain ⟨p, _, _, _, _, _, _, _, _, _, _, _, _, _, _, rfl, _⟩ := h
    rfl
  obtain ⟨p, dx, me, st, si, cnt, stp, n, aw, hl, tg, ws, hs, ts, k, rfl, M, lw, lh, lt, q⟩ := h
  refine ⟨_, (pss_cons (ps_expr (pe_bm PySem.F.plainAttrs_list PySem.F.slot_list_append PySem.F.type_list_append mt_append (pe_fld (pv 0) (by rfl)) (pa_cons (pv 1) pa_nil)))
    (pss_cons (ps_fld (pv 0) (pe_lc (own := [("other", 2)]) (g := gName 2)  (by rfl) sc_Stamper_gone.nd (pi_list (pe_fld (pv 0) (by rfl))) (blkOk_by (N := ["self", "seat", "other"]) (sc := defScope s_Stamper_gone) (by decide +kernel)) (fun _ _ _ _ _ => pg_name (i := 2) sc_Stamper_gone.nd rfl (Or.inl rfl)) (fun _ _ _ _ _ => pts_one (pt_cmpR op_ne (pv 2) (pv 1) (nomark _))) (fun _ _ _ _ _ => (pv 2))) rfl)
    (pss_cons (ps_expr (pe_meth (pv 0) S.cl mN GN hr bN .nil pass0 (pa_cons (pv 1) pa_nil)))
    (pss_one (ps_ret (pe_lst pa_nil)))))), ?_⟩
  refine ⟨_, rfl, p, C, dx, _, _, rfl, M.hp, S.cl, S.gone, stF_tgn _ _ _ _ _ _ _ _ _, .inl ⟨rfl, _, SqL.of M.ht⟩, _, rfl, tg, _, _, rfl, rfl, M.ht, Nat.lt_of_lt_of_le (show (ts.map V.int).length < 1000 by rw [List.length_map]; exact lt) (by decide), ?_⟩
  have npt : p ≠ tg := ne_of M.hp M.ht (by intro z; cases z)
  have nha : hl ≠ p := ne_of M.hh M.hp (by intro z; cases z)
  have naa : aw ≠ p := ne_of M.ha M.hp (by intro z; cases z)
  obtain ⟨G, hG⟩ : ∃ G, G = upd H tg (.lst ((ts ++ [k]).map V.int)) := ⟨_, rfl⟩
  rw [← (show G = upd H tg (.lst (ts.map V.int ++ [.int k])) from by rw [hG, List.map_append]; rfl)]
  have gp : G p = some (.ins C dx (stF me st si cnt stp n aw hl tg)) := by rw [hG, upd_ne npt]; exact M.hp
  have gh : G hl = some (.lst (hs.map V.int)) := by rw [hG, upd_ne M.nht]; exact M.hh
  have ga : G aw = some (.lst (ws.map V.int)) := by rw [hG, upd_ne M.nat]; exact M.ha
  have gt : G tg = some (.lst ((ts ++ [k]).map V.int)) := by rw [hG]; exact upd_same
  have cG : ChgS [p, tg] H G := by rw [hG]; exact ChgS.refl.put (by simp)
  have back : ∀ {l : Addr}, G l = none → H l = none := fun {l} e => by
    cases z : H l with
    | none => rfl
    | some o =>
      by_cases lp : l = tg
      · rw [lp, gt] at e; cases e
      · rw [hG, upd_ne lp, z] at e; cases e
  refine ⟨_, rfl, p, C, dx, _, _, rfl, gp, S.cl, S.holds, stF_hld _ _ _ _ _ _ _ _ _, hl, rfl, ⟨_, SqL.of gh⟩, fun J hJ => ?_⟩
  refine lc_list (K := K) (a := hl) (xs := hs.map V.int) (fun i G2 => G2 = upd G J (.lst (((hs.take i).filter fun j => !decide (j = k)).map V.int))) (by simp) (fun i G2 _ h => by rw [h]; exact SqL.of (same_upd hJ _ _ gh)) ?_ ?_
  · rintro i x G2 hi rfl
    obtain ⟨y, ey, rfl⟩ := ints_at hi
    have i9 : i < hs.length := (List.getElem?_eq_some_iff.mp ey).1
    refine ⟨rfl, _, rfl, _, rfl, rfl, _, rfl, ?_⟩
    rw [filt_snoc ey]
    refine ite2 (fun c2 => ?_) (fun c2 => ?_)
    · have c3 : (fun j => !decide (j = k)) y = true := by simpa [dec_ii] using c2
      rw [if_pos c3]
      have lf := List.length_filter_le (fun j => !decide (j = k)) (hs.take i)
      refine ⟨_, rfl, _, upd_same, ?_, ?_⟩
      · rw [List.length_map]
        exact Nat.lt_of_le_of_lt (Nat.le_trans lf (by rw [List.length_take]; omega)) (Nat.lt_of_le_of_lt lh (by decide))
      · rw [upd_upd, List.map_append]; rfl
    · have c3 : ¬ ((fun j => !decide (j = k)) y = true) := by simpa [dec_ii] using c2
      rw [if_neg c3, List.append_nil]
  rintro G2 rfl
  rw [List.length_map, List.take_length]
  have pJ : p ≠ J := ne_of_none gp hJ
  refine ⟨_, rfl, p, C, dx, _, rfl, by rw [upd_ne pJ]; exact gp, S.cl, S.holds, (by show 9 < 1000; decide), ?_⟩
  rw [stF_put_hld]
  obtain ⟨G3, hG3⟩ : ∃ G3, G3 = upd (upd G J (.lst ((hs.filter fun j => !decide (j = k)).map V.int))) p (.ins C dx (stF me st si cnt stp n aw J tg)) := ⟨_, rfl⟩
  rw [← hG3]
  have g3p : G3 p = some (.ins C dx (stF me st si cnt stp n aw J tg)) := by rw [hG3]; exact upd_same
  have g3J : G3 J = some (.lst ((hs.filter fun j => !decide (j = k)).map V.int)) := by rw [hG3, upd_ne pJ.symm]; exact upd_same
  have k3 : ∀ {b : Addr} {o : HO}, b ≠ p → G b = some o → G3 b = some o := fun nb e => by rw [hG3, upd_ne nb]; exact same_upd hJ _ _ e
  have g3a := k3 naa ga
  have g3t := k3 npt.symm gt
  refine ⟨_, rfl, p, dx, _, rfl, g3p, stF_no _ _ _ _ _ _ _ _ _ (by decide +kernel) (by decide +kernel) (by decide +kernel) (by decide +kernel) (by decide +kernel) (by decide +kernel) (by decide +kernel) (by decide +kernel) (by decide +kernel), _, rfl, p, dx, me, st, si, cnt, stp, n, aw, J, tg, ws, k, rfl, g3p, g3a, lw, fun aw' H' h1 c1 v1 v2 => ?_⟩
  refine ⟨Nat.zero_le _, fun l hl' => ?_⟩
  have lJ : J ≠ p := pJ.symm
  have nJa : J ≠ aw' := ne_of_none g3J h1
  have HJ := c1 _ _ lJ g3J
  have Ht := c1 _ _ npt.symm g3t
  have nlJ : l ≠ J := (ne_of_none HJ hl').symm
  have nla : l ≠ aw' := (ne_of_none v1 hl').symm
  have nlp : l ≠ p := (ne_of_none v2 hl').symm
  have nlt : l ≠ tg := (ne_of_none Ht hl').symm
  have b3 : ∀ {x : Addr}, G3 x = none → G x = none := fun {x} e => by
    cases z : G x with
    | none => rfl
    | some o =>
      by_cases lp : x = p
      · rw [lp, g3p] at e; cases e
      · rw [k3 lp z] at e; cases e
  have bl : G3 l = none := by
    cases z : G3 l with
    | none => rfl
    | some o => rw [c1 _ _ nlp z] at hl'; cases hl'
  refine q l J aw' _ (back (b3 bl)) (back hJ) (back (b3 h1)) nlJ nla nJa ?_ upd_same (by rw [upd_ne nlJ.symm]; exact HJ) (by rw [upd_ne nla.symm]; exact v1) (by rw [upd_ne nlt.symm]; exact Ht) (by rw [upd_ne nlp.symm]; exact v2)
  intro b o nb e
  have e1 := cG b o nb e
  simp only [List.mem_cons, List.not_mem_nil, or_false, not_or] at nb
  have e2 := k3 nb.1 e1
  have e3 := c1 _ _ nb.1 e2
  rw [upd_ne (ne_of_none e3 hl')]
  exact e3
end

end G0
namespace G0
open PySem PySem.Spec PyProof.Rows L2
section
variable {P : Program} {w : World} {K : PySem.W.Frag} {mg : Str → Option Value} {base : Heap} {C f : Addr} {fd : FuncData}
theorem lc_yes {te : TE} {σ : L2.St} {H : Hp} {Q : VK} {B : Hp → Prop} (h : te σ H Q) : tYes σ H (fun b H3 => if b = true then te σ H3 Q else B H3) := by
  show (if true = true then te σ H Q else B H)
  exact iteT h
/-! ### ask -/
def upto (n : Int) : List Int := (List.range n.toNat).map fun i => ((i : Nat) : Int)
def others (n : Int) (away : List Int) : List Int := (upto n).filter fun s => !decide (s ∈ away)
theorem upto_at {n : Int} {i : Nat} (h : i < n.toNat) : (upto n)[i]? = some ((i : Nat) : Int) := by
  unfold upto
  rw [List.getElem?_map, List.getElem?_range h]; rfl
theorem upto_len {n : Int} : (upto n).length = n.toNat := by unfold upto; rw [List.length_map, List.length_range]
def spSAsk (K : PySem.W.Frag) (C : Addr) : Sp := fun vs H Q _ => ∃ (p dx : Addr) (me : Int) (st : Str) (si : Bool) (cnt : Int) (stp : V) (n : Int) (aw hl tg : Addr) (ts : List Int), vs = [.ref p] ∧ H p = some (.ins C dx (stF me st si cnt stp n aw hl tg)) ∧ H tg = some (.lst (ts.map V.int)) ∧ ts.length < 1000 ∧ 0 ≤ n ∧ n ≤ 1000 ∧
  ∀ l aw' tp H' xs, H l = none → H aw' = none → l ≠ aw' → Chg p H H' → H' l = some (.lst xs) → DpAll K H' xs ((others n (me :: ts)).map (yesD "ask" (cnt + 1))) → H' aw' = some (.lst ((others n (me :: ts)).map V.int)) →
    SqT K H' tp [.int (cnt + 1), .int me] → H' p = some (.ins C dx (stF me (stB "asking" (others n (me :: ts))) si (cnt + 1) (.ref tp) n aw' hl tg)) → Q (.ref l) H'
theorem sc_Stamper_ask : FnScope ["self", "away", "seat"] ["self"] (defScope s_Stamper_ask) :=
  ⟨rfl, rfl, rfl, by decide +kernel, rfl, by decide +kernel, by decide +kernel⟩
theorem ok_sask (F : Fun K "ask" "Stamper.ask" s_Stamper_ask f fd) (T : BlS mg) (S : StT K C) (MC : Me P w K mg base C "_come_in_where_none_is_awaited" 1 ["self"] (spCome C)) : FnOk P w K mg base CX0 2 f fd ["self"] (spSAsk K C) := by
  obtain ⟨fC, fdC, GC, bC, mC⟩ := MC
  refine F.ok sc_Stamper_ask (fun vs H Q E h => ?_) (fun cdv A outer s H vs Q E hr h => ?_)
  · obtain ⟨p, _, _, _, _, _, _, _, _, _, _, _, rfl, _⟩ := h
    rfl
  obtain ⟨p, dx, me, st, si, cnt, stp, n, aw, hl, tg, ts, rfl, hp, ht, lt, n0, n1, q⟩ := h
  refine ⟨_, (pss_cons (ps_fldaug (pv 0) pe_int in_add)
    (pss_cons (ps_fld (pv 0) (pe_tup (pa_cons (pe_fld (pv 0) (by rfl)) (pa_cons (pe_fld (pv 0) (by rfl)) pa_nil))) rfl)
    (pss_cons (ps_set (i := 1) sc_Stamper_ask.nd rfl (Or.inr rfl) (pe_op op_cat (pe_lst (pa_cons (pe_fld (pv 0) (by rfl)) pa_nil)) (pe_fld (pv 0) (by rfl))))
    (pss_cons (ps_fld (pv 0) (pe_lc (own := [("seat", 2)]) (g := gName 2)  (by rfl) sc_Stamper_ask.nd (pi_range1 (by rfl) T.range (pa_cons (pe_fld (pv 0) (by rfl)) pa_nil)) (blkOk_by (N := ["self", "away", "seat"]) (sc := defScope s_Stamper_ask) (by decide +kernel)) (fun _ _ _ _ _ => pg_name (i := 2) sc_Stamper_ask.nd rfl (Or.inl rfl)) (fun _ _ _ _ _ => pts_one (pt_cmpR (u_notinK K) (pv 2) (pv 1) (by rfl))) (fun _ _ _ _ _ => (pv 2))) rfl)
    (pss_cons (ps_fld (pv 0) pe_str rfl)
    (pss_cons (ps_expr (pe_meth0 (pv 0) S.cl mC GC hr bC .nil pass0))
    (pss_one (ps_ret (pe_lc (own := [("seat", 2)]) (g := gName 2) (tt := tYes) (by rfl) sc_Stamper_ask.nd (pi_list (pe_fld (pv 0) (by rfl))) (blkOk_by (N := ["self", "away", "seat"]) (sc := defScope s_Stamper_ask) (by decide +kernel)) (fun _ _ _ _ _ => pg_name (i := 2) sc_Stamper_ask.nd rfl (Or.inl rfl)) (fun _ _ _ _ _ => pts_nil) (fun _ _ _ _ _ => (pe_tup (pa_cons (pv 2) (pa_cons (pe_tup (pa_cons pe_str (pa_cons (pe_fldK K (pv 0)) pa_nil))) pa_nil))))))))))))), ?_⟩
  refine ⟨_, rfl, p, C, dx, _, _, rfl, hp, S.cl, S.count, stF_cnt _ _ _ _ _ _ _ _ _, cnt, 1, rfl, rfl, dx, _, hp, (by show 9 < 1000; decide), ?_⟩
  rw [stF_put_cnt]
  refine ⟨_, rfl, p, C, dx, _, _, rfl, upd_same, S.cl, S.count, stF_cnt _ _ _ _ _ _ _ _ _, _, rfl, p, C, dx, _, _, rfl, upd_same, S.cl, S.me, stF_me _ _ _ _ _ _ _ _ _, by show 2 ≤ sizeLine; decide, fun tp htp => ?_⟩
  have ptp : p ≠ tp := fun z => by rw [z, upd_same] at htp; cases htp
  refine ⟨_, rfl, p, C, dx, _, rfl, by rw [upd_ne ptp]; exact upd_same, S.cl, S.stamp, (by show 9 < 1000; decide), ?_⟩
  rw [stF_put_stp]
  obtain ⟨G, hG⟩ : ∃ G, G = upd (upd (upd H p (.ins C dx (stF me st si (cnt + 1) stp n aw hl tg))) tp (.tup [.int (cnt + 1), .int me])) p (.ins C dx (stF me st si (cnt + 1) (.ref tp) n aw hl tg)) := ⟨_, rfl⟩
  rw [← hG]
  have gp : G p = some (.ins C dx (stF me st si (cnt + 1) (.ref tp) n aw hl tg)) := by rw [hG]; exact upd_same
  have gtp : G tp = some (.tup [.int (cnt + 1), .int me]) := by rw [hG, upd_ne ptp.symm]; exact upd_same
  have tp0 : H tp = none := by rw [upd_ne ptp.symm] at htp; exact htp
  have cG : Chg p H G := fun b o nb e => by rw [hG, upd_ne nb, upd_ne (ne_of_none e tp0), upd_ne nb]; exact e
  have ntp : tg ≠ p := ne_of ht hp (by intro z; cases z)
  have gt := cG _ _ ntp ht
  refine ⟨_, rfl, p, C, dx, _, _, rfl, gp, S.cl, S.me, stF_me _ _ _ _ _ _ _ _ _, by show 1 ≤ sizeLine; decide, fun a1 ha1 => ?_⟩
  have s1 := same_upd (o := .lst [.int me]) ha1
  refine ⟨_, rfl, p, C, dx, _, _, rfl, s1 _ _ gp, S.cl, S.gone, stF_tgn _ _ _ _ _ _ _ _ _, a1, tg, [.int me], ts.map V.int, rfl, rfl, upd_same, s1 _ _ gt, Nat.le_trans (show 1 + (ts.map V.int).length ≤ 1001 by rw [List.length_map]; omega) (by decide), fun aY haY => ?_⟩
  have s2 := s1.trans (same_upd (o := .lst ([.int me] ++ ts.map V.int)) haY)
  have vY : upd (upd G a1 (.lst [.int me])) aY (.lst ([V.int me] ++ ts.map V.int)) aY = some (.lst ((me :: ts).map V.int)) := by rw [upd_same]; rfl
  obtain ⟨G2, hG2⟩ : ∃ G2, G2 = upd (upd G a1 (.lst [.int me])) aY (.lst ([V.int me] ++ ts.map V.int)) := ⟨_, rfl⟩
  rw [← hG2] at s2 vY
  rw [← hG2]
  refine ⟨_, rfl, p, C, dx, _, _, rfl, s2 _ _ gp, S.cl, S.seats, stF_sts _ _ _ _ _ _ _ _ _, _, rfl, by omega, by omega, fun J hJ => ?_⟩
  refine lc_range (lo := 0) (n := n.toNat) (fun i G3 => G3 = upd G2 J (.lst ((((upto n).take i).filter fun s => !decide (s ∈ me :: ts)).map V.int))) (by simp) ?_ ?_
  · rintro i G3 hi rfl
    have e9 : (0 : Int) + (i : Int) = ((i : Nat) : Int) := by omega
    refine ⟨rfl, _, rfl, _, rfl, .inl ⟨aY, _, rfl, .inl (SqL.of (same_upd hJ _ _ vY)), rfl, flat_ints (me :: ts), _, rfl, ?_⟩⟩
    rw [filt_snoc (upto_at hi)]
    show (if (!inV (.int (0 + (i : Int))) ((me :: ts).map V.int)) = true then _ else _)
    rw [inV_ints, e9]
    refine ite2 (fun c2 => ?_) (fun c2 => ?_)
    · have c3 : (fun s => !decide (s ∈ me :: ts)) ((i : Nat) : Int) = true := c2
      rw [if_pos c3]
      have lf := List.length_filter_le (fun s => !decide (s ∈ me :: ts)) ((upto n).take i)
      have lu : (upto n).length = n.toNat := upto_len
      refine ⟨_, rfl, _, upd_same, ?_, ?_⟩
      · rw [List.length_map]
        exact Nat.lt_of_le_of_lt (Nat.le_trans lf (show ((upto n).take i).length ≤ 1000 by rw [List.length_take]; omega)) (by decide)
      · rw [upd_upd, List.map_append]; rfl
    · have c3 : ¬ ((fun s => !decide (s ∈ me :: ts)) ((i : Nat) : Int) = true) := c2
      rw [if_neg c3, List.append_nil]
  rintro G3 rfl
  rw [← upto_len, List.take_length]
  have ew : ((upto n).filter fun s => !decide (s ∈ me :: ts)) = others n (me :: ts) := rfl
  rw [ew]
  generalize hW : others n (me :: ts) = wf at q ⊢
  have g2p := s2 _ _ gp
  have pJ : p ≠ J := ne_of_none g2p hJ
  refine ⟨_, rfl, p, C, dx, _, rfl, by rw [upd_ne pJ]; exact g2p, S.cl, S.awaits, (by show 9 < 1000; decide), ?_⟩
  rw [stF_put_awt]
  refine ⟨_, rfl, p, C, dx, _, rfl, upd_same, S.cl, S.state, (by show 9 < 1000; decide), ?_⟩
  rw [stF_put_stt, upd_upd]
  obtain ⟨G4, hG4⟩ : ∃ G4, G4 = upd (upd G2 J (.lst (wf.map V.int))) p (.ins C dx (stF me "asking" si (cnt + 1) (.ref tp) n J hl tg)) := ⟨_, rfl⟩
  rw [← hG4]
  have g4p : G4 p = some (.ins C dx (stF me "asking" si (cnt + 1) (.ref tp) n J hl tg)) := by rw [hG4]; exact upd_same
  have g4J : G4 J = some (.lst (wf.map V.int)) := by rw [hG4, upd_ne pJ.symm]; exact upd_same
  have k4 : ∀ {b : Addr} {o : HO}, b ≠ p → G b = some o → G4 b = some o := fun nb e => by rw [hG4, upd_ne nb]; exact same_upd hJ _ _ (s2 _ _ e)
  have c4 : Chg p H G4 := fun b o nb e => k4 nb (cG _ _ nb e)
  have J0 : H J = none := by
    cases z : H J with
    | none => rfl
    | some o => rw [s2 _ _ (cG _ _ pJ.symm z)] at hJ; cases hJ
  have t4 := k4 ptp.symm gtp
  -- coming in
  obtain ⟨G5, hG5⟩ : ∃ G5, G5 = (if inB "asking" wf = true then upd G4 p (.ins C dx (stF me "in" si (cnt + 1) (.ref tp) n J hl tg)) else G4) := ⟨_, rfl⟩
  have g5p : G5 p = some (.ins C dx (stF me (stB "asking" wf) si (cnt + 1) (.ref tp) n J hl tg)) := by
    rw [hG5]; unfold stB
    cases inB "asking" wf with
    | true => rw [if_pos rfl, if_pos rfl]; exact upd_same
    | false => rw [if_neg (by simp), if_neg (by simp)]; exact g4p
  have k5 : ∀ {b : Addr} {o : HO}, b ≠ p → G4 b = some o → G5 b = some o := fun nb e => by
    rw [hG5]
    cases inB "asking" wf with
    | true => rw [if_pos rfl, upd_ne nb]; exact e
    | false => rw [if_neg (by simp)]; exact e
  have c5 : Chg p H G5 := fun b o nb e => k5 nb (c4 b o nb e)
  have g5J := k5 pJ.symm g4J
  have g5t := k5 ptp.symm t4
  refine ⟨_, rfl, p, dx, _, rfl, g4p, stF_no _ _ _ _ _ _ _ _ _ (by decide +kernel) (by decide +kernel) (by decide +kernel) (by decide +kernel) (by decide +kernel) (by decide +kernel) (by decide +kernel) (by decide +kernel) (by decide +kernel), p, dx, me, "asking", si, cnt + 1, .ref tp, n, J, hl, tg, wf, rfl, g4p, g4J, ?_⟩
  cases hb : inB "asking" wf with
  | true =>
    rw [if_pos rfl]
    have e5 : G5 = (upd G4 p (.ins C dx (stF me "in" si (cnt + 1) (.ref tp) n J hl tg))) := by rw [hG5]; exact (by rw [hb, if_pos rfl])
    rw [← e5]
    refine ⟨_, rfl, p, C, dx, _, _, rfl, g5p, S.cl, S.awaits, stF_awt _ _ _ _ _ _ _ _ _, J, rfl, ⟨_, SqL.of g5J⟩, fun l hl' => ?_⟩
    refine lc_list (K := K) (a := J) (xs := wf.map V.int) (fun i G6 => ∃ acc : List V, G6 l = some (.lst acc) ∧ DpAll K G6 acc ((wf.take i).map (yesD "ask" (cnt + 1))) ∧ Same G5 G6) ⟨[], upd_same, by simpa using DpAll.nil, same_upd hl'⟩ (fun i G6 _ h => by obtain ⟨_, _, _, z⟩ := h; exact SqL.of (z _ _ g5J)) ?_ ?_
    · rintro i x G6 hi ⟨acc, hG, hA, sG⟩
      obtain ⟨y, ey, rfl⟩ := ints_at hi
      have i9 : i < wf.length := (List.getElem?_eq_some_iff.mp ey).1
      have w9 : wf.length ≤ 1000 := by
        rw [← hW]
        have := List.length_filter_le (fun s => !decide (s ∈ me :: ts)) (upto n)
        rw [upto_len] at this
        exact Nat.le_trans this (by omega)
      refine ⟨rfl, ?_⟩
      refine lc_yes ?_
      refine ⟨_, rfl, _, rfl, p, C, dx, _, _, rfl, sG _ _ g5p, S.cl, S.count, stF_cnt _ _ _ _ _ _ _ _ _, by show 2 ≤ sizeLine; decide, ?_⟩
      intro t1 ht1
      refine ⟨by show 2 ≤ sizeLine; decide, ?_⟩
      intro t' ht'
      have sT := (same_upd (o := .tup [.str "ask", .int (cnt + 1)]) ht1).trans (same_upd (o := .tup [.int y, .ref t1]) ht')
      have hG2' := sT _ _ hG
      have hA2 := dps_same sT _ _ hA
      have la := dps_len hA2
      have l2 : acc.length ≤ 1000 := by rw [la, List.length_map, List.length_take]; omega
      refine ⟨acc, hG2', Nat.lt_of_le_of_lt l2 (by decide), acc ++ [.ref t'], upd_same, ?_, fun b o e => by rw [upd_ne (ne_of_none e hl')]; exact sT _ _ (sG _ _ e)⟩
      have e1 : (wf.take (i + 1)).map (yesD "ask" (cnt + 1)) = (wf.take i).map (yesD "ask" (cnt + 1)) ++ [yesD "ask" (cnt + 1) y] := by
        rw [List.take_succ, ey, List.map_append]; rfl
      rw [e1]
      refine dps_chg ⟨_, hG2'⟩ Chg.self _ _ ?_ (dps_app hA2 (.cons (dp_yes (SqT.of upd_same) (SqT.of (same_upd ht' _ _ upd_same))) .nil))
      rw [← e1]
      exact noLs_yes _ _ _
    rintro G6 ⟨acc, hG, hA, sG⟩
    rw [List.length_map, List.take_length] at hA
    have l0 : H l = none := by
      cases z : H l with
      | none => rfl
      | some o =>
        by_cases lp : l = p
        · rw [lp, g5p] at hl'; cases hl'
        · rw [c5 _ _ lp z] at hl'; cases hl'
    have nlJ : l ≠ J := (ne_of_none g5J hl').symm
    exact q l J tp G6 acc l0 J0 nlJ (c5.trans (Chg.same sG)) hG hA (sG _ _ g5J) (SqT.of (sG _ _ g5t)) (sG _ _ g5p)
  | false =>
    rw [if_neg (by simp)]
    have e5 : G5 = G4 := by rw [hG5]; exact (by rw [hb, if_neg (by simp)])
    rw [← e5]
    refine ⟨_, rfl, p, C, dx, _, _, rfl, g5p, S.cl, S.awaits, stF_awt _ _ _ _ _ _ _ _ _, J, rfl, ⟨_, SqL.of g5J⟩, fun l hl' => ?_⟩
    refine lc_list (K := K) (a := J) (xs := wf.map V.int) (fun i G6 => ∃ acc : List V, G6 l = some (.lst acc) ∧ DpAll K G6 acc ((wf.take i).map (yesD "ask" (cnt + 1))) ∧ Same G5 G6) ⟨[], upd_same, by simpa using DpAll.nil, same_upd hl'⟩ (fun i G6 _ h => by obtain ⟨_, _, _, z⟩ := h; exact SqL.of (z _ _ g5J)) ?_ ?_
    · rintro i x G6 hi ⟨acc, hG, hA, sG⟩
      obtain ⟨y, ey, rfl⟩ := ints_at hi
      have i9 : i < wf.length := (List.getElem?_eq_some_iff.mp ey).1
      have w9 : wf.length ≤ 1000 := by
        rw [← hW]
        have := List.length_filter_le (fun s => !decide (s ∈ me :: ts)) (upto n)
        rw [upto_len] at this
        exact Nat.le_trans this (by omega)
      refine ⟨rfl, ?_⟩
      refine lc_yes ?_
      refine ⟨_, rfl, _, rfl, p, C, dx, _, _, rfl, sG _ _ g5p, S.cl, S.count, stF_cnt _ _ _ _ _ _ _ _ _, by show 2 ≤ sizeLine; decide, ?_⟩
      intro t1 ht1
      refine ⟨by show 2 ≤ sizeLine; decide, ?_⟩
      intro t' ht'
      have sT := (same_upd (o := .tup [.str "ask", .int (cnt + 1)]) ht1).trans (same_upd (o := .tup [.int y, .ref t1]) ht')
      have hG2' := sT _ _ hG
      have hA2 := dps_same sT _ _ hA
      have la := dps_len hA2
      have l2 : acc.length ≤ 1000 := by rw [la, List.length_map, List.length_take]; omega
      refine ⟨acc, hG2', Nat.lt_of_le_of_lt l2 (by decide), acc ++ [.ref t'], upd_same, ?_, fun b o e => by rw [upd_ne (ne_of_none e hl')]; exact sT _ _ (sG _ _ e)⟩
      have e1 : (wf.take (i + 1)).map (yesD "ask" (cnt + 1)) = (wf.take i).map (yesD "ask" (cnt + 1)) ++ [yesD "ask" (cnt + 1) y] := by
        rw [List.take_succ, ey, List.map_append]; rfl
      rw [e1]
      refine dps_chg ⟨_, hG2'⟩ Chg.self _ _ ?_ (dps_app hA2 (.cons (dp_yes (SqT.of upd_same) (SqT.of (same_upd ht' _ _ upd_same))) .nil))
      rw [← e1]
      exact noLs_yes _ _ _
    rintro G6 ⟨acc, hG, hA, sG⟩
    rw [List.length_map, List.take_length] at hA
    have l0 : H l = none := by
      cases z : H l with
      | none => rfl
      | some o =>
        by_cases lp : l = p
        · rw [lp, g5p] at hl'; cases hl'
        · rw [c5 _ _ lp z] at hl'; cases hl'
    have nlJ : l ≠ J := (ne_of_none g5J hl').symm
    exact q l J tp G6 acc l0 J0 nlJ (c5.trans (Chg.same sG)) hG hA (sG _ _ g5J) (SqT.of (sG _ _ g5t)) (sG _ _ g5p)
end

end G0
/-! A def with the cell __class__: its first statement says super().__init__(..). -/
namespace G0
open PySem PySem.Spec PyProof.Rows L2 NdefX
abbrev nfS (name qual : Str) (params : Arguments) (body : List Stmt) (scope : Scope) (cc cda : Addr) : NF := ⟨name, qual, params, body, scope, [("__class__", cc)], cda⟩
/-- a statement whose code must be told -/
def P1 (X : Cx) (body : List Stmt) (st : Stmt) (t : TS) : Prop :=
  ∀ (pins : List (Addr × Obj)) (s : Shared) (σ : L2.St) (H : Hp) (D : Ends), Inv X pins σ H s → t D σ H →
    _root_.PySem.wpAt (model X.prog X.w) X.A (.func body X.env) (exec st X.env) (SP X pins D) X.xe s
theorem fnS_of {CX : CXT} {P : Program} {w : World} {K : PySem.W.Frag} {mg : Str → Option Value} {base : Heap} {k : Nat}
    {f cc cda : Addr} {name qual : Str} {params : Arguments} {st : Stmt} {body : List Stmt} {scope : Scope} {dV kV doc pm ct oc cl : Value} {v : Option Value}
    {an od cld : Option Addr} {osl csl : Array (Option Value)} {N ps : List Str} {sp : Sp}
    (lk : K.lookup f = some ⟨oc, od, .func (PySem.W.ksFn name qual params (st :: body) scope dV kV doc pm an (.ref cda) ct cc), osl⟩)
    (coded : PySem.W.codeIn K (.ref cda) qual = true) (lc : K.lookup cc = some ⟨cl, cld, .cell v, csl⟩) (S : NScope N ps ["__class__"] scope)
    (len : ∀ zs G R W, sp zs G R W → zs.length = ps.length)
    (inner : ∀ (A : Around) (outer : List Env) (s : Shared) (H : Hp) (vs : List V) (Q : VK) (E : XK),
      Room k (A.deeper (envF (nfS name qual params (st :: body) scope cc cda) f s.heap.objs.size)) → sp vs H Q E →
      ∃ t1 t2, P1 (ncx CX P w K mg base N (nfS name qual params (st :: body) scope cc cda) f A outer s H E) (st :: body) st t1 ∧
        PSs (ncx CX P w K mg base N (nfS name qual params (st :: body) scope cc cda) f A outer s H E) body t2 ∧
        t1 { nx := fun σ' H' => t2 { nx := fun _ H' => Q .non H', rt := Q } σ' H', rt := Q } (startF N vs [none]) H) :
    FnOk P w K mg base CX (k + 1) f (PySem.W.ksFn name qual params (st :: body) scope dV kV doc pm an (.ref cda) ct cc) ps sp := by
  refine ⟨len, fun A outer s H given us vs Q E hr e0 bd r hsp => ?_⟩
  have hl := len _ _ _ _ hsp
  have KX : K.In s.heap := e0.mod.kin.keeps fun b o z => (e0.bs b o z).1
  have lim : s.heap.NoLimit := e0.mod.nolimit.keeps fun b o e => (e0.bs b o e).1
  have CA : CellsAt [("__class__", cc)] ["__class__"] [none] s.heap H := {
    len := rfl
    all := fun y c e => by
      have : c = cc := by
        simp only [List.lookup] at e
        split at e
        · exact (Option.some.inj e).symm
        · cases e
      subst this
      exact ⟨(e0.bs _ _ (e0.mod.kin _ _ lc)).2, v, ⟨_, KX _ _ lc, rfl⟩⟩
    inj := fun x y c h1 h2 => by
      have q : ∀ z c', List.lookup z [(("__class__" : Str), cc)] = some c' → z = "__class__" := fun z c' e => by
        simp only [List.lookup] at e
        split at e
        · rename_i h
          exact beq_iff_eq.mp h
        · cases e
      rw [q _ _ h1, q _ _ h2]
    has := fun i y e => by
      match i, e with
      | 0, e =>
        cases e
        exact ⟨cc, rfl, fun v h => by cases h⟩
      | i + 1, e => cases e }
  refine codeAny_call_function hr.depth (KX _ _ lk) rfl S.co S.gen rfl (PySem.W.codeRec_of KX coded) (bd _ _ _ _ ?_)
  refine wpAny_newFunctionEnv S.nocell (fun ⟨n, _⟩ hy => S.par n (List.of_mem_zip hy).1) (fun h₁ hns hsb => ⟨lim.fresh _ hsb, ?_⟩) S.kind
  show codeAny _ _ (.func (st :: body) (envF (nfS name qual params (st :: body) scope cc cda) f s.heap.objs.size)) _ _
  refine PySem.ks_codeAny_funcAt ?_
  have kp : ∀ b o, s.heap.get? b = some o → h₁.get? b = some o := fun b o e => hsb.extBut b o (Nat.ne_of_lt (Heap.lt_size e)) (Heap.get?_push_of_some _ e)
  obtain ⟨t1, t2, h1, h2, hq⟩ := inner A outer s H vs Q E (hr.deeper _) hsp
  have I : Inv (ncx CX P w K mg base N (nfS name qual params (st :: body) scope cc cda) f A outer s H E) [] (startF N vs [none]) H { s with heap := h₁, toks := s.toks + (ps.zip us).length } := inv_startN S hr.hd e0 hl r CA hns kp
  have fin : ∀ {σ' : L2.St} {H' : Hp} {v : V} {u : Value} {s' : Shared}, Inv (ncx CX P w K mg base N (nfS name qual params (st :: body) scope cc cda) f A outer s H E) [] σ' H' s' → L2.RelV v u → Q v H' → CE outer P w H s Q u s' :=
    fun {σ' H' v u s'} J rv q => ⟨v, H', J.os, J.bare, J.base, J.hok, rv, q⟩
  refine PySem.ks_wpAt_execs_cons (PySem.ks_wpAt_mono (h1 [] _ (startF N vs [none]) H _ I hq) (fun fl s' hs => ?_) fun e s' hs => hs)
  match fl, hs with
  | .ret u, ⟨v, σ', H', J, rv, q⟩ => exact fin J rv q
  | .brk, ⟨_, _, _, q⟩ => exact False.elim q
  | .cont, ⟨_, _, _, q⟩ => exact False.elim q
  | .next, ⟨σ', H', J, q⟩ =>
    refine _root_.PySem.wpAt_of_wpAny (wpAny_mono (h2.run [] _ σ' H' _ J q) (fun fl s' hs => ?_) fun e s' hs => hs)
    match fl, hs with
    | .ret u, ⟨v, σ', H', J, rv, q⟩ => exact fin J rv q
    | .next, ⟨σ', H', J, q⟩ => exact fin (v := V.non) (u := Value.none) J rfl q
    | .brk, ⟨_, _, _, q⟩ => exact False.elim q
    | .cont, ⟨_, _, _, q⟩ => exact False.elim q
end G0
namespace G0
open PySem PySem.Spec PyProof.Rows L2 NdefX
/-- what super() without arguments asks of the text and the written part -/
structure SupF (P : Program) (K : PySem.W.Frag) (N : List Str) (f cc cda D : Addr) (fd : FuncData) (params : Arguments) (scope : Scope) : Prop where
  fun_ : ∃ oc od osl, K.lookup f = some ⟨oc, od, .func fd, osl⟩ ∧ fd.params = params
  arg : ∃ ar : Arg, (params.posonlyargs ++ params.args).head? = some ar ∧ N[0]? = some ar.arg ∧ scope.names.lookup ar.arg = some .local
  code : ∃ ccl cdd vs ccs file tf, K.lookup cda = some ⟨ccl, cdd, .fields vs, ccs⟩ ∧ vs[2]? = some (.str file tf) ∧ ((P.main.file : Str) == file) = true
  cell : ∃ cl cld csl, K.lookup cc = some ⟨cl, cld, .cell (some (.ref D)), csl⟩
  cls : ∃ cdD, PySem.W.clsIn K D = some cdD
  miss : PySem.W.nsIn K mainGlobals "super" = some none
  sup : scope.names.lookup ("super" : Str) = some .globalImplicit
  own : scope.names.lookup ("__class__" : Str) = some .free
  kind : scope.kind = .function
  top : (P.main.scope.names.lookup ("super" : Str)).isSome = false
  any_ : PySem.W.nsIn K cStatics "thirdparty.any" = some none
/-- super() is made: an object of its own, held by a pin -/
theorem sup_node {CX : CXT} {P : Program} {w : World} {K : PySem.W.Frag} {mg : Str → Option Value} {base : Heap} {N : List Str}
    {f cc cda D a C : Addr} {name qual : Str} {params : Arguments} {st : List Stmt} {scope : Scope} {fd : FuncData}
    {A : Around} {outer : List Env} {s0 : Shared} {H0 : Hp} {E : XK} {pins : List (Addr × Obj)} {s : Shared} {σ : L2.St} {H : Hp} {p0 p1 : Pos} {attr : Str} {whole : Sem Value} {Q : Value → Shared → Prop} {EE : Value → Shared → Prop} {ox : Obj} {odx : Option Obj}
    (F : SupF P K N f cc cda D fd params scope)
    (I : Inv (ncx CX P w K mg base N (nfS name qual params st scope cc cda) f A outer s0 H0 E) pins σ H s) (hs : σ[0]? = some (some (.ref a)))
    (J : PySem.W.InstAt s.heap a ox C odx) (hsub : PySem.W.mroIn K C (.ref D) = some true) (hat : (attr == ("__class__" : Str)) = false)
    (h : ∀ h', (∀ b o, s.heap.get? b = some o → h'.get? b = some o) → h'.get? s.heap.objs.size = some (PySem.W.ks_superObj D a C) → Q (.ref s.heap.objs.size) { s with heap := h' }) :
    _root_.PySem.wpAt (model P w) (A.deeper (envF (nfS name qual params st scope cc cda) f s0.heap.objs.size)) (.func st (envF (nfS name qual params st scope cc cda) f s0.heap.objs.size))
      (attributeBase (.Call (.Name "super" p0) [] [] p1) attr (envF (nfS name qual params st scope cc cda) f s0.heap.objs.size) whole) Q EE s := by
  obtain ⟨oc, od, osl, hf, hpar⟩ := F.fun_
  obtain ⟨ar, hp, hN, hka⟩ := F.arg
  obtain ⟨ccl, cdd, vs, ccs, file, tf, hcode, hvs, hfile⟩ := F.code
  obtain ⟨cl, cld, csl, hcell⟩ := F.cell
  obtain ⟨cdD, hD⟩ := F.cls
  have X : K.In s.heap := I.kIn
  have M : Mod K mg base := I.mod
  obtain ⟨mb, hb, hboot⟩ := M.blt
  obtain ⟨m, hns, hlook⟩ := I.loc
  obtain ⟨u, ru, look⟩ := hlook 0 ar.arg (.ref a) hN hs (.inl hka)
  have ru : u = Value.ref a := ru
  subst ru
  have hv : m ar.arg = some (.ref a) := by
    rcases look with ⟨_, e⟩ | ⟨e, _⟩
    · exact e
    · exfalso
      have e : scope.names.lookup ar.arg = some .cell ∨ scope.names.lookup ar.arg = some .free := e
      rw [hka] at e
      rcases e with e | e <;> cases e
  have kb : ∀ b o, base.get? b = some o → s.heap.get? b = some o := I.bk
  obtain ⟨hh, g, d, t, os⟩ := s
  obtain ⟨oD, hD1, hD2⟩ : ∃ oD, hh.get? D = some oD ∧ oD.data = .cls cdD := by
    unfold PySem.W.clsIn at hD
    split at hD
    · rename_i c d cd' sl ho
      cases hD
      exact ⟨_, X _ _ ho, rfl⟩
    · cases hD
  subst hpar
  refine PySem.ks_wpAt_super_base F.sup F.own hat rfl (X _ _ hf) rfl hp rfl (X _ _ hcode) rfl hvs hfile F.top ?_
  refine PySem.W.ks_loadName_global F.kind F.sup (PySem.Calls.loadGlobal_builtin (M.glob.keeps kb) (PySem.W.mg_none_of M.kin M.glob F.miss) (hb.keeps kb) ((hboot _ (by decide +kernel)).trans (show bootBuiltins "super" = some (.type "super") by first | rfl | decide +kernel)) ⟨rfl, ?_⟩)
  refine wpAny_loadName_free F.kind F.own rfl ⟨_, X _ _ hcell, rfl⟩ ?_
  refine wpAny_loadName_local F.kind hka hns hv ?_
  refine PySem.ks_wpAny_isType_cls hD1 hD2 ⟨rfl, ?_⟩
  refine PySem.ks_wpAny_call_super hD1 hD2 J.at_ J.cls (fun c e => ?_) (PySem.W.looks_mroIn X hsub) (fun h' e k => h h' k e)
  have := J.no
  unfold PySem.W.notCls at this
  rw [e] at this
  exact Bool.noConfusion this
end G0
namespace G0
open PySem PySem.Spec PyProof.Rows L2 NdefX
section
variable {prog : Program} {w : World} {A : Around} {E : Value → Shared → Prop} {h : Heap} {g : Array GenState} {d : Drawn} {t : Nat} {os : OsState}
/-- a bound ValueError.__init__ is called: the exception's arguments are laid anew -/
theorem mw_code {nm q : Str} {C N : Addr} {bs bm : List Value} {hdct : Bool} {sn : List Str} {sub : List Value} {ab : Bool} {col : Option Bool} {dd : Option Addr} {k0 k1 k2 k3 k5 : Option Value} {u e t0 : Addr} {rest : List Value} {Q : Value → Shared → Prop}
    (hC : h.get? C = some (excClassObj nm q C N bs bm hdct sn sub ab col dd k0 k1 k2 k3 k5 "ValueError.__new__")) (he : h.get? e = some (PySem.HandSPX.excO C t0)) (hu : h.get? u = some (PySem.W.kxs_mw "ValueError.__init__" e)) (few : rest.length ≤ sizeLine)
    (k : ∀ h' t1, (∀ b o, b ≠ e → h.get? b = some o → h'.get? b = some o) → h'.get? e = some (PySem.HandSPX.excO C t1) → Q .none ⟨h', g, d, t, os⟩) :
    wpAny (model prog w) A (call (.ref u) rest) Q E ⟨h, g, d, t, os⟩ := by
  refine wpAny_call (codeAny_of_tree ?_)
  show wpAny _ A.in1 (callAny (.ref u) ⟨rest, []⟩) _ _ _
  simp only [callAny]
  refine wpAny_bind (wpAny_load hu ?_)
  simp only [PySem.W.kxs_mw, show (Value.type "method-wrapper" == Value.type "method" || Value.type "method-wrapper" == Value.type "builtin_function_or_method" || Value.type "method-wrapper" == Value.type "method-wrapper") = true by decide, if_true]
  refine PySem.W.KFB.if_so (by decide) ?_
  refine wpAny_bind (PySem.ESX.check_bound PySem.F.excBase_ValueError hC he rfl ?_)
  refine wpAny_bind (wpAny_pure (wpAny_pure ?_))
  refine ⟨Code.quiet_builtin _ (by decide +kernel), codeAny_builtin PySem.F.excBase_ValueError.initEntry ?_⟩
  rw [Around.under_plainId PySem.F.excBase_ValueError.init.plain _]
  wp_walk
  refine k _ h.objs.size (fun b o hb ho => ?_) ?_
  · rw [Heap.get?_update_other _ _ (Ne.symm hb)]
    exact Heap.get?_push_of_some _ ho
  · rw [Heap.get?_update_self _ (Heap.get?_push_of_some _ he) rfl]
    rfl
end
section
variable {X : Cx} {pins : List (Addr × Obj)} {σ : L2.St} {H : Hp} {s : Shared} {a C u : Addr} {us : List Value} {Q : Value → Shared → Prop} {E : Value → Shared → Prop} {A : Around}
theorem mw_ok (T : OexC X.K C) (I : Inv X pins σ H s) (e : H a = some (exo a C none)) (hu : s.heap.get? u = some (PySem.W.kxs_mw "ValueError.__init__" a)) (hl : us.length ≤ sizeLine) (k : ∀ s', Inv X pins σ H s' → Q .none s') :
    wpAny (model X.prog X.w) A (call (.ref u) us) Q E s := by
  obtain ⟨nm, q, N, bs, bm, sn, sub, ab, col, dd, k0, k1, k2, k3, k5, hC, hbm⟩ := T.cls
  obtain ⟨t1, ho⟩ := exo_at I.hok e
  obtain ⟨hp, g, d, t, os⟩ := s
  refine mw_code (I.kIn _ _ hC) ho hu hl fun h' t2 keep hx => ?_
  have J := I.write (t' := t) (x := a) (e := a) (o := exo a C none) (by rw [e]; exact True.intro) (.inl rfl) keep ⟨_, hx⟩ (exo_ok hx)
  have eu : upd H a (exo a C none) = H := by
    funext b
    by_cases hb : b = a
    · rw [hb, upd_same, e]
    · rw [upd_ne hb]
  rw [eu] at J
  exact k _ J
end
end G0
namespace G0
open PySem PySem.Spec PyProof.Rows L2 NdefX
/-- super().__init__(..) of an own exception -/
def tSupX (K : PySem.W.Frag) (D : Addr) (ta : TA) : TS := fun Dn σ H => ∃ a C : Addr, σ[0]? = some (some (.ref a)) ∧ OexC K C ∧ H a = some (exo a C none) ∧ PySem.W.mroIn K C (.ref D) = some true ∧
  PySem.W.ks_superIn K C D "__init__" = some (some (.builtin "ValueError.__init__")) ∧ PySem.W.subIn K (.ref C) (.type "ValueError") = some true ∧
  ta σ H fun vs H1 => vs.length ≤ 1000 ∧ H1 a = some (exo a C none) ∧ Dn.nx σ H1
theorem p1_supX {CX : CXT} {P : Program} {w : World} {K : PySem.W.Frag} {mg : Str → Option Value} {base : Heap} {N : List Str}
    {f cc cda D : Addr} {name qual : Str} {params : Arguments} {st : List Stmt} {scope : Scope} {fd : FuncData}
    {A : Around} {outer : List Env} {s0 : Shared} {H0 : Hp} {E : XK} {p0 p1 ap pos pos' : Pos} {e : Expr} {es : List Expr} {ta : TA} {pl : Sem Bool}
    (F : SupF P K N f cc cda D fd params scope) (ha : PA (ncx CX P w K mg base N (nfS name qual params st scope cc cda) f A outer s0 H0 E) (e :: es) ta)
    (he : starEach (e :: es) (envF (nfS name qual params st scope cc cda) f s0.heap.objs.size) = (false, eval e (envF (nfS name qual params st scope cc cda) f s0.heap.objs.size)) :: starEach es (envF (nfS name qual params st scope cc cda) f s0.heap.objs.size) := by rfl)
    (hpl : (backTo pos (starEach es (envF (nfS name qual params st scope cc cda) f s0.heap.objs.size))).any (·.1) = false := by rfl)
    (hsw : swapsWith (.Call (.Attribute (.Call (.Name "super" p0) [] [] p1) "__init__" ap) (e :: es) [] pos) none pos'.line (envF (nfS name qual params st scope cc cda) f s0.heap.objs.size) = pure false := by rfl)
    (hev : eval (.Call (.Attribute (.Call (.Name "super" p0) [] [] p1) "__init__" ap) (e :: es) [] pos) (envF (nfS name qual params st scope cc cda) f s0.heap.objs.size) = (do
      let ov ← attributeBase (.Call (.Name "super" p0) [] [] p1) "__init__" (envF (nfS name qual params st scope cc cda) f s0.heap.objs.size) (eval (.Call (.Name "super" p0) [] [] p1) (envF (nfS name qual params st scope cc cda) f s0.heap.objs.size))
      standAt ap.atName
      let (f', first) ← holding [ov] (getMethod ov "__init__" pl)
      callWith pos f' first (backTo pos (starEach (e :: es) (envF (nfS name qual params st scope cc cda) f s0.heap.objs.size))) []) := by rfl) :
    P1 (ncx CX P w K mg base N (nfS name qual params st scope cc cda) f A outer s0 H0 E) st (.Expr (.Call (.Attribute (.Call (.Name "super" p0) [] [] p1) "__init__" ap) (e :: es) [] pos) pos') (tSupX K D ta) := by
  rintro pins s σ H Dn I ⟨a, C, hs, T, ea, hm, hsu, hve, q⟩
  obtain ⟨t0, ho⟩ := exo_at I.hok ea
  have J : PySem.W.InstAt s.heap a _ C none := ⟨ho, rfl, rfl, trivial⟩
  have fresh := I.hok.fresh (Nat.le_refl s.heap.objs.size)
  refine PySem.ks_wpAt_Expr_any (PySem.ks_wpAt_MethodCall (sup_node F I hs J hm (by decide) fun h' k e1 => ?_) hev) I.quiet hsw
  obtain ⟨hh, g, d, t, os⟩ := s
  have I1 : Inv (ncx CX P w K mg base N (nfS name qual params st scope cc cda) f A outer s0 H0 E) pins σ H ⟨h', g, d, t, os⟩ := I.kept (t' := t) k
  have X1 : K.In h' := I1.kIn
  obtain ⟨t1, ho1⟩ := exo_at I1.hok ea
  have J1 : PySem.W.InstAt h' a _ C none := ⟨ho1, rfl, rfl, trivial⟩
  have hI : PySem.W.Looks (model P w) h' (isInstance (.ref a) (.type "ValueError")) true := J1.type.andThen (PySem.W.looks_subIn X1 hve)
  cases hc : PySem.W.clsIn K C with
  | none => unfold PySem.W.ks_superIn at hsu; rw [hc] at hsu; cases hsu
  | some cd =>
    unfold PySem.W.ks_superIn at hsu
    rw [hc] at hsu
    refine PySem.W.kxs_getMethod PySem.W.kxs_ValueError e1 (PySem.W.looks_opaque X1 F.any_) (l₀ := cd.mro) (fun A Q E s k q => wpAny_bind ((PySem.W.looks_clsIn X1 hc) A _ E s k (wpAny_pure q))) rfl X1 hsu hI (PySem.W.ks_ne X1 J1 hc) (by decide) ?_
    have k2 : ∀ b o, h'.get? b = some o → (h'.push (PySem.W.kxs_mw "ValueError.__init__" a)).get? b = some o := fun b o e => Heap.get?_push_of_some _ e
    have I2 : Inv (ncx CX P w K mg base N (nfS name qual params st scope cc cda) f A outer s0 H0 E) pins σ H ⟨h'.push (PySem.W.kxs_mw "ValueError.__init__" a), g, d, t + 1, os⟩ := I1.kept (t' := t + 1) k2
    have pin : ∀ p ∈ pins ++ [(h'.objs.size, PySem.W.kxs_mw "ValueError.__init__" a)], (h'.push (PySem.W.kxs_mw "ValueError.__init__" a)).get? p.1 = some p.2 ∧ H p.1 = none ∧
        p.1 ≠ (envF (nfS name qual params st scope cc cda) f s0.heap.objs.size).locals ∧ p.1 ∉ frs outer ∧ ∀ v, p.2.data ≠ .cell v := by
      intro p hp
      rcases List.mem_append.mp hp with hp | hp
      · exact I2.pin p (List.mem_append_right _ hp)
      · rw [List.mem_singleton.mp hp]
        exact ⟨Heap.get?_push_at rfl rfl, I1.hok.fresh (Nat.le_refl _), fun z => absurd (Nat.lt_of_le_of_lt (Nat.le_of_eq z) I1.lt) (Nat.lt_irrefl _), I1.nofs (Nat.le_refl _), fun v z => by cases z⟩
    have I3 := I2.pins_of pin
    refine PySem.W.kxs_callWith1 (h₀ := base) (L := (envF (nfS name qual params st scope cc cda) f s0.heap.objs.size).locals) (news := [(h'.objs.size, PySem.W.kxs_mw "ValueError.__init__" a)]) (i := "ValueError.__init__") (x := a) ?_ (List.mem_singleton.mpr rfl) ?_ he hpl
    · intro p hp
      have hp := List.mem_singleton.mp hp
      subst hp
      refine ⟨Heap.get?_push_at rfl rfl, fun z => absurd (Nat.lt_of_le_of_lt (Nat.le_of_eq z) I1.lt) (Nat.lt_irrefl _), ?_⟩
      cases z : base.get? h'.objs.size with
      | none => rfl
      | some o => exact absurd (Heap.lt_size (I1.bk _ _ z)) (Nat.lt_irrefl _)
    · refine wpAny_mono (ha.run pos _ _ σ H _ I3 q) (fun us s3 got => ?_) fun e s' h => h
      obtain ⟨vs, H3, I4, r, vl, ea3, qn⟩ := got
      have hu := (I4.pin (h'.objs.size, PySem.W.kxs_mw "ValueError.__init__" a) (List.mem_append_right _ (List.mem_append_right _ (List.mem_singleton.mpr rfl)))).1
      refine ⟨hu, mw_ok T I4 ea3 hu (by rw [← r.length, sizeLine_eq]; omega) fun s' I5 => ?_⟩
      exact ⟨σ, H3, I5.unpinned, qn⟩
end G0
namespace G0
open PySem PySem.Spec PyProof.Rows L2 NdefX
/-- __init__ of an own exception: super().__init__('..'), then self.f = y -/
def spXI (C : Addr) (fld : Str) : Sp := fun vs H Q _ => ∃ (a : Addr) (y : V), vs = [.ref a, y] ∧ H a = some (exo a C none) ∧ ∀ dx, H dx = none → dx ≠ a → Q .non (upd (upd H dx (exd dx [(fld, y)])) a (exo a C (some dx)))
/-- what an own exception class asks -/
structure XcK (K : PySem.W.Frag) (C : Addr) (fld : Str) : Prop where
  T : OexC K C
  mro : PySem.W.mroIn K C (.ref C) = some true
  sup : PySem.W.ks_superIn K C C "__init__" = some (some (.builtin "ValueError.__init__"))
  ve : PySem.W.subIn K (.ref C) (.type "ValueError") = some true
  no : PySem.W.findIn K (.ref C) fld = some none
theorem ok_xinit {CX : CXT} {P : Program} {w : World} {K : PySem.W.Frag} {mg : Str → Option Value} {base : Heap}
    {f cc cda C : Addr} {name qual y fld m : Str} {params : Arguments} {scope : Scope} {dV kV doc pm ct oc cl : Value} {v : Option Value}
    {an od cld : Option Addr} {osl csl : Array (Option Value)} {p0 p1 ap mp pos pos' q0 q1 q2 q3 : Pos} {j : Nat}
    (lk : K.lookup f = some ⟨oc, od, .func (PySem.W.ksFn name qual params [.Expr (.Call (.Attribute (.Call (.Name "super" p0) [] [] p1) "__init__" ap) [.Constant (.str m) j mp] [] pos) pos',
      .Assign [.Attribute (.Name "self" q0) fld q1] (.Name y q2) q3] scope dV kV doc pm an (.ref cda) ct cc), osl⟩)
    (coded : PySem.W.codeIn K (.ref cda) qual = true) (lc : K.lookup cc = some ⟨cl, cld, .cell v, csl⟩)
    (S : NScope ["self", y, "__class__"] ["self", y] ["__class__"] scope) (X : XcK K C fld) (hy1 : (y == ("__debug__" : Str)) = false) (hy2 : (y == ("__classdict__" : Str)) = false)
    (hev : ∀ env : Env, ∃ pl : Sem Bool, eval (.Call (.Attribute (.Call (.Name "super" p0) [] [] p1) "__init__" ap) [.Constant (.str m) j mp] [] pos) env = (do
      let ov ← attributeBase (.Call (.Name "super" p0) [] [] p1) "__init__" env (eval (.Call (.Name "super" p0) [] [] p1) env)
      standAt ap.atName
      let (f', first) ← holding [ov] (getMethod ov "__init__" pl)
      callWith pos f' first (backTo pos (starEach [.Constant (.str m) j mp] env)) []))
    (hsw : ∀ env : Env, swapsWith (.Call (.Attribute (.Call (.Name "super" p0) [] [] p1) "__init__" ap) [.Constant (.str m) j mp] [] pos) none pos'.line env = pure false) (hs2 : ∀ env : Env, swapsWith (.Name y q2) (some (.Attribute (.Name "self" q0) fld q1)) q3.line env = pure false)
    (F : SupF P K ["self", y, "__class__"] f cc cda C (PySem.W.ksFn name qual params [.Expr (.Call (.Attribute (.Call (.Name "super" p0) [] [] p1) "__init__" ap) [.Constant (.str m) j mp] [] pos) pos',
      .Assign [.Attribute (.Name "self" q0) fld q1] (.Name y q2) q3] scope dV kV doc pm an (.ref cda) ct cc) params scope) :
    FnOk P w K mg base CX (0 + 1) f (PySem.W.ksFn name qual params [.Expr (.Call (.Attribute (.Call (.Name "super" p0) [] [] p1) "__init__" ap) [.Constant (.str m) j mp] [] pos) pos',
      .Assign [.Attribute (.Name "self" q0) fld q1] (.Name y q2) q3] scope dV kV doc pm an (.ref cda) ct cc) ["self", y] (spXI C fld) := by
  refine fnS_of lk coded lc S ?_ fun A outer s H vs Q E hr h => ?_
  · rintro vs H Q E ⟨a, z, rfl, _⟩
    rfl
  · obtain ⟨a, z, rfl, ea, q⟩ := h
    obtain ⟨pl, hpl⟩ := hev (envF (nfS name qual params [.Expr (.Call (.Attribute (.Call (.Name "super" p0) [] [] p1) "__init__" ap) [.Constant (.str m) j mp] [] pos) pos', .Assign [.Attribute (.Name "self" q0) fld q1] (.Name y q2) q3] scope cc cda) f s.heap.objs.size)
    refine ⟨_, _, p1_supX F (pa_cons pe_str pa_nil) (hsw := hsw _) (hev := hpl), pss_one (ps_ost (pv 0 (by rfl) (.inl (S.par _ (by simp)))) (pv 1 (by rfl) (.inl (S.par _ (by simp))) hy1 hy2) (hs2 _)), ?_⟩
    refine ⟨a, C, rfl, X.T, ea, X.mro, X.sup, X.ve, by show 1 ≤ 1000; decide, ea, ?_⟩
    exact ⟨_, rfl, _, rfl, a, C, rfl, X.T, X.no, .inl ⟨ea, fun dx h1 h2 => q dx h1 h2⟩⟩
end G0
namespace G0
open PySem PySem.Spec PyProof.Rows L2 NdefX
/-- raise X(e) -/
theorem ps_raiseX {X : Cx} {W : WX} {x y fld : Str} {C fI : Addr} {fd : FuncData} {p pos pos' : Pos} {e : Expr} {te : TE} (T : OexC X.K C) (iC : PySem.W.findIn X.K (.ref C) "__init__" = some (some (.ref fI)))
    (tI : PySem.W.typeIn X.K (.ref fI) = some (.type "function")) (F1 : FnOk X.prog X.w X.K X.mg X.base CX0 1 fI fd ["self", y] (spXI C fld)) (hb : Binds X.K fd ["self", y] []) (hr : Room 2 X.A)
    (hg : Gl X x) (hm : X.mg x = some (.ref C)) (hc : X.calm = true) (tk : Takes X W) (ha : PE X e te) (hdb : (x == ("__debug__" : Str)) = false := by decide)
    (he : starEach [e] X.env = (false, eval e X.env) :: starEach [] X.env := by rfl) (hpl : (backTo pos (starEach [] X.env)).any (·.1) = false := by rfl) :
    PS X (.Raise (some (.Call (.Name x p) [e] [] pos)) none pos') (fun _ σ H => tMkO C (spXI C fld) [] (tCons te tNil) σ H fun cls d H' => W cls d σ H') :=
  ps_raise hc tk (pmk_oex T iC tI F1 hr hb .nil pass0 hg hm (pa_cons (hs := he) ha pa_nil) hdb he hpl)
theorem xc_done {C : Addr} {fld : Str} {y : V} {H1 : Hp} {R : XK} (h : ∀ d, H1 d = none → R (.ref C) (some d) (upd H1 d (.xd [(fld, y)]))) :
    [y].length ≤ 1000 ∧ ∀ a, H1 a = none → spXI C fld (.ref a :: ([y] ++ [])) (upd H1 a (exo a C none))
      (fun v H2 => v = .non ∧ ∃ (d : Addr) (fs : List (Str × V)), H2 a = some (exo a C (some d)) ∧ H2 d = some (exd d fs) ∧ H1 d = none ∧ R (.ref C) (some d) (upd (del H2 a) d (.xd fs))) (fun _ _ _ => False) := by
  refine ⟨by show 1 ≤ 1000; decide, fun a ha => ⟨a, y, rfl, upd_same, fun dx h1 h2 => ?_⟩⟩
  have hd : H1 dx = none := by rw [upd_ne h2] at h1; exact h1
  refine ⟨rfl, dx, [(fld, y)], upd_same, by rw [upd_ne h2, upd_same], hd, ?_⟩
  have e : upd (del (upd (upd (upd H1 a (exo a C none)) dx (exd dx [(fld, y)])) a (exo a C (some dx))) a) dx (.xd [(fld, y)]) = upd H1 dx (.xd [(fld, y)]) := by
    funext b
    by_cases c : b = dx
    · subst c; rw [upd_same, upd_same]
    · rw [upd_ne c, upd_ne c]
      by_cases c2 : b = a
      · subst c2; rw [del_same, ha]
      · rw [del_ne c2, upd_ne c2, upd_ne c, upd_ne c2]
  rw [e]
  exact h dx hd
end G0
namespace G0
open PySem PySem.Spec PyProof.Rows L2 NdefX ClX
/-- super().__init__(..) of an instance of an own class, D's base giving a def -/
def tSupM (K : PySem.W.Frag) (D f2 : Addr) (sp : Sp) (ta : TA) : TS := fun Dn σ H => ∃ (a C dx : Addr) (fs : List (Str × V)), σ[0]? = some (some (.ref a)) ∧ H a = some (.ins C dx fs) ∧ PySem.W.mroIn K C (.ref D) = some true ∧
  PySem.W.ks_superIn K C D "__init__" = some (some (.ref f2)) ∧ PySem.W.typeIn K (.ref f2) = some (.type "function") ∧ PySem.W.fnIn K f2 = true ∧
  ta σ H fun vs H1 => sp (.ref a :: vs) H1 (fun _ H2 => Dn.nx σ H2) (fun _ _ _ => False)
theorem p1_supM {CX : CXT} {P : Program} {w : World} {K : PySem.W.Frag} {mg : Str → Option Value} {base : Heap} {N : List Str} {k2 : Nat} {sp : Sp}
    {f cc cda D f2 : Addr} {name qual : Str} {params : Arguments} {st : List Stmt} {scope : Scope} {fd : FuncData}
    {A : Around} {outer : List Env} {s0 : Shared} {H0 : Hp} {E : XK} {p0 p1 ap pos pos' : Pos} {e : Expr} {es : List Expr} {ta : TA} {pl : Sem Bool}
    (F : SupF P K N f cc cda D fd params scope) (F2 : FnR P w K mg base CX0 k2 f2 sp) (hr : Room k2 (A.deeper (envF (nfS name qual params st scope cc cda) f s0.heap.objs.size)))
    (ha : PA (ncx CX P w K mg base N (nfS name qual params st scope cc cda) f A outer s0 H0 E) (e :: es) ta)
    (he : starEach (e :: es) (envF (nfS name qual params st scope cc cda) f s0.heap.objs.size) = (false, eval e (envF (nfS name qual params st scope cc cda) f s0.heap.objs.size)) :: starEach es (envF (nfS name qual params st scope cc cda) f s0.heap.objs.size) := by rfl)
    (hpl : (backTo pos (starEach es (envF (nfS name qual params st scope cc cda) f s0.heap.objs.size))).any (·.1) = false := by rfl)
    (hsw : swapsWith (.Call (.Attribute (.Call (.Name "super" p0) [] [] p1) "__init__" ap) (e :: es) [] pos) none pos'.line (envF (nfS name qual params st scope cc cda) f s0.heap.objs.size) = pure false := by rfl)
    (hev : eval (.Call (.Attribute (.Call (.Name "super" p0) [] [] p1) "__init__" ap) (e :: es) [] pos) (envF (nfS name qual params st scope cc cda) f s0.heap.objs.size) = (do
      let ov ← attributeBase (.Call (.Name "super" p0) [] [] p1) "__init__" (envF (nfS name qual params st scope cc cda) f s0.heap.objs.size) (eval (.Call (.Name "super" p0) [] [] p1) (envF (nfS name qual params st scope cc cda) f s0.heap.objs.size))
      standAt ap.atName
      let (f', first) ← holding [ov] (getMethod ov "__init__" pl)
      callWith pos f' first (backTo pos (starEach (e :: es) (envF (nfS name qual params st scope cc cda) f s0.heap.objs.size))) []) := by rfl) :
    P1 (ncx CX P w K mg base N (nfS name qual params st scope cc cda) f A outer s0 H0 E) st (.Expr (.Call (.Attribute (.Call (.Name "super" p0) [] [] p1) "__init__" ap) (e :: es) [] pos) pos') (tSupM K D f2 sp ta) := by
  rintro pins s σ H Dn I ⟨a, C, dx, fs, hs, ea, hm, hsu, hty, hfn, q⟩
  obtain ⟨mA, OM, _⟩ := ins_get I.hok ea
  obtain ⟨od, J, _⟩ := OM.look
  refine PySem.ks_wpAt_Expr_any (PySem.ks_wpAt_MethodCall (sup_node F I hs J hm (by decide) fun h' k e1 => ?_) hev) I.quiet hsw
  obtain ⟨hh, g, d, t, os⟩ := s
  have I1 : Inv (ncx CX P w K mg base N (nfS name qual params st scope cc cda) f A outer s0 H0 E) pins σ H ⟨h', g, d, t, os⟩ := I.kept (t' := t) k
  have X1 : K.In h' := I1.kIn
  obtain ⟨mA1, OM1, _⟩ := ins_get I1.hok ea
  obtain ⟨od1, J1, _⟩ := OM1.look
  cases hc : PySem.W.clsIn K C with
  | none => unfold PySem.W.ks_superIn at hsu; rw [hc] at hsu; cases hsu
  | some cd =>
    unfold PySem.W.ks_superIn at hsu
    rw [hc] at hsu
    obtain ⟨of, hof, hofc⟩ : ∃ of, h'.get? f2 = some of ∧ of.cls = .type "function" := by
      have ht' : (K.lookup f2).map (·.cls) = some (.type "function") := hty
      cases z : K.lookup f2 with
      | none => rw [z] at ht'; cases ht'
      | some of => rw [z] at ht'; exact ⟨of, X1 _ _ z, Option.some.inj ht'⟩
    refine PySem.ks_wpAny_getMethod_super e1 (PySem.W.looks_opaque X1 F.any_) (l₀ := cd.mro) (fun A Q E s k q => wpAny_bind ((PySem.W.looks_clsIn X1 hc) A _ E s k (wpAny_pure q))) rfl X1 hsu hof hofc (PySem.W.ks_ne X1 J1 hc) (by decide) ?_
    have I3 := met_new (g := f2) (C := a) I1
    refine callwith_cm (C := a) (g := f2) I3 ?_ hfn ?_ he hpl
    · cases z : base.get? h'.objs.size with
      | none => exact z
      | some o => exact absurd (Heap.lt_size (I1.bk _ _ z)) (Nat.lt_irrefl _)
    · refine wpAny_mono (ha.run pos _ _ σ H _ I3 q) (fun us s3 got => ?_) fun e s' h => h
      obtain ⟨vs, H3, I4, r, qn⟩ := got
      refine ⟨⟨pin_at I4, I4.kIn⟩, ?_⟩
      refine wpAny_mono (run_cm F2 hr pass0 I4 r qn) (fun u s' z => ?_) fun e s' h => h
      obtain ⟨v, H', I5, _, qq⟩ := z
      exact ⟨σ, H', I5, qq⟩
end G0
namespace G0
open PySem PySem.Spec PyProof.Rows L2 NdefX ClX
section
variable {P : Program} {w : World} {K : PySem.W.Frag} {mg : Str → Option Value} {base : Heap} {C : Addr}
/-! ### Seat.__init__, of an object of a class under it -/
def seatG (m : Int) : List (Str × V) := [("me", .int m), ("state", .str "out"), ("sits", .bl false)]
theorem seatG_made (m : Int) : putF "sits" (.bl false) (putF "state" (.str "out") (putF "me" (.int m) [])) = seatG m := by
  simp only [putF, seatG, n_me_stt, n_me_sits, n_stt_sits, if_false, if_true]
theorem seatG_rest (m n c : Int) (aw hl tg : Addr) : putF "_told_gone" (.ref tg) (putF "_holds" (.ref hl) (putF "_awaits" (.ref aw) (putF "_seats" (.int n) (putF "stamp" .non (putF "count" (.int c) (seatG m)))))) = stF m "out" false c .non n aw hl tg := by
  simp only [putF, seatG, stF, n_me_cnt, n_stt_cnt, n_sits_cnt, n_me_stp, n_stt_stp, n_sits_stp, n_cnt_stp, n_me_sts, n_stt_sts, n_sits_sts, n_cnt_sts, n_stp_sts, n_me_awt, n_stt_awt, n_sits_awt, n_cnt_awt, n_stp_awt, n_sts_awt,
    n_me_hld, n_stt_hld, n_sits_hld, n_cnt_hld, n_stp_hld, n_sts_hld, n_awt_hld, n_me_tgn, n_stt_tgn, n_sits_tgn, n_cnt_tgn, n_stp_tgn, n_sts_tgn, n_awt_tgn, n_hld_tgn, if_false, if_true]
def spSeat0 (C : Addr) : Sp := fun vs H Q _ => ∃ (p dx : Addr) (m : Int), vs = [.ref p, .int m] ∧ H p = some (.ins C dx []) ∧ Q .non (upd H p (.ins C dx (seatG m)))
theorem sc_Seat__init : FnScope ["self", "me"] ["self", "me"] (defScope s_Seat__init) :=
  ⟨rfl, rfl, rfl, by decide +kernel, rfl, by decide +kernel, by decide +kernel⟩
theorem ok_seat0 {f : Addr} {fd : FuncData} (F : Fun K "__init__" "Seat.__init__" s_Seat__init f fd) (c : Cls K C) (n1 : NoAttr K C "me") (n2 : NoAttr K C "state") (n3 : NoAttr K C "sits") : FnOk P w K mg base CX0 1 f fd ["self", "me"] (spSeat0 C) := by
  refine F.ok sc_Seat__init (fun vs H Q E h => ?_) (fun cdv A outer s H vs Q E hr h => ?_)
  · obtain ⟨p, dx, m, rfl, _⟩ := h
    rfl
  obtain ⟨p, dx, m, rfl, hp, q⟩ := h
  refine ⟨_, (pss_cons (ps_fld (pv 0) (pv 1) rfl)
    (pss_cons (ps_fld (pv 0) pe_str rfl)
    (pss_one (ps_fld (pv 0) pe_bl rfl)))), ?_⟩
  refine ⟨_, rfl, _, rfl, p, C, dx, _, rfl, hp, c, n1, (by show 0 < 1000; decide), ?_⟩
  refine ⟨_, rfl, p, C, dx, _, rfl, upd_same, c, n2, (by show 1 < 1000; decide), ?_⟩
  refine ⟨_, rfl, p, C, dx, _, rfl, upd_same, c, n3, (by show 2 < 1000; decide), ?_⟩
  rw [upd_upd, upd_upd, seatG_made]
  exact q
theorem fnR_of {k : Nat} {f : Addr} {fd : FuncData} {ps : List Str} {sp : Sp} (F : FnOk P w K mg base CX0 k f fd ps sp) (b : Binds K fd ps []) : FnR P w K mg base CX0 k f sp :=
  fun A outer s H us vs Q E hr e0 r h => by
    have hl : (us ++ []).length = ps.length := by rw [List.append_nil, ← r.length]; exact F.len _ _ _ _ h
    have KX : K.In s.heap := e0.mod.kin.keeps fun b o z => (e0.bs b o z).1
    have bt := b s us KX hl
    rw [List.append_nil] at bt
    exact F.run A outer s H ⟨us, []⟩ us vs Q E hr e0 bt r h
/-! ### Stamper.__init__ -/
def spSInit (C : Addr) : Sp := fun vs H Q _ => ∃ (p dx : Addr) (m n c : Int), vs = [.ref p, .int m, .int n, .int c] ∧ H p = some (.ins C dx []) ∧
  ∀ aw hl tg H', aw ≠ hl → aw ≠ tg → hl ≠ tg → Chg p H H' → H' aw = some (.lst []) → H' hl = some (.lst []) → H' tg = some (.lst []) → H' p = some (.ins C dx (stF m "out" false c .non n aw hl tg)) → H aw = none → H hl = none → H tg = none → Q .non H'
theorem ok_sinit {f cc cda D f2 : Addr} {dV kV doc pm ct oc cl : Value} {v : Option Value} {an od cld : Option Addr} {osl csl : Array (Option Value)}
    (lk : K.lookup f = some ⟨oc, od, .func (PySem.W.ksFn "__init__" "Stamper.__init__" (defArgs s_Stamper__init) (defBody s_Stamper__init) (defScope s_Stamper__init) dV kV doc pm an (.ref cda) ct cc), osl⟩)
    (coded : PySem.W.codeIn K (.ref cda) "Stamper.__init__" = true) (lc : K.lookup cc = some ⟨cl, cld, .cell v, csl⟩)
    (F : SupF P K ["self", "me", "seats", "count", "__class__"] f cc cda D (PySem.W.ksFn "__init__" "Stamper.__init__" (defArgs s_Stamper__init) (defBody s_Stamper__init) (defScope s_Stamper__init) dV kV doc pm an (.ref cda) ct cc) (defArgs s_Stamper__init) (defScope s_Stamper__init))
    (F2 : FnR P w K mg base CX0 1 f2 (spSeat0 C)) (S : StT K C) (mro : PySem.W.mroIn K C (.ref D) = some true) (su : PySem.W.ks_superIn K C D "__init__" = some (some (.ref f2))) (ty : PySem.W.typeIn K (.ref f2) = some (.type "function")) (fi : PySem.W.fnIn K f2 = true) :
    FnOk P w K mg base CX0 2 f (PySem.W.ksFn "__init__" "Stamper.__init__" (defArgs s_Stamper__init) (defBody s_Stamper__init) (defScope s_Stamper__init) dV kV doc pm an (.ref cda) ct cc) ["self", "me", "seats", "count"] (spSInit C) := by
  have NS : NScope ["self", "me", "seats", "count", "__class__"] ["self", "me", "seats", "count"] ["__class__"] (defScope s_Stamper__init) := nscope_by (by decide +kernel)
  refine fnS_of lk coded lc NS ?_ fun A outer s H vs Q E hr h => ?_
  · rintro vs H Q E ⟨p, dx, m, n, c, rfl, _⟩
    rfl
  obtain ⟨p, dx, m, n, c, rfl, hp, q⟩ := h
  refine ⟨_, _, p1_supM F F2 hr (pa_cons (pv 1 (by rfl) (.inl (NS.par _ (by simp)))) pa_nil),
    pss_cons (ps_fld (pv 0 (by rfl) (.inl (NS.par _ (by simp)))) (pv 3 (by rfl) (.inl (NS.par _ (by simp)))) rfl)
    (pss_cons (ps_fld (pv 0 (by rfl) (.inl (NS.par _ (by simp)))) pe_non rfl)
    (pss_cons (ps_fld (pv 0 (by rfl) (.inl (NS.par _ (by simp)))) (pv 2 (by rfl) (.inl (NS.par _ (by simp)))) rfl)
    (pss_cons (ps_fld (pv 0 (by rfl) (.inl (NS.par _ (by simp)))) (pe_lst pa_nil) rfl)
    (pss_cons (ps_fld (pv 0 (by rfl) (.inl (NS.par _ (by simp)))) (pe_lst pa_nil) rfl)
    (pss_one (ps_fld (pv 0 (by rfl) (.inl (NS.par _ (by simp)))) (pe_lst pa_nil) rfl)))))), ?_⟩
  have p0 : H p ≠ none := by rw [hp]; exact fun z => nomatch z
  refine ⟨p, C, dx, [], rfl, hp, mro, su, ty, fi, _, rfl, p, dx, m, rfl, hp, ?_⟩
  refine ⟨_, rfl, _, rfl, p, C, dx, _, rfl, upd_same, S.cl, S.count, (by show 3 < 1000; decide), ?_⟩
  refine ⟨_, rfl, p, C, dx, _, rfl, upd_same, S.cl, S.stamp, (by show 4 < 1000; decide), ?_⟩
  refine ⟨_, rfl, _, rfl, p, C, dx, _, rfl, upd_same, S.cl, S.seats, (by show 5 < 1000; decide), ?_⟩
  rw [upd_upd, upd_upd, upd_upd]
  refine ⟨Nat.zero_le _, fun aw haw => ?_⟩
  have ap : aw ≠ p := fun z => by rw [z, upd_same] at haw; cases haw
  rw [upd_ne ap] at haw
  refine ⟨_, rfl, p, C, dx, _, rfl, (by rw [upd_ne ap.symm]; exact upd_same), S.cl, S.awaits, (by show 6 < 1000; decide), ?_⟩
  refine ⟨Nat.zero_le _, fun hl hhl => ?_⟩
  have hp' : hl ≠ p := fun z => by rw [z, upd_same] at hhl; cases hhl
  rw [upd_ne hp'] at hhl
  have ha' : aw ≠ hl := fun z => by rw [← z, upd_same] at hhl; cases hhl
  rw [upd_ne ha'.symm, upd_ne hp'] at hhl
  refine ⟨_, rfl, p, C, dx, _, rfl, (by rw [upd_ne hp'.symm]; exact upd_same), S.cl, S.holds, (by show 7 < 1000; decide), ?_⟩
  refine ⟨Nat.zero_le _, fun tg htg => ?_⟩
  have tp : tg ≠ p := fun z => by rw [z, upd_same] at htg; cases htg
  rw [upd_ne tp] at htg
  have th : hl ≠ tg := fun z => by rw [← z, upd_same] at htg; cases htg
  rw [upd_ne th.symm, upd_ne tp] at htg
  have ta : aw ≠ tg := fun z => by rw [← z, upd_same] at htg; cases htg
  rw [upd_ne ta.symm, upd_ne tp] at htg
  refine ⟨_, rfl, p, C, dx, _, rfl, (by rw [upd_ne tp.symm]; exact upd_same), S.cl, S.gone, (by show 8 < 1000; decide), ?_⟩
  rw [seatG_rest]
  refine q aw hl tg _ ha' ta th ?_ ?_ ?_ ?_ upd_same haw hhl htg
  · intro b o nb e
    rw [upd_ne nb, upd_ne (ne_of_none e htg), upd_ne nb, upd_ne (ne_of_none e hhl), upd_ne nb, upd_ne (ne_of_none e haw), upd_ne nb]
    exact e
  · rw [upd_ne ap, upd_ne ta, upd_ne ap, upd_ne ha', upd_ne ap, upd_same]
  · rw [upd_ne hp', upd_ne th, upd_ne hp', upd_same]
  · rw [upd_ne tp, upd_same]
end

end G0
namespace G0
open PySem PySem.Spec PyProof.Rows L2
section
variable {P : Program} {w : World} {K : PySem.W.Frag} {mg : Str → Option Value} {base : Heap} {C : Addr}
structure BlW (mg : Str → Option Value) : Prop where
  len : mg "len" = none
  abs : mg "abs" = none
  int : mg "int" = none
/-! ### the pot of k29 to k36 -/
def spPot (K : PySem.W.Frag) : Sp := fun vs H Q _ => ∃ (a : Addr) (k : Int) (ns : List Int), vs = [.ref a, .int k] ∧ SqL K H a (ns.map V.int) ∧ 0 ≤ k ∧ k < 1000000 ∧
  ∀ (r : Addr) (H' : Hp), H r = none → Same H H' → PotAt 0 H' r → Q (.ref r) H'
theorem c_ok (c : Int) (hc : 0 ≤ c) (b : Bool) : 0 ≤ c * (if b = true then 1 else 0) := by
  cases b with
  | true => simp; exact hc
  | false => simp
theorem pow_lt {x : Int} (h : 0 ≤ x) (h2 : x < 2 ^ 63) : x.natAbs < 2 ^ 64 := by omega
theorem bit_mul (c : Int) (b : Bool) : CMul c (if b = true then 1 else 0) := .inr (by cases b <;> exact ⟨by decide, by decide⟩)
theorem wide8 : CPowB (10 ^ (Int.toNat 60)) 8 := ⟨by decide, by decide +kernel⟩
theorem wide8_pos : (0 : Int) < (10 ^ (Int.toNat 60)) ^ (Int.toNat 8) := by decide +kernel
theorem sc_law_pot : FnScope ["script", "at", "cell"] ["script", "at"] (defScope s_law_pot) :=
  ⟨rfl, rfl, rfl, by decide +kernel, rfl, by decide +kernel, by decide +kernel⟩
theorem ok_pot (F : Fn K mg "_law_pot" s_law_pot) (T : BlW mg) : Cal P w K mg base "_law_pot" 1 ["script", "at"] (spPot K) := by
  refine cal_of F sc_law_pot
    (fun _ _ _ _ _ _ us hl => match us, hl with | [_, _], _ => rfl) ?_ ?_
  · rintro vs H Q E ⟨a, k, ns, rfl, _⟩
    rfl
  rintro f cdv A outer s H vs Q E free hr ⟨a, k, ns, rfl, hS, k0, k1, q⟩
  refine ⟨_, (pss_cons (ps_set (i := 2) sc_law_pot.nd rfl (Or.inl rfl) pe_int)
    (pss_cons (ps_if (pt_cmpR op_lt (pv 1) (pe_callB call_len_seq (by rfl) T.len (by decide +kernel) (pa_cons (pv 0) pa_nil)) (nomark _))
    (pss_one (ps_set (i := 2) sc_law_pot.nd rfl (Or.inl rfl) (pe_op op_mod (pe_callB call_abs (by rfl) T.abs (by decide +kernel) (pa_cons (pe_ix ix_list (pv 0) (pv 1) (fun _ _ => rfl)) pa_nil)) (pe_op op_powB (pe_op op_pow pe_int pe_int) pe_int))))
    pss_nil)
    (pss_one (ps_ret (pe_lst (pa_cons (pe_op op_mul (pv 2) (pe_callTy call_int1 (by rfl) T.int (by decide +kernel) (pa_cons (pe_cmpR op_ge (pv 2) (pe_op op_pow pe_int pe_int) (nomark _)) pa_nil))) (pa_cons (pe_op op_mod (pe_op op_pow (pe_op op_add (pe_op op_add (pe_op op_mod (pv 2) pe_int) (pe_op op_mul pe_int (pv 1))) pe_int) pe_int) pe_int) (pa_cons pe_int pa_nil)))))))), ?_⟩
  have hl : (ns.map V.int).length = ns.length := List.length_map _
  have last : ∀ c : Int, 0 ≤ (c % 1000000007 + 104723 * k + 11) ∧ (c % 1000000007 + 104723 * k + 11) < 2 ^ 63 := fun c => by
    have h1 : 0 ≤ c % 1000000007 := Int.emod_nonneg _ (by decide)
    have h2 : c % 1000000007 < 1000000007 := Int.emod_lt_of_pos _ (by decide)
    omega
  refine ⟨_, rfl, _, rfl, a, _, rfl, .inl hS, _, _, rfl, rfl, _, rfl, ?_⟩
  refine ite2 (fun c => ?_) (fun c => ?_)
  · have c' : k < (((ns.map V.int).length : Nat) : Int) := of_decide_eq_true c
    have hk : k.toNat < ns.length := by omega
    have ek : k = ((k.toNat : Nat) : Int) := by omega
    have at_ : atI (ns.map V.int) ((k.toNat : Nat) : Int) = some (.int ns[k.toNat]) := atI_nat (by rw [List.getElem?_map, List.getElem?_eq_getElem hk] <;> rfl)
    rw [← ek] at at_
    refine ⟨_, rfl, _, rfl, a, _, _, _, rfl, rfl, hS, at_, ?_⟩
    refine ⟨_, rfl, _, _, rfl, rfl, ⟨by decide, by decide, by decide⟩, _, _, rfl, rfl, wide8, _, _, rfl, rfl, wide8_pos, ?_⟩
    have c0 : 0 ≤ (if ns[k.toNat] < 0 then -ns[k.toNat] else ns[k.toNat]) % (10 ^ (Int.toNat 60)) ^ (Int.toNat 8) := Int.emod_nonneg _ (by have := wide8_pos; omega)
    have l := last ((if ns[k.toNat] < 0 then -ns[k.toNat] else ns[k.toNat]) % (10 ^ (Int.toNat 60)) ^ (Int.toNat 8))
    refine ⟨_, rfl, _, rfl, _, _, rfl, rfl, ⟨by decide, by decide, by decide⟩, _, _, rfl, rfl, .inr ⟨_, rfl, ?_⟩⟩
    refine ⟨_, _, rfl, rfl, bit_mul _ _, ?_⟩
    refine ⟨_, rfl, _, _, rfl, rfl, (by show (0 : Int) < 1000000007; decide), _, rfl, _, _, rfl, rfl, .inl ⟨by decide, by decide⟩, _, _, rfl, rfl, _, _, rfl, rfl,
      _, _, rfl, rfl, ⟨by decide, by decide, pow_lt l.1 l.2⟩, _, _, rfl, rfl, (by show (0 : Int) < 2305843009213693951; decide), ?_⟩
    exact ⟨(by show 3 ≤ sizeLine; decide), fun D hD => q D _ hD (same_upd hD) (.at ⟨_, _, 0, rfl, c_ok _ c0 _, Int.emod_nonneg _ (by decide), Int.emod_lt_of_pos _ (by decide), by decide, by decide⟩)⟩
  · have c0 : (0 : Int) ≤ 0 := by decide
    have l := last (0)
    refine ⟨_, rfl, _, rfl, _, _, rfl, rfl, ⟨by decide, by decide, by decide⟩, _, _, rfl, rfl, .inr ⟨_, rfl, ?_⟩⟩
    refine ⟨_, _, rfl, rfl, bit_mul _ _, ?_⟩
    refine ⟨_, rfl, _, _, rfl, rfl, (by show (0 : Int) < 1000000007; decide), _, rfl, _, _, rfl, rfl, .inl ⟨by decide, by decide⟩, _, _, rfl, rfl, _, _, rfl, rfl,
      _, _, rfl, rfl, ⟨by decide, by decide, pow_lt l.1 l.2⟩, _, _, rfl, rfl, (by show (0 : Int) < 2305843009213693951; decide), ?_⟩
    exact ⟨(by show 3 ≤ sizeLine; decide), fun D hD => q D _ hD (same_upd hD) (.at ⟨_, _, 0, rfl, c_ok _ c0 _, Int.emod_nonneg _ (by decide), Int.emod_lt_of_pos _ (by decide), by decide, by decide⟩)⟩
/-! ### _law_draw -/
def spDraw : Sp := fun vs H Q _ => ∃ (p : Addr) (m : Int) (n : Nat), vs = [.ref p, .int m] ∧ 0 < m ∧ m.natAbs < 2 ^ 250 ∧
  PotAt n H p ∧ n < 1000000000 ∧ ∀ (d : Int) (ys : List V), 0 ≤ d → d < m → PotL (n + 1) ys → Q (.int d) (upd H p (.lst ys))
theorem sc_law_draw : FnScope ["pot", "many", "found", "one", "other"] ["pot", "many"] (defScope s_law_draw) :=
  ⟨rfl, rfl, rfl, by decide +kernel, rfl, by decide +kernel, by decide +kernel⟩
theorem ok_draw (F : Fn K mg "_law_draw" s_law_draw) : Cal P w K mg base "_law_draw" 1 ["pot", "many"] spDraw := by
  refine cal_of F sc_law_draw
    (fun _ _ _ _ _ _ us hl => match us, hl with | [_, _], _ => rfl) ?_ ?_
  · rintro vs H Q E ⟨p, m, n, rfl, _⟩
    rfl
  rintro f cdv A outer s H vs Q E free hr ⟨p, m, n, rfl, m0, mb, ⟨xs, hp, ⟨a, b, c, rfl, a0, b0, b1, c0, cn⟩⟩, nn, q⟩
  have hL := SqL.of (K := K) hp
  refine ⟨_, (pss_cons (ps_if (pt_cmpR op_gt (pe_ix ix_list (pv 0) pe_int (fun _ _ => rfl)) pe_int (nomark _))
    (pss_cons (ps_set (i := 2) sc_law_draw.nd rfl (Or.inl rfl) (pe_op op_mod (pe_ix ix_list (pv 0) pe_int (fun _ _ => rfl)) (pv 1)))
    (pss_cons (ps_asg (pe_op op_fdivW (pe_ix ix_list (pv 0) pe_int (fun _ _ => rfl)) (pv 1)) (pg_sub (pv 0) pe_int set_list))
    (pss_one (ps_ret (pv 2)))))
    pss_nil)
    (pss_cons (ps_asg (pe_op op_add (pe_ix ix_list (pv 0) pe_int (fun _ _ => rfl)) pe_int) (pg_sub (pv 0) pe_int set_list))
    (pss_cons (ps_set (i := 3) sc_law_draw.nd rfl (Or.inl rfl) (pe_op op_mod (pe_op op_pow (pe_op op_add (pe_ix ix_list (pv 0) pe_int (fun _ _ => rfl)) (pe_op op_mul pe_int (pe_ix ix_list (pv 0) pe_int (fun _ _ => rfl)))) pe_int) pe_int))
    (pss_cons (ps_set (i := 4) sc_law_draw.nd rfl (Or.inl rfl) (pe_op op_mod (pe_op op_pow (pe_op op_add (pv 3) (pe_op op_mod (pe_op op_mul pe_int (pe_ix ix_list (pv 0) pe_int (fun _ _ => rfl))) pe_int)) pe_int) pe_int))
    (pss_one (ps_ret (pe_op op_mod (pe_op op_fdivW (pv 4) pe_int) (pv 1)))))))), ?_⟩
  refine ⟨_, rfl, p, _, _, _, rfl, rfl, hL, rfl, _, _, rfl, rfl, _, rfl, ?_⟩
  refine ite2 (fun c1 => ?_) (fun c1 => ?_)
  · refine ⟨_, rfl, p, _, _, _, rfl, rfl, hL, rfl, _, rfl, _, _, rfl, rfl, m0, ?_⟩
    refine ⟨_, rfl, p, _, _, _, rfl, rfl, hL, rfl, _, rfl, _, _, rfl, rfl, wide_div m0 mb (by decide) (by decide), ?_⟩
    refine ⟨_, rfl, p, _, _, _, rfl, rfl, hp, rfl, ?_⟩
    refine ⟨_, rfl, ?_⟩
    refine q _ _ (Int.emod_nonneg _ (by omega)) (Int.emod_lt_of_pos _ m0) ?_
    exact ⟨_, b, c, rfl, Int.ediv_nonneg a0 (by omega), b0, b1, c0, by omega⟩
  · refine ⟨_, rfl, p, _, _, _, rfl, rfl, hL, rfl, _, _, rfl, rfl, ?_⟩
    refine ⟨_, rfl, p, _, _, _, rfl, rfl, hp, rfl, ?_⟩
    have hp' : upd H p (.lst [.int a, .int b, .int (c + 1)]) p = some (.lst [.int a, .int b, .int (c + 1)]) := upd_same
    have hL' := SqL.of (K := K) hp'
    have z1 : 0 ≤ b + 1299709 * (c + 1) := by omega
    have z2 : b + 1299709 * (c + 1) < 2 ^ 63 := by omega
    refine ⟨_, rfl, p, _, _, _, rfl, rfl, hL', rfl, _, rfl, p, _, _, _, rfl, rfl, hL', rfl, _, _, rfl, rfl, .inl ⟨by decide, by decide⟩, _, _, rfl, rfl,
      _, _, rfl, rfl, ⟨by decide, by decide, pow_lt z1 z2⟩, _, _, rfl, rfl, (by show (0 : Int) < 1152921504606846883; decide), ?_⟩
    generalize ho : (b + 1299709 * (c + 1)) ^ (Int.toNat 3) % 1152921504606846883 = one
    have o0 : 0 ≤ one := by rw [← ho]; exact Int.emod_nonneg _ (by decide)
    have o1 : one < 1152921504606846883 := by rw [← ho]; exact Int.emod_lt_of_pos _ (by decide)
    have o2 : 0 ≤ 15485863 * (c + 1) % 9973 := Int.emod_nonneg _ (by decide)
    have o3 : 15485863 * (c + 1) % 9973 < 9973 := Int.emod_lt_of_pos _ (by decide)
    refine ⟨_, rfl, _, rfl, p, _, _, _, rfl, rfl, hL', rfl, _, _, rfl, rfl, .inl ⟨by decide, by decide⟩, _, _, rfl, rfl, (by show (0 : Int) < 9973; decide), _, _, rfl, rfl,
      _, _, rfl, rfl, ⟨by decide, by decide, pow_lt (by omega) (by omega)⟩, _, _, rfl, rfl, (by show (0 : Int) < 2305843009213693921; decide), ?_⟩
    refine ⟨_, rfl, _, _, rfl, rfl, ⟨by decide, by decide⟩, _, rfl, _, _, rfl, rfl, m0, ?_⟩
    exact q _ _ (Int.emod_nonneg _ (by omega)) (Int.emod_lt_of_pos _ m0) ⟨a, b, c + 1, rfl, a0, b0, b1, by omega, by omega⟩
end

end G0
namespace G0
open PySem PySem.Spec PyProof.Rows L2
section
open RZ
variable {P : Program} {w : World} {K : PySem.W.Frag} {mg : Str → Option Value} {base : Heap} {C : Addr}
/-! ### a comprehension over zip -/
theorem lc_zipL {a b : Addr} {xs ys : List V} {g : TG} {tt : TT} {te : TE} {vs : List Nat} {σ : L2.St} {H1 : Hp} {D : Addr} {Qd : Hp → Prop} (hl : xs.length = ys.length) (Pv : Nat → Hp → Prop) (h0 : Pv 0 (upd H1 D (.lst []))) (hq : ∀ i H, Pv i H → SqL K H a xs ∧ SqL K H b ys)
    (hs : ∀ i x y (T : Addr) H, xs[i]? = some x → ys[i]? = some y → Pv i H → H T = none → g (.ref T) (wipe σ vs) (upd H T (.tup [x, y])) fun σ2 H2 => wipe σ2 vs = wipe σ vs ∧ tt σ2 H2 fun b H3 =>
      if b = true then te σ2 H3 fun y H4 => ∃ acc, H4 D = some (.lst acc) ∧ acc.length < sizeLine ∧ Pv (i + 1) (upd H4 D (.lst (acc ++ [y]))) else Pv (i + 1) H3) (hd : ∀ H, Pv xs.length H → Qd H) :
    ∃ W : Nat → Nat → Hp → Prop, (∃ m, W 0 m (upd H1 D (.lst []))) ∧ ∀ i m H, W i m H →
      ((Itz K a b).stop i H ∧ Qd H) ∨ ((Itz K a b).go i H ∧ ∃ Nx : Hp → Prop, (∀ H', Nx H' → ∃ m', m' < m ∧ W (i + 1) m' H') ∧ ∀ x H', (Itz K a b).yld i H x H' → g x (wipe σ vs) H' fun σ2 H2 => wipe σ2 vs = wipe σ vs ∧ tt σ2 H2 fun b H3 =>
        if b = true then te σ2 H3 fun y H4 => ∃ acc, H4 D = some (.lst acc) ∧ acc.length < sizeLine ∧ Nx (upd H4 D (.lst (acc ++ [y]))) else Nx H3) := by
  refine ⟨fun i m H => m = xs.length - i ∧ i ≤ xs.length ∧ Pv i H, ⟨xs.length, by simp, Nat.zero_le _, h0⟩, ?_⟩
  rintro i m H ⟨rfl, hi, p⟩
  obtain ⟨qx, qy⟩ := hq i H p
  by_cases hlt : i < xs.length
  · have hx : xs[i]? = some xs[i] := List.getElem?_eq_getElem hlt
    have hlt2 : i < ys.length := by omega
    have hy : ys[i]? = some ys[i] := List.getElem?_eq_getElem hlt2
    refine .inr ⟨⟨xs, ys, _, _, qx, qy, hx, hy⟩, Pv (i + 1), fun H' p' => ⟨xs.length - (i + 1), by omega, rfl, hlt, p'⟩, fun v H' y => ?_⟩
    obtain ⟨T, x', y', rfl, hT, rfl, f1, f2⟩ := y
    exact hs i x' y' T H (f1 xs qx) (f2 ys qy) p hT
  · have e : i = xs.length := by omega
    subst e
    exact .inl ⟨⟨xs, ys, qx, qy, Or.inl (Nat.le_refl _)⟩, hd H p⟩
theorem lc_zipT {a b : Addr} {xs ys : List V} {g : TG} {tt : TT} {te : TE} {vs : List Nat} {σ : L2.St} {H1 : Hp} {D : Addr} {Qd : Hp → Prop} (hl : xs.length = ys.length) (Pv : Nat → Hp → Prop) (h0 : Pv 0 (upd H1 D (.lst []))) (hq : ∀ i H, Pv i H → SqT K H a xs ∧ SqT K H b ys)
    (hs : ∀ i x y (T : Addr) H, xs[i]? = some x → ys[i]? = some y → Pv i H → H T = none → g (.ref T) (wipe σ vs) (upd H T (.tup [x, y])) fun σ2 H2 => wipe σ2 vs = wipe σ vs ∧ tt σ2 H2 fun b H3 =>
      if b = true then te σ2 H3 fun y H4 => ∃ acc, H4 D = some (.lst acc) ∧ acc.length < sizeLine ∧ Pv (i + 1) (upd H4 D (.lst (acc ++ [y]))) else Pv (i + 1) H3) (hd : ∀ H, Pv xs.length H → Qd H) :
    ∃ W : Nat → Nat → Hp → Prop, (∃ m, W 0 m (upd H1 D (.lst []))) ∧ ∀ i m H, W i m H →
      ((ItzT K a b).stop i H ∧ Qd H) ∨ ((ItzT K a b).go i H ∧ ∃ Nx : Hp → Prop, (∀ H', Nx H' → ∃ m', m' < m ∧ W (i + 1) m' H') ∧ ∀ x H', (ItzT K a b).yld i H x H' → g x (wipe σ vs) H' fun σ2 H2 => wipe σ2 vs = wipe σ vs ∧ tt σ2 H2 fun b H3 =>
        if b = true then te σ2 H3 fun y H4 => ∃ acc, H4 D = some (.lst acc) ∧ acc.length < sizeLine ∧ Nx (upd H4 D (.lst (acc ++ [y]))) else Nx H3) := by
  refine ⟨fun i m H => m = xs.length - i ∧ i ≤ xs.length ∧ Pv i H, ⟨xs.length, by simp, Nat.zero_le _, h0⟩, ?_⟩
  rintro i m H ⟨rfl, hi, p⟩
  obtain ⟨qx, qy⟩ := hq i H p
  by_cases hlt : i < xs.length
  · have hx : xs[i]? = some xs[i] := List.getElem?_eq_getElem hlt
    have hlt2 : i < ys.length := by omega
    have hy : ys[i]? = some ys[i] := List.getElem?_eq_getElem hlt2
    refine .inr ⟨⟨xs, ys, _, _, qx, qy, hx, hy⟩, Pv (i + 1), fun H' p' => ⟨xs.length - (i + 1), by omega, rfl, hlt, p'⟩, fun v H' y => ?_⟩
    obtain ⟨T, x', y', rfl, hT, rfl, f1, f2⟩ := y
    exact hs i x' y' T H (f1 xs qx) (f2 ys qy) p hT
  · have e : i = xs.length := by omega
    subst e
    exact .inl ⟨⟨xs, ys, qx, qy, Or.inl (Nat.le_refl _)⟩, hd H p⟩
/-! ### _law_same of k29 to k36: of the same data it tells True -/
structure BlQ (mg : Str → Option Value) : Prop where
  len : mg "len" = none
  all : mg "all" = none
  zip : mg "zip" = none
  isinstance : mg "isinstance" = none
  list : mg "list" = none
  tuple : mg "tuple" = none
  str : mg "str" = none
  bool : mg "bool" = none
  int : mg "int" = none
inductive Lw : Nat → PyData → Prop
  | non {n : Nat} : Lw n .none
  | bl {n : Nat} (b : Bool) : Lw n (.bool b)
  | int {n : Nat} (i : Int) : Lw n (.int i)
  | str {n : Nat} (z : Str) : Lw n (.str z)
  | tup {n : Nat} {ds : List PyData} : ds.length < 10000 → (∀ d ∈ ds, Lw n d) → Lw (n + 1) (.tuple ds)
  | lst {n : Nat} {ds : List PyData} : ds.length < 10000 → (∀ d ∈ ds, Lw n d) → Lw (n + 1) (.list ds)
def spSm (K : PySem.W.Frag) (n : Nat) : Sp := fun vs H Q _ => ∃ (x y : V) (d : PyData), vs = [x, y] ∧ Lw n d ∧ Dp K H x d ∧ Dp K H y d ∧ ∀ H', Same H H' → Q (.bl true) H'
def spSmP (K : PySem.W.Frag) (n : Nat) : Sp := fun vs H Q E => ∃ m, n = m + 1 ∧ spSm K m vs H Q E
theorem ty_sqt {H : Hp} {a : Addr} {xs : List V} (h : SqT K H a xs) : TyX K H (.ref a) (.type "tuple") := by
  rcases h with (h | ⟨o, h⟩) | ⟨o, its, n, h1, h2, _⟩
  · exact .base (.tup h)
  · exact .fTuple h
  · exact .kTuple h1 h2
theorem dps_at {H : Hp} {vs : List V} {ds : List PyData} (h : DpAll K H vs ds) : ∀ {i : Nat} {v : V}, vs[i]? = some v → ∃ d, ds[i]? = some d ∧ Dp K H v d := by
  match vs, ds, h with
  | [], [], _ => intro i v e; simp at e
  | v :: vs, d :: ds, .cons h1 h2 =>
    intro i v' e
    cases i with
    | zero => exact ⟨d, rfl, by have : v = v' := by simpa using e
                                rw [← this]; exact h1⟩
    | succ i => exact dps_at h2 (by simpa using e)
theorem ty_sql {H : Hp} {a : Addr} {xs : List V} (h : SqL K H a xs) : TyX K H (.ref a) (.type "list") := by
  rcases h with (h | ⟨o, h⟩) | ⟨o, its, n, h1, h2, _⟩
  · exact .base (.lst h)
  · exact .base (.frz h)
  · exact .kList h1 h2
theorem sql_same {H H' : Hp} (c : Same H H') {a : Addr} {xs : List V} (h : SqL K H a xs) : SqL K H' a xs := by
  rcases h with (h | ⟨o, h⟩) | h
  · exact .inl (.inl (c _ _ h))
  · exact .inl (.inr ⟨o, c _ _ h⟩)
  · exact .inr h
theorem kit2 {a b c : String} {r1 r2 : Bool} (h1 : kitB a b = some r1) (h2 : kitB a c = some r2) : PySem.W.kitAny K (.type a) [.type b, .type c] = some (r1 || r2) := by
  refine kitAny_cons (b := r1) (kit_ty h1) (fun e => ?_) (fun e => by rw [e]; rfl)
  subst e
  exact kitAny_cons (b := r2) (kit_ty h2) (fun e => by rw [e]; exact kitAny_nil) (fun e => by rw [e]; rfl)
theorem sc_law_same : FnScope ["found", "due", "one", "other"] ["found", "due"] (defScope s_law_same) :=
  ⟨rfl, rfl, rfl, by decide +kernel, rfl, by decide +kernel, by decide +kernel⟩
theorem sm_step {n j : Nat} (F : Fn K mg "_law_same" s_law_same) (T : BlQ mg) (C_same : Cal P w K mg base "_law_same" j ["found", "due"] (spSmP K n)) :
    Cal P w K mg base "_law_same" (j + 1) ["found", "due"] (spSm K n) := by
  refine cal_of F sc_law_same
    (fun _ _ _ _ _ _ us hl => match us, hl with | [_, _], _ => rfl) ?_ ?_
  · rintro vs H Q E ⟨x, y, d, rfl, _⟩
    rfl
  rintro f cdv A outer s H vs Q E free hr ⟨x, y, d, rfl, lw, hx, hy, q⟩
  refine ⟨_, (pss_cons (ps_if (pt_val (pe_callB call_isiT (by rfl) T.isinstance (by decide +kernel) (pa_cons (pv 1) (pa_cons (pe_tup (pa_cons (pe_bltn (v := .ty "list") (by rfl) T.list (by decide +kernel) rfl) (pa_cons (pe_bltn (v := .ty "tuple") (by rfl) T.tuple (by decide +kernel) rfl) pa_nil))) pa_nil))))
    (pss_cons (ps_if (PW.pt (pw_or (pt_not (pt_val (pe_callB call_isiT (by rfl) T.isinstance (by decide +kernel) (pa_cons (pv 0) (pa_cons (pe_tup (pa_cons (pe_bltn (v := .ty "list") (by rfl) T.list (by decide +kernel) rfl) (pa_cons (pe_bltn (v := .ty "tuple") (by rfl) T.tuple (by decide +kernel) rfl) pa_nil))) pa_nil))))) (pw_or1 (pt_cmpR op_ne (pe_callB call_isi (by rfl) T.isinstance (by decide +kernel) (pa_cons (pv 0) (pa_cons (pe_bltn (v := .ty "list") (by rfl) T.list (by decide +kernel) rfl) pa_nil))) (pe_callB call_isi (by rfl) T.isinstance (by decide +kernel) (pa_cons (pv 1) (pa_cons (pe_bltn (v := .ty "list") (by rfl) T.list (by decide +kernel) rfl) pa_nil))) (nomark _)))))
    (pss_one (ps_ret pe_bl))
    pss_nil)
    (pss_one (ps_ret (pe_and (pe_cmpR op_eq (pe_callB call_len_seq (by rfl) T.len (by decide +kernel) (pa_cons (pv 0) pa_nil)) (pe_callB call_len_seq (by rfl) T.len (by decide +kernel) (pa_cons (pv 1) pa_nil)) (nomark _)) (pe_one (pe_callB (cr_all (by rfl)) (by rfl) T.all (by decide +kernel) (pa_cons (pe_lc (own := [("one", 2), ("other", 3)]) (g := gTup K 2 (gCons (gName 2) (gCons (gName 3) gNil))) (tt := tYes) (by rfl) sc_law_same.nd (pi_zipA (by rfl) T.zip (pa_cons (pv 0) (pa_cons (pv 1) pa_nil))) (blkOk_by (N := ["found", "due", "one", "other"]) (sc := defScope s_law_same) (by decide +kernel)) (fun _ _ _ _ _ => pg_tup (by rfl) (pgs_cons (pg_name (i := 2) sc_law_same.nd rfl (Or.inl rfl)) (pgs_cons (pg_name (i := 3) sc_law_same.nd rfl (Or.inl rfl)) pgs_nil))) (fun _ _ _ _ _ => pts_nil) (fun _ _ _ _ _ => (pe_cal C_same free hr (pa_cons (pv 2) (pa_cons (pv 3) pa_nil))))) pa_nil)))))))
    pss_nil)
    (pss_cons (ps_if (pt_cmpR op_isN (pv 1) pe_non (nomark _))
    (pss_one (ps_ret (pe_cmpR op_isN (pv 0) pe_non (nomark _))))
    pss_nil)
    (pss_cons (ps_if (pt_val (pe_callB call_isiT (by rfl) T.isinstance (by decide +kernel) (pa_cons (pv 1) (pa_cons (pe_tup (pa_cons (pe_bltn (v := .ty "str") (by rfl) T.str (by decide +kernel) rfl) (pa_cons (pe_bltn (v := .ty "bool") (by rfl) T.bool (by decide +kernel) rfl) pa_nil))) pa_nil))))
    (pss_one (ps_ret (pe_and (pe_callB call_isiT (by rfl) T.isinstance (by decide +kernel) (pa_cons (pv 0) (pa_cons (pe_tup (pa_cons (pe_bltn (v := .ty "str") (by rfl) T.str (by decide +kernel) rfl) (pa_cons (pe_bltn (v := .ty "bool") (by rfl) T.bool (by decide +kernel) rfl) pa_nil))) pa_nil))) (pe_and (pe_cmpR op_eq (pe_callB call_isi (by rfl) T.isinstance (by decide +kernel) (pa_cons (pv 0) (pa_cons (pe_bltn (v := .ty "bool") (by rfl) T.bool (by decide +kernel) rfl) pa_nil))) (pe_callB call_isi (by rfl) T.isinstance (by decide +kernel) (pa_cons (pv 1) (pa_cons (pe_bltn (v := .ty "bool") (by rfl) T.bool (by decide +kernel) rfl) pa_nil))) (nomark _)) (pe_one (pe_cmpR op_eq (pv 0) (pv 1) (nomark _)))))))
    pss_nil)
    (pss_one (ps_ret (pe_and (pe_callB call_isi (by rfl) T.isinstance (by decide +kernel) (pa_cons (pv 0) (pa_cons (pe_bltn (v := .ty "int") (by rfl) T.int (by decide +kernel) rfl) pa_nil))) (pe_and (pe_not (pe_callB call_isi (by rfl) T.isinstance (by decide +kernel) (pa_cons (pv 0) (pa_cons (pe_bltn (v := .ty "bool") (by rfl) T.bool (by decide +kernel) rfl) pa_nil)))) (pe_one (pe_cmpR op_eq (pv 0) (pv 1) (nomark _)))))))))), ?_⟩
  cases lw with
  | non =>
    cases hx; cases hy
    refine ⟨_, rfl, by show 2 ≤ sizeLine; decide, fun t1 ht1 => ⟨_, t1, _, _, _, _, rfl, upd_same, .cons (.ty _) (.cons (.ty _) .nil), .base .non, kit2 (r1 := false) (r2 := false) (by decide +kernel) (by decide +kernel), _, rfl, ?_⟩⟩
    refine iteF' rfl ?_
    refine ⟨_, rfl, rfl, _, rfl, iteT' (decide_eq_true rfl) ?_⟩
    refine ⟨_, rfl, rfl, ?_⟩
    rw [decide_eq_true rfl]
    exact q _ (same_upd ht1)
  | bl b =>
    cases hx; cases hy
    refine ⟨_, rfl, by show 2 ≤ sizeLine; decide, fun t1 ht1 => ⟨_, t1, _, _, _, _, rfl, upd_same, .cons (.ty _) (.cons (.ty _) .nil), .base (.bl _), kit2 (r1 := false) (r2 := false) (by decide +kernel) (by decide +kernel), _, rfl, ?_⟩⟩
    refine iteF' rfl ?_
    refine ⟨_, rfl, rfl, _, rfl, iteF' (decide_eq_false (fun e => nomatch e)) ?_⟩
    refine ⟨_, rfl, by show 2 ≤ sizeLine; decide, fun t2 ht2 => ⟨_, t2, _, _, _, _, rfl, upd_same, .cons (.ty _) (.cons (.ty _) .nil), .base (.bl _), kit2 (r1 := false) (r2 := true) (by decide +kernel) (by decide +kernel), _, rfl, ?_⟩⟩
    refine iteT' rfl ?_
    refine ⟨_, rfl, by show 2 ≤ sizeLine; decide, fun t3 ht3 => ⟨_, t3, _, _, _, _, rfl, upd_same, .cons (.ty _) (.cons (.ty _) .nil), .base (.bl _), kit2 (r1 := false) (r2 := true) (by decide +kernel) (by decide +kernel), _, rfl, ?_⟩⟩
    refine iteT' rfl ?_
    refine ⟨_, rfl, _, .ty "bool", _, _, _, rfl, .ty _, .base (.bl _), kit_ty (r := true) (by decide +kernel), _, rfl, _, .ty "bool", _, _, _, rfl, .ty _, .base (.bl _), kit_ty (r := true) (by decide +kernel), rfl, ?_⟩
    refine ⟨_, by rw [decide_eq_true rfl], ?_⟩
    refine iteT ?_
    refine ⟨_, rfl, _, rfl, rfl, ?_⟩
    rw [decide_eq_true rfl]
    exact q _ (((same_upd ht1).trans (same_upd ht2)).trans (same_upd ht3))
  | int i =>
    cases hx; cases hy
    refine ⟨_, rfl, by show 2 ≤ sizeLine; decide, fun t1 ht1 => ⟨_, t1, _, _, _, _, rfl, upd_same, .cons (.ty _) (.cons (.ty _) .nil), .base (.int _), kit2 (r1 := false) (r2 := false) (by decide +kernel) (by decide +kernel), _, rfl, ?_⟩⟩
    refine iteF' rfl ?_
    refine ⟨_, rfl, rfl, _, rfl, iteF' (decide_eq_false (fun e => nomatch e)) ?_⟩
    refine ⟨_, rfl, by show 2 ≤ sizeLine; decide, fun t2 ht2 => ⟨_, t2, _, _, _, _, rfl, upd_same, .cons (.ty _) (.cons (.ty _) .nil), .base (.int _), kit2 (r1 := false) (r2 := false) (by decide +kernel) (by decide +kernel), _, rfl, ?_⟩⟩
    refine iteF' rfl ?_
    refine ⟨_, rfl, _, .ty "int", _, _, _, rfl, .ty _, .base (.int _), kit_ty (r := true) (by decide +kernel), _, rfl, iteT' rfl ?_⟩
    refine ⟨_, rfl, _, .ty "bool", _, _, _, rfl, .ty _, .base (.int _), kit_ty (r := false) (by decide +kernel), _, rfl, _, rfl, iteT' rfl ?_⟩
    refine ⟨_, rfl, _, rfl, rfl, ?_⟩
    rw [decide_eq_true rfl]
    exact q _ ((same_upd ht1).trans (same_upd ht2))
  | str z =>
    cases hx; cases hy
    refine ⟨_, rfl, by show 2 ≤ sizeLine; decide, fun t1 ht1 => ⟨_, t1, _, _, _, _, rfl, upd_same, .cons (.ty _) (.cons (.ty _) .nil), .base (.str _), kit2 (r1 := false) (r2 := false) (by decide +kernel) (by decide +kernel), _, rfl, ?_⟩⟩
    refine iteF' rfl ?_
    refine ⟨_, rfl, rfl, _, rfl, iteF' (decide_eq_false (fun e => nomatch e)) ?_⟩
    refine ⟨_, rfl, by show 2 ≤ sizeLine; decide, fun t2 ht2 => ⟨_, t2, _, _, _, _, rfl, upd_same, .cons (.ty _) (.cons (.ty _) .nil), .base (.str _), kit2 (r1 := true) (r2 := false) (by decide +kernel) (by decide +kernel), _, rfl, ?_⟩⟩
    refine iteT' rfl ?_
    refine ⟨_, rfl, by show 2 ≤ sizeLine; decide, fun t3 ht3 => ⟨_, t3, _, _, _, _, rfl, upd_same, .cons (.ty _) (.cons (.ty _) .nil), .base (.str _), kit2 (r1 := true) (r2 := false) (by decide +kernel) (by decide +kernel), _, rfl, ?_⟩⟩
    refine iteT' rfl ?_
    refine ⟨_, rfl, _, .ty "bool", _, _, _, rfl, .ty _, .base (.str _), kit_ty (r := false) (by decide +kernel), _, rfl, _, .ty "bool", _, _, _, rfl, .ty _, .base (.str _), kit_ty (r := false) (by decide +kernel), rfl, ?_⟩
    refine ⟨_, by rw [decide_eq_true rfl], ?_⟩
    refine iteT ?_
    refine ⟨_, rfl, _, rfl, rfl, ?_⟩
    rw [decide_eq_true rfl]
    exact q _ (((same_upd ht1).trans (same_upd ht2)).trans (same_upd ht3))
  | tup hl hd =>
    cases hx with
    | tup qx hxs =>
    cases hy with
    | tup qy hys =>
    rename_i ds a xs b ys
    refine ⟨_, rfl, by show 2 ≤ sizeLine; decide, fun t1 ht1 => ⟨_, t1, _, _, _, _, rfl, upd_same, .cons (.ty _) (.cons (.ty _) .nil), (ty_sqt (sqt_same (same_upd ht1) qy)), kit2 (r1 := false) (r2 := true) (by decide +kernel) (by decide +kernel), _, rfl, ?_⟩⟩
    refine iteT' rfl ?_
    have lx : xs.length = ds.length := dps_len hxs
    have ly : ys.length = ds.length := dps_len hys
    have e1 : Same H (upd H t1 (.tup [.ty "list", .ty "tuple"])) := same_upd ht1
    refine ⟨_, rfl, by show 2 ≤ sizeLine; decide, fun t2 ht2 => ⟨_, t2, _, _, _, _, rfl, upd_same, .cons (.ty _) (.cons (.ty _) .nil), (ty_sqt (sqt_same (e1.trans (same_upd ht2)) qx)), kit2 (r1 := false) (r2 := true) (by decide +kernel) (by decide +kernel), _, rfl, ?_⟩⟩
    have e2 : Same H (upd (upd H t1 (.tup [.ty "list", .ty "tuple"])) t2 (.tup [.ty "list", .ty "tuple"])) := e1.trans (same_upd ht2)
    refine iteF' rfl ?_
    refine ⟨_, rfl, _, .ty "list", _, _, _, rfl, .ty _, ty_sqt (sqt_same e2 qx), kit_ty (r := false) (by decide +kernel), _, rfl, _, .ty "list", _, _, _, rfl, .ty _, ty_sqt (sqt_same e2 qy), kit_ty (r := false) (by decide +kernel), rfl, ?_⟩
    refine ⟨_, by rw [decide_eq_true rfl], ?_⟩
    refine iteF' rfl ?_
    refine ⟨_, rfl, a, xs, rfl, .inr (sqt_same e2 qx), _, rfl, b, ys, rfl, .inr (sqt_same e2 qy), rfl, ?_⟩
    refine ⟨_, by rw [lx, ly, decide_eq_true rfl], ?_⟩
    refine iteT ?_
    refine ⟨_, rfl, _, rfl, a, b, xs, ys, rfl, .inr ⟨sqt_same e2 qx, sqt_same e2 qy, fun D hD => ?_⟩⟩
    refine lc_zipT (K := K) (a := a) (b := b) (xs := xs) (ys := ys) (by omega) (fun i G => Same (upd (upd H t1 (.tup [.ty "list", .ty "tuple"])) t2 (.tup [.ty "list", .ty "tuple"])) G ∧ G D = some (.lst ((List.replicate i true).map V.bl))) ⟨same_upd hD, upd_same⟩ (fun i G p => ⟨sqt_same (e2.trans p.1) qx, sqt_same (e2.trans p.1) qy⟩) ?_ ?_
    · rintro i x y T G hx hy ⟨sG, hG⟩ hT
      obtain ⟨d1, d1e, dx⟩ := dps_at hxs hx
      obtain ⟨d2, d2e, dy⟩ := dps_at hys hy
      rw [d1e] at d2e
      cases d2e
      have ii : i < ds.length := (List.getElem?_eq_some_iff.mp d1e).1
      have s1 : Same H (upd G T (.tup [x, y])) := (e2.trans sG).trans (same_upd hT)
      refine ⟨T, [x, y], rfl, SqT.of upd_same, rfl, x, [y], rfl, y, [], rfl, rfl, rfl, lc_yes ?_⟩
      refine ⟨_, rfl, _, rfl, _, rfl, x, y, d1, rfl, hd _ (List.mem_of_getElem? d1e), dp_same s1 _ _ dx, dp_same s1 _ _ dy, fun G2 s2 => ?_⟩
      have hG2 := s2 _ _ (same_upd hT _ _ hG)
      refine ⟨_, hG2, ?_, fun c o e => ?_, ?_⟩
      · rw [List.length_map, List.length_replicate]
        exact Nat.lt_of_lt_of_le (show i < 10000 by omega) (by decide)
      · rw [upd_ne (ne_of_none e hD)]
        exact s2 _ _ (same_upd hT _ _ (sG _ _ e))
      · rw [List.replicate_succ', List.map_append]
        exact upd_same
    · rintro G ⟨sG, hG⟩
      refine ⟨D, _, rfl, SqL.of hG, ?_⟩
      rw [show (List.replicate xs.length true).all id = true by rw [List.all_replicate]; simp]
      exact q _ (e2.trans sG)
  | lst hl hd =>
    cases hx with
    | lst qx hxs =>
    cases hy with
    | lst qy hys =>
    rename_i ds a xs b ys
    refine ⟨_, rfl, by show 2 ≤ sizeLine; decide, fun t1 ht1 => ⟨_, t1, _, _, _, _, rfl, upd_same, .cons (.ty _) (.cons (.ty _) .nil), (ty_sql (sql_same (same_upd ht1) qy)), kit2 (r1 := true) (r2 := false) (by decide +kernel) (by decide +kernel), _, rfl, ?_⟩⟩
    refine iteT' rfl ?_
    have lx : xs.length = ds.length := dps_len hxs
    have ly : ys.length = ds.length := dps_len hys
    have e1 : Same H (upd H t1 (.tup [.ty "list", .ty "tuple"])) := same_upd ht1
    refine ⟨_, rfl, by show 2 ≤ sizeLine; decide, fun t2 ht2 => ⟨_, t2, _, _, _, _, rfl, upd_same, .cons (.ty _) (.cons (.ty _) .nil), (ty_sql (sql_same (e1.trans (same_upd ht2)) qx)), kit2 (r1 := true) (r2 := false) (by decide +kernel) (by decide +kernel), _, rfl, ?_⟩⟩
    have e2 : Same H (upd (upd H t1 (.tup [.ty "list", .ty "tuple"])) t2 (.tup [.ty "list", .ty "tuple"])) := e1.trans (same_upd ht2)
    refine iteF' rfl ?_
    refine ⟨_, rfl, _, .ty "list", _, _, _, rfl, .ty _, ty_sql (sql_same e2 qx), kit_ty (r := true) (by decide +kernel), _, rfl, _, .ty "list", _, _, _, rfl, .ty _, ty_sql (sql_same e2 qy), kit_ty (r := true) (by decide +kernel), rfl, ?_⟩
    refine ⟨_, by rw [decide_eq_true rfl], ?_⟩
    refine iteF' rfl ?_
    refine ⟨_, rfl, a, xs, rfl, .inl (sql_same e2 qx), _, rfl, b, ys, rfl, .inl (sql_same e2 qy), rfl, ?_⟩
    refine ⟨_, by rw [lx, ly, decide_eq_true rfl], ?_⟩
    refine iteT ?_
    refine ⟨_, rfl, _, rfl, a, b, xs, ys, rfl, .inl ⟨sql_same e2 qx, sql_same e2 qy, fun D hD => ?_⟩⟩
    refine lc_zipL (K := K) (a := a) (b := b) (xs := xs) (ys := ys) (by omega) (fun i G => Same (upd (upd H t1 (.tup [.ty "list", .ty "tuple"])) t2 (.tup [.ty "list", .ty "tuple"])) G ∧ G D = some (.lst ((List.replicate i true).map V.bl))) ⟨same_upd hD, upd_same⟩ (fun i G p => ⟨sql_same (e2.trans p.1) qx, sql_same (e2.trans p.1) qy⟩) ?_ ?_
    · rintro i x y T G hx hy ⟨sG, hG⟩ hT
      obtain ⟨d1, d1e, dx⟩ := dps_at hxs hx
      obtain ⟨d2, d2e, dy⟩ := dps_at hys hy
      rw [d1e] at d2e
      cases d2e
      have ii : i < ds.length := (List.getElem?_eq_some_iff.mp d1e).1
      have s1 : Same H (upd G T (.tup [x, y])) := (e2.trans sG).trans (same_upd hT)
      refine ⟨T, [x, y], rfl, SqT.of upd_same, rfl, x, [y], rfl, y, [], rfl, rfl, rfl, lc_yes ?_⟩
      refine ⟨_, rfl, _, rfl, _, rfl, x, y, d1, rfl, hd _ (List.mem_of_getElem? d1e), dp_same s1 _ _ dx, dp_same s1 _ _ dy, fun G2 s2 => ?_⟩
      have hG2 := s2 _ _ (same_upd hT _ _ hG)
      refine ⟨_, hG2, ?_, fun c o e => ?_, ?_⟩
      · rw [List.length_map, List.length_replicate]
        exact Nat.lt_of_lt_of_le (show i < 10000 by omega) (by decide)
      · rw [upd_ne (ne_of_none e hD)]
        exact s2 _ _ (same_upd hT _ _ (sG _ _ e))
      · rw [List.replicate_succ', List.map_append]
        exact upd_same
    · rintro G ⟨sG, hG⟩
      refine ⟨D, _, rfl, SqL.of hG, ?_⟩
      rw [show (List.replicate xs.length true).all id = true by rw [List.all_replicate]; simp]
      exact q _ (e2.trans sG)
theorem ok_sms (F : Fn K mg "_law_same" s_law_same) (T : BlQ mg) : ∀ n, Cal P w K mg base "_law_same" (n + 1) ["found", "due"] (spSm K n)
  | 0 => sm_step F T ((cal_no (P := P) (w := w) (base := base) F (ps := ["found", "due"]) (fun _ _ _ _ _ _ us hl => match us, hl with | [_, _], _ => rfl) ).imp (fun _ _ _ _ ⟨m, e, _⟩ => absurd e (Nat.succ_ne_zero m).symm))
  | n + 1 => sm_step F T ((ok_sms F T n).imp (fun vs H Q E ⟨m, e, h⟩ => by
      have e' : n = m := by omega
      rw [e']
      exact h))
end

end G0
namespace G0
open PySem PySem.Spec PyProof.Rows L2
/-! ### comprehensions over ints, with a test: what stays, what is made of it -/
theorem ints_at' {ns : List Int} {i : Nat} {x : V} (h : (ns.map V.int)[i]? = some x) : ∃ k, ns[i]? = some k ∧ x = V.int k := by
  rw [List.getElem?_map] at h
  cases e : ns[i]? with
  | none => rw [e] at h; cases h
  | some k => rw [e] at h; exact ⟨k, rfl, (Option.some.inj h).symm⟩
theorem filt_next {α : Type} {ns : List α} {i : Nat} {k : α} (p : α → Bool) (h : ns[i]? = some k) : (ns.take (i + 1)).filter p = (ns.take i).filter p ++ (if p k = true then [k] else []) := by
  rw [List.take_succ, h, List.filter_append]
  cases z : p k <;> simp [z]
theorem tst {b c : Bool} {te : TE} {σ : L2.St} {G : Hp} {Y : VK} {B : Hp → Prop} {v : V} (e : b = c) (go : Y v G → te σ G Y) (h : if c = true then Y v G else B G) : if b = true then te σ G Y else B G := by
  rw [e]
  cases c with
  | true => exact iteT (go ((if_pos rfl).mp h))
  | false => exact iteF (by simpa using h)
section
variable {K : PySem.W.Frag} {a : Addr} {ns : List Int} {g : TG} {tt : TT} {te : TE} {vs : List Nat} {σ : L2.St} {H1 : Hp} {D : Addr} {Qd : Hp → Prop}
theorem lc_filtI (p : Int → Bool) (few : ns.length ≤ 10000) (hD : H1 D = none) (hs : SqL K H1 a (ns.map V.int))
    (step : ∀ (i : Nat) (x : Int) (G : Hp) (Y : VK) (B : Hp → Prop), ns[i]? = some x → Same H1 G → (if p x = true then Y (.int x) G else B G) → g (.int x) (wipe σ vs) G fun σ2 H2 => wipe σ2 vs = wipe σ vs ∧ tt σ2 H2 fun b H3 => if b = true then te σ2 H3 Y else B H3)
    (fin : ∀ G, Same H1 G → G D = some (.lst ((ns.filter p).map V.int)) → Qd G) :
    ∃ W : Nat → Nat → Hp → Prop, (∃ m, W 0 m (upd H1 D (.lst []))) ∧ ∀ i m G, W i m G →
      ((Itl K a).stop i G ∧ Qd G) ∨ ((Itl K a).go i G ∧ ∃ Nx : Hp → Prop, (∀ G', Nx G' → ∃ m', m' < m ∧ W (i + 1) m' G') ∧ ∀ x G', (Itl K a).yld i G x G' → g x (wipe σ vs) G' fun σ2 H2 => wipe σ2 vs = wipe σ vs ∧ tt σ2 H2 fun b H3 =>
        if b = true then te σ2 H3 fun y H4 => ∃ acc, H4 D = some (.lst acc) ∧ acc.length < sizeLine ∧ Nx (upd H4 D (.lst (acc ++ [y]))) else Nx H3) := by
  refine lc_list (K := K) (a := a) (xs := ns.map V.int) (fun i G => Same H1 G ∧ G D = some (.lst (((ns.take i).filter p).map V.int))) ⟨same_upd hD, upd_same⟩ (fun i G _ h => h.1.seq hs) ?_ ?_
  · rintro i x G hx ⟨sG, kD⟩
    obtain ⟨k, hk, rfl⟩ := ints_at' hx
    have li := (List.getElem?_eq_some_iff.mp hk).1
    refine step i k G _ _ hk sG ?_
    rw [filt_next p hk]
    by_cases c : p k = true
    · rw [if_pos c, if_pos c]
      refine ⟨_, kD, ?_, fun b o e => ?_, ?_⟩
      · rw [List.length_map]
        exact Nat.lt_of_lt_of_le (show _ < 20000 from Nat.lt_of_le_of_lt (List.length_filter_le ..) (by rw [List.length_take]; omega)) (by decide)
      · rw [upd_ne (ne_of_none e hD)]
        exact sG _ _ e
      · rw [List.map_append]
        exact upd_same
    · rw [if_neg c, if_neg c, List.append_nil]
      exact ⟨sG, kD⟩
  · rintro G ⟨sG, kD⟩
    rw [List.length_map, List.take_length] at kD
    exact fin G sG kD
theorem lc_dataI (p : Int → Bool) (f : Int → PyData) (few : ns.length ≤ 10000) (nl : ∀ x ∈ ns, noL (f x) = true) (hD : H1 D = none) (hs : SqL K H1 a (ns.map V.int))
    (step : ∀ (i : Nat) (x : Int) (G : Hp) (Y : VK) (B : Hp → Prop), ns[i]? = some x → Same H1 G → (p x = true → ∀ v G', Same G G' → Dp K G' v (f x) → Y v G') → (p x = false → B G) → g (.int x) (wipe σ vs) G fun σ2 H2 => wipe σ2 vs = wipe σ vs ∧ tt σ2 H2 fun b H3 => if b = true then te σ2 H3 Y else B H3)
    (fin : ∀ G zs, Same H1 G → G D = some (.lst zs) → DpAll K G zs ((ns.filter p).map f) → Qd G) :
    ∃ W : Nat → Nat → Hp → Prop, (∃ m, W 0 m (upd H1 D (.lst []))) ∧ ∀ i m G, W i m G →
      ((Itl K a).stop i G ∧ Qd G) ∨ ((Itl K a).go i G ∧ ∃ Nx : Hp → Prop, (∀ G', Nx G' → ∃ m', m' < m ∧ W (i + 1) m' G') ∧ ∀ x G', (Itl K a).yld i G x G' → g x (wipe σ vs) G' fun σ2 H2 => wipe σ2 vs = wipe σ vs ∧ tt σ2 H2 fun b H3 =>
        if b = true then te σ2 H3 fun y H4 => ∃ acc, H4 D = some (.lst acc) ∧ acc.length < sizeLine ∧ Nx (upd H4 D (.lst (acc ++ [y]))) else Nx H3) := by
  refine lc_list (K := K) (a := a) (xs := ns.map V.int) (fun i G => Same H1 G ∧ ∃ zs, zs.length ≤ i ∧ G D = some (.lst zs) ∧ DpAll K G zs (((ns.take i).filter p).map f)) ⟨same_upd hD, [], Nat.le_refl _, upd_same, .nil⟩ (fun i G _ h => h.1.seq hs) ?_ ?_
  · rintro i x G hx ⟨sG, zs, lz, kD, dz⟩
    obtain ⟨k, hk, rfl⟩ := ints_at' hx
    have li := (List.getElem?_eq_some_iff.mp hk).1
    have nls : noLs (((ns.take i).filter p).map f) = true := noLs_of fun d hd => by
      obtain ⟨y, hy, rfl⟩ := List.mem_map.mp hd
      exact nl y (List.mem_of_mem_take (List.mem_filter.mp hy).1)
    refine step i k G _ _ hk sG (fun c v G' s' dv => ?_) (fun c => ?_)
    · have kD' := s' _ _ kD
      refine ⟨_, kD', Nat.lt_of_lt_of_le (show zs.length < 20000 by omega) (by decide), fun b o e => ?_, zs ++ [v], by rw [List.length_append, List.length_singleton]; omega, upd_same, ?_⟩
      · rw [upd_ne (ne_of_none e hD)]
        exact s' _ _ (sG _ _ e)
      · rw [filt_next p hk, if_pos c, List.map_append]
        exact dps_app (dps_chg ⟨_, kD'⟩ Chg.self _ _ nls (dps_same s' _ _ dz)) (.cons (dp_chg ⟨_, kD'⟩ Chg.self _ _ (nl k (List.mem_of_getElem? hk)) dv) .nil)
    · refine ⟨sG, zs, by omega, kD, ?_⟩
      rw [filt_next p hk, if_neg (by simp [c]), List.append_nil]
      exact dz
  · rintro G ⟨sG, zs, lz, kD, dz⟩
    rw [List.length_map, List.take_length] at dz
    exact fin G zs sG kD dz
end

end G0
namespace G0
open PySem PySem.Spec PyProof.Rows L2
/-! ### rows of objects, each with its own addresses: what one of them does leaves all others, and all that stands outside -/
def MutW (H : Hp) (x : Addr) : Prop := (∃ xs, H x = some (.lst xs)) ∨ (∃ kvs, H x = some (.dK kvs)) ∨ ∃ C d fs, H x = some (.ins C d fs)
theorem sqt_chgW {K : PySem.W.Frag} {S : List Addr} {H H' : Hp} (c : ChgS S H H') (w : ∀ a ∈ S, MutW H a) : ∀ a xs, SqT K H a xs → SqT K H' a xs := fun a xs q => by
  have no : ∀ o, H a = some o → (∀ xs, o ≠ .lst xs) → (∀ kvs, o ≠ .dK kvs) → (∀ C d fs, o ≠ .ins C d fs) → a ∉ S := fun o e n1 n2 n3 m => by
    rcases w a m with ⟨xs, z⟩ | ⟨kvs, z⟩ | ⟨C, d, fs, z⟩
    · rw [z] at e; exact n1 _ (Option.some.inj e).symm
    · rw [z] at e; exact n2 _ (Option.some.inj e).symm
    · rw [z] at e; exact n3 _ _ _ (Option.some.inj e).symm
  rcases q with (z | ⟨o', z⟩) | z
  · exact .inl (.inl (c _ _ (no _ z (fun _ e => nomatch e) (fun _ e => nomatch e) (fun _ _ _ e => nomatch e)) z))
  · exact .inl (.inr ⟨o', c _ _ (no _ z (fun _ e => nomatch e) (fun _ e => nomatch e) (fun _ _ _ e => nomatch e)) z⟩)
  · exact .inr z
section
variable {K : PySem.W.Frag} {α : Type}
structure ObjR (K : PySem.W.Frag) (At : Hp → Int → α → Prop) (fp : α → List Addr) : Prop where
  mutw : ∀ {H i c}, At H i c → ∀ x ∈ fp c, MutW H x
  keep : ∀ {H H' i c}, At H i c → (∀ x ∈ fp c, ∀ o, H x = some o → H' x = some o) → (∀ a xs, SqT K H a xs → SqT K H' a xs) → At H' i c
structure RowR (At : Hp → Int → α → Prop) (fp : α → List Addr) (H : Hp) (cs : List α) : Prop where
  all : ∀ (i : Nat) c, cs[i]? = some c → At H (i : Int) c
  dj : ∀ (i j : Nat) c c', cs[i]? = some c → cs[j]? = some c' → i ≠ j → ∀ x ∈ fp c, x ∉ fp c'
/-- what stands outside stays, and stays outside -/
def StR (fp : α → List Addr) (cs : List α) (H : Hp) (cs' : List α) (H' : Hp) : Prop := ∀ x o, H x = some o → (∀ c ∈ cs, x ∉ fp c) → H' x = some o ∧ ∀ c ∈ cs', x ∉ fp c
/-- what stands outside -/
def OutR (fp : α → List Addr) (H : Hp) (cs : List α) (x : Addr) (o : HO) : Prop := H x = some o ∧ ∀ c ∈ cs, x ∉ fp c
variable {At : Hp → Int → α → Prop} {fp : α → List Addr} {H H' H1 H2 : Hp} {cs cs' cs1 cs2 : List α} {x : Addr}
theorem StR.trans (a : StR fp cs H cs1 H1) (b : StR fp cs1 H1 cs2 H2) : StR fp cs H cs2 H2 := fun x o e n => b x o (a x o e n).1 (a x o e n).2
theorem StR.refl : StR fp cs H cs H := fun _ _ e n => ⟨e, n⟩
theorem StR.ofSame (s : Same H H') : StR fp cs H cs H' := fun _ _ e n => ⟨s _ _ e, n⟩
theorem StR.mut {o : HO} (s : StR fp cs H cs' H') (h : H x = none) : StR fp cs H cs' (upd H' x o) := fun y o' e n => ⟨(upd_ne (ne_of_none e h)).trans (s y o' e n).1, (s y o' e n).2⟩
theorem OutR.step {o : HO} (q : OutR fp H cs x o) (s : StR fp cs H cs' H') : OutR fp H' cs' x o := s x o q.1 q.2
theorem OutR.same {o : HO} (q : OutR fp H cs x o) (s : Same H H') : OutR fp H' cs x o := ⟨s _ _ q.1, q.2⟩
theorem OutR.put {o o' : HO} {y : Addr} (q : OutR fp H cs x o) (n : x ≠ y) : OutR fp (upd H y o') cs x o := ⟨(upd_ne n).trans q.1, q.2⟩
theorem RowR.mut (Ob : ObjR K At fp) (W : RowR At fp H cs) : ∀ c ∈ cs, ∀ x ∈ fp c, MutW H x := fun c hc x hx => by
  obtain ⟨i, hi⟩ := List.mem_iff_getElem?.mp hc
  exact Ob.mutw (W.all i c hi) x hx
theorem mutW_al (m : MutW H x) : ∃ o, H x = some o := by
  rcases m with ⟨_, z⟩ | ⟨_, z⟩ | ⟨_, _, _, z⟩ <;> exact ⟨_, z⟩
theorem RowR.free (Ob : ObjR K At fp) (W : RowR At fp H cs) (h : H x = none) : ∀ c ∈ cs, x ∉ fp c := fun c hc hx => by
  obtain ⟨o, z⟩ := mutW_al (W.mut Ob c hc x hx)
  rw [h] at z
  cases z
theorem OutR.new (Ob : ObjR K At fp) (W : RowR At fp H cs) {o : HO} (h : H x = none) (k : H' x = some o) : OutR fp H' cs x o := ⟨k, W.free Ob h⟩
theorem StR.sqt (Ob : ObjR K At fp) (W : RowR At fp H cs) (s : StR fp cs H cs' H') : ∀ a xs, SqT K H a xs → SqT K H' a xs := fun a xs q => by
  have no : ∀ o, H a = some o → (∀ xs, o ≠ .lst xs) → (∀ kvs, o ≠ .dK kvs) → (∀ C d fs, o ≠ .ins C d fs) → ∀ c ∈ cs, a ∉ fp c := fun o e n1 n2 n3 c hc m => by
    rcases W.mut Ob c hc a m with ⟨xs, z⟩ | ⟨kvs, z⟩ | ⟨C, d, fs, z⟩
    · rw [z] at e; exact n1 _ (Option.some.inj e).symm
    · rw [z] at e; exact n2 _ (Option.some.inj e).symm
    · rw [z] at e; exact n3 _ _ _ (Option.some.inj e).symm
  rcases q with (z | ⟨o', z⟩) | z
  · exact .inl (.inl (s _ _ z (no _ z (fun _ e => nomatch e) (fun _ e => nomatch e) (fun _ _ _ e => nomatch e))).1)
  · exact .inl (.inr ⟨o', (s _ _ z (no _ z (fun _ e => nomatch e) (fun _ e => nomatch e) (fun _ _ _ e => nomatch e))).1⟩)
  · exact .inr z
theorem RowR.same (Ob : ObjR K At fp) (W : RowR At fp H cs) (s : Same H H') : RowR At fp H' cs := ⟨fun i c e => Ob.keep (W.all i c e) (fun x _ o e => s x o e) fun _ _ q => sqt_same s q, W.dj⟩
/-- something outside is changed -/
theorem RowR.out (Ob : ObjR K At fp) (W : RowR At fp H cs) {o o' : HO} (q : OutR fp H cs x o) (m : ∀ a xs, SqT K H a xs → SqT K (upd H x o') a xs) : RowR At fp (upd H x o') cs := ⟨fun i c e => Ob.keep (W.all i c e) (fun y hy o e2 => (upd_ne (fun z => q.2 c (List.mem_of_getElem? e) (by rw [← z]; exact hy))).trans e2) m, W.dj⟩
theorem sqt_updL {xs : List V} {o : HO} (k : H x = some (.lst xs)) : ∀ a zs, SqT K H a zs → SqT K (upd H x o) a zs := fun a zs q => by
  rcases q with (z | ⟨o', z⟩) | z
  · exact .inl (.inl ((upd_ne (ne_of z k (by intro z; cases z))).trans z))
  · exact .inl (.inr ⟨o', (upd_ne (ne_of z k (by intro z; cases z))).trans z⟩)
  · exact .inr z
theorem sqt_updT {kvs : List (List L2.Key × V)} {o : HO} (k : H x = some (.dT kvs)) : ∀ a zs, SqT K H a zs → SqT K (upd H x o) a zs := fun a zs q => by
  rcases q with (z | ⟨o', z⟩) | z
  · exact .inl (.inl ((upd_ne (ne_of z k (by intro z; cases z))).trans z))
  · exact .inl (.inr ⟨o', (upd_ne (ne_of z k (by intro z; cases z))).trans z⟩)
  · exact .inr z
theorem RowR.set (Ob : ObjR K At fp) (W : RowR At fp H cs) {i : Nat} {c c' : α} (hi : cs[i]? = some c) (ch : ChgS (fp c) H H') (hc : At H' (i : Int) c') (nw : ∀ x ∈ fp c', x ∈ fp c ∨ H x = none) :
    RowR At fp H' (cs.set i c') ∧ StR fp cs H (cs.set i c') H' := by
  have il := (List.getElem?_eq_some_iff.mp hi).1
  have mi := List.mem_of_getElem? hi
  have sq : ∀ x xs, SqT K H x xs → SqT K H' x xs := sqt_chgW ch fun x hx => W.mut Ob _ mi x hx
  have outI : ∀ {x : Addr} {o : HO}, H x = some o → x ∉ fp c → x ∉ fp c' := fun {x o} e n m => by
    rcases nw x m with z | z
    · exact n z
    · rw [z] at e; cases e
  have oth : ∀ {j : Nat} {d : α}, cs[j]? = some d → i ≠ j → ∀ x ∈ fp d, x ∉ fp c := fun {j d} hj ne x hx => W.dj j i d c hj hi (fun e => ne e.symm) x hx
  have get : ∀ {j : Nat} {d : α}, (cs.set i c')[j]? = some d → (i = j ∧ d = c') ∨ (i ≠ j ∧ cs[j]? = some d) := fun {j d} h => by
    rw [List.getElem?_set] at h
    by_cases e : i = j
    · rw [if_pos e, if_pos (by omega)] at h
      exact .inl ⟨e, (Option.some.inj h).symm⟩
    · rw [if_neg e] at h
      exact .inr ⟨e, h⟩
  have alc : ∀ {j : Nat} {d : α}, cs[j]? = some d → ∀ x ∈ fp d, ∃ o, H x = some o := fun {j d} hj x hx => mutW_al (Ob.mutw (W.all j d hj) x hx)
  refine ⟨⟨fun j d hj => ?_, fun j k d d2 hj hk ne x hx => ?_⟩, fun x o e n => ⟨ch x o (n _ mi) e, fun d hd => ?_⟩⟩
  · rcases get hj with ⟨rfl, rfl⟩ | ⟨ne, hj⟩
    · exact hc
    · exact Ob.keep (W.all j d hj) (fun x hx o e => ch x o (oth hj ne x hx) e) sq
  · rcases get hj with ⟨e1, q1⟩ | ⟨n1, hj'⟩ <;> rcases get hk with ⟨e2, q2⟩ | ⟨n2, hk'⟩
    · omega
    · rw [q1] at hx
      intro hx'
      rcases nw x hx with z | z
      · exact oth hk' n2 x hx' z
      · obtain ⟨o, e⟩ := alc hk' x hx'
        rw [z] at e; cases e
    · rw [q2]
      obtain ⟨o, e⟩ := alc hj' x hx
      exact outI e (oth hj' n1 x hx)
    · exact W.dj j k d d2 hj' hk' ne x hx
  · rcases List.mem_or_eq_of_mem_set hd with z | z
    · exact n d z
    · rw [z]
      exact outI e (n _ mi)
end

end G0
namespace G0
open PySem PySem.Spec PyProof.Rows L2
set_option maxHeartbeats 4000000
set_option pp.deepTerms.threshold 3
section
variable {P : Program} {w : World} {K : PySem.W.Frag} {mg : Str → Option Value} {base : Heap} {C : Addr}
structure Bl31 (mg : Str → Option Value) : Prop where
  len : mg "len" = none
  range : mg "range" = none
  list : mg "list" = none
  sorted : mg "sorted" = none
  max : mg "max" = none
/-! ### the model's list of a stamper -/
def moL (cnt : Int) (sq : V) (st : Str) (d3 d4 d5 : Addr) : List V := [.int cnt, sq, .str st, .ref d3, .ref d4, .ref d5]
theorem ints_nil (ws : List Int) : PyData.eqv (.list (ws.map PyData.int)) (.list []) = decide (ws = []) := by
  cases ws with
  | nil => simp [PyData.eqv, PyData.eqvAll]
  | cons a S => simp [PyData.eqv, PyData.eqvAll]
def spCome31 : Sp := fun vs H Q _ => ∃ (o d3 d4 d5 : Addr) (cnt : Int) (sq : V) (st : Str) (ws : List Int), vs = [.ref o] ∧ H o = some (.lst (moL cnt sq st d3 d4 d5)) ∧ H d3 = some (.lst (ws.map V.int)) ∧ o ≠ d3 ∧
  ∀ H', Chg o H H' → H' o = some (.lst (moL cnt sq (stB st ws) d3 d4 d5)) → Q .non H'
theorem sc_law_comes_in : FnScope ["one"] ["one"] (defScope s_law_comes_in) :=
  ⟨rfl, rfl, rfl, by decide +kernel, rfl, by decide +kernel, by decide +kernel⟩
theorem ok_come31 (F : Fn K mg "_law_comes_in" s_law_comes_in) : Cal P w K mg base "_law_comes_in" 1 ["one"] spCome31 := by
  refine cal_of F sc_law_comes_in
    (fun _ _ _ _ _ _ us hl => match us, hl with | [_], _ => rfl) ?_ ?_
  · rintro vs H Q E ⟨_, _, _, _, _, _, _, _, rfl, _⟩
    rfl
  rintro f cdv A outer s H vs Q E free hr ⟨o, d3, d4, d5, cnt, sq, st, ws, rfl, ho, h3, no, q⟩
  refine ⟨_, (pss_one (ps_if (PW.pt (pw_and (pt_cmpR op_eq (pe_ix ix_list (pv 0) pe_int (fun _ _ => rfl)) pe_str (nomark _)) (pw_and1 (pt_cmpR (op_eqD (u64 hr)) (pe_ix ix_list (pv 0) pe_int (fun _ _ => rfl)) (pe_lst pa_nil) (nomark _)))))
    (pss_one (ps_asg pe_str (pg_sub (pv 0) pe_int set_list)))
    pss_nil)), ?_⟩
  refine ⟨_, rfl, o, _, _, _, rfl, rfl, SqL.of ho, rfl, rfl, _, rfl, ?_⟩
  rw [dec_str]
  by_cases c : st = "asking"
  · refine iteT' (decide_eq_true c) ?_
    refine ⟨_, rfl, o, _, _, _, rfl, rfl, SqL.of ho, rfl, Nat.zero_le _, fun e he => ?_⟩
    have se := same_upd (o := .lst []) he
    refine ⟨.list (ws.map PyData.int), .list [], .lst (SqL.of (se _ _ h3)) (dps_ints ws), .lst (SqL.of upd_same) .nil, shaped_ints _, by decide, _, rfl, ?_⟩
    rw [ints_nil]
    refine ite2 (fun c2 => ?_) (fun c2 => ?_)
    · have c2 : ws = [] := of_decide_eq_true c2
      refine ⟨_, rfl, o, _, _, _, rfl, rfl, se _ _ ho, rfl, ?_⟩
      refine q _ (fun b x nb e => (upd_ne nb).trans (se _ _ e)) ?_
      rw [show stB st ws = "in" by unfold stB inB; rw [c, c2]; rfl]
      exact upd_same
    · have c2 : ws ≠ [] := fun z => c2 (decide_eq_true z)
      refine q _ (fun b x nb e => se _ _ e) ?_
      rw [show stB st ws = st by unfold stB inB; rw [if_neg]; cases ws with | nil => exact absurd rfl c2 | cons a b => simp]
      exact se _ _ ho
  · refine iteF' (decide_eq_false c) (iteF ?_)
    refine q _ (fun b x nb e => e) ?_
    rw [show stB st ws = st by unfold stB inB; rw [if_neg]; simp [c]]
    exact ho
end

end G0
namespace G0
open PySem PySem.Spec PyProof.Rows L2
set_option maxHeartbeats 4000000
set_option pp.deepTerms.threshold 3
theorem ints_at'' {ns : List Int} {i : Nat} {x : V} (h : (ns.map V.int)[i]? = some x) : ∃ k, ns[i]? = some k ∧ x = V.int k := by
  rw [List.getElem?_map] at h
  cases e : ns[i]? with
  | none => rw [e] at h; cases h
  | some k => rw [e] at h; exact ⟨k, rfl, (Option.some.inj h).symm⟩
section
variable {P : Program} {w : World} {K : PySem.W.Frag} {mg : Str → Option Value} {base : Heap} {C : Addr}
/-! ### the model asks -/
def spAsks31 (K : PySem.W.Frag) : Sp := fun vs H Q _ => ∃ (mo : Addr) (os : List Addr) (n me : Int) (o d3 d4 d5 : Addr) (cnt : Int) (sq : V) (st : Str) (us : List Int), vs = [.ref mo, .int me] ∧ H mo = some (.lst (os.map V.ref)) ∧ os.length = n.toNat ∧ 0 ≤ me ∧ me < n ∧ n ≤ 60 ∧ os[me.toNat]? = some o ∧
  H o = some (.lst (moL cnt sq st d3 d4 d5)) ∧ H d5 = some (.lst (us.map V.int)) ∧ o ≠ mo ∧ o ≠ d5 ∧
  ∀ l zs d3' tq H', Chg o H H' → H d3' = none → H l = none → l ≠ d3' → H' o = some (.lst (moL (cnt + 1) (.ref tq) (stB "asking" (others n (me :: us))) d3' d4 d5)) → H' d3' = some (.lst ((others n (me :: us)).map V.int)) → SqT K H' tq [.int (cnt + 1), .int me] → H' l = some (.lst zs) → DpAll K H' zs ((others n (me :: us)).map (yesD "ask" (cnt + 1))) → Q (.ref l) H'
theorem sc_law_asks : FnScope ["model", "me", "one", "seat"] ["model", "me"] (defScope s_law_asks) :=
  ⟨rfl, rfl, rfl, by decide +kernel, rfl, by decide +kernel, by decide +kernel⟩
theorem ok_asks31 (F : Fn K mg "_law_asks" s_law_asks) (T : Bl31 mg) (C_comes_in : Cal P w K mg base "_law_comes_in" 1 ["one"] spCome31) : Cal P w K mg base "_law_asks" 2 ["model", "me"] (spAsks31 K) := by
  refine cal_of F sc_law_asks
    (fun _ _ _ _ _ _ us hl => match us, hl with | [_, _], _ => rfl) ?_ ?_
  · rintro vs H Q E ⟨_, _, _, _, _, _, _, _, _, _, _, _, rfl, _⟩
    rfl
  rintro f cdv A outer s H vs Q E free hr ⟨mo, os, n, me, o, d3, d4, d5, cnt, sq, st, us, rfl, hm, ln, m0, m1, n60, hos, ho, h5, nmo, n5, q⟩
  refine ⟨_, (pss_cons (ps_set (i := 2) sc_law_asks.nd rfl (Or.inr rfl) (pe_ix ix_list (pv 0) (pv 1) (fun _ _ => rfl)))
    (pss_cons (ps_asg (pe_op op_add (pe_ix ix_list (pv 2) pe_int (fun _ _ => rfl)) pe_int) (pg_sub (pv 2) pe_int set_list))
    (pss_cons (ps_asg (pe_tup (pa_cons (pe_ix ix_list (pv 2) pe_int (fun _ _ => rfl)) (pa_cons (pv 1) pa_nil))) (pg_sub (pv 2) pe_int set_list))
    (pss_cons (ps_asg pe_str (pg_sub (pv 2) pe_int set_list))
    (pss_cons (ps_asg (pe_lc (own := [("seat", 3)]) (g := gName 3)  (by rfl) sc_law_asks.nd (pi_range1 (by rfl) T.range (pa_cons (pe_callB call_len_seq (by rfl) T.len (by decide +kernel) (pa_cons (pv 0) pa_nil)) pa_nil)) (blkOk_by (N := ["model", "me", "one", "seat"]) (sc := defScope s_law_asks) (by decide +kernel)) (fun _ _ _ _ _ => pg_name (i := 3) sc_law_asks.nd rfl (Or.inl rfl)) (fun _ _ _ _ _ => pts_one (PW.pt (pw_and (pt_cmpR op_ne (pv 3) (pv 1) (nomark _)) (pw_and1 (pt_cmpR (u_notinK K) (pv 3) (pe_ix (ix_listK K) (pv 2) pe_int (fun _ _ => rfl)) (by rfl)))))) (fun _ _ _ _ _ => (pv 3))) (pg_sub (pv 2) pe_int set_list))
    (pss_cons (ps_expr (pe_cal C_comes_in free (hr.mono (by decide)) (pa_cons (pv 2) pa_nil)))
    (pss_one (ps_ret (pe_lc (own := [("seat", 3)]) (g := gName 3) (tt := tYes) (by rfl) sc_law_asks.nd (pi_list (pe_ix ix_list (pv 2) pe_int (fun _ _ => rfl))) (blkOk_by (N := ["model", "me", "one", "seat"]) (sc := defScope s_law_asks) (by decide +kernel)) (fun _ _ _ _ _ => pg_name (i := 3) sc_law_asks.nd rfl (Or.inl rfl)) (fun _ _ _ _ _ => pts_nil) (fun _ _ _ _ _ => (pe_tup (pa_cons (pv 3) (pa_cons (pe_tup (pa_cons pe_str (pa_cons (pe_ix (ix_listK K) (pv 2) pe_int (fun _ _ => rfl)) pa_nil))) pa_nil))))))))))))), ?_⟩
  have atm : atI (os.map V.ref) me = some (.ref o) := by
    have := atI_nat (xs := os.map V.ref) (j := me.toNat) (v := .ref o) (by rw [List.getElem?_map, hos]; rfl)
    rwa [show ((me.toNat : Nat) : Int) = me by omega] at this
  refine ⟨_, rfl, _, rfl, mo, _, _, _, rfl, rfl, SqL.of hm, atm, ?_⟩
  refine ⟨_, rfl, o, _, _, _, rfl, rfl, SqL.of ho, rfl, _, _, rfl, rfl, ?_⟩
  refine ⟨_, rfl, o, _, _, _, rfl, rfl, ho, rfl, ?_⟩
  have k1 : upd H o (.lst (moL (cnt + 1) sq st d3 d4 d5)) o = some (.lst (moL (cnt + 1) sq st d3 d4 d5)) := upd_same
  have c1 : Chg o H (upd H o (.lst (moL (cnt + 1) sq st d3 d4 d5))) := Chg.self
  show tSeq _ _ _ _ (upd H o (.lst (moL (cnt + 1) sq st d3 d4 d5)))
  obtain ⟨H1, e1⟩ : ∃ H1, H1 = upd H o (.lst (moL (cnt + 1) sq st d3 d4 d5)) := ⟨_, rfl⟩
  rw [← e1] at k1 c1
  rw [← e1]
  clear e1
  refine ⟨_, rfl, o, _, _, _, rfl, rfl, SqL.of k1, rfl, _, rfl, by show 2 ≤ sizeLine; decide, fun tq htq => ?_⟩
  have s2 := same_upd (o := .tup [.int (cnt + 1), .int me]) htq
  have ntq : o ≠ tq := ne_of_none k1 htq
  refine ⟨_, rfl, o, _, _, _, rfl, rfl, s2 _ _ k1, rfl, ?_⟩
  refine ⟨_, rfl, o, _, _, _, rfl, rfl, upd_same, rfl, ?_⟩
  have c3 : Chg o H1 (upd (upd (upd H1 tq (.tup [.int (cnt + 1), .int me])) o (.lst (moL (cnt + 1) (.ref tq) st d3 d4 d5))) o (.lst (moL (cnt + 1) (.ref tq) "asking" d3 d4 d5))) := fun b x nb e => (upd_ne nb).trans ((upd_ne nb).trans (s2 _ _ e))
  have k3 : upd (upd (upd H1 tq (.tup [.int (cnt + 1), .int me])) o (.lst (moL (cnt + 1) (.ref tq) st d3 d4 d5))) o (.lst (moL (cnt + 1) (.ref tq) "asking" d3 d4 d5)) o = some (.lst (moL (cnt + 1) (.ref tq) "asking" d3 d4 d5)) := upd_same
  have kt3 : upd (upd (upd H1 tq (.tup [.int (cnt + 1), .int me])) o (.lst (moL (cnt + 1) (.ref tq) st d3 d4 d5))) o (.lst (moL (cnt + 1) (.ref tq) "asking" d3 d4 d5)) tq = some (.tup [.int (cnt + 1), .int me]) := (upd_ne ntq.symm).trans ((upd_ne ntq.symm).trans upd_same)
  show tSeq _ _ _ _ (upd (upd (upd H1 tq (.tup [.int (cnt + 1), .int me])) o (.lst (moL (cnt + 1) (.ref tq) st d3 d4 d5))) o (.lst (moL (cnt + 1) (.ref tq) "asking" d3 d4 d5)))
  obtain ⟨H3, e3⟩ : ∃ H3, H3 = upd (upd (upd H1 tq (.tup [.int (cnt + 1), .int me])) o (.lst (moL (cnt + 1) (.ref tq) st d3 d4 d5))) o (.lst (moL (cnt + 1) (.ref tq) "asking" d3 d4 d5)) := ⟨_, rfl⟩
  rw [← e3] at c3 k3 kt3
  rw [← e3]
  clear e3
  have c03 := c1.trans c3
  have hm3 := c03 _ _ nmo.symm hm
  have h53 := c03 _ _ n5.symm h5
  refine ⟨_, rfl, mo, _, rfl, .inl (SqL.of hm3), _, rfl, ?_⟩
  rw [List.length_map, ln]
  refine ⟨by omega, by omega, fun D hD => ?_⟩
  refine lc_range (lo := 0) (n := _) (fun i G => Same H3 G ∧ G D = some (.lst ((((upto n).take i).filter fun s => !decide (s ∈ me :: us)).map V.int))) ⟨same_upd hD, upd_same⟩ ?_ ?_
  · rintro i G hi ⟨sG, kD⟩
    have hi' : i < n.toNat := by
      have : i < ((n.toNat : Nat) : Int).toNat := hi
      omega
    have er := upto_at (n := n) (i := i) hi'
    rw [filt_snoc er]
    refine ⟨rfl, _, rfl, _, rfl, rfl, _, rfl, ?_⟩
    rw [dec_ii, Int.zero_add]
    by_cases e : (i : Int) = me
    · refine iteF' (by rw [decide_eq_true e]; rfl) (iteF ?_)
      rw [if_neg (by simp [e]), List.append_nil]
      exact ⟨sG, kD⟩
    · refine iteT' (by rw [decide_eq_false e]; rfl) ?_
      refine ⟨_, rfl, _, rfl, o, _, _, _, rfl, rfl, SqL.of (sG _ _ k3), rfl, .inl ⟨d5, _, rfl, .inl (SqL.of (sG _ _ h53)), rfl, flat_ints _, _, rfl, ?_⟩⟩
      rw [inV_ints]
      refine ite2 (fun c4 => ?_) (fun c4 => ?_)
      · have c4 : (!decide ((i : Int) ∈ us)) = true := c4
        rw [if_pos (by simp at c4 ⊢; exact ⟨e, c4⟩)]
        refine ⟨_, rfl, _, kD, ?_, fun a o e => ?_, ?_⟩
        · rw [List.length_map]
          have h1 := List.length_filter_le (fun s => !decide (s ∈ me :: us)) ((upto n).take i)
          rw [List.length_take] at h1
          exact Nat.lt_of_lt_of_le (show _ < 100 by omega) (by decide)
        · rw [upd_ne (ne_of_none e hD)]
          exact sG _ _ e
        · rw [List.map_append]
          exact upd_same
      · have c4 : ¬ (!decide ((i : Int) ∈ us)) = true := c4
        rw [if_neg (by simp at c4 ⊢; exact fun _ => c4), List.append_nil]
        exact ⟨sG, kD⟩
  rintro G ⟨sG, kD⟩
  have eW : ((upto n).take (((n.toNat : Nat) : Int) - 0).toNat).filter (fun s => !decide (s ∈ me :: us)) = others n (me :: us) := by
    rw [List.take_of_length_le (by rw [upto_len]; omega)]
    rfl
  obtain ⟨W, eWW⟩ : ∃ W, W = others n (me :: us) := ⟨_, rfl⟩
  have kD : G D = some (.lst (W.map V.int)) := by rw [eWW, ← eW]; exact kD
  have lW : W.length ≤ 60 := by
    rw [eWW]
    have := List.length_filter_le (fun s => !decide (s ∈ me :: us)) (upto n)
    rw [upto_len] at this
    unfold others
    omega
  rw [← eWW] at q
  have kG := sG _ _ k3
  have D0 : H D = none := by
    have Do : D ≠ o := (ne_of_none k3 hD).symm
    cases z : H D with
    | none => rfl
    | some x => rw [c03 _ _ Do z] at hD; cases hD
  have nD : o ≠ D := ne_of_none k3 hD
  refine ⟨_, rfl, o, _, _, _, rfl, rfl, kG, rfl, ?_⟩
  have k4 : upd G o (.lst (moL (cnt + 1) (.ref tq) "asking" D d4 d5)) o = some (.lst (moL (cnt + 1) (.ref tq) "asking" D d4 d5)) := upd_same
  have c4 : Chg o G (upd G o (.lst (moL (cnt + 1) (.ref tq) "asking" D d4 d5))) := Chg.self
  show tSeq _ _ _ _ (upd G o (.lst (moL (cnt + 1) (.ref tq) "asking" D d4 d5)))
  obtain ⟨H4, e4⟩ : ∃ H4, H4 = upd G o (.lst (moL (cnt + 1) (.ref tq) "asking" D d4 d5)) := ⟨_, rfl⟩
  rw [← e4] at k4 c4
  rw [← e4]
  clear e4
  have kD4 := c4 _ _ nD.symm kD
  refine ⟨_, rfl, o, D, d4, d5, cnt + 1, .ref tq, "asking", W, rfl, k4, kD4, nD, fun H5 c5 k5 => ?_⟩
  have kD5 := c5 _ _ nD.symm kD4
  have c05 : Chg o H H5 := ((c03.trans fun b x nb e => sG b x e).trans c4).trans c5
  have ktq : SqT K H5 tq [.int (cnt + 1), .int me] := SqT.of (c5 _ _ ntq.symm (c4 _ _ ntq.symm (sG _ _ kt3)))
  refine ⟨_, rfl, o, _, _, _, rfl, rfl, SqL.of k5, rfl, D, rfl, ⟨_, SqL.of kD5⟩, fun D2 hD2 => ?_⟩
  refine lc_list (K := K) (a := D) (xs := W.map V.int) (fun i G2 => Same H5 G2 ∧ ∃ zs, zs.length = i ∧ G2 D2 = some (.lst zs) ∧ DpAll K G2 zs ((W.take i).map (yesD "ask" (cnt + 1)))) ⟨same_upd hD2, [], rfl, upd_same, .nil⟩ (fun i G2 _ h => SqL.of (h.1 _ _ kD5)) ?_ ?_
  · rintro i x G2 hx ⟨s2, zs, lz, kD2, dz⟩
    obtain ⟨m, hm, rfl⟩ := ints_at'' hx
    have li := (List.getElem?_eq_some_iff.mp hm).1
    refine ⟨rfl, lc_yes ?_⟩
    refine ⟨_, rfl, _, rfl, o, _, _, _, rfl, rfl, SqL.of (s2 _ _ k5), rfl, by show 2 ≤ sizeLine; decide, fun t ht => ?_⟩
    have u1 := same_upd (o := .tup [.str "ask", .int (cnt + 1)]) ht
    refine ⟨by show 2 ≤ sizeLine; decide, fun t2 ht2 => ?_⟩
    have u2 := same_upd (o := .tup [.int m, .ref t]) ht2
    have kD3 := u2 _ _ (u1 _ _ kD2)
    refine ⟨_, kD3, Nat.lt_of_lt_of_le (show zs.length < 100 by omega) (by decide), fun a x e => ?_, zs ++ [.ref t2], by rw [List.length_append, lz]; rfl, upd_same, ?_⟩
    · rw [upd_ne (ne_of_none e hD2)]
      exact u2 _ _ (u1 _ _ (s2 _ _ e))
    · rw [List.take_succ, hm, List.map_append]
      refine dps_app (dps_chg ⟨_, kD3⟩ Chg.self _ _ (noLs_yes _ _ _) (dps_same (u1.trans u2) _ _ dz)) (dps_chg ⟨_, kD3⟩ Chg.self _ _ (noLs_yes _ _ [m]) (.cons (.tup (SqT.of upd_same) (.cons (.int m) (.cons (.tup (SqT.of (u2 _ _ upd_same)) (.cons (.str _) (.cons (.int _) .nil))) .nil))) .nil))
  · rintro G2 ⟨s2, zs, lz, kD2, dz⟩
    rw [List.length_map, List.take_length] at dz
    have D20 : H D2 = none := by
      have h1 : D2 ≠ o := (ne_of_none k5 hD2).symm
      cases z : H D2 with
      | none => rfl
      | some x => rw [c05 _ _ h1 z] at hD2; cases hD2
    exact q D2 zs D tq G2 (c05.trans fun b x nb e => s2 b x e) D0 D20 (ne_of_none kD5 hD2).symm (s2 _ _ k5) (s2 _ _ kD5) (sqt_same s2 ktq) kD2 dz
end

end G0
namespace G0
open PySem PySem.Spec PyProof.Rows L2
set_option maxHeartbeats 4000000
set_option pp.deepTerms.threshold 3
section
variable {P : Program} {w : World} {K : PySem.W.Frag} {mg : Str → Option Value} {base : Heap} {C : Addr}
/-! ### the model leaves -/
def spLeaves31 (K : PySem.W.Frag) : Sp := fun vs H Q _ => ∃ (mo : Addr) (os : List Addr) (n me : Int) (o d3 d4 d5 : Addr) (cnt : Int) (sq : V) (st : Str) (hs : List Int), vs = [.ref mo, .int me] ∧ H mo = some (.lst (os.map V.ref)) ∧ os.length = n.toNat ∧ 0 ≤ me ∧ me < n ∧ os[me.toNat]? = some o ∧
  H o = some (.lst (moL cnt sq st d3 d4 d5)) ∧ H d4 = some (.lst (hs.map V.int)) ∧ o ≠ d4 ∧ hs.length ≤ 1000 ∧
  ∀ l zs d4' H', Chg o H H' → H d4' = none → H l = none → l ≠ d4' → H' o = some (.lst (moL cnt .non "out" d3 d4' d5)) → H' d4' = some (.lst []) → H' l = some (.lst zs) → DpAll K H' zs (hs.map (yesD "yes" cnt)) → Q (.ref l) H'
theorem sc_law_leaves : FnScope ["model", "me", "one", "freed", "seat"] ["model", "me"] (defScope s_law_leaves) :=
  ⟨rfl, rfl, rfl, by decide +kernel, rfl, by decide +kernel, by decide +kernel⟩
theorem ok_leaves31 (F : Fn K mg "_law_leaves" s_law_leaves) : Cal P w K mg base "_law_leaves" 2 ["model", "me"] (spLeaves31 K) := by
  refine cal_of F sc_law_leaves
    (fun _ _ _ _ _ _ us hl => match us, hl with | [_, _], _ => rfl) ?_ ?_
  · rintro vs H Q E ⟨_, _, _, _, _, _, _, _, _, _, _, _, rfl, _⟩
    rfl
  rintro f cdv A outer s H vs Q E free hr ⟨mo, os, n, me, o, d3, d4, d5, cnt, sq, st, hs, rfl, hm, ln, m0, m1, hos, ho, h4, n4, l1, q⟩
  refine ⟨_, (pss_cons (ps_set (i := 2) sc_law_leaves.nd rfl (Or.inr rfl) (pe_ix ix_list (pv 0) (pv 1) (fun _ _ => rfl)))
    (pss_cons (ps_set (i := 3) sc_law_leaves.nd rfl (Or.inl rfl) (pe_ix ix_list (pv 2) pe_int (fun _ _ => rfl)))
    (pss_cons (ps_asg (pe_lst pa_nil) (pg_sub (pv 2) pe_int set_list))
    (pss_cons (ps_asg pe_non (pg_sub (pv 2) pe_int set_list))
    (pss_cons (ps_asg pe_str (pg_sub (pv 2) pe_int set_list))
    (pss_one (ps_ret (pe_lc (own := [("seat", 4)]) (g := gName 4) (tt := tYes) (by rfl) sc_law_leaves.nd (pi_list (pv 3)) (blkOk_by (N := ["model", "me", "one", "freed", "seat"]) (sc := defScope s_law_leaves) (by decide +kernel)) (fun _ _ _ _ _ => pg_name (i := 4) sc_law_leaves.nd rfl (Or.inl rfl)) (fun _ _ _ _ _ => pts_nil) (fun _ _ _ _ _ => (pe_tup (pa_cons (pv 4) (pa_cons (pe_tup (pa_cons pe_str (pa_cons (pe_ix (ix_listK K) (pv 2) pe_int (fun _ _ => rfl)) pa_nil))) pa_nil)))))))))))), ?_⟩
  have atm : atI (os.map V.ref) me = some (.ref o) := by
    have := atI_nat (xs := os.map V.ref) (j := me.toNat) (v := .ref o) (by rw [List.getElem?_map, hos]; rfl)
    rwa [show ((me.toNat : Nat) : Int) = me by omega] at this
  refine ⟨_, rfl, _, rfl, mo, _, _, _, rfl, rfl, SqL.of hm, atm, ?_⟩
  refine ⟨_, rfl, o, _, _, _, rfl, rfl, SqL.of ho, rfl, ?_⟩
  refine ⟨Nat.zero_le _, fun D hD => ?_⟩
  have s1 := same_upd (o := .lst []) hD
  have nD : o ≠ D := ne_of_none ho hD
  have n4D : d4 ≠ D := ne_of_none h4 hD
  refine ⟨_, rfl, o, _, _, _, rfl, rfl, s1 _ _ ho, rfl, ?_⟩
  refine ⟨_, rfl, o, _, _, _, rfl, rfl, upd_same, rfl, ?_⟩
  refine ⟨_, rfl, o, _, _, _, rfl, rfl, upd_same, rfl, ?_⟩
  obtain ⟨H3, e3⟩ : ∃ H3, H3 = upd (upd (upd (upd H D (.lst [])) o (.lst (moL cnt sq st d3 D d5))) o (.lst (moL cnt .non st d3 D d5))) o (.lst (moL cnt .non "out" d3 D d5)) := ⟨_, rfl⟩
  have k3 : H3 o = some (.lst (moL cnt .non "out" d3 D d5)) := by rw [e3]; exact upd_same
  have kD3 : H3 D = some (.lst []) := by rw [e3, upd_ne nD.symm, upd_ne nD.symm, upd_ne nD.symm]; exact upd_same
  have c3 : Chg o H H3 := fun b x nb e => by rw [e3, upd_ne nb, upd_ne nb, upd_ne nb]; exact s1 _ _ e
  show L2.Ends.nx _ _ (upd (upd (upd (upd H D (.lst [])) o (.lst (moL cnt sq st d3 D d5))) o (.lst (moL cnt .non st d3 D d5))) o (.lst (moL cnt .non "out" d3 D d5)))
  rw [← e3]
  clear e3
  have h43 := c3 _ _ n4.symm h4
  refine ⟨_, rfl, d4, rfl, ⟨_, SqL.of h43⟩, fun D2 hD2 => ?_⟩
  refine lc_list (K := K) (a := d4) (xs := hs.map V.int) (fun i G2 => Same H3 G2 ∧ ∃ zs, zs.length = i ∧ G2 D2 = some (.lst zs) ∧ DpAll K G2 zs ((hs.take i).map (yesD "yes" cnt))) ⟨same_upd hD2, [], rfl, upd_same, .nil⟩ (fun i G2 _ h => SqL.of (h.1 _ _ h43)) ?_ ?_
  · rintro i x G2 hx ⟨s2, zs, lz, kD2, dz⟩
    obtain ⟨m, hm, rfl⟩ := ints_at'' hx
    have li := (List.getElem?_eq_some_iff.mp hm).1
    refine ⟨rfl, lc_yes ?_⟩
    refine ⟨_, rfl, _, rfl, o, _, _, _, rfl, rfl, SqL.of (s2 _ _ k3), rfl, by show 2 ≤ sizeLine; decide, fun t ht => ?_⟩
    have u1 := same_upd (o := .tup [.str "yes", .int cnt]) ht
    refine ⟨by show 2 ≤ sizeLine; decide, fun t2 ht2 => ?_⟩
    have u2 := same_upd (o := .tup [.int m, .ref t]) ht2
    have kD3 := u2 _ _ (u1 _ _ kD2)
    refine ⟨_, kD3, Nat.lt_of_lt_of_le (show zs.length < 2000 by omega) (by decide), fun a x e => ?_, zs ++ [.ref t2], by rw [List.length_append, lz]; rfl, upd_same, ?_⟩
    · rw [upd_ne (ne_of_none e hD2)]
      exact u2 _ _ (u1 _ _ (s2 _ _ e))
    · rw [List.take_succ, hm, List.map_append]
      refine dps_app (dps_chg ⟨_, kD3⟩ Chg.self _ _ (noLs_yes _ _ _) (dps_same (u1.trans u2) _ _ dz)) (dps_chg ⟨_, kD3⟩ Chg.self _ _ (noLs_yes _ _ [m]) (.cons (.tup (SqT.of upd_same) (.cons (.int m) (.cons (.tup (SqT.of (u2 _ _ upd_same)) (.cons (.str _) (.cons (.int _) .nil))) .nil))) .nil))
  · rintro G2 ⟨s2, zs, lz, kD2, dz⟩
    rw [List.length_map, List.take_length] at dz
    have D20 : H D2 = none := by
      have h1 : D2 ≠ o := (ne_of_none k3 hD2).symm
      cases z : H D2 with
      | none => rfl
      | some x => rw [c3 _ _ h1 z] at hD2; cases hD2
    exact q D2 zs D G2 (c3.trans fun b x nb e => s2 b x e) hD D20 (ne_of_none kD3 hD2).symm (s2 _ _ k3) (s2 _ _ kD3) kD2 dz
end

end G0
namespace G0
open PySem PySem.Spec PyProof.Rows L2
set_option maxHeartbeats 4000000
set_option pp.deepTerms.threshold 3
theorem ints_sortedE {us vs : List Int} (p : us.Perm vs) (h1 : us.Pairwise (· ≤ ·)) (h2 : vs.Pairwise (· ≤ ·)) : us = vs :=
  p.eq_of_pairwise (fun _ _ _ _ a b => Int.le_antisymm a b) h1 h2
def ltG : PyData := .tuple [.str "gone"]
def ltD31 (wd : Str) (c : Int) : PyData := .tuple [.str wd, .int c]
theorem eq_ltG (wd : Str) (c : Int) : PyData.eqv (ltD31 wd c) ltG = false := by
  simp [ltD31, ltG, PyData.eqv, PyData.eqvAll]
theorem shp_lt (wd : Str) (c : Int) (h : (PyData.str wd).canLay0 = true) : SeqAt.shaped (ltD31 wd c) = true := by
  show ((ltD31 wd c).canLay0 && decide ((ltD31 wd c).depth ≤ 64)) = true
  simp [ltD31, PyData.canLay0, PyData.canLayAll0, PyData.depth, PyData.depthAll]
  simpa [PyData.canLay0] using h
theorem sqt_mutL {K : PySem.W.Frag} {H : Hp} {x : Addr} {xs : List V} {o : HO} (k : H x = some (.lst xs)) : ∀ a zs, SqT K H a zs → SqT K (upd H x o) a zs := fun a zs q => by
  rcases q with (z | ⟨o', z⟩) | z
  · exact .inl (.inl ((upd_ne (ne_of z k (by intro z; cases z))).trans z))
  · exact .inl (.inr ⟨o', (upd_ne (ne_of z k (by intro z; cases z))).trans z⟩)
  · exact .inr z
theorem sqt_chgL {K : PySem.W.Frag} {H H' : Hp} {x : Addr} {xs : List V} (k : H x = some (.lst xs)) (c : Chg x H H') : ∀ a zs, SqT K H a zs → SqT K H' a zs := fun a zs q => by
  rcases q with (z | ⟨o', z⟩) | z
  · exact .inl (.inl (c _ _ (ne_of z k (by intro z; cases z)) z))
  · exact .inl (.inr ⟨o', c _ _ (ne_of z k (by intro z; cases z)) z⟩)
  · exact .inr z
section
variable {P : Program} {w : World} {K : PySem.W.Frag} {mg : Str → Option Value} {base : Heap} {C : Addr}
/-! ### the model hears -/
def filtI (ws : List Int) (k : Int) : List Int := ws.filter fun j => !decide (j = k)
def spHears31 (K : PySem.W.Frag) : Sp := fun vs H Q _ => ∃ (mo : Addr) (os : List Addr) (n k me : Int) (o d3 d4 d5 lt : Addr) (cnt : Int) (sq : V) (st : Str) (ws hs us : List Int), vs = [.ref mo, .int k, .int me, .ref lt] ∧ H mo = some (.lst (os.map V.ref)) ∧ os.length = n.toNat ∧ 0 ≤ me ∧ me < n ∧ os[me.toNat]? = some o ∧
  H o = some (.lst (moL cnt sq st d3 d4 d5)) ∧ H d3 = some (.lst (ws.map V.int)) ∧ H d4 = some (.lst (hs.map V.int)) ∧ H d5 = some (.lst (us.map V.int)) ∧ o ≠ d3 ∧ o ≠ d4 ∧ o ≠ d5 ∧ ws.length ≤ 1000 ∧ hs.length ≤ 1000 ∧ us.length ≤ 1000 ∧
  ((∃ (c : Int) (sn : List Int), SqT K H lt [.str "ask", .int c] ∧ (st = "asking" → ws ≠ [] ∧ ∃ ta, sq = .ref ta ∧ SqT K H ta (sn.map V.int)) ∧
      (if holdB st sn c k = true then ∀ l d4' H', Chg o H H' → H d4' = none → H l = none → l ≠ d4' → H' o = some (.lst (moL (maxI cnt c) sq st d3 d4' d5)) → H' d4' = some (.lst ((hs ++ [k]).map V.int)) → H' l = some (.lst []) → Q (.ref l) H'
        else ∀ l zs H', Chg o H H' → H l = none → H' o = some (.lst (moL (maxI cnt c) sq st d3 d4 d5)) → H' l = some (.lst zs) → DpAll K H' zs [yesD "yes" (maxI cnt c) k] → Q (.ref l) H')) ∨
    (∃ c : Int, SqT K H lt [.str "yes", .int c] ∧ ∀ l d3' H', Chg o H H' → H d3' = none → H l = none → l ≠ d3' → H' o = some (.lst (moL (maxI cnt c) sq (stB st (filtI ws k)) d3' d4 d5)) → H' d3' = some (.lst ((filtI ws k).map V.int)) → H' l = some (.lst []) → Q (.ref l) H') ∨
    (SqT K H lt [.str "gone"] ∧ ∀ (l d3' d4' d5' : Addr) (us' : List Int) (H' : Hp), Chg o H H' → H d3' = none → H d4' = none → H d5' = none → H l = none → [l, d3', d4', d5'].Nodup → us'.Perm (us ++ [k]) → us'.Pairwise (· ≤ ·) →
      H' o = some (.lst (moL cnt sq (stB st (filtI ws k)) d3' d4' d5')) → H' d3' = some (.lst ((filtI ws k).map V.int)) → H' d4' = some (.lst ((filtI hs k).map V.int)) → H' d5' = some (.lst (us'.map V.int)) → H' l = some (.lst []) → Q (.ref l) H'))
theorem sc_law_hears : FnScope ["model", "sender", "me", "letter", "one", "seat"] ["model", "sender", "me", "letter"] (defScope s_law_hears) :=
  ⟨rfl, rfl, rfl, by decide +kernel, rfl, by decide +kernel, by decide +kernel⟩
theorem ok_hears31 (F : Fn K mg "_law_hears" s_law_hears) (T : Bl31 mg) (C_comes_in : Cal P w K mg base "_law_comes_in" 1 ["one"] spCome31) : Cal P w K mg base "_law_hears" 2 ["model", "sender", "me", "letter"] (spHears31 K) := by
  refine cal_of F sc_law_hears
    (fun _ _ _ _ _ _ us hl => match us, hl with | [_, _, _, _], _ => rfl) ?_ ?_
  · rintro vs H Q E ⟨_, _, _, _, _, _, _, _, _, _, _, _, _, _, _, _, rfl, _⟩
    rfl
  rintro f cdv A outer s H vs Q E free hr ⟨mo, os, n, k, me, o, d3, d4, d5, lt, cnt, sq, st, ws, hs, us, rfl, hm, ln, m0, m1, hos, ho, h3, h4, h5, n3, n4, n5, lw, lh, lu, three⟩
  refine ⟨_, (pss_cons (ps_set (i := 4) sc_law_hears.nd rfl (Or.inl rfl) (pe_ix ix_list (pv 0) (pv 2) (fun _ _ => rfl)))
    (pss_cons (ps_if (pt_cmpR op_ne (pe_ix ix_tup (pv 3) pe_int (fun _ _ => rfl)) pe_str (nomark _))
    (pss_one (ps_asg (pe_lc (own := [("seat", 5)]) (g := gName 5)  (by rfl) sc_law_hears.nd (pi_list (pe_ix ix_list (pv 4) pe_int (fun _ _ => rfl))) (blkOk_by (N := ["model", "sender", "me", "letter", "one", "seat"]) (sc := defScope s_law_hears) (by decide +kernel)) (fun _ _ _ _ _ => pg_name (i := 5) sc_law_hears.nd rfl (Or.inl rfl)) (fun _ _ _ _ _ => pts_one (pt_cmpR op_ne (pv 5) (pv 1) (nomark _))) (fun _ _ _ _ _ => (pv 5))) (pg_sub (pv 4) pe_int set_list)))
    pss_nil)
    (pss_cons (ps_if (pt_cmpR (op_eqD (u64 hr)) (pv 3) (pe_tup (pa_cons pe_str pa_nil)) (nomark _))
    (pss_cons (ps_asg (pe_lc (own := [("seat", 5)]) (g := gName 5)  (by rfl) sc_law_hears.nd (pi_list (pe_ix ix_list (pv 4) pe_int (fun _ _ => rfl))) (blkOk_by (N := ["model", "sender", "me", "letter", "one", "seat"]) (sc := defScope s_law_hears) (by decide +kernel)) (fun _ _ _ _ _ => pg_name (i := 5) sc_law_hears.nd rfl (Or.inl rfl)) (fun _ _ _ _ _ => pts_one (pt_cmpR op_ne (pv 5) (pv 1) (nomark _))) (fun _ _ _ _ _ => (pv 5))) (pg_sub (pv 4) pe_int set_list))
    (pss_one (ps_asg (pe_callB cr_sortedI (by rfl) T.sorted (by decide +kernel) (pa_cons (pe_op op_cat (pe_ix ix_list (pv 4) pe_int (fun _ _ => rfl)) (pe_lst (pa_cons (pv 1) pa_nil))) pa_nil)) (pg_sub (pv 4) pe_int set_list))))
    (pss_one (ps_asg (pe_callB (call_max2 rfl) (by rfl) T.max (by decide +kernel) (pa_cons (pe_ix ix_list (pv 4) pe_int (fun _ _ => rfl)) (pa_cons (pe_ix ix_tup (pv 3) pe_int (fun _ _ => rfl)) pa_nil))) (pg_sub (pv 4) pe_int set_list))))
    (pss_cons (ps_expr (pe_cal C_comes_in free (hr.mono (by decide)) (pa_cons (pv 4) pa_nil)))
    (pss_cons (ps_if (pt_cmpR op_ne (pe_ix ix_tup (pv 3) pe_int (fun _ _ => rfl)) pe_str (nomark _))
    (pss_one (ps_ret (pe_lst pa_nil)))
    pss_nil)
    (pss_cons (ps_if (PW.pt (pw_or (pt_cmpR op_eq (pe_ix ix_list (pv 4) pe_int (fun _ _ => rfl)) pe_str (nomark _)) (pw_or1 (PW.pt (pw_and (pt_cmpR op_eq (pe_ix ix_list (pv 4) pe_int (fun _ _ => rfl)) pe_str (nomark _)) (pw_and1 (pt_cmpR (op_ltT (u0 hr)) (pe_ix ix_list (pv 4) pe_int (fun _ _ => rfl)) (pe_tup (pa_cons (pe_ix ix_tup (pv 3) pe_int (fun _ _ => rfl)) (pa_cons (pv 1) pa_nil))) (nomark _))))))))
    (pss_cons (ps_asg (pe_op op_cat (pe_ix ix_list (pv 4) pe_int (fun _ _ => rfl)) (pe_lst (pa_cons (pv 1) pa_nil))) (pg_sub (pv 4) pe_int set_list))
    (pss_one (ps_ret (pe_lst pa_nil))))
    pss_nil)
    (pss_one (ps_ret (pe_lst (pa_cons (pe_tup (pa_cons (pv 1) (pa_cons (pe_tup (pa_cons pe_str (pa_cons (pe_ix ix_list (pv 4) pe_int (fun _ _ => rfl)) pa_nil))) pa_nil))) pa_nil)))))))))), ?_⟩
  have atm : atI (os.map V.ref) me = some (.ref o) := by
    have := atI_nat (xs := os.map V.ref) (j := me.toNat) (v := .ref o) (by rw [List.getElem?_map, hos]; rfl)
    rwa [show ((me.toNat : Nat) : Int) = me by omega] at this
  refine ⟨_, rfl, _, rfl, mo, _, _, _, rfl, rfl, SqL.of hm, atm, ?_⟩
  rcases three with ⟨c, sn, hl, two, q⟩ | ⟨c, hl, q⟩ | ⟨hl, q⟩
  · refine ⟨_, rfl, lt, _, _, _, rfl, rfl, hl, atI_nat (j := 0) rfl, rfl, _, rfl, iteF' (by rw [dec_str]; decide +kernel) ?_⟩
    refine ⟨_, rfl, by show 1 ≤ sizeLine; decide, fun t ht => ?_⟩
    have s1 := same_upd (o := .tup [.str "gone"]) ht
    refine ⟨ltD31 "ask" c, ltG, .tup (sqt_same s1 hl) (.cons (.str _) (.cons (.int _) .nil)), .tup (SqT.of upd_same) (.cons (.str _) .nil), shp_lt _ _ (by decide +kernel), by decide +kernel, _, rfl, ?_⟩
    rw [eq_ltG]
    refine iteF' rfl ?_
    refine ⟨_, rfl, o, _, _, _, rfl, rfl, SqL.of (s1 _ _ ho), rfl, _, rfl, lt, _, _, _, rfl, rfl, sqt_same s1 hl, atI_nat (j := 1) rfl, _, _, rfl, ?_⟩
    refine ⟨_, rfl, o, _, _, _, rfl, rfl, s1 _ _ ho, rfl, ?_⟩
    show L2.Ends.nx _ _ (upd (upd H t (.tup [.str "gone"])) o (.lst (moL (maxI cnt c) sq st d3 d4 d5)))
    obtain ⟨H1, e1⟩ : ∃ H1, H1 = upd (upd H t (.tup [.str "gone"])) o (.lst (moL (maxI cnt c) sq st d3 d4 d5)) := ⟨_, rfl⟩
    have k1 : H1 o = some (.lst (moL (maxI cnt c) sq st d3 d4 d5)) := by rw [e1]; exact upd_same
    have c1 : Chg o H H1 := fun b x nb e => by rw [e1, upd_ne nb]; exact s1 _ _ e
    have q1 : ∀ a xs, SqT K H a xs → SqT K H1 a xs := fun a xs z => by rw [e1]; exact sqt_mutL (s1 _ _ ho) _ _ (sqt_same s1 z)
    rw [← e1]
    clear e1
    have eB : stB st ws = st := by
      unfold stB inB
      rw [if_neg]
      intro z
      simp at z
      exact (two z.1).1 z.2
    refine ⟨_, rfl, o, d3, d4, d5, maxI cnt c, sq, st, ws, rfl, k1, c1 _ _ n3.symm h3, n3, fun H2 c2 k2 => ?_⟩
    rw [eB] at k2
    have q2 : ∀ a xs, SqT K H a xs → SqT K H2 a xs := fun a xs z => sqt_chgL k1 c2 _ _ (q1 a xs z)
    have c02 := c1.trans c2
    refine ⟨_, rfl, lt, _, _, _, rfl, rfl, q2 _ _ hl, atI_nat (j := 0) rfl, rfl, _, rfl, iteF' (by rw [dec_str]; decide +kernel) ?_⟩
    have back : ∀ {x : Addr} {G : Hp}, Same H2 G → G x = none → x ≠ o → H x = none := fun {x G} s h n => by
      cases z : H x with
      | none => rfl
      | some y => rw [s _ _ (c02 _ _ n z)] at h; cases h
    refine ⟨_, rfl, o, _, _, _, rfl, rfl, SqL.of k2, rfl, rfl, _, rfl, ?_⟩
    rw [dec_str]
    by_cases c1 : st = "in"
    · refine iteT' (by simp [c1]) ?_
      refine iteT ?_
      rw [if_pos (show holdB st sn c k = true from by simp [holdB, c1])] at q
      have kG := ((Same.refl H2)) _ _ k2
      have h4G := ((Same.refl H2)) _ _ (c02 _ _ n4.symm h4)
      refine ⟨_, rfl, o, _, _, _, rfl, rfl, SqL.of kG, rfl, _, rfl, by show 1 ≤ sizeLine; decide, fun x1 hx1 => ?_⟩
      have u1 := same_upd (o := .lst [V.int k]) hx1
      refine ⟨d4, x1, _, _, rfl, rfl, u1 _ _ h4G, upd_same, ?_, fun d4' hd4 => ?_⟩
      · rw [List.length_map]
        exact Nat.le_trans (show hs.length + 1 ≤ 2000 by omega) (by decide)
      have u2 := same_upd (o := .lst (hs.map V.int ++ [V.int k])) hd4
      have u12 := u1.trans u2
      have od4 : o ≠ d4' := ne_of_none (u1 _ _ kG) hd4
      refine ⟨_, rfl, o, _, _, _, rfl, rfl, u12 _ _ kG, rfl, ?_⟩
      refine ⟨Nat.zero_le _, fun l hl2 => ?_⟩
      have lo : o ≠ l := ne_of_none upd_same hl2
      have ld : d4' ≠ l := ne_of_none ((upd_ne od4.symm).trans upd_same) hl2
      have hl3 := hl2
      rw [upd_ne lo.symm, upd_ne ld.symm] at hl3
      refine q l d4' _ (fun b x nb e => same_upd hl2 _ _ ((upd_ne nb).trans (u12 _ _ ((Same.refl H2) _ _ (c02 _ _ nb e))))) (back (((Same.refl H2)).trans u1) hd4 od4.symm) (back (((Same.refl H2)).trans u1) hl3 lo.symm) ld.symm (same_upd hl2 _ _ upd_same) ?_ upd_same
      rw [List.map_append]
      exact same_upd hl2 _ _ ((upd_ne od4.symm).trans upd_same)
    · refine iteF' (by simp [c1]) ?_
      refine ⟨_, rfl, o, _, _, _, rfl, rfl, SqL.of k2, rfl, rfl, _, rfl, ?_⟩
      rw [dec_str]
      by_cases c2' : st = "asking"
      · refine iteT' (by simp [c2']) ?_
        obtain ⟨_, ta, rfl, zs⟩ := two c2'
        refine ⟨_, rfl, o, _, _, _, rfl, rfl, SqL.of k2, rfl, _, rfl, lt, _, _, _, rfl, rfl, q2 _ _ hl, atI_nat (j := 1) rfl, _, rfl, by show 2 ≤ sizeLine; decide, fun t2 ht2 => ?_⟩
        have s2 := same_upd (o := .tup [.int c, .int k]) ht2
        refine ⟨ta, t2, sn, [c, k], rfl, rfl, sqt_same s2 (q2 _ _ zs), SqT.of upd_same, _, rfl, ?_⟩
        cases hlt : HT.lexLt sn [c, k] with
        | true =>
          refine iteT ?_
          rw [if_pos (show holdB st sn c k = true from by simp [holdB, c2', hlt])] at q
          have kG := (s2) _ _ k2
          have h4G := (s2) _ _ (c02 _ _ n4.symm h4)
          refine ⟨_, rfl, o, _, _, _, rfl, rfl, SqL.of kG, rfl, _, rfl, by show 1 ≤ sizeLine; decide, fun x1 hx1 => ?_⟩
          have u1 := same_upd (o := .lst [V.int k]) hx1
          refine ⟨d4, x1, _, _, rfl, rfl, u1 _ _ h4G, upd_same, ?_, fun d4' hd4 => ?_⟩
          · rw [List.length_map]
            exact Nat.le_trans (show hs.length + 1 ≤ 2000 by omega) (by decide)
          have u2 := same_upd (o := .lst (hs.map V.int ++ [V.int k])) hd4
          have u12 := u1.trans u2
          have od4 : o ≠ d4' := ne_of_none (u1 _ _ kG) hd4
          refine ⟨_, rfl, o, _, _, _, rfl, rfl, u12 _ _ kG, rfl, ?_⟩
          refine ⟨Nat.zero_le _, fun l hl2 => ?_⟩
          have lo : o ≠ l := ne_of_none upd_same hl2
          have ld : d4' ≠ l := ne_of_none ((upd_ne od4.symm).trans upd_same) hl2
          have hl3 := hl2
          rw [upd_ne lo.symm, upd_ne ld.symm] at hl3
          refine q l d4' _ (fun b x nb e => same_upd hl2 _ _ ((upd_ne nb).trans (u12 _ _ (s2 _ _ (c02 _ _ nb e))))) (back ((s2).trans u1) hd4 od4.symm) (back ((s2).trans u1) hl3 lo.symm) ld.symm (same_upd hl2 _ _ upd_same) ?_ upd_same
          rw [List.map_append]
          exact same_upd hl2 _ _ ((upd_ne od4.symm).trans upd_same)
        | false =>
          refine iteF ?_
          rw [if_neg (show ¬ (holdB st sn c k = true) from by simp [holdB, c1, hlt])] at q
          have kG := (s2) _ _ k2
          refine ⟨_, rfl, _, rfl, o, _, _, _, rfl, rfl, SqL.of kG, rfl, by show 2 ≤ sizeLine; decide, fun t1 ht1 => ?_⟩
          have v1 := same_upd (o := .tup [.str "yes", .int (maxI cnt c)]) ht1
          refine ⟨by show 2 ≤ sizeLine; decide, fun t3 ht3 => ?_⟩
          have v2 := same_upd (o := .tup [.int k, .ref t1]) ht3
          refine ⟨by show 1 ≤ sizeLine; decide, fun l hl2 => ?_⟩
          have v3 := same_upd (o := .lst [.ref t3]) hl2
          have v := (s2).trans (v1.trans (v2.trans v3))
          have lo : o ≠ l := ne_of_none (v2 _ _ (v1 _ _ kG)) hl2
          refine q l [.ref t3] _ (c02.trans fun b x nb e => v b x e) (back ((s2).trans (v1.trans v2)) hl2 lo.symm) (v _ _ k2) upd_same ?_
          exact .cons (dp_yes (SqT.of (v3 _ _ upd_same)) (SqT.of (v3 _ _ (v2 _ _ upd_same)))) .nil
      · refine iteF' (by simp [c2']) ?_
        refine iteF ?_
        rw [if_neg (show ¬ (holdB st sn c k = true) from by simp [holdB, c1, c2'])] at q
        have kG := ((Same.refl H2)) _ _ k2
        refine ⟨_, rfl, _, rfl, o, _, _, _, rfl, rfl, SqL.of kG, rfl, by show 2 ≤ sizeLine; decide, fun t1 ht1 => ?_⟩
        have v1 := same_upd (o := .tup [.str "yes", .int (maxI cnt c)]) ht1
        refine ⟨by show 2 ≤ sizeLine; decide, fun t3 ht3 => ?_⟩
        have v2 := same_upd (o := .tup [.int k, .ref t1]) ht3
        refine ⟨by show 1 ≤ sizeLine; decide, fun l hl2 => ?_⟩
        have v3 := same_upd (o := .lst [.ref t3]) hl2
        have v := ((Same.refl H2)).trans (v1.trans (v2.trans v3))
        have lo : o ≠ l := ne_of_none (v2 _ _ (v1 _ _ kG)) hl2
        refine q l [.ref t3] _ (c02.trans fun b x nb e => v b x e) (back (((Same.refl H2)).trans (v1.trans v2)) hl2 lo.symm) (v _ _ k2) upd_same ?_
        exact .cons (dp_yes (SqT.of (v3 _ _ upd_same)) (SqT.of (v3 _ _ (v2 _ _ upd_same)))) .nil
  · refine ⟨_, rfl, lt, _, _, _, rfl, rfl, hl, atI_nat (j := 0) rfl, rfl, _, rfl, iteT' (by rw [dec_str]; decide +kernel) ?_⟩
    refine ⟨_, rfl, o, _, _, _, rfl, rfl, SqL.of ho, rfl, d3, rfl, ⟨_, SqL.of h3⟩, fun D hD => ?_⟩
    refine lc_filtI (fun j => !decide (j = k)) (Nat.le_trans lw (by decide)) hD (SqL.of h3) (fun i x G Y B ex sG go => ?_) (fun G sG kD => ?_)
    · refine ⟨rfl, _, rfl, _, rfl, rfl, _, rfl, ?_⟩
      exact tst (by rw [dec_ii]) (fun h => ⟨_, rfl, h⟩) go
    refine ⟨_, rfl, o, _, _, _, rfl, rfl, sG _ _ ho, rfl, ?_⟩
    show L2.Ends.nx _ _ (upd G o (.lst (moL cnt sq st D d4 d5)))
    obtain ⟨G1, e1⟩ : ∃ G1, G1 = upd G o (.lst (moL cnt sq st D d4 d5)) := ⟨_, rfl⟩
    have oD : o ≠ D := ne_of_none ho hD
    have k1 : G1 o = some (.lst (moL cnt sq st D d4 d5)) := by rw [e1]; exact upd_same
    have c1 : Chg o H G1 := fun b x nb e => by rw [e1, upd_ne nb]; exact sG _ _ e
    have kD1 : G1 D = some (.lst ((filtI ws k).map V.int)) := by rw [e1, upd_ne oD.symm]; exact kD
    rw [← e1]
    clear e1
    have hl1 := sqt_chgL ho c1 _ _ hl
    refine ⟨_, rfl, by show 1 ≤ sizeLine; decide, fun t ht => ?_⟩
    have s1 := same_upd (o := .tup [.str "gone"]) ht
    refine ⟨ltD31 "yes" c, ltG, .tup (sqt_same s1 hl1) (.cons (.str _) (.cons (.int _) .nil)), .tup (SqT.of upd_same) (.cons (.str _) .nil), shp_lt _ _ (by decide +kernel), by decide +kernel, _, rfl, ?_⟩
    rw [eq_ltG]
    refine iteF' rfl ?_
    refine ⟨_, rfl, o, _, _, _, rfl, rfl, SqL.of (s1 _ _ k1), rfl, _, rfl, lt, _, _, _, rfl, rfl, sqt_same s1 hl1, atI_nat (j := 1) rfl, _, _, rfl, ?_⟩
    refine ⟨_, rfl, o, _, _, _, rfl, rfl, s1 _ _ k1, rfl, ?_⟩
    show L2.Ends.nx _ _ (upd (upd G1 t (.tup [.str "gone"])) o (.lst (moL (maxI cnt c) sq st D d4 d5)))
    obtain ⟨H1, e1⟩ : ∃ H1, H1 = upd (upd G1 t (.tup [.str "gone"])) o (.lst (moL (maxI cnt c) sq st D d4 d5)) := ⟨_, rfl⟩
    have k2 : H1 o = some (.lst (moL (maxI cnt c) sq st D d4 d5)) := by rw [e1]; exact upd_same
    have c2 : Chg o G1 H1 := fun b x nb e => by rw [e1, upd_ne nb]; exact s1 _ _ e
    rw [← e1]
    clear e1
    refine ⟨_, rfl, o, D, d4, d5, maxI cnt c, sq, st, filtI ws k, rfl, k2, c2 _ _ oD.symm kD1, oD, fun H2 c3 k3 => ?_⟩
    have c02 := c1.trans (c2.trans c3)
    have hl2 := sqt_chgL ho c02 _ _ hl
    refine ⟨_, rfl, lt, _, _, _, rfl, rfl, hl2, atI_nat (j := 0) rfl, rfl, _, rfl, iteT' (by rw [dec_str]; decide +kernel) ?_⟩
    refine ⟨Nat.zero_le _, fun l hl3 => ?_⟩
    have s3 := same_upd (o := .lst []) hl3
    have lo : o ≠ l := ne_of_none k3 hl3
    have kD2 := c3 _ _ oD.symm (c2 _ _ oD.symm kD1)
    have l0 : H l = none := by
      cases z : H l with
      | none => rfl
      | some y => rw [c02 _ _ lo.symm z] at hl3; cases hl3
    exact q l D _ (c02.trans fun b x nb e => s3 b x e) hD l0 (ne_of_none kD2 hl3).symm (s3 _ _ k3) (s3 _ _ kD2) upd_same
  · refine ⟨_, rfl, lt, _, _, _, rfl, rfl, hl, atI_nat (j := 0) rfl, rfl, _, rfl, iteT' (by rw [dec_str]; decide +kernel) ?_⟩
    refine ⟨_, rfl, o, _, _, _, rfl, rfl, SqL.of ho, rfl, d3, rfl, ⟨_, SqL.of h3⟩, fun D hD => ?_⟩
    refine lc_filtI (fun j => !decide (j = k)) (Nat.le_trans lw (by decide)) hD (SqL.of h3) (fun i x G Y B ex sG go => ?_) (fun G sG kD => ?_)
    · refine ⟨rfl, _, rfl, _, rfl, rfl, _, rfl, ?_⟩
      exact tst (by rw [dec_ii]) (fun h => ⟨_, rfl, h⟩) go
    refine ⟨_, rfl, o, _, _, _, rfl, rfl, sG _ _ ho, rfl, ?_⟩
    show L2.Ends.nx _ _ (upd G o (.lst (moL cnt sq st D d4 d5)))
    obtain ⟨G1, e1⟩ : ∃ G1, G1 = upd G o (.lst (moL cnt sq st D d4 d5)) := ⟨_, rfl⟩
    have oD : o ≠ D := ne_of_none ho hD
    have k1 : G1 o = some (.lst (moL cnt sq st D d4 d5)) := by rw [e1]; exact upd_same
    have c1 : Chg o H G1 := fun b x nb e => by rw [e1, upd_ne nb]; exact sG _ _ e
    have kD1 : G1 D = some (.lst ((filtI ws k).map V.int)) := by rw [e1, upd_ne oD.symm]; exact kD
    rw [← e1]
    clear e1
    have hl1 := sqt_chgL ho c1 _ _ hl
    refine ⟨_, rfl, by show 1 ≤ sizeLine; decide, fun t ht => ?_⟩
    have s1 := same_upd (o := .tup [.str "gone"]) ht
    refine ⟨ltG, ltG, .tup (sqt_same s1 hl1) (.cons (.str _) .nil), .tup (SqT.of upd_same) (.cons (.str _) .nil), by decide +kernel, by decide +kernel, _, rfl, ?_⟩
    rw [show PyData.eqv ltG ltG = true by decide +kernel]
    refine iteT' rfl ?_
    have h4t := s1 _ _ (c1 _ _ n4.symm h4)
    have h5t := s1 _ _ (c1 _ _ n5.symm h5)
    have kt := s1 _ _ k1
    have kDt := s1 _ _ kD1
    obtain ⟨Gt, eGt⟩ : ∃ Gt, Gt = upd G1 t (.tup [.str "gone"]) := ⟨_, rfl⟩
    have c1t : Chg o H Gt := by rw [eGt]; exact c1.trans fun b x nb e => s1 b x e
    rw [← eGt] at h4t h5t kt kDt
    rw [← eGt]
    clear eGt
    refine ⟨_, rfl, o, _, _, _, rfl, rfl, SqL.of kt, rfl, d4, rfl, ⟨_, SqL.of h4t⟩, fun D4 hD4 => ?_⟩
    refine lc_filtI (fun j => !decide (j = k)) (Nat.le_trans lh (by decide)) hD4 (SqL.of h4t) (fun i x G Y B ex sG go => ?_) (fun G4 sG4 kD4 => ?_)
    · refine ⟨rfl, _, rfl, _, rfl, rfl, _, rfl, ?_⟩
      exact tst (by rw [dec_ii]) (fun h => ⟨_, rfl, h⟩) go
    refine ⟨_, rfl, o, _, _, _, rfl, rfl, sG4 _ _ kt, rfl, ?_⟩
    show L2.Ends.nx _ _ (upd G4 o (.lst (moL cnt sq st D D4 d5)))
    obtain ⟨G5, e5⟩ : ∃ G5, G5 = upd G4 o (.lst (moL cnt sq st D D4 d5)) := ⟨_, rfl⟩
    have oD4 : o ≠ D4 := ne_of_none kt hD4
    have k5 : G5 o = some (.lst (moL cnt sq st D D4 d5)) := by rw [e5]; exact upd_same
    have c5 : Chg o Gt G5 := fun b x nb e => by rw [e5, upd_ne nb]; exact sG4 _ _ e
    have kD5 := c5 _ _ oD.symm kDt
    have kD45 : G5 D4 = some (.lst ((filtI hs k).map V.int)) := by rw [e5, upd_ne oD4.symm]; exact kD4
    have h55 := c5 _ _ n5.symm h5t
    rw [← e5]
    clear e5
    refine ⟨_, rfl, o, _, _, _, rfl, rfl, SqL.of k5, rfl, _, rfl, by show 1 ≤ sizeLine; decide, fun x1 hx1 => ?_⟩
    have u1 := same_upd (o := .lst [V.int k]) hx1
    refine ⟨d5, x1, _, _, rfl, rfl, u1 _ _ h55, upd_same, ?_, fun x2 hx2 => ?_⟩
    · rw [List.length_map]
      exact Nat.le_trans (show us.length + 1 ≤ 2000 by omega) (by decide)
    have e9 : us.map V.int ++ [V.int k] = (us ++ [k]).map V.int := by rw [List.map_append]; rfl
    have u2 := same_upd (o := .lst (us.map V.int ++ [V.int k])) hx2
    have x2s : SqL K (upd (upd G5 x1 (.lst [V.int k])) x2 (.lst (us.map V.int ++ [V.int k]))) x2 ((us ++ [k]).map V.int) := SqL.of (upd_same.trans (by rw [e9]))
    refine ⟨x2, us ++ [k], rfl, x2s, fun us' D5 pm pw hD5 => ?_⟩
    have u3 := same_upd (o := .lst (us'.map V.int)) hD5
    have u := u1.trans (u2.trans u3)
    have oD5 : o ≠ D5 := ne_of_none (u2 _ _ (u1 _ _ k5)) hD5
    refine ⟨_, rfl, o, _, _, _, rfl, rfl, u _ _ k5, rfl, ?_⟩
    show L2.Ends.nx _ _ (upd (upd (upd (upd G5 x1 (.lst [V.int k])) x2 (.lst (us.map V.int ++ [V.int k]))) D5 (.lst (us'.map V.int))) o (.lst (moL cnt sq st D D4 D5)))
    obtain ⟨G6, e6⟩ : ∃ G6, G6 = upd (upd (upd (upd G5 x1 (.lst [V.int k])) x2 (.lst (us.map V.int ++ [V.int k]))) D5 (.lst (us'.map V.int))) o (.lst (moL cnt sq st D D4 D5)) := ⟨_, rfl⟩
    have k6 : G6 o = some (.lst (moL cnt sq st D D4 D5)) := by rw [e6]; exact upd_same
    have c6 : Chg o G5 G6 := fun b x nb e => by rw [e6, upd_ne nb]; exact u _ _ e
    have kD6 : G6 D5 = some (.lst (us'.map V.int)) := by rw [e6, upd_ne oD5.symm]; exact upd_same
    have nD5 : G5 D5 = none := by
      cases z : G5 D5 with
      | none => rfl
      | some y => rw [(u1.trans u2) _ _ z] at hD5; cases hD5
    rw [← e6]
    clear e6
    have kDD := c6 _ _ oD.symm kD5
    have kD4' := c6 _ _ oD4.symm kD45
    refine ⟨_, rfl, o, D, D4, D5, cnt, sq, st, filtI ws k, rfl, k6, kDD, oD, fun G7 c7 k7 => ?_⟩
    have cA := c1t.trans (c5.trans (c6.trans c7))
    have hl7 := sqt_chgL ho cA _ _ hl
    refine ⟨_, rfl, lt, _, _, _, rfl, rfl, hl7, atI_nat (j := 0) rfl, rfl, _, rfl, iteT' (by rw [dec_str]; decide +kernel) ?_⟩
    refine ⟨Nat.zero_le _, fun l hl3 => ?_⟩
    have s3 := same_upd (o := .lst []) hl3
    have lo : o ≠ l := ne_of_none k7 hl3
    have zD := c7 _ _ oD.symm kDD
    have zD4 := c7 _ _ oD4.symm kD4'
    have zD5 := c7 _ _ oD5.symm kD6
    have was : ∀ {x : Addr} {G : Hp}, Chg o H G → G x = none → x ≠ o → H x = none := fun {x G} c h n => by
      cases z : H x with
      | none => rfl
      | some y => rw [c _ _ n z] at h; cases h
    have D40 := was c1t hD4 oD4.symm
    have D50 := was (c1t.trans c5) nD5 oD5.symm
    have l0 := was cA hl3 lo.symm
    have d1 : D ≠ D4 := ne_of_none kDt hD4
    have d2 : D ≠ D5 := ne_of_none kD5 nD5
    have d3' : D4 ≠ D5 := ne_of_none kD45 nD5
    have nd : [l, D, D4, D5].Nodup := by
      simp only [List.nodup_cons, List.mem_cons, List.not_mem_nil, or_false, not_or, not_false_eq_true, List.nodup_nil, and_true]
      exact ⟨⟨(ne_of_none zD hl3).symm, (ne_of_none zD4 hl3).symm, (ne_of_none zD5 hl3).symm⟩, ⟨d1, d2⟩, d3'⟩
    exact q l D D4 D5 us' _ (cA.trans fun b x nb e => s3 b x e) hD D40 D50 l0 nd pm pw (s3 _ _ k7) (s3 _ _ zD) (s3 _ _ zD4) (s3 _ _ zD5) upd_same
end

end G0
namespace G0
open PySem PySem.Spec PyProof.Rows L2
set_option maxHeartbeats 4000000
set_option pp.deepTerms.threshold 3
/-! ### one seat: its machine with the model's list of it -/
structure O31 where
  p : Addr
  dx : Addr
  aw : Addr
  hl : Addr
  tg : Addr
  o : Addr
  d3 : Addr
  d4 : Addr
  d5 : Addr
  st : Str
  si : Bool
  cnt : Int
  stp : V
  sq : V
  ws : List Int
  hs : List Int
  ts : List Int
  us : List Int
  sn : List Int
def fp31 (c : O31) : List Addr := [c.p, c.aw, c.hl, c.tg, c.o, c.d3, c.d4, c.d5]
section
variable {K : PySem.W.Frag} {C : Addr} {n : Int} {t : Nat}
structure At31 (K : PySem.W.Frag) (C : Addr) (n : Int) (t : Nat) (H : Hp) (i : Int) (c : O31) : Prop where
  hp : H c.p = some (.ins C c.dx (stF i c.st c.si c.cnt c.stp n c.aw c.hl c.tg))
  ha : H c.aw = some (.lst (c.ws.map V.int))
  hh : H c.hl = some (.lst (c.hs.map V.int))
  ht : H c.tg = some (.lst (c.ts.map V.int))
  ho : H c.o = some (.lst (moL c.cnt c.sq c.st c.d3 c.d4 c.d5))
  h3 : H c.d3 = some (.lst (c.ws.map V.int))
  h4 : H c.d4 = some (.lst (c.hs.map V.int))
  h5 : H c.d5 = some (.lst (c.us.map V.int))
  nd : (fp31 c).Nodup
  sm : (c.stp = .non ∧ c.sq = .non) ∨ ∃ ta tb, c.stp = .ref ta ∧ c.sq = .ref tb ∧ SqT K H ta (c.sn.map V.int) ∧ SqT K H tb (c.sn.map V.int)
  as_ : c.st = "asking" → c.ws ≠ [] ∧ c.stp ≠ .non
  pm : c.ts.Perm c.us
  pw : c.us.Pairwise (· ≤ ·)
  lw : c.ws.length ≤ 60
  lh : c.hs.length ≤ t
  lu : c.us.length ≤ t
  rg : ∀ x ∈ c.hs, 0 ≤ x ∧ x < n
  ls : c.sn.length ≤ 2
theorem obj31 : ObjR K (At31 K C n t) fp31 where
  mutw := fun {H i c} h x hx => by
    simp only [fp31, List.mem_cons, List.not_mem_nil, or_false] at hx
    rcases hx with rfl | rfl | rfl | rfl | rfl | rfl | rfl | rfl
    · exact .inr (.inr ⟨_, _, _, h.hp⟩)
    · exact .inl ⟨_, h.ha⟩
    · exact .inl ⟨_, h.hh⟩
    · exact .inl ⟨_, h.ht⟩
    · exact .inl ⟨_, h.ho⟩
    · exact .inl ⟨_, h.h3⟩
    · exact .inl ⟨_, h.h4⟩
    · exact .inl ⟨_, h.h5⟩
  keep := fun {H H' i c} h k q => { h with
    hp := k _ (by simp [fp31]) _ h.hp
    ha := k _ (by simp [fp31]) _ h.ha
    hh := k _ (by simp [fp31]) _ h.hh
    ht := k _ (by simp [fp31]) _ h.ht
    ho := k _ (by simp [fp31]) _ h.ho
    h3 := k _ (by simp [fp31]) _ h.h3
    h4 := k _ (by simp [fp31]) _ h.h4
    h5 := k _ (by simp [fp31]) _ h.h5
    sm := h.sm.imp id fun ⟨ta, tb, e1, e2, q1, q2⟩ => ⟨ta, tb, e1, e2, q _ _ q1, q _ _ q2⟩ }
theorem At31.mono {H : Hp} {i : Int} {c : O31} (h : At31 K C n t H i c) : At31 K C n (t + 1) H i c := { h with lh := Nat.le_succ_of_le h.lh, lu := Nat.le_succ_of_le h.lu }
theorem row_mono {H : Hp} {cs : List O31} (W : RowR (At31 K C n t) fp31 H cs) : RowR (At31 K C n (t + 1)) fp31 H cs := ⟨fun i c e => (W.all i c e).mono, W.dj⟩
theorem others_perm {me : Int} {ts us : List Int} (p : ts.Perm us) : others n (me :: ts) = others n (me :: us) := by
  unfold others
  refine List.filter_congr fun x _ => ?_
  exact congrArg (fun b => !b) (decide_eq_decide.mpr (by simp [p.mem_iff]))
end
/-! ### letters -/
def Lt31 (d : PyData) : Prop := d = ltG ∨ ∃ c : Int, d = ltD31 "ask" c ∨ d = ltD31 "yes" c
theorem lt31_no {d : PyData} (h : Lt31 d) : noL d = true := by
  rcases h with rfl | ⟨c, rfl | rfl⟩ <;> rfl
def Row31 (K : PySem.W.Frag) (H : Hp) (xs : List V) : Prop := ∀ v ∈ xs, ∃ d, Lt31 d ∧ Dp K H v d
/-- the roads: each has letters -/
structure Rd31 (K : PySem.W.Frag) (n : Int) (t : Nat) (H : Hp) (rd : Addr) (kvs : List (List L2.Key × V)) : Prop where
  at_ : H rd = some (.dT kvs)
  few : kvs.length ≤ t
  all : ∀ e ∈ kvs, ∃ (a b : Int) (la : Addr) (xs : List V), e = ([.inl a, .inl b], .ref la) ∧ 0 ≤ a ∧ a < n ∧ 0 ≤ b ∧ b < n ∧ la ≠ rd ∧ H la = some (.lst xs) ∧ xs ≠ [] ∧ xs.length ≤ t ∧ Row31 K H xs

end G0
set_option maxHeartbeats 4000000
/-! d.pop(key) of a key that is there, without a default: dicts with tuple keys -/
namespace DT
open PySem PySem.W PySem.Calls PyProof.Rows PyProof.V PySem.Spec
section
variable {κ : Type} [DecidableEq κ] {prog : Program} {w : World} {knd : HeapKind prog w κ}
theorem meetsPop1 {d b : Addr} {k : κ} (hd : (d == sysModules) = false) :
    MeetsIn prog w (Builtin.«dict.pop» ⟨[.ref d, .ref b], []⟩) (fun A R s => ∃ xs, knd.room A.in1 ∧ knd.is s.heap k b ∧ s.heap.DictOfH knd d xs ∧ xs.length ≤ sizeLine ∧
      ∃ p, atKey xs k = some p ∧ ∀ h' tk, h'.DictOfH knd d (dropH xs k) → Heap.SameBut d s.heap h' → R (.ok (.ret p.2)) { s with heap := h', toks := tk }) :=
  .of_wp fun A R s ⟨xs, hu, hkey, hm, hsz, p0, hp0, hsome⟩ => by
    obtain ⟨o, es, ep, ho, hc, hdat, he, his, hn⟩ := id hm
    have hes : es.size = xs.length := size_of_entries he
    have hpart : (keyPart (Value.ref b)).isSome = false := rfl
    unfold Builtin.«dict.pop»
    refine wpAny_bind ?_
    unfold Builtin.Dict.keyAndDefault
    refine wpAny_bind (wpAny_notOrdered_dict hm.typeIs ?_)
    show wpAny _ _ (pure (d, Value.ref b, none)) _ _ s
    refine wpAny_pure ?_
    simp only [hpart, Bool.false_eq_true, if_false]
    refine wpAny_bind (wpAny_dictEntries ho hdat (wpAny_bind (wpAny_pure ?_)))
    cases hem : es.isEmpty with
    | true =>
      have h0 : xs = [] := by
        have z : es.size = 0 := by simpa using hem
        exact List.length_eq_zero_iff.mp (by omega)
      rw [h0] at hp0
      cases hp0
    | false =>
      simp only [Bool.false_eq_true, if_false]
      refine wpAny_bind (takeH hu hkey hm hsz (fun hno => ?_) fun p e hp hev h' hm' hs' => ?_)
      · rw [hno] at hp0
        cases hp0
      · simp only [Option.isNone_some, Bool.false_eq_true, if_false]
        have ep1 : p = p0 := by rw [hp] at hp0; exact Option.some.inj hp0
        subst ep1
        exact wpAny_bind (wpAny_letGo (wpAny_pure ⟨e.val, rfl, by rw [hev]; exact hsome h' _ hm' hs'⟩))
end
end DT
namespace L2.DX
open PySem PySem.W PySem.Calls PyProof.Rows PyProof.V PySem.Spec
section
variable {X : Cx}
def rPopT1 : V → List V → Hp → VK → Prop := fun x xs H Q => ∃ (a : Addr) (kvs : List (List L2.Key × V)) (k : List L2.Key) (b : Addr) (v : V), x = .ref a ∧ xs = [.ref b] ∧ H a = some (.dT kvs) ∧ H b = some (.tup (k.map kV)) ∧
  valV kvs k = some v ∧ Q v (upd H a (.dT (dropK kvs k)))
theorem mt_popT1 (hu : X.A.units + 1 < cLine) : MtR X "dict.pop" rPopT1 := by
  intro pins s σ H x xs v us Q I rx rxs h
  obtain ⟨a, kvs, k, b, v0, rfl, rfl, ha, hb, ev, q1⟩ := h
  cases rx
  obtain ⟨u1, rfl, r1⟩ := vals1 rxs
  cases r1
  obtain ⟨z, hd, xs', rel, dd⟩ := dt_of I.hok ha
  have hz : xs'.length ≤ sizeLine := by rw [← Paired.length rel]; exact z
  obtain ⟨p, hp, rv⟩ : ∃ p, atKey xs' k = some p ∧ RelV v0 p.2 := by
    have r := rel.val k
    rw [ev] at r
    cases hp : atKey xs' k with
    | none => rw [hp] at r; exact (show False from r).elim
    | some p => rw [hp] at r; exact ⟨p, rfl, r⟩
  refine call_meetsIn PySem.F.slot_dict_pop dd.typeIs PySem.F.entry_dict_pop (PySem.F.args_dict_pop_2 _ _) (DT.meetsPop1 (knd := tupleKind (mixKind X.prog X.w)) (k := k) hd)
    ⟨xs', tupleKind_room_in1 hu, key_of I.hok hb, dd, hz, p, hp, fun h' tk dd' hs => ?_⟩
  obtain ⟨o, es, ep, hq, h2, h3, h4, _, h5⟩ := dd'
  have I2 : Inv X pins σ (upd H a (.dT (dropK kvs k))) { s with heap := h', toks := tk } :=
    d_write I (by rw [ha]; exact True.intro) hs ⟨o, hq⟩ ⟨Nat.le_trans (dropK_le kvs k) z, hd, _, (KT_drop k rel).keeps (fun c ys ec => (by rw [upd_ne (ne_of ec ha (fun z => nomatch z))]; exact ec)), o, es, ep, hq, h2, h3, h4, h5⟩
  show EP X pins σ Q p.2 _
  exact ⟨v0, _, I2, rv, q1⟩
end
end L2.DX
set_option maxHeartbeats 4000000
/-! for .. in d.keys(), d with tuple keys -/
namespace DT
open PySem PySem.W PySem.Calls PyProof.Rows PyProof.V PySem.Spec
section
variable {prog : Program} {w : World} {A : Around} {E : Value → Shared → Prop} {s : Shared}
theorem meetsKeysR {d : Addr} {es : Array DictEntry} {ep : Nat} (hd : (d == sysModules) = false) :
    MeetsIn prog w (Builtin.«dict.keys» ⟨[.ref d], []⟩) (fun _ R s => Raw s.heap d es ep ∧
      R (.ok (.ret (.ref s.heap.objs.size))) { s with heap := s.heap.push { cls := .type "dict_keys", data := .fields #[.ref d] } }) :=
  .of_wp fun A R s ⟨hm, h⟩ => by
    refine wpAny_bind ?_
    unfold Builtin.Dict.noArgs
    refine wpAny_bind (wpAny_notOrdered_dict hm.typeIs ?_)
    show wpAny _ _ (pure d) _ _ s
    refine wpAny_pure ?_
    show wpAny _ _ (Builtin.Dict.showsAll d >>= _) _ _ s
    unfold Builtin.Dict.showsAll
    rw [if_neg (by rw [hd]; exact Bool.false_ne_true)]
    refine wpAny_bind (wpAny_pure ?_)
    exact wpAny_bind (wpAny_newObj_type (wpAny_pure ⟨_, rfl, h⟩))
theorem iterKeysR {v d : Addr} {es : Array DictEntry} {ep : Nat} {Q : Value → Shared → Prop} (hv : KdlKeysView s.heap v d) (hm : Raw s.heap d es ep)
    (hQ : Q (.ref s.heap.objs.size) { s with heap := s.heap.push { cls := .type "dict_keyiterator", data := .fields #[.ref d, .int 0 0, .int es.size 0, .int ep 0] } }) :
    wpAny (model prog w) A (pyIter (.ref v)) Q E s := by
  obtain ⟨ov, hov, hcv, hdv⟩ := id hv
  obtain ⟨o, ho, hc, hdat⟩ := id hm
  refine wpAny_pyIter_slot hv.typeIs kdl_slot_keys_iter (wpAny_call_entry kdl_slot_keys_iter hv.typeIs kdl_entry_keys_iter ?_ (kdl_args_keys_iter _))
  unfold Builtin.«dict_keys.__iter__»
  refine wpAny_bind (wpAny_pure ?_)
  refine wpAny_bind ?_
  unfold Builtin.Dict_items.dictOf
  refine wpAny_bind (wpAny_field hov hdv (x := .ref d) rfl (wpAny_pure ?_))
  refine wpAny_bind ?_
  unfold Builtin.Dict_items.newIterator
  refine wpAny_bind (wpAny_dictEntries ho hdat ?_)
  refine wpAny_bind (wpAny_dictEpoch ho hdat ?_)
  have hown : Builtin.Dict_items.ownsTuple "dict_keyiterator" = false := by decide
  simp only [hown, Bool.false_eq_true, if_false]
  refine wpAny_newObj_type (wpAny_pure ⟨_, rfl, "dict_keyiterator", _, ⟨_, Heap.get?_push_size _ rfl, rfl⟩, PySem.F.slot_dict_keyiterator_next.lookup, ?_⟩)
  simpa [rawInt] using hQ
end
end DT
namespace L2
open PySem PySem.Spec PyProof.Rows
section
variable {X : Cx} {tg e : Expr} {td : TE} {apos cpos : Pos}
def iKeysMT (td : TE) : TI := fun σ H R => td σ H fun x H1 => ∃ d o kvs, x = .ref d ∧ H1 d = some (.frz o (.dT kvs)) ∧ R (Itkt d o kvs) H1
theorem pi_keysMT (he : PE X e td) (hbase : attributeBase e "keys" X.env (eval e X.env) = eval e X.env := by rfl) (hline : (apos.endLine == cpos.line) = true := by rfl) : PI X tg (.Call (.Attribute e "keys" apos) [] [] cpos) (iKeysMT td) := by
  refine ⟨fun pins s σ H R I h => ?_⟩
  refine wpAny_Call_method (T := "dict") (id := "dict.keys") hbase rfl hline F.plainAttrs_dict F.slot_dict_keys F.type_dict_keys (thn (he.run pins s σ H _ I h) fun u s1 ⟨x, H1, I1, rx, d, o, kvs, ex, hd, q⟩ => ?_)
  subst ex
  obtain rfl : u = Value.ref d := rx
  obtain ⟨hs, hgd, hx, es, ep, hdt, hsz, ent⟩ := I1.frzT hd
  have raw : DT.Raw s1.heap d es ep := ⟨o, hgd, hx, hdt⟩
  refine ⟨raw.typeIs, ?_, ?_⟩
  · intro a e
    cases e
    exact ⟨o, hgd, hx.2.1⟩
  have I2 : Inv X pins σ H1 { s1 with heap := s1.heap.push { cls := .type "dict_keys", data := .fields #[.ref d] } } := I1.kept (t' := s1.toks) fun b ob q => Heap.get?_push_of_some _ q
  have fin : wpAny (model X.prog X.w) X.A (pyIter (.ref s1.heap.objs.size)) (PIE X pins σ tg R) X.xe { s1 with heap := s1.heap.push { cls := .type "dict_keys", data := .fields #[.ref d] } } := by
    refine DT.iterKeysR (d := d) (es := es) (ep := ep) ⟨_, Heap.get?_push_size _ rfl, rfl, rfl⟩ (raw.push _) (pi_one (tk := s1.toks) I2 _ (turn_keysT _ hdt) ⟨_, Heap.get?_push_size _ rfl, rfl, ?_⟩ q)
    rw [hsz] <;> rfl
  show wpAny _ _ (callWith cpos (.builtin "dict.keys") [.ref d] [] []) _ X.xe s1
  exact method_meetsIn F.slot_dict_keys F.entry_dict_keys rfl (PySem.evalArgs_none ⟨rfl, raw.typeIs, F.args_dict_keys_1 _, _, DT.meetsKeysR (es := es) (ep := ep) hs, raw, fin⟩)
end
end L2
namespace G0
open PySem PySem.Spec PyProof.Rows L2
set_option maxHeartbeats 4000000
set_option pp.deepTerms.threshold 3
theorem sqt_chgT {K : PySem.W.Frag} {H H' : Hp} {x : Addr} {xs : List (List L2.Key × V)} (k : H x = some (.dT xs)) (c : Chg x H H') : ∀ a zs, SqT K H a zs → SqT K H' a zs := fun a zs q => by
  rcases q with (z | ⟨o', z⟩) | z
  · exact .inl (.inl (c _ _ (ne_of z k (by intro z; cases z)) z))
  · exact .inl (.inr ⟨o', c _ _ (ne_of z k (by intro z; cases z)) z⟩)
  · exact .inr z
theorem mem_putK {kvs : List (List L2.Key × V)} {k : List L2.Key} {v : V} {e : List L2.Key × V} (h : e ∈ putK kvs k v) : e ∈ kvs ∨ e = (k, v) := by
  unfold putK at h
  split at h
  · obtain ⟨y, hy, e2⟩ := List.mem_map.mp h
    split at e2
    · rename_i c
      rw [← e2, c]
      exact .inr rfl
    · rw [← e2]
      exact .inl hy
  · rcases List.mem_append.mp h with z | z
    · exact .inl z
    · exact .inr (List.mem_singleton.mp z)
theorem len_putK {kvs : List (List L2.Key × V)} {k : List L2.Key} {v : V} : (putK kvs k v).length ≤ kvs.length + 1 := by
  unfold putK
  split
  · rw [List.length_map]; omega
  · rw [List.length_append]; exact Nat.le_refl _
theorem valV_mem {kvs : List (List L2.Key × V)} {k : List L2.Key} {v : V} (h : valV kvs k = some v) : (k, v) ∈ kvs := by
  unfold valV at h
  cases z : kvs.find? (fun kv => decide (kv.1 = k)) with
  | none => rw [z] at h; cases h
  | some p =>
    rw [z] at h
    have e1 : p.2 = v := Option.some.inj h
    have e2 : p.1 = k := by
      have z2 := List.find?_some (a := p) z
      simpa using z2
    have m := List.mem_of_find?_eq_some (a := p) z
    rw [← e1, ← e2]
    exact m
/-- each road's list is an old one or a fresh one -/
def NewR (H : Hp) (kvs kvs' : List (List L2.Key × V)) : Prop := ∀ e ∈ kvs', (∃ e0 ∈ kvs, e.2 = e0.2) ∨ ∃ la, e.2 = .ref la ∧ H la = none
theorem NewR.refl {H : Hp} {kvs : List (List L2.Key × V)} : NewR H kvs kvs := fun e he => .inl ⟨e, he, rfl⟩
theorem NewR.trans {H H1 : Hp} {k0 k1 k2 : List (List L2.Key × V)} (a : NewR H k0 k1) (b : NewR H1 k1 k2) (w : ∀ x, H1 x = none → H x = none) : NewR H k0 k2 := fun e he => by
  rcases b e he with ⟨e1, h1, z⟩ | ⟨la, z, n⟩
  · rcases a e1 h1 with ⟨e0, h0, z0⟩ | ⟨la, z0, n⟩
    · exact .inl ⟨e0, h0, z.trans z0⟩
    · exact .inr ⟨la, z.trans z0, n⟩
  · exact .inr ⟨la, z, w _ n⟩
theorem chg_none {rd : Addr} {H G : Hp} {o : HO} (c : Chg rd H G) (k : G rd = some o) : ∀ x, G x = none → H x = none := fun x h => by
  cases z : H x with
  | none => rfl
  | some y =>
    by_cases e : x = rd
    · rw [e, k] at h; cases h
    · rw [c _ _ e z] at h; cases h
theorem NewR.put {H : Hp} {kvs : List (List L2.Key × V)} {k : List L2.Key} {la : Addr} (h : H la = none) : NewR H kvs (putK kvs k (.ref la)) := fun e he => by
  rcases mem_putK he with z | z
  · exact .inl ⟨e, z, rfl⟩
  · exact .inr ⟨la, by rw [z], h⟩
theorem NewR.drop {H : Hp} {kvs : List (List L2.Key × V)} {k : List L2.Key} : NewR H kvs (dropK kvs k) := fun e he => .inl ⟨e, (List.mem_filter.mp he).1, rfl⟩
theorem row31_sqt {K : PySem.W.Frag} {H H' : Hp} {xs : List V} (c : ∀ a zs, SqT K H a zs → SqT K H' a zs) (h : Row31 K H xs) : Row31 K H' xs := fun v hv => let ⟨d, l, dv⟩ := h v hv; ⟨d, l, dp_sqt c d v (lt31_no l) dv⟩
/-- a road gets letters, all others stay -/
theorem Rd31.put {K : PySem.W.Frag} {n : Int} {t : Nat} {H H' : Hp} {rd la : Addr} {kvs : List (List L2.Key × V)} {a b : Int} {xs : List V} (R : Rd31 K n t H rd kvs) (c : Chg rd H H') (k : H' rd = some (.dT (putK kvs [.inl a, .inl b] (.ref la))))
    (a0 : 0 ≤ a) (a1 : a < n) (b0 : 0 ≤ b) (b1 : b < n) (nl : la ≠ rd) (kl : H' la = some (.lst xs)) (ne : xs ≠ []) (lx : xs.length ≤ t + 1) (hx : Row31 K H' xs) : Rd31 K n (t + 1) H' rd (putK kvs [.inl a, .inl b] (.ref la)) := by
  refine ⟨k, Nat.le_trans len_putK (Nat.succ_le_succ R.few), fun e he => ?_⟩
  rcases mem_putK he with z | z
  · obtain ⟨a', b', la', ys, e', a2, a3, b2, b3, n2, k2, n3, l2, r2⟩ := R.all e z
    exact ⟨a', b', la', ys, e', a2, a3, b2, b3, n2, c _ _ n2 k2, n3, Nat.le_succ_of_le l2, row31_sqt (sqt_chgT R.at_ c) r2⟩
  · exact ⟨a, b, la, xs, z, a0, a1, b0, b1, nl, kl, ne, lx, hx⟩
theorem Rd31.mono {K : PySem.W.Frag} {n : Int} {t t' : Nat} {H : Hp} {rd : Addr} {kvs : List (List L2.Key × V)} (R : Rd31 K n t H rd kvs) (h : t ≤ t') : Rd31 K n t' H rd kvs := ⟨R.at_, Nat.le_trans R.few h, fun e he => by
  obtain ⟨a', b', la', ys, e', a2, a3, b2, b3, n2, k2, n3, l2, r2⟩ := R.all e he
  exact ⟨a', b', la', ys, e', a2, a3, b2, b3, n2, k2, n3, Nat.le_trans l2 h, r2⟩⟩
section
variable {P : Program} {w : World} {K : PySem.W.Frag} {mg : Str → Option Value} {base : Heap} {C : Addr}
/-! ### letters go on their roads -/
/-- the roads stand, among lists that nothing else changes -/
def spPut31 (K : PySem.W.Frag) : Sp := fun vs H Q _ => ∃ (rd fl l : Addr) (n me : Int) (t : Nat) (kvs : List (List L2.Key × V)) (fs : List Int) (zs : List V) (to : List Int) (ds : List PyData), vs = [.ref rd, .ref fl, .int me, .ref l] ∧ Rd31 K n t H rd kvs ∧ H fl = some (.lst (fs.map V.int)) ∧ fl ≠ rd ∧ fs.length ≤ 1000 ∧ l ≠ rd ∧ 0 ≤ me ∧ me < n ∧
  H l = some (.lst zs) ∧ DpAll K H zs ((to.zip ds).map fun e => .tuple [.int e.1, e.2]) ∧ to.length = ds.length ∧ (∀ x ∈ to, 0 ≤ x ∧ x < n) ∧ (∀ d ∈ ds, Lt31 d) ∧ t + to.length < 1000000 ∧
  ∀ kvs' H', Chg rd H H' → NewR H kvs kvs' → Rd31 K n (t + to.length) H' rd kvs' → Q .non H'
theorem sc_law_put : FnScope ["roads", "fallen", "me", "letters", "to", "letter"] ["roads", "fallen", "me", "letters"] (defScope s_law_put) :=
  ⟨rfl, rfl, rfl, by decide +kernel, rfl, by decide +kernel, by decide +kernel⟩
theorem ok_put31 (F : Fn K mg "_law_put" s_law_put) (T : Bl31 mg) : Cal P w K mg base "_law_put" 1 ["roads", "fallen", "me", "letters"] (spPut31 K) := by
  refine cal_of F sc_law_put
    (fun _ _ _ _ _ _ us hl => match us, hl with | [_, _, _, _], _ => rfl) ?_ ?_
  · rintro vs H Q E ⟨_, _, _, _, _, _, _, _, _, _, _, rfl, _⟩
    rfl
  rintro f cdv A outer s H vs Q E free hr ⟨rd, fl, l, n, me, t, kvs, fs, zs, to, ds, rfl, R, hf, nf, lf, nl, m0, m1, hl, dz, ld, rto, rds, few, q⟩
  refine ⟨_, (pss_one (ps_for PassesOwn.never rfl (pi_list (pv 3)) (pg_tup (by rfl) (pgs_cons (pg_name (i := 4) sc_law_put.nd rfl (Or.inl rfl)) (pgs_cons (pg_name (i := 5) sc_law_put.nd rfl (Or.inl rfl)) pgs_nil)))
    (pss_one (ps_if (pt_cmpR u_notin (pv 4) (pv 1) (by rfl))
    (pss_one (ps_asg (pe_op op_cat (pe_dget2 (hu_of hr) (pv 0) (pe_tup (pa_cons (pv 2) (pa_cons (pv 4) pa_nil))) (pe_lst pa_nil) (by constructor <;> rfl)) (pe_lst (pa_cons (pv 5) pa_nil))) (pg_sub (pv 0) (pe_tup (pa_cons (pv 2) (pa_cons (pv 4) pa_nil))) (set_dict (hu_of hr)))))
    pss_nil)))), ?_⟩
  have c0 : Chg rd H H := fun b x nb e => e
  refine ⟨_, rfl, l, rfl, ⟨_, SqL.of hl⟩, ?_⟩
  refine for_list (K := K) (a := l) (xs := zs) (fun i σ G => (∃ z4 z5 : Option V, σ = [some (V.ref rd), some (V.ref fl), some (V.int me), some (V.ref l), z4, z5]) ∧ Chg rd H G ∧ ∃ kvs', NewR H kvs kvs' ∧ Rd31 K n (t + i) G rd kvs') ⟨⟨_, _, rfl⟩, c0, _, NewR.refl, R⟩ (fun i σ G _ h => SqL.of (h.2.1 _ _ nl hl)) ?_ ?_
  · rintro i x σ G hx ⟨⟨z4, z5, rfl⟩, cG, kvs', NG, RG⟩
    obtain ⟨dd, hd, dx⟩ := dps_at dz hx
    have sq := sqt_chgT (K := K) R.at_ cG
    rw [List.getElem?_map] at hd
    cases hz : (to.zip ds)[i]? with
    | none => rw [hz] at hd; cases hd
    | some e =>
      obtain ⟨b, d⟩ := e
      rw [hz] at hd
      cases (Option.some.inj hd)
      have mz := List.mem_of_getElem? hz
      have hi : i < to.length := by
        have z := (List.getElem?_eq_some_iff.mp hz).1
        rw [List.length_zip] at z
        omega
      have rb := rto b (List.of_mem_zip mz).1
      have rl := rds d (List.of_mem_zip mz).2
      cases dx with
      | tup ht ha =>
        cases ha with
        | cons h1 h2 =>
          cases h1
          cases h2 with
          | cons h3 h4 =>
            cases h4
            rename_i ta v
            refine ⟨ta, _, rfl, sq _ _ ht, rfl, ?_⟩
            have kfl := cG _ _ nf hf
            refine ⟨_, _, rfl, _, _, rfl, rfl, ?_⟩
            refine ⟨_, rfl, _, rfl, .inl ⟨fl, _, rfl, .inl (SqL.of kfl), rfl, flat_ints _, _, rfl, ?_⟩⟩
            rw [inV_ints]
            refine ite2 (fun c4 => ?_) (fun c4 => ?_)
            · refine ⟨_, rfl, rd, rfl, .inr ⟨kvs', .inl RG.at_⟩, ?_⟩
              refine ⟨_, rfl, _, rfl, by show 2 ≤ sizeLine; decide, fun tk htk => ?_⟩
              have u1 := same_upd (o := .tup [.int me, .int b]) htk
              refine ⟨Nat.zero_le _, fun e1 he1 => ?_⟩
              have u2 := same_upd (o := .lst []) he1
              have u12 := u1.trans u2
              have n1 : e1 ≠ rd := (ne_of_none (u1 _ _ RG.at_) he1).symm
              refine ⟨_, DGet.t (kvs := kvs') (k := [.inl me, .inl b]) (u12 _ _ RG.at_) (u2 _ _ upd_same), ?_⟩
              obtain ⟨G3, eG3⟩ : ∃ G3, G3 = upd (upd G tk (.tup [.int me, .int b])) e1 (.lst []) := ⟨_, rfl⟩
              have ke1 : G3 e1 = some (.lst []) := by rw [eG3]; exact upd_same
              have s3 : Same G G3 := by rw [eG3]; exact u12
              obtain ⟨la, xs, ev, kla, nla, lxs, rxs⟩ : ∃ la xs, (valV kvs' [.inl me, .inl b]).getD (.ref e1) = .ref la ∧ G3 la = some (.lst xs) ∧ la ≠ rd ∧ xs.length ≤ t + i ∧ Row31 K G3 xs := by
                cases z : valV kvs' [.inl me, .inl b] with
                | none => exact ⟨e1, [], rfl, ke1, n1, Nat.zero_le _, fun v hv => nomatch hv⟩
                | some v0 =>
                  obtain ⟨a', b', la', ys, e', a2, a3, b2, b3, n2, k2, n3, l2, r2⟩ := RG.all _ (valV_mem z)
                  cases e'
                  exact ⟨la', ys, rfl, s3 _ _ k2, n2, l2, row31_sqt (fun a zs q => sqt_same s3 q) r2⟩
              rw [ev]
              show tLst _ _ (upd (upd G tk (.tup [.int me, .int b])) e1 (.lst [])) _
              rw [← eG3]
              clear eG3
              refine ⟨_, rfl, by show 1 ≤ sizeLine; decide, fun e2 he2 => ?_⟩
              have v1 := same_upd (o := .lst [v]) he2
              refine ⟨la, e2, _, _, rfl, rfl, v1 _ _ kla, upd_same, ?_, fun l' hl' => ?_⟩
              · exact Nat.le_trans (show xs.length + 1 ≤ 2000000 by omega) (by decide)
              have v2 := same_upd (o := .lst (xs ++ [v])) hl'
              refine ⟨_, rfl, _, rfl, _, rfl, by show 2 ≤ sizeLine; decide, fun tk2 htk2 => ?_⟩
              have v3 := same_upd (o := .tup [.int me, .int b]) htk2
              have hl0 : G l' = none := by
                cases z : G l' with
                | none => rfl
                | some y => rw [v1 _ _ (s3 _ _ z)] at hl'; cases hl'
              have s6 := s3.trans (v1.trans (v2.trans v3))
              refine ⟨rd, _, rfl, DPut.t (kvs := kvs') (k := [.inl me, .inl b]) (s6 _ _ RG.at_) upd_same (Nat.lt_of_le_of_lt RG.few (Nat.lt_of_lt_of_le (show t + i < 1000000 by omega) (by decide))), ?_⟩
              have nl' : l' ≠ rd := (ne_of_none (v1 _ _ (s3 _ _ RG.at_)) hl').symm
              have kl' := v3 _ _ (upd_same (H := upd G3 e2 (.lst [v])) (a := l') (o := .lst (xs ++ [v])))
              obtain ⟨G6, eG6⟩ : ∃ G6, G6 = upd (upd (upd G3 e2 (.lst [v])) l' (.lst (xs ++ [v]))) tk2 (.tup [.int me, .int b]) := ⟨_, rfl⟩
              rw [← eG6] at s6 kl'
              have krd := s6 _ _ RG.at_
              have rows : Row31 K G6 (xs ++ [v]) := by
                intro y hy
                rcases List.mem_append.mp hy with z | z
                · exact row31_sqt (fun a zs q => by rw [eG6]; exact sqt_same (v1.trans (v2.trans v3)) q) rxs y z
                · cases List.mem_singleton.mp z
                  exact ⟨d, rl, dp_sqt (fun a zs q => sqt_same s6 (sq a zs q)) d v (lt31_no rl) h3⟩
              show tNext _ _ (upd (upd (upd (upd G3 e2 (.lst [v])) l' (.lst (xs ++ [v]))) tk2 (.tup [.int me, .int b])) rd (.dT (putK kvs' [.inl me, .inl b] (.ref l'))))
              rw [← eG6]
              clear eG6
              have RG6 : Rd31 K n (t + i) G6 rd kvs' := ⟨krd, RG.few, fun e he => by
                obtain ⟨a', b', la', ys, e', a2, a3, b2, b3, n2, k2, n3, l2, r2⟩ := RG.all e he
                exact ⟨a', b', la', ys, e', a2, a3, b2, b3, n2, s6 _ _ k2, n3, l2, row31_sqt (fun a zs q => sqt_same s6 q) r2⟩⟩
              have sqd : ∀ a zs, SqT K G6 a zs → SqT K (upd G6 rd (.dT (putK kvs' [.inl me, .inl b] (.ref l')))) a zs := sqt_chgT krd Chg.self
              exact ⟨⟨_, _, rfl⟩, fun x o nx e => (upd_ne nx).trans (s6 _ _ (cG x o nx e)), _, NG.trans (NewR.put (H := G) hl0) (chg_none cG RG.at_), RG6.put Chg.self upd_same m0 m1 rb.1 rb.2 nl' ((upd_ne nl').trans kl') (by simp) (by rw [List.length_append, List.length_singleton]; omega) (row31_sqt sqd rows)⟩
            · exact ⟨⟨_, _, rfl⟩, cG, _, NG, RG.mono (by omega)⟩
  · rintro σ G ⟨⟨z4, z5, rfl⟩, cG, kvs', NG, RG⟩
    have lz : zs.length = to.length := by
      rw [dps_len dz, List.length_map, List.length_zip, ld]
      omega
    rw [lz] at RG
    exact q kvs' G cG NG RG
end

end G0
namespace G0
open PySem PySem.Spec PyProof.Rows L2
set_option maxHeartbeats 4000000
set_option pp.deepTerms.threshold 3
theorem lets_lay : ∀ ds : List PyData, (∀ d ∈ ds, Lt31 d) → PyData.canLayAll0 ds = true ∧ PyData.depthAll ds ≤ 3
  | [], _ => ⟨rfl, by decide⟩
  | d :: ds, h => by
    obtain ⟨a, b⟩ := lets_lay ds fun x hx => h x (List.mem_cons_of_mem _ hx)
    have one : d.canLay0 = true ∧ d.depth ≤ 3 := by
      rcases h d List.mem_cons_self with rfl | ⟨c, rfl | rfl⟩
      · exact ⟨by decide +kernel, by decide +kernel⟩
      · exact ⟨by simp [ltD31, PyData.canLay0, PyData.canLayAll0]; decide +kernel, by simp [ltD31, PyData.depth, PyData.depthAll]⟩
      · exact ⟨by simp [ltD31, PyData.canLay0, PyData.canLayAll0]; decide +kernel, by simp [ltD31, PyData.depth, PyData.depthAll]⟩
    refine ⟨by simp [PyData.canLayAll0, one.1, a], ?_⟩
    simp only [PyData.depthAll]
    omega
theorem lets_shaped {ds : List PyData} (h : ∀ d ∈ ds, Lt31 d) : SeqAt.shaped (.list ds) = true := by
  obtain ⟨a, b⟩ := lets_lay ds h
  show ((PyData.list ds).canLay0 && decide ((PyData.list ds).depth ≤ 64)) = true
  have e : (PyData.list ds).depth ≤ 64 := by simp only [PyData.depth]; omega
  rw [decide_eq_true e]
  simp [PyData.canLay0, a]
theorem lets_nil (ds : List PyData) : PyData.eqv (.list ds) (.list []) = decide (ds = []) := by
  cases ds with
  | nil => simp [PyData.eqv, PyData.eqvAll]
  | cons a S => simp [PyData.eqv, PyData.eqvAll]
theorem lets_of {K : PySem.W.Frag} {H : Hp} : ∀ {xs : List V}, Row31 K H xs → ∃ ds, DpAll K H xs ds ∧ ∀ d ∈ ds, Lt31 d
  | [], _ => ⟨[], .nil, fun _ h => nomatch h⟩
  | x :: xs, h => by
    obtain ⟨d, l, dx⟩ := h x List.mem_cons_self
    obtain ⟨ds, da, ls⟩ := lets_of (xs := xs) fun v hv => h v (List.mem_cons_of_mem _ hv)
    refine ⟨d :: ds, .cons dx da, fun e he => ?_⟩
    rcases List.mem_cons.mp he with rfl | he
    · exact l
    · exact ls e he
theorem cut1w (x : V) (r : List V) : cutV (x :: r) (some 1) none = r := by
  unfold cutV HT.sIx
  simp
section
variable {P : Program} {w : World} {K : PySem.W.Frag} {mg : Str → Option Value} {base : Heap} {C : Addr}
/-! ### the first of a road -/
def spTaken31 (K : PySem.W.Frag) : Sp := fun vs H Q _ => ∃ (rd kd la : Addr) (n a b : Int) (t : Nat) (kvs : List (List L2.Key × V)), vs = [.ref rd, .ref kd] ∧ Rd31 K n t H rd kvs ∧ H kd = some (.tup [.int a, .int b]) ∧ valV kvs [.inl a, .inl b] = some (.ref la) ∧ t < 1000000 ∧
  ∀ v d kvs' H', Chg rd H H' → NewR H kvs kvs' → Lt31 d → Dp K H' v d → Rd31 K n (t + 1) H' rd kvs' → Q v H'
theorem sc_law_taken : FnScope ["roads", "road", "first", "rest"] ["roads", "road"] (defScope s_law_taken) :=
  ⟨rfl, rfl, rfl, by decide +kernel, rfl, by decide +kernel, by decide +kernel⟩
theorem ok_taken31 (F : Fn K mg "_law_taken" s_law_taken) : Cal P w K mg base "_law_taken" 1 ["roads", "road"] (spTaken31 K) := by
  refine cal_of F sc_law_taken
    (fun _ _ _ _ _ _ us hl => match us, hl with | [_, _], _ => rfl) ?_ ?_
  · rintro vs H Q E ⟨_, _, _, _, _, _, _, _, rfl, _⟩
    rfl
  rintro f cdv A outer s H vs Q E free hr ⟨rd, kd, la, n, a, b, t, kvs, rfl, R, hk, hv, few, q⟩
  refine ⟨_, (pss_cons (ps_set (i := 2) sc_law_taken.nd rfl (Or.inl rfl) (pe_ix ix_list (pe_dget (hu_of hr) (pv 0) (pv 1) (fun _ _ => rfl)) pe_int (fun _ _ => rfl)))
    (pss_cons (ps_set (i := 3) sc_law_taken.nd rfl (Or.inl rfl) (pe_slice sl_list (pe_bm PySem.F.plainAttrs_dict PySem.F.slot_dict_pop PySem.F.type_dict_pop (L2.DX.mt_popT1 (hu_of hr)) (pv 0) (pa_cons (pv 1) pa_nil)) (po_some pe_int) po_none))
    (pss_cons (ps_if (pt_cmpR (op_neD (u64 hr)) (pv 3) (pe_lst pa_nil) (nomark _))
    (pss_one (ps_asg (pv 3) (pg_sub (pv 0) (pv 1) (set_dict (hu_of hr)))))
    pss_nil)
    (pss_one (ps_ret (pv 2)))))), ?_⟩
  obtain ⟨a', b', la', xs, e', a0, a1, b0, b1, nl, kl, ne, lx, rx⟩ := R.all _ (valV_mem hv)
  cases e'
  obtain ⟨x, ys, rfl⟩ : ∃ x ys, xs = x :: ys := by cases xs with
    | nil => exact absurd rfl ne
    | cons x ys => exact ⟨x, ys, rfl⟩
  refine ⟨_, rfl, _, rfl, rd, _, rfl, (by rw [← hv]; exact DGet.t (k := [.inl a, .inl b]) R.at_ hk), ?_⟩
  refine ⟨la, _, _, _, rfl, rfl, SqL.of kl, atI_nat (j := 0) rfl, ?_⟩
  refine ⟨_, rfl, ?_⟩
  refine ⟨.inr (.inr (.inl ⟨rfl, .inr ⟨_, R.at_⟩⟩)), ?_⟩
  refine ⟨_, rfl, rd, kvs, [.inl a, .inl b], kd, .ref la, rfl, rfl, R.at_, hk, hv, ?_⟩
  obtain ⟨H1, e1⟩ : ∃ H1, H1 = upd H rd (.dT (dropK kvs [.inl a, .inl b])) := ⟨_, rfl⟩
  have k1 : H1 rd = some (.dT (dropK kvs [.inl a, .inl b])) := by rw [e1]; exact upd_same
  have c1 : Chg rd H H1 := fun b x nb e => by rw [e1, upd_ne nb]; exact e
  rw [← e1]
  clear e1
  have kl1 := c1 _ _ nl kl
  refine ⟨_, rfl, la, _, rfl, SqL.of kl1, fun p hp => ?_⟩
  rw [cut1w]
  have s2 := same_upd (o := .lst ys) hp
  have np : p ≠ rd := (ne_of_none k1 hp).symm
  have k2 := s2 _ _ k1
  have p0 := chg_none c1 k1 _ hp
  have sq1 : ∀ a zs, SqT K H a zs → SqT K H1 a zs := sqt_chgT R.at_ c1
  obtain ⟨d, ld, dx⟩ := rx x List.mem_cons_self
  have ry : Row31 K H ys := fun v hv => rx v (List.mem_cons_of_mem _ hv)
  obtain ⟨ds, da, ls⟩ := lets_of ry
  have Rd : Rd31 K n t H1 rd (dropK kvs [.inl a, .inl b]) := ⟨k1, Nat.le_trans (dropK_le _ _) R.few, fun e he => by
    obtain ⟨a', b', la', zs, e', a2, a3, b2, b3, n2, kk2, n3, l2, r2⟩ := R.all e (List.mem_filter.mp he).1
    exact ⟨a', b', la', zs, e', a2, a3, b2, b3, n2, c1 _ _ n2 kk2, n3, l2, row31_sqt sq1 r2⟩⟩
  refine ⟨_, rfl, Nat.zero_le _, fun e he => ?_⟩
  have s3 := same_upd (o := .lst []) he
  have s23 := s2.trans s3
  have da2 := dps_same s23 _ _ (dps_sqt sq1 _ _ (noLs_of fun d hd => lt31_no (ls d hd)) da)
  refine ⟨.list ds, .list [], .lst (SqL.of (s3 _ _ upd_same)) da2, .lst (SqL.of upd_same) .nil, lets_shaped ls, by decide, _, rfl, ?_⟩
  rw [lets_nil]
  have kp := s3 _ _ (upd_same (H := H1) (a := p) (o := .lst ys))
  have krd := s23 _ _ k1
  have kk : upd (upd H1 p (.lst ys)) e (.lst []) kd = some (.tup [.int a, .int b]) := s23 _ _ (c1 _ _ (ne_of hk R.at_ (by intro z; cases z)) hk)
  obtain ⟨G, eG⟩ : ∃ G, G = upd (upd H1 p (.lst ys)) e (.lst []) := ⟨_, rfl⟩
  rw [← eG] at kp krd kk s23
  rw [← eG]
  clear eG da2
  have Rd2 : Rd31 K n t G rd (dropK kvs [.inl a, .inl b]) := ⟨krd, Rd.few, fun e he => by
    obtain ⟨a', b', la', zs, e', a2, a3, b2, b3, n2, kk2, n3, l2, r2⟩ := Rd.all e he
    exact ⟨a', b', la', zs, e', a2, a3, b2, b3, n2, s23 _ _ kk2, n3, l2, row31_sqt (fun _ _ q => sqt_same s23 q) r2⟩⟩
  have sqG : ∀ a zs, SqT K H a zs → SqT K G a zs := fun _ _ q => sqt_same s23 (sq1 _ _ q)
  have c2 : Chg rd H G := c1.trans fun b x nb e => s23 b x e
  have dx2 := dp_sqt sqG d x (lt31_no ld) dx
  refine ite2 (fun c => ?_) (fun c => ?_)
  · refine ⟨_, rfl, _, rfl, _, rfl, rd, _, rfl, DPut.t (k := [.inl a, .inl b]) krd kk (Nat.lt_of_le_of_lt Rd2.few (Nat.lt_of_lt_of_le few (by decide))), ?_⟩
    have sqd : ∀ y zs, SqT K G y zs → SqT K (upd G rd (.dT (putK (dropK kvs [.inl a, .inl b]) [.inl a, .inl b] (.ref p)))) y zs := sqt_chgT krd Chg.self
    have ny : ys ≠ [] := fun z => by
      rw [z] at da
      cases da
      simp at c
    exact ⟨_, rfl, q x d _ _ (c2.trans Chg.self) (NewR.drop.trans (NewR.put p0) fun x h => h) ld (dp_sqt sqd d x (lt31_no ld) dx2) (Rd2.put Chg.self upd_same a0 a1 b0 b1 np ((upd_ne np).trans kp) ny (by simp at lx; omega) (row31_sqt (fun a zs q => sqd a zs (sqG a zs q)) ry))⟩
  · exact ⟨_, rfl, q x d _ _ c2 NewR.drop ld dx2 (Rd2.mono (by omega))⟩
end

end G0
namespace G0
open PySem PySem.Spec PyProof.Rows L2
set_option maxHeartbeats 4000000
set_option pp.deepTerms.threshold 3
theorem Rd31.drop {K : PySem.W.Frag} {n : Int} {t : Nat} {H H' : Hp} {rd : Addr} {kvs : List (List L2.Key × V)} {k : List L2.Key} (R : Rd31 K n t H rd kvs) (c : Chg rd H H') (e : H' rd = some (.dT (dropK kvs k))) : Rd31 K n t H' rd (dropK kvs k) :=
  ⟨e, Nat.le_trans (dropK_le _ _) R.few, fun e he => by
    obtain ⟨a', b', la', zs, e', a2, a3, b2, b3, n2, kk2, n3, l2, r2⟩ := R.all e (List.mem_filter.mp he).1
    exact ⟨a', b', la', zs, e', a2, a3, b2, b3, n2, c _ _ n2 kk2, n3, l2, row31_sqt (sqt_chgT R.at_ c) r2⟩⟩
theorem Rd31.same {K : PySem.W.Frag} {n : Int} {t : Nat} {H H' : Hp} {rd : Addr} {kvs : List (List L2.Key × V)} (R : Rd31 K n t H rd kvs) (s : Same H H') : Rd31 K n t H' rd kvs :=
  ⟨s _ _ R.at_, R.few, fun e he => by
    obtain ⟨a', b', la', zs, e', a2, a3, b2, b3, n2, kk2, n3, l2, r2⟩ := R.all e he
    exact ⟨a', b', la', zs, e', a2, a3, b2, b3, n2, s _ _ kk2, n3, l2, row31_sqt (fun _ _ q => sqt_same s q) r2⟩⟩
theorem Rd31.keep {K : PySem.W.Frag} {n : Int} {t : Nat} {H H' : Hp} {rd : Addr} {kvs : List (List L2.Key × V)} (R : Rd31 K n t H rd kvs) (e : H' rd = some (.dT kvs)) (h : ∀ e ∈ kvs, ∀ la o, e.2 = .ref la → H la = some o → H' la = some o) (sq : ∀ a xs, SqT K H a xs → SqT K H' a xs) : Rd31 K n t H' rd kvs :=
  ⟨e, R.few, fun e he => by
    obtain ⟨a', b', la', zs, e', a2, a3, b2, b3, n2, kk2, n3, l2, r2⟩ := R.all e he
    exact ⟨a', b', la', zs, e', a2, a3, b2, b3, n2, h e he la' _ (by rw [e']) kk2, n3, l2, row31_sqt sq r2⟩⟩
theorem none_same {H H' : Hp} (s : Same H H') {x : Addr} (h : H' x = none) : H x = none := by
  cases z : H x with
  | none => rfl
  | some y => rw [s _ _ z] at h; cases h
theorem NewR.of {H H' : Hp} {k0 k1 : List (List L2.Key × V)} (a : NewR H' k0 k1) (w : ∀ x, H' x = none → H x = none) : NewR H k0 k1 := fun e he => (a e he).imp id fun ⟨la, z, n⟩ => ⟨la, z, w _ n⟩
section
variable {P : Program} {w : World} {K : PySem.W.Frag} {mg : Str → Option Value} {base : Heap} {C : Addr}
/-! ### a seat falls -/
/-- no road's list stands at x -/
def OffR (kvs : List (List L2.Key × V)) (x : Addr) : Prop := ∀ e ∈ kvs, e.2 ≠ .ref x
def spFalls31 (K : PySem.W.Frag) : Sp := fun vs H Q _ => ∃ (rd fl : Addr) (n me : Int) (t : Nat) (kvs : List (List L2.Key × V)) (fs : List Int), vs = [.ref rd, .ref fl, .int n, .int me] ∧ Rd31 K n t H rd kvs ∧ H fl = some (.lst (fs.map V.int)) ∧ fl ≠ rd ∧ OffR kvs fl ∧ fs.length ≤ 500 ∧ 0 ≤ me ∧ me < n ∧ n ≤ 60 ∧ t < 900000 ∧
  ∀ kvs' H', ChgS [rd, fl] H H' → NewR H kvs kvs' → H' fl = some (.lst ((fs ++ [me]).map V.int)) → Rd31 K n (t + n.toNat) H' rd kvs' → Q .non H'
theorem sc_law_falls : FnScope ["roads", "fallen", "seats", "me", "seat"] ["roads", "fallen", "seats", "me"] (defScope s_law_falls) :=
  ⟨rfl, rfl, rfl, by decide +kernel, rfl, by decide +kernel, by decide +kernel⟩
theorem ok_falls31 (F : Fn K mg "_law_falls" s_law_falls) (T : Bl31 mg) (C_put : Cal P w K mg base "_law_put" 1 ["roads", "fallen", "me", "letters"] (spPut31 K)) : Cal P w K mg base "_law_falls" 2 ["roads", "fallen", "seats", "me"] (spFalls31 K) := by
  refine cal_of F sc_law_falls
    (fun _ _ _ _ _ _ us hl => match us, hl with | [_, _, _, _], _ => rfl) ?_ ?_
  · rintro vs H Q E ⟨_, _, _, _, _, _, _, rfl, _⟩
    rfl
  rintro f cdv A outer s H vs Q E free hr ⟨rd, fl, n, me, t, kvs, fs, rfl, R, hf, nf, off, lf, m0, m1, n60, few, q⟩
  refine ⟨_, (pss_cons (ps_expr (pe_bm PySem.F.plainAttrs_list PySem.F.slot_list_append PySem.F.type_list_append mt_append (pv 1) (pa_cons (pv 3) pa_nil)))
    (pss_one (ps_for PassesOwn.never rfl (pi_range1 (by rfl) T.range (pa_cons (pv 2) pa_nil)) (pg_name (i := 4) sc_law_falls.nd rfl (Or.inl rfl))
    (pss_cons (ps_expr (pe_bm PySem.F.plainAttrs_dict PySem.F.slot_dict_pop PySem.F.type_dict_pop (L2.DX.mt_popT (hu_of hr)) (pv 0) (pa_cons (pe_tup (pa_cons (pv 4) (pa_cons (pv 3) pa_nil))) (pa_cons pe_non pa_nil))))
    (pss_one (ps_expr (pe_cal C_put free (hr.mono (by decide)) (pa_cons (pv 0) (pa_cons (pv 1) (pa_cons (pv 3) (pa_cons (pe_lst (pa_cons (pe_tup (pa_cons (pv 4) (pa_cons (pe_tup (pa_cons pe_str pa_nil)) pa_nil))) pa_nil)) pa_nil))))))))))), ?_⟩
  refine ⟨_, rfl, .inl ⟨rfl, _, SqL.of hf⟩, _, rfl, fl, _, _, rfl, rfl, hf, Nat.lt_of_lt_of_le (show (fs.map V.int).length < 1000 by rw [List.length_map]; omega) (by decide), ?_⟩
  obtain ⟨H1, e1⟩ : ∃ H1, H1 = upd H fl (.lst (fs.map V.int ++ [V.int me])) := ⟨_, rfl⟩
  have k1 : H1 fl = some (.lst ((fs ++ [me]).map V.int)) := by rw [e1, List.map_append]; exact upd_same
  have c1 : Chg fl H H1 := fun b x nb e => by rw [e1, upd_ne nb]; exact e
  have R1 : Rd31 K n t H1 rd kvs := R.keep (c1 _ _ nf.symm R.at_) (fun e he la o z hla => c1 _ _ (fun z2 => off e he (by rw [z, z2])) hla) (sqt_chgL hf c1)
  rw [← e1]
  clear e1
  refine ⟨_, rfl, _, rfl, ?_⟩
  refine ⟨by omega, by omega, ?_⟩
  refine for_range (lo := 0) (n := _) (fun i σ G => (∃ z4 : Option V, σ = [some (V.ref rd), some (V.ref fl), some (V.int n), some (V.int me), z4]) ∧ Chg rd H1 G ∧ ∃ kvs', NewR H1 kvs kvs' ∧ Rd31 K n (t + i) G rd kvs') ⟨⟨_, rfl⟩, (fun b x nb e => e), _, NewR.refl, R1⟩ ?_ ?_
  · rintro i σ G hi ⟨⟨z4, rfl⟩, cG, kvs', NG, RG⟩
    have hi' : i < n.toNat := by omega
    have tyd : tyV K "dict" (.ref rd) G := .inr (.inr (.inl ⟨rfl, .inr ⟨_, RG.at_⟩⟩))
    refine ⟨_, rfl, tyd, ?_⟩
    refine ⟨_, rfl, _, rfl, by show 2 ≤ sizeLine; decide, fun tk htk => ?_⟩
    have v1 := same_upd (o := .tup [.int (0 + (i : Int)), .int me]) htk
    refine ⟨rd, kvs', [.inl (0 + (i : Int)), .inl me], tk, .non, rfl, rfl, v1 _ _ RG.at_, upd_same, fun v hv => ?_, fun hv => ?_⟩
    · have R2 := (RG.same v1).drop (k := [.inl (0 + (i : Int)), .inl me]) Chg.self upd_same
      have c2 : Chg rd H1 (upd (upd G tk (.tup [.int (0 + (i : Int)), .int me])) rd (.dT (dropK kvs' [.inl (0 + (i : Int)), .inl me]))) := fun b x nb e => (upd_ne nb).trans (v1 _ _ (cG _ _ nb e))
      have N2 : NewR H1 kvs (dropK kvs' [.inl (0 + (i : Int)), .inl me]) := fun e he => NG e (List.mem_filter.mp he).1
      refine ⟨_, rfl, _, rfl, _, rfl, _, rfl, by show 1 ≤ sizeLine; decide, fun t1 ht1 => ?_⟩
      have u1 := same_upd (o := .tup [.str "gone"]) ht1
      refine ⟨by show 2 ≤ sizeLine; decide, fun t2 ht2 => ?_⟩
      have u2 := same_upd (o := .tup [.int (0 + (i : Int)), .ref t1]) ht2
      refine ⟨by show 1 ≤ sizeLine; decide, fun l hl => ?_⟩
      have u3 := same_upd (o := .lst [.ref t2]) hl
      have u := u1.trans (u2.trans u3)
      have ns : l ≠ rd := (ne_of_none (u2 _ _ (u1 _ _ R2.at_)) hl).symm
      refine ⟨rd, fl, l, n, me, t + i, _, fs ++ [me], [.ref t2], [0 + (i : Int)], [ltG], rfl, R2.same u, u _ _ (c2 _ _ nf k1), nf, by rw [List.length_append, List.length_singleton]; omega, ns, m0, m1, upd_same, .cons (.tup (SqT.of (u3 _ _ upd_same)) (.cons (.int _) (.cons (.tup (SqT.of (u3 _ _ (u2 _ _ upd_same))) (.cons (.str _) .nil)) .nil))) .nil, rfl, (by intro x hx; cases List.mem_singleton.mp hx; omega), (by intro x hx; cases List.mem_singleton.mp hx; exact .inl rfl), by show t + i + 1 < 1000000; omega, fun kvs3 H3 c3 N3 R3 => ?_⟩
      exact ⟨⟨_, rfl⟩, fun b x nb e => c3 _ _ nb (u _ _ (c2 _ _ nb e)), _, N2.trans (N3.of fun x h => none_same u h) (chg_none c2 R2.at_), R3⟩
    · have R2 := RG.same v1
      have c2 : Chg rd H1 (upd G tk (.tup [.int (0 + (i : Int)), .int me])) := fun b x nb e => v1 _ _ (cG _ _ nb e)
      have N2 := NG
      refine ⟨_, rfl, _, rfl, _, rfl, _, rfl, by show 1 ≤ sizeLine; decide, fun t1 ht1 => ?_⟩
      have u1 := same_upd (o := .tup [.str "gone"]) ht1
      refine ⟨by show 2 ≤ sizeLine; decide, fun t2 ht2 => ?_⟩
      have u2 := same_upd (o := .tup [.int (0 + (i : Int)), .ref t1]) ht2
      refine ⟨by show 1 ≤ sizeLine; decide, fun l hl => ?_⟩
      have u3 := same_upd (o := .lst [.ref t2]) hl
      have u := u1.trans (u2.trans u3)
      have ns : l ≠ rd := (ne_of_none (u2 _ _ (u1 _ _ R2.at_)) hl).symm
      refine ⟨rd, fl, l, n, me, t + i, _, fs ++ [me], [.ref t2], [0 + (i : Int)], [ltG], rfl, R2.same u, u _ _ (c2 _ _ nf k1), nf, by rw [List.length_append, List.length_singleton]; omega, ns, m0, m1, upd_same, .cons (.tup (SqT.of (u3 _ _ upd_same)) (.cons (.int _) (.cons (.tup (SqT.of (u3 _ _ (u2 _ _ upd_same))) (.cons (.str _) .nil)) .nil))) .nil, rfl, (by intro x hx; cases List.mem_singleton.mp hx; omega), (by intro x hx; cases List.mem_singleton.mp hx; exact .inl rfl), by show t + i + 1 < 1000000; omega, fun kvs3 H3 c3 N3 R3 => ?_⟩
      exact ⟨⟨_, rfl⟩, fun b x nb e => c3 _ _ nb (u _ _ (c2 _ _ nb e)), _, N2.trans (N3.of fun x h => none_same u h) (chg_none c2 R2.at_), R3⟩
  · rintro σ G ⟨⟨z4, rfl⟩, cG, kvs', NG, RG⟩
    have er : t + (((n : Int) - 0).toNat) = t + n.toNat := by rw [Int.sub_zero]
    exact q kvs' G (fun b o nb e => cG _ _ (fun z => nb (by rw [z]; simp)) (c1 _ _ (fun z => nb (by rw [z]; simp)) e)) (NG.of fun x h => chg_none c1 k1 x h) (cG _ _ nf k1) RG
end

end G0
namespace G0
open PySem PySem.Spec PyProof.Rows L2
set_option maxHeartbeats 8000000
set_option pp.deepTerms.threshold 3
def ddS (w : Str) (s : Int) : PyData := .tuple [.str w, .int s]
def ddC (a b : Int) : PyData := .tuple [.str "carry", .int a, .int b]
def DdD (n : Int) (kvs : List (List L2.Key × V)) (d : PyData) : Prop := (∃ (w : Str) (s : Int), (w = "ask" ∨ w = "leave" ∨ w = "fall") ∧ 0 ≤ s ∧ s < n ∧ d = ddS w s) ∨ ∃ a b v, valV kvs [.inl a, .inl b] = some v ∧ d = ddC a b
theorem dd_lay : ∀ {n : Int} {kvs : List (List L2.Key × V)} (ds : List PyData), (∀ d ∈ ds, DdD n kvs d) → PyData.canLayAll0 ds = true ∧ PyData.depthAll ds ≤ 3
  | _, _, [], _ => ⟨rfl, by decide⟩
  | n, kvs, d :: ds, h => by
    obtain ⟨a, b⟩ := dd_lay ds fun x hx => h x (List.mem_cons_of_mem _ hx)
    have one : d.canLay0 = true ∧ d.depth ≤ 3 := by
      rcases h d List.mem_cons_self with ⟨w, s, e, _, _, rfl⟩ | ⟨x, y, _, _, rfl⟩
      · refine ⟨?_, by simp [ddS, PyData.depth, PyData.depthAll]⟩
        simp [ddS, PyData.canLay0, PyData.canLayAll0]
        rcases e with rfl | rfl | rfl <;> decide +kernel
      · exact ⟨by simp [ddC, PyData.canLay0, PyData.canLayAll0]; decide +kernel, by simp [ddC, PyData.depth, PyData.depthAll]⟩
    refine ⟨by simp [PyData.canLayAll0, one.1, a], ?_⟩
    simp only [PyData.depthAll]
    omega
theorem dd_shaped {n : Int} {kvs : List (List L2.Key × V)} {ds : List PyData} (h : ∀ d ∈ ds, DdD n kvs d) : SeqAt.shaped (.list ds) = true := by
  obtain ⟨a, b⟩ := dd_lay ds h
  show ((PyData.list ds).canLay0 && decide ((PyData.list ds).depth ≤ 64)) = true
  have e : (PyData.list ds).depth ≤ 64 := by simp only [PyData.depth]; omega
  rw [decide_eq_true e]
  simp [PyData.canLay0, a]
theorem dd_no {n : Int} {kvs : List (List L2.Key × V)} {d : PyData} (h : DdD n kvs d) : noL d = true := by
  rcases h with ⟨w, s, e, _, _, rfl⟩ | ⟨x, y, _, _, rfl⟩ <;> rfl
section
variable {P : Program} {w : World} {K : PySem.W.Frag} {mg : Str → Option Value} {base : Heap} {C : Addr}
/-! ### a deed is drawn -/
/-- a list of deeds -/
def Dds (K : PySem.W.Frag) (n : Int) (kvs : List (List L2.Key × V)) (H : Hp) (l : Addr) : Prop := ∃ zs ds, H l = some (.lst zs) ∧ DpAll K H zs ds ∧ (∀ d ∈ ds, DdD n kvs d) ∧ ds.length ≤ 2000000
def spDeed31 (K : PySem.W.Frag) : Sp := fun vs H Q _ => ∃ (p sl rd fl sh : Addr) (n : Int) (t m : Nat) (kvs : List (List L2.Key × V)) (fs ks : List Int) (ss : List Str), vs = [.ref p, .ref sl, .ref rd, .ref fl, .ref sh] ∧ PotAt m H p ∧ m + 2 < 1000000000 ∧
  H sl = some (.lst (ss.map V.str)) ∧ ss.length = n.toNat ∧ n ≤ 60 ∧ 0 ≤ n ∧ Rd31 K n t H rd kvs ∧ t < 1000000 ∧ H fl = some (.lst (fs.map V.int)) ∧ SqL K H sh (ks.map V.int) ∧ ks ≠ [] ∧ ks.length ≤ 100 ∧ (∀ k ∈ ks, 0 ≤ k ∧ k < 4) ∧ p ≠ sl ∧ p ≠ fl ∧ p ≠ sh ∧
  (∀ m' H', Chg p H H' → PotAt m' H' p → m' ≤ m + 2 → Q .non H') ∧ (∀ a d m' H', Chg p H H' → PotAt m' H' p → m' ≤ m + 2 → DdD n kvs d → Dp K H' (.ref a) d → Q (.ref a) H')
theorem sc_law_deed : FnScope ["pot", "states", "roads", "fallen", "shares", "living", "seat", "wishes", "leaves", "carries", "a", "b", "downs", "way", "some"] ["pot", "states", "roads", "fallen", "shares"] (defScope s_law_deed) :=
  ⟨rfl, rfl, rfl, by decide +kernel, rfl, by decide +kernel, by decide +kernel⟩
theorem ok_deed31 (F : Fn K mg "_law_deed" s_law_deed) (T : Bl31 mg) (C_draw : Cal P w K mg base "_law_draw" 1 ["pot", "many"] spDraw) : Cal P w K mg base "_law_deed" 2 ["pot", "states", "roads", "fallen", "shares"] (spDeed31 K) := by
  refine cal_of F sc_law_deed
    (fun _ _ _ _ _ _ us hl => match us, hl with | [_, _, _, _, _], _ => rfl) ?_ ?_
  · rintro vs H Q E ⟨_, _, _, _, _, _, _, _, _, _, _, _, rfl, _⟩
    rfl
  rintro f cdv A outer s H vs Q E free hr ⟨p, sl, rd, fl, sh, n, t, m, kvs, fs, ks, ss, rfl, hP, hm, hs, lss, n60, n0, R, few, hf, hsh, nk, lk, rk, nps, npf, npsh, q1, q2⟩
  refine ⟨_, (pss_cons (ps_setLc (i := 5) (own := [("seat", 6)]) (g := gName 6)  (by rfl) sc_law_deed.nd rfl rfl (sw_true rfl rfl rfl (by decide +kernel)) (pi_range1 (by rfl) T.range (pa_cons (pe_callB call_len_seq (by rfl) T.len (by decide +kernel) (pa_cons (pv 1) pa_nil)) pa_nil)) (blkOk_by (N := ["pot", "states", "roads", "fallen", "shares", "living", "seat", "wishes", "leaves", "carries", "a", "b", "downs", "way", "some"]) (sc := defScope s_law_deed) (by decide +kernel)) (fun _ _ _ _ _ => pg_name (i := 6) sc_law_deed.nd rfl (Or.inl rfl)) (fun _ _ _ _ _ => pts_one (pt_cmpR (u_notinK K) (pv 6) (pv 3) (by rfl))) (fun _ _ _ _ _ => (pv 6)))
    (pss_cons (ps_setLc (i := 7) (own := [("seat", 6)]) (g := gName 6)  (by rfl) sc_law_deed.nd rfl rfl (sw_true rfl rfl rfl (by decide +kernel)) (pi_list (pv 5)) (blkOk_by (N := ["pot", "states", "roads", "fallen", "shares", "living", "seat", "wishes", "leaves", "carries", "a", "b", "downs", "way", "some"]) (sc := defScope s_law_deed) (by decide +kernel)) (fun _ _ _ _ _ => pg_name (i := 6) sc_law_deed.nd rfl (Or.inl rfl)) (fun _ _ _ _ _ => pts_one (pt_cmpR op_eq (pe_ix (ix_listK K) (pv 1) (pv 6) (fun _ _ => rfl)) pe_str (nomark _))) (fun _ _ _ _ _ => (pe_tup (pa_cons pe_str (pa_cons (pv 6) pa_nil)))))
    (pss_cons (ps_setLc (i := 8) (own := [("seat", 6)]) (g := gName 6)  (by rfl) sc_law_deed.nd rfl rfl (sw_true rfl rfl rfl (by decide +kernel)) (pi_list (pv 5)) (blkOk_by (N := ["pot", "states", "roads", "fallen", "shares", "living", "seat", "wishes", "leaves", "carries", "a", "b", "downs", "way", "some"]) (sc := defScope s_law_deed) (by decide +kernel)) (fun _ _ _ _ _ => pg_name (i := 6) sc_law_deed.nd rfl (Or.inl rfl)) (fun _ _ _ _ _ => pts_one (pt_cmpR op_eq (pe_ix (ix_listK K) (pv 1) (pv 6) (fun _ _ => rfl)) pe_str (nomark _))) (fun _ _ _ _ _ => (pe_tup (pa_cons pe_str (pa_cons (pv 6) pa_nil)))))
    (pss_cons (ps_lock (ps_setLc (i := 9) (own := [("a", 10), ("b", 11)]) (g := gTup K 2 (gCons (gName 10) (gCons (gName 11) gNil))) (tt := tYes) (by rfl) sc_law_deed.nd rfl rfl (sw_true rfl rfl rfl (by decide +kernel)) (pi_keysMT (pv 2)) (blkOk_by (N := ["pot", "states", "roads", "fallen", "shares", "living", "seat", "wishes", "leaves", "carries", "a", "b", "downs", "way", "some"]) (sc := defScope s_law_deed) (by decide +kernel)) (fun _ _ _ _ _ => pg_tup (by rfl) (pgs_cons (pg_name (i := 10) sc_law_deed.nd rfl (Or.inl rfl)) (pgs_cons (pg_name (i := 11) sc_law_deed.nd rfl (Or.inl rfl)) pgs_nil))) (fun _ _ _ _ _ => pts_nil) (fun _ _ _ _ _ => (pe_tup (pa_cons pe_str (pa_cons (pv 10) (pa_cons (pv 11) pa_nil)))))))
    (pss_cons (ps_setLc (i := 12) (own := [("seat", 6)]) (g := gName 6) (tt := tYes) (by rfl) sc_law_deed.nd rfl rfl (sw_true rfl rfl rfl (by decide +kernel)) (pi_list (pv 5)) (blkOk_by (N := ["pot", "states", "roads", "fallen", "shares", "living", "seat", "wishes", "leaves", "carries", "a", "b", "downs", "way", "some"]) (sc := defScope s_law_deed) (by decide +kernel)) (fun _ _ _ _ _ => pg_name (i := 6) sc_law_deed.nd rfl (Or.inl rfl)) (fun _ _ _ _ _ => pts_nil) (fun _ _ _ _ _ => (pe_tup (pa_cons pe_str (pa_cons (pv 6) pa_nil)))))
    (pss_cons (ps_set (i := 13) sc_law_deed.nd rfl (Or.inl rfl) (pe_ix ix_list (pv 4) (pe_cal C_draw free (hr.mono (by decide)) (pa_cons (pv 0) (pa_cons (pe_callB call_len_seq (by rfl) T.len (by decide +kernel) (pa_cons (pv 4) pa_nil)) pa_nil))) (fun _ _ => rfl)))
    (pss_cons (ps_for PassesOwn.never rfl (pi_list (pe_ix ix_list (pe_lst (pa_cons (pe_lst (pa_cons (pv 7) (pa_cons (pv 9) (pa_cons (pv 8) pa_nil)))) (pa_cons (pe_lst (pa_cons (pv 9) (pa_cons (pv 8) (pa_cons (pv 7) pa_nil)))) (pa_cons (pe_lst (pa_cons (pv 8) (pa_cons (pv 9) (pa_cons (pv 7) pa_nil)))) (pa_cons (pe_lst (pa_cons (pv 12) pa_nil)) pa_nil))))) (pv 13) (fun _ _ => rfl))) (pg_name (i := 14) sc_law_deed.nd rfl (Or.inl rfl))
    (pss_one (ps_if (pt_cmpR (op_neD (u64 hr)) (pv 14) (pe_lst pa_nil) (nomark _))
    (pss_one (ps_ret (pe_ix ix_list (pv 14) (pe_cal C_draw free (hr.mono (by decide)) (pa_cons (pv 0) (pa_cons (pe_callB call_len_seq (by rfl) T.len (by decide +kernel) (pa_cons (pv 14) pa_nil)) pa_nil))) (fun _ _ => rfl))))
    pss_nil)))
    (pss_one (ps_ret pe_non))))))))), ?_⟩
  refine ⟨_, rfl, sl, _, rfl, .inl (SqL.of hs), _, rfl, ?_⟩
  rw [List.length_map, lss]
  refine ⟨by omega, by omega, fun D hD => ?_⟩
  refine lc_range (lo := 0) (n := _) (fun i G => Same H G ∧ G D = some (.lst ((((upto n).take i).filter fun s => !decide (s ∈ fs)).map V.int))) ⟨same_upd hD, upd_same⟩ ?_ ?_
  · rintro i G hi ⟨sG, kD⟩
    have hi' : i < n.toNat := by
      have : i < ((n.toNat : Nat) : Int).toNat := hi
      omega
    have er := upto_at (n := n) (i := i) hi'
    rw [filt_snoc er]
    refine ⟨rfl, ?_⟩
    refine ⟨_, rfl, _, rfl, .inl ⟨fl, _, rfl, .inl (SqL.of (sG _ _ hf)), rfl, flat_ints _, _, rfl, ?_⟩⟩
    rw [inV_ints, Int.zero_add]
    refine ite2 (fun c4 => ?_) (fun c4 => ?_)
    · rw [if_pos (show (!decide ((i : Int) ∈ fs)) = true from c4)]
      refine ⟨_, rfl, _, kD, ?_, fun a o e => ?_, ?_⟩
      · rw [List.length_map]
        have h1 := List.length_filter_le (fun s => !decide (s ∈ fs)) ((upto n).take i)
        rw [List.length_take] at h1
        exact Nat.lt_of_lt_of_le (show _ < 100 by omega) (by decide)
      · rw [upd_ne (ne_of_none e hD)]
        exact sG _ _ e
      · rw [List.map_append]
        exact upd_same
    · rw [if_neg (show ¬ (!decide ((i : Int) ∈ fs)) = true from c4), List.append_nil]
      exact ⟨sG, kD⟩
  rintro H1 ⟨s1, kD⟩
  have eW : ((upto n).take (((n.toNat : Nat) : Int)).toNat).filter (fun s => !decide (s ∈ fs)) = others n fs := by
    rw [List.take_of_length_le (by rw [upto_len]; omega)]
    rfl
  have kD : H1 D = some (.lst ((others n fs).map V.int)) := by rw [← eW]; exact kD
  have lW : (others n fs).length ≤ 60 := by
    have := List.length_filter_le (fun s => !decide (s ∈ fs)) (upto n)
    rw [upto_len] at this
    unfold others
    omega
  have rW : ∀ x ∈ others n fs, 0 ≤ x ∧ x < n := fun x hx => by
    have := (List.mem_filter.mp hx).1
    unfold upto at this
    obtain ⟨j, hj, e⟩ := List.mem_map.mp this
    have := List.mem_range.mp hj
    omega
  obtain ⟨W, eWW⟩ : ∃ W, W = others n fs := ⟨_, rfl⟩
  rw [← eWW] at kD lW rW
  clear eWW eW
  have hs1 := s1 _ _ hs
  have stat : ∀ {x : Int}, x ∈ W → ∃ z, ss[x.toNat]? = some z ∧ atI (ss.map V.str) x = some (.str z) := fun {x} hx => by
    obtain ⟨a, b⟩ := rW x hx
    have hl : x.toNat < ss.length := by rw [lss]; omega
    refine ⟨ss[x.toNat], List.getElem?_eq_getElem hl, ?_⟩
    have := atI_nat (xs := ss.map V.str) (j := x.toNat) (v := .str ss[x.toNat]) (by rw [List.getElem?_map, List.getElem?_eq_getElem hl]; rfl)
    rwa [show ((x.toNat : Nat) : Int) = x by omega] at this
  have kD0 := kD
  have hs0 := hs1
  refine ⟨_, rfl, D, rfl, ⟨_, SqL.of kD0⟩, fun D2 hD2 => ?_⟩
  refine lc_dataI (fun s => decide (ss[s.toNat]? = some "out")) (ddS "ask") (Nat.le_trans lW (by decide)) (fun _ _ => rfl) hD2 (SqL.of kD0) (fun i x G Y B ex sG yes no => ?_) (fun G2 zs2 sG2 kE2 dz2 => ?_)
  · obtain ⟨z, hz, az⟩ := stat (List.mem_of_getElem? ex)
    refine ⟨rfl, _, rfl, _, rfl, sl, _, _, _, rfl, rfl, SqL.of (sG _ _ hs0), az, rfl, _, rfl, ?_⟩
    rw [dec_str]
    refine ite2 (fun c => ?_) (fun c => ?_)
    · have c2 : z = "out" := of_decide_eq_true c
      refine ⟨_, rfl, by show 2 ≤ sizeLine; decide, fun t ht => ?_⟩
      exact yes (by rw [hz, c2]; exact decide_eq_true rfl) _ _ (same_upd ht) (.tup (SqT.of upd_same) (.cons (.str _) (.cons (.int _) .nil)))
    · exact no (by rw [hz]; exact decide_eq_false fun z2 => c (decide_eq_true (Option.some.inj z2)))
  have kD2 := sG2 _ _ kD0
  have hs2 := sG2 _ _ hs0
  refine ⟨_, rfl, D, rfl, ⟨_, SqL.of kD2⟩, fun D3 hD3 => ?_⟩
  refine lc_dataI (fun s => decide (ss[s.toNat]? = some "in")) (ddS "leave") (Nat.le_trans lW (by decide)) (fun _ _ => rfl) hD3 (SqL.of kD2) (fun i x G Y B ex sG yes no => ?_) (fun G3 zs3 sG3 kE3 dz3 => ?_)
  · obtain ⟨z, hz, az⟩ := stat (List.mem_of_getElem? ex)
    refine ⟨rfl, _, rfl, _, rfl, sl, _, _, _, rfl, rfl, SqL.of (sG _ _ hs2), az, rfl, _, rfl, ?_⟩
    rw [dec_str]
    refine ite2 (fun c => ?_) (fun c => ?_)
    · have c2 : z = "in" := of_decide_eq_true c
      refine ⟨_, rfl, by show 2 ≤ sizeLine; decide, fun t ht => ?_⟩
      exact yes (by rw [hz, c2]; exact decide_eq_true rfl) _ _ (same_upd ht) (.tup (SqT.of upd_same) (.cons (.str _) (.cons (.int _) .nil)))
    · exact no (by rw [hz]; exact decide_eq_false fun z2 => c (decide_eq_true (Option.some.inj z2)))
  have R3 := R.same (s1.trans (sG2.trans sG3))
  refine ⟨rd, .dT kvs, R3.at_, trivial, fun od => ?_⟩
  obtain ⟨HL, eHL⟩ : ∃ HL, HL = upd G3 rd (.frz od (.dT kvs)) := ⟨_, rfl⟩
  have kL : HL rd = some (.frz od (.dT kvs)) := by rw [eHL]; exact upd_same
  have cL : Chg rd G3 HL := fun b x nb e => by rw [eHL, upd_ne nb]; exact e
  rw [← eHL]
  refine ⟨_, rfl, rd, od, kvs, rfl, kL, fun D4 hD4 => ?_⟩
  have rdD4 : rd ≠ D4 := ne_of_none kL hD4
  refine lc_it walk_keysT (fun i G => Same HL G ∧ ∃ zs ds, zs.length = i ∧ G D4 = some (.lst zs) ∧ DpAll K G zs ds ∧ (∀ d ∈ ds, DdD n kvs d) ∧ ds.length ≤ i) ⟨same_upd hD4, [], [], rfl, upd_same, .nil, (fun _ h => nomatch h), Nat.le_refl _⟩ (fun i G _ h => h.1 _ _ kL) ?_ ?_
  · rintro i x G G' hi ⟨sG, zs, ds, lz, kz, dz, rz, lds⟩ ⟨rfl, k, v, qk, hk, rfl, hqk⟩
    obtain ⟨a, b, la, xs, e, a0, a1, b0, b1, _⟩ := R.all _ (List.mem_of_getElem? hk)
    cases e
    have i9 : i < kvs.length := hi
    have few2 := R.few
    refine ⟨qk, _, rfl, SqT.of hqk, rfl, _, _, rfl, _, _, rfl, rfl, rfl, lc_yes ?_⟩
    refine ⟨_, rfl, _, rfl, by show 3 ≤ sizeLine; decide, fun t ht => ?_⟩
    have u1 := same_upd (o := .tup [.str "carry", .int a, .int b]) ht
    have kz1 := u1 _ _ kz
    refine ⟨_, kz1, Nat.lt_of_lt_of_le (show zs.length < 1000000 by omega) (by decide), fun x o e => ?_, zs ++ [.ref t], ds ++ [ddC a b], by rw [List.length_append, lz]; rfl, upd_same, ?_, ?_, by rw [List.length_append, List.length_singleton]; omega⟩
    · rw [upd_ne (ne_of_none e hD4)]
      exact u1 _ _ (sG _ _ e)
    · have nls : noLs (ds ++ [ddC a b]) = true := noLs_of fun d hd => by
        rcases List.mem_append.mp hd with z | z
        · exact dd_no (rz d z)
        · cases List.mem_singleton.mp z; rfl
      exact dps_chg ⟨_, kz1⟩ Chg.self _ _ nls (dps_app (dps_same u1 _ _ dz) (.cons (.tup (SqT.of upd_same) (.cons (.str _) (.cons (.int _) (.cons (.int _) .nil)))) .nil))
    · intro d hd
      rcases List.mem_append.mp hd with z | z
      · exact rz d z
      · cases List.mem_singleton.mp z
        have iss := valV_any [Sum.inl a, Sum.inl b] kvs
        cases hv : valV kvs [.inl a, .inl b] with
        | some v' => exact .inr ⟨a, b, v', hv, rfl⟩
        | none =>
          rw [hv] at iss
          have : (kvs.any fun kv => decide (kv.1 = [Sum.inl a, Sum.inl b])) = true := List.any_eq_true.mpr ⟨_, List.mem_of_getElem? hk, by simp⟩
          rw [this] at iss
          cases iss
  rintro G4 ⟨sG4, zs4, ds4, lz4, kE4, dz4, rz4, ld4⟩
  refine ⟨sG4 _ _ kL, ?_⟩
  obtain ⟨H5, e5⟩ : ∃ H5, H5 = upd G4 rd (.dT kvs) := ⟨_, rfl⟩
  rw [← e5]
  have s35 : Same G3 H5 := fun x o e => by
    rw [e5]
    by_cases z : x = rd
    · rw [z, R3.at_] at e
      rw [z, ← e]
      exact upd_same
    · rw [upd_ne z]
      exact sG4 _ _ (cL _ _ z e)
  have sq45 : ∀ a zs, SqT K G4 a zs → SqT K H5 a zs := fun a zs q => by
    have hq := fun o (e : G4 a = some o) (z : ∀ u, o ≠ .frz u (.dT kvs)) => (show H5 a = some o by rw [e5, upd_ne (fun z2 => by rw [z2, sG4 _ _ kL] at e; exact z _ (Option.some.inj e).symm)]; exact e)
    rcases q with (z | ⟨o', z⟩) | z
    · exact .inl (.inl (hq _ z (fun _ z => nomatch z)))
    · exact .inl (.inr ⟨o', hq _ z (fun _ z => nomatch z)⟩)
    · exact .inr z
  have dz45 := dps_sqt sq45 _ _ (noLs_of fun d hd => dd_no (rz4 d hd)) dz4
  have kE45 : H5 D4 = some (.lst zs4) := by rw [e5, upd_ne rdD4.symm]; exact kE4
  have s05 := s1.trans (sG2.trans (sG3.trans s35))
  have dz25 := dps_same (sG3.trans s35) _ _ dz2
  have kE25 := s35 _ _ (sG3 _ _ kE2)
  have dz35 := dps_same s35 _ _ dz3
  have kE35 := s35 _ _ kE3
  have kD5 := s35 _ _ (sG3 _ _ kD2)
  have hD5no : H5 D4 ≠ none := by rw [kE45]; simp
  clear e5 eHL
  have mk : ∀ (w : Str) (hw : w = "ask" ∨ w = "leave" ∨ w = "fall") (g : Int → Bool), ∀ d ∈ (W.filter g).map (ddS w), DdD n kvs d := fun w hw g d hd => by
    obtain ⟨x, hx, rfl⟩ := List.mem_map.mp hd
    obtain ⟨x0, x1⟩ := rW x (List.mem_filter.mp hx).1
    exact .inl ⟨w, x, hw, x0, x1, rfl⟩
  refine ⟨_, rfl, D, rfl, ⟨_, SqL.of kD5⟩, fun D6 hD6 => ?_⟩
  refine lc_dataI (fun _ => true) (ddS "fall") (Nat.le_trans lW (by decide)) (fun _ _ => rfl) hD6 (SqL.of kD5) (fun i x G Y B ex sG yes no => ?_) (fun G6 zs6 sG6 kE6 dz6 => ?_)
  · refine ⟨rfl, lc_yes ?_⟩
    refine ⟨_, rfl, by show 2 ≤ sizeLine; decide, fun t ht => ?_⟩
    exact yes rfl _ _ (same_upd ht) (.tup (SqT.of upd_same) (.cons (.str _) (.cons (.int _) .nil)))
  have s06 := s05.trans sG6
  have dd2 : Dds K n kvs G6 D2 := ⟨_, _, sG6 _ _ kE25, dps_same sG6 _ _ dz25, mk _ (.inl rfl) _, by rw [List.length_map]; exact Nat.le_trans (List.length_filter_le ..) (by omega)⟩
  have dd3 : Dds K n kvs G6 D3 := ⟨_, _, sG6 _ _ kE35, dps_same sG6 _ _ dz35, mk _ (.inr (.inl rfl)) _, by rw [List.length_map]; exact Nat.le_trans (List.length_filter_le ..) (by omega)⟩
  have dd4 : Dds K n kvs G6 D4 := ⟨_, _, sG6 _ _ kE45, dps_same sG6 _ _ dz45, rz4, by have := R.few; omega⟩
  have dd6 : Dds K n kvs G6 D6 := ⟨_, _, kE6, dz6, mk _ (.inr (.inr rfl)) _, by rw [List.length_map]; exact Nat.le_trans (List.length_filter_le ..) (by omega)⟩
  have hP6 : PotAt m G6 p := hP.keep s06
  have hsh6 := s06.seq hsh
  have lk0 : 0 < ks.length := List.length_pos_iff.mpr nk
  refine ⟨_, rfl, _, rfl, _, rfl, sh, _, rfl, .inl hsh6, ?_⟩
  rw [List.length_map]
  refine ⟨p, _, m, rfl, by omega, ?_, hP6, by omega, fun c1 y1 c10 c11 P1 => ?_⟩
  · exact Nat.lt_of_le_of_lt (show _ ≤ 100 by omega) (by decide)
  obtain ⟨G7, e7⟩ : ∃ G7, G7 = upd G6 p (.lst y1) := ⟨_, rfl⟩
  have P7 : PotAt (m + 1) G7 p := by rw [e7]; exact PotAt.at P1
  have c67 : Chg p G6 G7 := fun b x nb e => by rw [e7, upd_ne nb]; exact e
  have c07 : Chg p H G7 := fun b x nb e => c67 _ _ nb (s06 _ _ e)
  have hsh7 : SqL K G7 sh (ks.map V.int) := by
    rcases hsh6 with (z | ⟨o', z⟩) | z
    · exact .inl (.inl (c67 _ _ npsh.symm z))
    · exact .inl (.inr ⟨o', c67 _ _ npsh.symm z⟩)
    · exact .inr z
  rw [← e7]
  obtain ⟨xs6, hpx, _⟩ := hP6
  have ddk : ∀ {l : Addr}, Dds K n kvs G6 l → l ≠ p → Dds K n kvs G7 l ∧ l ≠ p := fun {l} ⟨zs, ds, h1, h2, h3, h4⟩ nl => ⟨⟨zs, ds, c67 _ _ nl h1, dps_sqt (sqt_chgL hpx c67) _ _ (noLs_of fun d hd => dd_no (h3 d hd)) h2, h3, h4⟩, nl⟩
  have po := PotAt.lst hP
  obtain ⟨xp, hxp⟩ := po
  have d72 := ddk dd2 (ne_of_none (s1 _ _ hxp) hD2).symm
  have d73 := ddk dd3 (ne_of_none (sG2 _ _ (s1 _ _ hxp)) hD3).symm
  have d76 := ddk dd6 (ne_of_none (s05 _ _ hxp) hD6).symm
  have d74 := ddk dd4 (fun z => by
    have z2 := (s1.trans (sG2.trans sG3)) _ _ hxp
    by_cases zz : p = rd
    · rw [zz, R.at_] at hxp; cases hxp
    · exact ne_of_none (cL _ _ zz z2) hD4 z.symm)
  clear e7
  have hc1 : c1.toNat < ks.length := by omega
  obtain ⟨way, ew⟩ : ∃ way, ks[c1.toNat]? = some way := ⟨_, List.getElem?_eq_getElem hc1⟩
  obtain ⟨w0, w1⟩ := rk way (List.mem_of_getElem? ew)
  have atw : atI (ks.map V.int) c1 = some (.int way) := by
    have := atI_nat (xs := ks.map V.int) (j := c1.toNat) (v := .int way) (by rw [List.getElem?_map, ew]; rfl)
    rwa [show ((c1.toNat : Nat) : Int) = c1 by omega] at this
  refine ⟨sh, _, _, _, rfl, rfl, hsh7, atw, ?_⟩
  refine ⟨_, rfl, _, rfl, _, rfl, by show 3 ≤ sizeLine; decide, fun l1 hl1 => ?_⟩
  have v1 := same_upd (o := .lst [.ref D2, .ref D4, .ref D3]) hl1
  refine ⟨_, rfl, _, rfl, _, rfl, by show 3 ≤ sizeLine; decide, fun l2 hl2 => ?_⟩
  have v2 := same_upd (o := .lst [.ref D4, .ref D3, .ref D2]) hl2
  refine ⟨_, rfl, _, rfl, _, rfl, by show 3 ≤ sizeLine; decide, fun l3 hl3 => ?_⟩
  have v3 := same_upd (o := .lst [.ref D3, .ref D4, .ref D2]) hl3
  refine ⟨_, rfl, by show 1 ≤ sizeLine; decide, fun l4 hl4 => ?_⟩
  have v4 := same_upd (o := .lst [.ref D6]) hl4
  refine ⟨by show 4 ≤ sizeLine; decide, fun lo hlo => ?_⟩
  have v5 := same_upd (o := .lst [.ref l1, .ref l2, .ref l3, .ref l4]) hlo
  have v := v1.trans (v2.trans (v3.trans (v4.trans v5)))
  obtain ⟨lw, zw, aw, kw, rw_⟩ : ∃ (lw : Addr) (zw : List V), atI [V.ref l1, .ref l2, .ref l3, .ref l4] way = some (.ref lw) ∧ upd (upd (upd (upd (upd G7 l1 (.lst [.ref D2, .ref D4, .ref D3])) l2 (.lst [.ref D4, .ref D3, .ref D2])) l3 (.lst [.ref D3, .ref D4, .ref D2])) l4 (.lst [.ref D6])) lo (.lst [.ref l1, .ref l2, .ref l3, .ref l4]) lw = some (.lst zw) ∧ ∀ v ∈ zw, ∃ l, v = .ref l ∧ Dds K n kvs G7 l ∧ l ≠ p := by
    have hw : way = 0 ∨ way = 1 ∨ way = 2 ∨ way = 3 := by omega
    rcases hw with rfl | rfl | rfl | rfl
    · refine ⟨l1, _, rfl, v5 _ _ (v4 _ _ (v3 _ _ (v2 _ _ upd_same))), fun v hv => ?_⟩
      simp only [List.mem_cons, List.not_mem_nil, or_false] at hv
      rcases hv with rfl | rfl | rfl <;> exact ⟨_, rfl, by assumption⟩
    · refine ⟨l2, _, rfl, v5 _ _ (v4 _ _ (v3 _ _ upd_same)), fun v hv => ?_⟩
      simp only [List.mem_cons, List.not_mem_nil, or_false] at hv
      rcases hv with rfl | rfl | rfl <;> exact ⟨_, rfl, by assumption⟩
    · refine ⟨l3, _, rfl, v5 _ _ (v4 _ _ upd_same), fun v hv => ?_⟩
      simp only [List.mem_cons, List.not_mem_nil, or_false] at hv
      rcases hv with rfl | rfl | rfl <;> exact ⟨_, rfl, by assumption⟩
    · refine ⟨l4, _, rfl, v5 _ _ upd_same, fun v hv => ?_⟩
      simp only [List.mem_cons, List.not_mem_nil, or_false] at hv
      rcases hv with rfl
      exact ⟨_, rfl, by assumption⟩
  obtain ⟨H8, e8⟩ : ∃ H8, H8 = upd (upd (upd (upd (upd G7 l1 (.lst [.ref D2, .ref D4, .ref D3])) l2 (.lst [.ref D4, .ref D3, .ref D2])) l3 (.lst [.ref D3, .ref D4, .ref D2])) l4 (.lst [.ref D6])) lo (.lst [.ref l1, .ref l2, .ref l3, .ref l4]) := ⟨_, rfl⟩
  have klo : H8 lo = some (.lst [.ref l1, .ref l2, .ref l3, .ref l4]) := by rw [e8]; exact upd_same
  rw [← e8] at kw v
  rw [← e8]
  clear e8 v1 v2 v3 v4 v5
  refine ⟨_, rfl, lo, _, _, _, rfl, rfl, SqL.of klo, aw, ?_⟩
  refine ⟨lw, rfl, ⟨_, SqL.of kw⟩, ?_⟩
  have c08 : Chg p H H8 := fun b x nb e => v _ _ (c07 _ _ nb e)
  have P8 : PotAt (m + 1) H8 p := P7.keep v
  refine for_list (K := K) (a := lw) (xs := zw) (fun i σ G => (∃ z : Option V, σ = [some (V.ref p), some (V.ref sl), some (V.ref rd), some (V.ref fl), some (V.ref sh), some (V.ref D), none, some (V.ref D2), some (V.ref D3), some (V.ref D4), none, none, some (V.ref D6), some (V.int way), z]) ∧ Same H8 G) ⟨⟨_, rfl⟩, Same.refl H8⟩ (fun i σ G _ h => SqL.of (h.2 _ _ kw)) ?_ ?_
  · rintro i x σ G hx ⟨⟨z, rfl⟩, sG⟩
    obtain ⟨l, rfl, ⟨zs, ds, kz, dz, rz, lz⟩, nlp⟩ := rw_ x (List.mem_of_getElem? hx)
    have vG := v.trans sG
    refine ⟨_, rfl, Nat.zero_le _, fun e he => ?_⟩
    have ve := same_upd (o := .lst []) he
    refine ⟨.list ds, .list [], .lst (SqL.of ((vG.trans ve) _ _ kz)) (dps_same (vG.trans ve) _ _ dz), .lst (SqL.of upd_same) .nil, dd_shaped rz, by decide, _, rfl, ?_⟩
    rw [lets_nil]
    have kzG := (vG.trans ve) _ _ kz
    have dzG := dps_same (vG.trans ve) _ _ dz
    have PG := P8.keep (sG.trans ve)
    have cG : Chg p H (upd G e (.lst [])) := fun b x nb ee => (sG.trans ve) _ _ (c08 _ _ nb ee)
    have sGe := sG.trans ve
    obtain ⟨G9, e9⟩ : ∃ G9, G9 = upd G e (.lst []) := ⟨_, rfl⟩
    rw [← e9] at kzG dzG PG cG sGe
    rw [← e9]
    clear e9
    have lz2 := dps_len dzG
    refine ite2 (fun c => ?_) (fun c => ?_)
    · have nd : ds ≠ [] := fun z => by rw [z] at c; simp at c
      have l0 : 0 < zs.length := by rw [lz2]; exact List.length_pos_iff.mpr nd
      refine ⟨_, rfl, _, rfl, _, rfl, l, _, rfl, .inl (SqL.of kzG), ?_⟩
      refine ⟨p, _, m + 1, rfl, by omega, Nat.lt_of_le_of_lt (show _ ≤ 2000000 by omega) (by decide), PG, by omega, fun c2 y2 c20 c21 P2 => ?_⟩
      have hc2 : c2.toNat < zs.length := by omega
      obtain ⟨x2, ex2⟩ : ∃ x2, zs[c2.toNat]? = some x2 := ⟨_, List.getElem?_eq_getElem hc2⟩
      have at2 : atI zs c2 = some x2 := by
        have := atI_nat ex2
        rwa [show ((c2.toNat : Nat) : Int) = c2 by omega] at this
      obtain ⟨d, hd, dx⟩ := dps_at dzG ex2
      have md := List.mem_of_getElem? hd
      obtain ⟨xq, hxq⟩ := PotAt.lst PG
      have c2' : Chg p G9 (upd G9 p (.lst y2)) := Chg.self
      have dx2 := dp_sqt (sqt_chgL hxq c2') d x2 (dd_no (rz d md)) dx
      refine ⟨l, _, _, _, rfl, rfl, SqL.of ((upd_ne nlp).trans kzG), at2, ?_⟩
      obtain ⟨ta, rfl⟩ : ∃ ta, x2 = .ref ta := by
        rcases rz d md with ⟨w, s, _, _, _, rfl⟩ | ⟨a, b, _, _, rfl⟩
        · cases dx with
          | tup h1 h2 => exact ⟨_, rfl⟩
        · cases dx with
          | tup h1 h2 => exact ⟨_, rfl⟩
      exact q2 ta d _ _ (cG.trans c2') (PotAt.at P2) (by omega) (rz d md) dx2
    · exact ⟨⟨_, rfl⟩, sGe⟩
  · rintro σ G ⟨⟨z, rfl⟩, sG⟩
    exact q1 (m + 1) G (fun b x nb e => sG _ _ (c08 _ _ nb e)) (P8.keep sG) (by omega)
end

end G0
namespace G0
open PySem PySem.Spec PyProof.Rows L2
set_option maxHeartbeats 4000000
set_option pp.deepTerms.threshold 3
section
variable {P : Program} {w : World} {K : PySem.W.Frag} {mg : Str → Option Value} {base : Heap} {C : Addr}
/-! ### told_gone, however many -/
def spToldGone31 (C : Addr) : Sp := fun vs H Q _ => ∃ (p dx : Addr) (me : Int) (st : Str) (si : Bool) (cnt : Int) (stp : V) (n : Int) (aw hl tg : Addr) (ws hs ts : List Int), vs = [.ref p] ∧ Stm H C p dx me st si cnt stp n aw hl tg ws hs ts ∧
  ∀ (us : List Int) l, us.Perm ts → us.Pairwise (· ≤ ·) → H l = none → Q (.ref l) (upd H l (.lst (us.map V.int)))
theorem ok_toldgone31 {f : Addr} {fd : FuncData} (F : Fun K "told_gone" "Stamper.told_gone" s_Stamper_told_gone f fd) (T : BlS mg) (S : StT K C) : FnOk P w K mg base CX0 1 f fd ["self"] (spToldGone31 C) := by
  refine F.ok sc_Stamper_told_gone (fun vs H Q E h => ?_) (fun cdv A outer s H vs Q E hr h => ?_)
  · obtain ⟨p, _, _, _, _, _, _, _, _, _, _, _, _, _, rfl, _⟩ := h
    rfl
  obtain ⟨p, dx, me, st, si, cnt, stp, n, aw, hl, tg, ws, hs, ts, rfl, M, q⟩ := h
  refine ⟨_, (pss_one (ps_ret (pe_callB cr_sortedI (by rfl) T.sorted (by decide +kernel) (pa_cons (pe_fld (pv 0) (by rfl)) pa_nil)))), ?_⟩
  exact ⟨_, rfl, p, C, dx, _, _, rfl, M.hp, S.cl, S.gone, stF_tgn _ _ _ _ _ _ _ _ _, tg, ts, rfl, SqL.of M.ht, fun us l p1 p2 hl => q us l p1 p2 hl⟩
theorem At31.stm {n : Int} {t : Nat} {H : Hp} {i : Int} {c : O31} (h : At31 K C n t H i c) : Stm H C c.p c.dx i c.st c.si c.cnt c.stp n c.aw c.hl c.tg c.ws c.hs c.ts := by
  have nd := h.nd
  simp only [fp31, List.nodup_cons, List.mem_cons, List.not_mem_nil, or_false, not_or] at nd
  exact ⟨h.hp, h.ha, h.hh, h.ht, nd.2.1.1, nd.2.1.2.1, nd.2.2.1.1⟩
theorem lw31 (n : Nat) (xs : List Int) (h : xs.length < 10000) : Lw (n + 1) (.list (xs.map .int)) :=
  .lst (by rw [List.length_map]; exact h) fun d hd => by
    obtain ⟨i, _, rfl⟩ := List.mem_map.mp hd
    exact .int i
/-! ### a machine stands as the model's list -/
def spStands31 (K : PySem.W.Frag) (C : Addr) : Sp := fun vs H Q _ => ∃ (n i : Int) (t : Nat) (c : O31), vs = [.ref c.p, .ref c.o, .int i] ∧ At31 K C n t H i c ∧ t < 5000 ∧ ∀ H', Same H H' → Q (.bl true) H'
theorem sc_law_stands : FnScope ["machine", "one", "me", "told"] ["machine", "one", "me"] (defScope s_law_stands) :=
  ⟨rfl, rfl, rfl, by decide +kernel, rfl, by decide +kernel, by decide +kernel⟩
theorem ok_stands31 (F : Fn K mg "_law_stands" s_law_stands) (S : StT K C) (C_same : Cal P w K mg base "_law_same" 3 ["found", "due"] (spSm K 2))
    (MA : Me P w K mg base C "awaits" 1 ["self"] (spTells C 0)) (MH : Me P w K mg base C "holds" 1 ["self"] (spTells C 1)) (MT : Me P w K mg base C "told_gone" 1 ["self"] (spToldGone31 C)) :
    Cal P w K mg base "_law_stands" 4 ["machine", "one", "me"] (spStands31 K C) := by
  obtain ⟨fA, fdA, GA, bA, mA⟩ := MA
  obtain ⟨fH, fdH, GH, bH, mH⟩ := MH
  obtain ⟨fT, fdT, GT, bT, mT⟩ := MT
  refine cal_of F sc_law_stands
    (fun _ _ _ _ _ _ us hl => match us, hl with | [_, _, _], _ => rfl) ?_ ?_
  · rintro vs H Q E ⟨_, _, _, _, rfl, _⟩
    rfl
  rintro f cdv A outer s H vs Q E free hr ⟨n, i, t, c, rfl, a, lt, q⟩
  have hr1 : Room 1 _ := hr.mono (by decide)
  refine ⟨_, (pss_cons (ps_set (i := 3) sc_law_stands.nd rfl (Or.inl rfl) (pe_lst (pa_cons (pe_fld (pv 0) (by rfl)) (pa_cons (pe_fld (pv 0) (by rfl)) (pa_cons (pe_fld (pv 0) (by rfl)) (pa_cons (pe_meth0 (pv 0) S.cl mA GA hr1 bA .nil pass0) (pa_cons (pe_meth0 (pv 0) S.cl mH GH hr1 bH .nil pass0) (pa_cons (pe_meth0 (pv 0) S.cl mT GT hr1 bT .nil pass0) pa_nil))))))))
    (pss_one (ps_ret (pe_and (pe_cal C_same free (hr.mono (by decide)) (pa_cons (pv 3) (pa_cons (pv 1) pa_nil))) (pe_one (pe_cal C_same free (hr.mono (by decide)) (pa_cons (pe_fld (pv 0) (by rfl)) (pa_cons (pv 2) pa_nil)))))))), ?_⟩
  have M := a.stm
  refine ⟨_, rfl, c.p, C, c.dx, _, _, rfl, M.hp, S.cl, S.count, stF_cnt _ _ _ _ _ _ _ _ _, ?_⟩
  refine ⟨_, rfl, c.p, C, c.dx, _, _, rfl, M.hp, S.cl, S.stamp, stF_stp _ _ _ _ _ _ _ _ _, ?_⟩
  refine ⟨_, rfl, c.p, C, c.dx, _, _, rfl, M.hp, S.cl, S.state, stF_stt _ _ _ _ _ _ _ _ _, ?_⟩
  refine ⟨_, rfl, c.p, c.dx, _, rfl, M.hp, (stF_no _ _ _ _ _ _ _ _ _ (by decide +kernel) (by decide +kernel) (by decide +kernel) (by decide +kernel) (by decide +kernel) (by decide +kernel) (by decide +kernel) (by decide +kernel) (by decide +kernel) ), c.p, c.dx, i, c.st, c.si, c.cnt, c.stp, n, c.aw, c.hl, c.tg, c.ws, c.hs, c.ts, rfl, M, fun a1 h1 => ?_⟩
  have s1 := same_upd (o := .lst (c.ws.map V.int)) h1
  have M2 := M.same s1
  refine ⟨_, rfl, c.p, c.dx, _, rfl, M2.hp, (stF_no _ _ _ _ _ _ _ _ _ (by decide +kernel) (by decide +kernel) (by decide +kernel) (by decide +kernel) (by decide +kernel) (by decide +kernel) (by decide +kernel) (by decide +kernel) (by decide +kernel) ), c.p, c.dx, i, c.st, c.si, c.cnt, c.stp, n, c.aw, c.hl, c.tg, c.ws, c.hs, c.ts, rfl, M2, fun a2 h2 => ?_⟩
  have u2 := same_upd (o := .lst (c.hs.map V.int)) h2
  have s2 := s1.trans u2
  have M3 := M.same s2
  refine ⟨_, rfl, c.p, c.dx, _, rfl, M3.hp, (stF_no _ _ _ _ _ _ _ _ _ (by decide +kernel) (by decide +kernel) (by decide +kernel) (by decide +kernel) (by decide +kernel) (by decide +kernel) (by decide +kernel) (by decide +kernel) (by decide +kernel) ), c.p, c.dx, i, c.st, c.si, c.cnt, c.stp, n, c.aw, c.hl, c.tg, c.ws, c.hs, c.ts, rfl, M3, fun us' a3 p1 p2 h3 => ?_⟩
  have eus : us' = c.us := ints_sortedE (p1.trans a.pm) p2 a.pw
  subst eus
  have u3 := same_upd (o := .lst (c.us.map V.int)) h3
  have s3 := s2.trans u3
  refine ⟨by show 6 ≤ sizeLine; decide, fun tl htl => ?_⟩
  have u4 := same_upd (o := .lst [.int c.cnt, c.stp, .str c.st, .ref a1, .ref a2, .ref a3]) htl
  have s4 := s3.trans u4
  obtain ⟨ds, ld, dp, dq⟩ : ∃ ds, Lw 1 ds ∧ Dp K H c.stp ds ∧ Dp K H c.sq ds := by
    rcases a.sm with ⟨z1, z2⟩ | ⟨ta, tb, z1, z2, q1, q2⟩
    · rw [z1, z2]
      exact ⟨.none, .non, .non, .non⟩
    · rw [z1, z2]
      exact ⟨.tuple (c.sn.map .int), .tup (by rw [List.length_map]; have := a.ls; omega) (fun d hd => by obtain ⟨i, _, rfl⟩ := List.mem_map.mp hd; exact .int i), .tup q1 (dps_ints _), .tup q2 (dps_ints _)⟩
  have lW := a.lw
  have lH := a.lh
  have lU := a.lu
  have lw2 : Lw 2 (.list [.int c.cnt, ds, .str c.st, .list (c.ws.map .int), .list (c.hs.map .int), .list (c.us.map .int)]) := by
    refine .lst (by show 6 < 10000; decide) fun d hd => ?_
    simp only [List.mem_cons, List.not_mem_nil, or_false] at hd
    rcases hd with rfl | rfl | rfl | rfl | rfl | rfl
    · exact .int _
    · exact ld
    · exact .str _
    · exact lw31 0 _ (by omega)
    · exact lw31 0 _ (by omega)
    · exact lw31 0 _ (by omega)
  have k1 := u4 _ _ (u3 _ _ (u2 _ _ (upd_same (H := H) (a := a1) (o := .lst (c.ws.map V.int)))))
  have k2 := u4 _ _ (u3 _ _ (upd_same (H := upd H a1 (.lst (c.ws.map V.int))) (a := a2) (o := .lst (c.hs.map V.int))))
  have k3 := u4 _ _ (upd_same (H := upd (upd H a1 (.lst (c.ws.map V.int))) a2 (.lst (c.hs.map V.int))) (a := a3) (o := .lst (c.us.map V.int)))
  refine ⟨_, rfl, _, rfl, _, _, _, rfl, lw2,
    .lst (SqL.of upd_same) (.cons (.int _) (.cons (dp_same s4 _ _ dp) (.cons (.str _) (.cons (.lst (SqL.of k1) (dps_ints _)) (.cons (.lst (SqL.of k2) (dps_ints _)) (.cons (.lst (SqL.of k3) (dps_ints _)) .nil)))))),
    .lst (SqL.of (s4 _ _ a.ho)) (.cons (.int _) (.cons (dp_same s4 _ _ dq) (.cons (.str _) (.cons (.lst (SqL.of (s4 _ _ a.h3)) (dps_ints _)) (.cons (.lst (SqL.of (s4 _ _ a.h4)) (dps_ints _)) (.cons (.lst (SqL.of (s4 _ _ a.h5)) (dps_ints _)) .nil)))))), fun G5 s5 => ?_⟩
  have M5 := M.same (s4.trans s5)
  refine ⟨_, rfl, iteT' rfl ?_⟩
  refine ⟨_, rfl, c.p, C, c.dx, _, _, rfl, M5.hp, S.cl, S.me, stF_me _ _ _ _ _ _ _ _ _, ?_⟩
  refine ⟨_, rfl, _, _, _, rfl, (.int _ : Lw 2 _), .int _, .int _, fun G6 s6 => ?_⟩
  exact q _ (s4.trans (s5.trans s6))
end

end G0
namespace G0
open PySem PySem.Spec PyProof.Rows L2
set_option maxHeartbeats 4000000
set_option pp.deepTerms.threshold 3
/-! ### what was told is kept -/
def LsD (d : PyData) : Prop := ∃ (w : Str) (c k : Int), (w = "ask" ∨ w = "yes") ∧ d = yesD w c k
theorem ls_no {d : PyData} (h : LsD d) : noL d = true := by
  obtain ⟨w, c, k, _, rfl⟩ := h
  rfl
structure Told (K : PySem.W.Frag) (H : Hp) (tl : Addr) (es : List (Addr × Addr × Addr)) : Prop where
  at_ : H tl = some (.lst (es.map fun e => V.ref e.1))
  few : es.length ≤ 12
  all : ∀ e ∈ es, tl ≠ e.1 ∧ tl ≠ e.2.1 ∧ tl ≠ e.2.2 ∧ H e.1 = some (.lst [.ref e.2.1, .ref e.2.2]) ∧ ∃ xs ds, H e.2.1 = some (.lst xs) ∧ H e.2.2 = some (.lst xs) ∧ DpAll K H xs ds ∧ (∀ d ∈ ds, LsD d) ∧ xs.length ≤ 1000
def InT (es : List (Addr × Addr × Addr)) (x : Addr) : Prop := ∃ e ∈ es, x = e.1 ∨ x = e.2.1 ∨ x = e.2.2
section
variable {P : Program} {w : World} {K : PySem.W.Frag} {mg : Str → Option Value} {base : Heap} {C : Addr}
theorem Told.keep {H H' : Hp} {tl : Addr} {es : List (Addr × Addr × Addr)} (T : Told K H tl es) (e : H' tl = some (.lst (es.map fun e => V.ref e.1))) (h : ∀ x, InT es x → ∀ o, H x = some o → H' x = some o) (sq : ∀ a xs, SqT K H a xs → SqT K H' a xs) : Told K H' tl es :=
  ⟨e, T.few, fun e he => by
    obtain ⟨n1, n2, n3, k1, xs, ds, k2, k3, dz, ls, lx⟩ := T.all e he
    exact ⟨n1, n2, n3, h _ ⟨e, he, .inl rfl⟩ _ k1, xs, ds, h _ ⟨e, he, .inr (.inl rfl)⟩ _ k2, h _ ⟨e, he, .inr (.inr rfl)⟩ _ k3, dps_sqt sq _ _ (noLs_of fun d hd => ls_no (ls d hd)) dz, ls, lx⟩⟩
def spKept31 (K : PySem.W.Frag) : Sp := fun vs H Q _ => ∃ (tl fo : Addr) (es : List (Addr × Addr × Addr)) (xs : List V) (ds : List PyData), vs = [.ref tl, .ref fo] ∧ Told K H tl es ∧ H fo = some (.lst xs) ∧ DpAll K H xs ds ∧ (∀ d ∈ ds, LsD d) ∧ xs.length ≤ 1000 ∧ fo ≠ tl ∧ ¬ InT es fo ∧
  ∀ es' H', ChgS [tl, fo] H H' → Told K H' tl es' → (∀ x, InT es' x → InT es x ∨ x = fo ∨ H x = none) → Q .non H'
theorem sc_law_kept : FnScope ["told", "found"] ["told", "found"] (defScope s_law_kept) :=
  ⟨rfl, rfl, rfl, by decide +kernel, rfl, by decide +kernel, by decide +kernel⟩
theorem ok_kept31 (F : Fn K mg "_law_kept" s_law_kept) (T : Bl31 mg) : Cal P w K mg base "_law_kept" 1 ["told", "found"] (spKept31 K) := by
  refine cal_of F sc_law_kept
    (fun _ _ _ _ _ _ us hl => match us, hl with | [_, _], _ => rfl) ?_ ?_
  · rintro vs H Q E ⟨_, _, _, _, _, rfl, _⟩
    rfl
  rintro f cdv A outer s H vs Q E free hr ⟨tl, fo, es, xs, ds, rfl, To, kf, dz, ls, lx, nft, nin, q⟩
  refine ⟨_, (pss_one (ps_if (pt_cmpR op_lt (pe_callB call_len_seq (by rfl) T.len (by decide +kernel) (pa_cons (pv 0) pa_nil)) pe_int (nomark _))
    (pss_one (ps_expr (pe_bm PySem.F.plainAttrs_list PySem.F.slot_list_append PySem.F.type_list_append mt_append (pv 0) (pa_cons (pe_lst (pa_cons (pv 1) (pa_cons (pe_callTy call_list_of (by rfl) T.list (by decide +kernel) (pa_cons (pv 1) pa_nil)) pa_nil))) pa_nil))))
    (pss_one (ps_expr (pe_bm PySem.F.plainAttrs_list PySem.F.slot_list_append PySem.F.type_list_append mt_append (pv 1) (pa_cons (pe_tup (pa_cons pe_int (pa_cons (pe_tup (pa_cons pe_str (pa_cons pe_int pa_nil))) pa_nil))) pa_nil)))))), ?_⟩
  refine ⟨_, rfl, tl, _, rfl, .inl (SqL.of To.at_), _, _, rfl, rfl, _, rfl, ?_⟩
  have few := To.few
  have mut1 : ∀ {H1 : Hp}, Chg fo H H1 → ∀ a zs, SqT K H a zs → SqT K H1 a zs := fun c => sqt_chgL kf c
  refine ite2 (fun c => ?_) (fun c => ?_)
  · have c12 : es.length < 12 := by
      have c := of_decide_eq_true c
      rw [List.length_map] at c
      omega
    refine ⟨_, rfl, .inl ⟨rfl, _, SqL.of To.at_⟩, ?_⟩
    refine ⟨_, rfl, _, rfl, fo, _, rfl, .inl (SqL.of kf), fun g hg => ?_⟩
    have u1 := same_upd (o := .lst xs) hg
    refine ⟨by show 2 ≤ sizeLine; decide, fun e he => ?_⟩
    have u2 := same_upd (o := .lst [.ref fo, .ref g]) he
    have u := u1.trans u2
    have kt := u _ _ To.at_
    refine ⟨tl, _, _, rfl, rfl, kt, Nat.lt_of_lt_of_le (show (es.map fun e => V.ref e.1).length < 1000 by rw [List.length_map]; omega) (by decide), ?_⟩
    have ntg : tl ≠ g := ne_of_none To.at_ hg
    have nte : tl ≠ e := ne_of_none (u1 _ _ To.at_) he
    have nge : g ≠ e := ne_of_none upd_same he
    have g0 : H g = none := hg
    have e0 : H e = none := none_same u1 he
    have nfg : fo ≠ g := ne_of_none kf hg
    have nfe : fo ≠ e := ne_of_none (u1 _ _ kf) he
    obtain ⟨G, eG⟩ : ∃ G, G = upd (upd (upd H g (.lst xs)) e (.lst [.ref fo, .ref g])) tl (.lst ((es.map fun e => V.ref e.1) ++ [.ref e])) := ⟨_, rfl⟩
    have c1 : Chg tl H G := fun b x nb ee => by rw [eG, upd_ne nb]; exact u _ _ ee
    have sq := sqt_chgL (K := K) To.at_ c1
    have kG : G tl = some (.lst ((es ++ [(e, fo, g)]).map fun e => V.ref e.1)) := by rw [eG, List.map_append]; exact upd_same
    have ke : G e = some (.lst [.ref fo, .ref g]) := by rw [eG, upd_ne nte.symm]; exact upd_same
    have kg : G g = some (.lst xs) := by rw [eG, upd_ne ntg.symm]; exact u2 _ _ upd_same
    have kfG : G fo = some (.lst xs) := c1 _ _ nft kf
    refine q (es ++ [(e, fo, g)]) _ (fun b x nb ee => c1 b x (fun z => nb (by rw [z]; simp)) ee |> fun z => by rw [eG] at z; exact z) ?_ ?_
    · show Told K (upd (upd (upd H g (.lst xs)) e (.lst [.ref fo, .ref g])) tl (.lst ((es.map fun e => V.ref e.1) ++ [.ref e]))) tl _
      rw [← eG]
      refine ⟨kG, by rw [List.length_append, List.length_singleton]; omega, fun e' he' => ?_⟩
      rcases List.mem_append.mp he' with z | z
      · obtain ⟨n1, n2, n3, k1, ys, ds', k2, k3, dz', ls', lx'⟩ := To.all e' z
        exact ⟨n1, n2, n3, c1 _ _ n1.symm k1, ys, ds', c1 _ _ n2.symm k2, c1 _ _ n3.symm k3, dps_sqt sq _ _ (noLs_of fun d hd => ls_no (ls' d hd)) dz', ls', lx'⟩
      · cases List.mem_singleton.mp z
        exact ⟨nte, nft.symm, ntg, ke, xs, ds, kfG, kg, dps_sqt sq _ _ (noLs_of fun d hd => ls_no (ls d hd)) dz, ls, lx⟩
    · rintro x ⟨e', he', hx⟩
      rcases List.mem_append.mp he' with z | z
      · exact .inl ⟨e', z, hx⟩
      · cases List.mem_singleton.mp z
        rcases hx with rfl | rfl | rfl
        · exact .inr (.inr e0)
        · exact .inr (.inl rfl)
        · exact .inr (.inr g0)
  · refine ⟨_, rfl, .inl ⟨rfl, _, SqL.of kf⟩, ?_⟩
    refine ⟨by show 2 ≤ sizeLine; decide, fun t1 ht1 => ?_⟩
    have u1 := same_upd (o := .tup [.str "ask", .int 0]) ht1
    refine ⟨by show 2 ≤ sizeLine; decide, fun t2 ht2 => ?_⟩
    have u2 := same_upd (o := .tup [.int 0, .ref t1]) ht2
    have u := u1.trans u2
    have kf2 := u _ _ kf
    refine ⟨fo, _, _, rfl, rfl, kf2, Nat.lt_of_lt_of_le (show xs.length < 2000 by omega) (by decide), ?_⟩
    obtain ⟨G, eG⟩ : ∃ G, G = upd (upd (upd H t1 (.tup [.str "ask", .int 0])) t2 (.tup [.int 0, .ref t1])) fo (.lst (xs ++ [.ref t2])) := ⟨_, rfl⟩
    have c1 : Chg fo H G := fun b x nb ee => by rw [eG, upd_ne nb]; exact u _ _ ee
    have To2 : Told K G tl es := To.keep (c1 _ _ nft.symm To.at_) (fun x hx o ee => c1 _ _ (fun z => nin (by rw [← z]; exact hx)) ee) (sqt_chgL kf c1)
    refine q es _ (fun b x nb ee => c1 b x (fun z => nb (by rw [z]; simp)) ee |> fun z => by rw [eG] at z; exact z) (by rw [eG] at To2; exact To2) fun x hx => .inl hx
end

end G0
namespace G0
open PySem PySem.Spec PyProof.Rows L2
set_option maxHeartbeats 4000000
set_option pp.deepTerms.threshold 3
section
variable {P : Program} {w : World} {K : PySem.W.Frag} {mg : Str → Option Value} {base : Heap} {C : Addr}
/-! ### how many seats -/
def spSeats31 : Sp := fun vs H Q _ => ∃ (p : Addr) (m : Nat), vs = [.ref p] ∧ PotAt m H p ∧ m < 900000000 ∧
  ∀ (n : Int) (ys : List V) (H' : Hp), 1 ≤ n → n ≤ 60 → Chg p H H' → PotAt (m + 5) H' p → Q (.int n) H'
theorem sc_law_seats : FnScope ["pot", "way"] ["pot"] (defScope s_law_seats) :=
  ⟨rfl, rfl, rfl, by decide +kernel, rfl, by decide +kernel, by decide +kernel⟩
theorem ok_seats31 (F : Fn K mg "_law_seats" s_law_seats) (C_draw : Cal P w K mg base "_law_draw" 1 ["pot", "many"] spDraw) : Cal P w K mg base "_law_seats" 2 ["pot"] spSeats31 := by
  refine cal_of F sc_law_seats
    (fun _ _ _ _ _ _ us hl => match us, hl with | [_], _ => rfl) ?_ ?_
  · rintro vs H Q E ⟨_, _, rfl, _⟩
    rfl
  rintro f cdv A outer s H vs Q E free hr ⟨p, m, rfl, hP, hm, q⟩
  refine ⟨_, (pss_cons (ps_set (i := 1) sc_law_seats.nd rfl (Or.inl rfl) (pe_cal C_draw free (hr.mono (by decide)) (pa_cons (pv 0) (pa_cons pe_int pa_nil))))
    (pss_one (ps_ret (pe_ix ix_list (pe_lst (pa_cons (pe_op op_add pe_int (pe_cal C_draw free (hr.mono (by decide)) (pa_cons (pv 0) (pa_cons pe_int pa_nil)))) (pa_cons (pe_op op_add pe_int (pe_cal C_draw free (hr.mono (by decide)) (pa_cons (pv 0) (pa_cons pe_int pa_nil)))) (pa_cons (pe_op op_add pe_int (pe_cal C_draw free (hr.mono (by decide)) (pa_cons (pv 0) (pa_cons pe_int pa_nil)))) (pa_cons (pe_op op_add pe_int (pe_cal C_draw free (hr.mono (by decide)) (pa_cons (pv 0) (pa_cons pe_int pa_nil)))) pa_nil))))) (pv 1) (fun _ _ => rfl))))), ?_⟩
  refine ⟨_, rfl, p, 4, m, rfl, by decide, by decide, hP, by omega, fun d0 y0 d00 d01 P1 => ?_⟩
  have c1 : Chg p H (upd H p (.lst y0)) := Chg.self
  refine ⟨_, rfl, p, 5, m + 1, rfl, by decide, by decide, PotAt.at P1, by omega, fun d1 y1 d10 d11 P2 => ?_⟩
  refine ⟨_, _, rfl, rfl, ?_⟩
  refine ⟨_, rfl, p, 3, m + 2, rfl, by decide, by decide, PotAt.at P2, by omega, fun d2 y2 d20 d21 P3 => ?_⟩
  refine ⟨_, _, rfl, rfl, ?_⟩
  refine ⟨_, rfl, p, 8, m + 3, rfl, by decide, by decide, PotAt.at P3, by omega, fun d3 y3 d30 d31 P4 => ?_⟩
  refine ⟨_, _, rfl, rfl, ?_⟩
  refine ⟨_, rfl, p, 60, m + 4, rfl, by decide, by decide, PotAt.at P4, by omega, fun d4 y4 d40 d41 P5 => ?_⟩
  refine ⟨_, _, rfl, rfl, ?_⟩
  have Pn : PotAt (m + 5) (upd (upd (upd (upd (upd H p (.lst y0)) p (.lst y1)) p (.lst y2)) p (.lst y3)) p (.lst y4)) p := PotAt.at P5
  have cn : Chg p H (upd (upd (upd (upd (upd H p (.lst y0)) p (.lst y1)) p (.lst y2)) p (.lst y3)) p (.lst y4)) := fun b x nb e => by
    rw [upd_ne nb, upd_ne nb, upd_ne nb, upd_ne nb, upd_ne nb]; exact e
  obtain ⟨G, eG⟩ : ∃ G, G = upd (upd (upd (upd (upd H p (.lst y0)) p (.lst y1)) p (.lst y2)) p (.lst y3)) p (.lst y4) := ⟨_, rfl⟩
  rw [← eG] at Pn cn
  refine ⟨by show 4 ≤ sizeLine; decide, fun l hl => ?_⟩
  have u := same_upd (o := .lst [.int (1 + d1), .int (2 + d2), .int (2 + d3), .int (1 + d4)]) hl
  rw [← eG] at hl u
  have fin : ∀ n : Int, 1 ≤ n → n ≤ 60 → Q (.int n) (upd G l (.lst [.int (1 + d1), .int (2 + d2), .int (2 + d3), .int (1 + d4)])) := fun n a b =>
    q n [] _ a b (fun b x nb e => u _ _ (cn _ _ nb e)) (Pn.keep u)
  obtain ⟨x, hx, x0, x1⟩ : ∃ x : Int, atI [V.int (1 + d1), .int (2 + d2), .int (2 + d3), .int (1 + d4)] d0 = some (.int x) ∧ 1 ≤ x ∧ x ≤ 60 := by
    have : d0 = 0 ∨ d0 = 1 ∨ d0 = 2 ∨ d0 = 3 := by omega
    rcases this with rfl | rfl | rfl | rfl
    · exact ⟨_, rfl, by omega, by omega⟩
    · exact ⟨_, rfl, by omega, by omega⟩
    · exact ⟨_, rfl, by omega, by omega⟩
    · exact ⟨_, rfl, by omega, by omega⟩
  refine ⟨_, rfl, l, _, _, _, rfl, rfl, SqL.of upd_same, hx, ?_⟩
  rw [← eG]
  exact fin x x0 x1
end

end G0
namespace G0
open PySem PySem.Spec PyProof.Rows L2
set_option maxHeartbeats 4000000
set_option pp.deepTerms.threshold 3
section
variable {P : Program} {w : World} {K : PySem.W.Frag} {mg : Str → Option Value} {base : Heap} {C : Addr}
/-! ### first counts -/
def spFirsts31 : Sp := fun vs H Q _ => ∃ (p : Addr) (m : Nat) (n : Int), vs = [.ref p, .int n] ∧ PotAt m H p ∧ m < 900000000 ∧ 1 ≤ n ∧ n ≤ 60 ∧
  ∀ (l : Addr) (cs : List Int) (H' : Hp), H l = none → Chg p H H' → PotAt (m + 70) H' p → H' l = some (.lst (cs.map V.int)) → cs.length ≤ n.toNat → (∀ c ∈ cs, 0 ≤ c ∧ c < 10 ^ 40) → Q (.ref l) H'
theorem sc_law_firsts : FnScope ["pot", "seats", "top", "k"] ["pot", "seats"] (defScope s_law_firsts) :=
  ⟨rfl, rfl, rfl, by decide +kernel, rfl, by decide +kernel, by decide +kernel⟩
theorem ok_firsts31 (F : Fn K mg "_law_firsts" s_law_firsts) (T : Bl31 mg) (C_draw : Cal P w K mg base "_law_draw" 1 ["pot", "many"] spDraw) : Cal P w K mg base "_law_firsts" 2 ["pot", "seats"] spFirsts31 := by
  refine cal_of F sc_law_firsts
    (fun _ _ _ _ _ _ us hl => match us, hl with | [_, _], _ => rfl) ?_ ?_
  · rintro vs H Q E ⟨_, _, _, rfl, _⟩
    rfl
  rintro f cdv A outer s H vs Q E free hr ⟨p, m, n, rfl, hP, hm, n1, n60, q⟩
  refine ⟨_, (pss_cons (ps_set (i := 2) sc_law_firsts.nd rfl (Or.inr rfl) (pe_ix ix_list (pe_lst (pa_cons pe_int (pa_cons pe_int (pa_cons (pe_op op_pow pe_int pe_int) (pa_cons (pe_op op_pow pe_int pe_int) pa_nil))))) (pe_cal C_draw free (hr.mono (by decide)) (pa_cons (pv 0) (pa_cons pe_int pa_nil))) (fun _ _ => rfl)))
    (pss_one (ps_ret (pe_lc (own := [("k", 3)]) (g := gName 3) (tt := tYes) (by rfl) sc_law_firsts.nd (pi_range1 (by rfl) T.range (pa_cons (pe_ix ix_list (pe_lst (pa_cons pe_int (pa_cons (pe_cal C_draw free (hr.mono (by decide)) (pa_cons (pv 0) (pa_cons (pe_op op_add (pv 1) pe_int) pa_nil))) (pa_cons (pv 1) pa_nil)))) (pe_cal C_draw free (hr.mono (by decide)) (pa_cons (pv 0) (pa_cons pe_int pa_nil))) (fun _ _ => rfl)) pa_nil)) (blkOk_by (N := ["pot", "seats", "top", "k"]) (sc := defScope s_law_firsts) (by decide +kernel)) (fun _ _ _ _ _ => pg_name (i := 3) sc_law_firsts.nd rfl (Or.inl rfl)) (fun _ _ _ _ _ => pts_nil) (fun _ _ _ _ _ => (pe_cal C_draw free (hr.mono (by decide)) (pa_cons (pv 0) (pa_cons (pv 2) pa_nil)))))))), ?_⟩
  refine ⟨_, _, rfl, rfl, ⟨by decide, by decide, by decide⟩, ?_⟩
  refine ⟨_, _, rfl, rfl, ⟨by decide, by decide, by decide⟩, ?_⟩
  refine ⟨by show 4 ≤ sizeLine; decide, fun t1 ht1 => ?_⟩
  have s1 := same_upd (o := .lst [.int 1, .int 4, .int (10 ^ (Int.toNat 9)), .int (10 ^ (Int.toNat 40))]) ht1
  have P0 := hP.keep s1
  refine ⟨_, rfl, p, 4, m, rfl, by decide, by decide, P0, by omega, fun d0 y0 d00 d01 P1 => ?_⟩
  have np1 : t1 ≠ p := fun z => by
    obtain ⟨xp, hp⟩ := PotAt.lst hP
    rw [z, hp] at ht1
    cases ht1
  obtain ⟨x, hx, x0, x1⟩ : ∃ x : Int, atI [V.int 1, .int 4, .int (10 ^ (Int.toNat 9)), .int (10 ^ (Int.toNat 40))] d0 = some (.int x) ∧ 0 < x ∧ x ≤ 10 ^ 40 := by
    have : d0 = 0 ∨ d0 = 1 ∨ d0 = 2 ∨ d0 = 3 := by omega
    rcases this with rfl | rfl | rfl | rfl
    · exact ⟨_, rfl, by decide, by decide⟩
    · exact ⟨_, rfl, by decide, by decide⟩
    · exact ⟨_, rfl, by decide, by decide⟩
    · exact ⟨_, rfl, by decide, by decide⟩
  refine ⟨t1, _, _, _, rfl, rfl, SqL.of ((upd_ne np1).trans upd_same), hx, ?_⟩
  have c1 : Chg p H (upd (upd H t1 (.lst [.int 1, .int 4, .int (10 ^ (Int.toNat 9)), .int (10 ^ (Int.toNat 40))])) p (.lst y0)) := fun b z nb e => (upd_ne nb).trans (s1 _ _ e)
  have P1' := PotAt.at (H := upd H t1 (.lst [.int 1, .int 4, .int (10 ^ (Int.toNat 9)), .int (10 ^ (Int.toNat 40))])) (p := p) P1
  obtain ⟨G1, e1⟩ : ∃ G1, G1 = upd (upd H t1 (.lst [.int 1, .int 4, .int (10 ^ (Int.toNat 9)), .int (10 ^ (Int.toNat 40))])) p (.lst y0) := ⟨_, rfl⟩
  rw [← e1] at c1 P1'
  rw [← e1]
  clear e1
  refine ⟨_, rfl, _, rfl, _, _, rfl, rfl, p, n + 1, m + 1, rfl, by omega, Nat.lt_of_le_of_lt (show _ ≤ 100 by omega) (by decide), P1', by omega, fun d1 y1 d10 d11 P2 => ?_⟩
  have c2 : Chg p H (upd G1 p (.lst y1)) := fun b z nb e => (upd_ne nb).trans (c1 _ _ nb e)
  have P2' := PotAt.at (H := G1) (p := p) P2
  obtain ⟨G2, e2⟩ : ∃ G2, G2 = upd G1 p (.lst y1) := ⟨_, rfl⟩
  rw [← e2] at c2 P2'
  rw [← e2]
  clear e2
  refine ⟨_, rfl, by show 3 ≤ sizeLine; decide, fun t2 ht2 => ?_⟩
  have s3 := same_upd (o := .lst [.int 0, .int d1, .int n]) ht2
  refine ⟨_, rfl, p, 3, m + 2, rfl, by decide, by decide, P2'.keep s3, by omega, fun d2 y2 d20 d21 P3 => ?_⟩
  have np2 : t2 ≠ p := fun z => by
    obtain ⟨xp, hp⟩ := PotAt.lst P2'
    rw [z, hp] at ht2
    cases ht2
  obtain ⟨k, hk, k0, k1⟩ : ∃ k : Int, atI [V.int 0, .int d1, .int n] d2 = some (.int k) ∧ 0 ≤ k ∧ k ≤ n := by
    have : d2 = 0 ∨ d2 = 1 ∨ d2 = 2 := by omega
    rcases this with rfl | rfl | rfl
    · exact ⟨_, rfl, by omega, by omega⟩
    · exact ⟨_, rfl, by omega, by omega⟩
    · exact ⟨_, rfl, by omega, by omega⟩
  have c3 : Chg p H (upd (upd G2 t2 (.lst [.int 0, .int d1, .int n])) p (.lst y2)) := fun b z nb e => (upd_ne nb).trans (s3 _ _ (c2 _ _ nb e))
  have P3' := PotAt.at (H := upd G2 t2 (.lst [.int 0, .int d1, .int n])) (p := p) P3
  refine ⟨t2, _, _, _, rfl, rfl, SqL.of ((upd_ne np2).trans upd_same), hk, ?_⟩
  obtain ⟨G3, e3⟩ : ∃ G3, G3 = upd (upd G2 t2 (.lst [.int 0, .int d1, .int n])) p (.lst y2) := ⟨_, rfl⟩
  rw [← e3] at c3 P3'
  rw [← e3]
  clear e3
  refine ⟨k, rfl, by omega, by omega, fun D hD => ?_⟩
  have nD : D ≠ p := fun z => by
    obtain ⟨xp, hp⟩ := PotAt.lst P3'
    rw [z, hp] at hD
    cases hD
  refine lc_range (lo := 0) (n := _) (fun i G => (∀ x o, x ≠ p → G3 x = some o → G x = some o) ∧ PotAt (m + 3 + i) G p ∧ ∃ cs : List Int, cs.length = i ∧ G D = some (.lst (cs.map V.int)) ∧ ∀ c ∈ cs, 0 ≤ c ∧ c < 10 ^ 40) ⟨fun b x _ e => same_upd hD b x e, P3'.keep (same_upd hD), [], rfl, upd_same, fun _ h => nomatch h⟩ ?_ ?_
  · rintro i G hi ⟨cG, PG, cs, lcs, kD, rg⟩
    have hi' : i < k.toNat := by omega
    refine ⟨rfl, lc_yes ?_⟩
    refine ⟨_, rfl, _, rfl, p, x, m + 3 + i, rfl, x0, ?_, PG, by omega, fun d ys da db P4 => ?_⟩
    · have : x.natAbs ≤ 10 ^ 40 := by omega
      exact Nat.lt_of_le_of_lt this (by decide)
    refine ⟨_, (upd_ne nD).trans kD, ?_, fun b o nb e => ?_, ?_, cs ++ [d], by rw [List.length_append, lcs]; rfl, by rw [List.map_append]; exact upd_same, ?_⟩
    · rw [List.length_map, lcs]
      exact Nat.lt_of_lt_of_le (show i < 100 by omega) (by decide)
    · rw [upd_ne (ne_of_none e hD), upd_ne nb]
      exact cG _ _ nb e
    · have := PotAt.at (H := G) (p := p) P4
      exact this.ne nD.symm rfl
    · intro c hc
      rcases List.mem_append.mp hc with z | z
      · exact rg c z
      · cases List.mem_singleton.mp z
        exact ⟨da, by omega⟩
  · rintro G ⟨cG, PG, cs, lcs, kD, rg⟩
    have D0 : H D = none := by
      cases z : H D with
      | none => rfl
      | some y => rw [c3 _ _ nD z] at hD; cases hD
    exact q D cs G D0 (fun b y nb e => cG _ _ nb (c3 _ _ nb e)) (by
      obtain ⟨ys, h1, h2⟩ := PG
      exact ⟨ys, h1, h2.mono (by omega)⟩) kD (by omega) rg
end

end G0
namespace G0
open PySem PySem.Spec PyProof.Rows L2
set_option maxHeartbeats 4000000
set_option pp.deepTerms.threshold 3
/-! ### all that stands between two deeds -/
def rows31 (cs : List O31) (x : Addr) : Prop := ∃ c ∈ cs, x ∈ fp31 c
def road31 (rd : Addr) (kvs : List (List L2.Key × V)) (x : Addr) : Prop := x = rd ∨ ∃ e ∈ kvs, e.2 = .ref x
def told31 (tl : Addr) (es : List (Addr × Addr × Addr)) (x : Addr) : Prop := x = tl ∨ InT es x
structure W31 (K : PySem.W.Frag) (C : Addr) (n : Int) (t T : Nat) (H : Hp) (rd fl tl : Addr) (cs : List O31) (kvs : List (List L2.Key × V)) (fs : List Int) (es : List (Addr × Addr × Addr)) : Prop where
  row : RowR (At31 K C n t) fp31 H cs
  len : cs.length = n.toNat
  R : Rd31 K n T H rd kvs
  hf : H fl = some (.lst (fs.map V.int))
  lf : fs.length ≤ t
  To : Told K H tl es
  d1 : ∀ x, rows31 cs x → ¬ road31 rd kvs x ∧ x ≠ fl ∧ ¬ told31 tl es x
  d2 : ∀ x, road31 rd kvs x → x ≠ fl ∧ ¬ told31 tl es x
  d3 : ¬ told31 tl es fl
def Out31 (rd fl tl : Addr) (cs : List O31) (kvs : List (List L2.Key × V)) (es : List (Addr × Addr × Addr)) (x : Addr) : Prop := ¬ rows31 cs x ∧ ¬ road31 rd kvs x ∧ x ≠ fl ∧ ¬ told31 tl es x
section
variable {K : PySem.W.Frag} {C : Addr} {n : Int} {t T : Nat} {H H' : Hp} {rd fl tl : Addr} {cs cs' : List O31} {kvs kvs' : List (List L2.Key × V)} {fs : List Int} {es es' : List (Addr × Addr × Addr)}
theorem W31.at_row (W : W31 K C n t T H rd fl tl cs kvs fs es) {x : Addr} (h : rows31 cs x) : ∃ o, H x = some o := by
  obtain ⟨c, m, hx⟩ := h
  exact mutW_al (W.row.mut obj31 c m x hx)
theorem W31.at_road (W : W31 K C n t T H rd fl tl cs kvs fs es) {x : Addr} (h : road31 rd kvs x) : ∃ o, H x = some o := by
  rcases h with rfl | ⟨e, m, hx⟩
  · exact ⟨_, W.R.at_⟩
  · obtain ⟨a', b', la', zs, e', _, _, _, _, _, kk2, _⟩ := W.R.all e m
    rw [e'] at hx
    cases hx
    exact ⟨_, kk2⟩
theorem W31.at_told (W : W31 K C n t T H rd fl tl cs kvs fs es) {x : Addr} (h : told31 tl es x) : ∃ o, H x = some o := by
  rcases h with rfl | ⟨e, m, hx⟩
  · exact ⟨_, W.To.at_⟩
  · obtain ⟨_, _, _, h1, xs, ds, h2, h3, _⟩ := W.To.all e m
    rcases hx with rfl | rfl | rfl
    · exact ⟨_, h1⟩
    · exact ⟨_, h2⟩
    · exact ⟨_, h3⟩
theorem W31.free (W : W31 K C n t T H rd fl tl cs kvs fs es) {x : Addr} (h : H x = none) : Out31 rd fl tl cs kvs es x := by
  have no : ¬ ∃ o, H x = some o := fun ⟨o, z⟩ => by rw [h] at z; cases z
  exact ⟨fun z => no (W.at_row z), fun z => no (W.at_road z), fun z => no ⟨_, z ▸ W.hf⟩, fun z => no (W.at_told z)⟩
def St31 (rd fl tl : Addr) (H : Hp) (cs : List O31) (kvs : List (List L2.Key × V)) (es : List (Addr × Addr × Addr)) (H' : Hp) (cs' : List O31) (kvs' : List (List L2.Key × V)) (es' : List (Addr × Addr × Addr)) : Prop :=
  ∀ x o, H x = some o → Out31 rd fl tl cs kvs es x → H' x = some o ∧ Out31 rd fl tl cs' kvs' es' x
theorem St31.trans {H1 : Hp} {cs1 : List O31} {kvs1 : List (List L2.Key × V)} {es1 : List (Addr × Addr × Addr)} (a : St31 rd fl tl H cs kvs es H1 cs1 kvs1 es1) (b : St31 rd fl tl H1 cs1 kvs1 es1 H' cs' kvs' es') : St31 rd fl tl H cs kvs es H' cs' kvs' es' :=
  fun x o e n => b x o (a x o e n).1 (a x o e n).2
theorem W31.same (W : W31 K C n t T H rd fl tl cs kvs fs es) (s : Same H H') : W31 K C n t T H' rd fl tl cs kvs fs es :=
  { W with row := W.row.same obj31 s, R := W.R.same s, hf := s _ _ W.hf, To := W.To.keep (s _ _ W.To.at_) (fun x _ o e => s _ _ e) fun _ _ q => sqt_same s q }
theorem St31.of (s : Same H H') : St31 rd fl tl H cs kvs es H' cs kvs es := fun x o e n => ⟨s _ _ e, n⟩
theorem rows_set {c c' : O31} {i : Nat} (hi : cs[i]? = some c) (nw : ∀ x ∈ fp31 c', x ∈ fp31 c ∨ H x = none) {x : Addr} (h : rows31 (cs.set i c') x) : rows31 cs x ∨ H x = none := by
  obtain ⟨d, m, hx⟩ := h
  rcases List.mem_or_eq_of_mem_set m with z | z
  · exact .inl ⟨d, z, hx⟩
  · rw [z] at hx
    exact (nw x hx).imp (fun h => ⟨c, List.mem_of_getElem? hi, h⟩) id
/-- one seat's machine and list change -/
theorem W31.seat (W : W31 K C n t T H rd fl tl cs kvs fs es) {i : Nat} {c c' : O31} (hi : cs[i]? = some c) (ch : ChgS (fp31 c) H H') (hc : At31 K C n (t + 1) H' (i : Int) c') (nw : ∀ x ∈ fp31 c', x ∈ fp31 c ∨ H x = none) :
    W31 K C n (t + 1) T H' rd fl tl (cs.set i c') kvs fs es ∧ St31 rd fl tl H cs kvs es H' (cs.set i c') kvs es := by
  obtain ⟨r, s⟩ := (row_mono W.row).set obj31 hi ch hc nw
  have mi : ∀ {x}, x ∈ fp31 c → rows31 cs x := fun {x} h => ⟨c, List.mem_of_getElem? hi, h⟩
  have sq : ∀ a xs, SqT K H a xs → SqT K H' a xs := sqt_chgW ch fun x hx => W.row.mut obj31 c (List.mem_of_getElem? hi) x hx
  refine ⟨{ W with
    row := r
    len := by rw [List.length_set]; exact W.len
    R := W.R.keep (ch _ _ (fun z => (W.d1 _ (mi z)).1 (.inl rfl)) W.R.at_) (fun e he la o e1 e2 => ch _ _ (fun z => (W.d1 _ (mi z)).1 (.inr ⟨e, he, e1⟩)) e2) sq
    hf := ch _ _ (fun z => (W.d1 _ (mi z)).2.1 rfl) W.hf
    lf := Nat.le_succ_of_le W.lf
    To := W.To.keep (ch _ _ (fun z => (W.d1 _ (mi z)).2.2 (.inl rfl)) W.To.at_) (fun x hx o e => ch _ _ (fun z => (W.d1 _ (mi z)).2.2 (.inr hx)) e) sq
    d1 := fun x hx => by
      rcases rows_set hi nw hx with z | z
      · exact W.d1 x z
      · exact (W.free z).2 }, fun x o e n => ?_⟩
  have out : ∀ c ∈ cs, x ∉ fp31 c := fun c hc hx => n.1 ⟨c, hc, hx⟩
  obtain ⟨e2, n2⟩ := s x o e out
  exact ⟨e2, fun ⟨d, hd, hx⟩ => n2 d hd hx, n.2⟩
theorem W31.mono (W : W31 K C n t T H rd fl tl cs kvs fs es) : W31 K C n (t + 1) T H rd fl tl cs kvs fs es := { W with row := row_mono W.row, lf := Nat.le_succ_of_le W.lf }
theorem W31.monoT {T' : Nat} (W : W31 K C n t T H rd fl tl cs kvs fs es) (h : T ≤ T') : W31 K C n t T' H rd fl tl cs kvs fs es := { W with R := W.R.mono h }
/-- roads change -/
theorem W31.roads {T' : Nat} (W : W31 K C n t T H rd fl tl cs kvs fs es) (c : Chg rd H H') (N : NewR H kvs kvs') (R : Rd31 K n T' H' rd kvs') :
    W31 K C n t T' H' rd fl tl cs kvs' fs es ∧ St31 rd fl tl H cs kvs es H' cs kvs' es := by
  have nw : ∀ x, road31 rd kvs' x → road31 rd kvs x ∨ H x = none := fun x h => by
    rcases h with rfl | ⟨e, m, hx⟩
    · exact .inl (.inl rfl)
    · rcases N e m with ⟨e0, m0, z⟩ | ⟨la, z, n⟩
      · exact .inl (.inr ⟨e0, m0, by rw [← z]; exact hx⟩)
      · rw [hx] at z
        cases z
        exact .inr n
  have nrd : ∀ {x}, rows31 cs x → x ≠ rd := fun {x} h z => (W.d1 x h).1 (.inl z)
  have trd : ∀ {x}, told31 tl es x → x ≠ rd := fun {x} h z => (W.d2 x (.inl z)).2 h
  have sq := sqt_chgT (K := K) W.R.at_ c
  refine ⟨{ W with
    row := ⟨fun i d e => obj31.keep (W.row.all i d e) (fun x hx o ee => c _ _ (nrd ⟨d, List.mem_of_getElem? e, hx⟩) ee) sq, W.row.dj⟩
    R := R
    hf := c _ _ (fun z => (W.d2 _ (.inl rfl)).1 z.symm) W.hf
    To := W.To.keep (c _ _ (trd (.inl rfl)) W.To.at_) (fun x hx o e => c _ _ (trd (.inr hx)) e) sq
    d1 := fun x hx => ⟨fun z => by
      rcases nw x z with z | z
      · exact (W.d1 x hx).1 z
      · exact (W.free z).1 hx, (W.d1 x hx).2⟩
    d2 := fun x hx => by
      rcases nw x hx with z | z
      · exact W.d2 x z
      · exact (W.free z).2.2 }, fun x o e n => ⟨c _ _ (fun z => n.2.1 (.inl z)) e, n.1, fun z => ?_, n.2.2⟩⟩
  rcases nw x z with z | z
  · exact n.2.1 z
  · rw [e] at z; cases z
theorem mutL_sqt {S : List Addr} (h : ∀ x ∈ S, ∃ xs, H x = some (.lst xs)) (c : ChgS S H H') : ∀ a xs, SqT K H a xs → SqT K H' a xs := sqt_chgW c fun x hx => .inl (h x hx)
/-- what was told is kept; fo stands outside -/
theorem W31.keeps (W : W31 K C n t T H rd fl tl cs kvs fs es) {fo : Addr} {xs : List V} (of : Out31 rd fl tl cs kvs es fo) (hfo : H fo = some (.lst xs)) (c : ChgS [tl, fo] H H') (To : Told K H' tl es') (nw : ∀ x, InT es' x → InT es x ∨ x = fo ∨ H x = none) :
    W31 K C n t T H' rd fl tl cs kvs fs es' ∧ ∀ x o, H x = some o → x ≠ fo → Out31 rd fl tl cs kvs es x → H' x = some o ∧ Out31 rd fl tl cs kvs es' x := by
  have go : ∀ {x o}, x ≠ tl → x ≠ fo → H x = some o → H' x = some o := fun {x o} a b e => c _ _ (by simp only [List.mem_cons, List.not_mem_nil, or_false, not_or]; exact ⟨a, b⟩) e
  have sq : ∀ a xs, SqT K H a xs → SqT K H' a xs := mutL_sqt (fun x hx => by
    simp only [List.mem_cons, List.not_mem_nil, or_false] at hx
    rcases hx with rfl | rfl
    · exact ⟨_, W.To.at_⟩
    · exact ⟨_, hfo⟩) c
  have r1 : ∀ {x}, rows31 cs x → x ≠ tl ∧ x ≠ fo := fun {x} h => ⟨fun z => (W.d1 x h).2.2 (.inl z), fun z => of.1 (z ▸ h)⟩
  have r2 : ∀ {x}, road31 rd kvs x → x ≠ tl ∧ x ≠ fo := fun {x} h => ⟨fun z => (W.d2 x h).2 (.inl z), fun z => of.2.1 (z ▸ h)⟩
  have tn : ∀ x, told31 tl es' x → told31 tl es x ∨ x = fo ∨ H x = none := fun x h => by
    rcases h with z | z
    · exact .inl (.inl z)
    · exact (nw x z).imp .inr id
  refine ⟨{ W with
    row := ⟨fun i d e => obj31.keep (W.row.all i d e) (fun x hx o ee => have z := r1 ⟨d, List.mem_of_getElem? e, hx⟩; go z.1 z.2 ee) sq, W.row.dj⟩
    R := W.R.keep (go (r2 (.inl rfl)).1 (r2 (.inl rfl)).2 W.R.at_) (fun e he la o e1 e2 => have z := r2 (.inr ⟨e, he, e1⟩); go z.1 z.2 e2) sq
    hf := go (fun z => W.d3 (.inl z)) (fun z => of.2.2.1 z.symm) W.hf
    To := To
    d1 := fun x hx => ⟨(W.d1 x hx).1, (W.d1 x hx).2.1, fun z => by
      rcases tn x z with z | z | z
      · exact (W.d1 x hx).2.2 z
      · exact (r1 hx).2 z
      · exact (W.free z).1 hx⟩
    d2 := fun x hx => ⟨(W.d2 x hx).1, fun z => by
      rcases tn x z with z | z | z
      · exact (W.d2 x hx).2 z
      · exact (r2 hx).2 z
      · exact (W.free z).2.1 hx⟩
    d3 := fun z => by
      rcases tn _ z with z | z | z
      · exact W.d3 z
      · exact of.2.2.1 z.symm
      · rw [W.hf] at z; cases z }, fun x o e nf n => ⟨go (fun z => n.2.2.2 (.inl z)) nf e, n.1, n.2.1, n.2.2.1, fun z => ?_⟩⟩
  rcases tn _ z with z | z | z
  · exact n.2.2.2 z
  · exact nf z
  · rw [e] at z; cases z
/-- a seat falls -/
theorem W31.falls {T' : Nat} {fs' : List Int} (W : W31 K C n t T H rd fl tl cs kvs fs es) (c : ChgS [rd, fl] H H') (N : NewR H kvs kvs') (hf : H' fl = some (.lst (fs'.map V.int))) (lf : fs'.length ≤ t) (R : Rd31 K n T' H' rd kvs') :
    W31 K C n t T' H' rd fl tl cs kvs' fs' es ∧ St31 rd fl tl H cs kvs es H' cs kvs' es := by
  have nw : ∀ x, road31 rd kvs' x → road31 rd kvs x ∨ H x = none := fun x h => by
    rcases h with rfl | ⟨e, m, hx⟩
    · exact .inl (.inl rfl)
    · rcases N e m with ⟨e0, m0, z⟩ | ⟨la, z, n⟩
      · exact .inl (.inr ⟨e0, m0, by rw [← z]; exact hx⟩)
      · rw [hx] at z
        cases z
        exact .inr n
  have go : ∀ {x o}, x ≠ rd → x ≠ fl → H x = some o → H' x = some o := fun {x o} a b e => c _ _ (by simp only [List.mem_cons, List.not_mem_nil, or_false, not_or]; exact ⟨a, b⟩) e
  have nrd : ∀ {x}, rows31 cs x → x ≠ rd := fun {x} h z => (W.d1 x h).1 (.inl z)
  have trd : ∀ {x}, told31 tl es x → x ≠ rd := fun {x} h z => (W.d2 x (.inl z)).2 h
  have tfl : ∀ {x}, told31 tl es x → x ≠ fl := fun {x} h z => W.d3 (z ▸ h)
  have no : ∀ {a : Addr} {o : HO}, H a = some o → (∀ xs, o ≠ .lst xs) → (∀ xs, o ≠ .dT xs) → H' a = some o := fun {a o} e n1 n2 => go (fun z => by rw [z, W.R.at_] at e; exact n2 _ (Option.some.inj e).symm) (fun z => by rw [z, W.hf] at e; exact n1 _ (Option.some.inj e).symm) e
  have sq : ∀ a xs, SqT K H a xs → SqT K H' a xs := fun a xs q => by
    rcases q with (z | ⟨o', z⟩) | z
    · exact .inl (.inl (no z (fun _ e => nomatch e) (fun _ e => nomatch e)))
    · exact .inl (.inr ⟨o', no z (fun _ e => nomatch e) (fun _ e => nomatch e)⟩)
    · exact .inr z
  refine ⟨{ W with
    row := ⟨fun i d e => obj31.keep (W.row.all i d e) (fun x hx o ee => have z : rows31 cs x := ⟨d, List.mem_of_getElem? e, hx⟩; go (nrd z) (W.d1 x z).2.1 ee) sq, W.row.dj⟩
    R := R
    hf := hf
    lf := lf
    To := W.To.keep (go (trd (.inl rfl)) (tfl (.inl rfl)) W.To.at_) (fun x hx o e => go (trd (.inr hx)) (tfl (.inr hx)) e) sq
    d1 := fun x hx => ⟨fun z => by
      rcases nw x z with z | z
      · exact (W.d1 x hx).1 z
      · exact (W.free z).1 hx, (W.d1 x hx).2⟩
    d2 := fun x hx => by
      rcases nw x hx with z | z
      · exact W.d2 x z
      · exact (W.free z).2.2 }, fun x o e n => ⟨go (fun z => n.2.1 (.inl z)) n.2.2.1 e, n.1, fun z => ?_, n.2.2⟩⟩
  rcases nw x z with z | z
  · exact n.2.1 z
  · rw [e] at z; cases z
end
theorem W31.outNew {K : PySem.W.Frag} {C : Addr} {n : Int} {t T : Nat} {H : Hp} {rd fl tl : Addr} {cs : List O31} {kvs : List (List L2.Key × V)} {fs : List Int} {es : List (Addr × Addr × Addr)} {i : Nat} {c' : O31} {x : Addr} (W : W31 K C n t T H rd fl tl cs kvs fs es) (h : H x = none) (nx : x ∉ fp31 c') :
    Out31 rd fl tl (cs.set i c') kvs es x := by
  obtain ⟨a, b⟩ := W.free h
  refine ⟨fun ⟨d, m, hx⟩ => ?_, b⟩
  rcases List.mem_or_eq_of_mem_set m with z | z
  · exact a ⟨d, z, hx⟩
  · exact nx (z ▸ hx)

end G0
namespace G0
open PySem PySem.Spec PyProof.Rows L2
set_option maxHeartbeats 4000000
set_option pp.deepTerms.threshold 3
/-! ### one seat's deed, done by the machine and then by the model -/
theorem nd_set {a : Addr} : ∀ {l : List Addr}, l.Nodup → a ∉ l → ∀ i, (l.set i a).Nodup
  | [], _, _, i => by simp
  | x :: l, h, n, 0 => by
    rw [List.nodup_cons] at h
    exact List.nodup_cons.mpr ⟨fun z => n (List.mem_cons_of_mem _ z), h.2⟩
  | x :: l, h, n, i + 1 => by
    rw [List.nodup_cons] at h
    refine List.nodup_cons.mpr ⟨fun z => ?_, nd_set h.2 (fun z => n (List.mem_cons_of_mem _ z)) i⟩
    rcases List.mem_or_eq_of_mem_set z with z | z
    · exact h.1 z
    · exact n (by rw [z]; exact List.mem_cons_self)
theorem nin_none {L : List Addr} {H : Hp} {a : Addr} (al : ∀ x ∈ L, ∃ o, H x = some o) (h : H a = none) : a ∉ L := fun m => by
  obtain ⟨o, z⟩ := al a m
  rw [h] at z
  cases z
theorem al_set {L : List Addr} {H : Hp} {a : Addr} {i : Nat} {o : HO} (al : ∀ x ∈ L, ∃ o, H x = some o) (h : H a = some o) : ∀ x ∈ L.set i a, ∃ o, H x = some o := fun x m => by
  rcases List.mem_or_eq_of_mem_set m with z | z
  · exact al x z
  · exact ⟨o, z ▸ h⟩
theorem nw_set {L M : List Addr} {H : Hp} {a : Addr} {i : Nat} (nw : ∀ x ∈ M, x ∈ L ∨ H x = none) (h : H a = none) : ∀ x ∈ M.set i a, x ∈ L ∨ H x = none := fun x m => by
  rcases List.mem_or_eq_of_mem_set m with z | z
  · exact nw x z
  · exact .inr (z ▸ h)
theorem nl_set {M : List Addr} {a l : Addr} {i : Nat} (nw : l ∉ M) (h : l ≠ a) : l ∉ M.set i a := fun m => by
  rcases List.mem_or_eq_of_mem_set m with z | z
  · exact nw z
  · exact h z
theorem stB_as {st : Str} {ws : List Int} (e : stB st ws = "asking") : st = "asking" ∧ ws ≠ [] := by
  unfold stB inB at e
  by_cases c : st = "asking"
  · refine ⟨c, fun z => ?_⟩
    rw [c, z] at e
    revert e
    decide +kernel
  · rw [if_neg (by simp [c])] at e
    exact absurd e c
theorem nw0 (H : Hp) (c : O31) : ∀ x ∈ fp31 c, x ∈ fp31 c ∨ H x = none := fun _ m => .inl m
section
variable {K : PySem.W.Frag} {C : Addr} {n : Int} {t : Nat} {H H1 H2 : Hp} {i : Int} {c : O31}
structure Two31 (K : PySem.W.Frag) (H H1 H2 : Hp) (c : O31) : Prop where
  ch : ChgS (fp31 c) H H2
  s2 : ∀ a xs, SqT K H a xs → SqT K H2 a xs
  s12 : ∀ a xs, SqT K H1 a xs → SqT K H2 a xs
  al : ∀ x ∈ fp31 c, ∃ o, H x = some o
  al1 : ∀ x ∈ fp31 c, ∃ o, H1 x = some o
  k2 : ∀ x o, x ≠ c.p → x ≠ c.hl → x ≠ c.tg → x ≠ c.o → H x = some o → H2 x = some o
  bk : ∀ x, x ∉ fp31 c → H1 x = none → H x = none
  m : ∀ x, H x = none → x ≠ c.o
theorem At31.two (h : At31 K C n t H i c) (c1 : ChgS [c.p, c.hl, c.tg] H H1) (a1 : ∃ o, H1 c.p = some o) (a2 : ∃ o, H1 c.hl = some o) (a3 : ∃ o, H1 c.tg = some o) (c2 : Chg c.o H1 H2) : Two31 K H H1 H2 c := by
  have nd := h.nd
  simp only [fp31, List.nodup_cons, List.mem_cons, List.not_mem_nil, or_false, not_or] at nd
  have al : ∀ x ∈ fp31 c, ∃ o, H x = some o := fun x hx => mutW_al (obj31.mutw h x hx)
  have g1 : ∀ x o, x ≠ c.p → x ≠ c.hl → x ≠ c.tg → H x = some o → H1 x = some o := fun x o n1 n2 n3 e => c1 _ _ (by simp only [List.mem_cons, List.not_mem_nil, or_false, not_or]; exact ⟨n1, n2, n3⟩) e
  have ho1 := g1 _ _ (fun z => nd.1.2.2.2.1 z.symm) (fun z => nd.2.2.1.2.1 z.symm) (fun z => nd.2.2.2.1.1 z.symm) h.ho
  have s1 : ∀ a xs, SqT K H a xs → SqT K H1 a xs := sqt_chgW c1 fun x hx => obj31.mutw h x (by
    simp only [List.mem_cons, List.not_mem_nil, or_false] at hx
    rcases hx with rfl | rfl | rfl <;> simp [fp31])
  have s12 := sqt_chgL (K := K) ho1 c2
  have al1 : ∀ x ∈ fp31 c, ∃ o, H1 x = some o := fun x hx => by
    by_cases e1 : x = c.p
    · rw [e1]; exact a1
    by_cases e2 : x = c.hl
    · rw [e2]; exact a2
    by_cases e3 : x = c.tg
    · rw [e3]; exact a3
    obtain ⟨o, e⟩ := al x hx
    exact ⟨o, g1 x o e1 e2 e3 e⟩
  refine ⟨fun x o nx e => ?_, fun a xs q => s12 _ _ (s1 _ _ q), s12, al, al1, fun x o n1 n2 n3 n4 e => c2 _ _ n4 (g1 _ _ n1 n2 n3 e), fun x nx e => ?_, fun x e z => ?_⟩
  · simp only [fp31, List.mem_cons, List.not_mem_nil, or_false, not_or] at nx
    exact c2 _ _ nx.2.2.2.2.1 (g1 _ _ nx.1 nx.2.2.1 nx.2.2.2.1 e)
  · simp only [fp31, List.mem_cons, List.not_mem_nil, or_false, not_or] at nx
    cases z : H x with
    | none => rfl
    | some o => rw [g1 _ _ nx.1 nx.2.2.1 nx.2.2.2.1 z] at e; cases e
  · rw [z, h.ho] at e
    cases e
theorem wk_p {x y z : Addr} (h : Chg x H H1) : ChgS [x, y, z] H H1 := fun b o nb e => h b o (fun e2 => nb (by rw [e2]; exact List.mem_cons_self)) e
/-- what a deed leaves: the seat as it stands then, the letters sent -/
structure Don31 (K : PySem.W.Frag) (C : Addr) (n : Int) (t : Nat) (H H2 : Hp) (i : Int) (c c' : O31) (l du : Addr) : Prop where
  at_ : At31 K C n t H2 i c'
  ch : ChgS (fp31 c) H H2
  nw : ∀ x ∈ fp31 c', x ∈ fp31 c ∨ H x = none
  nl : l ∉ fp31 c'
  ep : c'.p = c.p
  eo : c'.o = c.o
  nu : du ∉ fp31 c'
  du0 : H du = none
  lu : l ≠ du
theorem At31.asks {l du aw' tp d3' tq : Addr} (h : At31 K C n t H i c) (n60 : n ≤ 60) (c1 : Chg c.p H H1) (hl : H l = none) (haw : H aw' = none) (la : l ≠ aw') (kl : ∃ xs, H1 l = some (.lst xs)) (ka : H1 aw' = some (.lst ((others n (i :: c.ts)).map V.int)))
    (kt : SqT K H1 tp [.int (c.cnt + 1), .int i]) (kp : H1 c.p = some (.ins C c.dx (stF i (stB "asking" (others n (i :: c.ts))) c.si (c.cnt + 1) (.ref tp) n aw' c.hl c.tg)))
    (c2 : Chg c.o H1 H2) (hd : H1 d3' = none) (hdu : H1 du = none) (nu : du ≠ d3') (ko : H2 c.o = some (.lst (moL (c.cnt + 1) (.ref tq) (stB "asking" (others n (i :: c.us))) d3' c.d4 c.d5))) (kd : H2 d3' = some (.lst ((others n (i :: c.us)).map V.int))) (kq : SqT K H2 tq [.int (c.cnt + 1), .int i]) :
    ∃ c', Don31 K C n (t + 1) H H2 i c c' l du := by
  have nd := h.nd
  simp only [fp31, List.nodup_cons, List.mem_cons, List.not_mem_nil, or_false, not_or] at nd
  obtain ⟨⟨p1, p2, p3, p4, p5, p6, p7⟩, ⟨a2, a3, a4, a5, a6, a7⟩, ⟨h3, h4, h5, h6, h7⟩, ⟨t4, t5, t6, t7⟩, ⟨o5, o6, o7⟩, ⟨x6, x7⟩, y7, _⟩ := nd
  rw [others_perm h.pm] at ka kp
  have g1 : ∀ x o, x ≠ c.p → H x = some o → H1 x = some o := fun x o nx e => c1 _ _ nx e
  have Z := h.two (wk_p c1) ⟨_, kp⟩ ⟨_, g1 _ _ (fun z => p2 z.symm) h.hh⟩ ⟨_, g1 _ _ (fun z => p3 z.symm) h.ht⟩ c2
  have k2 : ∀ x o, x ≠ c.p → x ≠ c.o → H x = some o → H2 x = some o := fun x o n1 n2 e => c2 _ _ n2 (g1 _ _ n1 e)
  have naw := nin_none Z.al haw
  have nlp : l ∉ fp31 c := nin_none Z.al hl
  have nd3 := nin_none (al_set (i := 1) Z.al1 ka) hd
  have nd3' : d3' ∉ fp31 c := nin_none Z.al1 hd
  have hd0 := Z.bk _ nd3' hd
  obtain ⟨xs, kl⟩ := kl
  have lu : l ≠ du := fun z => by rw [z, hdu] at kl; cases kl
  have ld : l ≠ d3' := fun z => by rw [z, hd] at kl; cases kl
  have lW : (others n (i :: c.us)).length ≤ 60 := by
    have := List.length_filter_le (fun s => !decide (s ∈ i :: c.us)) (upto n)
    rw [upto_len] at this
    unfold others
    omega
  refine ⟨{ c with aw := aw', d3 := d3', st := stB "asking" (others n (i :: c.us)), cnt := c.cnt + 1, stp := .ref tp, sq := .ref tq, ws := others n (i :: c.us), sn := [c.cnt + 1, i] }, {
    at_ := {
      hp := c2 _ _ p4 kp
      ha := c2 _ _ (Z.m _ haw) ka
      hh := k2 _ _ (fun z => p2 z.symm) h4 h.hh
      ht := k2 _ _ (fun z => p3 z.symm) t4 h.ht
      ho := ko
      h3 := kd
      h4 := k2 _ _ (fun z => p6 z.symm) (fun z => o6 z.symm) h.h4
      h5 := k2 _ _ (fun z => p7 z.symm) (fun z => o7 z.symm) h.h5
      nd := nd_set (nd_set h.nd naw 1) nd3 5
      sm := .inr ⟨tp, tq, rfl, rfl, Z.s12 _ _ kt, kq⟩
      as_ := fun e => ⟨(stB_as (show stB "asking" (others n (i :: c.us)) = "asking" from e)).2, fun z => nomatch z⟩
      pm := h.pm
      pw := h.pw
      lw := lW
      lh := Nat.le_succ_of_le h.lh
      lu := Nat.le_succ_of_le h.lu
      rg := h.rg
      ls := Nat.le_refl _ }
    ch := Z.ch
    nw := nw_set (i := 5) (nw_set (i := 1) (nw0 H c) haw) hd0
    nl := nl_set (i := 5) (nl_set (i := 1) nlp la) ld
    ep := rfl
    eo := rfl
    nu := nl_set (i := 5) (nin_none (al_set (i := 1) Z.al1 ka) hdu) nu
    du0 := Z.bk _ (nin_none Z.al1 hdu) hdu
    lu := lu }⟩
theorem At31.leaves {l du hl' d4' : Addr} (h : At31 K C n t H i c) (c1 : Chg c.p H H1) (hl : H l = none) (hhl : H hl' = none) (la : l ≠ hl') (kl : ∃ xs, H1 l = some (.lst xs)) (ka : H1 hl' = some (.lst []))
    (kp : H1 c.p = some (.ins C c.dx (stF i "out" c.si c.cnt .non n c.aw hl' c.tg)))
    (c2 : Chg c.o H1 H2) (hd : H1 d4' = none) (hdu : H1 du = none) (nu : du ≠ d4') (ko : H2 c.o = some (.lst (moL c.cnt .non "out" c.d3 d4' c.d5))) (kd : H2 d4' = some (.lst [])) :
    ∃ c', Don31 K C n (t + 1) H H2 i c c' l du := by
  have nd := h.nd
  simp only [fp31, List.nodup_cons, List.mem_cons, List.not_mem_nil, or_false, not_or] at nd
  obtain ⟨⟨p1, p2, p3, p4, p5, p6, p7⟩, ⟨a2, a3, a4, a5, a6, a7⟩, ⟨h3, h4, h5, h6, h7⟩, ⟨t4, t5, t6, t7⟩, ⟨o5, o6, o7⟩, ⟨x6, x7⟩, y7, _⟩ := nd
  have g1 : ∀ x o, x ≠ c.p → H x = some o → H1 x = some o := fun x o nx e => c1 _ _ nx e
  have Z := h.two (wk_p c1) ⟨_, kp⟩ ⟨_, g1 _ _ (fun z => p2 z.symm) h.hh⟩ ⟨_, g1 _ _ (fun z => p3 z.symm) h.ht⟩ c2
  have k2 : ∀ x o, x ≠ c.p → x ≠ c.o → H x = some o → H2 x = some o := fun x o n1 n2 e => c2 _ _ n2 (g1 _ _ n1 e)
  have naw := nin_none Z.al hhl
  have nlp : l ∉ fp31 c := nin_none Z.al hl
  have nd3 := nin_none (al_set (i := 2) Z.al1 ka) hd
  have nd3' : d4' ∉ fp31 c := nin_none Z.al1 hd
  have hd0 := Z.bk _ nd3' hd
  obtain ⟨xs, kl⟩ := kl
  have lu : l ≠ du := fun z => by rw [z, hdu] at kl; cases kl
  have ld : l ≠ d4' := fun z => by rw [z, hd] at kl; cases kl
  refine ⟨{ c with hl := hl', d4 := d4', st := "out", stp := .non, sq := .non, hs := [] }, {
    at_ := {
      hp := c2 _ _ p4 kp
      ha := k2 _ _ (fun z => p1 z.symm) a4 h.ha
      hh := c2 _ _ (Z.m _ hhl) ka
      ht := k2 _ _ (fun z => p3 z.symm) t4 h.ht
      ho := ko
      h3 := k2 _ _ (fun z => p5 z.symm) (fun z => o5 z.symm) h.h3
      h4 := kd
      h5 := k2 _ _ (fun z => p7 z.symm) (fun z => o7 z.symm) h.h5
      nd := nd_set (nd_set h.nd naw 2) nd3 6
      sm := .inl ⟨rfl, rfl⟩
      as_ := fun e => absurd (show ("out" : Str) = "asking" from e) (by decide +kernel)
      pm := h.pm
      pw := h.pw
      lw := h.lw
      lh := Nat.zero_le _
      lu := Nat.le_succ_of_le h.lu
      rg := fun x hx => nomatch hx
      ls := h.ls }
    ch := Z.ch
    nw := nw_set (i := 6) (nw_set (i := 2) (nw0 H c) hhl) hd0
    nl := nl_set (i := 6) (nl_set (i := 2) nlp la) ld
    ep := rfl
    eo := rfl
    nu := nl_set (i := 6) (nin_none (al_set (i := 2) Z.al1 ka) hdu) nu
    du0 := Z.bk _ (nin_none Z.al1 hdu) hdu
    lu := lu }⟩
theorem At31.holdsAsk {l du d4' : Addr} {k m : Int} (h : At31 K C n t H i c) (c1 : ChgS [c.p, c.hl] H H1) (hl : H l = none) (kl : ∃ xs, H1 l = some (.lst xs)) (kh : H1 c.hl = some (.lst ((c.hs ++ [k]).map V.int))) (k0 : 0 ≤ k) (k1 : k < n)
    (kp : H1 c.p = some (.ins C c.dx (stF i c.st c.si m c.stp n c.aw c.hl c.tg)))
    (c2 : Chg c.o H1 H2) (hd : H1 d4' = none) (hdu : H1 du = none) (nu : du ≠ d4') (ko : H2 c.o = some (.lst (moL m c.sq c.st c.d3 d4' c.d5))) (kd : H2 d4' = some (.lst ((c.hs ++ [k]).map V.int))) :
    ∃ c', Don31 K C n (t + 1) H H2 i c c' l du := by
  have nd := h.nd
  simp only [fp31, List.nodup_cons, List.mem_cons, List.not_mem_nil, or_false, not_or] at nd
  obtain ⟨⟨p1, p2, p3, p4, p5, p6, p7⟩, ⟨a2, a3, a4, a5, a6, a7⟩, ⟨h3, h4, h5, h6, h7⟩, ⟨t4, t5, t6, t7⟩, ⟨o5, o6, o7⟩, ⟨x6, x7⟩, y7, _⟩ := nd
  have g1 : ∀ x o, x ≠ c.p → x ≠ c.hl → H x = some o → H1 x = some o := fun x o n1 n2 e => c1 _ _ (by simp only [List.mem_cons, List.not_mem_nil, or_false, not_or]; exact ⟨n1, n2⟩) e
  have c1' : ChgS [c.p, c.hl, c.tg] H H1 := fun x o nx e => by
    simp only [List.mem_cons, List.not_mem_nil, or_false, not_or] at nx
    exact g1 _ _ nx.1 nx.2.1 e
  have Z := h.two c1' ⟨_, kp⟩ ⟨_, kh⟩ ⟨_, g1 _ _ (fun z => p3 z.symm) (fun z => h3 z.symm) h.ht⟩ c2
  have k2 : ∀ x o, x ≠ c.p → x ≠ c.hl → x ≠ c.o → H x = some o → H2 x = some o := fun x o n1 n2 n3 e => c2 _ _ n3 (g1 _ _ n1 n2 e)
  have nlp : l ∉ fp31 c := nin_none Z.al hl
  have nd3' : d4' ∉ fp31 c := nin_none Z.al1 hd
  have hd0 := Z.bk _ nd3' hd
  obtain ⟨xs, kl⟩ := kl
  have lu : l ≠ du := fun z => by rw [z, hdu] at kl; cases kl
  have ld : l ≠ d4' := fun z => by rw [z, hd] at kl; cases kl
  refine ⟨{ c with d4 := d4', cnt := m, hs := c.hs ++ [k] }, {
    at_ := {
      hp := c2 _ _ p4 kp
      ha := k2 _ _ (fun z => p1 z.symm) a2 a4 h.ha
      hh := c2 _ _ h4 kh
      ht := k2 _ _ (fun z => p3 z.symm) (fun z => h3 z.symm) t4 h.ht
      ho := ko
      h3 := k2 _ _ (fun z => p5 z.symm) (fun z => h5 z.symm) (fun z => o5 z.symm) h.h3
      h4 := kd
      h5 := k2 _ _ (fun z => p7 z.symm) (fun z => h7 z.symm) (fun z => o7 z.symm) h.h5
      nd := nd_set h.nd nd3' 6
      sm := h.sm.imp id fun ⟨ta, tb, e1, e2, q1, q2⟩ => ⟨ta, tb, e1, e2, Z.s2 _ _ q1, Z.s2 _ _ q2⟩
      as_ := h.as_
      pm := h.pm
      pw := h.pw
      lw := h.lw
      lh := by
        show (c.hs ++ [k]).length ≤ t + 1
        rw [List.length_append]
        exact Nat.succ_le_succ h.lh
      lu := Nat.le_succ_of_le h.lu
      rg := fun x hx => by
        rcases List.mem_append.mp hx with z | z
        · exact h.rg x z
        · cases List.mem_singleton.mp z
          exact ⟨k0, k1⟩
      ls := h.ls }
    ch := Z.ch
    nw := nw_set (i := 6) (nw0 H c) hd0
    nl := nl_set (i := 6) nlp ld
    ep := rfl
    eo := rfl
    nu := nl_set (i := 6) (nin_none Z.al1 hdu) nu
    du0 := Z.bk _ (nin_none Z.al1 hdu) hdu
    lu := lu }⟩
theorem At31.givesYes {l du : Addr} {m : Int} (h : At31 K C n t H i c) (c1 : Chg c.p H H1) (hl : H l = none) (kl : ∃ xs, H1 l = some (.lst xs))
    (kp : H1 c.p = some (.ins C c.dx (stF i c.st c.si m c.stp n c.aw c.hl c.tg)))
    (c2 : Chg c.o H1 H2) (hdu : H1 du = none) (ko : H2 c.o = some (.lst (moL m c.sq c.st c.d3 c.d4 c.d5))) :
    ∃ c', Don31 K C n (t + 1) H H2 i c c' l du := by
  have nd := h.nd
  simp only [fp31, List.nodup_cons, List.mem_cons, List.not_mem_nil, or_false, not_or] at nd
  obtain ⟨⟨p1, p2, p3, p4, p5, p6, p7⟩, ⟨a2, a3, a4, a5, a6, a7⟩, ⟨h3, h4, h5, h6, h7⟩, ⟨t4, t5, t6, t7⟩, ⟨o5, o6, o7⟩, ⟨x6, x7⟩, y7, _⟩ := nd
  have g1 : ∀ x o, x ≠ c.p → H x = some o → H1 x = some o := fun x o nx e => c1 _ _ nx e
  have Z := h.two (wk_p c1) ⟨_, kp⟩ ⟨_, g1 _ _ (fun z => p2 z.symm) h.hh⟩ ⟨_, g1 _ _ (fun z => p3 z.symm) h.ht⟩ c2
  have k2 : ∀ x o, x ≠ c.p → x ≠ c.o → H x = some o → H2 x = some o := fun x o n1 n2 e => c2 _ _ n2 (g1 _ _ n1 e)
  have nlp : l ∉ fp31 c := nin_none Z.al hl
  obtain ⟨xs, kl⟩ := kl
  have lu : l ≠ du := fun z => by rw [z, hdu] at kl; cases kl
  refine ⟨{ c with cnt := m }, {
    at_ := {
      hp := c2 _ _ p4 kp
      ha := k2 _ _ (fun z => p1 z.symm) a4 h.ha
      hh := k2 _ _ (fun z => p2 z.symm) h4 h.hh
      ht := k2 _ _ (fun z => p3 z.symm) t4 h.ht
      ho := ko
      h3 := k2 _ _ (fun z => p5 z.symm) (fun z => o5 z.symm) h.h3
      h4 := k2 _ _ (fun z => p6 z.symm) (fun z => o6 z.symm) h.h4
      h5 := k2 _ _ (fun z => p7 z.symm) (fun z => o7 z.symm) h.h5
      nd := h.nd
      sm := h.sm.imp id fun ⟨ta, tb, e1, e2, q1, q2⟩ => ⟨ta, tb, e1, e2, Z.s2 _ _ q1, Z.s2 _ _ q2⟩
      as_ := h.as_
      pm := h.pm
      pw := h.pw
      lw := h.lw
      lh := Nat.le_succ_of_le h.lh
      lu := Nat.le_succ_of_le h.lu
      rg := h.rg
      ls := h.ls }
    ch := Z.ch
    nw := fun x m => .inl m
    nl := nlp
    ep := rfl
    eo := rfl
    nu := nin_none Z.al1 hdu
    du0 := Z.bk _ (nin_none Z.al1 hdu) hdu
    lu := lu }⟩
theorem filtI_len (ws : List Int) (k : Int) : (filtI ws k).length ≤ ws.length := List.length_filter_le ..
theorem At31.hearsYes {l du aw' d3' : Addr} {k m : Int} (h : At31 K C n t H i c) (c1 : Chg c.p H H1) (hl : H l = none) (haw : H aw' = none) (la : l ≠ aw') (kl : ∃ xs, H1 l = some (.lst xs)) (ka : H1 aw' = some (.lst ((filtI c.ws k).map V.int)))
    (kp : H1 c.p = some (.ins C c.dx (stF i (stB c.st (filtI c.ws k)) c.si m c.stp n aw' c.hl c.tg)))
    (c2 : Chg c.o H1 H2) (hd : H1 d3' = none) (hdu : H1 du = none) (nu : du ≠ d3') (ko : H2 c.o = some (.lst (moL m c.sq (stB c.st (filtI c.ws k)) d3' c.d4 c.d5))) (kd : H2 d3' = some (.lst ((filtI c.ws k).map V.int))) :
    ∃ c', Don31 K C n (t + 1) H H2 i c c' l du := by
  have nd := h.nd
  simp only [fp31, List.nodup_cons, List.mem_cons, List.not_mem_nil, or_false, not_or] at nd
  obtain ⟨⟨p1, p2, p3, p4, p5, p6, p7⟩, ⟨a2, a3, a4, a5, a6, a7⟩, ⟨h3, h4, h5, h6, h7⟩, ⟨t4, t5, t6, t7⟩, ⟨o5, o6, o7⟩, ⟨x6, x7⟩, y7, _⟩ := nd
  have g1 : ∀ x o, x ≠ c.p → H x = some o → H1 x = some o := fun x o nx e => c1 _ _ nx e
  have Z := h.two (wk_p c1) ⟨_, kp⟩ ⟨_, g1 _ _ (fun z => p2 z.symm) h.hh⟩ ⟨_, g1 _ _ (fun z => p3 z.symm) h.ht⟩ c2
  have k2 : ∀ x o, x ≠ c.p → x ≠ c.o → H x = some o → H2 x = some o := fun x o n1 n2 e => c2 _ _ n2 (g1 _ _ n1 e)
  have naw := nin_none Z.al haw
  have nlp : l ∉ fp31 c := nin_none Z.al hl
  have nd3 := nin_none (al_set (i := 1) Z.al1 ka) hd
  have nd3' : d3' ∉ fp31 c := nin_none Z.al1 hd
  have hd0 := Z.bk _ nd3' hd
  obtain ⟨xs, kl⟩ := kl
  have lu : l ≠ du := fun z => by rw [z, hdu] at kl; cases kl
  have ld : l ≠ d3' := fun z => by rw [z, hd] at kl; cases kl
  refine ⟨{ c with aw := aw', d3 := d3', st := stB c.st (filtI c.ws k), cnt := m, ws := filtI c.ws k }, {
    at_ := {
      hp := c2 _ _ p4 kp
      ha := c2 _ _ (Z.m _ haw) ka
      hh := k2 _ _ (fun z => p2 z.symm) h4 h.hh
      ht := k2 _ _ (fun z => p3 z.symm) t4 h.ht
      ho := ko
      h3 := kd
      h4 := k2 _ _ (fun z => p6 z.symm) (fun z => o6 z.symm) h.h4
      h5 := k2 _ _ (fun z => p7 z.symm) (fun z => o7 z.symm) h.h5
      nd := nd_set (nd_set h.nd naw 1) nd3 5
      sm := h.sm.imp id fun ⟨ta, tb, e1, e2, q1, q2⟩ => ⟨ta, tb, e1, e2, Z.s2 _ _ q1, Z.s2 _ _ q2⟩
      as_ := fun e => have z := stB_as e; ⟨z.2, (h.as_ z.1).2⟩
      pm := h.pm
      pw := h.pw
      lw := Nat.le_trans (filtI_len _ _) h.lw
      lh := Nat.le_succ_of_le h.lh
      lu := Nat.le_succ_of_le h.lu
      rg := h.rg
      ls := h.ls }
    ch := Z.ch
    nw := nw_set (i := 5) (nw_set (i := 1) (nw0 H c) haw) hd0
    nl := nl_set (i := 5) (nl_set (i := 1) nlp la) ld
    ep := rfl
    eo := rfl
    nu := nl_set (i := 5) (nin_none (al_set (i := 1) Z.al1 ka) hdu) nu
    du0 := Z.bk _ (nin_none Z.al1 hdu) hdu
    lu := lu }⟩
theorem At31.hearsGone {l du aw' hl' d3' d4' d5' : Addr} {k : Int} {us' : List Int} (h : At31 K C n t H i c) (c1 : ChgS [c.p, c.tg] H H1) (hl : H l = none) (haw : H aw' = none) (hhl : H hl' = none) (la : l ≠ aw') (lh : l ≠ hl') (ha : hl' ≠ aw') (kl : ∃ xs, H1 l = some (.lst xs)) (ka : H1 aw' = some (.lst ((filtI c.ws k).map V.int)))
    (kh : H1 hl' = some (.lst ((filtI c.hs k).map V.int))) (kt : H1 c.tg = some (.lst ((c.ts ++ [k]).map V.int))) (kp : H1 c.p = some (.ins C c.dx (stF i (stB c.st (filtI c.ws k)) c.si c.cnt c.stp n aw' hl' c.tg)))
    (c2 : Chg c.o H1 H2) (hd3 : H1 d3' = none) (hd4 : H1 d4' = none) (hd5 : H1 d5' = none) (hdu : H1 du = none) (u3 : du ≠ d3') (u4 : du ≠ d4') (u5 : du ≠ d5') (n34 : d3' ≠ d4') (n35 : d3' ≠ d5') (n45 : d4' ≠ d5') (pm : us'.Perm (c.us ++ [k])) (pw : us'.Pairwise (· ≤ ·)) (ko : H2 c.o = some (.lst (moL c.cnt c.sq (stB c.st (filtI c.ws k)) d3' d4' d5')))
    (kd3 : H2 d3' = some (.lst ((filtI c.ws k).map V.int))) (kd4 : H2 d4' = some (.lst ((filtI c.hs k).map V.int))) (kd5 : H2 d5' = some (.lst (us'.map V.int))) :
    ∃ c', Don31 K C n (t + 1) H H2 i c c' l du := by
  have nd := h.nd
  simp only [fp31, List.nodup_cons, List.mem_cons, List.not_mem_nil, or_false, not_or] at nd
  obtain ⟨⟨p1, p2, p3, p4, p5, p6, p7⟩, ⟨a2, a3, a4, a5, a6, a7⟩, ⟨h3, h4, h5, h6, h7⟩, ⟨t4, t5, t6, t7⟩, ⟨o5, o6, o7⟩, ⟨x6, x7⟩, y7, _⟩ := nd
  have g1 : ∀ x o, x ≠ c.p → x ≠ c.tg → H x = some o → H1 x = some o := fun x o n1 n2 e => c1 _ _ (by simp only [List.mem_cons, List.not_mem_nil, or_false, not_or]; exact ⟨n1, n2⟩) e
  have c1' : ChgS [c.p, c.hl, c.tg] H H1 := fun x o nx e => by
    simp only [List.mem_cons, List.not_mem_nil, or_false, not_or] at nx
    exact g1 _ _ nx.1 nx.2.2 e
  have Z := h.two c1' ⟨_, kp⟩ ⟨_, g1 _ _ (fun z => p2 z.symm) h3 h.hh⟩ ⟨_, kt⟩ c2
  have naw := nin_none Z.al haw
  have nhl0 := nin_none Z.al hhl
  have nhl : hl' ∉ (fp31 c).set 1 aw' := nl_set nhl0 ha
  have nlp : l ∉ fp31 c := nin_none Z.al hl
  have al2 := al_set (i := 2) (al_set (i := 1) Z.al1 ka) kh
  have nd3 := nin_none al2 hd3
  have nd4 := nl_set (i := 5) (nin_none al2 hd4) n34.symm
  have nd5 := nl_set (i := 6) (nl_set (i := 5) (nin_none al2 hd5) n35.symm) n45.symm
  have z3 := Z.bk _ (nin_none Z.al1 hd3) hd3
  have z4 := Z.bk _ (nin_none Z.al1 hd4) hd4
  have z5 := Z.bk _ (nin_none Z.al1 hd5) hd5
  obtain ⟨xs, kl⟩ := kl
  have lu : l ≠ du := fun z => by rw [z, hdu] at kl; cases kl
  have l3 : l ≠ d3' := fun z => by rw [z, hd3] at kl; cases kl
  have l4 : l ≠ d4' := fun z => by rw [z, hd4] at kl; cases kl
  have l5 : l ≠ d5' := fun z => by rw [z, hd5] at kl; cases kl
  refine ⟨{ c with aw := aw', hl := hl', d3 := d3', d4 := d4', d5 := d5', st := stB c.st (filtI c.ws k), ws := filtI c.ws k, hs := filtI c.hs k, ts := c.ts ++ [k], us := us' }, {
    at_ := {
      hp := c2 _ _ p4 kp
      ha := c2 _ _ (Z.m _ haw) ka
      hh := c2 _ _ (Z.m _ hhl) kh
      ht := c2 _ _ t4 kt
      ho := ko
      h3 := kd3
      h4 := kd4
      h5 := kd5
      nd := nd_set (nd_set (nd_set (nd_set (nd_set h.nd naw 1) nhl 2) nd3 5) nd4 6) nd5 7
      sm := h.sm.imp id fun ⟨ta, tb, e1, e2, q1, q2⟩ => ⟨ta, tb, e1, e2, Z.s2 _ _ q1, Z.s2 _ _ q2⟩
      as_ := fun e => have z := stB_as e; ⟨z.2, (h.as_ z.1).2⟩
      pm := (h.pm.append_right [k]).trans pm.symm
      pw := pw
      lw := Nat.le_trans (filtI_len _ _) h.lw
      lh := Nat.le_trans (filtI_len _ _) (Nat.le_succ_of_le h.lh)
      lu := by
        show us'.length ≤ t + 1
        rw [pm.length_eq, List.length_append]
        exact Nat.succ_le_succ h.lu
      rg := fun x hx => h.rg x (List.mem_filter.mp hx).1
      ls := h.ls }
    ch := Z.ch
    nw := nw_set (i := 7) (nw_set (i := 6) (nw_set (i := 5) (nw_set (i := 2) (nw_set (i := 1) (nw0 H c) haw) hhl) z3) z4) z5
    nl := nl_set (i := 7) (nl_set (i := 6) (nl_set (i := 5) (nl_set (i := 2) (nl_set (i := 1) nlp la) lh) l3) l4) l5
    ep := rfl
    eo := rfl
    nu := nl_set (i := 7) (nl_set (i := 6) (nl_set (i := 5) (nin_none al2 hdu) u3) u4) u5
    du0 := Z.bk _ (nin_none Z.al1 hdu) hdu
    lu := lu }⟩
end

end G0
namespace G0
open PySem PySem.Spec PyProof.Rows L2
set_option maxHeartbeats 8000000
set_option pp.deepTerms.threshold 3
theorem goJ {A : Prop} {D : L2.Ends} (R : L2.St → Hp → Prop) (h1 : (∀ σ H, R σ H → D.nx σ H) → A) (h : ∀ σ H, R σ H → D.nx σ H) : A := h1 h
theorem zip_yes (w : Str) (c : Int) : ∀ to : List Int, (to.zip (List.replicate to.length (ltD31 w c))).map (fun e => PyData.tuple [.int e.1, e.2]) = to.map (yesD w c)
  | [] => rfl
  | k :: to => by
    rw [List.length_cons, List.replicate_succ, List.zip_cons_cons, List.map_cons, List.map_cons, zip_yes w c to]
    rfl
theorem lw_yess31 (word : Str) (c : Int) (ks : List Int) (h : ks.length < 10000) : Lw 3 (.list (ks.map (yesD word c))) := by
  refine .lst (by rw [List.length_map]; exact h) fun d hd => ?_
  obtain ⟨k, _, rfl⟩ := List.mem_map.mp hd
  refine .tup (by show 2 < 10000; decide) fun d hd => ?_
  simp only [List.mem_cons, List.not_mem_nil, or_false] at hd
  rcases hd with rfl | rfl
  · exact .int _
  · refine .tup (by show 2 < 10000; decide) fun d hd => ?_
    simp only [List.mem_cons, List.not_mem_nil, or_false] at hd
    rcases hd with rfl | rfl
    · exact .str _
    · exact .int _
theorem others_rg {n x : Int} {ks : List Int} (h : x ∈ others n ks) : 0 ≤ x ∧ x < n := by
  have := (List.mem_filter.mp h).1
  unfold upto at this
  obtain ⟨j, hj, e⟩ := List.mem_map.mp this
  have := List.mem_range.mp hj
  omega
theorem others_len (n : Int) (ks : List Int) : (others n ks).length ≤ n.toNat := by
  have := List.length_filter_le (fun s => !decide (s ∈ ks)) (upto n)
  rw [upto_len] at this
  exact this
theorem dp_ddS {K : PySem.W.Frag} {H : Hp} {a : Addr} {w : Str} {s : Int} (h : Dp K H (.ref a) (ddS w s)) : SqT K H a [.str w, .int s] := by
  cases h with
  | tup h1 h2 =>
    cases h2 with
    | cons h3 h4 =>
      cases h4 with
      | cons h5 h6 =>
        cases h3
        cases h5
        cases h6
        exact h1
theorem dp_ddC {K : PySem.W.Frag} {H : Hp} {c : Addr} {a b : Int} (h : Dp K H (.ref c) (ddC a b)) : SqT K H c [.str "carry", .int a, .int b] := by
  cases h with
  | tup h1 h2 =>
    cases h2 with
    | cons h3 h4 =>
      cases h4 with
      | cons h5 h6 =>
        cases h6 with
        | cons h7 h8 =>
          cases h3
          cases h5
          cases h7
          cases h8
          exact h1
section
variable {P : Program} {w : World} {K : PySem.W.Frag} {mg : Str → Option Value} {base : Heap} {C : Addr}
/-! ### a deed -/
def spDone31 (K : PySem.W.Frag) (C : Addr) : Sp := fun vs H Q _ => ∃ (mc mo rd fl dd tl : Addr) (n : Int) (t T : Nat) (cs : List O31) (kvs : List (List L2.Key × V)) (fs : List Int) (es : List (Addr × Addr × Addr)) (d : PyData), vs = [.ref mc, .ref mo, .ref rd, .ref fl, .ref dd, .ref tl] ∧
  W31 K C n t T H rd fl tl cs kvs fs es ∧ H mc = some (.lst ((cs.map (·.p)).map V.ref)) ∧ H mo = some (.lst ((cs.map (·.o)).map V.ref)) ∧ Out31 rd fl tl cs kvs es mc ∧ Out31 rd fl tl cs kvs es mo ∧ DdD n kvs d ∧ Dp K H (.ref dd) d ∧ 1 ≤ n ∧ n ≤ 60 ∧ t ≤ 200 ∧ T < 100000 ∧
  ∀ cs' kvs' fs' es' H', W31 K C n (t + 1) (T + 300) H' rd fl tl cs' kvs' fs' es' → St31 rd fl tl H cs kvs es H' cs' kvs' es' → cs'.map (·.p) = cs.map (·.p) → cs'.map (·.o) = cs.map (·.o) → Q (.bl true) H'
theorem sc_law_done : FnScope ["machines", "model", "roads", "fallen", "deed", "told", "me", "found", "due", "letter"] ["machines", "model", "roads", "fallen", "deed", "told"] (defScope s_law_done) :=
  ⟨rfl, rfl, rfl, by decide +kernel, rfl, by decide +kernel, by decide +kernel⟩
theorem ok_done31 (F : Fn K mg "_law_done" s_law_done) (T : Bl31 mg) (S : StT K C) (C_same : Cal P w K mg base "_law_same" 4 ["found", "due"] (spSm K 3))
    (C_put : Cal P w K mg base "_law_put" 1 ["roads", "fallen", "me", "letters"] (spPut31 K)) (C_taken : Cal P w K mg base "_law_taken" 1 ["roads", "road"] (spTaken31 K))
    (C_falls : Cal P w K mg base "_law_falls" 2 ["roads", "fallen", "seats", "me"] (spFalls31 K)) (C_kept : Cal P w K mg base "_law_kept" 1 ["told", "found"] (spKept31 K))
    (C_stands : Cal P w K mg base "_law_stands" 4 ["machine", "one", "me"] (spStands31 K C)) (C_asks : Cal P w K mg base "_law_asks" 2 ["model", "me"] (spAsks31 K))
    (C_leaves : Cal P w K mg base "_law_leaves" 2 ["model", "me"] (spLeaves31 K)) (C_hears : Cal P w K mg base "_law_hears" 2 ["model", "sender", "me", "letter"] (spHears31 K))
    (MA : Me P w K mg base C "ask" 2 ["self"] (spSAsk K C)) (ML : Me P w K mg base C "leave" 2 ["self"] (spLeave K C)) (MG : Me P w K mg base C "gone" 3 ["self", "seat"] (spSGone C)) (MH : Me P w K mg base C "hear" 3 ["self", "sender", "letter"] (spHear K C)) :
    Cal P w K mg base "_law_done" 5 ["machines", "model", "roads", "fallen", "deed", "told"] (spDone31 K C) := by
  obtain ⟨fA, fdA, GA, bA, mA⟩ := MA
  obtain ⟨fL, fdL, GL, bL, mL⟩ := ML
  obtain ⟨fG, fdG, GG, bG, mG⟩ := MG
  obtain ⟨fH, fdH, GH, bH, mH⟩ := MH
  refine cal_of F sc_law_done
    (fun _ _ _ _ _ _ us hl => match us, hl with | [_, _, _, _, _, _], _ => rfl) ?_ ?_
  · rintro vs H Q E ⟨_, _, _, _, _, _, _, _, _, _, _, _, _, _, rfl, _⟩
    rfl
  rintro f cdv A outer s H vs Q E free hr ⟨mc, mo, rd, fl, dd, tl, n, t, T0, cs, kvs, fs, es, d, rfl, W, hmc, hmo, omc, omo, dD, hdd, n1, n60, t200, T9, q⟩
  have hr2 : Room 2 _ := hr.mono (by decide)
  have hr3 : Room 3 _ := hr.mono (by decide)
  refine ⟨_, (pss_cons (ps_set (i := 6) sc_law_done.nd rfl (Or.inl rfl) (pe_ix ix_tup (pv 4) (pe_un un_neg pe_int) (fun _ _ => rfl)))
    (pss_cons (ps_if (pt_cmpR op_eq (pe_ix ix_tup (pv 4) pe_int (fun _ _ => rfl)) pe_str (nomark _))
    (pss_cons (ps_expr (pe_cal C_falls free (hr.mono (by decide)) (pa_cons (pv 2) (pa_cons (pv 3) (pa_cons (pe_callB call_len_seq (by rfl) T.len (by decide +kernel) (pa_cons (pv 1) pa_nil)) (pa_cons (pv 6) pa_nil))))))
    (pss_one (ps_ret pe_bl)))
    pss_nil)
    (pss_cons (ps_if (pt_cmpR op_eq (pe_ix ix_tup (pv 4) pe_int (fun _ _ => rfl)) pe_str (nomark _))
    (pss_cons (ps_set (i := 7) sc_law_done.nd rfl (Or.inl rfl) (pe_meth0 (pe_ix ix_list (pv 0) (pv 6) (fun _ _ => rfl)) S.cl mA GA hr2 bA .nil pass0))
    (pss_one (ps_set (i := 8) sc_law_done.nd rfl (Or.inl rfl) (pe_cal C_asks free (hr.mono (by decide)) (pa_cons (pv 1) (pa_cons (pv 6) pa_nil))))))
    (pss_one (ps_if (pt_cmpR op_eq (pe_ix ix_tup (pv 4) pe_int (fun _ _ => rfl)) pe_str (nomark _))
    (pss_cons (ps_set (i := 7) sc_law_done.nd rfl (Or.inl rfl) (pe_meth0 (pe_ix ix_list (pv 0) (pv 6) (fun _ _ => rfl)) S.cl mL GL hr2 bL .nil pass0))
    (pss_one (ps_set (i := 8) sc_law_done.nd rfl (Or.inl rfl) (pe_cal C_leaves free (hr.mono (by decide)) (pa_cons (pv 1) (pa_cons (pv 6) pa_nil))))))
    (pss_cons (ps_set (i := 9) sc_law_done.nd rfl (Or.inl rfl) (pe_cal C_taken free (hr.mono (by decide)) (pa_cons (pv 2) (pa_cons (pe_slice sl_tupA (pv 4) (po_some pe_int) po_none) pa_nil))))
    (pss_cons (ps_set (i := 7) sc_law_done.nd rfl (Or.inl rfl) (pe_ifExp (pt_cmpR (op_eqD (u64 hr)) (pv 9) (pe_tup (pa_cons pe_str pa_nil)) (nomark _)) (pe_meth (pe_ix ix_list (pv 0) (pv 6) (fun _ _ => rfl)) S.cl mG GG hr3 bG .nil pass0 (pa_cons (pe_ix ix_tup (pv 4) pe_int (fun _ _ => rfl)) pa_nil)) (pe_meth (pe_ix ix_list (pv 0) (pv 6) (fun _ _ => rfl)) S.cl mH GH hr3 bH .nil pass0 (pa_cons (pe_ix ix_tup (pv 4) pe_int (fun _ _ => rfl)) (pa_cons (pv 9) pa_nil)))))
    (pss_one (ps_set (i := 8) sc_law_done.nd rfl (Or.inl rfl) (pe_cal C_hears free (hr.mono (by decide)) (pa_cons (pv 1) (pa_cons (pe_ix ix_tup (pv 4) pe_int (fun _ _ => rfl)) (pa_cons (pv 6) (pa_cons (pv 9) pa_nil))))))))))))
    (pss_cons (ps_if (pt_not (pt_val (pe_cal C_same free (hr.mono (by decide)) (pa_cons (pv 7) (pa_cons (pv 8) pa_nil)))))
    (pss_one (ps_ret pe_bl))
    pss_nil)
    (pss_cons (ps_expr (pe_cal C_kept free (hr.mono (by decide)) (pa_cons (pv 5) (pa_cons (pv 7) pa_nil))))
    (pss_cons (ps_expr (pe_cal C_put free (hr.mono (by decide)) (pa_cons (pv 2) (pa_cons (pv 3) (pa_cons (pv 6) (pa_cons (pv 8) pa_nil))))))
    (pss_one (ps_ret (pe_cal C_stands free (hr.mono (by decide)) (pa_cons (pe_ix ix_list (pv 0) (pv 6) (fun _ _ => rfl)) (pa_cons (pe_ix ix_list (pv 1) (pv 6) (fun _ _ => rfl)) (pa_cons (pv 6) pa_nil)))))))))))), ?_⟩
  have lcs := W.len
  have lmo : ((((cs.map (·.o)).map V.ref).length : Nat) : Int) = n := by rw [List.length_map, List.length_map, lcs]; omega
  have nfr : fl ≠ rd := fun z => (W.d2 _ (.inl rfl)).1 z.symm
  have goRow : ∀ {s : Int}, 0 ≤ s → s < n → ∃ c, cs[s.toNat]? = some c ∧ atI ((cs.map (·.p)).map V.ref) s = some (.ref c.p) ∧ (cs.map (·.o))[s.toNat]? = some c.o ∧ atI ((cs.map (·.o)).map V.ref) s = some (.ref c.o) := fun {s} s0 s1 => by
    have hl : s.toNat < cs.length := by rw [lcs]; omega
    have e : cs[s.toNat]? = some cs[s.toNat] := List.getElem?_eq_getElem hl
    refine ⟨cs[s.toNat], e, ?_, by rw [List.getElem?_map, e]; rfl, ?_⟩
    · have := atI_nat (xs := (cs.map (·.p)).map V.ref) (j := s.toNat) (v := .ref cs[s.toNat].p) (by rw [List.getElem?_map, List.getElem?_map, e]; rfl)
      rwa [show ((s.toNat : Nat) : Int) = s by omega] at this
    · have := atI_nat (xs := (cs.map (·.o)).map V.ref) (j := s.toNat) (v := .ref cs[s.toNat].o) (by rw [List.getElem?_map, List.getElem?_map, e]; rfl)
      rwa [show ((s.toNat : Nat) : Int) = s by omega] at this
  have T1 := W.monoT (T' := T0 + 300) (by omega)
  obtain ⟨w1, me, xs, hd, h0, h1, s0, s1, kind⟩ : ∃ (w1 : Str) (me : Int) (xs : List V), SqT K H dd xs ∧ atI xs 0 = some (.str w1) ∧ atI xs (-1) = some (.int me) ∧ 0 ≤ me ∧ me < n ∧ (w1 = "fall" ∨ w1 = "ask" ∨ w1 = "leave" ∨ w1 = "carry" ∧ ∃ a v, 0 ≤ a ∧ a < n ∧ valV kvs [.inl a, .inl me] = some (.ref v) ∧ xs = [.str "carry", .int a, .int me]) := by
    rcases dD with ⟨w1, me, hw, s0, s1, rfl⟩ | ⟨a, b, v, hv, rfl⟩
    · refine ⟨w1, me, _, dp_ddS hdd, rfl, rfl, s0, s1, ?_⟩
      rcases hw with rfl | rfl | rfl
      · exact .inr (.inl rfl)
      · exact .inr (.inr (.inl rfl))
      · exact .inl rfl
    · obtain ⟨a', b', la, zs, e', a0, a1, b0, b1, _⟩ := W.R.all _ (valV_mem hv)
      cases e'
      exact ⟨_, b, _, dp_ddC hdd, rfl, rfl, b0, b1, .inr (.inr (.inr ⟨rfl, a, la, a0, a1, hv, rfl⟩))⟩
  refine ⟨_, rfl, _, rfl, dd, _, _, _, rfl, rfl, hd, h1, ?_⟩
  refine ⟨_, rfl, dd, _, _, _, rfl, rfl, hd, h0, rfl, _, rfl, ?_⟩
  rw [dec_str]
  by_cases cf : w1 = "fall"
  · refine iteT' (decide_eq_true cf) ?_
    refine ⟨_, rfl, _, rfl, _, rfl, mo, _, rfl, .inl (SqL.of hmo), ?_⟩
    rw [lmo]
    refine ⟨_, rfl, rd, fl, n, me, T0, kvs, fs, rfl, W.R, W.hf, nfr, fun e he z => (W.d2 fl (.inr ⟨e, he, z⟩)).1 rfl, Nat.le_trans W.lf (by omega), s0, s1, n60, by omega, fun kvs' H1 c1 N1 hf1 R1 => ?_⟩
    obtain ⟨W1, S1⟩ := W.mono.falls c1 N1 hf1 (by rw [List.length_append]; exact Nat.succ_le_succ W.lf) R1
    exact q _ _ _ _ _ (W1.monoT (by omega)) S1 rfl rfl
  refine iteF' (decide_eq_false cf) ?_
  obtain ⟨c, hc, pc, oc, mc'⟩ := goRow s0 s1
  have hme : ((me.toNat : Nat) : Int) = me := by omega
  have A := W.row.all _ _ hc
  rw [hme] at A
  have ndc := A.nd
  simp only [fp31, List.nodup_cons, List.mem_cons, List.not_mem_nil, or_false, not_or] at ndc
  obtain ⟨⟨p1, p2, p3, p4, p5, p6, p7⟩, ⟨a2, a3, a4, a5, a6, a7⟩, ⟨h3, h4, h5, h6, h7⟩, ⟨t4, t5, t6, t7⟩, ⟨o5, o6, o7⟩, ⟨x6, x7⟩, y7, _⟩ := ndc
  have lcsm : (cs.map (·.o)).length = n.toNat := by rw [List.length_map]; exact lcs
  have inr : ∀ {x}, x ∈ fp31 c → rows31 cs x := fun {x} h => ⟨c, List.mem_of_getElem? hc, h⟩
  have mop : mo ≠ c.p := fun z => omo.1 (inr (by rw [z]; simp [fp31]))
  have moo : c.o ≠ mo := fun z => omo.1 (inr (by rw [← z]; simp [fp31]))
  have moh : mo ≠ c.hl := fun z => omo.1 (inr (by rw [z]; simp [fp31]))
  have mot : mo ≠ c.tg := fun z => omo.1 (inr (by rw [z]; simp [fp31]))
  have asm_ : c.st = "asking" → c.ws ≠ [] ∧ ∃ ta tb, c.stp = .ref ta ∧ c.sq = .ref tb ∧ SqT K H ta (c.sn.map V.int) ∧ SqT K H tb (c.sn.map V.int) := fun e => by
    obtain ⟨z1, z2⟩ := A.as_ e
    rcases A.sm with ⟨z3, _⟩ | z3
    · exact absurd z3 z2
    · exact ⟨z1, z3⟩
  have lw9 := A.lw
  have lh9 := A.lh
  have lu9 := A.lu
  apply goJ (fun σ G => ∃ (z9 : Option V) (c' : O31) (kvs' : List (List L2.Key × V)) (T' : Nat) (fo du : Addr) (xo xd : List V) (to : List Int) (w2 : Str) (m2 : Int), σ = [some (V.ref mc), some (V.ref mo), some (V.ref rd), some (V.ref fl), some (V.ref dd), some (V.ref tl), some (V.int me), some (V.ref fo), some (V.ref du), z9] ∧
    W31 K C n (t + 1) T' G rd fl tl (cs.set me.toNat c') kvs' fs es ∧ St31 rd fl tl H cs kvs es G (cs.set me.toNat c') kvs' es ∧ T' ≤ T0 + 1 ∧ c'.p = c.p ∧ c'.o = c.o ∧ H fo = none ∧ H du = none ∧ Out31 rd fl tl (cs.set me.toNat c') kvs' es fo ∧ Out31 rd fl tl (cs.set me.toNat c') kvs' es du ∧ fo ≠ du ∧
    G fo = some (.lst xo) ∧ G du = some (.lst xd) ∧ DpAll K G xo (to.map (yesD w2 m2)) ∧ DpAll K G xd (to.map (yesD w2 m2)) ∧ (w2 = "ask" ∨ w2 = "yes") ∧ to.length ≤ 250 ∧ ∀ x ∈ to, 0 ≤ x ∧ x < n)
  · intro J
    rcases kind with rfl | rfl | rfl | ⟨rfl, a, la, a0, a1, hv, rfl⟩
    · exact absurd rfl cf
    · refine ⟨_, rfl, dd, _, _, _, rfl, rfl, hd, h0, rfl, _, rfl, iteT' (by rw [dec_str]; decide +kernel) ?_⟩
      refine ⟨_, rfl, _, rfl, mc, _, _, _, rfl, rfl, SqL.of hmc, pc, c.p, c.dx, _, rfl, A.hp, (stF_no _ _ _ _ _ _ _ _ _ (by decide +kernel) (by decide +kernel) (by decide +kernel) (by decide +kernel) (by decide +kernel) (by decide +kernel) (by decide +kernel) (by decide +kernel) (by decide +kernel)), c.p, c.dx, me, c.st, c.si, c.cnt, c.stp, n, c.aw, c.hl, c.tg, c.ts, rfl, A.hp, A.ht, by rw [A.pm.length_eq]; omega, by omega, by omega, fun l aw' tp H1 xo l0 aw0 nla c1 kl dl ka kt kp => ?_⟩
      have ho1 := c1 _ _ (fun z => p4 z.symm) A.ho
      refine ⟨_, rfl, _, rfl, mo, cs.map (·.o), n, me, c.o, c.d3, c.d4, c.d5, c.cnt, c.sq, c.st, c.us, rfl, c1 _ _ mop hmo, lcsm, s0, s1, n60, oc, ho1, c1 _ _ (fun z => p7 z.symm) A.h5, moo, o7, fun du xd d3' tq H2 c2 d30 du0 nud k2o k2d kq kdu ddu => ?_⟩
      obtain ⟨c', D⟩ := A.asks (du := du) n60 c1 l0 aw0 nla ⟨_, kl⟩ ka kt kp c2 d30 du0 nud k2o k2d kq
      obtain ⟨W1, S1⟩ := W.seat hc D.ch (by rw [hme]; exact D.at_) D.nw
      rw [others_perm A.pm] at dl
      exact J _ _ ⟨_, c', kvs, T0, l, du, xo, xd, others n (me :: c.us), "ask", c.cnt + 1, rfl, W1, S1, by omega, D.ep, D.eo, l0, D.du0, W.outNew l0 D.nl, W.outNew D.du0 D.nu, D.lu, c2 _ _ (fun z => by rw [z, A.ho] at l0; cases l0) kl, kdu, dps_sqt (sqt_chgL ho1 c2) _ _ (noLs_yes _ _ _) dl, ddu, .inl rfl, Nat.le_trans (others_len _ _) (by omega), fun x hx => others_rg hx⟩
    · refine ⟨_, rfl, dd, _, _, _, rfl, rfl, hd, h0, rfl, _, rfl, iteF' (by rw [dec_str]; decide +kernel) ?_⟩
      refine ⟨_, rfl, dd, _, _, _, rfl, rfl, hd, h0, rfl, _, rfl, iteT' (by rw [dec_str]; decide +kernel) ?_⟩
      refine ⟨_, rfl, _, rfl, mc, _, _, _, rfl, rfl, SqL.of hmc, pc, c.p, c.dx, _, rfl, A.hp, (stF_no _ _ _ _ _ _ _ _ _ (by decide +kernel) (by decide +kernel) (by decide +kernel) (by decide +kernel) (by decide +kernel) (by decide +kernel) (by decide +kernel) (by decide +kernel) (by decide +kernel)), c.p, c.dx, me, c.st, c.si, c.cnt, c.stp, n, c.aw, c.hl, c.tg, c.hs, rfl, A.hp, A.hh, by omega, fun l hl' H1 xo l0 hl0 nla c1 kl dl ka kp => ?_⟩
      have ho1 := c1 _ _ (fun z => p4 z.symm) A.ho
      refine ⟨_, rfl, _, rfl, mo, cs.map (·.o), n, me, c.o, c.d3, c.d4, c.d5, c.cnt, c.sq, c.st, c.hs, rfl, c1 _ _ mop hmo, lcsm, s0, s1, oc, ho1, c1 _ _ (fun z => p6 z.symm) A.h4, o6, by omega, fun du xd d4' H2 c2 d40 du0 nud k2o k2d kdu ddu => ?_⟩
      obtain ⟨c', D⟩ := A.leaves (du := du) c1 l0 hl0 nla ⟨_, kl⟩ ka kp c2 d40 du0 nud k2o k2d
      obtain ⟨W1, S1⟩ := W.seat hc D.ch (by rw [hme]; exact D.at_) D.nw
      exact J _ _ ⟨_, c', kvs, T0, l, du, xo, xd, c.hs, "yes", c.cnt, rfl, W1, S1, by omega, D.ep, D.eo, l0, D.du0, W.outNew l0 D.nl, W.outNew D.du0 D.nu, D.lu, c2 _ _ (fun z => by rw [z, A.ho] at l0; cases l0) kl, kdu, dps_sqt (sqt_chgL ho1 c2) _ _ (noLs_yes _ _ _) dl, ddu, .inr rfl, by omega, A.rg⟩
    · refine ⟨_, rfl, dd, _, _, _, rfl, rfl, hd, h0, rfl, _, rfl, iteF' (by rw [dec_str]; decide +kernel) ?_⟩
      refine ⟨_, rfl, dd, _, _, _, rfl, rfl, hd, h0, rfl, _, rfl, iteF' (by rw [dec_str]; decide +kernel) ?_⟩
      refine ⟨_, rfl, _, rfl, _, rfl, dd, _, rfl, hd, (fun z => absurd z.1 (show ¬ HT.sIx 3 0 (some 1) = 0 by decide)), fun _ kd hkd => ?_⟩
      rw [cut1w]
      have u0 := same_upd (o := .tup [.int a, .int me]) hkd
      have kkd : upd H kd (.tup [.int a, .int me]) kd = some (.tup [.int a, .int me]) := upd_same
      obtain ⟨G0, eG0⟩ : ∃ G0, G0 = upd H kd (.tup [.int a, .int me]) := ⟨_, rfl⟩
      rw [← eG0] at u0 kkd
      rw [← eG0]
      clear eG0
      have W0 := W.same u0
      refine ⟨rd, kd, la, n, a, me, T0, kvs, rfl, W0.R, kkd, hv, by omega, fun v d kvs1 G1 cr N1 ld hd1 R1 => ?_⟩
      obtain ⟨Wr, Sr⟩ := W0.roads cr N1 R1
      have S01 := (St31.of u0).trans Sr
      have A1 := Wr.row.all _ _ hc
      rw [hme] at A1
      have hmc1 := (S01 _ _ hmc omc).1
      obtain ⟨hmo1, omo1⟩ := S01 _ _ hmo omo
      have hd1' : SqT K G1 dd [.str "carry", .int a, .int me] := sqt_chgT W0.R.at_ cr _ _ (sqt_same u0 hd)
      have asm1 : c.st = "asking" → c.ws ≠ [] ∧ ∃ ta tb, c.stp = .ref ta ∧ c.sq = .ref tb ∧ SqT K G1 ta (c.sn.map V.int) ∧ SqT K G1 tb (c.sn.map V.int) := fun e => by
        obtain ⟨z1, ta, tb, e1, e2, q1, q2⟩ := asm_ e
        exact ⟨z1, ta, tb, e1, e2, sqt_chgT W0.R.at_ cr _ _ (sqt_same u0 q1), sqt_chgT W0.R.at_ cr _ _ (sqt_same u0 q2)⟩
      have back1 : ∀ x, G1 x = none → H x = none := fun x z => none_same u0 (chg_none cr R1.at_ x z)
      clear hmc hmo hd asm_ A
      obtain ⟨lt, rfl⟩ : ∃ lt, v = .ref lt := by
        rcases ld with rfl | ⟨c2, rfl | rfl⟩ <;> cases hd1 <;> exact ⟨_, rfl⟩
      refine ⟨_, rfl, by show 1 ≤ sizeLine; decide, fun tg htg => ?_⟩
      have u1 := same_upd (o := .tup [.str "gone"]) htg
      have ktg : upd G1 tg (.tup [.str "gone"]) tg = some (.tup [.str "gone"]) := upd_same
      obtain ⟨G2, eG2⟩ : ∃ G2, G2 = upd G1 tg (.tup [.str "gone"]) := ⟨_, rfl⟩
      rw [← eG2] at u1 ktg
      rw [← eG2]
      clear eG2
      have W2 := Wr.same u1
      have S02 := S01.trans (St31.of u1)
      have A2 := W2.row.all _ _ hc
      rw [hme] at A2
      have hmc2 := u1 _ _ hmc1
      have hmo2 := u1 _ _ hmo1
      have hd2 := sqt_same u1 hd1'
      have asm2 : c.st = "asking" → c.ws ≠ [] ∧ ∃ ta tb, c.stp = .ref ta ∧ c.sq = .ref tb ∧ SqT K G2 ta (c.sn.map V.int) ∧ SqT K G2 tb (c.sn.map V.int) := fun e => by
        obtain ⟨z1, ta, tb, e1, e2, q1, q2⟩ := asm1 e
        exact ⟨z1, ta, tb, e1, e2, sqt_same u1 q1, sqt_same u1 q2⟩
      have back2 : ∀ x, G2 x = none → H x = none := fun x z => back1 x (none_same u1 z)
      have hd2' := dp_same u1 d _ hd1
      clear asm1 hmc1 hmo1 hd1' hd1 A1 Wr S01 Sr
      have mw : ∀ x ∈ fp31 c, MutW G2 x := fun x hx => obj31.mutw A2 x hx
      rcases ld with rfl | ⟨m2, rfl | rfl⟩
      · have hlt : SqT K G2 lt [.str "gone"] := by
          cases hd2' with
          | tup h1 h2 => cases h2 with
            | cons h3 h4 => cases h3; cases h4; exact h1
        refine ⟨ltG, ltG, hd2', .tup (SqT.of ktg) (.cons (.str _) .nil), by decide +kernel, by decide +kernel, _, rfl, ?_⟩
        rw [show PyData.eqv ltG ltG = true by decide +kernel]
        refine iteT' rfl ?_
        refine ⟨_, rfl, _, rfl, mc, _, _, _, rfl, rfl, SqL.of hmc2, pc, c.p, c.dx, _, rfl, A2.hp, (stF_no _ _ _ _ _ _ _ _ _ (by decide +kernel) (by decide +kernel) (by decide +kernel) (by decide +kernel) (by decide +kernel) (by decide +kernel) (by decide +kernel) (by decide +kernel) (by decide +kernel)), _, rfl, dd, _, _, _, rfl, rfl, hd2, atI_nat (j := 1) rfl, c.p, c.dx, me, c.st, c.si, c.cnt, c.stp, n, c.aw, c.hl, c.tg, c.ws, c.hs, c.ts, a, rfl, A2.stm, by omega, by omega, by rw [A2.pm.length_eq]; omega, fun l hl' aw' H1 l0 hl0 aw0 nlh nla nha c1 kl kh ka kt kp => ?_⟩
        have k1 : ∀ x o, x ≠ c.p → x ≠ c.hl → x ≠ c.tg → G2 x = some o → H1 x = some o := fun x o n1 _ n3 e => c1 _ _ (by simp only [List.mem_cons, List.not_mem_nil, or_false, not_or]; exact ⟨n1, n3⟩) e
        have sq1 : ∀ a xs, SqT K G2 a xs → SqT K H1 a xs := sqt_chgW c1 fun x hx => mw x (by
          simp only [List.mem_cons, List.not_mem_nil, or_false] at hx
          rcases hx with rfl | rfl <;> simp [fp31])
        have ho1 := k1 _ _ (fun z => p4 z.symm) (fun z => h4 z.symm) (fun z => t4 z.symm) A2.ho
        refine ⟨_, rfl, _, rfl, dd, _, _, _, rfl, rfl, sq1 _ _ hd2, atI_nat (j := 1) rfl, _, rfl, _, rfl, mo, cs.map (·.o), n, a, me, c.o, c.d3, c.d4, c.d5, lt, c.cnt, c.sq, c.st, c.ws, c.hs, c.us, rfl, k1 _ _ mop moh mot hmo2, lcsm, s0, s1, oc, ho1, k1 _ _ (fun z => p5 z.symm) (fun z => h5 z.symm) (fun z => t5 z.symm) A2.h3, k1 _ _ (fun z => p6 z.symm) (fun z => h6 z.symm) (fun z => t6 z.symm) A2.h4, k1 _ _ (fun z => p7 z.symm) (fun z => h7 z.symm) (fun z => t7 z.symm) A2.h5, o5, o6, o7, by omega, by omega, by omega, ?_⟩
        refine .inr (.inr ⟨sq1 _ _ hlt, fun du d3' d4' d5' us' H2 c2 d30 d40 d50 du0 nd pm pw ko kd3 kd4 kd5 kdu => ?_⟩)
        simp only [List.nodup_cons, List.mem_cons, List.not_mem_nil, or_false, not_or, not_false_eq_true, List.nodup_nil, and_true] at nd
        obtain ⟨c', D⟩ := A2.hearsGone (du := du) (l := l) c1 l0 aw0 hl0 nla nlh nha ⟨_, kl⟩ ka kh kt kp c2 d30 d40 d50 du0 nd.1.1 nd.1.2.1 nd.1.2.2 nd.2.1.1 nd.2.1.2 nd.2.2 pm pw ko kd3 kd4 kd5
        obtain ⟨W3, S3⟩ := W2.seat hc D.ch (by rw [hme]; exact D.at_) D.nw
        exact J _ _ ⟨_, c', kvs1, T0 + 1, l, du, [], [], [], "yes", 0, rfl, W3, S02.trans S3, by omega, D.ep, D.eo, back2 _ l0, back2 _ D.du0, W2.outNew l0 D.nl, W2.outNew D.du0 D.nu, D.lu, c2 _ _ (fun z => by rw [z, A2.ho] at l0; cases l0) kl, kdu, .nil, .nil, .inr rfl, by exact Nat.zero_le _, fun x hx => nomatch hx⟩
      · have hlt : SqT K G2 lt [.str "ask", .int m2] := by
          cases hd2' with
          | tup h1 h2 => cases h2 with
            | cons h3 h4 => cases h3; cases h4 with
              | cons h5 h6 => cases h5; cases h6; exact h1
        refine ⟨ltD31 "ask" m2, ltG, hd2', .tup (SqT.of ktg) (.cons (.str _) .nil), shp_lt _ _ (by decide +kernel), by decide +kernel, _, rfl, ?_⟩
        rw [eq_ltG]
        refine iteF' rfl ?_
        refine ⟨_, rfl, _, rfl, mc, _, _, _, rfl, rfl, SqL.of hmc2, pc, c.p, c.dx, _, rfl, A2.hp, (stF_no _ _ _ _ _ _ _ _ _ (by decide +kernel) (by decide +kernel) (by decide +kernel) (by decide +kernel) (by decide +kernel) (by decide +kernel) (by decide +kernel) (by decide +kernel) (by decide +kernel)), _, rfl, dd, _, _, _, rfl, rfl, hd2, atI_nat (j := 1) rfl, _, rfl, c.p, c.dx, me, c.st, c.si, c.cnt, c.stp, n, c.aw, c.hl, c.tg, lt, c.ws, c.hs, c.sn, a, m2, true, rfl, A2.hp, A2.ha, A2.hh, by omega, by omega, (fun e => have z := asm2 e; have ⟨_, ta, _, e1, _, q1, _⟩ := z; ⟨ta, e1, q1⟩), hlt, ?_⟩
        refine iteT ?_
        by_cases hB : holdB c.st c.sn m2 a = true
        · rw [if_pos hB]
          intro l H1 l0 kl kh kp c1
          have k1 : ∀ x o, x ≠ c.p → x ≠ c.hl → x ≠ c.tg → G2 x = some o → H1 x = some o := fun x o n1 n2 _ e => c1 _ _ (by simp only [List.mem_cons, List.not_mem_nil, or_false, not_or]; exact ⟨n1, n2⟩) e
          have sq1 : ∀ a xs, SqT K G2 a xs → SqT K H1 a xs := sqt_chgW c1 fun x hx => mw x (by
            simp only [List.mem_cons, List.not_mem_nil, or_false] at hx
            rcases hx with rfl | rfl <;> simp [fp31])
          have ho1 := k1 _ _ (fun z => p4 z.symm) (fun z => h4 z.symm) (fun z => t4 z.symm) A2.ho
          refine ⟨_, rfl, _, rfl, dd, _, _, _, rfl, rfl, sq1 _ _ hd2, atI_nat (j := 1) rfl, _, rfl, _, rfl, mo, cs.map (·.o), n, a, me, c.o, c.d3, c.d4, c.d5, lt, c.cnt, c.sq, c.st, c.ws, c.hs, c.us, rfl, k1 _ _ mop moh mot hmo2, lcsm, s0, s1, oc, ho1, k1 _ _ (fun z => p5 z.symm) (fun z => h5 z.symm) (fun z => t5 z.symm) A2.h3, k1 _ _ (fun z => p6 z.symm) (fun z => h6 z.symm) (fun z => t6 z.symm) A2.h4, k1 _ _ (fun z => p7 z.symm) (fun z => h7 z.symm) (fun z => t7 z.symm) A2.h5, o5, o6, o7, by omega, by omega, by omega, ?_⟩
          refine .inl ⟨m2, c.sn, sq1 _ _ hlt, (fun e => have z := asm2 e; have ⟨z1, _, tb, _, e2, _, q2⟩ := z; ⟨z1, tb, e2, sq1 _ _ q2⟩), ?_⟩
          rw [if_pos hB]
          intro du d4' H2 c2 d40 du0 nud ko kd kdu
          obtain ⟨c', D⟩ := A2.holdsAsk (du := du) (l := l) c1 l0 ⟨_, kl⟩ kh a0 a1 kp c2 d40 du0 nud ko kd
          obtain ⟨W3, S3⟩ := W2.seat hc D.ch (by rw [hme]; exact D.at_) D.nw
          exact J _ _ ⟨_, c', kvs1, T0 + 1, l, du, [], [], [], "yes", 0, rfl, W3, S02.trans S3, by omega, D.ep, D.eo, back2 _ l0, back2 _ D.du0, W2.outNew l0 D.nl, W2.outNew D.du0 D.nu, D.lu, c2 _ _ (fun z => by rw [z, A2.ho] at l0; cases l0) kl, kdu, .nil, .nil, .inr rfl, by exact Nat.zero_le _, fun x hx => nomatch hx⟩
        · rw [if_neg hB]
          intro l tt t1 H1 l0 c1 kp kl ktt kt1
          have k1 : ∀ x o, x ≠ c.p → x ≠ c.hl → x ≠ c.tg → G2 x = some o → H1 x = some o := fun x o n1 _ _ e => c1 _ _ n1 e
          have sq1 : ∀ a xs, SqT K G2 a xs → SqT K H1 a xs := fun a xs h => sqt_chgI A2.hp c1 h
          have ho1 := k1 _ _ (fun z => p4 z.symm) (fun z => h4 z.symm) (fun z => t4 z.symm) A2.ho
          have dxo : DpAll K H1 [.ref tt] ([a].map (yesD "yes" (maxI c.cnt m2))) := .cons (dp_yes (SqT.of ktt) (SqT.of kt1)) .nil
          refine ⟨_, rfl, _, rfl, dd, _, _, _, rfl, rfl, sq1 _ _ hd2, atI_nat (j := 1) rfl, _, rfl, _, rfl, mo, cs.map (·.o), n, a, me, c.o, c.d3, c.d4, c.d5, lt, c.cnt, c.sq, c.st, c.ws, c.hs, c.us, rfl, k1 _ _ mop moh mot hmo2, lcsm, s0, s1, oc, ho1, k1 _ _ (fun z => p5 z.symm) (fun z => h5 z.symm) (fun z => t5 z.symm) A2.h3, k1 _ _ (fun z => p6 z.symm) (fun z => h6 z.symm) (fun z => t6 z.symm) A2.h4, k1 _ _ (fun z => p7 z.symm) (fun z => h7 z.symm) (fun z => t7 z.symm) A2.h5, o5, o6, o7, by omega, by omega, by omega, ?_⟩
          refine .inl ⟨m2, c.sn, sq1 _ _ hlt, (fun e => have z := asm2 e; have ⟨z1, _, tb, _, e2, _, q2⟩ := z; ⟨z1, tb, e2, sq1 _ _ q2⟩), ?_⟩
          rw [if_neg hB]
          intro du xd H2 c2 du0 ko kdu ddu
          obtain ⟨c', D⟩ := A2.givesYes (du := du) (l := l) c1 l0 ⟨_, kl⟩ kp c2 du0 ko
          obtain ⟨W3, S3⟩ := W2.seat hc D.ch (by rw [hme]; exact D.at_) D.nw
          exact J _ _ ⟨_, c', kvs1, T0 + 1, l, du, [.ref tt], xd, [a], "yes", (maxI c.cnt m2), rfl, W3, S02.trans S3, by omega, D.ep, D.eo, back2 _ l0, back2 _ D.du0, W2.outNew l0 D.nl, W2.outNew D.du0 D.nu, D.lu, c2 _ _ (fun z => by rw [z, A2.ho] at l0; cases l0) kl, kdu, dps_sqt (sqt_chgL ho1 c2) _ _ (noLs_yes _ _ _) dxo, ddu, .inr rfl, by show 1 ≤ 250; omega, fun x hx => by rw [List.mem_singleton.mp hx]; exact ⟨a0, a1⟩⟩
      · have hlt : SqT K G2 lt [.str "yes", .int m2] := by
          cases hd2' with
          | tup h1 h2 => cases h2 with
            | cons h3 h4 => cases h3; cases h4 with
              | cons h5 h6 => cases h5; cases h6; exact h1
        refine ⟨ltD31 "yes" m2, ltG, hd2', .tup (SqT.of ktg) (.cons (.str _) .nil), shp_lt _ _ (by decide +kernel), by decide +kernel, _, rfl, ?_⟩
        rw [eq_ltG]
        refine iteF' rfl ?_
        refine ⟨_, rfl, _, rfl, mc, _, _, _, rfl, rfl, SqL.of hmc2, pc, c.p, c.dx, _, rfl, A2.hp, (stF_no _ _ _ _ _ _ _ _ _ (by decide +kernel) (by decide +kernel) (by decide +kernel) (by decide +kernel) (by decide +kernel) (by decide +kernel) (by decide +kernel) (by decide +kernel) (by decide +kernel)), _, rfl, dd, _, _, _, rfl, rfl, hd2, atI_nat (j := 1) rfl, _, rfl, c.p, c.dx, me, c.st, c.si, c.cnt, c.stp, n, c.aw, c.hl, c.tg, lt, c.ws, c.hs, c.sn, a, m2, false, rfl, A2.hp, A2.ha, A2.hh, by omega, by omega, (fun e => have z := asm2 e; have ⟨_, ta, _, e1, _, q1, _⟩ := z; ⟨ta, e1, q1⟩), hlt, ?_⟩
        refine iteF fun l aw' H1 l0 aw0 nla c1 kl ka kp => ?_
        have k1 : ∀ x o, x ≠ c.p → x ≠ c.hl → x ≠ c.tg → G2 x = some o → H1 x = some o := fun x o n1 _ _ e => c1 _ _ n1 e
        have sq1 : ∀ a xs, SqT K G2 a xs → SqT K H1 a xs := fun a xs h => sqt_chgI A2.hp c1 h
        have ho1 := k1 _ _ (fun z => p4 z.symm) (fun z => h4 z.symm) (fun z => t4 z.symm) A2.ho
        refine ⟨_, rfl, _, rfl, dd, _, _, _, rfl, rfl, sq1 _ _ hd2, atI_nat (j := 1) rfl, _, rfl, _, rfl, mo, cs.map (·.o), n, a, me, c.o, c.d3, c.d4, c.d5, lt, c.cnt, c.sq, c.st, c.ws, c.hs, c.us, rfl, k1 _ _ mop moh mot hmo2, lcsm, s0, s1, oc, ho1, k1 _ _ (fun z => p5 z.symm) (fun z => h5 z.symm) (fun z => t5 z.symm) A2.h3, k1 _ _ (fun z => p6 z.symm) (fun z => h6 z.symm) (fun z => t6 z.symm) A2.h4, k1 _ _ (fun z => p7 z.symm) (fun z => h7 z.symm) (fun z => t7 z.symm) A2.h5, o5, o6, o7, by omega, by omega, by omega, ?_⟩
        refine .inr (.inl ⟨m2, sq1 _ _ hlt, fun du d3' H2 c2 d30 du0 nud ko kd kdu => ?_⟩)
        obtain ⟨c', D⟩ := A2.hearsYes (du := du) (l := l) c1 l0 aw0 nla ⟨_, kl⟩ ka kp c2 d30 du0 nud ko kd
        obtain ⟨W3, S3⟩ := W2.seat hc D.ch (by rw [hme]; exact D.at_) D.nw
        exact J _ _ ⟨_, c', kvs1, T0 + 1, l, du, [], [], [], "yes", 0, rfl, W3, S02.trans S3, by omega, D.ep, D.eo, back2 _ l0, back2 _ D.du0, W2.outNew l0 D.nl, W2.outNew D.du0 D.nu, D.lu, c2 _ _ (fun z => by rw [z, A2.ho] at l0; cases l0) kl, kdu, .nil, .nil, .inr rfl, by exact Nat.zero_le _, fun x hx => nomatch hx⟩
  · rintro σ G ⟨z9, c', kvs', T', fo, du, xo, xd, to, w2, m2, rfl, W1, S1, hT, ep, eo, fo0, du0, ofo, odu, nfd, kfo, kdu, dfo, ddu, hw2, lto, rto⟩
    refine ⟨_, rfl, _, rfl, .ref fo, .ref du, _, rfl, lw_yess31 w2 m2 to (by omega), .lst (SqL.of kfo) dfo, .lst (SqL.of kdu) ddu, fun G3 s3 => ?_⟩
    refine ⟨_, rfl, iteF' rfl ?_⟩
    have W3 := W1.same s3
    have kfo3 := s3 _ _ kfo
    have lxo : xo.length = to.length := by rw [dps_len dfo, List.length_map]
    refine ⟨_, rfl, _, rfl, tl, fo, es, xo, _, rfl, W3.To, kfo3, dps_same s3 _ _ dfo, (fun d hd => by
      obtain ⟨k, _, rfl⟩ := List.mem_map.mp hd
      exact ⟨w2, m2, k, hw2, rfl⟩), by omega, (fun z => ofo.2.2.2 (.inl z)), (fun z => ofo.2.2.2 (.inr z)), fun es4 H4 c4 To4 nw4 => ?_⟩
    obtain ⟨W4, S4⟩ := W3.keeps ofo kfo3 c4 To4 nw4
    have sq4 : ∀ a xs, SqT K G3 a xs → SqT K H4 a xs := mutL_sqt (fun x hx => by
      simp only [List.mem_cons, List.not_mem_nil, or_false] at hx
      rcases hx with rfl | rfl
      · exact ⟨_, W3.To.at_⟩
      · exact ⟨_, kfo3⟩) c4
    obtain ⟨kdu4, odu4⟩ := S4 _ _ (s3 _ _ kdu) nfd.symm odu
    have ddu4 := dps_sqt sq4 _ _ (noLs_yes _ _ _) (dps_same s3 _ _ ddu)
    rw [← zip_yes] at ddu4
    refine ⟨_, rfl, _, rfl, _, rfl, _, rfl, rd, fl, du, n, me, T', kvs', fs, xd, to, List.replicate to.length (ltD31 w2 m2), rfl, W4.R, W4.hf, nfr, Nat.le_trans W4.lf (by omega), (fun z => odu4.2.1 (.inl z)), s0, s1, kdu4, ddu4, by rw [List.length_replicate], rto, (fun d hd => by
      rw [(List.mem_replicate.mp hd).2]
      exact .inr ⟨m2, hw2.imp (fun z => by rw [z]) (fun z => by rw [z])⟩), by omega, fun kvs5 H5 c5 N5 R5 => ?_⟩
    obtain ⟨W5, S5⟩ := W4.roads c5 N5 R5
    have S15 : ∀ x o, H x = some o → Out31 rd fl tl cs kvs es x → H5 x = some o ∧ Out31 rd fl tl (cs.set me.toNat c') kvs5 es4 x := fun x o e nx => by
      obtain ⟨e1, n1⟩ := S1 x o e nx
      obtain ⟨e4, n4⟩ := S4 x o (s3 _ _ e1) (fun z => by rw [z, fo0] at e; cases e) n1
      exact S5 x o e4 n4
    have hl : me.toNat < cs.length := by rw [lcs]; omega
    have A5 := W5.row.all _ c' (by rw [List.getElem?_set, if_pos rfl, if_pos hl])
    rw [hme] at A5
    refine ⟨_, rfl, _, rfl, mc, _, _, _, rfl, rfl, SqL.of (S15 _ _ hmc omc).1, (pc.trans (by rw [ep])), _, rfl, _, rfl, mo, _, _, _, rfl, rfl, SqL.of (S15 _ _ hmo omo).1, (mc'.trans (by rw [eo])), _, rfl, n, me, t + 1, c', rfl, A5, by omega, fun H6 s6 => ?_⟩
    have mp : ∀ g : O31 → Addr, g c' = g c → (cs.set me.toNat c').map g = cs.map g := fun g e => by
      rw [List.map_set, e]
      refine List.ext_getElem? fun j => ?_
      rw [List.getElem?_set]
      by_cases hj : me.toNat = j
      · rw [if_pos hj, if_pos (by rw [List.length_map]; omega), ← hj, List.getElem?_map, hc]
        rfl
      · rw [if_neg hj]
    exact q _ _ _ _ _ ((W5.same s6).monoT (by omega)) (fun x o e nx => have z := S15 x o e nx; ⟨s6 _ _ z.1, z.2⟩) (mp _ ep) (mp _ eo)
end

end G0
namespace G0
open PySem PySem.Spec PyProof.Rows L2
set_option maxHeartbeats 8000000
set_option pp.deepTerms.threshold 3
def tDead : TS := fun _ _ _ => False
theorem ps_dead {X : Cx} {st : Stmt} : PS X st tDead := ⟨fun _ _ _ _ _ _ h => h.elim⟩
theorem for_enum {K : PySem.W.Frag} {a : Addr} {xs : List V} {g : TG} {tb : TS} {D : Ends} {σ : L2.St} {H : Hp} (Pv : Nat → L2.St → Hp → Prop) (h0 : Pv 0 σ H) (here : ∀ i σ H, Pv i σ H → SqL K H a xs)
    (turn : ∀ i x (t : Addr) σ H, xs[i]? = some x → Pv i σ H → H t = none → g (.ref t) σ (upd H t (.tup [.int (i : Nat), x])) fun σ2 H2 => tb { D with nx := Pv (i + 1), ct := Pv (i + 1), bk := D.nx } σ2 H2) (done : ∀ σ H, Pv xs.length σ H → D.nx σ H) :
    ∃ W : Nat → Nat → L2.St → Hp → Prop, (∃ m, W 0 m σ H) ∧ ∀ i m σ H, W i m σ H →
      ((Ite K a).stop i H ∧ D.nx σ H) ∨ ((Ite K a).go i H ∧ ∃ N : L2.St → Hp → Prop, (∀ σ' H', N σ' H' → ∃ m', m' < m ∧ W (i + 1) m' σ' H') ∧ ∀ x H', (Ite K a).yld i H x H' → g x σ H' fun σ2 H2 => tb { D with nx := N, ct := N, bk := D.nx } σ2 H2) := by
  refine ⟨fun i m σ H => m = xs.length - i ∧ i ≤ xs.length ∧ Pv i σ H, ⟨_, rfl, Nat.zero_le _, h0⟩, ?_⟩
  rintro i m σ H ⟨rfl, le, pv⟩
  have sq := here i σ H pv
  rcases Nat.lt_or_ge i xs.length with lt | ge
  · refine .inr ⟨⟨xs, xs[i], sq, List.getElem?_eq_getElem lt⟩, Pv (i + 1), fun σ' H' p' => ⟨xs.length - (i + 1), by omega, rfl, lt, p'⟩, fun v H' told => ?_⟩
    obtain ⟨t, x, rfl, ht, rfl, all⟩ := told
    exact turn i x t σ H (all xs sq) pv ht
  · have e : i = xs.length := by omega
    subst e
    exact .inl ⟨⟨xs, sq, Nat.le_refl _⟩, done σ H pv⟩
section
variable {P : Program} {w : World} {K : PySem.W.Frag} {mg : Str → Option Value} {base : Heap} {C : Addr}
structure BlV (mg : Str → Option Value) : Prop where
  isinstance : mg "isinstance" = none
  int : mg "int" = none
  bool : mg "bool" = none
  list : mg "list" = none
  tuple : mg "tuple" = none
  enumerate : mg "enumerate" = none
  len : mg "len" = none
  range : mg "range" = none
  seats : ∃ t, mg "SEATS" = some (.int 60 t)
  top : ∃ t, mg "TOP" = some (.int 10000000000000000000000000000000000000000 t)
  first : ∃ t, mg "FIRST" = some (.int 0 t)
/-! ### is_below, look_at_many, _counts_fault -/
def spBel : Sp := fun vs H Q _ => ∃ x n : Int, vs = [.int x, .int n] ∧ Q (.bl (decide (0 ≤ x) && decide (x < n))) H
theorem sc_is_below : FnScope ["thing", "top"] ["thing", "top"] (defScope s_is_below) :=
  ⟨rfl, rfl, rfl, by decide +kernel, rfl, by decide +kernel, by decide +kernel⟩
theorem ok_bel (F : Fn K mg "is_below" s_is_below) (T : BlV mg) : Cal P w K mg base "is_below" 1 ["thing", "top"] spBel := by
  refine cal_of F sc_is_below
    (fun _ _ _ _ _ _ us hl => match us, hl with | [_, _], _ => rfl) ?_ ?_
  · rintro vs H Q E ⟨x, n, rfl, _⟩
    rfl
  rintro f cdv A outer s H vs Q E free hr ⟨x, n, rfl, q⟩
  refine ⟨_, (pss_one (ps_ret (pe_and (pe_callB call_isi (by rfl) T.isinstance (by decide +kernel) (pa_cons (pv 0) (pa_cons (pe_bltn (v := .ty "int") (by rfl) T.int (by decide +kernel) rfl) pa_nil))) (pe_and (pe_not (pe_callB call_isi (by rfl) T.isinstance (by decide +kernel) (pa_cons (pv 0) (pa_cons (pe_bltn (v := .ty "bool") (by rfl) T.bool (by decide +kernel) rfl) pa_nil)))) (pe_one (pe_chain op_le op_lt pe_int (pv 0) (pv 1))))))), ?_⟩
  refine ⟨_, rfl, _, .ty "int", _, _, _, rfl, .ty _, .base (.int x), kit_ty (r := true) (by decide +kernel), _, rfl, iteT' rfl ?_⟩
  refine ⟨_, rfl, _, .ty "bool", _, _, _, rfl, .ty _, .base (.int x), kit_ty (r := false) (by decide +kernel), _, rfl, _, rfl, iteT' rfl ?_⟩
  refine ⟨_, rfl, _, _, rfl, rfl, _, rfl, ?_⟩
  refine ite2 (fun c => ⟨_, rfl, _, _, rfl, rfl, ?_⟩) (fun c => ?_)
  · have c' : decide (0 ≤ x) = true := c
    rw [c'] at q
    exact q
  · have c' : decide (0 ≤ x) = false := by simpa using c
    rw [c'] at q
    exact q
def spMany : Sp := fun vs H Q _ => ∃ n : Int, vs = [.int n] ∧ 1 ≤ n ∧ n ≤ 60 ∧ Q .non H
theorem sc_look_at_many : FnScope ["seats"] ["seats"] (defScope s_look_at_many) :=
  ⟨rfl, rfl, rfl, by decide +kernel, rfl, by decide +kernel, by decide +kernel⟩
theorem ok_many (F : Fn K mg "look_at_many" s_look_at_many) (T : BlV mg) (Cis_below : Cal P w K mg base "is_below" 1 ["thing", "top"] spBel) : Cal P w K mg base "look_at_many" 2 ["seats"] spMany := by
  obtain ⟨ts, hS⟩ := T.seats
  refine cal_of F sc_look_at_many
    (fun _ _ _ _ _ _ us hl => match us, hl with | [_], _ => rfl) ?_ ?_
  · rintro vs H Q E ⟨n, rfl, _⟩
    rfl
  rintro f cdv A outer s H vs Q E free hr ⟨n, rfl, n1, n60, q⟩
  refine ⟨_, (pss_one (ps_if (PW.pt (pw_or (pt_not (pt_val (pe_cal Cis_below free (hr.mono (by decide)) (pa_cons (pv 0) (pa_cons (pe_op op_add (pe_glob (v := .int 60) (by rfl) hS ⟨_, rfl⟩) pe_int) pa_nil))))) (pw_or1 (pt_cmpR op_eq (pv 0) pe_int (nomark _)))))
    (pss_one ps_dead)
    pss_nil)), ?_⟩
  refine ⟨_, rfl, _, _, rfl, rfl, n, 60 + 1, rfl, _, rfl, ?_⟩
  refine iteF' (by simp; omega) ?_
  refine ⟨_, rfl, rfl, _, rfl, ?_⟩
  exact iteF' (by rw [dec_ii]; exact decide_eq_false (by omega)) q
def spCountF (K : PySem.W.Frag) : Sp := fun vs H Q _ => ∃ (n : Int) (l : Addr) (cs : List Int), vs = [.int n, .ref l] ∧ SqL K H l (cs.map V.int) ∧ cs.length ≤ n.toNat ∧ n ≤ 60 ∧ (∀ c ∈ cs, 0 ≤ c ∧ c < 10 ^ 40) ∧ ∀ H', Same H H' → Q .non H'
theorem sc_counts_fault : FnScope ["seats", "counts", "at", "count"] ["seats", "counts"] (defScope s_counts_fault) :=
  ⟨rfl, rfl, rfl, by decide +kernel, rfl, by decide +kernel, by decide +kernel⟩
theorem ok_countf (F : Fn K mg "_counts_fault" s_counts_fault) (T : BlV mg) (Cis_below : Cal P w K mg base "is_below" 1 ["thing", "top"] spBel) : Cal P w K mg base "_counts_fault" 2 ["seats", "counts"] (spCountF K) := by
  obtain ⟨tt, hT⟩ := T.top
  refine cal_of F sc_counts_fault
    (fun _ _ _ _ _ _ us hl => match us, hl with | [_, _], _ => rfl) ?_ ?_
  · rintro vs H Q E ⟨n, l, cs, rfl, _⟩
    rfl
  rintro f cdv A outer s H vs Q E free hr ⟨n, l, cs, rfl, hl, lc, n60, rc, q⟩
  refine ⟨_, (pss_cons (ps_if (pt_not (pt_val (pe_callB call_isiT (by rfl) T.isinstance (by decide +kernel) (pa_cons (pv 1) (pa_cons (pe_tup (pa_cons (pe_bltn (v := .ty "list") (by rfl) T.list (by decide +kernel) rfl) (pa_cons (pe_bltn (v := .ty "tuple") (by rfl) T.tuple (by decide +kernel) rfl) pa_nil))) pa_nil)))))
    (pss_one (ps_ret pe_int))
    pss_nil)
    (pss_cons (ps_for PassesOwn.never rfl (pi_enum (by rfl) T.enumerate (pa_cons (pv 1) pa_nil)) (pg_tup (by rfl) (pgs_cons (pg_name (i := 2) sc_counts_fault.nd rfl (Or.inl rfl)) (pgs_cons (pg_name (i := 3) sc_counts_fault.nd rfl (Or.inl rfl)) pgs_nil)))
    (pss_one (ps_if (PW.pt (pw_or (pt_cmpR op_eq (pv 2) (pv 0) (nomark _)) (pw_or1 (pt_not (pt_val (pe_cal Cis_below free (hr.mono (by decide)) (pa_cons (pv 3) (pa_cons (pe_glob (v := .int 10000000000000000000000000000000000000000) (by rfl) hT ⟨_, rfl⟩) pa_nil))))))))
    (pss_one (ps_ret (pv 2)))
    pss_nil)))
    (pss_one (ps_ret pe_non)))), ?_⟩
  refine ⟨_, rfl, by show 2 ≤ sizeLine; decide, fun t ht => ⟨_, t, _, _, _, _, rfl, upd_same, .cons (.ty _) (.cons (.ty _) .nil), ty_sql (sql_same (same_upd ht) hl), kit2 (r1 := true) (r2 := false) (by decide +kernel) (by decide +kernel), _, rfl, ?_⟩⟩
  have s1 := same_upd (o := .tup [.ty "list", .ty "tuple"]) ht
  refine iteF' rfl ?_
  refine ⟨_, rfl, l, _, rfl, sql_same s1 hl, ?_⟩
  refine for_enum (K := K) (a := l) (xs := cs.map V.int) (fun i σ G => (∃ z2 z3 : Option V, σ = [some (V.int n), some (V.ref l), z2, z3]) ∧ Same H G) ⟨⟨_, _, rfl⟩, s1⟩ (fun i σ G h => sql_same h.2 hl) ?_ ?_
  · rintro i x T0 σ G hi ⟨⟨z2, z3, rfl⟩, sG⟩ hT0
    obtain ⟨c, hc, rfl⟩ := ints_at'' hi
    have li := (List.getElem?_eq_some_iff.mp hc).1
    have rcc := rc c (List.mem_of_getElem? hc)
    have sT := same_upd (o := .tup [.int (i : Nat), .int c]) hT0
    refine ⟨T0, [.int (i : Nat), .int c], rfl, SqT.of upd_same, rfl, _, _, rfl, _, _, rfl, rfl, ?_⟩
    refine ⟨_, rfl, _, rfl, rfl, _, rfl, ?_⟩
    refine iteF' (by rw [dec_ii]; exact decide_eq_false (by omega)) ?_
    refine ⟨_, rfl, c, 10000000000000000000000000000000000000000, rfl, _, rfl, ?_⟩
    refine iteF' (by simp; omega) ?_
    exact ⟨⟨_, _, rfl⟩, sG.trans sT⟩
  · rintro σ G ⟨⟨z2, z3, rfl⟩, sG⟩
    exact q _ sG
end

end G0
namespace G0
open PySem PySem.Spec PyProof.Rows L2
set_option maxHeartbeats 8000000
set_option pp.deepTerms.threshold 3
/-! ### a list of new objects under construction -/
structure Grow {α : Type} (At : Hp → Int → α → Prop) (fp : α → List Addr) (g : α → V) (H0 H : Hp) (D : Addr) (cs : List α) : Prop where
  at_ : H D = some (.lst (cs.map g))
  row : RowR At fp H cs
  new : ∀ c ∈ cs, ∀ x ∈ fp c, H0 x = none
  off : ∀ c ∈ cs, D ∉ fp c
theorem Grow.snoc {α : Type} {K : PySem.W.Frag} {At : Hp → Int → α → Prop} {fp : α → List Addr} {g : α → V} {H0 G H' : Hp} {D : Addr} {cs : List α} {c : α} (Ob : ObjR K At fp) (W : Grow At fp g H0 G D cs) (s : Same G H') (s0 : Same H0 G) (hc : At H' (cs.length : Int) c) (fr : ∀ x ∈ fp c, G x = none) :
    Grow At fp g H0 (upd H' D (.lst ((cs ++ [c]).map g))) D (cs ++ [c]) := by
  have kD := s _ _ W.at_
  have R := W.row.same Ob s
  have ix : ∀ {i : Nat} {d : α}, (cs ++ [c])[i]? = some d → (cs[i]? = some d ∧ i < cs.length) ∨ (i = cs.length ∧ d = c) := fun {i d} e => by
    rcases Nat.lt_or_ge i cs.length with l | l
    · rw [List.getElem?_append_left l] at e
      exact .inl ⟨e, l⟩
    · rw [List.getElem?_append_right l] at e
      cases z : i - cs.length with
      | zero => rw [z] at e; simp at e; exact .inr ⟨by omega, e.symm⟩
      | succ u => rw [z] at e; simp at e
  have offc : D ∉ fp c := fun m => by
    have := fr D m
    rw [W.at_] at this
    cases this
  have al : ∀ {i : Nat} {d : α}, cs[i]? = some d → ∀ x ∈ fp d, G x ≠ none := fun {i d} e x hx z => by
    obtain ⟨o, e2⟩ := mutW_al (Ob.mutw (W.row.all i d e) x hx)
    rw [z] at e2; cases e2
  have mv : ∀ {i : Int} {d : α}, At H' i d → D ∉ fp d → At (upd H' D (.lst ((cs ++ [c]).map g))) i d := fun {i d} a n => Ob.keep a (fun x hx o e => (upd_ne (fun z => n (by rw [← z]; exact hx))).trans e) (sqt_updL kD)
  refine ⟨upd_same, ⟨fun i d e => ?_, fun i j d d' e e' ne x hx hx' => ?_⟩, fun d m x hx => ?_, fun d m => ?_⟩
  · rcases ix e with ⟨e, l⟩ | ⟨rfl, rfl⟩
    · exact mv (R.all i d e) (W.off d (List.mem_of_getElem? e))
    · exact mv hc offc
  · rcases ix e with ⟨e1, l⟩ | ⟨h1, h2⟩ <;> rcases ix e' with ⟨e2, l'⟩ | ⟨h3, h4⟩
    · exact W.row.dj i j d d' e1 e2 ne x hx hx'
    · exact al e1 x hx (fr x (h4 ▸ hx'))
    · exact al e2 x hx' (fr x (h2 ▸ hx))
    · omega
  · rcases List.mem_append.mp m with m | m
    · exact W.new d m x hx
    · rw [List.mem_singleton.mp m] at hx
      exact none_same s0 (fr x hx)
  · rcases List.mem_append.mp m with m | m
    · exact W.off d m
    · rw [List.mem_singleton.mp m]
      exact offc
theorem Grow.nil {α : Type} {At : Hp → Int → α → Prop} {fp : α → List Addr} {g : α → V} {H0 H : Hp} {D : Addr} (h : H D = some (.lst [])) : Grow At fp g H0 H D [] :=
  ⟨h, ⟨fun i c e => by simp at e, fun i j c c' e => by simp at e⟩, fun c m => absurd m List.not_mem_nil, fun c m => absurd m List.not_mem_nil⟩
theorem Grow.same {α : Type} {K : PySem.W.Frag} {At : Hp → Int → α → Prop} {fp : α → List Addr} {g : α → V} {H0 H H' : Hp} {D : Addr} {cs : List α} (Ob : ObjR K At fp) (W : Grow At fp g H0 H D cs) (s : Same H H') : Grow At fp g H0 H' D cs :=
  ⟨s _ _ W.at_, W.row.same Ob s, W.new, W.off⟩
def fpM (c : O31) : List Addr := [c.p, c.aw, c.hl, c.tg]
def fpL (c : O31) : List Addr := [c.o, c.d3, c.d4, c.d5]
structure SmAt (C : Addr) (n : Int) (F : List Int) (H : Hp) (i : Int) (c : O31) : Prop where
  hp : H c.p = some (.ins C c.dx (stF i "out" false c.cnt .non n c.aw c.hl c.tg))
  ha : H c.aw = some (.lst [])
  hh : H c.hl = some (.lst [])
  ht : H c.tg = some (.lst [])
  nd : (fpM c).Nodup
  ct : F[i.toNat]? = some c.cnt
structure MoAt (F : List Int) (H : Hp) (i : Int) (c : O31) : Prop where
  ho : H c.o = some (.lst (moL c.cnt .non "out" c.d3 c.d4 c.d5))
  h3 : H c.d3 = some (.lst [])
  h4 : H c.d4 = some (.lst [])
  h5 : H c.d5 = some (.lst [])
  nd : (fpL c).Nodup
  ct : F[i.toNat]? = some c.cnt
theorem objM {K : PySem.W.Frag} {C : Addr} {n : Int} {F : List Int} : ObjR K (SmAt C n F) fpM where
  mutw := fun {H i c} h x hx => by
    simp only [fpM, List.mem_cons, List.not_mem_nil, or_false] at hx
    rcases hx with rfl | rfl | rfl | rfl
    · exact .inr (.inr ⟨_, _, _, h.hp⟩)
    · exact .inl ⟨_, h.ha⟩
    · exact .inl ⟨_, h.hh⟩
    · exact .inl ⟨_, h.ht⟩
  keep := fun {H H' i c} h k q => { h with
    hp := k _ (by simp [fpM]) _ h.hp
    ha := k _ (by simp [fpM]) _ h.ha
    hh := k _ (by simp [fpM]) _ h.hh
    ht := k _ (by simp [fpM]) _ h.ht }
theorem objL {K : PySem.W.Frag} {F : List Int} : ObjR K (MoAt F) fpL where
  mutw := fun {H i c} h x hx => by
    simp only [fpL, List.mem_cons, List.not_mem_nil, or_false] at hx
    rcases hx with rfl | rfl | rfl | rfl
    · exact .inl ⟨_, h.ho⟩
    · exact .inl ⟨_, h.h3⟩
    · exact .inl ⟨_, h.h4⟩
    · exact .inl ⟨_, h.h5⟩
  keep := fun {H H' i c} h k q => { h with
    ho := k _ (by simp [fpL]) _ h.ho
    h3 := k _ (by simp [fpL]) _ h.h3
    h4 := k _ (by simp [fpL]) _ h.h4
    h5 := k _ (by simp [fpL]) _ h.h5 }
theorem flat_zero : ∀ k : Nat, (List.replicate k [V.int 0]).flatten = (List.replicate k (0 : Int)).map V.int
  | 0 => rfl
  | k + 1 => by rw [List.replicate_succ, List.flatten_cons, flat_zero k, List.replicate_succ, List.map_cons]; rfl
def cts31 (n : Int) (cs : List Int) : List Int := cs ++ List.replicate (n.toNat - cs.length) 0
theorem cts_len {n : Int} {cs : List Int} (h : cs.length ≤ n.toNat) : (cts31 n cs).length = n.toNat := by
  unfold cts31
  rw [List.length_append, List.length_replicate]
  omega
section
variable {P : Program} {w : World} {K : PySem.W.Frag} {mg : Str → Option Value} {base : Heap} {C : Addr}
/-! ### stampers -/
def FnK (K : PySem.W.Frag) (mg : Str → Option Value) (x : Str) (st : Stmt) (kws : List (Str × V)) : Prop :=
  ∃ f fd, FunD K x x (defArgs st) (defBody st) (defScope st) [] kws f fd ∧ mg x = some (.ref f)
structure MkT (P : Program) (w : World) (K : PySem.W.Frag) (mg : Str → Option Value) (base : Heap) (C : Addr) : Prop where
  made : ∃ f fd ds mv, FnOk P w K mg base CX0 2 f fd ["self", "me", "seats", "count"] (spSInit C) ∧ Vals [.int 0] ds ∧ Binds K fd ["self", "me", "seats", "count"] ds ∧
    KBn K fd ["self", "me", "seats", "count"] 3 ["count"] (fun us ws => us ++ ws) (fun vs zs => vs ++ zs) ∧ Mk K C f ∧ mv = ds
  mg : mg "Stamper" = some (.ref C)
def spStampers (C : Addr) : Sp := fun vs H Q _ => ∃ (n : Int) (l : Addr) (cs : List Int), vs = [.int n, .ref l] ∧ H l = some (.lst (cs.map V.int)) ∧ cs.length ≤ n.toNat ∧ 1 ≤ n ∧ n ≤ 60 ∧ (∀ c ∈ cs, 0 ≤ c ∧ c < 10 ^ 40) ∧
  ∀ (D : Addr) (os : List O31) (H' : Hp), Same H H' → H D = none → os.length = n.toNat → Grow (SmAt C n (cts31 n cs)) fpM (fun c => V.ref c.p) H H' D os → Q (.ref D) H'
structure StX (P : Program) (w : World) (K : PySem.W.Frag) (mg : Str → Option Value) (base : Heap) (sp : Sp) : Prop where
  made : ∃ f fd, FnOk P w K mg base CX0 5 f fd ["seats", "counts"] sp ∧
    KBn K fd ["seats", "counts"] 1 ["counts"] (fun us ws => us ++ ws) (fun vs zs => vs ++ zs) ∧ mg "stampers" = some (.ref f) ∧ PySem.W.keepIn K (.ref f) = true
theorem sc_stampers : FnScope ["seats", "counts", "at", "firsts", "seat"] ["seats", "counts"] (defScope s_stampers) :=
  ⟨rfl, rfl, rfl, by decide +kernel, rfl, by decide +kernel, by decide +kernel⟩
theorem ok_stampers (F : FnK K mg "stampers" s_stampers []) (T : BlV mg) (MC : MkT P w K mg base C) (Clook_at_many : Cal P w K mg base "look_at_many" 2 ["seats"] spMany) (C_counts_fault : Cal P w K mg base "_counts_fault" 2 ["seats", "counts"] (spCountF K)) : StX P w K mg base (spStampers C) := by
  obtain ⟨f, fd, F, m⟩ := F
  obtain ⟨fC, fdC, dsC, _, GC, rC, bC, kC, MI, _⟩ := MC.made
  have gC := MC.mg
  obtain ⟨tf, hFi⟩ := T.first
  obtain ⟨oc, od, dV, kV, doc, pm, an, cdv, ct, osl, rfl, lk, hcd, hD, _⟩ := id F.ex
  have dV0 : dV = .none := by
    rcases hD with ⟨_, e⟩ | ⟨e, _⟩
    · exact e
    · exact absurd rfl e
  subst dV0
  refine ⟨f, _, F.ok sc_stampers (fun vs H Q E h => ?_) (fun cdv A outer s H vs Q E hr h => ?_), ⟨fun s us ws X l1 l2 => ?_, fun r1 r2 => r1.append r2⟩, m, F.kp⟩
  · obtain ⟨n, l, cs, rfl, _⟩ := h
    rfl
  · obtain ⟨n, l, cs, rfl, hl, lcs, n1, n60, rc, q⟩ := h
    have free := True.intro
    have hr3 : Room 3 _ := hr.mono (by decide)
    refine ⟨_, (pss_cons (ps_expr (pe_cal Clook_at_many free (hr.mono (by decide)) (pa_cons (pv 0) pa_nil)))
    (pss_cons (ps_set (i := 2) sc_stampers.nd rfl (Or.inl rfl) (pe_cal C_counts_fault free (hr.mono (by decide)) (pa_cons (pv 0) (pa_cons (pv 1) pa_nil))))
    (pss_cons (ps_if (pt_cmpR op_notN (pv 2) pe_non (nomark _))
    (pss_one ps_dead)
    pss_nil)
    (pss_cons (ps_set (i := 3) sc_stampers.nd rfl (Or.inr rfl) (pe_op op_cat (pe_callTy call_list_of (by rfl) T.list (by decide +kernel) (pa_cons (pv 1) pa_nil)) (pe_op op_rep (pe_lst (pa_cons (pe_glob (v := .int 0) (by rfl) hFi ⟨_, rfl⟩) pa_nil)) (pe_op op_sub (pv 0) (pe_callB call_len_seq (by rfl) T.len (by decide +kernel) (pa_cons (pv 1) pa_nil))))))
    (pss_one (ps_ret (pe_lc (own := [("seat", 4)]) (g := gName 4) (tt := tYes) (by rfl) sc_stampers.nd (pi_range1 (by rfl) T.range (pa_cons (pv 0) pa_nil)) (blkOk_by (N := ["seats", "counts", "at", "firsts", "seat"]) (sc := defScope s_stampers) (by decide +kernel)) (fun _ _ _ _ _ => pg_name (i := 4) sc_stampers.nd rfl (Or.inl rfl)) (fun _ _ _ _ _ => pts_nil) (fun _ _ _ _ _ => (pe_makeK MI GC hr3 (by rfl) gC kC pass0 (pa_cons (pv 4) (pa_cons (pv 0) pa_nil)) (pk_cons (pe_ix (ix_listK K) (pv 3) (pv 4) (fun _ _ => rfl)) pk_nil)))))))))), ?_⟩
    refine ⟨_, rfl, n, rfl, n1, n60, ?_⟩
    refine ⟨_, rfl, _, rfl, n, l, cs, rfl, SqL.of hl, lcs, n60, rc, fun H1 s1 => ?_⟩
    refine ⟨_, rfl, rfl, _, rfl, iteF' (by simp) ?_⟩
    have hl1 := s1 _ _ hl
    refine ⟨_, rfl, l, _, rfl, .inl (SqL.of hl1), fun l1 hl1' => ?_⟩
    have u1 := same_upd (o := .lst (cs.map V.int)) hl1'
    refine ⟨by show 1 ≤ sizeLine; decide, fun e1 he1 => ?_⟩
    have u2 := same_upd (o := .lst [V.int 0]) he1
    refine ⟨_, rfl, _, rfl, l, _, rfl, .inl (SqL.of (u2 _ _ (u1 _ _ hl1))), _, _, rfl, rfl, ?_⟩
    refine ⟨e1, _, [V.int 0], rfl, rfl, upd_same, by rw [List.length_map]; omega, by rw [List.length_map]; omega, by rw [List.length_map]; exact Nat.le_trans (show [V.int 0].length * _ ≤ 100 by simp; omega) (by decide), fun e2 he2 => ?_⟩
    have u3 := same_upd (o := .lst (List.replicate (n - (((cs.map V.int).length : Nat) : Int)).toNat [V.int 0]).flatten) he2
    refine ⟨l1, e2, _, _, rfl, rfl, u3 _ _ (u2 _ _ upd_same), upd_same, ?_, fun fl hfl => ?_⟩
    · rw [flat_zero, List.length_map, List.length_map, List.length_replicate]
      exact Nat.le_trans (show _ ≤ 200 by omega) (by decide)
    have ef : cs.map V.int ++ (List.replicate (n - (((cs.map V.int).length : Nat) : Int)).toNat [V.int 0]).flatten = (cts31 n cs).map V.int := by
      unfold cts31
      rw [flat_zero, List.map_append, List.length_map, show (n - ((cs.length : Nat) : Int)).toNat = n.toNat - cs.length by omega]
    rw [ef]
    have u4 := same_upd (o := .lst ((cts31 n cs).map V.int)) hfl
    have kf : upd (upd (upd (upd H1 l1 (.lst (cs.map V.int))) e1 (.lst [V.int 0])) e2 (.lst (List.replicate (n - (((cs.map V.int).length : Nat) : Int)).toNat [V.int 0]).flatten)) fl (.lst ((cts31 n cs).map V.int)) fl = some (.lst ((cts31 n cs).map V.int)) := upd_same
    have u := u1.trans (u2.trans (u3.trans u4))
    obtain ⟨H2, e2'⟩ : ∃ H2, H2 = upd (upd (upd (upd H1 l1 (.lst (cs.map V.int))) e1 (.lst [V.int 0])) e2 (.lst (List.replicate (n - (((cs.map V.int).length : Nat) : Int)).toNat [V.int 0]).flatten)) fl (.lst ((cts31 n cs).map V.int)) := ⟨_, rfl⟩
    rw [← e2'] at kf u
    rw [← e2']
    clear e2' u1 u2 u3 u4
    refine ⟨_, rfl, _, rfl, by omega, by omega, fun D hD => ?_⟩
    refine lc_range (lo := 0) (n := n.toNat) (fun i G => Same H2 G ∧ ∃ os : List O31, os.length = i ∧ Grow (SmAt C n (cts31 n cs)) fpM (fun c => V.ref c.p) H G D os) ⟨same_upd hD, [], rfl, Grow.nil upd_same⟩ ?_ ?_
    · rintro i G hi ⟨sG, os, lo, GW⟩
      have li : i < (cts31 n cs).length := by rw [cts_len lcs]; exact hi
      have ei : (cts31 n cs)[i]? = some (cts31 n cs)[i] := List.getElem?_eq_getElem li
      have ai : atI ((cts31 n cs).map V.int) (0 + (i : Int)) = some (.int (cts31 n cs)[i]) := by
        rw [Int.zero_add]
        exact atI_nat (by rw [List.getElem?_map, ei]; rfl)
      refine ⟨rfl, lc_yes ?_⟩
      refine ⟨_, rfl, _, rfl, _, rfl, _, rfl, fl, _, _, _, rfl, rfl, SqL.of (sG _ _ kf), ai, rfl, rfl, fun y dy hy hdy ne => ?_⟩
      have v1 : Same G (upd (upd G dy (.own y)) y (.ins C dy [])) := (same_upd hdy).trans (same_upd (by rw [upd_ne ne.symm]; exact hy))
      refine ⟨y, dy, 0 + (i : Int), n, (cts31 n cs)[i], rfl, upd_same, fun aw hl' tg H' n1' n2' n3' cg ka kh kt kp za zh zt => ⟨rfl, ?_⟩⟩
      have s2 : Same G H' := fun b o e => cg _ _ (ne_of_none e hy) (v1 _ _ e)
      have kD2 := s2 _ _ GW.at_
      have zn : ∀ {x : Addr}, upd (upd G dy (.own y)) y (.ins C dy []) x = none → G x = none ∧ y ≠ x := fun {x} z => ⟨none_same v1 z, fun e => by rw [← e, upd_same] at z; cases z⟩
      have A : SmAt C n (cts31 n cs) H' ((os.length : Nat) : Int) { p := y, dx := dy, aw := aw, hl := hl', tg := tg, o := y, d3 := y, d4 := y, d5 := y, st := "out", si := false, cnt := (cts31 n cs)[i], stp := .non, sq := .non, ws := [], hs := [], ts := [], us := [], sn := [] } := by
        rw [lo]
        refine ⟨?_, ka, kh, kt, ?_, ei⟩
        · rw [kp, Int.zero_add]
        · show [y, aw, hl', tg].Nodup
          simp only [List.nodup_cons, List.mem_cons, List.not_mem_nil, or_false, not_or, not_false_eq_true, List.nodup_nil, and_true]
          exact ⟨⟨(zn za).2, (zn zh).2, (zn zt).2⟩, ⟨n1', n2'⟩, n3'⟩
      have G2 := GW.snoc (K := K) objM s2 ((s1.trans u).trans sG) A (fun x hx => by
        simp only [fpM, List.mem_cons, List.not_mem_nil, or_false] at hx
        rcases hx with rfl | rfl | rfl | rfl
        · exact hy
        · exact (zn za).1
        · exact (zn zh).1
        · exact (zn zt).1)
      obtain ⟨os', l', em, G2'⟩ : ∃ os' : List O31, os'.length = i + 1 ∧ os'.map (fun c => V.ref c.p) = os.map (fun c => V.ref c.p) ++ [.ref y] ∧ Grow (SmAt C n (cts31 n cs)) fpM (fun c => V.ref c.p) H (upd H' D (.lst (os'.map fun c => V.ref c.p))) D os' := ⟨_, by rw [List.length_append, lo]; rfl, by rw [List.map_append]; rfl, G2⟩
      rw [em] at G2'
      refine ⟨_, kD2, ?_, fun b o e => ?_, os', l', G2'⟩
      · rw [List.length_map]
        exact Nat.lt_of_lt_of_le (show os.length < 100 by omega) (by decide)
      · rw [upd_ne (ne_of_none e hD)]
        exact s2 _ _ (sG _ _ e)
    · rintro G ⟨sG, os, lo, GW⟩
      exact q D os G ((s1.trans u).trans sG) (none_same (s1.trans u) hD) lo GW
  · match us, ws, l1, l2 with
    | [_], [_], _, _ => exact .of_eq rfl
end

end G0
namespace G0
open PySem PySem.Spec PyProof.Rows L2
set_option maxHeartbeats 8000000
set_option pp.deepTerms.threshold 3
section
variable {P : Program} {w : World} {K : PySem.W.Frag} {mg : Str → Option Value} {base : Heap} {C : Addr}
/-! ### the model -/
def spModel31 : Sp := fun vs H Q _ => ∃ (n : Int) (l : Addr) (cs : List Int), vs = [.int n, .ref l] ∧ H l = some (.lst (cs.map V.int)) ∧ cs.length ≤ n.toNat ∧ 1 ≤ n ∧ n ≤ 60 ∧
  ∀ (D : Addr) (os : List O31) (H' : Hp), Same H H' → H D = none → os.length = n.toNat → Grow (MoAt (cts31 n cs)) fpL (fun c => V.ref c.o) H H' D os → Q (.ref D) H'
theorem sc_law_model : FnScope ["seats", "firsts", "left", "first"] ["seats", "firsts"] (defScope s_law_model) :=
  ⟨rfl, rfl, rfl, by decide +kernel, rfl, by decide +kernel, by decide +kernel⟩
theorem ok_model31 (F : Fn K mg "_law_model" s_law_model) (T : BlV mg) : Cal P w K mg base "_law_model" 1 ["seats", "firsts"] spModel31 := by
  refine cal_of F sc_law_model
    (fun _ _ _ _ _ _ us hl => match us, hl with | [_, _], _ => rfl) ?_ ?_
  · rintro vs H Q E ⟨_, _, _, rfl, _⟩
    rfl
  rintro f cdv A outer s H vs Q E free hr ⟨n, l, cs, rfl, hl, lcs, n1, n60, q⟩
  refine ⟨_, (pss_cons (ps_set (i := 2) sc_law_model.nd rfl (Or.inl rfl) (pe_op op_sub (pv 0) (pe_callB call_len_seq (by rfl) T.len (by decide +kernel) (pa_cons (pv 1) pa_nil))))
    (pss_one (ps_ret (pe_lc (own := [("first", 3)]) (g := gName 3) (tt := tYes) (by rfl) sc_law_model.nd (pi_list (pe_op op_cat (pe_callTy call_list_of (by rfl) T.list (by decide +kernel) (pa_cons (pv 1) pa_nil)) (pe_op op_rep (pe_lst (pa_cons pe_int pa_nil)) (pv 2)))) (blkOk_by (N := ["seats", "firsts", "left", "first"]) (sc := defScope s_law_model) (by decide +kernel)) (fun _ _ _ _ _ => pg_name (i := 3) sc_law_model.nd rfl (Or.inl rfl)) (fun _ _ _ _ _ => pts_nil) (fun _ _ _ _ _ => (pe_lst (pa_cons (pv 3) (pa_cons pe_non (pa_cons pe_str (pa_cons (pe_lst pa_nil) (pa_cons (pe_lst pa_nil) (pa_cons (pe_lst pa_nil) pa_nil)))))))))))), ?_⟩
  refine ⟨_, rfl, _, rfl, l, _, rfl, .inl (SqL.of hl), _, _, rfl, rfl, ?_⟩
  refine ⟨_, rfl, l, _, rfl, .inl (SqL.of hl), fun l1 hl1' => ?_⟩
  have u1 := same_upd (o := .lst (cs.map V.int)) hl1'
  refine ⟨by show 1 ≤ sizeLine; decide, fun e1 he1 => ?_⟩
  have u2 := same_upd (o := .lst [V.int 0]) he1
  refine ⟨_, rfl, e1, _, [V.int 0], rfl, rfl, upd_same, by rw [List.length_map]; omega, by rw [List.length_map]; omega, by rw [List.length_map]; exact Nat.le_trans (show [V.int 0].length * _ ≤ 100 by simp; omega) (by decide), fun e2 he2 => ?_⟩
  have u3 := same_upd (o := .lst (List.replicate (n - (((cs.map V.int).length : Nat) : Int)).toNat [V.int 0]).flatten) he2
  refine ⟨l1, e2, _, _, rfl, rfl, u3 _ _ (u2 _ _ upd_same), upd_same, ?_, fun fl hfl => ?_⟩
  · rw [flat_zero, List.length_map, List.length_map, List.length_replicate]
    exact Nat.le_trans (show _ ≤ 200 by omega) (by decide)
  have ef : cs.map V.int ++ (List.replicate (n - (((cs.map V.int).length : Nat) : Int)).toNat [V.int 0]).flatten = (cts31 n cs).map V.int := by
    unfold cts31
    rw [flat_zero, List.map_append, List.length_map, show (n - ((cs.length : Nat) : Int)).toNat = n.toNat - cs.length by omega]
  rw [ef]
  have u4 := same_upd (o := .lst ((cts31 n cs).map V.int)) hfl
  have kf : upd (upd (upd (upd H l1 (.lst (cs.map V.int))) e1 (.lst [V.int 0])) e2 (.lst (List.replicate (n - (((cs.map V.int).length : Nat) : Int)).toNat [V.int 0]).flatten)) fl (.lst ((cts31 n cs).map V.int)) fl = some (.lst ((cts31 n cs).map V.int)) := upd_same
  have u := u1.trans (u2.trans (u3.trans u4))
  obtain ⟨H2, e2'⟩ : ∃ H2, H2 = upd (upd (upd (upd H l1 (.lst (cs.map V.int))) e1 (.lst [V.int 0])) e2 (.lst (List.replicate (n - (((cs.map V.int).length : Nat) : Int)).toNat [V.int 0]).flatten)) fl (.lst ((cts31 n cs).map V.int)) := ⟨_, rfl⟩
  rw [← e2'] at kf u
  rw [← e2']
  clear e2' u1 u2 u3 u4
  refine ⟨_, rfl, ⟨_, SqL.of kf⟩, fun D hD => ?_⟩
  refine lc_list (K := K) (a := fl) (xs := (cts31 n cs).map V.int) (fun i G => Same H2 G ∧ ∃ os : List O31, os.length = i ∧ Grow (MoAt (cts31 n cs)) fpL (fun c => V.ref c.o) H G D os) ⟨same_upd hD, [], rfl, Grow.nil upd_same⟩ (fun i G _ h => SqL.of (h.1 _ _ kf)) ?_ ?_
  · rintro i x G hx ⟨sG, os, lo, GW⟩
    obtain ⟨c0, hc0, rfl⟩ := ints_at'' hx
    have li := (List.getElem?_eq_some_iff.mp hc0).1
    rw [cts_len lcs] at li
    refine ⟨rfl, lc_yes ?_⟩
    refine ⟨_, rfl, Nat.zero_le _, fun d3 hd3 => ⟨Nat.zero_le _, fun d4 hd4 => ⟨Nat.zero_le _, fun d5 hd5 => ⟨by show 6 ≤ sizeLine; decide, fun o ho => ?_⟩⟩⟩⟩
    have v1 := same_upd (o := .lst []) hd3
    have v2 := same_upd (o := .lst []) hd4
    have v3 := same_upd (o := .lst []) hd5
    have v4 := same_upd (o := .lst (moL c0 .non "out" d3 d4 d5)) ho
    have s2 := v1.trans (v2.trans (v3.trans v4))
    have k3 := v4 _ _ (v3 _ _ (v2 _ _ (upd_same (H := G) (a := d3) (o := .lst []))))
    have k4 := v4 _ _ (v3 _ _ (upd_same (H := upd G d3 (.lst [])) (a := d4) (o := .lst [])))
    have k5 := v4 _ _ (upd_same (H := upd (upd G d3 (.lst [])) d4 (.lst [])) (a := d5) (o := .lst []))
    have n43 : d3 ≠ d4 := ne_of_none upd_same hd4
    have n53 : d3 ≠ d5 := ne_of_none (v2 _ _ upd_same) hd5
    have n54 : d4 ≠ d5 := ne_of_none upd_same hd5
    have no3 : d3 ≠ o := ne_of_none (v3 _ _ (v2 _ _ upd_same)) ho
    have no4 : d4 ≠ o := ne_of_none (v3 _ _ upd_same) ho
    have no5 : d5 ≠ o := ne_of_none upd_same ho
    have A : MoAt (cts31 n cs) (upd (upd (upd (upd G d3 (.lst [])) d4 (.lst [])) d5 (.lst [])) o (.lst (moL c0 .non "out" d3 d4 d5))) ((os.length : Nat) : Int) { p := o, dx := o, aw := o, hl := o, tg := o, o := o, d3 := d3, d4 := d4, d5 := d5, st := "out", si := false, cnt := c0, stp := .non, sq := .non, ws := [], hs := [], ts := [], us := [], sn := [] } := by
      rw [lo]
      refine ⟨upd_same, k3, k4, k5, ?_, hc0⟩
      show [o, d3, d4, d5].Nodup
      simp only [List.nodup_cons, List.mem_cons, List.not_mem_nil, or_false, not_or, not_false_eq_true, List.nodup_nil, and_true]
      exact ⟨⟨no3.symm, no4.symm, no5.symm⟩, ⟨n43, n53⟩, n54⟩
    have G2 := GW.snoc (K := K) objL s2 (u.trans sG) A (fun x hx => by
      simp only [fpL, List.mem_cons, List.not_mem_nil, or_false] at hx
      rcases hx with rfl | rfl | rfl | rfl
      · exact none_same (v1.trans (v2.trans v3)) ho
      · exact hd3
      · exact none_same v1 hd4
      · exact none_same (v1.trans v2) hd5)
    obtain ⟨os', l', em, G2'⟩ : ∃ os' : List O31, os'.length = i + 1 ∧ os'.map (fun c => V.ref c.o) = os.map (fun c => V.ref c.o) ++ [.ref o] ∧ Grow (MoAt (cts31 n cs)) fpL (fun c => V.ref c.o) H (upd (upd (upd (upd (upd G d3 (.lst [])) d4 (.lst [])) d5 (.lst [])) o (.lst (moL c0 .non "out" d3 d4 d5))) D (.lst (os'.map fun c => V.ref c.o))) D os' := ⟨_, by rw [List.length_append, lo]; rfl, by rw [List.map_append]; rfl, G2⟩
    rw [em] at G2'
    refine ⟨_, s2 _ _ GW.at_, ?_, fun b o' e => ?_, os', l', G2'⟩
    · rw [List.length_map]
      exact Nat.lt_of_lt_of_le (show os.length < 100 by omega) (by decide)
    · rw [upd_ne (ne_of_none e hD)]
      exact s2 _ _ (sG _ _ e)
  · rintro G ⟨sG, os, lo, GW⟩
    rw [List.length_map, cts_len lcs] at lo
    exact q D os G (u.trans sG) (none_same u hD) lo GW
end
/-! ### both rows together -/
def mrg31 (a b : O31) : O31 := { p := a.p, dx := a.dx, aw := a.aw, hl := a.hl, tg := a.tg, o := b.o, d3 := b.d3, d4 := b.d4, d5 := b.d5, st := "out", si := false, cnt := a.cnt, stp := .non, sq := .non, ws := [], hs := [], ts := [], us := [], sn := [] }
theorem mrg_mem {a b : O31} {x : Addr} (h : x ∈ fp31 (mrg31 a b)) : x ∈ fpM a ∨ x ∈ fpL b := by
  simp only [fp31, mrg31, fpM, fpL, List.mem_cons, List.not_mem_nil, or_false] at h ⊢
  rcases h with h | h | h | h | h | h | h | h <;> simp [h]
theorem mrg_row {K : PySem.W.Frag} {C : Addr} {n : Int} {F : List Int} {H0 H1 H2 : Hp} {D E : Addr} {as bs : List O31} (A : Grow (SmAt C n F) fpM (fun c => V.ref c.p) H0 H1 D as) (s : Same H1 H2) (B : Grow (MoAt F) fpL (fun c => V.ref c.o) H1 H2 E bs) (l : as.length = bs.length) (E0 : H1 E = none) :
    RowR (At31 K C n 0) fp31 H2 (List.zipWith mrg31 as bs) ∧ (∀ c ∈ List.zipWith mrg31 as bs, D ∉ fp31 c ∧ E ∉ fp31 c) ∧ (List.zipWith mrg31 as bs).map (·.p) = as.map (·.p) ∧ (List.zipWith mrg31 as bs).map (·.o) = bs.map (·.o) := by
  have get : ∀ {i : Nat} {c : O31}, (List.zipWith mrg31 as bs)[i]? = some c → ∃ a b, as[i]? = some a ∧ bs[i]? = some b ∧ c = mrg31 a b := fun {i c} e => by
    rw [List.getElem?_zipWith] at e
    cases ea : as[i]? with
    | none => rw [ea] at e; cases e
    | some a =>
      cases eb : bs[i]? with
      | none => rw [ea, eb] at e; cases e
      | some b => rw [ea, eb] at e; exact ⟨a, b, rfl, rfl, (Option.some.inj e).symm⟩
  have alM : ∀ {i : Nat} {a : O31}, as[i]? = some a → ∀ x ∈ fpM a, H1 x ≠ none := fun {i a} e x hx z => by
    obtain ⟨o, e2⟩ := mutW_al ((objM (K := K)).mutw (A.row.all i a e) x hx)
    rw [z] at e2; cases e2
  have nwL : ∀ {i : Nat} {b : O31}, bs[i]? = some b → ∀ x ∈ fpL b, H1 x = none := fun {i b} e x hx => B.new b (List.mem_of_getElem? e) x hx
  refine ⟨⟨fun i c e => ?_, fun i j c c' e e' ne x hx hx' => ?_⟩, fun c m => ?_, ?_, ?_⟩
  · obtain ⟨a, b, ea, eb, rfl⟩ := get e
    have Aa := A.row.all i a ea
    have Bb := B.row.all i b eb
    have ct : a.cnt = b.cnt := Option.some.inj (Aa.ct.symm.trans Bb.ct)
    have na := Aa.nd
    have nb := Bb.nd
    have cross : ∀ x ∈ fpM a, ∀ y ∈ fpL b, x ≠ y := fun x hx y hy z => alM ea x hx (z ▸ nwL eb y hy)
    exact {
      hp := s _ _ Aa.hp
      ha := s _ _ Aa.ha
      hh := s _ _ Aa.hh
      ht := s _ _ Aa.ht
      ho := by have := Bb.ho; rw [← ct] at this; exact this
      h3 := Bb.h3
      h4 := Bb.h4
      h5 := Bb.h5
      nd := by
        show (fpM a ++ fpL b).Nodup
        exact List.nodup_append.mpr ⟨na, nb, cross⟩
      sm := .inl ⟨rfl, rfl⟩
      as_ := fun e => absurd (show ("out" : Str) = "asking" from e) (by decide +kernel)
      pm := .refl _
      pw := .nil
      lw := Nat.zero_le _
      lh := Nat.zero_le _
      lu := Nat.zero_le _
      rg := fun x hx => nomatch hx
      ls := Nat.zero_le _ }
  · obtain ⟨a, b, ea, eb, rfl⟩ := get e
    obtain ⟨a', b', ea', eb', rfl⟩ := get e'
    rcases mrg_mem hx with h | h <;> rcases mrg_mem hx' with h' | h'
    · exact A.row.dj i j a a' ea ea' ne x h h'
    · exact alM ea x h (nwL eb' x h')
    · exact alM ea' x h' (nwL eb x h)
    · exact B.row.dj i j b b' eb eb' ne x h h'
  · obtain ⟨i, hi⟩ := List.mem_iff_getElem?.mp m
    obtain ⟨a, b, ea, eb, rfl⟩ := get hi
    refine ⟨fun h => ?_, fun h => ?_⟩
    · rcases mrg_mem h with h | h
      · exact A.off a (List.mem_of_getElem? ea) h
      · have := nwL eb _ h
        rw [A.at_] at this
        cases this
    · rcases mrg_mem h with h | h
      · exact alM ea E h E0
      · exact B.off b (List.mem_of_getElem? eb) h
  · refine List.ext_getElem? fun j => ?_
    rw [List.getElem?_map, List.getElem?_map]
    cases e : (List.zipWith mrg31 as bs)[j]? with
    | none =>
      have := List.getElem?_eq_none_iff.mp e
      rw [List.length_zipWith] at this
      rw [List.getElem?_eq_none (by omega)]
    | some c =>
      obtain ⟨a, b, ea, eb, rfl⟩ := get e
      rw [ea]; rfl
  · refine List.ext_getElem? fun j => ?_
    rw [List.getElem?_map, List.getElem?_map]
    cases e : (List.zipWith mrg31 as bs)[j]? with
    | none =>
      have := List.getElem?_eq_none_iff.mp e
      rw [List.length_zipWith] at this
      rw [List.getElem?_eq_none (by omega)]
    | some c =>
      obtain ⟨a, b, ea, eb, rfl⟩ := get e
      rw [eb]; rfl

end G0
namespace G0
open PySem PySem.Spec PyProof.Rows L2
set_option maxHeartbeats 8000000
set_option pp.deepTerms.threshold 6
/-! ### a call with keywords -/
section
variable {X : Cx} {CX : CXT} {k n : Nat} {f : Addr} {fd : FuncData} {ps ks : List Str} {sp : Sp} {E : XK} {x : Str} {p pos : Pos} {e : Expr} {es : List Expr} {kws : List Keyword} {t tk : TA}
  {g : List Value → List Value → List Value} {gV : List V → List V → List V}
def tCallKW (n m : Nat) (sp : Sp) (gV : List V → List V → List V) (E : XK) (t tk : TA) : TE := fun σ H Q => t σ H fun vs H1 => tk σ H1 fun zs H2 => vs.length = n ∧ zs.length = m ∧ sp (gV vs zs) H2 Q E
theorem pe_callKW (F : FnOk X.prog X.w X.K X.mg X.base CX k f fd ps sp) (hr : Room k X.A) (hm : X.mg x = some (.ref f)) (hk : PySem.W.keepIn X.K (.ref f) = true)
    (hb : KBn X.K fd ps n ks g gV) (hx : Passes CX X E) (ha : PA X (e :: es) t) (hkw : PK X kws tk) (hg : Gl X x := by rfl)
    (n1 : (backToKw pos (keywordEach kws X.env)).all (·.1.isSome) = true := by rfl) (n2 : (backToKw pos (keywordEach kws X.env)).filterMap (·.1) = ks := by rfl)
    (n3 : (x == ("__debug__" : Str)) = false := by decide) (n4 : starEach (e :: es) X.env = (false, eval e X.env) :: starEach es X.env := by rfl)
    (n5 : ((backTo pos (starEach (e :: es) X.env)).any (·.1) || (backToKw pos (keywordEach kws X.env)).any (·.1.isNone)) = false := by rfl) :
    PE X (.Call (.Name x p) (e :: es) kws pos) (tCallKW n ks.length sp gV E t tk) := by
  refine ⟨fun pins s σ H Q I h => wpAny_Call_Name_kw (ld_glob I hg hm ?_ n3)⟩
  refine PySem.W.callWith_KW (h₀ := X.base) I.ok.mod.kin hk n1 (thn (ha.run pos pins s σ H _ I h) fun us s1 got => ?_) n5 n4
  obtain ⟨vs, H1, I1, r, q⟩ := got
  refine thn (hkw.run pos pins s1 σ H1 _ I1 q) fun ws s2 got2 => ?_
  obtain ⟨zs, H2, I2, rz, l1, l2, q2⟩ := got2
  refine ⟨I2.kIn, ?_⟩
  rw [n2]
  have both := hb.rel r rz
  have it := F.run X.A X.stack s2 H2 ⟨us, ks.zip ws⟩ (g us ws) (gV vs zs) Q E hr I2.env0 (hb.to s2 us ws I2.kIn (r.length.symm.trans l1) (rz.length.symm.trans l2)) both q2
  refine wpAny_call (codeAny_mono it fun out s' told => ?_)
  match out, told with
  | .error e, told => exact hx _ _ _ _ _ _ I2 told
  | .ok (.ret u), told => exact I2.after told
  | .ok .next, told => exact told.elim
  | .ok .brk, told => exact told.elim
  | .ok .cont, told => exact told.elim
end
theorem ls_lay : ∀ (ds : List PyData), (∀ d ∈ ds, LsD d) → PyData.canLayAll0 ds = true ∧ PyData.depthAll ds ≤ 4
  | [], _ => ⟨rfl, by decide⟩
  | d :: ds, h => by
    obtain ⟨a, b⟩ := ls_lay ds fun x hx => h x (List.mem_cons_of_mem _ hx)
    have one : d.canLay0 = true ∧ d.depth ≤ 4 := by
      obtain ⟨w, c, k, rfl | rfl, rfl⟩ := h d List.mem_cons_self
      · exact ⟨by simp [yesD, PyData.canLay0, PyData.canLayAll0]; decide +kernel, by simp [yesD, PyData.depth, PyData.depthAll]⟩
      · exact ⟨by simp [yesD, PyData.canLay0, PyData.canLayAll0]; decide +kernel, by simp [yesD, PyData.depth, PyData.depthAll]⟩
    refine ⟨by simp [PyData.canLayAll0, one.1, a], ?_⟩
    simp only [PyData.depthAll]
    omega
theorem ls_shaped {ds : List PyData} (h : ∀ d ∈ ds, LsD d) : SeqAt.shaped (.list ds) = true := by
  obtain ⟨a, b⟩ := ls_lay ds h
  show ((PyData.list ds).canLay0 && decide ((PyData.list ds).depth ≤ 64)) = true
  have e : (PyData.list ds).depth ≤ 64 := by simp only [PyData.depth]; omega
  rw [decide_eq_true e]
  simp [PyData.canLay0, a]
mutual
theorem eqv_self : ∀ d : PyData, (∃ w c k, d = yesD w c k) → PyData.eqv d d = true
  | d, ⟨w, c, k, e⟩ => by rw [e]; simp [yesD, PyData.eqv, PyData.eqvAll]
end
theorem eqvs_self : ∀ ds : List PyData, (∀ d ∈ ds, LsD d) → PyData.eqvAll ds ds = true
  | [], _ => by simp [PyData.eqvAll]
  | d :: ds, h => by
    obtain ⟨w, c, k, _, e⟩ := h d List.mem_cons_self
    simp only [PyData.eqvAll, eqv_self d ⟨w, c, k, e⟩, eqvs_self ds (fun x hx => h x (List.mem_cons_of_mem _ hx)), Bool.and_self]
/-- a list that stands outside changes -/
theorem W31.pot {K : PySem.W.Frag} {C : Addr} {n : Int} {t T : Nat} {H H' : Hp} {rd fl tl p : Addr} {cs : List O31} {kvs : List (List L2.Key × V)} {fs : List Int} {es : List (Addr × Addr × Addr)} {xs : List V} (W : W31 K C n t T H rd fl tl cs kvs fs es) (op : Out31 rd fl tl cs kvs es p) (hp : H p = some (.lst xs)) (c : Chg p H H') : W31 K C n t T H' rd fl tl cs kvs fs es := by
  have sq := sqt_chgL (K := K) hp c
  have r1 : ∀ {x}, rows31 cs x → x ≠ p := fun {x} h z => op.1 (z ▸ h)
  have r2 : ∀ {x}, road31 rd kvs x → x ≠ p := fun {x} h z => op.2.1 (z ▸ h)
  have r3 : ∀ {x}, told31 tl es x → x ≠ p := fun {x} h z => op.2.2.2 (z ▸ h)
  exact { W with
    row := ⟨fun i d e => obj31.keep (W.row.all i d e) (fun x hx o ee => c _ _ (r1 ⟨d, List.mem_of_getElem? e, hx⟩) ee) sq, W.row.dj⟩
    R := W.R.keep (c _ _ (r2 (.inl rfl)) W.R.at_) (fun e he la o e1 e2 => c _ _ (r2 (.inr ⟨e, he, e1⟩)) e2) sq
    hf := c _ _ (fun z => op.2.2.1 z.symm) W.hf
    To := W.To.keep (c _ _ (r3 (.inl rfl)) W.To.at_) (fun x hx o e => c _ _ (r3 (.inr hx)) e) sq }
theorem mrg_new {K : PySem.W.Frag} {C : Addr} {n : Int} {F : List Int} {H0 H1 H2 : Hp} {D E : Addr} {as bs : List O31} (A : Grow (SmAt C n F) fpM (fun c => V.ref c.p) H0 H1 D as) (s : Same H0 H1) (B : Grow (MoAt F) fpL (fun c => V.ref c.o) H1 H2 E bs) :
    ∀ c ∈ List.zipWith mrg31 as bs, ∀ x ∈ fp31 c, H0 x = none := fun c m x hx => by
  obtain ⟨i, hi⟩ := List.mem_iff_getElem?.mp m
  rw [List.getElem?_zipWith] at hi
  cases ea : as[i]? with
  | none => rw [ea] at hi; cases hi
  | some a =>
    cases eb : bs[i]? with
    | none => rw [ea, eb] at hi; cases hi
    | some b =>
      rw [ea, eb] at hi
      cases (Option.some.inj hi)
      rcases mrg_mem hx with h | h
      · exact A.new a (List.mem_of_getElem? ea) x h
      · exact none_same s (B.new b (List.mem_of_getElem? eb) x h)
/-- the world at its start -/
theorem w31_start {K : PySem.W.Frag} {C : Addr} {n : Int} {H H1 H2 H3 : Hp} {cs : List O31} {rd fl tl : Addr} (R : RowR (At31 K C n 0) fp31 H cs) (l : cs.length = n.toNat) (hrd : H rd = none) (e1 : H1 = upd H rd (.dT [])) (hfl : H1 fl = none) (e2 : H2 = upd H1 fl (.lst [])) (htl : H2 tl = none) (e3 : H3 = upd H2 tl (.lst [])) :
    W31 K C n 0 0 H3 rd fl tl cs [] [] [] ∧ (∀ x o, H x = some o → (∀ c ∈ cs, x ∉ fp31 c) → H3 x = some o ∧ Out31 rd fl tl cs [] [] x) := by
  have s1 : Same H H1 := by rw [e1]; exact same_upd hrd
  have s2 : Same H1 H2 := by rw [e2]; exact same_upd hfl
  have s3 : Same H2 H3 := by rw [e3]; exact same_upd htl
  have k1 : H1 rd = some (.dT []) := by rw [e1]; exact upd_same
  have k2 : H2 fl = some (.lst []) := by rw [e2]; exact upd_same
  have k3 : H3 tl = some (.lst []) := by rw [e3]; exact upd_same
  have n12 : rd ≠ fl := ne_of_none k1 hfl
  have n13 : rd ≠ tl := ne_of_none (s2 _ _ k1) htl
  have n23 : fl ≠ tl := ne_of_none k2 htl
  have old : ∀ {x : Addr} {o : HO}, H x = some o → x ≠ rd ∧ x ≠ fl ∧ x ≠ tl := fun {x o} e => ⟨ne_of_none e hrd, ne_of_none (s1 _ _ e) hfl, ne_of_none (s2 _ _ (s1 _ _ e)) htl⟩
  have rdE : ∀ {x}, road31 rd [] x → x = rd := fun {x} h => by
    rcases h with z | ⟨e, m, _⟩
    · exact z
    · cases m
  have tlE : ∀ {x}, told31 tl [] x → x = tl := fun {x} h => by
    rcases h with z | ⟨e, m, _⟩
    · exact z
    · cases m
  have oneO : ∀ {x : Addr} {o : HO}, H x = some o → ¬ road31 rd [] x ∧ x ≠ fl ∧ ¬ told31 tl [] x := fun {x o} e => ⟨fun z => (old e).1 (rdE z), (old e).2.1, fun z => (old e).2.2 (tlE z)⟩
  refine ⟨{
    row := R.same obj31 (s1.trans (s2.trans s3))
    len := l
    R := ⟨s3 _ _ (s2 _ _ k1), Nat.le_refl _, fun e m => by cases m⟩
    hf := s3 _ _ k2
    lf := Nat.le_refl _
    To := ⟨k3, Nat.zero_le _, fun e m => by cases m⟩
    d1 := fun x ⟨c, m, hx⟩ => by
      obtain ⟨o, e⟩ := mutW_al (R.mut obj31 c m x hx)
      exact oneO e
    d2 := fun x h => by
      rw [rdE h]
      exact ⟨n12, fun z => n13 (tlE z)⟩
    d3 := fun z => n23 (tlE z) }, fun x o e n => ⟨s3 _ _ (s2 _ _ (s1 _ _ e)), fun ⟨c, m, hx⟩ => n c m hx, oneO e⟩⟩
theorem SqL.kp {K : PySem.W.Frag} {H H' : Hp} {a : Addr} {xs : List V} (k : ∀ o, H a = some o → H' a = some o) (h : SqL K H a xs) : SqL K H' a xs := by
  rcases h with (z | ⟨o', z⟩) | z
  · exact .inl (.inl (k _ z))
  · exact .inl (.inr ⟨o', k _ z⟩)
  · exact .inr z
structure In31 (K : PySem.W.Frag) (C : Addr) (n : Int) (t T : Nat) (B G : Hp) (mc mo rd fl tl : Addr) (cs : List O31) (kvs : List (List L2.Key × V)) (fs : List Int) (es : List (Addr × Addr × Addr)) (ps os : List Addr) : Prop where
  w : W31 K C n t T G rd fl tl cs kvs fs es
  old : ∀ x o, B x = some o → G x = some o ∧ Out31 rd fl tl cs kvs es x
  hmc : G mc = some (.lst (ps.map V.ref))
  omc : Out31 rd fl tl cs kvs es mc
  hmo : G mo = some (.lst (os.map V.ref))
  omo : Out31 rd fl tl cs kvs es mo
  ep : cs.map (·.p) = ps
  eo : cs.map (·.o) = os
section
variable {K : PySem.W.Frag} {C : Addr} {n : Int} {t T : Nat} {B G G' : Hp} {mc mo rd fl tl p : Addr} {cs cs' : List O31} {kvs kvs' : List (List L2.Key × V)} {fs fs' : List Int} {es es' : List (Addr × Addr × Addr)} {ps os : List Addr} {xs : List V}
theorem In31.same (I : In31 K C n t T B G mc mo rd fl tl cs kvs fs es ps os) (s : Same G G') : In31 K C n t T B G' mc mo rd fl tl cs kvs fs es ps os :=
  { I with w := I.w.same s, old := fun x o e => ⟨s _ _ (I.old x o e).1, (I.old x o e).2⟩, hmc := s _ _ I.hmc, hmo := s _ _ I.hmo }
theorem In31.pot (I : In31 K C n t T B G mc mo rd fl tl cs kvs fs es ps os) (op : Out31 rd fl tl cs kvs es p) (b0 : B p = none) (n1 : mc ≠ p) (n2 : mo ≠ p) (hp : G p = some (.lst xs)) (c : Chg p G G') : In31 K C n t T B G' mc mo rd fl tl cs kvs fs es ps os :=
  { I with w := I.w.pot op hp c, old := fun x o e => ⟨c _ _ (ne_of_none e b0) (I.old x o e).1, (I.old x o e).2⟩, hmc := c _ _ n1 I.hmc, hmo := c _ _ n2 I.hmo }
theorem In31.done {t' T' : Nat} (I : In31 K C n t T B G mc mo rd fl tl cs kvs fs es ps os) (W : W31 K C n t' T' G' rd fl tl cs' kvs' fs' es') (S : St31 rd fl tl G cs kvs es G' cs' kvs' es') (e1 : cs'.map (·.p) = cs.map (·.p)) (e2 : cs'.map (·.o) = cs.map (·.o)) : In31 K C n t' T' B G' mc mo rd fl tl cs' kvs' fs' es' ps os :=
  ⟨W, fun x o e => S _ _ (I.old x o e).1 (I.old x o e).2, (S _ _ I.hmc I.omc).1, (S _ _ I.hmc I.omc).2, (S _ _ I.hmo I.omo).1, (S _ _ I.hmo I.omo).2, e1.trans I.ep, e2.trans I.eo⟩
end
section
variable {P : Program} {w : World} {K : PySem.W.Frag} {mg : Str → Option Value} {base : Heap} {C : Addr}
def spLaw (K : PySem.W.Frag) : Sp := fun vs H Q _ => ∃ (a : Addr) (ns : List Int), vs = [.ref a] ∧ SqL K H a (ns.map V.int) ∧ ns.length ≤ 63 ∧ ∀ H', Q (.bl true) H'
structure BlL (mg : Str → Option Value) : Prop where
  len : mg "len" = none
  range : mg "range" = none
  max : mg "max" = none
  all : mg "all" = none
theorem sc_law : FnScope ["script", "pot", "seats", "firsts", "shares", "machines", "model", "roads", "fallen", "told", "done", "at", "turn", "deed", "one", "found", "copy", "seat"] ["script"] (defScope s_law) :=
  ⟨rfl, rfl, rfl, by decide +kernel, rfl, by decide +kernel, by decide +kernel⟩
theorem ok_law31 (F : Fn K mg "law" s_law) (T : BlL mg) (C_pot : Cal P w K mg base "_law_pot" 1 ["script", "at"] (spPot K)) (C_draw : Cal P w K mg base "_law_draw" 1 ["pot", "many"] spDraw) (C_seats : Cal P w K mg base "_law_seats" 2 ["pot"] spSeats31)
    (C_firsts : Cal P w K mg base "_law_firsts" 2 ["pot", "seats"] spFirsts31) (SX : StX P w K mg base (spStampers C)) (C_model : Cal P w K mg base "_law_model" 1 ["seats", "firsts"] spModel31) (C_deed : Cal P w K mg base "_law_deed" 2 ["pot", "states", "roads", "fallen", "shares"] (spDeed31 K))
    (C_done : Cal P w K mg base "_law_done" 5 ["machines", "model", "roads", "fallen", "deed", "told"] (spDone31 K C)) (C_stands : Cal P w K mg base "_law_stands" 4 ["machine", "one", "me"] (spStands31 K C)) :
    Cal P w K mg base "law" 6 ["script"] (spLaw K) := by
  obtain ⟨fX, fdX, GX, kX, mX, kpX⟩ := SX.made
  refine cal_of F sc_law
    (fun _ _ _ _ _ _ us hl => match us, hl with | [_], _ => rfl) ?_ ?_
  · rintro vs H Q E ⟨_, _, rfl, _⟩
    rfl
  rintro f cdv A outer s H vs Q E free hr ⟨sa, ns, rfl, hS, lns, q⟩
  have hr5 : Room 5 _ := hr.mono (by decide)
  refine ⟨_, (pss_cons (ps_set (i := 1) sc_law.nd rfl (Or.inl rfl) (pe_cal C_pot free (hr.mono (by decide)) (pa_cons (pv 0) (pa_cons pe_int pa_nil))))
    (pss_cons (ps_set (i := 2) sc_law.nd rfl (Or.inl rfl) (pe_cal C_seats free (hr.mono (by decide)) (pa_cons (pv 1) pa_nil)))
    (pss_cons (ps_set (i := 3) sc_law.nd rfl (Or.inl rfl) (pe_cal C_firsts free (hr.mono (by decide)) (pa_cons (pv 1) (pa_cons (pv 2) pa_nil))))
    (pss_cons (ps_set (i := 4) sc_law.nd rfl (Or.inl rfl) (pe_ix ix_list (pe_lst (pa_cons (pe_lst (pa_cons pe_int (pa_cons pe_int (pa_cons pe_int (pa_cons pe_int pa_nil))))) (pa_cons (pe_lst (pa_cons pe_int (pa_cons pe_int (pa_cons pe_int (pa_cons pe_int (pa_cons pe_int (pa_cons pe_int pa_nil))))))) (pa_cons (pe_lst (pa_cons pe_int (pa_cons pe_int (pa_cons pe_int (pa_cons pe_int (pa_cons pe_int (pa_cons pe_int (pa_cons pe_int (pa_cons pe_int (pa_cons pe_int pa_nil)))))))))) pa_nil)))) (pe_cal C_draw free (hr.mono (by decide)) (pa_cons (pv 1) (pa_cons pe_int pa_nil))) (fun _ _ => rfl)))
    (pss_cons (ps_set (i := 5) sc_law.nd rfl (Or.inr rfl) (pe_callKW (E := E0) GX hr5 mX kpX kX pass0 (pa_cons (pv 2) pa_nil) (pk_cons (pv 3) pk_nil)))
    (pss_cons (ps_set (i := 6) sc_law.nd rfl (Or.inr rfl) (pe_cal C_model free (hr.mono (by decide)) (pa_cons (pv 2) (pa_cons (pv 3) pa_nil))))
    (pss_cons (ps_set (i := 7) sc_law.nd rfl (Or.inl rfl) pe_dnewT)
    (pss_cons (ps_set (i := 8) sc_law.nd rfl (Or.inl rfl) (pe_lst pa_nil))
    (pss_cons (ps_set (i := 9) sc_law.nd rfl (Or.inl rfl) (pe_lst pa_nil))
    (pss_cons (ps_set (i := 10) sc_law.nd rfl (Or.inl rfl) pe_int)
    (pss_cons (ps_for PassesOwn.never rfl (pi_range2 (by rfl) T.range (pa_cons pe_int (pa_cons (pe_callB (call_max2 rfl) (by rfl) T.max (by decide +kernel) (pa_cons pe_int (pa_cons (pe_callB call_len_seq (by rfl) T.len (by decide +kernel) (pa_cons (pv 0) pa_nil)) pa_nil))) pa_nil))) (pg_name (i := 11) sc_law.nd rfl (Or.inl rfl))
    (pss_cons (ps_set (i := 1) sc_law.nd rfl (Or.inl rfl) (pe_cal C_pot free (hr.mono (by decide)) (pa_cons (pv 0) (pa_cons (pv 11) pa_nil))))
    (pss_one (ps_for PassesOwn.never rfl (pi_range1 (by rfl) T.range (pa_cons pe_int pa_nil)) (pg_name (i := 12) sc_law.nd rfl (Or.inl rfl))
    (pss_cons (ps_if (PW.pt (pw_or (pt_cmpR op_eq (pv 10) pe_int (nomark _)) (pw_or1 (PW.pt (pw_and (pt_cmpR op_ge (pv 12) pe_int (nomark _)) (pw_and1 (pt_cmpR op_eq (pe_ix ix_list (pv 1) pe_int (fun _ _ => rfl)) pe_int (nomark _))))))))
    (pss_one ps_break)
    pss_nil)
    (pss_cons (ps_set (i := 13) sc_law.nd rfl (Or.inl rfl) (pe_cal C_deed free (hr.mono (by decide)) (pa_cons (pv 1) (pa_cons (pe_lc (own := [("one", 14)]) (g := gName 14) (tt := tYes) (by rfl) sc_law.nd (pi_list (pv 6)) (blkOk_by (N := ["script", "pot", "seats", "firsts", "shares", "machines", "model", "roads", "fallen", "told", "done", "at", "turn", "deed", "one", "found", "copy", "seat"]) (sc := defScope s_law) (by decide +kernel)) (fun _ _ _ _ _ => pg_name (i := 14) sc_law.nd rfl (Or.inl rfl)) (fun _ _ _ _ _ => pts_nil) (fun _ _ _ _ _ => (pe_ix (ix_listK K) (pv 14) pe_int (fun _ _ => rfl)))) (pa_cons (pv 7) (pa_cons (pv 8) (pa_cons (pv 4) pa_nil)))))))
    (pss_cons (ps_set (i := 10) sc_law.nd rfl (Or.inl rfl) (pe_op op_add (pv 10) pe_int))
    (pss_cons (ps_if (pt_cmpR op_isN (pv 13) pe_non (nomark _))
    (pss_one ps_break)
    pss_nil)
    (pss_one (ps_if (pt_not (pt_val (pe_cal C_done free (hr.mono (by decide)) (pa_cons (pv 5) (pa_cons (pv 6) (pa_cons (pv 7) (pa_cons (pv 8) (pa_cons (pv 13) (pa_cons (pv 9) pa_nil)))))))))
    (pss_one (ps_ret pe_bl))
    pss_nil))))))))))
    (pss_cons (ps_if (pt_not (pt_val (pe_callB (cr_all (by rfl)) (by rfl) T.all (by decide +kernel) (pa_cons (pe_lc (own := [("found", 15), ("copy", 16)]) (g := gLst K 2 (gCons (gName 15) (gCons (gName 16) gNil))) (tt := tYes) (by rfl) sc_law.nd (pi_list (pv 9)) (blkOk_by (N := ["script", "pot", "seats", "firsts", "shares", "machines", "model", "roads", "fallen", "told", "done", "at", "turn", "deed", "one", "found", "copy", "seat"]) (sc := defScope s_law) (by decide +kernel)) (fun _ _ _ _ _ => pg_lst (by rfl) (pgs_cons (pg_name (i := 15) sc_law.nd rfl (Or.inl rfl)) (pgs_cons (pg_name (i := 16) sc_law.nd rfl (Or.inl rfl)) pgs_nil))) (fun _ _ _ _ _ => pts_nil) (fun _ _ _ _ _ => (pe_cmpR (op_K rEqD K (op_eqD (u64 hr)) rfl) (pv 15) (pv 16) (nomark _)))) pa_nil))))
    (pss_one (ps_ret pe_bl))
    pss_nil)
    (pss_one (ps_ret (pe_callB (cr_all (by rfl)) (by rfl) T.all (by decide +kernel) (pa_cons (pe_lc (own := [("seat", 17)]) (g := gName 17) (tt := tYes) (by rfl) sc_law.nd (pi_range1 (by rfl) T.range (pa_cons (pv 2) pa_nil)) (blkOk_by (N := ["script", "pot", "seats", "firsts", "shares", "machines", "model", "roads", "fallen", "told", "done", "at", "turn", "deed", "one", "found", "copy", "seat"]) (sc := defScope s_law) (by decide +kernel)) (fun _ _ _ _ _ => pg_name (i := 17) sc_law.nd rfl (Or.inl rfl)) (fun _ _ _ _ _ => pts_nil) (fun _ _ _ _ _ => (pe_cal C_stands free (hr.mono (by decide)) (pa_cons (pe_ix (ix_listK K) (pv 5) (pv 17) (fun _ _ => rfl)) (pa_cons (pe_ix (ix_listK K) (pv 6) (pv 17) (fun _ _ => rfl)) (pa_cons (pv 17) pa_nil)))))) pa_nil)))))))))))))))), ?_⟩
  refine ⟨_, rfl, sa, 0, ns, rfl, hS, by omega, by omega, fun p0 H1 hp0 s1 P0 => ?_⟩
  refine ⟨_, rfl, p0, 0, rfl, P0, by decide, fun n ys H2 n1 n60 c2 P2 => ?_⟩
  refine ⟨_, rfl, _, rfl, p0, 0 + 5, n, rfl, P2, by decide, n1, n60, fun fi cs0 H3 fi0 c3 P3 kfi lcs rcs => ?_⟩
  refine ⟨by show 4 ≤ sizeLine; decide, fun l1 hl1 => ⟨by show 6 ≤ sizeLine; decide, fun l2 hl2 => ⟨by show 9 ≤ sizeLine; decide, fun l3 hl3 => ⟨by show 3 ≤ sizeLine; decide, fun lo hlo => ?_⟩⟩⟩⟩
  have P3n := P3
  obtain ⟨xs3, kp3, _⟩ := P3
  have v1 := same_upd (o := .lst [.int 0, .int 1, .int 1, .int 2]) hl1
  have v2 := same_upd (o := .lst [.int 0, .int 1, .int 1, .int 1, .int 1, .int 2]) hl2
  have v3 := same_upd (o := .lst [.int 0, .int 0, .int 1, .int 1, .int 1, .int 1, .int 2, .int 2, .int 3]) hl3
  have v4 := same_upd (o := .lst [.ref l1, .ref l2, .ref l3]) hlo
  have v := v1.trans (v2.trans (v3.trans v4))
  have k1 := v4 _ _ (v3 _ _ (v2 _ _ (upd_same (H := H3) (a := l1) (o := .lst [.int 0, .int 1, .int 1, .int 2]))))
  have k2 := v4 _ _ (v3 _ _ (upd_same (H := upd H3 l1 (.lst [.int 0, .int 1, .int 1, .int 2])) (a := l2) (o := .lst [.int 0, .int 1, .int 1, .int 1, .int 1, .int 2])))
  have k3 := v4 _ _ (upd_same (H := upd (upd H3 l1 (.lst [.int 0, .int 1, .int 1, .int 2])) l2 (.lst [.int 0, .int 1, .int 1, .int 1, .int 1, .int 2])) (a := l3) (o := .lst [.int 0, .int 0, .int 1, .int 1, .int 1, .int 1, .int 2, .int 2, .int 3]))
  have klo : upd (upd (upd (upd H3 l1 (.lst [.int 0, .int 1, .int 1, .int 2])) l2 (.lst [.int 0, .int 1, .int 1, .int 1, .int 1, .int 2])) l3 (.lst [.int 0, .int 0, .int 1, .int 1, .int 1, .int 1, .int 2, .int 2, .int 3])) lo (.lst [.ref l1, .ref l2, .ref l3]) lo = some (.lst [.ref l1, .ref l2, .ref l3]) := upd_same
  obtain ⟨H4, e4⟩ : ∃ H4, H4 = upd (upd (upd (upd H3 l1 (.lst [.int 0, .int 1, .int 1, .int 2])) l2 (.lst [.int 0, .int 1, .int 1, .int 1, .int 1, .int 2])) l3 (.lst [.int 0, .int 0, .int 1, .int 1, .int 1, .int 1, .int 2, .int 2, .int 3])) lo (.lst [.ref l1, .ref l2, .ref l3]) := ⟨_, rfl⟩
  rw [← e4] at k1 k2 k3 klo v
  rw [← e4]
  have np1 : p0 ≠ l1 := ne_of_none kp3 hl1
  have np2 : p0 ≠ l2 := ne_of_none (v1 _ _ kp3) hl2
  have np3 : p0 ≠ l3 := ne_of_none (v2 _ _ (v1 _ _ kp3)) hl3
  have npo : p0 ≠ lo := ne_of_none (v3 _ _ (v2 _ _ (v1 _ _ kp3))) hlo
  clear e4 v1 v2 v3 v4
  refine ⟨_, rfl, p0, 3, 0 + 5 + 70, rfl, by decide, by decide, P3n.keep v, by decide, fun cc y cc0 cc1 Py => ?_⟩
  obtain ⟨H5, e5⟩ : ∃ H5, H5 = upd H4 p0 (.lst y) := ⟨_, rfl⟩
  have c5 : Chg p0 H4 H5 := fun b x nb e => by rw [e5, upd_ne nb]; exact e
  rw [← e5]
  clear e5
  obtain ⟨xs2, kp2, _⟩ := P2
  have nfi : fi ≠ p0 := (ne_of_none kp2 fi0).symm
  have kfi5 := c5 _ _ nfi (v _ _ kfi)
  have old5 : ∀ x o, H x = some o → H5 x = some o := fun x o e => by
    have nx : x ≠ p0 := ne_of_none e hp0
    exact c5 _ _ nx (v _ _ (c3 _ _ nx (c2 _ _ nx (s1 _ _ e))))
  obtain ⟨sh, ks, esh, ksh, nk, lk, rk⟩ : ∃ (sh : Addr) (ks : List Int), atI [V.ref l1, .ref l2, .ref l3] cc = some (.ref sh) ∧ H5 sh = some (.lst (ks.map V.int)) ∧ ks ≠ [] ∧ ks.length ≤ 100 ∧ ∀ k ∈ ks, 0 ≤ k ∧ k < 4 := by
    have : cc = 0 ∨ cc = 1 ∨ cc = 2 := by omega
    rcases this with rfl | rfl | rfl
    · exact ⟨l1, [0, 1, 1, 2], rfl, c5 _ _ np1.symm k1, by decide, by decide, by decide⟩
    · exact ⟨l2, [0, 1, 1, 1, 1, 2], rfl, c5 _ _ np2.symm k2, by decide, by decide, by decide⟩
    · exact ⟨l3, [0, 0, 1, 1, 1, 1, 2, 2, 3], rfl, c5 _ _ np3.symm k3, by decide, by decide, by decide⟩
  refine ⟨lo, _, cc, _, rfl, rfl, SqL.of (c5 _ _ npo.symm klo), esh, ?_⟩
  refine ⟨_, rfl, _, rfl, rfl, rfl, n, fi, cs0, rfl, kfi5, lcs, n1, n60, rcs, fun mc as H6 s6 mc0 las GA => ?_⟩
  refine ⟨_, rfl, _, rfl, n, fi, cs0, rfl, s6 _ _ kfi5, lcs, n1, n60, fun mo bs H7 s7 mo0 lbs GB => ?_⟩
  refine fun rd hrd => ⟨Nat.zero_le _, fun fl hfl => ⟨Nat.zero_le _, fun tl htl => ?_⟩⟩
  obtain ⟨R0, D0, ep, eo⟩ := mrg_row (K := K) GA s7 GB (las.trans lbs.symm) mo0
  have N0 := mrg_new (K := K) GA s6 GB
  obtain ⟨cs, ecs⟩ : ∃ cs, cs = List.zipWith mrg31 as bs := ⟨_, rfl⟩
  have lz : cs.length = n.toNat := by rw [ecs, List.length_zipWith]; omega
  rw [← ecs] at R0 D0 ep eo N0
  have St := w31_start R0 lz hrd rfl hfl rfl htl rfl
  obtain ⟨G0, eG0⟩ : ∃ G0, G0 = upd (upd (upd H7 rd (.dT [])) fl (.lst [])) tl (.lst []) := ⟨_, rfl⟩
  rw [← eG0] at St
  rw [← eG0]
  clear eG0
  obtain ⟨W0, O0⟩ := St
  have I0 : In31 K C n 0 0 H5 G0 mc mo rd fl tl cs [] [] [] (as.map (·.p)) (bs.map (·.o)) := by
    have km : H7 mc = some (.lst ((as.map (·.p)).map V.ref)) := by rw [List.map_map]; exact s7 _ _ GA.at_
    have ko : H7 mo = some (.lst ((bs.map (·.o)).map V.ref)) := by rw [List.map_map]; exact GB.at_
    have o1 := O0 _ _ km (fun c m => (D0 c m).1)
    have o2 := O0 _ _ ko (fun c m => (D0 c m).2)
    exact ⟨W0, fun x o e => O0 _ _ (s7 _ _ (s6 _ _ e)) (fun c m hx => by rw [N0 c m x hx] at e; cases e), o1.1, o1.2, o2.1, o2.2, ep, eo⟩
  clear W0 O0 N0 D0 R0 ecs GA GB
  have hS0 : SqL K G0 sa (ns.map V.int) := SqL.kp (fun o e => (I0.old _ _ (old5 _ _ e)).1) hS
  have lns' : (((ns.map V.int).length : Nat) : Int) ≤ 63 := by rw [List.length_map]; omega
  refine ⟨_, rfl, sa, _, rfl, .inl hS0, _, _, rfl, _, _, rfl, ⟨by decide, by decide, by split <;> omega, by split <;> omega⟩, ?_⟩
  refine for_range (lo := 1) (fun i σ G => ∃ (z1 z11 z12 z13 : Option V) (t T : Nat) (cs : List O31) (kvs : List (List L2.Key × V)) (fs : List Int) (es : List (Addr × Addr × Addr)),
    σ = [some (V.ref sa), z1, some (V.int n), some (V.ref fi), some (V.ref sh), some (V.ref mc), some (V.ref mo), some (V.ref rd), some (V.ref fl), some (V.ref tl), some (V.int (t : Nat)), z11, z12, z13, none, none, none, none] ∧
    In31 K C n t T H5 G mc mo rd fl tl cs kvs fs es (as.map (·.p)) (bs.map (·.o)) ∧ T ≤ 300 * t ∧ t ≤ 160) ⟨_, _, _, _, 0, 0, cs, [], [], [], rfl, I0, Nat.le_refl _, by omega⟩ ?_ ?_
  · rintro i σ G hi ⟨z1, z11, z12, z13, t, T0, cs, kvs, fs, es, rfl, I, hT, ht⟩
    have i62 : i ≤ 62 := by
      have hi' := hi
      split at hi' <;> omega
    refine ⟨_, rfl, _, rfl, sa, 1 + (i : Int), ns, rfl, SqL.kp (fun o e => (I.old _ _ (old5 _ _ e)).1) hS, by omega, by omega, fun p H8 hp s8 P8 => ?_⟩
    have bp : H5 p = none := by
      cases z : H5 p with
      | none => rfl
      | some o => rw [(I.old _ _ z).1] at hp; cases hp
    have np1 : mc ≠ p := ne_of_none I.hmc hp
    have np2 : mo ≠ p := ne_of_none I.hmo hp
    have npsh : p ≠ sh := (ne_of_none (I.old _ _ ksh).1 hp).symm
    refine ⟨40, rfl, by decide, by decide, ?_⟩
    refine for_range (lo := 0) (n := 40) (fun j σ G => ∃ (z12 z13 : Option V) (t T : Nat) (cs : List O31) (kvs : List (List L2.Key × V)) (fs : List Int) (es : List (Addr × Addr × Addr)),
      σ = [some (V.ref sa), some (V.ref p), some (V.int n), some (V.ref fi), some (V.ref sh), some (V.ref mc), some (V.ref mo), some (V.ref rd), some (V.ref fl), some (V.ref tl), some (V.int (t : Nat)), some (V.int (1 + (i : Int))), z12, z13, none, none, none, none] ∧
      In31 K C n t T H5 G mc mo rd fl tl cs kvs fs es (as.map (·.p)) (bs.map (·.o)) ∧ T ≤ 300 * t ∧ t ≤ 160 ∧ PotAt (2 * j) G p ∧ Out31 rd fl tl cs kvs es p) ⟨_, _, t, T0, cs, kvs, fs, es, rfl, I.same s8, hT, ht, P8, I.w.free hp⟩ ?_ ?_
    · clear I hT ht P8 s8 hp hi
      rintro j σ G hj ⟨z12, z13, t, T0, cs, kvs, fs, es, rfl, I, hT, ht, P, op⟩
      refine ⟨_, rfl, rfl, _, rfl, ?_⟩
      rw [dec_ii]
      obtain ⟨xp, kp, pl⟩ := id P
      apply goJ (fun σ' G' => (t : Int) ≠ 160 ∧ G' = G ∧ σ' = [some (V.ref sa), some (V.ref p), some (V.int n), some (V.ref fi), some (V.ref sh), some (V.ref mc), some (V.ref mo), some (V.ref rd), some (V.ref fl), some (V.ref tl), some (V.int (t : Nat)), some (V.int (1 + (i : Int))), some (V.int (0 + (j : Int))), z13, none, none, none, none])
      · intro J
        by_cases ct : (t : Int) = 160
        · exact iteT' (decide_eq_true ct) (iteT ⟨_, _, _, _, t, T0, cs, kvs, fs, es, rfl, I, hT, ht⟩)
        refine iteF' (decide_eq_false ct) ?_
        refine ⟨_, rfl, _, _, rfl, rfl, _, rfl, ?_⟩
        refine ite2 (fun _ => ?_) (fun _ => ?_)
        · obtain ⟨xa, xb, xc, rfl, _⟩ := id pl
          refine ⟨_, rfl, p, _, _, _, rfl, rfl, SqL.of kp, atI_nat (j := 0) rfl, rfl, _, rfl, ?_⟩
          exact ite2 (fun _ => ⟨_, _, _, _, t, T0, cs, kvs, fs, es, rfl, I, hT, ht⟩) (fun _ => J _ _ ⟨ct, rfl, rfl⟩)
        · exact iteF (J _ _ ⟨ct, rfl, rfl⟩)
      · rintro σ' G' ⟨ct, rfl, rfl⟩
        have t159 : t ≤ 159 := by omega
        have lcs9 := I.w.len
        refine ⟨_, rfl, _, rfl, mo, rfl, ⟨_, SqL.of I.hmo⟩, fun D hD => ?_⟩
        refine lc_list (K := K) (a := mo) (xs := (bs.map (·.o)).map V.ref) (fun k G2 => Same G' G2 ∧ G2 D = some (.lst ((cs.take k).map fun c => V.str c.st))) ⟨same_upd hD, upd_same⟩ (fun k G2 _ h => SqL.of (h.1 _ _ I.hmo)) ?_ ?_
        · rintro k x G2 hx ⟨s2, kD⟩
          rw [← I.eo, List.getElem?_map, List.getElem?_map] at hx
          cases hc : cs[k]? with
          | none => rw [hc] at hx; cases hx
          | some c =>
            rw [hc] at hx
            cases (Option.some.inj hx)
            have lk := (List.getElem?_eq_some_iff.mp hc).1
            refine ⟨rfl, lc_yes ?_⟩
            refine ⟨_, rfl, c.o, _, _, _, rfl, rfl, SqL.of (s2 _ _ (I.w.row.all k c hc).ho), rfl, _, kD, ?_, fun b o e => ?_, ?_⟩
            · rw [List.length_map, List.length_take]
              exact Nat.lt_of_lt_of_le (show _ < 100 by omega) (by decide)
            · rw [upd_ne (ne_of_none e hD)]
              exact s2 _ _ e
            · rw [List.take_succ, hc, List.map_append]
              exact upd_same
        rintro G2 ⟨s2, kD⟩
        have lall : ((bs.map (·.o)).map V.ref).length = cs.length := by rw [← I.eo, List.length_map, List.length_map]
        rw [lall, List.take_length] at kD
        have I2 := I.same s2
        have P2 := P.keep s2
        have kp2 := s2 _ _ kp
        have pD : p ≠ D := ne_of_none kp hD
        refine ⟨_, rfl, _, rfl, _, rfl, p, D, rd, fl, sh, n, T0, 2 * j, kvs, fs, ks, cs.map (·.st), rfl, P2, by omega, by rw [List.map_map]; exact kD, by rw [List.length_map]; exact lcs9, n60, by omega, I2.w.R, by omega, I2.w.hf, SqL.of (I2.old _ _ ksh).1, nk, lk, rk, pD, op.2.2.1, npsh, fun m' G3 c3 P3 hm => ?_, fun a d m' G3 c3 P3 hm dd dp => ?_⟩
        · have I3 := I2.pot op bp np1 np2 kp2 c3
          refine ⟨_, rfl, _, _, rfl, rfl, ?_⟩
          refine ⟨_, rfl, rfl, _, rfl, iteT' (decide_eq_true rfl) ?_⟩
          exact ⟨_, _, _, _, t + 1, T0, cs, kvs, fs, es, rfl, { I3 with w := I3.w.mono }, by omega, by omega⟩
        · have I3 := I2.pot op bp np1 np2 kp2 c3
          refine ⟨_, rfl, _, _, rfl, rfl, ?_⟩
          refine ⟨_, rfl, rfl, _, rfl, iteF' (by simp) ?_⟩
          refine ⟨_, rfl, _, rfl, _, rfl, _, rfl, _, rfl, _, rfl, mc, mo, rd, fl, a, tl, n, t, T0, cs, kvs, fs, es, d, rfl, I3.w, by rw [I3.ep]; exact I3.hmc, by rw [I3.eo]; exact I3.hmo, I3.omc, I3.omo, dd, dp, n1, n60, by omega, by omega, fun cs4 kvs4 fs4 es4 G4 W4 S4 e1 e2 => ?_⟩
          refine ⟨_, rfl, iteF' rfl ?_⟩
          obtain ⟨xp3, kp3, pl3⟩ := P3
          have z4 := S4 _ _ kp3 op
          exact ⟨_, _, t + 1, T0 + 300, cs4, kvs4, fs4, es4, rfl, I3.done W4 S4 e1 e2, by omega, by omega, PotAt.mono ⟨xp3, z4.1, pl3⟩ (by omega), z4.2⟩
    · rintro σ G ⟨z12, z13, t, T0, cs, kvs, fs, es, rfl, I, hT, ht, _, _⟩
      exact ⟨_, _, _, _, t, T0, cs, kvs, fs, es, rfl, I, hT, ht⟩
  · rintro σ G ⟨z1, z11, z12, z13, t, T0, cs, kvs, fs, es, rfl, I, hT, ht⟩
    have To := I.w.To
    have lcs9 := I.w.len
    have les := To.few
    refine ⟨_, rfl, tl, rfl, ⟨_, SqL.of To.at_⟩, fun D hD => ?_⟩
    refine lc_list (K := K) (a := tl) (xs := es.map fun e => V.ref e.1) (fun k G2 => Same G G2 ∧ G2 D = some (.lst ((List.replicate k true).map V.bl))) ⟨same_upd hD, upd_same⟩ (fun k G2 _ h => SqL.of (h.1 _ _ To.at_)) ?_ ?_
    · rintro k x G2 hx ⟨s2, kD⟩
      rw [List.getElem?_map] at hx
      cases he : es[k]? with
      | none => rw [he] at hx; cases hx
      | some e =>
        rw [he] at hx
        cases (Option.some.inj hx)
        have lk := (List.getElem?_eq_some_iff.mp he).1
        obtain ⟨_, _, _, h1, xs, ds, h2, h3, dz, ls, _⟩ := To.all e (List.mem_of_getElem? he)
        have dz2 := dps_same s2 _ _ dz
        refine ⟨e.1, _, rfl, SqL.of (s2 _ _ h1), rfl, _, _, rfl, _, _, rfl, rfl, rfl, lc_yes ?_⟩
        refine ⟨_, rfl, _, rfl, .list ds, .list ds, .lst (SqL.of (s2 _ _ h2)) dz2, .lst (SqL.of (s2 _ _ h3)) dz2, ls_shaped ls, ls_shaped ls, _, kD, ?_, fun b o e => ?_, ?_⟩
        · rw [List.length_map, List.length_replicate]
          exact Nat.lt_of_lt_of_le (show k < 100 by omega) (by decide)
        · rw [upd_ne (ne_of_none e hD)]
          exact s2 _ _ e
        · rw [List.replicate_succ', List.map_append, show PyData.eqv (.list ds) (.list ds) = true by simp [PyData.eqv, eqvs_self ds ls]]
          exact upd_same
    rintro G2 ⟨s2, kD⟩
    refine ⟨D, _, rfl, SqL.of kD, _, rfl, ?_⟩
    refine iteF' (by rw [List.all_replicate]; simp) ?_
    have I2 := I.same s2
    refine ⟨_, rfl, _, rfl, by omega, by omega, fun D2 hD2 => ?_⟩
    refine lc_range (lo := 0) (n := n.toNat) (fun k G3 => Same G2 G3 ∧ G3 D2 = some (.lst ((List.replicate k true).map V.bl))) ⟨same_upd hD2, upd_same⟩ ?_ ?_
    · rintro k G3 hk ⟨s3, k3⟩
      have lk : k < cs.length := by rw [lcs9]; exact hk
      have ec : cs[k]? = some cs[k] := List.getElem?_eq_getElem lk
      have a1 : atI ((as.map (·.p)).map V.ref) (0 + (k : Int)) = some (.ref cs[k].p) := by
        rw [Int.zero_add, ← I.ep]
        exact atI_nat (by rw [List.getElem?_map, List.getElem?_map, ec]; rfl)
      have a2 : atI ((bs.map (·.o)).map V.ref) (0 + (k : Int)) = some (.ref cs[k].o) := by
        rw [Int.zero_add, ← I.eo]
        exact atI_nat (by rw [List.getElem?_map, List.getElem?_map, ec]; rfl)
      have A := (I2.same s3).w.row.all k _ ec
      refine ⟨rfl, lc_yes ?_⟩
      refine ⟨_, rfl, _, rfl, mc, _, _, _, rfl, rfl, SqL.of (s3 _ _ I2.hmc), a1, _, rfl, _, rfl, mo, _, _, _, rfl, rfl, SqL.of (s3 _ _ I2.hmo), a2, _, rfl, n, 0 + (k : Int), t, cs[k], rfl, by rw [Int.zero_add]; exact A, by omega, fun G4 s4 => ?_⟩
      refine ⟨_, s4 _ _ k3, ?_, fun b o e => ?_, ?_⟩
      · rw [List.length_map, List.length_replicate]
        exact Nat.lt_of_lt_of_le (show k < 100 by omega) (by decide)
      · rw [upd_ne (ne_of_none e hD2)]
        exact s4 _ _ (s3 _ _ e)
      · rw [List.replicate_succ', List.map_append]
        exact upd_same
    rintro G3 ⟨s3, k3⟩
    refine ⟨D2, _, rfl, SqL.of k3, ?_⟩
    rw [show (List.replicate n.toNat true).all id = true by rw [List.all_replicate]; simp]
    exact q _
end

end G0
namespace G0
open PySem PySem.Spec PyProof.Rows L2 NdefX ClX
/-! ### the whole -/
theorem made_of {P : Program} {w : World} {K : PySem.W.Frag} {mg : Str → Option Value} {base : Heap} {C fI cc cda Dk fS : Addr} {ocI dcI pmI ctI clI ccl : Value} {odI anI cldI cdd : Option Addr} {oslI csl ccs : Array (Option Value)} {vs : Array Value} {file : Str} {tf td : Tok} {cdD : ClassData} {fd2 : FuncData}
    (S : StT K C) (sits : NoAttr K C "sits") (mgC : mg "Stamper" = some (.ref C)) (mk : PySem.W.makesIn K C = true) (kc : PySem.W.keepIn K (.ref C) = true)
    (FS : Fun K "__init__" "Seat.__init__" s_Seat__init fS fd2)
    (i1 : PySem.W.findIn K (.ref C) "__init__" = some (some (.ref fI))) (i2 : PySem.W.isFn K (.ref fI) = true)
    (i3 : K.lookup fI = some ⟨ocI, odI, .func (PySem.W.ksFn "__init__" "Stamper.__init__" (defArgs s_Stamper__init) (defBody s_Stamper__init) (defScope s_Stamper__init) .none (.ref Dk) dcI pmI anI (.ref cda) ctI cc), oslI⟩)
    (i4 : PySem.W.codeIn K (.ref cda) "Stamper.__init__" = true) (i5 : K.lookup cc = some ⟨clI, cldI, .cell (some (.ref C)), csl⟩) (i6 : K.lookup cda = some ⟨ccl, cdd, .fields vs, ccs⟩)
    (w7 : vs[2]? = some (.str file tf)) (w8 : ((P.main.file : Str) == file) = true) (w9 : PySem.W.clsIn K C = some cdD) (i10 : PySem.W.nsIn K mainGlobals "super" = some none)
    (w11 : (P.main.scope.names.lookup ("super" : Str)).isSome = false) (i12 : PySem.W.nsIn K cStatics "thirdparty.any" = some none) (w13 : PySem.W.mroIn K C (.ref C) = some true)
    (w14 : PySem.W.ks_superIn K C C "__init__" = some (some (.ref fS))) (i15 : PySem.W.typeIn K (.ref fS) = some (.type "function")) (w16 : PySem.W.fnIn K fS = true)
    (i17 : PySem.W.nsIn K Dk "count" = some (some (.int 0 td))) : MkT P w K mg base C := by
  have F2 : FnR P w K mg base CX0 1 fS (spSeat0 C) := fnR_of (ps := ["self", "me"]) (ok_seat0 FS S.cl S.me S.state sits) (FS.binds (fun _ _ _ _ _ _ us hl => match us, hl with | [_, _], _ => rfl) )
  have F : SupF P K ["self", "me", "seats", "count", "__class__"] fI cc cda C (PySem.W.ksFn "__init__" "Stamper.__init__" (defArgs s_Stamper__init) (defBody s_Stamper__init) (defScope s_Stamper__init) .none (.ref Dk) dcI pmI anI (.ref cda) ctI cc) (defArgs s_Stamper__init) (defScope s_Stamper__init) := {
    fun_ := ⟨_, _, _, i3, rfl⟩
    arg := ⟨_, rfl, rfl, by decide +kernel⟩
    code := ⟨_, _, _, _, _, _, i6, w7, w8⟩
    cell := ⟨_, _, _, i5⟩
    cls := ⟨_, w9⟩
    miss := i10
    sup := by decide +kernel
    own := by decide +kernel
    kind := rfl
    top := w11
    any_ := i12 }
  refine ⟨⟨fI, _, [.int 0 td], _, ok_sinit i3 i4 i5 F F2 S w13 w14 i15 w16, .cons ⟨td, rfl⟩ .nil, fun s us X hl => ?_, ⟨fun s us ws X l1 l2 => ?_, fun r1 r2 => r1.append r2⟩, ⟨mk, i1, i2, kc⟩, rfl⟩, mgC⟩
  · have l3 : us.length = 3 := by
      rw [List.length_append] at hl
      exact Nat.succ.inj hl
    refine BindsTo.of_looks fun M => KwChain.looks (l := [("count", .int 0 td)]) X (fun q hq => by
      rw [List.mem_singleton.mp hq]
      exact i17) ?_
    match us, l3 with
    | [_, _, _], _ => exact ⟨_, _, _, _, _, _, rfl, rfl, rfl⟩
  · match us, ws, l1, l2 with
    | [_, _, _], [_], _, _ => exact .of_eq rfl
theorem me_of {P : Program} {w : World} {K : PySem.W.Frag} {mg : Str → Option Value} {base : Heap} {C : Addr} {x qual : Str} {st : Stmt} {k : Nat} {ps : List Str} {sp : Sp}
    (F : Fm K C x qual st) (ok : ∀ f fd, Fun K x qual st f fd → FnOk P w K mg base CX0 k f fd ps sp)
    (bd : ∀ (kV doc pm : Value) (an : Option Addr) (cdv ct : Value) (us : List Value), us.length = ps.length →
      bindArgs (PySem.W.fnOf x qual (defArgs st) (defBody st) (defScope st) .none kV doc pm an cdv ct) ⟨us, []⟩ = pure (ps.zip us)) :
    Me P w K mg base C x k ps sp := by
  obtain ⟨f, fd, F, m⟩ := F
  exact ⟨f, fd, ok f fd F, F.binds bd, m⟩
theorem whole {P : Program} {w : World} {K : PySem.W.Frag} {mg : Str → Option Value} {base : Heap} {C : Addr} (T1 : BlS mg) (T3 : BlW mg) (T4 : BlQ mg) (T31 : Bl31 mg) (TV : BlV mg) (TL : BlL mg) (S : StT K C)
    (F_is_below : Fn K mg "is_below" s_is_below) (F_look_at_many : Fn K mg "look_at_many" s_look_at_many) (F_counts_fault : Fn K mg "_counts_fault" s_counts_fault) (F_law_pot : Fn K mg "_law_pot" s_law_pot) (F_law_draw : Fn K mg "_law_draw" s_law_draw) (F_law_same : Fn K mg "_law_same" s_law_same) (F_law_seats : Fn K mg "_law_seats" s_law_seats) (F_law_firsts : Fn K mg "_law_firsts" s_law_firsts) (F_law_model : Fn K mg "_law_model" s_law_model) (F_law_comes_in : Fn K mg "_law_comes_in" s_law_comes_in) (F_law_asks : Fn K mg "_law_asks" s_law_asks) (F_law_leaves : Fn K mg "_law_leaves" s_law_leaves) (F_law_hears : Fn K mg "_law_hears" s_law_hears) (F_law_put : Fn K mg "_law_put" s_law_put) (F_law_taken : Fn K mg "_law_taken" s_law_taken) (F_law_falls : Fn K mg "_law_falls" s_law_falls) (F_law_deed : Fn K mg "_law_deed" s_law_deed) (F_law_stands : Fn K mg "_law_stands" s_law_stands) (F_law_kept : Fn K mg "_law_kept" s_law_kept) (F_law_done : Fn K mg "_law_done" s_law_done) (F_law : Fn K mg "law" s_law)
    (M_awaits : Fm K C "awaits" "Stamper.awaits" s_Stamper_awaits) (M_holds : Fm K C "holds" "Stamper.holds" s_Stamper_holds) (M_told : Fm K C "told_gone" "Stamper.told_gone" s_Stamper_told_gone) (M_yes : Fm K C "_yes" "Stamper._yes" s_Stamper_yes) (M_come : Fm K C "_come_in_where_none_is_awaited" "Stamper._come_in_where_none_is_awaited" s_Stamper_come_in_where_none_is_awaited) (M_more : Fm K C "_await_no_more" "Stamper._await_no_more" s_Stamper_await_no_more) (M_hask : Fm K C "_hear_ask" "Stamper._hear_ask" s_Stamper_hear_ask) (M_hear : Fm K C "hear" "Stamper.hear" s_Stamper_hear) (M_leave : Fm K C "leave" "Stamper.leave" s_Stamper_leave) (M_gone : Fm K C "gone" "Stamper.gone" s_Stamper_gone) (M_ask : Fm K C "ask" "Stamper.ask" s_Stamper_ask)
    (FX : FnK K mg "stampers" s_stampers []) (MK : MkT P w K mg base C) : Cal P w K mg base "law" 6 ["script"] (spLaw K) := by
  have Y := me_of (P := P) (w := w) (mg := mg) (base := base) (ps := ["self", "seat"]) M_yes (fun f fd F => ok_yes F S) (fun _ _ _ _ _ _ us hl => match us, hl with | [_, _], _ => rfl) 
  have Co := me_of (P := P) (w := w) (mg := mg) (base := base) (ps := ["self"]) M_come (fun f fd F => ok_come F T1 S) (fun _ _ _ _ _ _ us hl => match us, hl with | [_], _ => rfl) 
  have No := me_of (P := P) (w := w) (mg := mg) (base := base) (ps := ["self", "seat"]) M_more (fun f fd F => ok_nomore F S Co) (fun _ _ _ _ _ _ us hl => match us, hl with | [_, _], _ => rfl) 
  have Ha := me_of (P := P) (w := w) (mg := mg) (base := base) (ps := ["self", "sender", "count"]) M_hask (fun f fd F => ok_hearask F S Y) (fun _ _ _ _ _ _ us hl => match us, hl with | [_, _, _], _ => rfl) 
  have He := me_of (P := P) (w := w) (mg := mg) (base := base) (ps := ["self", "sender", "letter"]) M_hear (fun f fd F => ok_hear F T1 S Ha No) (fun _ _ _ _ _ _ us hl => match us, hl with | [_, _, _], _ => rfl) 
  have Le := me_of (P := P) (w := w) (mg := mg) (base := base) (ps := ["self"]) M_leave (fun f fd F => ok_leave F S Y) (fun _ _ _ _ _ _ us hl => match us, hl with | [_], _ => rfl) 
  have Go := me_of (P := P) (w := w) (mg := mg) (base := base) (ps := ["self", "seat"]) M_gone (fun f fd F => ok_sgone F S No) (fun _ _ _ _ _ _ us hl => match us, hl with | [_, _], _ => rfl) 
  have As := me_of (P := P) (w := w) (mg := mg) (base := base) (ps := ["self"]) M_ask (fun f fd F => ok_sask F T1 S Co) (fun _ _ _ _ _ _ us hl => match us, hl with | [_], _ => rfl) 
  have Aw := me_of (P := P) (w := w) (mg := mg) (base := base) (ps := ["self"]) M_awaits (fun f fd F => ok_awaits F T1 S) (fun _ _ _ _ _ _ us hl => match us, hl with | [_], _ => rfl) 
  have Ho := me_of (P := P) (w := w) (mg := mg) (base := base) (ps := ["self"]) M_holds (fun f fd F => ok_holds F T1 S) (fun _ _ _ _ _ _ us hl => match us, hl with | [_], _ => rfl) 
  have Tg := me_of (P := P) (w := w) (mg := mg) (base := base) (ps := ["self"]) M_told (fun f fd F => ok_toldgone31 F T1 S) (fun _ _ _ _ _ _ us hl => match us, hl with | [_], _ => rfl) 
  have St := ok_stands31 F_law_stands S (ok_sms F_law_same T4 2) Aw Ho Tg
  have Dr := ok_draw (P := P) (w := w) (base := base) F_law_draw
  have Ci := ok_come31 (P := P) (w := w) (base := base) F_law_comes_in
  have Pu := ok_put31 (P := P) (w := w) (base := base) F_law_put T31
  have Ib := ok_bel (P := P) (w := w) (base := base) F_is_below TV
  have Dn := ok_done31 F_law_done T31 S (ok_sms F_law_same T4 3) Pu (ok_taken31 F_law_taken) (ok_falls31 F_law_falls T31 Pu) (ok_kept31 F_law_kept T31) St (ok_asks31 F_law_asks T31 Ci) (ok_leaves31 F_law_leaves) (ok_hears31 F_law_hears T31 Ci) As Le Go He
  have SX := ok_stampers FX TV MK (ok_many F_look_at_many TV Ib) (ok_countf F_counts_fault TV Ib)
  exact ok_law31 F_law TL (ok_pot F_law_pot T3) Dr (ok_seats31 F_law_seats Dr) (ok_firsts31 F_law_firsts T31 Dr) SX (ok_model31 F_law_model TV) (ok_deed31 F_law_deed T31 Dr) Dn St
theorem all_mk {P : Program} {w : World} {K : PySem.W.Frag} {h : Heap} {mg : Str → Option Value} {fa : Addr}
    {C_Stamper : Addr} {C_Seat : Addr} {f1 : Addr} {od1 an1 : Option Addr} {sl1 : Array (Option Value)} {oc1 kV1 dc1 pm1 cd1 ct1 : Value} {f2 : Addr} {od2 an2 : Option Addr} {sl2 : Array (Option Value)} {oc2 kV2 dc2 pm2 cd2 ct2 : Value} {f3 : Addr} {od3 an3 : Option Addr} {sl3 : Array (Option Value)} {oc3 kV3 dc3 pm3 cd3 ct3 : Value} {f4 : Addr} {od4 an4 : Option Addr} {sl4 : Array (Option Value)} {oc4 kV4 dc4 pm4 cd4 ct4 : Value} {f5 : Addr} {od5 an5 : Option Addr} {sl5 : Array (Option Value)} {oc5 kV5 dc5 pm5 cd5 ct5 : Value} {f6 : Addr} {od6 an6 : Option Addr} {sl6 : Array (Option Value)} {oc6 kV6 dc6 pm6 cd6 ct6 : Value} {f7 : Addr} {od7 an7 : Option Addr} {sl7 : Array (Option Value)} {oc7 kV7 dc7 pm7 cd7 ct7 : Value} {f8 : Addr} {od8 an8 : Option Addr} {sl8 : Array (Option Value)} {oc8 kV8 dc8 pm8 cd8 ct8 : Value} {f9 : Addr} {od9 an9 : Option Addr} {sl9 : Array (Option Value)} {oc9 kV9 dc9 pm9 cd9 ct9 : Value} {f10 : Addr} {od10 an10 : Option Addr} {sl10 : Array (Option Value)} {oc10 kV10 dc10 pm10 cd10 ct10 : Value} {f11 : Addr} {od11 an11 : Option Addr} {sl11 : Array (Option Value)} {oc11 kV11 dc11 pm11 cd11 ct11 : Value} {f12 : Addr} {od12 an12 : Option Addr} {sl12 : Array (Option Value)} {oc12 kV12 dc12 pm12 cd12 ct12 : Value} {f13 : Addr} {od13 an13 : Option Addr} {sl13 : Array (Option Value)} {oc13 kV13 dc13 pm13 cd13 ct13 : Value} {f14 : Addr} {od14 an14 : Option Addr} {sl14 : Array (Option Value)} {oc14 kV14 dc14 pm14 cd14 ct14 : Value} {f15 : Addr} {od15 an15 : Option Addr} {sl15 : Array (Option Value)} {oc15 kV15 dc15 pm15 cd15 ct15 : Value} {f16 : Addr} {od16 an16 : Option Addr} {sl16 : Array (Option Value)} {oc16 kV16 dc16 pm16 cd16 ct16 : Value} {f17 : Addr} {od17 an17 : Option Addr} {sl17 : Array (Option Value)} {oc17 kV17 dc17 pm17 cd17 ct17 : Value} {f18 : Addr} {od18 an18 : Option Addr} {sl18 : Array (Option Value)} {oc18 kV18 dc18 pm18 cd18 ct18 : Value} {f19 : Addr} {od19 an19 : Option Addr} {sl19 : Array (Option Value)} {oc19 kV19 dc19 pm19 cd19 ct19 : Value} {f20 : Addr} {od20 an20 : Option Addr} {sl20 : Array (Option Value)} {oc20 kV20 dc20 pm20 cd20 ct20 : Value} {f21 : Addr} {od21 an21 : Option Addr} {sl21 : Array (Option Value)} {oc21 kV21 dc21 pm21 cd21 ct21 : Value} {f22 : Addr} {od22 an22 : Option Addr} {sl22 : Array (Option Value)} {oc22 kV22 dc22 pm22 cd22 ct22 : Value} {f23 : Addr} {od23 an23 : Option Addr} {sl23 : Array (Option Value)} {oc23 kV23 dc23 pm23 cd23 ct23 : Value} {f24 : Addr} {od24 an24 : Option Addr} {sl24 : Array (Option Value)} {oc24 kV24 dc24 pm24 cd24 ct24 : Value} {f25 : Addr} {od25 an25 : Option Addr} {sl25 : Array (Option Value)} {oc25 kV25 dc25 pm25 cd25 ct25 : Value} {f26 : Addr} {od26 an26 : Option Addr} {sl26 : Array (Option Value)} {oc26 kV26 dc26 pm26 cd26 ct26 : Value} {f27 : Addr} {od27 an27 : Option Addr} {sl27 : Array (Option Value)} {oc27 kV27 dc27 pm27 cd27 ct27 : Value} {f28 : Addr} {od28 an28 : Option Addr} {sl28 : Array (Option Value)} {oc28 kV28 dc28 pm28 cd28 ct28 : Value} {f29 : Addr} {od29 an29 : Option Addr} {sl29 : Array (Option Value)} {oc29 kV29 dc29 pm29 cd29 ct29 : Value} {f30 : Addr} {od30 an30 : Option Addr} {sl30 : Array (Option Value)} {oc30 kV30 dc30 pm30 cd30 ct30 : Value} {f31 : Addr} {od31 an31 : Option Addr} {sl31 : Array (Option Value)} {oc31 kV31 dc31 pm31 cd31 ct31 : Value} {f32 : Addr} {od32 an32 : Option Addr} {sl32 : Array (Option Value)} {oc32 kV32 dc32 pm32 cd32 ct32 : Value} {f33 : Addr} {od33 an33 : Option Addr} {sl33 : Array (Option Value)} {oc33 kV33 dc33 pm33 cd33 ct33 : Value} {fI cc cda Dk fcs Dcs : Addr} {ocI dcI pmI ctI clI ccl occ dcc pmc cdc ctc : Value} {odI anI cldI cdd odc anc : Option Addr} {oslI csl ccs slc : Array (Option Value)} {vs : Array Value} {file : Str} {tf td t0 t1 t2 : Tok} {cdD : ClassData}
    (X : K.In h) (G : h.Ns mainGlobals mg) (hfa : mg "law" = some (.ref fa))
    (aC_Stamper : PySem.W.nsIn K mainGlobals "Stamper" = some (some (.ref C_Stamper)))
    (pg_Stamper : PySem.W.plainGet K C_Stamper Str.empty = true)
    (hd_Stamper : PySem.W.hasDictIn K C_Stamper = true)
    (po_Stamper : PySem.W.plainOver K C_Stamper = true)
    (sa_Stamper : PySem.W.findIn K (.ref C_Stamper) "__setattr__" = some (some (.builtin "object.__setattr__")))
    (mk_Stamper : PySem.W.makesIn K C_Stamper = true)
    (kc_Stamper : PySem.W.keepIn K (.ref C_Stamper) = true)
    (aC_Seat : PySem.W.nsIn K mainGlobals "Seat" = some (some (.ref C_Seat)))
    (pg_Seat : PySem.W.plainGet K C_Seat Str.empty = true)
    (hd_Seat : PySem.W.hasDictIn K C_Seat = true)
    (po_Seat : PySem.W.plainOver K C_Seat = true)
    (sa_Seat : PySem.W.findIn K (.ref C_Seat) "__setattr__" = some (some (.builtin "object.__setattr__")))
    (mk_Seat : PySem.W.makesIn K C_Seat = true)
    (kc_Seat : PySem.W.keepIn K (.ref C_Seat) = true)
    (a1 : PySem.W.nsIn K mainGlobals "is_below" = some (some (.ref f1)))
    (l1 : K.lookup f1 = some ⟨oc1, od1, .func (PySem.W.fnOf "is_below" "is_below" (defArgs s_is_below) (defBody s_is_below) (defScope s_is_below) .none kV1 dc1 pm1 an1 cd1 ct1), sl1⟩)
    (c1 : PySem.W.codeIn K cd1 "is_below" = true)
    (k1 : PySem.W.keepIn K (.ref f1) = true)
    (a2 : PySem.W.nsIn K mainGlobals "look_at_many" = some (some (.ref f2)))
    (l2 : K.lookup f2 = some ⟨oc2, od2, .func (PySem.W.fnOf "look_at_many" "look_at_many" (defArgs s_look_at_many) (defBody s_look_at_many) (defScope s_look_at_many) .none kV2 dc2 pm2 an2 cd2 ct2), sl2⟩)
    (c2 : PySem.W.codeIn K cd2 "look_at_many" = true)
    (k2 : PySem.W.keepIn K (.ref f2) = true)
    (a3 : PySem.W.nsIn K mainGlobals "_counts_fault" = some (some (.ref f3)))
    (l3 : K.lookup f3 = some ⟨oc3, od3, .func (PySem.W.fnOf "_counts_fault" "_counts_fault" (defArgs s_counts_fault) (defBody s_counts_fault) (defScope s_counts_fault) .none kV3 dc3 pm3 an3 cd3 ct3), sl3⟩)
    (c3 : PySem.W.codeIn K cd3 "_counts_fault" = true)
    (k3 : PySem.W.keepIn K (.ref f3) = true)
    (a4 : PySem.W.nsIn K mainGlobals "_law_pot" = some (some (.ref f4)))
    (l4 : K.lookup f4 = some ⟨oc4, od4, .func (PySem.W.fnOf "_law_pot" "_law_pot" (defArgs s_law_pot) (defBody s_law_pot) (defScope s_law_pot) .none kV4 dc4 pm4 an4 cd4 ct4), sl4⟩)
    (c4 : PySem.W.codeIn K cd4 "_law_pot" = true)
    (k4 : PySem.W.keepIn K (.ref f4) = true)
    (a5 : PySem.W.nsIn K mainGlobals "_law_draw" = some (some (.ref f5)))
    (l5 : K.lookup f5 = some ⟨oc5, od5, .func (PySem.W.fnOf "_law_draw" "_law_draw" (defArgs s_law_draw) (defBody s_law_draw) (defScope s_law_draw) .none kV5 dc5 pm5 an5 cd5 ct5), sl5⟩)
    (c5 : PySem.W.codeIn K cd5 "_law_draw" = true)
    (k5 : PySem.W.keepIn K (.ref f5) = true)
    (a6 : PySem.W.nsIn K mainGlobals "_law_same" = some (some (.ref f6)))
    (l6 : K.lookup f6 = some ⟨oc6, od6, .func (PySem.W.fnOf "_law_same" "_law_same" (defArgs s_law_same) (defBody s_law_same) (defScope s_law_same) .none kV6 dc6 pm6 an6 cd6 ct6), sl6⟩)
    (c6 : PySem.W.codeIn K cd6 "_law_same" = true)
    (k6 : PySem.W.keepIn K (.ref f6) = true)
    (a7 : PySem.W.nsIn K mainGlobals "_law_seats" = some (some (.ref f7)))
    (l7 : K.lookup f7 = some ⟨oc7, od7, .func (PySem.W.fnOf "_law_seats" "_law_seats" (defArgs s_law_seats) (defBody s_law_seats) (defScope s_law_seats) .none kV7 dc7 pm7 an7 cd7 ct7), sl7⟩)
    (c7 : PySem.W.codeIn K cd7 "_law_seats" = true)
    (k7 : PySem.W.keepIn K (.ref f7) = true)
    (a8 : PySem.W.nsIn K mainGlobals "_law_firsts" = some (some (.ref f8)))
    (l8 : K.lookup f8 = some ⟨oc8, od8, .func (PySem.W.fnOf "_law_firsts" "_law_firsts" (defArgs s_law_firsts) (defBody s_law_firsts) (defScope s_law_firsts) .none kV8 dc8 pm8 an8 cd8 ct8), sl8⟩)
    (c8 : PySem.W.codeIn K cd8 "_law_firsts" = true)
    (k8 : PySem.W.keepIn K (.ref f8) = true)
    (a9 : PySem.W.nsIn K mainGlobals "_law_model" = some (some (.ref f9)))
    (l9 : K.lookup f9 = some ⟨oc9, od9, .func (PySem.W.fnOf "_law_model" "_law_model" (defArgs s_law_model) (defBody s_law_model) (defScope s_law_model) .none kV9 dc9 pm9 an9 cd9 ct9), sl9⟩)
    (c9 : PySem.W.codeIn K cd9 "_law_model" = true)
    (k9 : PySem.W.keepIn K (.ref f9) = true)
    (a10 : PySem.W.nsIn K mainGlobals "_law_comes_in" = some (some (.ref f10)))
    (l10 : K.lookup f10 = some ⟨oc10, od10, .func (PySem.W.fnOf "_law_comes_in" "_law_comes_in" (defArgs s_law_comes_in) (defBody s_law_comes_in) (defScope s_law_comes_in) .none kV10 dc10 pm10 an10 cd10 ct10), sl10⟩)
    (c10 : PySem.W.codeIn K cd10 "_law_comes_in" = true)
    (k10 : PySem.W.keepIn K (.ref f10) = true)
    (a11 : PySem.W.nsIn K mainGlobals "_law_asks" = some (some (.ref f11)))
    (l11 : K.lookup f11 = some ⟨oc11, od11, .func (PySem.W.fnOf "_law_asks" "_law_asks" (defArgs s_law_asks) (defBody s_law_asks) (defScope s_law_asks) .none kV11 dc11 pm11 an11 cd11 ct11), sl11⟩)
    (c11 : PySem.W.codeIn K cd11 "_law_asks" = true)
    (k11 : PySem.W.keepIn K (.ref f11) = true)
    (a12 : PySem.W.nsIn K mainGlobals "_law_leaves" = some (some (.ref f12)))
    (l12 : K.lookup f12 = some ⟨oc12, od12, .func (PySem.W.fnOf "_law_leaves" "_law_leaves" (defArgs s_law_leaves) (defBody s_law_leaves) (defScope s_law_leaves) .none kV12 dc12 pm12 an12 cd12 ct12), sl12⟩)
    (c12 : PySem.W.codeIn K cd12 "_law_leaves" = true)
    (k12 : PySem.W.keepIn K (.ref f12) = true)
    (a13 : PySem.W.nsIn K mainGlobals "_law_hears" = some (some (.ref f13)))
    (l13 : K.lookup f13 = some ⟨oc13, od13, .func (PySem.W.fnOf "_law_hears" "_law_hears" (defArgs s_law_hears) (defBody s_law_hears) (defScope s_law_hears) .none kV13 dc13 pm13 an13 cd13 ct13), sl13⟩)
    (c13 : PySem.W.codeIn K cd13 "_law_hears" = true)
    (k13 : PySem.W.keepIn K (.ref f13) = true)
    (a14 : PySem.W.nsIn K mainGlobals "_law_put" = some (some (.ref f14)))
    (l14 : K.lookup f14 = some ⟨oc14, od14, .func (PySem.W.fnOf "_law_put" "_law_put" (defArgs s_law_put) (defBody s_law_put) (defScope s_law_put) .none kV14 dc14 pm14 an14 cd14 ct14), sl14⟩)
    (c14 : PySem.W.codeIn K cd14 "_law_put" = true)
    (k14 : PySem.W.keepIn K (.ref f14) = true)
    (a15 : PySem.W.nsIn K mainGlobals "_law_taken" = some (some (.ref f15)))
    (l15 : K.lookup f15 = some ⟨oc15, od15, .func (PySem.W.fnOf "_law_taken" "_law_taken" (defArgs s_law_taken) (defBody s_law_taken) (defScope s_law_taken) .none kV15 dc15 pm15 an15 cd15 ct15), sl15⟩)
    (c15 : PySem.W.codeIn K cd15 "_law_taken" = true)
    (k15 : PySem.W.keepIn K (.ref f15) = true)
    (a16 : PySem.W.nsIn K mainGlobals "_law_falls" = some (some (.ref f16)))
    (l16 : K.lookup f16 = some ⟨oc16, od16, .func (PySem.W.fnOf "_law_falls" "_law_falls" (defArgs s_law_falls) (defBody s_law_falls) (defScope s_law_falls) .none kV16 dc16 pm16 an16 cd16 ct16), sl16⟩)
    (c16 : PySem.W.codeIn K cd16 "_law_falls" = true)
    (k16 : PySem.W.keepIn K (.ref f16) = true)
    (a17 : PySem.W.nsIn K mainGlobals "_law_deed" = some (some (.ref f17)))
    (l17 : K.lookup f17 = some ⟨oc17, od17, .func (PySem.W.fnOf "_law_deed" "_law_deed" (defArgs s_law_deed) (defBody s_law_deed) (defScope s_law_deed) .none kV17 dc17 pm17 an17 cd17 ct17), sl17⟩)
    (c17 : PySem.W.codeIn K cd17 "_law_deed" = true)
    (k17 : PySem.W.keepIn K (.ref f17) = true)
    (a18 : PySem.W.nsIn K mainGlobals "_law_stands" = some (some (.ref f18)))
    (l18 : K.lookup f18 = some ⟨oc18, od18, .func (PySem.W.fnOf "_law_stands" "_law_stands" (defArgs s_law_stands) (defBody s_law_stands) (defScope s_law_stands) .none kV18 dc18 pm18 an18 cd18 ct18), sl18⟩)
    (c18 : PySem.W.codeIn K cd18 "_law_stands" = true)
    (k18 : PySem.W.keepIn K (.ref f18) = true)
    (a19 : PySem.W.nsIn K mainGlobals "_law_kept" = some (some (.ref f19)))
    (l19 : K.lookup f19 = some ⟨oc19, od19, .func (PySem.W.fnOf "_law_kept" "_law_kept" (defArgs s_law_kept) (defBody s_law_kept) (defScope s_law_kept) .none kV19 dc19 pm19 an19 cd19 ct19), sl19⟩)
    (c19 : PySem.W.codeIn K cd19 "_law_kept" = true)
    (k19 : PySem.W.keepIn K (.ref f19) = true)
    (a20 : PySem.W.nsIn K mainGlobals "_law_done" = some (some (.ref f20)))
    (l20 : K.lookup f20 = some ⟨oc20, od20, .func (PySem.W.fnOf "_law_done" "_law_done" (defArgs s_law_done) (defBody s_law_done) (defScope s_law_done) .none kV20 dc20 pm20 an20 cd20 ct20), sl20⟩)
    (c20 : PySem.W.codeIn K cd20 "_law_done" = true)
    (k20 : PySem.W.keepIn K (.ref f20) = true)
    (a21 : PySem.W.nsIn K mainGlobals "law" = some (some (.ref f21)))
    (l21 : K.lookup f21 = some ⟨oc21, od21, .func (PySem.W.fnOf "law" "law" (defArgs s_law) (defBody s_law) (defScope s_law) .none kV21 dc21 pm21 an21 cd21 ct21), sl21⟩)
    (c21 : PySem.W.codeIn K cd21 "law" = true)
    (k21 : PySem.W.keepIn K (.ref f21) = true)
    (a22 : PySem.W.findIn K (.ref C_Seat) "__init__" = some (some (.ref f22)))
    (i22 : PySem.W.isFn K (.ref f22) = true)
    (l22 : K.lookup f22 = some ⟨oc22, od22, .func (PySem.W.fnOf "__init__" "Seat.__init__" (defArgs s_Seat__init) (defBody s_Seat__init) (defScope s_Seat__init) .none kV22 dc22 pm22 an22 cd22 ct22), sl22⟩)
    (c22 : PySem.W.codeIn K cd22 "Seat.__init__" = true)
    (k22 : PySem.W.keepIn K (.ref f22) = true)
    (a23 : PySem.W.findIn K (.ref C_Stamper) "awaits" = some (some (.ref f23)))
    (i23 : PySem.W.isFn K (.ref f23) = true)
    (l23 : K.lookup f23 = some ⟨oc23, od23, .func (PySem.W.fnOf "awaits" "Stamper.awaits" (defArgs s_Stamper_awaits) (defBody s_Stamper_awaits) (defScope s_Stamper_awaits) .none kV23 dc23 pm23 an23 cd23 ct23), sl23⟩)
    (c23 : PySem.W.codeIn K cd23 "Stamper.awaits" = true)
    (k23 : PySem.W.keepIn K (.ref f23) = true)
    (a24 : PySem.W.findIn K (.ref C_Stamper) "holds" = some (some (.ref f24)))
    (i24 : PySem.W.isFn K (.ref f24) = true)
    (l24 : K.lookup f24 = some ⟨oc24, od24, .func (PySem.W.fnOf "holds" "Stamper.holds" (defArgs s_Stamper_holds) (defBody s_Stamper_holds) (defScope s_Stamper_holds) .none kV24 dc24 pm24 an24 cd24 ct24), sl24⟩)
    (c24 : PySem.W.codeIn K cd24 "Stamper.holds" = true)
    (k24 : PySem.W.keepIn K (.ref f24) = true)
    (a25 : PySem.W.findIn K (.ref C_Stamper) "told_gone" = some (some (.ref f25)))
    (i25 : PySem.W.isFn K (.ref f25) = true)
    (l25 : K.lookup f25 = some ⟨oc25, od25, .func (PySem.W.fnOf "told_gone" "Stamper.told_gone" (defArgs s_Stamper_told_gone) (defBody s_Stamper_told_gone) (defScope s_Stamper_told_gone) .none kV25 dc25 pm25 an25 cd25 ct25), sl25⟩)
    (c25 : PySem.W.codeIn K cd25 "Stamper.told_gone" = true)
    (k25 : PySem.W.keepIn K (.ref f25) = true)
    (a26 : PySem.W.findIn K (.ref C_Stamper) "_yes" = some (some (.ref f26)))
    (i26 : PySem.W.isFn K (.ref f26) = true)
    (l26 : K.lookup f26 = some ⟨oc26, od26, .func (PySem.W.fnOf "_yes" "Stamper._yes" (defArgs s_Stamper_yes) (defBody s_Stamper_yes) (defScope s_Stamper_yes) .none kV26 dc26 pm26 an26 cd26 ct26), sl26⟩)
    (c26 : PySem.W.codeIn K cd26 "Stamper._yes" = true)
    (k26 : PySem.W.keepIn K (.ref f26) = true)
    (a27 : PySem.W.findIn K (.ref C_Stamper) "_come_in_where_none_is_awaited" = some (some (.ref f27)))
    (i27 : PySem.W.isFn K (.ref f27) = true)
    (l27 : K.lookup f27 = some ⟨oc27, od27, .func (PySem.W.fnOf "_come_in_where_none_is_awaited" "Stamper._come_in_where_none_is_awaited" (defArgs s_Stamper_come_in_where_none_is_awaited) (defBody s_Stamper_come_in_where_none_is_awaited) (defScope s_Stamper_come_in_where_none_is_awaited) .none kV27 dc27 pm27 an27 cd27 ct27), sl27⟩)
    (c27 : PySem.W.codeIn K cd27 "Stamper._come_in_where_none_is_awaited" = true)
    (k27 : PySem.W.keepIn K (.ref f27) = true)
    (a28 : PySem.W.findIn K (.ref C_Stamper) "_await_no_more" = some (some (.ref f28)))
    (i28 : PySem.W.isFn K (.ref f28) = true)
    (l28 : K.lookup f28 = some ⟨oc28, od28, .func (PySem.W.fnOf "_await_no_more" "Stamper._await_no_more" (defArgs s_Stamper_await_no_more) (defBody s_Stamper_await_no_more) (defScope s_Stamper_await_no_more) .none kV28 dc28 pm28 an28 cd28 ct28), sl28⟩)
    (c28 : PySem.W.codeIn K cd28 "Stamper._await_no_more" = true)
    (k28 : PySem.W.keepIn K (.ref f28) = true)
    (a29 : PySem.W.findIn K (.ref C_Stamper) "_hear_ask" = some (some (.ref f29)))
    (i29 : PySem.W.isFn K (.ref f29) = true)
    (l29 : K.lookup f29 = some ⟨oc29, od29, .func (PySem.W.fnOf "_hear_ask" "Stamper._hear_ask" (defArgs s_Stamper_hear_ask) (defBody s_Stamper_hear_ask) (defScope s_Stamper_hear_ask) .none kV29 dc29 pm29 an29 cd29 ct29), sl29⟩)
    (c29 : PySem.W.codeIn K cd29 "Stamper._hear_ask" = true)
    (k29 : PySem.W.keepIn K (.ref f29) = true)
    (a30 : PySem.W.findIn K (.ref C_Stamper) "hear" = some (some (.ref f30)))
    (i30 : PySem.W.isFn K (.ref f30) = true)
    (l30 : K.lookup f30 = some ⟨oc30, od30, .func (PySem.W.fnOf "hear" "Stamper.hear" (defArgs s_Stamper_hear) (defBody s_Stamper_hear) (defScope s_Stamper_hear) .none kV30 dc30 pm30 an30 cd30 ct30), sl30⟩)
    (c30 : PySem.W.codeIn K cd30 "Stamper.hear" = true)
    (k30 : PySem.W.keepIn K (.ref f30) = true)
    (a31 : PySem.W.findIn K (.ref C_Stamper) "leave" = some (some (.ref f31)))
    (i31 : PySem.W.isFn K (.ref f31) = true)
    (l31 : K.lookup f31 = some ⟨oc31, od31, .func (PySem.W.fnOf "leave" "Stamper.leave" (defArgs s_Stamper_leave) (defBody s_Stamper_leave) (defScope s_Stamper_leave) .none kV31 dc31 pm31 an31 cd31 ct31), sl31⟩)
    (c31 : PySem.W.codeIn K cd31 "Stamper.leave" = true)
    (k31 : PySem.W.keepIn K (.ref f31) = true)
    (a32 : PySem.W.findIn K (.ref C_Stamper) "gone" = some (some (.ref f32)))
    (i32 : PySem.W.isFn K (.ref f32) = true)
    (l32 : K.lookup f32 = some ⟨oc32, od32, .func (PySem.W.fnOf "gone" "Stamper.gone" (defArgs s_Stamper_gone) (defBody s_Stamper_gone) (defScope s_Stamper_gone) .none kV32 dc32 pm32 an32 cd32 ct32), sl32⟩)
    (c32 : PySem.W.codeIn K cd32 "Stamper.gone" = true)
    (k32 : PySem.W.keepIn K (.ref f32) = true)
    (a33 : PySem.W.findIn K (.ref C_Stamper) "ask" = some (some (.ref f33)))
    (i33 : PySem.W.isFn K (.ref f33) = true)
    (l33 : K.lookup f33 = some ⟨oc33, od33, .func (PySem.W.fnOf "ask" "Stamper.ask" (defArgs s_Stamper_ask) (defBody s_Stamper_ask) (defScope s_Stamper_ask) .none kV33 dc33 pm33 an33 cd33 ct33), sl33⟩)
    (c33 : PySem.W.codeIn K cd33 "Stamper.ask" = true)
    (k33 : PySem.W.keepIn K (.ref f33) = true)
    (n_Stamper_me : PySem.W.findIn K (.ref C_Stamper) "me" = some none)
    (n_Stamper_state : PySem.W.findIn K (.ref C_Stamper) "state" = some none)
    (n_Stamper_sits : PySem.W.findIn K (.ref C_Stamper) "sits" = some none)
    (n_Stamper_count : PySem.W.findIn K (.ref C_Stamper) "count" = some none)
    (n_Stamper_stamp : PySem.W.findIn K (.ref C_Stamper) "stamp" = some none)
    (n_Stamper__seats : PySem.W.findIn K (.ref C_Stamper) "_seats" = some none)
    (n_Stamper__awaits : PySem.W.findIn K (.ref C_Stamper) "_awaits" = some none)
    (n_Stamper__holds : PySem.W.findIn K (.ref C_Stamper) "_holds" = some none)
    (n_Stamper__told_gone : PySem.W.findIn K (.ref C_Stamper) "_told_gone" = some none)
    (i1 : PySem.W.findIn K (.ref C_Stamper) "__init__" = some (some (.ref fI)))
    (i2 : PySem.W.isFn K (.ref fI) = true)
    (i3 : K.lookup fI = some ⟨ocI, odI, .func (PySem.W.ksFn "__init__" "Stamper.__init__" (defArgs s_Stamper__init) (defBody s_Stamper__init) (defScope s_Stamper__init) .none (.ref Dk) dcI pmI anI (.ref cda) ctI cc), oslI⟩)
    (ii4 : PySem.W.codeIn K (.ref cda) "Stamper.__init__" = true)
    (ii5 : K.lookup cc = some ⟨clI, cldI, .cell (some (.ref C_Stamper)), csl⟩)
    (ii6 : K.lookup cda = some ⟨ccl, cdd, .fields vs, ccs⟩)
    (w7 : vs[2]? = some (.str file tf))
    (w8 : ((P.main.file : Str) == file) = true)
    (w9 : PySem.W.clsIn K C_Stamper = some cdD)
    (ii10 : PySem.W.nsIn K mainGlobals "super" = some none)
    (w11 : (P.main.scope.names.lookup ("super" : Str)).isSome = false)
    (ii12 : PySem.W.nsIn K cStatics "thirdparty.any" = some none)
    (w13 : PySem.W.mroIn K C_Stamper (.ref C_Stamper) = some true)
    (w14 : PySem.W.ks_superIn K C_Stamper C_Stamper "__init__" = some (some (.ref f22)))
    (ii15 : PySem.W.typeIn K (.ref f22) = some (.type "function"))
    (w16 : PySem.W.fnIn K f22 = true)
    (ii17 : PySem.W.nsIn K Dk "count" = some (some (.int 0 td)))
    (m1 : PySem.W.nsIn K mainGlobals "FIRST" = some (some (.int 0 t0)))
    (m2 : PySem.W.nsIn K mainGlobals "SEATS" = some (some (.int 60 t1)))
    (m3 : PySem.W.nsIn K mainGlobals "TOP" = some (some (.int 10000000000000000000000000000000000000000 t2)))
    (y1 : PySem.W.nsIn K mainGlobals "stampers" = some (some (.ref fcs)))
    (y2 : K.lookup fcs = some ⟨occ, odc, .func (PySem.W.fnOf "stampers" "stampers" (defArgs s_stampers) (defBody s_stampers) (defScope s_stampers) .none (.ref Dcs) dcc pmc anc cdc ctc), slc⟩)
    (y3 : PySem.W.codeIn K cdc "stampers" = true)
    (y4 : PySem.W.keepIn K (.ref fcs) = true)
    (b_len : PySem.W.nsIn K mainGlobals "len" = some none)
    (b_range : PySem.W.nsIn K mainGlobals "range" = some none)
    (b_tuple : PySem.W.nsIn K mainGlobals "tuple" = some none)
    (b_list : PySem.W.nsIn K mainGlobals "list" = some none)
    (b_isinstance : PySem.W.nsIn K mainGlobals "isinstance" = some none)
    (b_bool : PySem.W.nsIn K mainGlobals "bool" = some none)
    (b_str : PySem.W.nsIn K mainGlobals "str" = some none)
    (b_sorted : PySem.W.nsIn K mainGlobals "sorted" = some none)
    (b_int : PySem.W.nsIn K mainGlobals "int" = some none)
    (b_max : PySem.W.nsIn K mainGlobals "max" = some none)
    (b_abs : PySem.W.nsIn K mainGlobals "abs" = some none)
    (b_all : PySem.W.nsIn K mainGlobals "all" = some none)
    (b_zip : PySem.W.nsIn K mainGlobals "zip" = some none)
    (b_enumerate : PySem.W.nsIn K mainGlobals "enumerate" = some none) :
    ∃ fd : FuncData, (∀ (s : Shared) (v : Value), BindsTo s fd ⟨[v], []⟩ [("script", v)]) ∧
      ∀ base : Heap, K.In base → base.Ns mainGlobals mg → FnG P w K mg base CX0 6 fa fd ["script"] (spLaw K) := by
  have F_is_below : Fn K mg "is_below" s_is_below := fn_top X G a1 l1 c1 k1
  have F_look_at_many : Fn K mg "look_at_many" s_look_at_many := fn_top X G a2 l2 c2 k2
  have F_counts_fault : Fn K mg "_counts_fault" s_counts_fault := fn_top X G a3 l3 c3 k3
  have F_law_pot : Fn K mg "_law_pot" s_law_pot := fn_top X G a4 l4 c4 k4
  have F_law_draw : Fn K mg "_law_draw" s_law_draw := fn_top X G a5 l5 c5 k5
  have F_law_same : Fn K mg "_law_same" s_law_same := fn_top X G a6 l6 c6 k6
  have F_law_seats : Fn K mg "_law_seats" s_law_seats := fn_top X G a7 l7 c7 k7
  have F_law_firsts : Fn K mg "_law_firsts" s_law_firsts := fn_top X G a8 l8 c8 k8
  have F_law_model : Fn K mg "_law_model" s_law_model := fn_top X G a9 l9 c9 k9
  have F_law_comes_in : Fn K mg "_law_comes_in" s_law_comes_in := fn_top X G a10 l10 c10 k10
  have F_law_asks : Fn K mg "_law_asks" s_law_asks := fn_top X G a11 l11 c11 k11
  have F_law_leaves : Fn K mg "_law_leaves" s_law_leaves := fn_top X G a12 l12 c12 k12
  have F_law_hears : Fn K mg "_law_hears" s_law_hears := fn_top X G a13 l13 c13 k13
  have F_law_put : Fn K mg "_law_put" s_law_put := fn_top X G a14 l14 c14 k14
  have F_law_taken : Fn K mg "_law_taken" s_law_taken := fn_top X G a15 l15 c15 k15
  have F_law_falls : Fn K mg "_law_falls" s_law_falls := fn_top X G a16 l16 c16 k16
  have F_law_deed : Fn K mg "_law_deed" s_law_deed := fn_top X G a17 l17 c17 k17
  have F_law_stands : Fn K mg "_law_stands" s_law_stands := fn_top X G a18 l18 c18 k18
  have F_law_kept : Fn K mg "_law_kept" s_law_kept := fn_top X G a19 l19 c19 k19
  have F_law_done : Fn K mg "_law_done" s_law_done := fn_top X G a20 l20 c20 k20
  have F_law : Fn K mg "law" s_law := fn_top X G a21 l21 c21 k21
  have M_Seat__init : Fm K C_Seat "__init__" "Seat.__init__" s_Seat__init := fm_top a22 i22 l22 c22 k22
  have M_Stamper_awaits : Fm K C_Stamper "awaits" "Stamper.awaits" s_Stamper_awaits := fm_top a23 i23 l23 c23 k23
  have M_Stamper_holds : Fm K C_Stamper "holds" "Stamper.holds" s_Stamper_holds := fm_top a24 i24 l24 c24 k24
  have M_Stamper_told_gone : Fm K C_Stamper "told_gone" "Stamper.told_gone" s_Stamper_told_gone := fm_top a25 i25 l25 c25 k25
  have M_Stamper_yes : Fm K C_Stamper "_yes" "Stamper._yes" s_Stamper_yes := fm_top a26 i26 l26 c26 k26
  have M_Stamper_come_in_where_none_is_awaited : Fm K C_Stamper "_come_in_where_none_is_awaited" "Stamper._come_in_where_none_is_awaited" s_Stamper_come_in_where_none_is_awaited := fm_top a27 i27 l27 c27 k27
  have M_Stamper_await_no_more : Fm K C_Stamper "_await_no_more" "Stamper._await_no_more" s_Stamper_await_no_more := fm_top a28 i28 l28 c28 k28
  have M_Stamper_hear_ask : Fm K C_Stamper "_hear_ask" "Stamper._hear_ask" s_Stamper_hear_ask := fm_top a29 i29 l29 c29 k29
  have M_Stamper_hear : Fm K C_Stamper "hear" "Stamper.hear" s_Stamper_hear := fm_top a30 i30 l30 c30 k30
  have M_Stamper_leave : Fm K C_Stamper "leave" "Stamper.leave" s_Stamper_leave := fm_top a31 i31 l31 c31 k31
  have M_Stamper_gone : Fm K C_Stamper "gone" "Stamper.gone" s_Stamper_gone := fm_top a32 i32 l32 c32 k32
  have M_Stamper_ask : Fm K C_Stamper "ask" "Stamper.ask" s_Stamper_ask := fm_top a33 i33 l33 c33 k33
  have B_len := PySem.W.mg_none_of X G b_len
  have B_range := PySem.W.mg_none_of X G b_range
  have B_tuple := PySem.W.mg_none_of X G b_tuple
  have B_list := PySem.W.mg_none_of X G b_list
  have B_isinstance := PySem.W.mg_none_of X G b_isinstance
  have B_bool := PySem.W.mg_none_of X G b_bool
  have B_str := PySem.W.mg_none_of X G b_str
  have B_sorted := PySem.W.mg_none_of X G b_sorted
  have B_int := PySem.W.mg_none_of X G b_int
  have B_max := PySem.W.mg_none_of X G b_max
  have B_abs := PySem.W.mg_none_of X G b_abs
  have B_all := PySem.W.mg_none_of X G b_all
  have B_zip := PySem.W.mg_none_of X G b_zip
  have B_enumerate := PySem.W.mg_none_of X G b_enumerate
  have T_Stamper : Cls K C_Stamper := ⟨pg_Stamper, hd_Stamper, po_Stamper, sa_Stamper⟩
  have G_Stamper := PySem.W.mg_of X G aC_Stamper
  have T_Seat : Cls K C_Seat := ⟨pg_Seat, hd_Seat, po_Seat, sa_Seat⟩
  have G_Seat := PySem.W.mg_of X G aC_Seat
  have S : StT K C_Stamper := ⟨T_Stamper, n_Stamper_me, n_Stamper_state, n_Stamper_count, n_Stamper_stamp, n_Stamper__seats, n_Stamper__awaits, n_Stamper__holds, n_Stamper__told_gone⟩
  have FX : FnK K mg "stampers" s_stampers [] := ⟨fcs, _, ⟨⟨occ, odc, .none, .ref Dcs, dcc, pmc, anc, cdc, ctc, slc, rfl, y2, y3, .inl ⟨rfl, rfl⟩, .inl rfl⟩, y4⟩, PySem.W.mg_of X G y1⟩
  exact law_end F_law hfa (fun _ _ _ _ _ _ s v => .of_eq rfl) fun base _ _ => whole ⟨B_len, B_range, B_list, B_sorted, B_max⟩ ⟨B_len, B_abs, B_int⟩ ⟨B_len, B_all, B_zip, B_isinstance, B_list, B_tuple, B_str, B_bool, B_int⟩ ⟨B_len, B_range, B_list, B_sorted, B_max⟩ ⟨B_isinstance, B_int, B_bool, B_list, B_tuple, B_enumerate, B_len, B_range, ⟨t1, PySem.W.mg_of X G m2⟩, ⟨t2, PySem.W.mg_of X G m3⟩, ⟨t0, PySem.W.mg_of X G m1⟩⟩ ⟨B_len, B_range, B_max, B_all⟩ S
    F_is_below F_look_at_many F_counts_fault F_law_pot F_law_draw F_law_same F_law_seats F_law_firsts F_law_model F_law_comes_in F_law_asks F_law_leaves F_law_hears F_law_put F_law_taken F_law_falls F_law_deed F_law_stands F_law_kept F_law_done F_law
    M_Stamper_awaits M_Stamper_holds M_Stamper_told_gone M_Stamper_yes M_Stamper_come_in_where_none_is_awaited M_Stamper_await_no_more M_Stamper_hear_ask M_Stamper_hear M_Stamper_leave M_Stamper_gone M_Stamper_ask
    FX (made_of S n_Stamper_sits G_Stamper mk_Stamper kc_Stamper (fun_mk l22 c22 k22) i1 i2 i3 ii4 ii5 ii6 w7 w8 w9 ii10 w11 ii12 w13 w14 ii15 w16 ii17)
end G0
open PySem PySem.W PyProof.Rows in
set_option maxRecDepth 100000 in
set_option maxHeartbeats 0 in
set_option pp.maxSteps 20 in
theorem PySem.Challenge.cw_soleseat_k31_whole_stampers_by_a_model_holds : PySem.Challenge.rw_soleseat_k31_whole_stampers_by_a_model.Holds := by
  w_on; o_law; k_head; (case hw => w_witness2)
  k_fill
  refine G0.walk_ofGB (l := PySem.Challenge.rw_soleseat_k31_whole_stampers_by_a_model) (n := 63) (k := 6) (x := "script") (sp := G0.spLaw) rfl (by decide) rfl ⟨rfl, by decide, by decide⟩ (fun w h Y => PySem.W.kIn_of Y) ?F (fun K H a ns hl bits _ hS => ⟨a, ns, rfl, hS, hl, fun _ => rfl⟩)
  case F =>
    intro w mg fa h KX G hmg
    refine' G0.all_mk KX G hmg ?aC_Stamper ?pg_Stamper ?hd_Stamper ?po_Stamper ?sa_Stamper ?mk_Stamper ?kc_Stamper ?aC_Seat ?pg_Seat ?hd_Seat ?po_Seat ?sa_Seat ?mk_Seat ?kc_Seat ?a1 ?l1 ?c1 ?k1 ?a2 ?l2 ?c2 ?k2 ?a3 ?l3 ?c3 ?k3 ?a4 ?l4 ?c4 ?k4 ?a5 ?l5 ?c5 ?k5 ?a6 ?l6 ?c6 ?k6 ?a7 ?l7 ?c7 ?k7 ?a8 ?l8 ?c8 ?k8 ?a9 ?l9 ?c9 ?k9 ?a10 ?l10 ?c10 ?k10 ?a11 ?l11 ?c11 ?k11 ?a12 ?l12 ?c12 ?k12 ?a13 ?l13 ?c13 ?k13 ?a14 ?l14 ?c14 ?k14 ?a15 ?l15 ?c15 ?k15 ?a16 ?l16 ?c16 ?k16 ?a17 ?l17 ?c17 ?k17 ?a18 ?l18 ?c18 ?k18 ?a19 ?l19 ?c19 ?k19 ?a20 ?l20 ?c20 ?k20 ?a21 ?l21 ?c21 ?k21 ?a22 ?i22 ?l22 ?c22 ?k22 ?a23 ?i23 ?l23 ?c23 ?k23 ?a24 ?i24 ?l24 ?c24 ?k24 ?a25 ?i25 ?l25 ?c25 ?k25 ?a26 ?i26 ?l26 ?c26 ?k26 ?a27 ?i27 ?l27 ?c27 ?k27 ?a28 ?i28 ?l28 ?c28 ?k28 ?a29 ?i29 ?l29 ?c29 ?k29 ?a30 ?i30 ?l30 ?c30 ?k30 ?a31 ?i31 ?l31 ?c31 ?k31 ?a32 ?i32 ?l32 ?c32 ?k32 ?a33 ?i33 ?l33 ?c33 ?k33 ?n_Stamper_me ?n_Stamper_state ?n_Stamper_sits ?n_Stamper_count ?n_Stamper_stamp ?n_Stamper__seats ?n_Stamper__awaits ?n_Stamper__holds ?n_Stamper__told_gone ?i1 ?i2 ?i3 ?ii4 ?ii5 ?ii6 ?w7 ?w8 ?w9 ?ii10 ?w11 ?ii12 ?w13 ?w14 ?ii15 ?w16 ?ii17 ?m1 ?m2 ?m3 ?y1 ?y2 ?y3 ?y4 ?b_len ?b_range ?b_tuple ?b_list ?b_isinstance ?b_bool ?b_str ?b_sorted ?b_int ?b_max ?b_abs ?b_all ?b_zip ?b_enumerate
    (case aC_Stamper => k_is)
    (case pg_Stamper => k_is)
    (case hd_Stamper => k_is)
    (case po_Stamper => k_is)
    (case sa_Stamper => k_is)
    (case mk_Stamper => k_is)
    (case kc_Stamper => k_is)
    (case aC_Seat => k_is)
    (case pg_Seat => k_is)
    (case hd_Seat => k_is)
    (case po_Seat => k_is)
    (case sa_Seat => k_is)
    (case mk_Seat => k_is)
    (case kc_Seat => k_is)
    (case a1 => k_is)
    (case l1 => k_is)
    (case c1 => k_is)
    (case k1 => k_is)
    (case a2 => k_is)
    (case l2 => k_is)
    (case c2 => k_is)
    (case k2 => k_is)
    (case a3 => k_is)
    (case l3 => k_is)
    (case c3 => k_is)
    (case k3 => k_is)
    (case a4 => k_is)
    (case l4 => k_is)
    (case c4 => k_is)
    (case k4 => k_is)
    (case a5 => k_is)
    (case l5 => k_is)
    (case c5 => k_is)
    (case k5 => k_is)
    (case a6 => k_is)
    (case l6 => k_is)
    (case c6 => k_is)
    (case k6 => k_is)
    (case a7 => k_is)
    (case l7 => k_is)
    (case c7 => k_is)
    (case k7 => k_is)
    (case a8 => k_is)
    (case l8 => k_is)
    (case c8 => k_is)
    (case k8 => k_is)
    (case a9 => k_is)
    (case l9 => k_is)
    (case c9 => k_is)
    (case k9 => k_is)
    (case a10 => k_is)
    (case l10 => k_is)
    (case c10 => k_is)
    (case k10 => k_is)
    (case a11 => k_is)
    (case l11 => k_is)
    (case c11 => k_is)
    (case k11 => k_is)
    (case a12 => k_is)
    (case l12 => k_is)
    (case c12 => k_is)
    (case k12 => k_is)
    (case a13 => k_is)
    (case l13 => k_is)
    (case c13 => k_is)
    (case k13 => k_is)
    (case a14 => k_is)
    (case l14 => k_is)
    (case c14 => k_is)
    (case k14 => k_is)
    (case a15 => k_is)
    (case l15 => k_is)
    (case c15 => k_is)
    (case k15 => k_is)
    (case a16 => k_is)
    (case l16 => k_is)
    (case c16 => k_is)
    (case k16 => k_is)
    (case a17 => k_is)
    (case l17 => k_is)
    (case c17 => k_is)
    (case k17 => k_is)
    (case a18 => k_is)
    (case l18 => k_is)
    (case c18 => k_is)
    (case k18 => k_is)
    (case a19 => k_is)
    (case l19 => k_is)
    (case c19 => k_is)
    (case k19 => k_is)
    (case a20 => k_is)
    (case l20 => k_is)
    (case c20 => k_is)
    (case k20 => k_is)
    (case a21 => k_is)
    (case l21 => k_is)
    (case c21 => k_is)
    (case k21 => k_is)
    (case a22 => k_is)
    (case i22 => k_is)
    (case l22 => k_is)
    (case c22 => k_is)
    (case k22 => k_is)
    (case a23 => k_is)
    (case i23 => k_is)
    (case l23 => k_is)
    (case c23 => k_is)
    (case k23 => k_is)
    (case a24 => k_is)
    (case i24 => k_is)
    (case l24 => k_is)
    (case c24 => k_is)
    (case k24 => k_is)
    (case a25 => k_is)
    (case i25 => k_is)
    (case l25 => k_is)
    (case c25 => k_is)
    (case k25 => k_is)
    (case a26 => k_is)
    (case i26 => k_is)
    (case l26 => k_is)
    (case c26 => k_is)
    (case k26 => k_is)
    (case a27 => k_is)
    (case i27 => k_is)
    (case l27 => k_is)
    (case c27 => k_is)
    (case k27 => k_is)
    (case a28 => k_is)
    (case i28 => k_is)
    (case l28 => k_is)
    (case c28 => k_is)
    (case k28 => k_is)
    (case a29 => k_is)
    (case i29 => k_is)
    (case l29 => k_is)
    (case c29 => k_is)
    (case k29 => k_is)
    (case a30 => k_is)
    (case i30 => k_is)
    (case l30 => k_is)
    (case c30 => k_is)
    (case k30 => k_is)
    (case a31 => k_is)
    (case i31 => k_is)
    (case l31 => k_is)
    (case c31 => k_is)
    (case k31 => k_is)
    (case a32 => k_is)
    (case i32 => k_is)
    (case l32 => k_is)
    (case c32 => k_is)
    (case k32 => k_is)
    (case a33 => k_is)
    (case i33 => k_is)
    (case l33 => k_is)
    (case c33 => k_is)
    (case k33 => k_is)
    (case n_Stamper_me => k_is)
    (case n_Stamper_state => k_is)
    (case n_Stamper_sits => k_is)
    (case n_Stamper_count => k_is)
    (case n_Stamper_stamp => k_is)
    (case n_Stamper__seats => k_is)
    (case n_Stamper__awaits => k_is)
    (case n_Stamper__holds => k_is)
    (case n_Stamper__told_gone => k_is)
    (case i1 => k_is)
    (case i2 => k_is)
    (case i3 => k_is)
    (case ii4 => k_is)
    (case ii5 => k_is)
    (case ii6 => k_is)
    (case w7 => first | k_is | exact rfl | decide +kernel)
    (case w8 => first | k_is | exact rfl | decide +kernel)
    (case w9 => first | k_is | exact rfl | decide +kernel)
    (case ii10 => k_is)
    (case w11 => first | k_is | exact rfl | decide +kernel)
    (case ii12 => k_is)
    (case w13 => first | k_is | exact rfl | decide +kernel)
    (case w14 => first | k_is | exact rfl | decide +kernel)
    (case ii15 => k_is)
    (case w16 => first | k_is | exact rfl | decide +kernel)
    (case ii17 => k_is)
    (case m1 => k_is)
    (case m2 => k_is)
    (case m3 => k_is)
    (case y1 => k_is)
    (case y2 => k_is)
    (case y3 => k_is)
    (case y4 => k_is)
    (case b_len => k_is)
    (case b_range => k_is)
    (case b_tuple => k_is)
    (case b_list => k_is)
    (case b_isinstance => k_is)
    (case b_bool => k_is)
    (case b_str => k_is)
    (case b_sorted => k_is)
    (case b_int => k_is)
    (case b_max => k_is)
    (case b_abs => k_is)
    (case b_all => k_is)
    (case b_zip => k_is)
    (case b_enumerate => k_is)
#print axioms PySem.Challenge.cw_soleseat_k31_whole_stampers_by_a_model_holds
namespace G0

end G0
