import PyProof.Rows.All
import Wide.All
import OpenK.AllK
import Wide.FinOn
import HandS.ForMost
import HandS.Wide
import HandS.Conv
import HandS.TupAny
import HandS.Deep
import HandS.Steps
import HandS.NoneIn
import HandS.IsInst
import HandS.More
import HandS.Defaults
import HandS.Small
import HandS.TupLe
import HandS.Deep
import HandS.DeepEq
import HandS.TupSets
import HandS.EndBits
import HandS.SortKw
import HandS.WideBits
import HandS.Gcd
import HandS.SortInts
import HandS.Style
import HandS.AnyAll
import HandS.Wide
import HandS.More
import HandS.Nested
import HandS.ExcInit
import HandS.ExcSuper
import HandS.ClsMeth
import KE.KSuper
import KE.KExcSuper
import HandS.IsInst
import HandS.MakeKwOnly
import HandS.Conv
import HandS.Dict
import PySem.Challenge.RW_soleseat_k64_votes_given_out
set_option Elab.async false
set_option maxRecDepth 100000
set_option maxHeartbeats 1000000
set_option linter.all false
/-! Calls where nothing is under repr around: the layer's defs, with one premise more (no guard around). -/
namespace G0
open PySem PySem.Spec PyProof.Rows L2
structure FnG (P : Program) (w : World) (K : PySem.W.Frag) (mg : Str → Option Value) (base : Heap) (CX : CXT)
    (k : Nat) (f : Addr) (fd : FuncData) (ps : List Str) (sp : Sp) : Prop where
  args : ∀ zs G R W, sp zs G R W → zs.length = ps.length
  runs : ∀ (B : Around) (around : List Env) (t : Shared) (G : Hp) (given : Args) (bound : List Value) (zs : List V) (R : VK) (W : XK),
    B.guards = some [] → Room k B → Env0 P w K mg base B around t G →
    BindsTo t fd given (ps.zip bound) → Vals zs bound → sp zs G R W →
    codeAny (model P w) B (.call (.ref f) given) (CR CX around P w G t R W) t
theorem FnG.of {P : Program} {w : World} {K : PySem.W.Frag} {mg : Str → Option Value} {base : Heap} {CX : CXT}
    {k : Nat} {f : Addr} {fd : FuncData} {ps : List Str} {sp : Sp} (F : FnOk P w K mg base CX k f fd ps sp) :
    FnG P w K mg base CX k f fd ps sp :=
  ⟨F.len, fun B around t G given bound zs R W _ hr => F.run B around t G given bound zs R W hr⟩
theorem FnG.mono {P : Program} {w : World} {K : PySem.W.Frag} {mg : Str → Option Value} {base : Heap} {CX : CXT}
    {j k : Nat} {f : Addr} {fd : FuncData} {ps : List Str} {sp : Sp} (F : FnG P w K mg base CX j f fd ps sp) (h : j ≤ k) :
    FnG P w K mg base CX k f fd ps sp :=
  ⟨F.args, fun B around t G given bound zs R W hg hr => F.runs B around t G given bound zs R W hg (hr.mono h)⟩
section
variable {X : Cx} {CX : CXT} {k : Nat} {f : Addr} {fd : FuncData} {ps : List Str} {sp : Sp}
  {dvs : List V} {ds : List Value} {E : XK} {x : Str} {p pos : Pos} {e : Expr} {es : List Expr} {t : TA}
theorem goes {pins : List (Addr × Obj)} {σ : L2.St} {H : Hp} {s : Shared} {Q : VK} {us : List Value} {vs : List V}
    (F : FnG X.prog X.w X.K X.mg X.base CX k f fd ps sp) (free : X.A.guards = some []) (hr : Room k X.A)
    (hb : Binds X.K fd ps ds) (hd : Vals dvs ds) (hx : Passes CX X E)
    (I : Inv X pins σ H s) (r : Vals vs us) (h : sp (vs ++ dvs) H Q E) :
    wpAny (model X.prog X.w) X.A (call (.ref f) us) (EP X pins σ Q) X.xe s := by
  have both : Vals (vs ++ dvs) (us ++ ds) := r.append hd
  have many : (us ++ ds).length = ps.length := both.length.symm.trans (F.args _ _ _ _ h)
  have it := F.runs X.A X.stack s H ⟨us, []⟩ (us ++ ds) (vs ++ dvs) Q E free hr I.env0 (hb s us I.kIn many) both h
  refine wpAny_call (codeAny_mono it fun out s' told => ?_)
  match out, told with
  | .error e, told => exact hx pins σ H s e s' I told
  | .ok (.ret u), told => exact I.after told
  | .ok .next, told => exact told.elim
  | .ok .brk, told => exact told.elim
  | .ok .cont, told => exact told.elim
theorem pe_callG (F : FnG X.prog X.w X.K X.mg X.base CX k f fd ps sp) (free : X.A.guards = some []) (hr : Room k X.A)
    (hg : Gl X x) (hm : X.mg x = some (.ref f)) (hk : PySem.W.keepIn X.K (.ref f) = true)
    (hb : Binds X.K fd ps ds) (hd : Vals dvs ds) (hx : Passes CX X E) (ha : PA X (e :: es) t)
    (n1 : (x == ("__debug__" : Str)) = false := by decide)
    (n2 : starEach (e :: es) X.env = (false, eval e X.env) :: starEach es X.env := by rfl)
    (n3 : (backTo pos (starEach es X.env)).any (·.1) = false := by rfl) :
    PE X (.Call (.Name x p) (e :: es) [] pos) (tCall sp dvs E t) :=
  ⟨fun pins s σ H Q I h => wpAny_Call_Name_kw (ld_glob I hg hm
    (PySem.W.callWith_K (h₀ := X.base) I.ok.mod.kin hk
      (thn (ha.run pos pins s σ H _ I h) fun us s1 ⟨vs, H1, I1, r, q⟩ =>
        ⟨I1.kIn, goes F free hr hb hd hx I1 r q⟩) n2 n3) n1)⟩
end
/-- a def's body, where nothing is under repr -/
theorem fnG_of {CX : CXT} {P : Program} {w : World} {K : PySem.W.Frag} {mg : Str → Option Value} {base : Heap} {k : Nat}
    {f : Addr} {name qual : Str} {params : Arguments} {body : List Stmt} {scope : Scope} {dV kV doc pm cdv ct oc : Value}
    {an od : Option Addr} {osl : Array (Option Value)} {N ps : List Str} {sp : Sp}
    (lk : K.lookup f = some ⟨oc, od, .func (PySem.W.fnOf name qual params body scope dV kV doc pm an cdv ct), osl⟩)
    (coded : PySem.W.codeIn K cdv qual = true) (S : FnScope N ps scope)
    (len : ∀ zs G R W, sp zs G R W → zs.length = ps.length)
    (inner : ∀ (B : Around) (around : List Env) (t : Shared) (G : Hp) (zs : List V) (R : VK) (W : XK), B.guards = some [] →
      Room k (B.deeper (envOfC qual scope t.heap.objs.size f cdv)) → sp zs G R W →
      ∃ tb, PSs (cxOf CX P w K mg base N qual scope f cdv B around t G W) body tb ∧
        tb { nx := fun _ G' => R .non G', rt := R } (start N zs) G) :
    FnG P w K mg base CX (k + 1) f (PySem.W.fnOf name qual params body scope dV kV doc pm an cdv ct) ps sp := by
  refine ⟨len, fun B around t G given bound zs R W free room e0 bd rel asked => ?_⟩
  have many := len _ _ _ _ asked
  have KX : K.In t.heap := e0.mod.kin.keeps fun b o z => (e0.bs b o z).1
  have lim : t.heap.NoLimit := e0.mod.nolimit.keeps fun b o z => (e0.bs b o z).1
  have kinds : ∀ y ∈ ps.zip bound, scope.names.lookup y.1 = some .local ∨
      (scope.names.lookup y.1 = some .cell ∧ ((cellsFrom (t.heap.objs.size + 1) scope.names []).lookup y.1).isSome = true) := by
    intro y hy
    cases S.par y.1 (List.of_mem_zip hy).1 with
    | inl q => exact .inl q
    | inr q => exact .inr ⟨q, PySem.W.cellsFrom_some _ _ _ (.inl q)⟩
  refine codeAny_call_function room.depth (KX _ _ lk) rfl S.co S.gen rfl (PySem.W.codeRec_of KX coded) (bd _ _ _ _ ?_)
  refine wpAny_newFunctionEnv_cells S.kind kinds fun env same t1 made => ?_
  subst same
  refine ⟨lim.keeps made.toInCall.keep, codeAny_func ?_⟩
  obtain ⟨tb, derived, holds⟩ := inner B around t G zs R W free (room.deeper _) asked
  have J : Inv (cxOf CX P w K mg base N qual scope f cdv B around t G W) [] (start N zs) G t1 :=
    inv_start S room.hd e0 many rel made
  refine wpAny_mono (derived.run [] t1 (start N zs) G _ J holds) (fun fl t' told => ?_) fun e t' told => told
  match fl, told with
  | .ret u, ⟨v, σ', G', J', rv, q⟩ => exact ⟨v, G', J'.os, J'.bare, J'.base, J'.hok, rv, q⟩
  | .next, ⟨σ', G', J', q⟩ => exact ⟨V.non, G', J'.os, J'.bare, J'.base, J'.hok, (rfl : Value.none = Value.none), q⟩
  | .brk, ⟨_, _, _, q⟩ => exact q.elim
  | .cont, ⟨_, _, _, q⟩ => exact q.elim
theorem okG {P : Program} {w : World} {K : PySem.W.Frag} {mg : Str → Option Value} {base : Heap} {x qual : Str} {st : Stmt}
    {f : Addr} {fd : FuncData} {N ps : List Str} {k : Nat} {sp : Sp} (F : Fun K x qual st f fd) (S : FnScope N ps (defScope st))
    (len : ∀ zs G R W, sp zs G R W → zs.length = ps.length)
    (inner : ∀ (cdv : Value) (B : Around) (around : List Env) (t : Shared) (G : Hp) (zs : List V) (R : VK) (W : XK), B.guards = some [] →
      Room k (B.deeper (envOfC qual (defScope st) t.heap.objs.size f cdv)) → sp zs G R W →
      ∃ tb, PSs (cxOf CX0 P w K mg base N qual (defScope st) f cdv B around t G W).nox (defBody st) tb ∧
        tb { nx := fun _ G' => R .non G', rt := R } (start N zs) G) :
    FnG P w K mg base CX0 (k + 1) f fd ps sp := by
  obtain ⟨oc, od, kV, doc, pm, an, cdv, ct, osl, rfl, lk, coded⟩ := F.ex
  refine fnG_of lk coded S len fun B around t G zs R W free room asked => ?_
  obtain ⟨tb, derived, holds⟩ := inner cdv B around t G zs R W free room asked
  exact ⟨tb, derived.nox, holds⟩
/-- the law's own call -/
theorem law_callG {P : Program} {w : World} {K : PySem.W.Frag} {mg mb : Str → Option Value} {CX : CXT} {k : Nat} {fa a : Addr}
    {fd : FuncData} {x : Str} {sp : Sp} {s₁ : Shared} {vs : List Value} {ns : List Int}
    (KX : K.In s₁.heap) (gl : s₁.heap.Ns mainGlobals mg) (bl : s₁.heap.Ns builtinsNs mb)
    (boot : ∀ x : Str, x ≠ "__name__" → mb x = bootBuiltins x) (lim : s₁.heap.NoLimit) (nogens : s₁.gens = #[])
    (at_ : s₁.heap.get? a = some { cls := .type "list", data := .seq vs.toArray }) (nums : IntsAre vs ns) (short : ns.length ≤ sizeLine)
    (room : Room k callerA)
    (F : ∀ base : Heap, K.In base → base.Ns mainGlobals mg → FnG P w K mg base CX k fa fd [x] sp)
    (bound : ∀ (s : Shared) (u : Value), BindsTo s fd ⟨[u], []⟩ [(x, u)])
    (asked : ∀ H : Hp, Only H → SqL K H a (ns.map V.int) → sp [.ref a] H (fun v _ => v = .bl true) fun _ _ _ => False)
    (never : ∀ H e s', CX [] H s₁ (fun _ _ _ => False) e s' → False) :
    codeAny (model P w) callerA (.call (.ref fa) ⟨[.ref a], []⟩)
      (fun r s' => r = .ok (.ret (.bool true)) ∧ OldK s₁.heap s'.heap ∧ s'.os = s₁.os ∧ AllBare s'.gens) s₁ := by
  have rel := vals_ints nums
  have many := nums.length
  have from_ : ∀ H : Hp, Only H → SqL K H a (ns.map V.int) → HOk P w H s₁.heap → (∀ b, H b ≠ none → b = a) →
      (H a ≠ none → K.lookup a = none) → codeAny (model P w) callerA (.call (.ref fa) ⟨[.ref a], []⟩)
        (fun r s' => r = .ok (.ret (.bool true)) ∧ OldK s₁.heap s'.heap ∧ s'.os = s₁.os ∧ AllBare s'.gens) s₁ := by
    intro H only seq fine one away
    have down : ∀ {b : Addr} {o : Obj}, s₁.heap.get? b = some o → H b = none →
      (hidT s₁.heap H).get? b = some o := fun e n => hidT_get e n
    have untracked : ∀ {b : Addr} {o : Obj}, s₁.heap.get? b = some o → (b = a → False) → H b = none := by
      intro b o _ n
      by_cases q : H b = none
      · exact q
      · exact (n (one b q)).elim
    have nodict : ∀ {b : Addr} {o : Obj} {es : Array DictEntry} {ep : Nat},
        s₁.heap.get? b = some o → o.data = .dict es ep → H b = none := by
      intro b o es ep e d
      refine untracked e fun q => ?_
      rw [q, at_] at e
      have e' := Option.some.inj e
      rw [← e'] at d
      have d' : Data.seq vs.toArray _ = Data.dict es ep := d
      exact absurd d' (fun h => by cases h)
    have spaces : ∀ {b : Addr} {m : Str → Option Value}, s₁.heap.Ns b m → (hidT s₁.heap H).Ns b m := by
      intro b m ns
      obtain ⟨o, es, ep, e, d, r⟩ := ns
      exact ⟨o, es, ep, down e (nodict e d), d, r⟩
    have written : K.In (hidT s₁.heap H) := by
      intro b o e
      refine down (KX b o e) ?_
      by_cases q : H b = none
      · exact q
      · have same := one b q
        rw [same] at q e
        rw [away q] at e
        cases e
    have md : Mod K mg (hidT s₁.heap H) := by
      obtain ⟨mc, h1, h2⟩ := lim
      exact ⟨written, spaces gl, ⟨mb, spaces bl, boot⟩, ⟨mc, spaces h1, h2⟩⟩
    have e0 : Env0 P w K mg (hidT s₁.heap H) callerA [] s₁ H :=
      ⟨rfl, md, fun b o e => of_hidT e, Nat.le_of_eq (hidT_size _ _), trivial,
        fun b hb => (List.not_mem_nil (show b ∈ ([] : List Addr) from hb)).elim, fine, .of_eq nogens⟩
    have it := (F _ written (spaces gl)).runs callerA [] s₁ H ⟨[.ref a], []⟩ [.ref a] [.ref a] _ _ rfl room e0
      (bound s₁ (.ref a)) (.cons rfl .nil) (asked H only seq)
    refine codeAny_mono it fun out s' told => ?_
    match out, told with
    | .error e, told => exact (never H e s' told).elim
    | .ok .next, told => exact told.elim
    | .ok .brk, told => exact told.elim
    | .ok .cont, told => exact told.elim
    | .ok (.ret u), ⟨v, H', os, bare, un, fine', r', q⟩ =>
      have q' : v = .bl true := q
      subst q'
      have u' : u = Value.bool true := r'
      subst u'
      refine ⟨rfl, OldK.of_keep fun b o e => ?_, os, bare⟩
      cases q : H b with
      | none => exact un.keep b o e q (fun z => (List.not_mem_nil (show b ∈ ([] : List Addr) from z)).elim) (List.not_mem_nil)
      | some u =>
        rcases only b with z | ⟨ob, xs, z⟩
        · have z1 := q.symm.trans z
          cases z1
        · have z' := un.frzs b ob _ z
          have e1 := (fine b _ z).1
          have e2 := (fine' b _ z').1
          exact e2.trans (e1.symm.trans e)
  cases known : K.lookup a with
  | some o =>
    have e := (KX a o known).symm.trans at_
    have e' := Option.some.inj e
    subst e'
    refine from_ (fun _ => none) (fun _ => .inl rfl) (.inr ⟨_, vs.toArray, _, known, rfl, rfl, rfl, ?_, ?_⟩)
      (fun b u z => by have z1 : (none : Option HO) = some u := z; cases z1) (fun b z => (z rfl).elim) fun z => (z rfl).elim
    · rw [List.size_toArray, many]; exact short
    · simpa using rel
  | none =>
    have self : (fun b => if b = a then some (HO.frz { cls := .type "list", data := .seq vs.toArray } (.lst (ns.map V.int))) else none) a
        = some (HO.frz { cls := .type "list", data := .seq vs.toArray } (.lst (ns.map V.int))) := if_pos rfl
    refine from_ (fun b => if b = a then some (HO.frz { cls := .type "list", data := .seq vs.toArray } (.lst (ns.map V.int))) else none)
      (fun b => ?_) (.inl (.inr ⟨_, self⟩)) (fun b u z => ?_) (fun b z => ?_) fun _ => known
    · by_cases same : b = a
      · exact .inr ⟨_, _, if_pos same⟩
      · exact .inl (if_neg same)
    · by_cases same : b = a
      · subst same
        have z' := Option.some.inj ((if_pos rfl).symm.trans z)
        subst z'
        exact ⟨at_, by rw [List.length_map]; exact short, vs, _, rel, at_⟩
      · have z1 := (if_neg same).symm.trans z
        cases z1
    · by_cases same : b = a
      · exact same
      · exact (z (if_neg same)).elim
theorem walk_ofG {l : PySem.W.OpenLaw} {n k : Nat} {q : Program} {loose : List Str} {XP : (Str → Option Value) → Heap → Prop}
    {YP : World → Heap → Prop} {d : DefRec} {K : Params → PySem.W.Frag} {sp : PySem.W.Frag → Sp} {x : Str}
    (hn : l.most = some n) (hn2 : n ≤ sizeLine) (hdf : d.params.defaults = []) (room : Room k callerA)
    (hY : ∀ (w : World) (h : Heap), YP w h → (K w.params).In h)
    (F : ∀ (w : World) (mg : Str → Option Value) (fa : Addr) (h : Heap), (K w.params).In h → h.Ns mainGlobals mg →
      mg d.name = some (.ref fa) → ∃ fd : FuncData, (∀ (s : Shared) (u : Value), BindsTo s fd ⟨[u], []⟩ [(x, u)]) ∧
        ∀ base : Heap, (K w.params).In base → base.Ns mainGlobals mg →
          FnG l.prog w (K w.params) mg base CX0 k fa fd [x] (sp (K w.params)))
    (asked : ∀ (K : PySem.W.Frag) (H : Hp) (a : Addr) (ns : List Int), ns.length ≤ n → Only H → SqL K H a (ns.map V.int) →
      sp K [.ref a] H (fun v _ => v = .bl true) fun _ _ _ => False) :
    PySem.W.WalkO q loose XP YP l.row.toRowW d [] (fun f vs => PySem.call f vs) := by
  refine Att.attach_call hn hdf fun w s₀ s₁ mg mb fa o pm cd doc a vs ns G Y ho hd hcd named obj nums few nogens => ?_
  have KX := hY w _ Y
  obtain ⟨fd, bound, all⟩ := F w mg fa _ KX G.T.g named
  exact law_callG KX G.T.g G.T.b G.T.builtins G.T.nolimit nogens obj nums (Nat.le_trans few hn2) room all bound
    (fun H only seq => asked _ H a ns few only seq) fun H e s' z => z
end G0
namespace G0
open PySem PySem.Spec PyProof.Rows L2
/-! ### a def of the module's top, by its name (no word of guards: for laws without repr) -/
def Fn (K : PySem.W.Frag) (mg : Str → Option Value) (x : Str) (st : Stmt) : Prop :=
  ∃ f fd, Fun K x x st f fd ∧ mg x = some (.ref f)
def Cal (P : Program) (w : World) (K : PySem.W.Frag) (mg : Str → Option Value) (base : Heap) (x : Str) (k : Nat) (ps : List Str) (sp : Sp) : Prop :=
  ∃ f fd, FnOk P w K mg base CX0 k f fd ps sp ∧ Binds K fd ps [] ∧ mg x = some (.ref f) ∧ PySem.W.keepIn K (.ref f) = true ∧
    ∃ oc od osl, K.lookup f = some ⟨oc, od, .func fd, osl⟩
theorem fn_top {K : PySem.W.Frag} {h : Heap} {mg : Str → Option Value} {x : Str} {st : Stmt} {f : Addr} {oc : Value} {od an : Option Addr}
    {osl : Array (Option Value)} {kV doc pm cdv ct : Value} (X : K.In h) (G : h.Ns mainGlobals mg)
    (a : PySem.W.nsIn K mainGlobals x = some (some (.ref f)))
    (l : K.lookup f = some ⟨oc, od, .func (PySem.W.fnOf x x (defArgs st) (defBody st) (defScope st) .none kV doc pm an cdv ct), osl⟩)
    (c : PySem.W.codeIn K cdv x = true) (k : PySem.W.keepIn K (.ref f) = true) : Fn K mg x st :=
  ⟨f, _, fun_mk l c k, PySem.W.mg_of X G a⟩
/-- a method of the class at C -/
def Fm (K : PySem.W.Frag) (C : Addr) (x qual : Str) (st : Stmt) : Prop := ∃ f fd, Fun K x qual st f fd ∧ Meth K C x f
theorem fm_top {K : PySem.W.Frag} {C : Addr} {x qual : Str} {st : Stmt} {f : Addr} {oc : Value} {od an : Option Addr}
    {osl : Array (Option Value)} {kV doc pm cdv ct : Value}
    (a : PySem.W.findIn K (.ref C) x = some (some (.ref f))) (i : PySem.W.isFn K (.ref f) = true)
    (l : K.lookup f = some ⟨oc, od, .func (PySem.W.fnOf x qual (defArgs st) (defBody st) (defScope st) .none kV doc pm an cdv ct), osl⟩)
    (c : PySem.W.codeIn K cdv qual = true) (k : PySem.W.keepIn K (.ref f) = true) : Fm K C x qual st :=
  ⟨f, _, fun_mk l c k, ⟨a, i, k⟩⟩
section
variable {P : Program} {w : World} {K : PySem.W.Frag} {mg : Str → Option Value} {base : Heap}
theorem cal_of {x : Str} {st : Stmt} {N ps : List Str} {k : Nat} {sp : Sp} (F : Fn K mg x st) (S : FnScope N ps (defScope st))
    (bd : ∀ (kV doc pm : Value) (an : Option Addr) (cdv ct : Value) (us : List Value), us.length = ps.length →
      bindArgs (PySem.W.fnOf x x (defArgs st) (defBody st) (defScope st) .none kV doc pm an cdv ct) ⟨us, []⟩ = pure (ps.zip us))
    (len : ∀ zs G R W, sp zs G R W → zs.length = ps.length)
    (inner : ∀ (f : Addr) (cdv : Value) (B : Around) (around : List Env) (t : Shared) (G : Hp) (zs : List V) (R : VK) (W : XK), True →
      Room k (B.deeper (envOfC x (defScope st) t.heap.objs.size f cdv)) → sp zs G R W →
      ∃ tb, PSs (cxOf CX0 P w K mg base N x (defScope st) f cdv B around t G W).nox (defBody st) tb ∧
        tb { nx := fun _ G' => R .non G', rt := R } (start N zs) G) :
    Cal P w K mg base x (k + 1) ps sp := by
  obtain ⟨f, fd, F, m⟩ := F
  obtain ⟨oc, od, kV, doc, pm, an, cdv, ct, osl, e, lk, c⟩ := id F.ex
  exact ⟨f, fd, F.ok S len (fun cdv B around t G zs R W room h => inner f cdv B around t G zs R W True.intro room h), F.binds bd, m, F.kp, oc, od, osl, lk⟩
theorem Cal.mono {x : Str} {j k : Nat} {ps : List Str} {sp : Sp} (C : Cal P w K mg base x j ps sp) (h : j ≤ k) : Cal P w K mg base x k ps sp := by
  obtain ⟨f, fd, F, r⟩ := C
  exact ⟨f, fd, F.mono h, r⟩
/-- the law itself, at the end -/
theorem law_end {st : Stmt} {k : Nat} {sp : Sp} {fa : Addr} (F : Fn K mg "law" st) (hm : mg "law" = some (.ref fa))
    (bt : ∀ (kV doc pm : Value) (an : Option Addr) (cdv ct : Value) (s : Shared) (v : Value),
      BindsTo s (PySem.W.fnOf "law" "law" (defArgs st) (defBody st) (defScope st) .none kV doc pm an cdv ct) ⟨[v], []⟩ [("script", v)])
    (C : ∀ base : Heap, K.In base → base.Ns mainGlobals mg → Cal P w K mg base "law" k ["script"] sp) :
    ∃ fd : FuncData, (∀ (s : Shared) (v : Value), BindsTo s fd ⟨[v], []⟩ [("script", v)]) ∧
      ∀ base : Heap, K.In base → base.Ns mainGlobals mg → FnG P w K mg base CX0 k fa fd ["script"] sp := by
  obtain ⟨f, fd, F, m⟩ := F
  obtain ⟨oc, od, kV, doc, pm, an, cdv, ct, osl, e, lk, c⟩ := id F.ex
  have ef := m.symm.trans hm
  cases ef
  refine ⟨fd, fun s v => by rw [e]; exact bt _ _ _ _ _ _ s v, fun base kin ns => ?_⟩
  obtain ⟨f', fd', G, _, m', _, oc', od', osl', lk'⟩ := C base kin ns
  have ef := m.symm.trans m'
  cases ef
  have ed := lk.symm.trans lk'
  cases ed
  exact FnG.of G
end
section
variable {X : Cx} {k : Nat} {ps : List Str} {sp : Sp} {x : Str} {p pos : Pos} {e : Expr} {es : List Expr} {t : TA}
theorem pe_cal (C : Cal X.prog X.w X.K X.mg X.base x k ps sp) (free : True) (hr : Room k X.A)
    (ha : PA X (e :: es) t) (hg : Gl X x := by rfl) (n1 : (x == ("__debug__" : Str)) = false := by decide)
    (n2 : starEach (e :: es) X.env = (false, eval e X.env) :: starEach es X.env := by rfl)
    (n3 : (backTo pos (starEach es X.env)).any (·.1) = false := by rfl) (hx : Passes CX0 X E0 := by exact pass0) :
    PE X (.Call (.Name x p) (e :: es) [] pos) (tCall sp [] E0 t) := by
  obtain ⟨f, fd, F, b, m, kp, _⟩ := C
  exact pe_call F hr hg m kp b .nil hx ha n1 n2 n3
/-! ### repr of data -/
def rRep (K : PySem.W.Frag) : List V → Hp → VK → Prop := fun xs H Q => ∃ (x : V) (d : PyData), xs = [x] ∧ Dp K H x d ∧
  d.showable = true ∧ d.hasDict = false ∧ d.depth ≤ 64 ∧ d.shown.length ≤ sizeLine ∧ Q (.str d.shown) H
theorem call_rep (free : X.A.guards = some []) (hu : X.A.units + 66 < cLine) : CallR X (.builtin "repr") (rRep X.K) := by
  intro pins s σ H xs us Q I r h
  obtain ⟨x, d, rfl, hd, hs, hn, h64, hz, q⟩ := h
  obtain ⟨u, rfl, rx⟩ := vals1 r
  have viaRef : ∀ (a : Addr), x = .ref a → wpAny (model X.prog X.w) X.A (call (.builtin "repr") [u]) (EP X pins σ Q) X.xe s := by
    intro a e
    subst e
    obtain rfl : u = Value.ref a := rx
    obtain ⟨as, rd⟩ := Dp.reads I d _ _ hd (rfl : RelV (.ref a) (.ref a))
    exact repr_of_reads' rd hs (PyData.noDict_hsm hn) free (by omega) (fun _ _ e => e)
      (fun h' w t kp => ⟨.str d.shown, H, I.kept (t' := t) kp, ⟨_, rfl⟩, q⟩) hz
  cases hd with
  | non =>
    obtain rfl : u = Value.none := rx
    exact PySem.P.repr_of_none ⟨.str _, H, I.tok _, ⟨_, rfl⟩, by simpa only [PyData.shown] using q⟩
  | bl b =>
    obtain rfl : u = Value.bool b := rx
    exact PySem.P.repr_of_bool ⟨.str _, H, I.tok _, ⟨_, rfl⟩, by simpa only [PyData.shown] using q⟩
  | int i =>
    obtain ⟨t, rfl⟩ := rx
    exact PySem.P.repr_of_int (by simpa [PyData.showable] using hs) ⟨.str _, H, I.tok _, ⟨_, rfl⟩, by simpa only [PyData.shown] using q⟩
  | str z =>
    obtain ⟨t, rfl⟩ := rx
    exact PySem.P.repr_of_str ⟨.str _, H, I.tok _, ⟨_, rfl⟩, by simpa only [PyData.shown] using q⟩ (by simpa only [PyData.shown] using hz)
  | lst _ _ => exact viaRef _ rfl
  | tup _ _ => exact viaRef _ rfl
/-! ### operators of several kinds in one -/
theorem u_eq (hu : X.A.units + 64 < cLine) : OpR X (compareOp .Eq) (fun x y H Q => rEq x y H Q ∨ rEqD X.K x y H Q) := op_eq.or (op_eqD hu)
theorem u_ne (hu : X.A.units + 64 < cLine) : OpR X (compareOp .NotEq) (fun x y H Q => rNe x y H Q ∨ rNeD X.K x y H Q) := op_ne.or (op_neD hu)
theorem u_in : OpR X (compareOp .In) (fun x y H Q => rIn X.K false x y H Q ∨ rInS x y H Q) := op_in_seq.or op_inS
theorem u_notin : OpR X (compareOp .NotIn) (fun x y H Q => rIn X.K true x y H Q ∨ rNotInS x y H Q) := op_notIn_seq.or op_notInS
end
theorem pe_fldK {X : Cx} {e : Expr} {f : Str} {pos : Pos} {ta : TE} (K : PySem.W.Frag) (ha : PE X e ta) (hK : X.K = K := by rfl)
    (hb : attributeBase e f X.env (eval e X.env) = eval e X.env := by rfl) : PE X (.Attribute e f pos) (tFld K ta f) := by
  subst hK
  exact pe_fld ha hb
/-! ### the written part named, for what stands within a comprehension -/
theorem op_K {X : Cx} {f : Value → Value → Sem Value} (r : PySem.W.Frag → R2) (K : PySem.W.Frag) (ho : OpR X f (r X.K)) (hK : X.K = K) : OpR X f (r K) := hK ▸ ho
theorem ix_K {X : Cx} (r : PySem.W.Frag → R2) (K : PySem.W.Frag) (ho : IxR X (r X.K)) (hK : X.K = K) : IxR X (r K) := hK ▸ ho
theorem call_K {X : Cx} {f : Value} (r : PySem.W.Frag → List V → Hp → VK → Prop) (K : PySem.W.Frag) (ho : CallR X f (r X.K)) (hK : X.K = K) : CallR X f (r K) := hK ▸ ho
section
variable {X : Cx} (K : PySem.W.Frag)
theorem u_inK (hK : X.K = K := by rfl) : OpR X (compareOp .In) (fun x y H Q => rIn K false x y H Q ∨ rInS x y H Q) := op_K (fun K x y H Q => rIn K false x y H Q ∨ rInS x y H Q) K u_in hK
theorem u_notinK (hK : X.K = K := by rfl) : OpR X (compareOp .NotIn) (fun x y H Q => rIn K true x y H Q ∨ rNotInS x y H Q) := op_K (fun K x y H Q => rIn K true x y H Q ∨ rNotInS x y H Q) K u_notin hK
theorem ix_listK (hK : X.K = K := by rfl) : IxR X (rIxL K) := ix_K rIxL K ix_list hK
theorem ix_tupK (hK : X.K = K := by rfl) : IxR X (rIxT K) := ix_K rIxT K ix_tup hK
theorem ix_seqK (hK : X.K = K := by rfl) : IxR X (rIx K) := ix_K rIx K ix_seq hK
theorem call_len_seqK (hK : X.K = K := by rfl) : CallR X (.builtin "len") (fun xs H Q => ∃ p ys, xs = [.ref p] ∧ (SqL K H p ys ∨ SqT K H p ys) ∧ Q (.int ys.length) H) :=
  call_K (fun K xs H Q => ∃ p ys, xs = [.ref p] ∧ (SqL K H p ys ∨ SqT K H p ys) ∧ Q (.int ys.length) H) K call_len_seq hK
end
/-! ### what changes: one list -/
/-- all that is tracked but p stays -/
def Chg (p : Addr) (H H' : Hp) : Prop := ∀ b o, b ≠ p → H b = some o → H' b = some o
theorem Chg.refl (p : Addr) (H : Hp) : Chg p H H := fun _ _ _ e => e
theorem Chg.trans {p : Addr} {H H1 H2 : Hp} (a : Chg p H H1) (b : Chg p H1 H2) : Chg p H H2 := fun c o n e => b c o n (a c o n e)
theorem Chg.self {p : Addr} {H : Hp} {o : HO} : Chg p H (upd H p o) := fun b u n e => by rw [upd_ne n]; exact e
theorem Chg.new {p q : Addr} {H H1 : Hp} {o : HO} (a : Chg p H H1) (n : H1 q = none) : Chg p H (upd H1 q o) := fun b u m e => by
  rw [upd_ne (ne_of_none (a b u m e) n)]; exact a b u m e
theorem Chg.same {p : Addr} {H H1 : Hp} (a : Same H H1) : Chg p H H1 := fun b o _ e => a b o e
theorem same_upd {H : Hp} {q : Addr} {o : HO} (n : H q = none) : Same H (upd H q o) := fun b u e => by
  rw [upd_ne (ne_of_none e n)]; exact e
/-! ### a law's draws: the pot -/
def PotL (n : Nat) (xs : List V) : Prop := ∃ a b c : Int, xs = [.int a, .int b, .int c] ∧ 0 ≤ a ∧ 0 ≤ b ∧ b < 2305843009213693951 ∧ 0 ≤ c ∧ c ≤ n
def PotAt (n : Nat) (H : Hp) (p : Addr) : Prop := ∃ xs, H p = some (.lst xs) ∧ PotL n xs
theorem PotL.mono {n m : Nat} {xs : List V} (h : PotL n xs) (le : n ≤ m) : PotL m xs := by
  obtain ⟨a, b, c, e, h1, h2, h3, h4, h5⟩ := h
  exact ⟨a, b, c, e, h1, h2, h3, h4, by omega⟩
theorem PotAt.mono {n m : Nat} {H : Hp} {p : Addr} (h : PotAt n H p) (le : n ≤ m) : PotAt m H p := by
  obtain ⟨xs, e, h⟩ := h
  exact ⟨xs, e, h.mono le⟩
theorem PotAt.keep {n : Nat} {H H' : Hp} {p : Addr} (h : PotAt n H p) (s : Same H H') : PotAt n H' p := by
  obtain ⟨xs, e, h⟩ := h
  exact ⟨xs, s _ _ e, h⟩
theorem PotAt.at {n : Nat} {H : Hp} {p : Addr} {xs : List V} (h : PotL n xs) : PotAt n (upd H p (.lst xs)) p := ⟨xs, upd_same, h⟩
end G0
/-! Wide powers, the law's own call with the script's bits told, len of an own object, sorted of a tuple of tuples of ints. -/
namespace G0
open PySem PySem.Spec PyProof.Rows L2
def CPowB (i j : Int) : Prop := 0 ≤ j ∧ (Builtin.Int.intBits i : Int) * j ≤ 2 ^ 27
theorem op_powB {X : Cx} : OpR X (binaryOp .Pow) (rI CPowB fun i j => .int (i ^ j.toNat)) := opI fun _ _ _ _ _ _ _ hc q => pow_int hc.1 hc.2 q
theorem walk_ofGB {l : PySem.W.OpenLaw} {n k : Nat} {q : Program} {loose : List Str} {XP : (Str → Option Value) → Heap → Prop}
    {YP : World → Heap → Prop} {d : DefRec} {K : Params → PySem.W.Frag} {sp : PySem.W.Frag → Sp} {x : Str}
    (hn : l.most = some n) (hn2 : n ≤ sizeLine) (hdf : d.params.defaults = []) (room : Room k callerA)
    (hY : ∀ (w : World) (h : Heap), YP w h → (K w.params).In h)
    (F : ∀ (w : World) (mg : Str → Option Value) (fa : Addr) (h : Heap), (K w.params).In h → h.Ns mainGlobals mg →
      mg d.name = some (.ref fa) → ∃ fd : FuncData, (∀ (s : Shared) (u : Value), BindsTo s fd ⟨[u], []⟩ [(x, u)]) ∧
        ∀ base : Heap, (K w.params).In base → base.Ns mainGlobals mg →
          FnG l.prog w (K w.params) mg base CX0 k fa fd [x] (sp (K w.params)))
    (asked : ∀ (K : PySem.W.Frag) (H : Hp) (a : Addr) (ns : List Int), ns.length ≤ n → (∀ z ∈ ns, Builtin.Int.intBits z ≤ 1048576) → Only H → SqL K H a (ns.map V.int) →
      sp K [.ref a] H (fun v _ => v = .bl true) fun _ _ _ => False) :
    PySem.W.WalkO q loose XP YP l.row.toRowW d [] (fun f vs => PySem.call f vs) := by
  refine Att.attach_callB hn hdf fun w s₀ s₁ mg mb fa o pm cd doc a vs ns G Y ho hd hcd named obj nums few bits nogens => ?_
  have KX := hY w _ Y
  obtain ⟨fd, bound, all⟩ := F w mg fa _ KX G.T.g named
  exact law_callG KX G.T.g G.T.b G.T.builtins G.T.nolimit nogens obj nums (Nat.le_trans few hn2) room all bound
    (fun H only seq => asked _ H a ns few bits only seq) fun H e s' z => z
/-! ### len of an own object -/
section
variable {X : Cx} {CX : CXT} {k : Nat} {f C : Addr} {fd : FuncData} {ps : List Str} {sp : Sp} {dvs : List V} {ds : List Value} {E : XK}
theorem run_fn1 {pins : List (Addr × Obj)} {σ : L2.St} {H : Hp} {s : Shared} {Q : VK} {us : List Value} {vs : List V}
    (F : FnOk X.prog X.w X.K X.mg X.base CX k f fd ps sp) (hr : Room (k + 1) X.A) (hb : Binds X.K fd ps ds) (hd : Vals dvs ds) (hx : Passes CX X E)
    (I : Inv X pins σ H s) (r : Vals vs us) (h : sp (vs ++ dvs) H Q E) : wpAny (model X.prog X.w) X.A.in1 (call (.ref f) us) (EP X pins σ Q) X.xe s := by
  have r2 : Vals (vs ++ dvs) (us ++ ds) := r.append hd
  have hl : (us ++ ds).length = ps.length := by rw [← r2.length]; exact F.len _ _ _ _ h
  refine wpAny_call (codeAny_mono (F.run X.A.in1 X.stack s H ⟨us, []⟩ (us ++ ds) (vs ++ dvs) Q E hr.in1 I.env0.in1 (hb s us I.kIn hl) r2 h) fun r s' hq => ?_)
  cases r with
  | error e => exact hx pins σ H s e s' I hq
  | ok fl =>
    cases fl with
    | ret u => exact I.after hq
    | next => exact False.elim hq
    | brk => exact False.elim hq
    | cont => exact False.elim hq
def rLenOwn (C : Addr) (sp : Sp) (E : XK) : List V → Hp → VK → Prop := fun xs H Q => ∃ (a dx : Addr) (fs : List (Str × V)), xs = [.ref a] ∧ H a = some (.ins C dx fs) ∧
  sp [.ref a] H (fun v H2 => ∃ n : Nat, v = .int n ∧ n ≤ sizeLine ∧ Q (.int n) H2) E
theorem call_lenOwn (hm : Meth X.K C "__len__" f) (F : FnOk X.prog X.w X.K X.mg X.base CX k f fd ps sp) (hr : Room (k + 1) X.A) (hb : Binds X.K fd ps []) (hx : Passes CX X E) :
    CallR X (.builtin "len") (rLenOwn C sp E) := by
  intro pins s σ H xs us Q I r h
  obtain ⟨a, dx, fs, rfl, e, q⟩ := h
  obtain ⟨u, rfl, ru⟩ := vals1 r
  obtain rfl : u = Value.ref a := ru
  obtain ⟨mA, O, _, _, _, _⟩ := ins_get I.hok e
  obtain ⟨od, ho, _⟩ := lookIn_ns O.ns
  have IA : PySem.W.InstAt s.heap a (PySem.W.instObj C dx) C (some od) := ⟨O.obj, rfl, rfl, ho⟩
  refine Calls.call_function_entry kind_len plain_len entry_len (args_len1 _) ?_
  unfold Builtin.«len»
  refine wpAny_bind (m := oneArg "len" _) (wpAny_pure ?_)
  refine wpAny_bind (m := callSpecial? (.ref a) (Str.ofString "__len__")) (PySem.W.special_fn I.kIn IA hm.at_ (beq_iff_eq.mp hm.fn)
    (wpAny_mono (run_fn1 (us := [.ref a]) (vs := [.ref a]) F hr hb .nil hx I (.cons rfl .nil) q) (fun r s' hr' => ?_) fun _ _ y => y))
  obtain ⟨v, H', I', rv, n, rfl, hn, q'⟩ := hr'
  obtain ⟨t, rfl⟩ := (show ∃ t, r = Value.int n t from rv)
  rw [sizeLine_eq] at hn
  refine wpAny_bind (wpAny_holding (wpAny_pure ?_))
  refine wpAny_bind (wpAny_letGo ?_)
  show wpAny _ _ (if ((n : Nat) : Int) < 0 then _ else _) _ _ _
  rw [if_neg (by omega)]
  show wpAny _ _ (if ((n : Nat) : Int) ≥ 2 ^ 63 then _ else _) _ _ _
  rw [if_neg (by omega)]
  exact wpAny_bind (wpAny_mkInt (wpAny_pure ⟨_, rfl, .int n, H', I'.tok _, ⟨_, rfl⟩, q'⟩))
end
/-! ### sorted of a tuple of tuples of ints -/
section
variable {prog : Program} {w : World} {A : Around} {E : Value → Shared → Prop} {s : Shared}
theorem collect_tup {l : Addr} {vs : List Value} {Q : List Value → Shared → Prop} (hl : IsTup s.heap l vs.toArray)
    (h : Q vs { s with heap := (s.heap.push (seqObj "list" #[] 0)).update s.heap.objs.size (Obj.mapSeq (· ++ vs.toArray)) }) (hsz : vs.length ≤ sizeLine) :
    wpAny (model prog w) A (collect (.ref l)) Q E s := by
  obtain ⟨o, ho, hc, n, hd⟩ := id hl
  unfold collect
  refine wpAny_bind (wpAny_runValue (codeAny_builtin entry_proto_collect' ?_))
  show wpAny _ _ (do again (.builtin "list.__iadd__" ⟨[← newList [], .ref l], []⟩)) _ _ s
  refine wpAny_bind (wpAny_newList (wpAny_pure ⟨Code.quiet_builtin _ (by decide +kernel), codeAny_builtin entry_list_iadd' ?_⟩))
  show wpAny _ _ (Builtin.List.listExtendWith (.ref s.heap.objs.size) (.ref l) (.ref s.heap.objs.size)) _ _ { s with heap := s.heap.push (seqObj "list" #[] 0) }
  unfold Builtin.List.listExtendWith
  have ho' : (s.heap.push (seqObj "list" #[] 0)).get? l = some o := Heap.get?_push_of_some _ ho
  refine wpAny_bind (wpAny_typeOf (T := "tuple") ⟨o, ho', hc⟩ ?_)
  have ht : (Value.type "tuple" == Value.type "tuple") = true := by rfl
  rw [if_pos (by rw [ht]; simp)]
  refine wpAny_bind (listItems_at ho' hd ?_)
  refine wpAny_bind (listItems_at (xs := #[]) (n := 0) (Heap.get?_push_size _ rfl) rfl ?_)
  rw [if_neg (by simp)]
  refine wpAny_bind (listUpdate_at (xs := #[]) (n := 0) (Heap.get?_push_size _ rfl) rfl ?_ (Nat.zero_le _) (by show (#[] ++ vs.toArray).size ≤ sizeLine + 1; simp only [Array.size_append, List.size_toArray, List.length_nil]; omega))
  refine wpAny_pure ?_
  show wpAny (model prog w) A (do
      let o ← load s.heap.objs.size
      match o.data with
      | .seq xs _ => pure xs.toList
      | _ => unsupported "internal:collect") Q E { s with heap := (s.heap.push (seqObj "list" #[] 0)).update s.heap.objs.size (Obj.mapSeq (· ++ vs.toArray)) }
  refine wpAny_bind (wpAny_load (get?_update_seq (Heap.get?_push_size _ rfl) _) ?_)
  show wpAny _ _ (pure ((#[] : Array Value) ++ vs.toArray).toList) Q E _
  rw [show ((#[] : Array Value) ++ vs.toArray).toList = vs by simp]
  exact wpAny_pure h
open TS in
theorem sorted_tupsT {l : Addr} {vs : List Value} {d : Nat} {B : Int} {Q : Value → Shared → Prop} (hl : IsTup s.heap l vs.toArray) (h64 : vs.length < 64) (hd : 1 ≤ d) (x : TupsOk s.heap d B vs)
    (h : ∀ out : Array Value, out.toList.Perm vs → out.toList.Pairwise (fun u v => code B (intsOf s.heap u) ≤ code B (intsOf s.heap v)) → Q (.ref (s.heap.objs.size + 1)) { s with heap := sortedAll s.heap vs out }) :
    wpAny (model prog w) A (call (.builtin "sorted") [.ref l]) Q E s := by
  refine Calls.call_function_entry kind_sorted plain_sorted entry_sorted (args_sorted1 _) ?_
  unfold Builtin.«sorted»
  refine wpAny_bind (m := checkCount "sorted" 1 1 _) (wpAny_pure ?_)
  refine wpAny_bind (collect_tup hl ?_ (by rw [sizeLine_eq]; omega))
  refine wpAny_bind (wpAny_newList ?_ (by rw [sizeLine_eq]; omega))
  have hsz : ((s.heap.push (seqObj "list" #[] 0)).update s.heap.objs.size (Obj.mapSeq (· ++ vs.toArray))).objs.size = s.heap.objs.size + 1 := by
    rw [Heap.size_update, size_push']
  have hoL : (((s.heap.push (seqObj "list" #[] 0)).update s.heap.objs.size (Obj.mapSeq (· ++ vs.toArray))).push (seqObj "list" vs.toArray 0)).get? (s.heap.objs.size + 1) = some (seqObj "list" vs.toArray 0) := by
    rw [← hsz]; exact Heap.get?_push_size _ rfl
  have keep : ∀ b o, s.heap.get? b = some o → o.cls = .type "tuple" → (((s.heap.push (seqObj "list" #[] 0)).update s.heap.objs.size (Obj.mapSeq (· ++ vs.toArray))).push (seqObj "list" vs.toArray 0)).get? b = some o := fun b o q _ => by
    have hlt : b < s.heap.objs.size := Heap.lt_size q
    rw [Heap.get?_push_ne _ _ _ (by rw [hsz]; exact Nat.ne_of_lt (Nat.lt_succ_of_lt hlt)), Heap.get?_update_ne _ _ _ _ (Nat.ne_of_lt hlt), Heap.get?_push_ne _ _ _ (Nat.ne_of_lt hlt)]
    exact q
  show wpAny _ _ _ _ _ { s with heap := ((s.heap.push (seqObj "list" #[] 0)).update s.heap.objs.size (Obj.mapSeq (· ++ vs.toArray))).push (seqObj "list" vs.toArray 0) }
  rw [hsz]
  refine wpAny_bind (wpAny_holding (wpAny_call_entry slot_list_sort ⟨_, hoL, rfl⟩ entry_list_sort (sort_tups hoL h64 hd (x.keeps keep) (fun v => code B (intsOf s.heap v)) (fun v hv ns t => ?_) fun out a1 a2 => ⟨_, rfl, ?_⟩) (args_list_sort _)))
  · obtain ⟨ns0, t0, _⟩ := x v hv
    have e : ns = ns0 := t.ints.symm.trans (t0.keeps keep).ints
    rw [e]
    show code B (intsOf s.heap v) = code B ns0
    rw [t0.ints]
  · exact wpAny_pure ⟨_, rfl, h out a1 a2⟩
end
def rSortUT (K : PySem.W.Frag) (d : Nat) (B : Int) : List V → Hp → VK → Prop := fun vs H Q => ∃ (a : Addr) (xs : List V), vs = [V.ref a] ∧ SqT K H a xs ∧ xs.length < 64 ∧ (∀ x ∈ xs, ∃ ns, TupI K H x ns ∧ ns.length = d ∧ TS.Bd B ns) ∧
  ∀ (ys : List V) (p : Addr), ys.Perm xs → ys.Pairwise (fun x y => ∀ n m, TupI K H x n → TupI K H y m → TS.code B n ≤ TS.code B m) → H p = none → Q (.ref p) (upd H p (.lst ys))
theorem cr_sortTT {X : Cx} {d : Nat} {B : Int} (hd : 1 ≤ d) : CallR X (.builtin "sorted") (rSortUT X.K d B) := by
  intro pins s σ H vs us Q I r h
  obtain ⟨a, xs, rfl, hs, h64, hx, q⟩ := h
  obtain ⟨its, rv, hl, hz⟩ := I.tuple hs
  rw [Vals.ref1 r]
  obtain ⟨e1, e2⟩ := bkV_refs rv fun x m => by
    obtain ⟨ns, ⟨t, e, _⟩, _⟩ := hx x m
    exact ⟨t, e⟩
  refine sorted_tupsT (d := d) (B := B) hl (by rw [← rv.length]; exact h64) hd (fun v hv => ?_) fun out h1 h2 => ?_
  · obtain ⟨t, rfl⟩ := e2 v hv
    have hm : V.ref t ∈ xs := by
      rw [e1]
      exact List.mem_map.mpr ⟨_, hv, rfl⟩
    obtain ⟨ns, ⟨t', e, ht⟩, hn, hb⟩ := hx _ hm
    cases e
    exact ⟨ns, tupI_raw I ht, hn, hb⟩
  · obtain ⟨ep, he'⟩ := PyProof.Rows.sortedAll_at s.heap its out
    have h3 : ∀ u ∈ out.toList, ∃ a, u = Value.ref a := fun u hu => e2 u (h1.mem_iff.mp hu)
    have hp : (out.toList.map bkV).Perm xs := by
      rw [e1]
      exact h1.map bkV
    have hlen : (out.toList.map bkV).length ≤ sizeLine := by
      rw [hp.length_eq]
      exact hz
    refine ⟨.ref _, upd H (s.heap.objs.size + 1) (.lst (out.toList.map bkV)), I.laid (t' := s.toks) (fun _ _ => PyProof.Rows.sortedAll_old) (Nat.le_succ _) ⟨hlen, out.toList, ep, bkV_vals h3, he'⟩, rfl, q _ _ hp ?_ (I.hok.fresh (Nat.le_succ _))⟩
    rw [List.pairwise_map]
    refine List.Pairwise.imp (fun {u v} huv n m hn hm => ?_) h2
    obtain ⟨t, et, ht⟩ := hn
    obtain ⟨t', et', ht'⟩ := hm
    have eu := bkV_ref et
    have ev := bkV_ref et'
    have i1 : TS.intsOf s.heap u = n := by
      rw [eu]
      exact (tupI_raw I ht).ints
    have i2 : TS.intsOf s.heap v = m := by
      rw [ev]
      exact (tupI_raw I ht').ints
    rw [← i1, ← i2]
    exact huv
end G0
namespace G0
open PySem PySem.Spec PyProof.Rows L2
/-! ### data -/
mutual
def noL : PyData → Bool
  | .none | .bool _ | .int _ | .str _ => true
  | .list _ | .dict _ => false
  | .tuple xs => noLs xs
def noLs : List PyData → Bool
  | [] => true
  | x :: xs => noL x && noLs xs
end
section
variable {K : PySem.W.Frag} {H H' : Hp} {p : Addr}
theorem sqt_chg (hp : ∃ xs, H p = some (.lst xs)) (c : Chg p H H') {a : Addr} {xs : List V} (h : SqT K H a xs) : SqT K H' a xs := by
  obtain ⟨ys, hp⟩ := hp
  rcases h with (h | ⟨o, h⟩) | h
  · exact .inl (.inl (c _ _ (ne_of h hp (by intro z; cases z)) h))
  · exact .inl (.inr ⟨o, c _ _ (ne_of h hp (by intro z; cases z)) h⟩)
  · exact .inr h
theorem sqt_same (c : Same H H') {a : Addr} {xs : List V} (h : SqT K H a xs) : SqT K H' a xs := by
  rcases h with (h | ⟨o, h⟩) | h
  · exact .inl (.inl (c _ _ h))
  · exact .inl (.inr ⟨o, c _ _ h⟩)
  · exact .inr h
mutual
theorem dp_chg (hp : ∃ xs, H p = some (.lst xs)) (c : Chg p H H') : ∀ (d : PyData) (v : V), noL d = true → Dp K H v d → Dp K H' v d
  | .none, _, _, h => by cases h; exact .non
  | .bool _, _, _, h => by cases h; exact .bl _
  | .int _, _, _, h => by cases h; exact .int _
  | .str _, _, _, h => by cases h; exact .str _
  | .list _, _, n, _ => by simp [noL] at n
  | .dict _, _, n, _ => by simp [noL] at n
  | .tuple ds, _, n, h => by
    cases h with
    | tup hs ha => exact .tup (sqt_chg hp c hs) (dps_chg hp c ds _ (by simpa [noL] using n) ha)
theorem dps_chg (hp : ∃ xs, H p = some (.lst xs)) (c : Chg p H H') : ∀ (ds : List PyData) (vs : List V), noLs ds = true → DpAll K H vs ds → DpAll K H' vs ds
  | [], _, _, h => by cases h; exact .nil
  | d :: ds, _, n, h => by
    simp only [noLs, Bool.and_eq_true] at n
    cases h with
    | cons h1 h2 => exact .cons (dp_chg hp c d _ n.1 h1) (dps_chg hp c ds _ n.2 h2)
end
mutual
theorem dp_same (c : Same H H') : ∀ (d : PyData) (v : V), Dp K H v d → Dp K H' v d
  | .none, _, h => by cases h; exact .non
  | .bool _, _, h => by cases h; exact .bl _
  | .int _, _, h => by cases h; exact .int _
  | .str _, _, h => by cases h; exact .str _
  | .list ds, _, h => by
    cases h with
    | lst hs ha => exact .lst (c.seq hs) (dps_same c ds _ ha)
  | .dict _, _, h => by cases h
  | .tuple ds, _, h => by
    cases h with
    | tup hs ha => exact .tup (sqt_same c hs) (dps_same c ds _ ha)
theorem dps_same (c : Same H H') : ∀ (ds : List PyData) (vs : List V), DpAll K H vs ds → DpAll K H' vs ds
  | [], _, h => by cases h; exact .nil
  | d :: ds, _, h => by
    cases h with
    | cons h1 h2 => exact .cons (dp_same c d _ h1) (dps_same c ds _ h2)
end
theorem dps_app {vs ws : List V} {ds es : List PyData} : DpAll K H vs ds → DpAll K H ws es → DpAll K H (vs ++ ws) (ds ++ es) := by
  intro h g
  match vs, ds, h with
  | [], [], _ => exact g
  | _ :: _, _ :: _, .cons h1 h2 => exact .cons h1 (dps_app h2 g)
theorem dps_len {vs : List V} {ds : List PyData} : DpAll K H vs ds → vs.length = ds.length := by
  intro h
  match vs, ds, h with
  | [], [], _ => rfl
  | _ :: _, _ :: _, .cons _ h2 => exact congrArg (· + 1) (dps_len h2)
end
theorem noLs_of : ∀ {ds : List PyData}, (∀ d ∈ ds, noL d = true) → noLs ds = true
  | [], _ => rfl
  | d :: ds, h => by
    simp only [noLs, Bool.and_eq_true]
    exact ⟨h d (List.mem_cons_self ..), noLs_of fun x hx => h x (List.mem_cons_of_mem _ hx)⟩
/-! ### things and letters -/
inductive Thing : Nat → PyData → Prop
  | num {n : Nat} {i : Int} : 0 ≤ i → i < 10 ^ 60 → Thing n (.int i)
  | tup {n : Nat} {ds : List PyData} : ds.length ≤ 2 → (∀ d ∈ ds, Thing n d) → Thing (n + 1) (.tuple ds)
theorem Thing.noL {n : Nat} {d : PyData} (h : Thing n d) : noL d = true := by
  induction h with
  | num _ _ => rfl
  | tup _ _ ih =>
    simp only [G0.noL]
    exact noLs_of ih
theorem Thing.mono {n m : Nat} {d : PyData} (h : Thing n d) (le : n ≤ m) : Thing m d := by
  induction h generalizing m with
  | num a b => exact .num a b
  | tup l _ ih =>
    cases m with
    | zero => omega
    | succ m => exact .tup l fun d hd => ih d hd (by omega)
def WordOk (z : Str) : Prop := 1 ≤ z.length ∧ z.length ≤ 8 ∧ (∀ c ∈ z.cps.toList, 97 ≤ c ∧ c ≤ 122) ∧ z ≠ "gone"
def LetterD (d : PyData) : Prop := ∃ (z : Str) (ds : List PyData), d = .tuple (.str z :: ds) ∧ WordOk z ∧ ds.length ≤ 5 ∧ ∀ x ∈ ds, Thing 3 x
theorem LetterD.noL {d : PyData} (h : LetterD d) : noL d = true := by
  obtain ⟨z, ds, rfl, _, _, hd⟩ := h
  simp only [G0.noL, noLs, Bool.true_and]
  exact noLs_of fun x hx => (hd x hx).noL
theorem Chg.mut {p D : Addr} {H0 H1 : Hp} {o : HO} (a : Chg p H0 H1) (n : H0 D = none) : Chg p H0 (upd H1 D o) := fun b u m e => by
  rw [upd_ne (ne_of_none e n)]; exact a b u m e
theorem PotAt.ne {n : Nat} {H H' : Hp} {p D : Addr} {o : HO} (h : PotAt n H p) (d : p ≠ D) (e : H' = upd H D o) : PotAt n H' p := by
  obtain ⟨xs, q, r⟩ := h
  exact ⟨xs, by rw [e, upd_ne d]; exact q, r⟩
theorem PotAt.new {n : Nat} {H : Hp} {p D : Addr} {o : HO} (h : PotAt n H p) (d : H D = none) : PotAt n (upd H D o) p := h.keep (same_upd d)
theorem PotAt.neD {n : Nat} {H : Hp} {p D : Addr} (h : PotAt n H p) (d : H D = none) : p ≠ D := by
  obtain ⟨xs, q, r⟩ := h
  exact ne_of_none q d
theorem PotAt.lst {n : Nat} {H : Hp} {p : Addr} (h : PotAt n H p) : ∃ xs, H p = some (.lst xs) := by
  obtain ⟨xs, q, r⟩ := h
  exact ⟨xs, q⟩
theorem PotAt.neT {n : Nat} {H : Hp} {p t : Addr} {xs : List V} (h : PotAt n H p) (d : H t = some (.tup xs)) : t ≠ p := by
  obtain ⟨ys, q, r⟩ := h
  exact ne_of d q (by intro z; cases z)
theorem Cal.imp {P : Program} {w : World} {K : PySem.W.Frag} {mg : Str → Option Value} {base : Heap} {x : Str} {k : Nat} {ps : List Str} {sp sp' : Sp}
    (C : Cal P w K mg base x k ps sp) (h : ∀ vs H Q E, sp' vs H Q E → sp vs H Q E) : Cal P w K mg base x k ps sp' := by
  obtain ⟨f, fd, F, r⟩ := C
  exact ⟨f, fd, ⟨fun a b c d q => F.len _ _ _ _ (h _ _ _ _ q), fun A o s H args us vs Q E hr he hb hv hs => F.run A o s H args us vs Q E hr he hb hv (h _ _ _ _ hs)⟩, r⟩
theorem cal_no {P : Program} {w : World} {K : PySem.W.Frag} {mg : Str → Option Value} {base : Heap} {x : Str} {st : Stmt} {ps : List Str} (F : Fn K mg x st)
    (bd : ∀ (kV doc pm : Value) (an : Option Addr) (cdv ct : Value) (us : List Value), us.length = ps.length →
      bindArgs (PySem.W.fnOf x x (defArgs st) (defBody st) (defScope st) .none kV doc pm an cdv ct) ⟨us, []⟩ = pure (ps.zip us)) :
    Cal P w K mg base x 0 ps (fun _ _ _ _ => False) := by
  obtain ⟨f, fd, F, m⟩ := F
  obtain ⟨oc, od, kV, doc, pm, an, cdv, ct, osl, e, lk, c⟩ := id F.ex
  exact ⟨f, fd, ⟨fun _ _ _ _ h => h.elim, fun _ _ _ _ _ _ _ _ _ _ _ _ _ h => h.elim⟩, F.binds bd, m, F.kp, oc, od, osl, lk⟩
/-! ### texts of small letters -/
theorem az : ∀ j : Fin 26, (("abcdefghijklmnopqrstuvwxyz" : Str).cps.toList)[j.val]? = some (97 + j.val) := by decide +kernel
theorem az_at {d : Int} (h0 : 0 ≤ d) (h1 : d < 26) : atI ("abcdefghijklmnopqrstuvwxyz" : Str).cps.toList d = some (97 + d.toNat) := by
  have e : d = ((d.toNat : Nat) : Int) := by omega
  have q := az ⟨d.toNat, by omega⟩
  rw [e]
  exact atI_nat q
def sg (c : Nat) : Str := ⟨#[c]⟩
open TL in
theorem joinL_sg : ∀ cs : List Nat, joinL [] (cs.map fun c => [c]) = cs
  | [] => rfl
  | [c] => rfl
  | c :: d :: r => by
    show [c] ++ ([] ++ joinL [] ((d :: r).map fun c => [c])) = c :: d :: r
    rw [joinL_sg (d :: r)]
    rfl
open TL in
theorem tl_of (z : Str) : tl z = z.cps.toList := rfl
open TL in
theorem join_sg (cs : List Nat) : (Txt.join "" (cs.map sg)).cps.toList = cs := by
  rw [join_eq, ← tl_of, tl_join]
  have e : (cs.map sg).map tl = cs.map fun c => [c] := by rw [List.map_map]; rfl
  rw [e]
  exact joinL_sg cs
open TL in
theorem join_sg_len (cs : List Nat) : (Txt.join "" (cs.map sg)).length = cs.length := by
  have e := congrArg List.length (join_sg cs)
  rw [← e]
  show _ = (Txt.join "" (cs.map sg)).cps.toList.length
  simp [Str.length]
theorem sum_sg : ∀ cs : List Nat, ((cs.map sg).map (·.length)).sum = cs.length
  | [] => rfl
  | c :: r => by
    show 1 + ((r.map sg).map (·.length)).sum = r.length + 1
    rw [sum_sg r]; omega

end G0
namespace G0
open PySem PySem.Spec PyProof.Rows L2
theorem iteF' {c : Bool} {A B : Prop} (e : c = false) (h : B) : if c = true then A else B := by rw [e]; exact iteF h
theorem iteT' {c : Bool} {A B : Prop} (e : c = true) (h : A) : if c = true then A else B := by rw [e]; exact iteT h
/-! ### several lists may change -/
def ChgS (S : List Addr) (H H' : Hp) : Prop := ∀ b o, b ∉ S → H b = some o → H' b = some o
section
variable {S : List Addr} {p q : Addr} {H H' H0 H1 H2 : Hp} {o : HO}
theorem ChgS.refl : ChgS S H H := fun _ _ _ e => e
theorem ChgS.trans (a : ChgS S H H1) (b : ChgS S H1 H2) : ChgS S H H2 := fun c o n e => b c o n (a c o n e)
theorem Chg.s (h : Chg p H H') (m : p ∈ S) : ChgS S H H' := fun b o n e => h b o (fun z => n (z ▸ m)) e
theorem Same.s (h : Same H H') : ChgS S H H' := fun b o _ e => h b o e
theorem ChgS.mono {T : List Addr} (h : ChgS S H H') (m : ∀ b ∈ S, b ∈ T) : ChgS T H H' := fun b o n e => h b o (fun z => n (m b z)) e
theorem ChgS.new (a : ChgS S H H1) (n : H1 q = none) : ChgS S H (upd H1 q o) := fun b u m e => by
  rw [upd_ne (ne_of_none (a b u m e) n)]; exact a b u m e
theorem ChgS.mut (a : ChgS S H H1) (n : H q = none) : ChgS S H (upd H1 q o) := fun b u m e => by
  rw [upd_ne (ne_of_none e n)]; exact a b u m e
theorem ChgS.put (a : ChgS S H H1) (m : q ∈ S) : ChgS S H (upd H1 q o) := fun b u n e => by
  have nb : b ≠ q := fun z => n (by rw [z]; exact m)
  rw [upd_ne nb]; exact a b u n e
/-- what is new behind was new ahead -/
theorem ChgS.back (a : ChgS S H H1) (n : H1 q = none) (m : q ∉ S) : H q = none := by
  cases e : H q with
  | none => rfl
  | some u => rw [a q u m e] at n; cases n
theorem Chg.back (a : Chg p H H1) (n : H1 q = none) (m : q ≠ p) : H q = none := by
  cases e : H q with
  | none => rfl
  | some u => rw [a q u m e] at n; cases n
theorem PotAt.keepS {n : Nat} (h : PotAt n H p) (s : ChgS S H H') (m : p ∉ S) : PotAt n H' p := by
  obtain ⟨xs, e, h⟩ := h
  exact ⟨xs, s _ _ m e, h⟩
end
/-! ### lists of ints -/
section
variable {K : PySem.W.Frag} {H : Hp}
theorem dps_ints : ∀ ns : List Int, DpAll K H (ns.map V.int) (ns.map PyData.int)
  | [] => .nil
  | n :: r => .cons (.int n) (dps_ints r)
theorem dp_ints {a : Addr} {ns : List Int} (h : H a = some (.lst (ns.map V.int))) : Dp K H (.ref a) (.list (ns.map PyData.int)) := .lst (SqL.of h) (dps_ints ns)
theorem lay_ints : ∀ ns : List Int, PyData.canLayAll0 (ns.map PyData.int) = true
  | [] => by simp [PyData.canLayAll0]
  | n :: r => by simp [PyData.canLayAll0, PyData.canLay0, lay_ints r]
theorem deep_ints : ∀ ns : List Int, PyData.depthAll (ns.map PyData.int) = 0
  | [] => by simp [PyData.depthAll]
  | n :: r => by simp [PyData.depthAll, PyData.depth, deep_ints r]
theorem shaped_ints (ns : List Int) : SeqAt.shaped (.list (ns.map PyData.int)) = true := by
  show ((PyData.list (ns.map PyData.int)).canLay0 && decide ((PyData.list (ns.map PyData.int)).depth ≤ 64)) = true
  simp [PyData.canLay0, PyData.depth, lay_ints, deep_ints]
theorem flat_ints : ∀ ns : List Int, (ns.map V.int).all flatV = true
  | [] => rfl
  | n :: r => by simp [flatV, flat_ints r]
theorem inV_ints (v : Int) : ∀ ns : List Int, inV (.int v) (ns.map V.int) = decide (v ∈ ns)
  | [] => by simp [inV]
  | n :: r => by
    have ih := inV_ints v r
    unfold inV at ih ⊢
    rw [List.map_cons, List.any_cons, ih]
    show ((n == v) || decide (v ∈ r)) = decide (v ∈ n :: r)
    by_cases e : n = v
    · subst e; simp
    · have e' : ¬ v = n := fun z => e z.symm
      simp [e, e']
theorem at_ints {ns : List Int} {d : Int} (h0 : 0 ≤ d) (h1 : d < ns.length) : ∃ v, v ∈ ns ∧ atI (ns.map V.int) d = some (.int v) := by
  have hk : d.toNat < ns.length := by omega
  have ek : d = ((d.toNat : Nat) : Int) := by omega
  refine ⟨ns[d.toNat], List.getElem_mem hk, ?_⟩
  have q : atI (ns.map V.int) ((d.toNat : Nat) : Int) = some (.int ns[d.toNat]) := atI_nat (by rw [List.getElem?_map, List.getElem?_eq_getElem hk] <;> rfl)
  rw [← ek] at q
  exact q
end
/-! ### how long a repr is -/
mutual
def cost : PyData → Nat
  | .none => 4
  | .bool _ => 5
  | .int _ => 1921
  | .str x => 10 * x.length + 2
  | .list xs => 2 + costs xs
  | .tuple xs => 4 + costs xs
  | .dict _ => 0
def costs : List PyData → Nat
  | [] => 0
  | x :: xs => cost x + 2 + costs xs
end
theorem from_le : ∀ (ts : List Str) (k : Nat) (acc : Str), (textFrom k acc ts).length ≤ acc.length + (ts.map fun t => t.length + 2).sum
  | [], k, acc => by show acc.length ≤ _; simp
  | t :: r, k, acc => by
    have ih := from_le r (k + 1) (acc ++ (if k > 0 then ", " else "" : String) ++ t)
    show (textFrom (k + 1) _ r).length ≤ _
    rw [List.map_cons, List.sum_cons]
    rw [Str.length_append, Str.length_append] at ih
    have sep : (Str.ofString (if k > 0 then ", " else "")).length ≤ 2 := by split <;> decide
    omega
theorem join_le : ∀ ts : List Str, (Str.join ", " ts).length ≤ (ts.map fun t => t.length + 2).sum
  | [] => by decide
  | [x] => by show x.length ≤ _; simp
  | x :: y :: r => by
    have ih := join_le (y :: r)
    show (x ++ (", " : Str) ++ Str.join ", " (y :: r)).length ≤ _
    rw [Str.length_append, Str.length_append, List.map_cons, List.sum_cons]
    have : (", " : Str).length = 2 := by decide
    omega
theorem small_cps {x : Str} (h : PyData.strOk x = true) : ∀ c ∈ x.cps.toList, c < 16 ^ 8 := fun c hc => by
  unfold PyData.strOk at h
  rw [Array.all_eq_true_iff_forall_mem] at h
  have := of_decide_eq_true (h c (Array.mem_toList_iff.mp hc))
  omega
mutual
theorem shown_le : ∀ d : PyData, d.showable = true → d.canLay0 = true → d.shown.length ≤ cost d
  | .none, _, _ => by show (("None" : Str)).length ≤ 4; decide
  | .bool b, _, _ => by cases b <;> (simp only [PyData.shown, cost]; decide)
  | .int i, h, _ => by
    simp only [PyData.shown, cost]
    exact int_text_len_1921 (by simpa [PyData.showable] using h)
  | .str x, _, h => by
    simp only [PyData.shown, cost]
    exact StrLaws.reprText_len x (small_cps (by simpa [PyData.canLay0] using h))
  | .list xs, h, l => by
    have ih := shown_les xs (by simpa [PyData.showable] using h) (by simpa [PyData.canLay0] using l)
    simp only [PyData.shown, cost]
    show (textFrom 0 "[" (PyData.shownAll xs) ++ ("]" : Str)).length ≤ _
    have := from_le (PyData.shownAll xs) 0 "["
    have a : ("[" : Str).length = 1 := by decide
    have b : ("]" : Str).length = 1 := by decide
    rw [Str.length_append]
    omega
  | .tuple xs, h, l => by
    have ih := shown_les xs (by simpa [PyData.showable] using h) (by simpa [PyData.canLay0] using l)
    simp only [PyData.shown, cost]
    show (("(" : Str) ++ Str.join ", " (PyData.shownAll xs) ++ (Str.ofString (if (PyData.shownAll xs).length == 1 then ",)" else ")"))).length ≤ _
    have := join_le (PyData.shownAll xs)
    have a : ("(" : Str).length = 1 := by decide
    have b : (Str.ofString (if (PyData.shownAll xs).length == 1 then ",)" else ")")).length ≤ 2 := by split <;> decide
    rw [Str.length_append, Str.length_append]
    omega
  | .dict _, _, h => by simp [PyData.canLay0] at h
theorem shown_les : ∀ ds : List PyData, PyData.showableAll ds = true → PyData.canLayAll0 ds = true → ((PyData.shownAll ds).map fun t => t.length + 2).sum ≤ costs ds
  | [], _, _ => Nat.le_refl _
  | d :: ds, h, l => by
    simp only [PyData.showableAll, Bool.and_eq_true] at h
    simp only [PyData.canLayAll0, Bool.and_eq_true] at l
    have h1 := shown_le d h.1 l.1
    have h2 := shown_les ds h.2 l.2
    simp only [PyData.shownAll, costs, List.map_cons, List.sum_cons]
    omega
end

end G0
namespace G0
open PySem PySem.Spec PyProof.Rows L2
def top (i : Nat) : Stmt := PySem.Challenge.pw_soleseat_k64_votes_given_out.main.body.getD i (.Pass ⟨0, 0, 0, 0⟩)
abbrev s_wall : Stmt := top 0
abbrev s_Seat__init : Stmt := inClass (top 4) 0
abbrev s_Seat_ask : Stmt := inClass (top 4) 1
abbrev s_Seat_leave : Stmt := inClass (top 4) 2
abbrev s_Seat_hear : Stmt := inClass (top 4) 3
abbrev s_Seat_gone : Stmt := inClass (top 4) 4
abbrev s_Desk__init : Stmt := inClass (top 6) 0
abbrev s_Desk_take_ask : Stmt := inClass (top 6) 1
abbrev s_Desk_take_given : Stmt := inClass (top 6) 2
abbrev s_Desk_take_done : Stmt := inClass (top 6) 3
abbrev s_Desk_take_gone : Stmt := inClass (top 6) 4
abbrev s_Desk__len : Stmt := inClass (top 6) 5
abbrev s_Desk_free : Stmt := inClass (top 6) 6
abbrev s_Desk_give_the_free_vote : Stmt := inClass (top 6) 7
abbrev s_Barred__init : Stmt := inClass (top 8) 0
abbrev s_Voter__init : Stmt := inClass (top 10) 0
abbrev s_Voter_ask : Stmt := inClass (top 10) 1
abbrev s_Voter_leave : Stmt := inClass (top 10) 2
abbrev s_Voter_hear : Stmt := inClass (top 10) 3
abbrev s_Voter_gone : Stmt := inClass (top 10) 4
abbrev s_Voter_free_set : Stmt := inClass (top 10) 5
abbrev s_Voter_hear_vote : Stmt := inClass (top 10) 6
abbrev s_Voter_hear_back : Stmt := inClass (top 10) 7
abbrev s_Voter_turn : Stmt := inClass (top 10) 8
abbrev s_Voter_want : Stmt := inClass (top 10) 9
abbrev s_Voter_done : Stmt := inClass (top 10) 10
abbrev s_Voter_be_out : Stmt := inClass (top 10) 11
abbrev s_Voter_from_desk : Stmt := inClass (top 10) 12
abbrev s_Voter_desk_letter : Stmt := inClass (top 10) 13
abbrev s_law_draws : Stmt := top 12
abbrev s_law_same : Stmt := top 13
abbrev s_law_cell_at : Stmt := top 14
abbrev s_law_looks : Stmt := top 15
abbrev s_law_deed : Stmt := top 16
abbrev s_law_vote : Stmt := top 17
abbrev s_law_due : Stmt := top 18
abbrev s_law_cells : Stmt := top 19
abbrev s_law : Stmt := top 20
section
structure BlD (mg : Str → Option Value) : Prop where
  len : mg "len" = none
  range : mg "range" = none
  tuple : mg "tuple" = none
  list : mg "list" = none
  isinstance : mg "isinstance" = none
  bool : mg "bool" = none
  sorted : mg "sorted" = none
  sum : mg "sum" = none
  int : mg "int" = none
  min : mg "min" = none
variable {P : Program} {w : World} {K : PySem.W.Frag} {mg : Str → Option Value} {base : Heap}
theorem u66 {k : Nat} {A : Around} (hr : Room k A) : A.units + 66 < cLine := by have := hr.un; omega
theorem u65 {k : Nat} {A : Around} (hr : Room k A) : A.units + 65 < cLine := by have := hr.un; omega
theorem u64 {k : Nat} {A : Around} (hr : Room k A) : A.units + 64 < cLine := by have := hr.un; omega
theorem u0 {k : Nat} {A : Around} (hr : Room k A) : A.units < cLine := by have := hr.un; omega
/-! ### _law_draws -/
def Below (ds ts : List Int) : Prop := ∀ (i : Nat) (v : Int), ds[i]? = some v → ∃ m, ts[i]? = some m ∧ 0 ≤ v ∧ v < m
theorem Below.nil {ts : List Int} : Below [] ts := fun i v h => by simp at h
theorem Below.snoc {ds ts : List Int} {v m : Int} (h : Below ds ts) (e : ts[ds.length]? = some m) (h0 : 0 ≤ v) (h1 : v < m) : Below (ds ++ [v]) ts := fun i u hu => by
  by_cases c : i < ds.length
  · exact h i u (by rw [List.getElem?_append_left c] at hu; exact hu)
  · rw [List.getElem?_append_right (by omega)] at hu
    have z : i - ds.length = 0 := by
      cases q : i - ds.length with
      | zero => rfl
      | succ n => rw [q] at hu; simp at hu
    rw [z] at hu
    simp at hu
    subst hu
    have : i = ds.length := by omega
    subst this
    exact ⟨m, e, h0, h1⟩
def spDraws : Sp := fun vs H Q _ => ∃ (t : Addr) (c : Int) (ts : List Int), vs = [.int c, .ref t] ∧ H t = some (.lst (ts.map V.int)) ∧ Builtin.Int.intBits c ≤ 1048576 ∧
  (∀ x ∈ ts, 0 < x ∧ x.natAbs < 2 ^ 250) ∧ ts.length ≤ 10 ∧ ∀ (l : Addr) (ds : List Int), H l = none → ds.length = ts.length → Below ds ts → Q (.ref l) (upd H l (.lst (ds.map V.int)))
theorem bits_le {c : Int} {n : Nat} (h : Builtin.Int.intBits c ≤ n) : c.natAbs < 2 ^ n := by
  unfold Builtin.Int.intBits at h
  by_cases z : c = 0
  · subst z; exact Nat.two_pow_pos n
  · have z' : (c == 0) = false := by simpa using z
    rw [z', if_neg (by simp)] at h
    exact Nat.lt_of_lt_of_le (Nat.lt_log2_self) (Nat.pow_le_pow_right (by decide) h)
theorem bits_add {c d : Int} {n : Nat} (h : Builtin.Int.intBits c ≤ n) (hd : d.natAbs < 2 ^ n) : Builtin.Int.intBits (c + d) ≤ n + 1 := by
  have h1 := bits_le h
  refine PyProof.Rows.intBits_le ?_
  have h2 : (2 : Nat) ^ (n + 1) = 2 ^ n + 2 ^ n := by rw [Nat.pow_succ]; omega
  rw [h2]
  have : (c + d).natAbs ≤ c.natAbs + d.natAbs := Int.natAbs_add_le c d
  omega
theorem pow_cell {c d : Int} (h : Builtin.Int.intBits c ≤ 1048576) (hd : d.natAbs < 2 ^ 64) : CPowB (c + d) 3 := by
  refine ⟨by decide, ?_⟩
  have := bits_add (d := d) h (Nat.lt_of_lt_of_le hd (Nat.pow_le_pow_right (by decide) (by decide)))
  have e : (2 : Int) ^ 27 = 134217728 := by decide
  rw [e]
  omega
theorem sc_law_draws : FnScope ["cell", "tops", "out", "rest", "k", "one"] ["cell", "tops"] (defScope s_law_draws) :=
  ⟨rfl, rfl, rfl, by decide +kernel, rfl, by decide +kernel, by decide +kernel⟩
theorem ok_draws (F : Fn K mg "_law_draws" s_law_draws) (T : BlD mg) : Cal P w K mg base "_law_draws" 1 ["cell", "tops"] spDraws := by
  refine cal_of F sc_law_draws
    (fun _ _ _ _ _ _ us hl => match us, hl with | [_, _], _ => rfl) ?_ ?_
  · rintro vs H Q E ⟨t, c, ts, rfl, _⟩
    rfl
  rintro f cdv A outer s H vs Q E free hr ⟨t, c, ts, rfl, ht, hc, pos, tl, q⟩
  refine ⟨_, (pss_cons (ps_set (i := 2) sc_law_draws.nd rfl (Or.inl rfl) (pe_lst pa_nil))
    (pss_cons (ps_set (i := 3) sc_law_draws.nd rfl (Or.inl rfl) (pe_op op_sub (pv 0) (pe_op op_pow pe_int pe_int)))
    (pss_cons (ps_for PassesOwn.never rfl (pi_range1 (by rfl) T.range (pa_cons (pe_callB call_len_seq (by rfl) T.len (by decide +kernel) (pa_cons (pv 1) pa_nil)) pa_nil)) (pg_name (i := 4) sc_law_draws.nd rfl (Or.inl rfl))
    (pss_one (ps_if (pt_cmpR op_ge (pv 3) pe_int (nomark _))
    (pss_cons (ps_expr (pe_bm PySem.F.plainAttrs_list PySem.F.slot_list_append PySem.F.type_list_append mt_append (pv 2) (pa_cons (pe_op op_mod (pv 3) (pe_ix ix_list (pv 1) (pv 4) (fun _ _ => rfl))) pa_nil)))
    (pss_one (ps_set (i := 3) sc_law_draws.nd rfl (Or.inl rfl) (pe_op op_fdivW (pv 3) (pe_ix ix_list (pv 1) (pv 4) (fun _ _ => rfl))))))
    (pss_cons (ps_set (i := 5) sc_law_draws.nd rfl (Or.inl rfl) (pe_op op_mod (pe_op op_powB (pe_op op_add (pv 0) (pe_op op_mul pe_int (pe_op op_add (pv 4) pe_int))) pe_int) pe_int))
    (pss_cons (ps_set (i := 5) sc_law_draws.nd rfl (Or.inl rfl) (pe_op op_fdivW (pe_op op_mod (pe_op op_mul (pv 5) (pe_op op_add (pv 5) pe_int)) pe_int) pe_int))
    (pss_cons (ps_if (pt_cmpR op_gt (pe_ix ix_list (pv 1) (pv 4) (fun _ _ => rfl)) (pe_op op_pow pe_int pe_int) (nomark _))
    (pss_one (ps_set (i := 5) sc_law_draws.nd rfl (Or.inl rfl) (pe_op op_pow (pv 5) pe_int)))
    pss_nil)
    (pss_one (ps_expr (pe_bm PySem.F.plainAttrs_list PySem.F.slot_list_append PySem.F.type_list_append mt_append (pv 2) (pa_cons (pe_op op_mod (pv 5) (pe_ix ix_list (pv 1) (pv 4) (fun _ _ => rfl))) pa_nil))))))))))
    (pss_one (ps_ret (pv 2)))))), ?_⟩
  refine ⟨Nat.zero_le _, fun D hD => ?_⟩
  have nDt : t ≠ D := ne_of_none ht hD
  refine ⟨_, rfl, _, _, rfl, rfl, ⟨by decide, by decide, by decide⟩, _, _, rfl, rfl, ?_⟩
  refine ⟨_, rfl, t, _, rfl, .inl (SqL.of (same_upd hD _ _ ht)), _, rfl, ?_⟩
  have hl : (ts.map V.int).length = ts.length := List.length_map _
  rw [hl]
  refine ⟨by omega, by omega, ?_⟩
  refine for_range (lo := 0) (n := ts.length) (fun i σ G => ∃ (r : Int) (k o : Option V) (ds : List Int), σ = [some (V.int c), some (V.ref t), some (V.ref D), some (V.int r), k, o] ∧
    G = upd H D (.lst (ds.map V.int)) ∧ ds.length = i ∧ Below ds ts)
    ⟨_, _, _, [], rfl, rfl, rfl, Below.nil⟩ ?_ ?_
  · rintro i σ G hi ⟨r, k, o, ds, rfl, rfl, hds, hb⟩
    have ik : i < ts.length := hi
    obtain ⟨m, hm⟩ : ∃ m, m = ts[i] := ⟨_, rfl⟩
    have tsi : ts[ds.length]? = some m := by rw [hds, hm]; exact List.getElem?_eq_getElem ik
    have at_ : atI (ts.map V.int) (0 + (i : Int)) = some (.int m) := by
      have e : (0 : Int) + (i : Int) = ((i : Nat) : Int) := by omega
      rw [e]
      exact atI_nat (by rw [List.getElem?_map, List.getElem?_eq_getElem ik, ← hm] <;> rfl)
    obtain ⟨m0, mb⟩ := pos m (by rw [hm]; exact List.getElem_mem ik)
    have hT : upd H D (.lst (ds.map V.int)) t = some (.lst (ts.map V.int)) := same_upd hD _ _ ht
    have self : upd H D (.lst (ds.map V.int)) D = some (.lst (ds.map V.int)) := upd_same
    have sm : ds.length < sizeLine := Nat.lt_of_lt_of_le (show ds.length < 100 by omega) (by decide)
    refine ⟨_, rfl, _, _, rfl, rfl, _, rfl, ?_⟩
    refine ite2 (fun c1 => ?_) (fun c1 => ?_)
    · refine ⟨_, rfl, .inl ⟨rfl, _, SqL.of self⟩, _, rfl, _, rfl, _, rfl, t, _, _, _, rfl, rfl, SqL.of hT, at_, _, _, rfl, rfl, m0, ?_⟩
      refine ⟨D, _, _, rfl, rfl, self, by rw [List.length_map]; exact sm, ?_⟩
      rw [upd_upd]
      refine ⟨_, rfl, _, rfl, _, rfl, t, _, _, _, rfl, rfl, SqL.of (same_upd hD _ _ ht), at_, _, _, rfl, rfl, wide_div m0 mb (by decide) (by decide), ?_⟩
      exact ⟨_, _, _, ds ++ [r % m], rfl, by rw [List.map_append]; rfl, by rw [List.length_append, List.length_singleton]; omega,
        hb.snoc tsi (Int.emod_nonneg _ (by omega)) (Int.emod_lt_of_pos _ m0)⟩
    · refine ⟨_, rfl, _, rfl, _, _, rfl, rfl, _, _, rfl, rfl, .inl ⟨by decide, by decide⟩, _, _, rfl, rfl, _, _, rfl, rfl, pow_cell hc ?_, _, _, rfl, rfl, (by show (0 : Int) < 2147483629; decide), ?_⟩
      · have : (7919 * (0 + (i : Int) + 1)).natAbs < 2 ^ 64 := by omega
        exact this
      generalize ho : (c + 7919 * (0 + (i : Int) + 1)) ^ (Int.toNat 3) % 2147483629 = one
      have o0 : 0 ≤ one := by rw [← ho]; exact Int.emod_nonneg _ (by decide)
      have o1 : one < 2147483629 := by rw [← ho]; exact Int.emod_lt_of_pos _ (by decide)
      refine ⟨_, rfl, _, rfl, _, _, rfl, rfl, _, _, rfl, rfl, .inl ⟨by omega, by omega⟩, _, _, rfl, rfl, (by show (0 : Int) < 2147483587; decide), _, _, rfl, rfl, wide_div (b := 10) (by decide) (by decide) (by decide) (by decide), ?_⟩
      generalize hu : one * (one + 104729) % 2147483587 / 8 = two
      have u0 : 0 ≤ two := by rw [← hu]; exact Int.ediv_nonneg (Int.emod_nonneg _ (by decide)) (by decide)
      have u1 : two < 2147483587 := by
        have := Int.emod_lt_of_pos (one * (one + 104729)) (show (0 : Int) < 2147483587 by decide)
        rw [← hu]
        omega
      refine ⟨_, rfl, _, rfl, t, _, _, _, rfl, rfl, SqL.of hT, at_, _, _, rfl, rfl, ⟨by decide, by decide, by decide⟩, _, _, rfl, rfl, _, rfl, ?_⟩
      refine ite2 (fun c2 => ?_) (fun c2 => ?_)
      · have h2 : two.natAbs < 2 ^ 64 := by omega
        refine ⟨_, rfl, _, _, rfl, rfl, ⟨by decide, by decide, (by subst hu; subst ho; exact h2)⟩, ?_⟩
        obtain ⟨six, hs⟩ : ∃ six, six = two ^ (Int.toNat 6) := ⟨_, rfl⟩
        refine ⟨_, rfl, .inl ⟨rfl, _, SqL.of self⟩, _, rfl, _, rfl, _, rfl, t, _, _, _, rfl, rfl, SqL.of hT, at_, _, _, rfl, rfl, m0, ?_⟩
        refine ⟨D, _, _, rfl, rfl, self, by rw [List.length_map]; exact sm, ?_⟩
        rw [upd_upd]
        exact ⟨_, _, _, ds ++ [six % m], rfl, by rw [List.map_append]; (subst hs; subst hu; subst ho); rfl, by rw [List.length_append, List.length_singleton]; omega,
          hb.snoc tsi (Int.emod_nonneg _ (by omega)) (Int.emod_lt_of_pos _ m0)⟩
      · skip
        refine ⟨_, rfl, .inl ⟨rfl, _, SqL.of self⟩, _, rfl, _, rfl, _, rfl, t, _, _, _, rfl, rfl, SqL.of hT, at_, _, _, rfl, rfl, m0, ?_⟩
        refine ⟨D, _, _, rfl, rfl, self, by rw [List.length_map]; exact sm, ?_⟩
        rw [upd_upd]
        exact ⟨_, _, _, ds ++ [two % m], rfl, by rw [List.map_append]; (subst hu; subst ho); rfl, by rw [List.length_append, List.length_singleton]; omega,
          hb.snoc tsi (Int.emod_nonneg _ (by omega)) (Int.emod_lt_of_pos _ m0)⟩
  · rintro σ G ⟨r, k, o, ds, rfl, rfl, hds, hb⟩
    exact ⟨_, rfl, q D ds hD hds hb⟩
end

end G0
namespace G0
open PySem PySem.Spec PyProof.Rows L2
section
variable {P : Program} {w : World} {K : PySem.W.Frag} {mg : Str → Option Value} {base : Heap}
/-! ### _law_same -/
inductive Lv : Nat → PyData → Prop
  | non {n : Nat} : Lv n .none
  | bl {n : Nat} (b : Bool) : Lv n (.bool b)
  | int {n : Nat} (i : Int) : Lv n (.int i)
  | str {n : Nat} (z : Str) : Lv n (.str z)
  | tup {n : Nat} {ds : List PyData} : ds.length < 10000 → (∀ d ∈ ds, Lv n d) → Lv (n + 1) (.tuple ds)
def spSameD (K : PySem.W.Frag) (n : Nat) : Sp := fun vs H Q _ => ∃ (x y : V), vs = [x, y] ∧
  ((∃ d, Lv n d ∧ Dp K H x d ∧ Dp K H y d) ∨
    ∃ (a b : Addr) (xs ys : List V) (ds : List PyData) (m : Nat), x = .ref a ∧ y = .ref b ∧ H a = some (.lst xs) ∧ H b = some (.lst ys) ∧ DpAll K H xs ds ∧ DpAll K H ys ds ∧ n = m + 1 ∧ ds.length < 10000 ∧ ∀ d ∈ ds, Lv m d) ∧ Q (.bl true) H
def spSameP (K : PySem.W.Frag) (n : Nat) : Sp := fun vs H Q E => ∃ m, n = m + 1 ∧ spSameD K m vs H Q E
theorem ty_sqt {H : Hp} {a : Addr} {xs : List V} (h : SqT K H a xs) : TyX K H (.ref a) (.type "tuple") := by
  rcases h with (h | ⟨o, h⟩) | ⟨o, its, n, h1, h2, _⟩
  · exact .base (.tup h)
  · exact .fTuple h
  · exact .kTuple h1 h2
theorem dps_get {H : Hp} {vs : List V} {ds : List PyData} (h : DpAll K H vs ds) : ∀ {i : Nat}, i < ds.length → ∃ v d, vs[i]? = some v ∧ ds[i]? = some d ∧ Dp K H v d := by
  match vs, ds, h with
  | [], [], _ => intro i e; simp at e
  | v :: vs, d :: ds, .cons h1 h2 =>
    intro i e
    cases i with
    | zero => exact ⟨v, d, rfl, rfl, h1⟩
    | succ i => exact dps_get h2 (by simpa using e)
theorem sc_law_same : FnScope ["found", "due", "k"] ["found", "due"] (defScope s_law_same) :=
  ⟨rfl, rfl, rfl, by decide +kernel, rfl, by decide +kernel, by decide +kernel⟩
theorem same_step {n j : Nat} (F : Fn K mg "_law_same" s_law_same) (T : BlD mg) (C_same : Cal P w K mg base "_law_same" j ["found", "due"] (spSameP K n)) :
    Cal P w K mg base "_law_same" (j + 1) ["found", "due"] (spSameD K n) := by
  refine cal_of F sc_law_same
    (fun _ _ _ _ _ _ us hl => match us, hl with | [_, _], _ => rfl) ?_ ?_
  · rintro vs H Q E ⟨x, y, rfl, _⟩
    rfl
  rintro f cdv A outer s H vs Q E free hr ⟨x, y, rfl, two, q⟩
  refine ⟨_, (pss_cons (ps_if (PW.pt (pw_or (pt_val (pe_callB call_isi (by rfl) T.isinstance (by decide +kernel) (pa_cons (pv 1) (pa_cons (pe_bltn (v := .ty "tuple") (by rfl) T.tuple (by decide +kernel) rfl) pa_nil)))) (pw_or1 (pt_val (pe_callB call_isi (by rfl) T.isinstance (by decide +kernel) (pa_cons (pv 1) (pa_cons (pe_bltn (v := .ty "list") (by rfl) T.list (by decide +kernel) rfl) pa_nil)))))))
    (pss_cons (ps_if (PW.pt (pw_or (pt_cmpR op_ne (pe_callB call_isi (by rfl) T.isinstance (by decide +kernel) (pa_cons (pv 0) (pa_cons (pe_bltn (v := .ty "tuple") (by rfl) T.tuple (by decide +kernel) rfl) pa_nil))) (pe_callB call_isi (by rfl) T.isinstance (by decide +kernel) (pa_cons (pv 1) (pa_cons (pe_bltn (v := .ty "tuple") (by rfl) T.tuple (by decide +kernel) rfl) pa_nil))) (nomark _)) (pw_or1 (pt_cmpR op_ne (pe_callB call_isi (by rfl) T.isinstance (by decide +kernel) (pa_cons (pv 0) (pa_cons (pe_bltn (v := .ty "list") (by rfl) T.list (by decide +kernel) rfl) pa_nil))) (pe_callB call_isi (by rfl) T.isinstance (by decide +kernel) (pa_cons (pv 1) (pa_cons (pe_bltn (v := .ty "list") (by rfl) T.list (by decide +kernel) rfl) pa_nil))) (nomark _)))))
    (pss_one (ps_ret pe_bl))
    pss_nil)
    (pss_cons (ps_if (pt_cmpR op_ne (pe_callB call_len_seq (by rfl) T.len (by decide +kernel) (pa_cons (pv 0) pa_nil)) (pe_callB call_len_seq (by rfl) T.len (by decide +kernel) (pa_cons (pv 1) pa_nil)) (nomark _))
    (pss_one (ps_ret pe_bl))
    pss_nil)
    (pss_cons (ps_for PassesOwn.never rfl (pi_range1 (by rfl) T.range (pa_cons (pe_callB call_len_seq (by rfl) T.len (by decide +kernel) (pa_cons (pv 1) pa_nil)) pa_nil)) (pg_name (i := 2) sc_law_same.nd rfl (Or.inl rfl))
    (pss_one (ps_if (pt_not (pt_val (pe_cal C_same free hr (pa_cons (pe_ix ix_seq (pv 0) (pv 2) (fun _ _ => rfl)) (pa_cons (pe_ix ix_seq (pv 1) (pv 2) (fun _ _ => rfl)) pa_nil)))))
    (pss_one (ps_ret pe_bl))
    pss_nil)))
    (pss_one (ps_ret pe_bl)))))
    pss_nil)
    (pss_one (ps_ret (pe_and (pe_cmpR op_eq (pe_callB call_isi (by rfl) T.isinstance (by decide +kernel) (pa_cons (pv 0) (pa_cons (pe_bltn (v := .ty "bool") (by rfl) T.bool (by decide +kernel) rfl) pa_nil))) (pe_callB call_isi (by rfl) T.isinstance (by decide +kernel) (pa_cons (pv 1) (pa_cons (pe_bltn (v := .ty "bool") (by rfl) T.bool (by decide +kernel) rfl) pa_nil))) (nomark _)) (pe_one (pe_cmpR op_eq (pv 0) (pv 1) (nomark _))))))), ?_⟩
  rcases two with ⟨d, lv, hx, hy⟩ | ⟨a, b, xs, ys, ds, m, rfl, rfl, ha, hb, hxs, hys, rfl, sm, hl⟩
  · cases lv with
    | non =>
      cases hx; cases hy
      refine ⟨_, rfl, _, .ty "tuple", _, _, _, rfl, .ty _, .base .non, kit_ty (r := false) (by decide +kernel), _, rfl, iteF' rfl ?_⟩
      refine ⟨_, rfl, _, .ty "list", _, _, _, rfl, .ty _, .base .non, kit_ty (r := false) (by decide +kernel), _, rfl, iteF' rfl ?_⟩
      refine ⟨_, rfl, _, .ty "bool", _, _, _, rfl, .ty _, .base .non, kit_ty (r := false) (by decide +kernel), _, rfl, _, .ty "bool", _, _, _, rfl, .ty _, .base .non, kit_ty (r := false) (by decide +kernel), rfl, ?_⟩
      refine ⟨_, by rw [decide_eq_true rfl], ?_⟩
      refine iteT ?_
      refine ⟨_, rfl, _, rfl, rfl, ?_⟩
      rw [decide_eq_true rfl]
      exact q
    | bl b =>
      cases hx; cases hy
      refine ⟨_, rfl, _, .ty "tuple", _, _, _, rfl, .ty _, .base (.bl _), kit_ty (r := false) (by decide +kernel), _, rfl, iteF' rfl ?_⟩
      refine ⟨_, rfl, _, .ty "list", _, _, _, rfl, .ty _, .base (.bl _), kit_ty (r := false) (by decide +kernel), _, rfl, iteF' rfl ?_⟩
      refine ⟨_, rfl, _, .ty "bool", _, _, _, rfl, .ty _, .base (.bl _), kit_ty (r := true) (by decide +kernel), _, rfl, _, .ty "bool", _, _, _, rfl, .ty _, .base (.bl _), kit_ty (r := true) (by decide +kernel), rfl, ?_⟩
      refine ⟨_, by rw [decide_eq_true rfl], ?_⟩
      refine iteT ?_
      refine ⟨_, rfl, _, rfl, rfl, ?_⟩
      rw [decide_eq_true rfl]
      exact q
    | int i =>
      cases hx; cases hy
      refine ⟨_, rfl, _, .ty "tuple", _, _, _, rfl, .ty _, .base (.int _), kit_ty (r := false) (by decide +kernel), _, rfl, iteF' rfl ?_⟩
      refine ⟨_, rfl, _, .ty "list", _, _, _, rfl, .ty _, .base (.int _), kit_ty (r := false) (by decide +kernel), _, rfl, iteF' rfl ?_⟩
      refine ⟨_, rfl, _, .ty "bool", _, _, _, rfl, .ty _, .base (.int _), kit_ty (r := false) (by decide +kernel), _, rfl, _, .ty "bool", _, _, _, rfl, .ty _, .base (.int _), kit_ty (r := false) (by decide +kernel), rfl, ?_⟩
      refine ⟨_, by rw [decide_eq_true rfl], ?_⟩
      refine iteT ?_
      refine ⟨_, rfl, _, rfl, rfl, ?_⟩
      rw [decide_eq_true rfl]
      exact q
    | str z =>
      cases hx; cases hy
      refine ⟨_, rfl, _, .ty "tuple", _, _, _, rfl, .ty _, .base (.str _), kit_ty (r := false) (by decide +kernel), _, rfl, iteF' rfl ?_⟩
      refine ⟨_, rfl, _, .ty "list", _, _, _, rfl, .ty _, .base (.str _), kit_ty (r := false) (by decide +kernel), _, rfl, iteF' rfl ?_⟩
      refine ⟨_, rfl, _, .ty "bool", _, _, _, rfl, .ty _, .base (.str _), kit_ty (r := false) (by decide +kernel), _, rfl, _, .ty "bool", _, _, _, rfl, .ty _, .base (.str _), kit_ty (r := false) (by decide +kernel), rfl, ?_⟩
      refine ⟨_, by rw [decide_eq_true rfl], ?_⟩
      refine iteT ?_
      refine ⟨_, rfl, _, rfl, rfl, ?_⟩
      rw [decide_eq_true rfl]
      exact q
    | tup sm hl =>
      cases hx with
      | tup hx hxs =>
      cases hy with
      | tup hy hys =>
      rename_i m ds a xs b ys
      have lxy : xs.length = ys.length := (dps_len hxs).trans (dps_len hys).symm
      have ly := dps_len hys
      refine ⟨_, rfl, _, .ty "tuple", _, _, _, rfl, .ty _, ty_sqt hy, kit_ty (r := true) (by decide +kernel), _, rfl, iteT' rfl ?_⟩
      refine iteT ?_
      refine ⟨_, rfl, _, .ty "tuple", _, _, _, rfl, .ty _, ty_sqt hx, kit_ty (r := true) (by decide +kernel), _, rfl, _, .ty "tuple", _, _, _, rfl, .ty _, ty_sqt hy, kit_ty (r := true) (by decide +kernel), rfl, ?_⟩
      refine ⟨_, by rw [decide_eq_true rfl], ?_⟩
      refine iteF' rfl ?_
      refine ⟨_, rfl, _, .ty "list", _, _, _, rfl, .ty _, (ty_sqt hx), kit_ty (r := false) (by decide +kernel), _, rfl, _, .ty "list", _, _, _, rfl, .ty _, (ty_sqt hy), kit_ty (r := false) (by decide +kernel), rfl, ?_⟩
      refine ⟨_, by rw [decide_eq_true rfl], ?_⟩
      refine iteF' rfl ?_
      refine ⟨_, rfl, a, xs, rfl, (.inr hx), _, rfl, b, ys, rfl, (.inr hy), rfl, ?_⟩
      refine ⟨_, by rw [lxy, decide_eq_true rfl], ?_⟩
      refine iteF' rfl ?_
      refine ⟨_, rfl, b, ys, rfl, (.inr hy), _, rfl, by omega, by omega, ?_⟩
      refine for_range (lo := 0) (n := ys.length) (fun i σ G => (∃ k : Option V, σ = [some (V.ref a), some (V.ref b), k]) ∧ G = H) ⟨⟨_, rfl⟩, rfl⟩ ?_ ?_
      · rintro i σ G hi ⟨⟨k, rfl⟩, rfl⟩
        obtain ⟨v, d, e1, e2, dv⟩ := dps_get hxs (i := i) (by omega)
        obtain ⟨u, d', e3, e4, du⟩ := dps_get hys (i := i) (by omega)
        have dd : d' = d := by rw [e2] at e4; exact (Option.some.inj e4).symm
        subst dd
        have ei : (0 : Int) + (i : Int) = ((i : Nat) : Int) := by omega
        have a1 : atI xs (0 + (i : Int)) = some v := by rw [ei]; exact atI_nat e1
        have a2 : atI ys (0 + (i : Int)) = some u := by rw [ei]; exact atI_nat e3
        refine ⟨_, rfl, _, rfl, (.inr (.inl ⟨a, xs, _, v, rfl, rfl, hx, a1, _, rfl, _, rfl, (.inr (.inl ⟨b, ys, _, u, rfl, rfl, hy, a2, ?_⟩))⟩))⟩
        refine ⟨m, rfl, v, u, rfl, .inl ⟨d', hl _ (List.mem_of_getElem? e2), dv, du⟩, ?_⟩
        refine ⟨_, rfl, ?_⟩
        refine iteF' rfl ?_
        exact ⟨⟨_, rfl⟩, rfl⟩
      · rintro σ G ⟨⟨k, rfl⟩, rfl⟩
        exact q
  · have lxy : xs.length = ys.length := (dps_len hxs).trans (dps_len hys).symm
    have ly := dps_len hys
    refine ⟨_, rfl, _, .ty "tuple", _, _, _, rfl, .ty _, .base (.lst hb), kit_ty (r := false) (by decide +kernel), _, rfl, iteF' rfl ?_⟩
    refine ⟨_, rfl, _, .ty "list", _, _, _, rfl, .ty _, .base (.lst hb), kit_ty (r := true) (by decide +kernel), _, rfl, iteT' rfl ?_⟩
    refine ⟨_, rfl, _, .ty "tuple", _, _, _, rfl, .ty _, .base (.lst ha), kit_ty (r := false) (by decide +kernel), _, rfl, _, .ty "tuple", _, _, _, rfl, .ty _, .base (.lst hb), kit_ty (r := false) (by decide +kernel), rfl, ?_⟩
    refine ⟨_, by rw [decide_eq_true rfl], ?_⟩
    refine iteF' rfl ?_
    refine ⟨_, rfl, _, .ty "list", _, _, _, rfl, .ty _, (.base (.lst ha)), kit_ty (r := true) (by decide +kernel), _, rfl, _, .ty "list", _, _, _, rfl, .ty _, (.base (.lst hb)), kit_ty (r := true) (by decide +kernel), rfl, ?_⟩
    refine ⟨_, by rw [decide_eq_true rfl], ?_⟩
    refine iteF' rfl ?_
    refine ⟨_, rfl, a, xs, rfl, (.inl (SqL.of ha)), _, rfl, b, ys, rfl, (.inl (SqL.of hb)), rfl, ?_⟩
    refine ⟨_, by rw [lxy, decide_eq_true rfl], ?_⟩
    refine iteF' rfl ?_
    refine ⟨_, rfl, b, ys, rfl, (.inl (SqL.of hb)), _, rfl, by omega, by omega, ?_⟩
    refine for_range (lo := 0) (n := ys.length) (fun i σ G => (∃ k : Option V, σ = [some (V.ref a), some (V.ref b), k]) ∧ G = H) ⟨⟨_, rfl⟩, rfl⟩ ?_ ?_
    · rintro i σ G hi ⟨⟨k, rfl⟩, rfl⟩
      obtain ⟨v, d, e1, e2, dv⟩ := dps_get hxs (i := i) (by omega)
      obtain ⟨u, d', e3, e4, du⟩ := dps_get hys (i := i) (by omega)
      have dd : d' = d := by rw [e2] at e4; exact (Option.some.inj e4).symm
      subst dd
      have ei : (0 : Int) + (i : Int) = ((i : Nat) : Int) := by omega
      have a1 : atI xs (0 + (i : Int)) = some v := by rw [ei]; exact atI_nat e1
      have a2 : atI ys (0 + (i : Int)) = some u := by rw [ei]; exact atI_nat e3
      refine ⟨_, rfl, _, rfl, (.inl ⟨a, xs, _, v, rfl, rfl, (SqL.of ha), a1, _, rfl, _, rfl, (.inl ⟨b, ys, _, u, rfl, rfl, (SqL.of hb), a2, ?_⟩)⟩)⟩
      refine ⟨m, rfl, v, u, rfl, .inl ⟨d', hl _ (List.mem_of_getElem? e2), dv, du⟩, ?_⟩
      refine ⟨_, rfl, ?_⟩
      refine iteF' rfl ?_
      exact ⟨⟨_, rfl⟩, rfl⟩
    · rintro σ G ⟨⟨k, rfl⟩, rfl⟩
      exact q
theorem ok_sames (F : Fn K mg "_law_same" s_law_same) (T : BlD mg) : ∀ n, Cal P w K mg base "_law_same" (n + 1) ["found", "due"] (spSameD K n)
  | 0 => same_step F T ((cal_no (P := P) (w := w) (base := base) F (ps := ["found", "due"]) (fun _ _ _ _ _ _ us hl => match us, hl with | [_, _], _ => rfl) ).imp (fun _ _ _ _ ⟨m, e, _⟩ => absurd e (Nat.succ_ne_zero m).symm))
  | n + 1 => same_step F T ((ok_sames F T n).imp (fun vs H Q E ⟨m, e, h⟩ => by have e' : n = m := by omega
                                                                               rw [e']; exact h))
end

end G0
namespace G0
open PySem PySem.Spec PyProof.Rows L2
/-! ### stamps -/
def StN (n : List Int) : Prop := n.length = 3 ∧ TS.Bd (10 ^ 43) n
def stD (n : List Int) : PyData := .tuple (n.map PyData.int)
inductive Sts (K : PySem.W.Frag) (H : Hp) : List V → List (List Int) → Prop
  | nil : Sts K H [] []
  | cons {x : V} {xs : List V} {n : List Int} {L : List (List Int)} : TupI K H x n → StN n → Sts K H xs L → Sts K H (x :: xs) (n :: L)
section
variable {K : PySem.W.Frag} {H H' : Hp}
theorem Sts.imp (c : ∀ a xs, SqT K H a xs → SqT K H' a xs) : ∀ {xs : List V} {L : List (List Int)}, Sts K H xs L → Sts K H' xs L
  | [], [], _ => .nil
  | _ :: _, _ :: _, .cons ⟨t, e, h⟩ s r => .cons ⟨t, e, c _ _ h⟩ s (Sts.imp c r)
theorem Sts.len : ∀ {xs : List V} {L : List (List Int)}, Sts K H xs L → xs.length = L.length
  | [], [], _ => rfl
  | _ :: _, _ :: _, .cons _ _ r => congrArg (· + 1) r.len
theorem Sts.app : ∀ {xs ys : List V} {L M : List (List Int)}, Sts K H xs L → Sts K H ys M → Sts K H (xs ++ ys) (L ++ M)
  | [], _, [], _, _, h => h
  | _ :: _, _, _ :: _, _, .cons a b r, h => .cons a b (r.app h)
theorem Sts.one {x : V} {n : List Int} (h : TupI K H x n) (s : StN n) : Sts K H [x] [n] := .cons h s .nil
theorem Sts.perm {xs ys : List V} (p : ys.Perm xs) : ∀ {L : List (List Int)}, Sts K H xs L → ∃ M, Sts K H ys M ∧ M.Perm L := by
  induction p with
  | nil => intro L h; cases h; exact ⟨[], .nil, List.Perm.refl _⟩
  | cons x _ ih =>
    intro L h
    cases h with
    | cons a b r =>
      obtain ⟨M, hm, hp⟩ := ih r
      exact ⟨_ :: M, .cons a b hm, hp.cons _⟩
  | swap x y l =>
    intro L h
    cases h with
    | cons a b r =>
      cases r with
      | cons a' b' r' => exact ⟨_, .cons a' b' (.cons a b r'), List.Perm.swap _ _ _⟩
  | trans _ _ ih1 ih2 =>
    intro L h
    obtain ⟨M, hm, hp⟩ := ih2 h
    obtain ⟨M', hm', hp'⟩ := ih1 hm
    exact ⟨M', hm', hp'.trans hp⟩
theorem Sts.tup : ∀ {xs : List V} {L : List (List Int)}, Sts K H xs L → ∀ x ∈ xs, ∃ n, n ∈ L ∧ TupI K H x n ∧ StN n
  | [], [], _, x, hx => absurd hx List.not_mem_nil
  | _ :: _, _ :: _, .cons a b r, x, hx => by
    rcases List.mem_cons.mp hx with rfl | h
    · exact ⟨_, List.mem_cons_self .., a, b⟩
    · obtain ⟨n, m, z⟩ := r.tup x h
      exact ⟨n, List.mem_cons_of_mem _ m, z⟩
theorem Sts.mem : ∀ {xs : List V} {L : List (List Int)}, Sts K H xs L → ∀ n ∈ L, ∃ x, x ∈ xs ∧ TupI K H x n ∧ StN n
  | [], [], _, n, hn => absurd hn List.not_mem_nil
  | _ :: _, _ :: _, .cons a b r, n, hn => by
    rcases List.mem_cons.mp hn with rfl | h
    · exact ⟨_, List.mem_cons_self .., a, b⟩
    · obtain ⟨x, m, z⟩ := r.mem n h
      exact ⟨x, List.mem_cons_of_mem _ m, z⟩
theorem Sts.st {xs : List V} {L : List (List Int)} (h : Sts K H xs L) : ∀ n ∈ L, StN n := fun n hn => let ⟨_, _, _, z⟩ := h.mem n hn; z
theorem Sts.up : ∀ {xs : List V} {L : List (List Int)}, Sts K H xs L → xs.Pairwise (fun x y => ∀ n m, TupI K H x n → TupI K H y m → TS.code (10 ^ 43) n ≤ TS.code (10 ^ 43) m) →
    L.Pairwise fun n m => TS.code (10 ^ 43) n ≤ TS.code (10 ^ 43) m
  | [], [], _, _ => .nil
  | _ :: _, _ :: _, .cons a b r, h => by
    rw [List.pairwise_cons] at h ⊢
    exact ⟨fun m hm => by
      obtain ⟨y, hy, ty, _⟩ := r.mem m hm
      exact h.1 y hy _ _ a ty, r.up h.2⟩
theorem dp_stamp {x : V} {n : List Int} (h : TupI K H x n) : Dp K H x (stD n) := by
  obtain ⟨t, rfl, h⟩ := h
  exact .tup h (dps_ints n)
theorem Sts.dps : ∀ {xs : List V} {L : List (List Int)}, Sts K H xs L → DpAll K H xs (L.map stD)
  | [], [], _ => .nil
  | _ :: _, _ :: _, .cons a _ r => .cons (dp_stamp a) r.dps
end
theorem code_inj {B : Int} : ∀ {n m : List Int}, n.length = m.length → TS.Bd B n → TS.Bd B m → TS.code B n = TS.code B m → n = m
  | [], [], _, _, _, _ => rfl
  | d :: r, e :: q, hl, hn, hm, h => by
    have hl' : r.length = q.length := by simpa using hl
    rcases Int.lt_trichotomy d e with c | c | c
    · have := TS.code_lt hl' hn.tail hm.tail c; omega
    · subst c
      have e2 : TS.code B r = TS.code B q := by
        have h' : d * B ^ r.length + TS.code B r = d * B ^ q.length + TS.code B q := h
        rw [hl'] at h'
        omega
      rw [code_inj hl' hn.tail hm.tail e2]
    · have := TS.code_lt hl'.symm hm.tail hn.tail c; omega
theorem same_sorted {L M : List (List Int)} (p : L.Perm M) (hL : ∀ n ∈ L, StN n) (a : L.Pairwise fun n m => TS.code (10 ^ 43) n ≤ TS.code (10 ^ 43) m)
    (b : M.Pairwise fun n m => TS.code (10 ^ 43) n ≤ TS.code (10 ^ 43) m) : L = M :=
  List.Perm.eq_of_pairwise (fun n m hn hm h1 h2 => by
    have sn := hL n hn
    have sm := hL m (p.mem_iff.mpr hm)
    exact code_inj (sn.1.trans sm.1.symm) sn.2 sm.2 (Int.le_antisymm h1 h2)) a b p
theorem eqv_ints : ∀ n : List Int, PyData.eqvAll (n.map PyData.int) (n.map PyData.int) = true
  | [] => by simp [PyData.eqvAll]
  | i :: r => by simp [PyData.eqvAll, PyData.eqv, eqv_ints r]
theorem eqv_st (n : List Int) : PyData.eqv (stD n) (stD n) = true := by simp [stD, PyData.eqv, eqv_ints n]
theorem eqv_sts : ∀ L : List (List Int), PyData.eqvAll (L.map stD) (L.map stD) = true
  | [] => by simp [PyData.eqvAll]
  | n :: L => by simp [PyData.eqvAll, eqv_st n, eqv_sts L]
theorem eqv_tups (L : List (List Int)) : PyData.eqv (.tuple (L.map stD)) (.tuple (L.map stD)) = true := by simp [PyData.eqv, eqv_sts L]
theorem lay_sts : ∀ L : List (List Int), PyData.canLayAll0 (L.map stD) = true
  | [] => by simp [PyData.canLayAll0]
  | n :: L => by simp [PyData.canLayAll0, PyData.canLay0, stD, lay_ints n, lay_sts L]
theorem deep_sts : ∀ L : List (List Int), PyData.depthAll (L.map stD) ≤ 1
  | [] => by simp [PyData.depthAll]
  | n :: L => by
    have := deep_sts L
    simp [PyData.depthAll, PyData.depth, stD, deep_ints n]
    omega
theorem shaped_st (n : List Int) : SeqAt.shaped (stD n) = true := by
  show ((stD n).canLay0 && decide ((stD n).depth ≤ 64)) = true
  simp [stD, PyData.canLay0, PyData.depth, lay_ints, deep_ints]
theorem shaped_tups (L : List (List Int)) : SeqAt.shaped (.tuple (L.map stD)) = true := by
  show ((PyData.tuple (L.map stD)).canLay0 && decide ((PyData.tuple (L.map stD)).depth ≤ 64)) = true
  have := deep_sts L
  simp [PyData.canLay0, PyData.depth, lay_sts]
  omega
theorem shaped_lsts (L : List (List Int)) : SeqAt.shaped (.list (L.map stD)) = true := by
  show ((PyData.list (L.map stD)).canLay0 && decide ((PyData.list (L.map stD)).depth ≤ 64)) = true
  have := deep_sts L
  simp [PyData.canLay0, PyData.depth, lay_sts]
  omega
theorem lv_st {n : List Int} {k : Nat} (h : n.length < 10000) : Lv (k + 1) (stD n) := .tup (by rw [List.length_map]; exact h) fun d hd => by
  obtain ⟨i, _, rfl⟩ := List.mem_map.mp hd
  exact .int i

end G0
namespace G0
open PySem PySem.Spec PyProof.Rows L2
/-! ### min(xs, default=None), xs a list of tuples of ints -/
section
variable {prog : Program} {w : World} {A : Around} {R : Result → Shared → Prop} {I : Addr} {fp wr : List Addr} {n : Nat} {P : Nat → Value → Prop} {St : Nat → Heap → Prop}
def CmpIn (prog : Program) (w : World) (A : Around) (h0 : Heap) (P : Nat → Value → Prop) (bt : Nat → Nat → Bool) : Prop :=
  ∀ i j vi vj (s : Shared) (Q : Value → Shared → Prop) (E : Value → Shared → Prop), (∀ b o, h0.get? b = some o → s.heap.get? b = some o) → P i vi → P j vj → Q (.bool (bt i j)) s → wpAny (model prog w) A (richCompare .Lt vi vj) Q E s
theorem min_loopK (W : Walks prog w A.in1 I fp wr n P St) (bt : Nat → Nat → Bool) (h0 : Heap) (kw : List (Str × Value)) (hcmp : CmpIn prog w A.in1 h0 P bt) (S : Addr) (hSf : S ∉ fp) (hw : ∀ b ∈ wr, h0.get? b = none) (hS0 : h0.get? S = none) :
    ∀ (k j : Nat) (s : Shared) (vb : Value) (c : Nat), n - (j + 1) = k → j + 1 ≤ n → St (j + 1) s.heap → P (argBest bt j) vb → (∀ b o, h0.get? b = some o → s.heap.get? b = some o) →
    s.heap.get? S = some { cls := .type "list", dict := none, data := .seq #[vb, vb] c, slots := #[] } →
    (∀ v h' tk, P (argBest bt (n - 1)) v → (∀ b o, b ∉ wr → b ≠ S → s.heap.get? b = some o → h'.get? b = some o) → R (.ok (.ret v)) { s with heap := h', toks := tk }) →
    codeAny (model prog w) A (.builtin "min.loop" ⟨[.ref I, .none, .ref S], kw⟩) R s := by
  have hSw : S ∉ wr := fun h => hSf (W.sub _ h)
  have hname : (toString "min" ++ toString ".loop" : String) = "min.loop" := by decide
  intro k
  induction k with
  | zero =>
    intro j s vb c hk hj hst hPb h0s hS hR
    have hin : j + 1 = n := by omega
    refine codeAny_builtin F.entry_min_loop ?_
    rw [Around.under_plainId F.plain_min_loop _]
    show wpAny _ A.in1 (seqItems? (.ref S) >>= _) _ _ s
    refine wpAny_bind (wpAny_seqItems hS rfl ?_)
    show wpAny _ A.in1 (tryCatch (pyNext (.ref I)) _ >>= _) _ _ s
    refine wpAny_bind (wpAny_tryCatch (W.done s _ _ (hin ▸ hst) fun h' tk hk' => ?_))
    have hS' := hk' S _ hSw hS
    show wpAny _ A.in1 (updateSeq S (fun _ => #[]) >>= _) _ _ _
    refine wpAny_bind ?_
    refine wpAny_updateSeq hS' rfl (wpAny_bind (wpAny_letGo (wpAny_pure ?_)))
    refine hR vb _ tk (by rw [← hin]; exact hPb) fun b o hbw hbS e => (Heap.get?_update_other _ _ (Ne.symm hbS)).trans (hk' b o hbw e)
  | succ k ih =>
    intro j s vb c hk hj hst hPb h0s hS hR
    have hlt : j + 1 < n := by omega
    refine codeAny_builtin F.entry_min_loop ?_
    rw [Around.under_plainId F.plain_min_loop _]
    show wpAny _ A.in1 (seqItems? (.ref S) >>= _) _ _ s
    refine wpAny_bind (wpAny_seqItems hS rfl ?_)
    show wpAny _ A.in1 (tryCatch (pyNext (.ref I)) _ >>= _) _ _ s
    refine wpAny_bind (wpAny_tryCatch (W.item (j + 1) s _ _ hlt hst fun v h' tk hP hst' hk' => ?_))
    have hS' := hk' S _ hSw hS
    have h0' : ∀ b o, h0.get? b = some o → h'.get? b = some o := fun b o e => hk' b o (fun m => by rw [hw b m] at e; cases e) (h0s b o e)
    show wpAny _ A.in1 (tryCatch (holding [v, v] (richCompare .Lt v vb >>= _)) _ >>= _) _ _ _
    refine wpAny_bind (wpAny_tryCatch (wpAny_holding (wpAny_bind (hcmp (j + 1) (argBest bt j) v vb _ _ _ h0' hP hPb ?_))))
    refine wpAny_bind (wpAny_holding (wpAny_truthy_bool ?_))
    refine wpAny_bind (wpAny_letGo (wpAny_pure ?_))
    have h0S : ∀ b o, h0.get? b = some o → S ≠ b := fun b o e z => by rw [← z, hS0] at e; cases e
    cases hb : bt (j + 1) (argBest bt j) with
    | true =>
      simp only [if_true]
      refine wpAny_bind ?_
      refine wpAny_updateSeq hS' rfl (wpAny_bind (wpAny_letGo ?_))
      rw [hname]
      refine wpAny_pure ⟨plainId_quiet F.plain_min_loop _, ih (j + 1) _ v _ (by omega) hlt (W.frame _ _ _ hst' fun b hbf o e => ?_) (by simp only [argBest, hb, if_true]; exact hP)
        (fun b o e => (Heap.get?_update_other _ _ (h0S b o e)).trans (h0' b o e)) (Heap.get?_update_self _ hS' rfl)
        fun v' h'' tk'' hP' hk'' => ?_⟩
      · exact (Heap.get?_update_other _ _ (fun h : S = b => hSf (by rw [h]; exact hbf))).trans e
      · exact hR v' h'' tk'' hP' fun b o hbw hbS e => hk'' b o hbw hbS ((Heap.get?_update_other _ _ (Ne.symm hbS)).trans (hk' b o hbw e))
    | false =>
      simp only [Bool.false_eq_true, if_false]
      refine wpAny_bind (wpAny_letGo ?_)
      rw [hname]
      refine wpAny_pure ⟨plainId_quiet F.plain_min_loop _, ih (j + 1) _ vb c (by omega) hlt hst' (by simp only [argBest, hb, Bool.false_eq_true, if_false]; exact hPb) h0' hS' fun v' h'' tk'' hP' hk'' => ?_⟩
      exact hR v' h'' tk'' hP' fun b o hbw hbS e => hk'' b o hbw hbS (hk' b o hbw e)
theorem min_firstK (W : Walks prog w A.in1 I fp wr n P St) (bt : Nat → Nat → Bool) (h0 : Heap) (kw : List (Str × Value)) (hcmp : CmpIn prog w A.in1 h0 P bt) (S : Addr) (hSf : S ∉ fp) (hw : ∀ b ∈ wr, h0.get? b = none) (hS0 : h0.get? S = none)
    (hn : 0 < n) {s : Shared} {c : Nat} (hst : St 0 s.heap) (h0s : ∀ b o, h0.get? b = some o → s.heap.get? b = some o)
    (hS : s.heap.get? S = some { cls := .type "list", dict := none, data := .seq #[] c, slots := #[] })
    (hR : ∀ v h' tk, P (argBest bt (n - 1)) v → (∀ b o, b ∉ wr → b ≠ S → s.heap.get? b = some o → h'.get? b = some o) → R (.ok (.ret v)) { s with heap := h', toks := tk }) :
    codeAny (model prog w) A (.builtin "min.loop" ⟨[.ref I, .none, .ref S], kw⟩) R s := by
  have hSw : S ∉ wr := fun h => hSf (W.sub _ h)
  have hname : (toString "min" ++ toString ".loop" : String) = "min.loop" := by decide
  refine codeAny_builtin F.entry_min_loop ?_
  rw [Around.under_plainId F.plain_min_loop _]
  show wpAny _ A.in1 (seqItems? (.ref S) >>= _) _ _ s
  refine wpAny_bind (wpAny_seqItems hS rfl ?_)
  show wpAny _ A.in1 (tryCatch (pyNext (.ref I)) _ >>= _) _ _ s
  refine wpAny_bind (wpAny_tryCatch (W.item 0 s _ _ hn hst fun v h' tk hP hst' hk' => ?_))
  have hS' := hk' S _ hSw hS
  show wpAny _ A.in1 (updateSeq S (fun _ => #[v, v]) >>= _) _ _ _
  refine wpAny_bind ?_
  refine wpAny_updateSeq hS' rfl ?_
  rw [hname]
  refine wpAny_pure ⟨plainId_quiet F.plain_min_loop _, min_loopK W bt h0 kw hcmp S hSf hw hS0 _ 0 _ v _ rfl hn (W.frame _ _ _ hst' fun b hbf o e => ?_) hP (fun b o e => ?_) (Heap.get?_update_self _ hS' rfl) fun v' h'' tk'' hP' hk'' => ?_⟩
  · exact (Heap.get?_update_other _ _ (fun h : S = b => hSf (by rw [h]; exact hbf))).trans e
  · exact (Heap.get?_update_other _ _ (fun z => by rw [← z, hS0] at e; cases e)).trans (hk' b o (fun m => by rw [hw b m] at e; cases e) (h0s b o e))
  · exact hR v' h'' tk'' hP' fun b o hbw hbS e => hk'' b o hbw hbS ((Heap.get?_update_other _ _ (Ne.symm hbS)).trans (hk' b o hbw e))
theorem min_noneK (W : Walks prog w A.in1 I fp wr n P St) (S : Addr) (hSf : S ∉ fp) {d : Value} (hn : n = 0) {s : Shared} {c : Nat} (hst : St 0 s.heap)
    (hS : s.heap.get? S = some { cls := .type "list", dict := none, data := .seq #[] c, slots := #[] })
    (hR : ∀ h' tk, (∀ b o, b ∉ wr → b ≠ S → s.heap.get? b = some o → h'.get? b = some o) → R (.ok (.ret d)) { s with heap := h', toks := tk }) :
    codeAny (model prog w) A (.builtin "min.loop" ⟨[.ref I, .none, .ref S], [("default", d)]⟩) R s := by
  have hSw : S ∉ wr := fun h => hSf (W.sub _ h)
  refine codeAny_builtin F.entry_min_loop ?_
  rw [Around.under_plainId F.plain_min_loop _]
  show wpAny _ A.in1 (seqItems? (.ref S) >>= _) _ _ s
  refine wpAny_bind (wpAny_seqItems hS rfl ?_)
  show wpAny _ A.in1 (tryCatch (pyNext (.ref I)) _ >>= _) _ _ s
  refine wpAny_bind (wpAny_tryCatch (W.done s _ _ (hn ▸ hst) fun h' tk hk' => ?_))
  refine wpAny_bind (wpAny_rule ?_)
  exact wpAny_pure (hR h' tk fun b o hbw _ e => hk' b o hbw e)
end
section
variable {prog : Program} {w : World} {A : Around} {E : Value → Shared → Prop} {s : Shared}
theorem tree_kw {id : String} {b : Builtin} {args : List Value} {kw : List (Str × Value)} {Q : Value → Shared → Prop} (hk : builtinKind id = none) (hp : plainId id = true)
    (hb : entryFor table id = some b) (ha : argsOk id ⟨args, kw⟩)
    (hc : wpAny (model prog w) A.in1 (b ⟨args, kw⟩) (fun fin s' => match fin with
      | .done f => (match (Except.ok f : Result) with | .ok (.ret v) => Q v s' | .ok _ => False | .error e => E e s')
      | .again c' => c'.quiet = true ∧ codeAny (model prog w) A c' (fun r s' => match r with | .ok (.ret v) => Q v s' | .ok _ => False | .error e => E e s') s') E s) :
    wpAny (model prog w) A (call (.builtin id) args kw) Q E s := by
  refine wpAny_call (codeAny_call_builtin hp hb ?_)
  simp only [checkBuiltinCall, hk]
  cases hsig : Manifest.signature? id with
  | none => exact wpAny_pure hc
  | some sig =>
    have ha' : Bind.checkArgs id sig ⟨args, kw⟩ = pure () := by simpa only [argsOk, hsig] using ha
    simp only [ha']
    exact wpAny_pure hc
theorem args_min_d (a d : Value) : argsOk "min" ⟨[a], [("default", d)]⟩ := by unfold argsOk; kernel_rfl
theorem min_default {a : Addr} {d : Value} {its : List Value} {bt : Nat → Nat → Bool} {Q : Value → Shared → Prop} (hh : A.handled = none) (hl : s.heap.IsList a its.toArray)
    (hcmp : CmpIn prog w A.in1 s.heap (fun i v => its.toArray[i]? = some v) bt)
    (h0 : its = [] → ∀ h' tk, (∀ b o, s.heap.get? b = some o → h'.get? b = some o) → Q d { s with heap := h', toks := tk })
    (h1 : its ≠ [] → ∀ v h' tk, its.toArray[argBest bt (its.toArray.size - 1)]? = some v → (∀ b o, s.heap.get? b = some o → h'.get? b = some o) → Q v { s with heap := h', toks := tk }) :
    wpAny (model prog w) A (call (.builtin "min") [.ref a] [("default", d)]) Q E s := by
  have hname : (toString "min" ++ toString ".loop" : String) = "min.loop" := by decide
  have hlt : a < s.heap.objs.size := by obtain ⟨o, e, _⟩ := hl; exact Heap.lt_size e
  refine tree_kw F.kind_min F.plain_min F.entry_min (args_min_d _ _) ?_
  show wpAny _ A.in1 (Builtin.Builtins.bindParams "min" ["key", "default"] 0 ⟨[], [("default", d)]⟩ >>= _) _ _ s
  refine wpAny_bind (wpAny_of_eq (show Builtin.Builtins.bindParams "min" ["key", "default"] 0 ⟨[], [("default", d)]⟩ = pure [none, some d] from by kernel_rfl) ?_)
  refine wpAny_bind (wpAny_pure ?_)
  refine wpAny_bind (wpAny_pyIter_list hl ?_)
  refine wpAny_bind (wpAny_newObj_type ?_)
  rw [hname]
  have W := Walks.list (prog := prog) (w := w) (A := A.in1) hh s.heap.objs.size a (Nat.ne_of_lt hlt) its.toArray
  have hS : (s.heap.push { cls := .type "list_iterator", data := .fields #[.ref a, .int 0 0] }).objs.size = s.heap.objs.size + 1 := Heap.size_push _ _
  have hit : (s.heap.push { cls := .type "list_iterator", data := .fields #[.ref a, .int 0 0] }).IsListIter s.heap.objs.size a 0 := ⟨_, Heap.get?_push_size _ rfl, rfl, rfl⟩
  have hst : ((s.heap.push { cls := .type "list_iterator", data := .fields #[.ref a, .int 0 0] }).push { cls := .type "list", data := .seq ([] : List Value).toArray }).IsListIter s.heap.objs.size a 0 ∧
      ((s.heap.push { cls := .type "list_iterator", data := .fields #[.ref a, .int 0 0] }).push { cls := .type "list", data := .seq ([] : List Value).toArray }).IsList a its.toArray :=
    ⟨hit.at fun o e => Heap.get?_push_of_some _ e, hl.at fun o e => Heap.get?_push_of_some _ (Heap.get?_push_of_some _ e)⟩
  have keep : ∀ b o, s.heap.get? b = some o → ((s.heap.push { cls := .type "list_iterator", data := .fields #[.ref a, .int 0 0] }).push { cls := .type "list", data := .seq ([] : List Value).toArray }).get? b = some o :=
    fun b o e => Heap.get?_push_of_some _ (Heap.get?_push_of_some _ e)
  have hSf : (s.heap.push { cls := .type "list_iterator", data := .fields #[.ref a, .int 0 0] }).objs.size ∉ [s.heap.objs.size, a] := by
    rw [hS]
    simp only [List.mem_cons, List.not_mem_nil, or_false, not_or]
    exact ⟨Nat.succ_ne_self _, Nat.ne_of_gt (Nat.lt_succ_of_lt hlt)⟩
  have none_at : ∀ b, s.heap.objs.size ≤ b → s.heap.get? b = none := fun b hb => by
    cases e : s.heap.get? b with
    | none => rfl
    | some o => exact absurd (Heap.lt_size e) (Nat.not_lt.mpr hb)
  have back : ∀ h' : Heap, (∀ b o, b ∉ [s.heap.objs.size] → b ≠ (s.heap.push { cls := .type "list_iterator", data := .fields #[.ref a, .int 0 0] }).objs.size →
      ((s.heap.push { cls := .type "list_iterator", data := .fields #[.ref a, .int 0 0] }).push { cls := .type "list", data := .seq ([] : List Value).toArray }).get? b = some o → h'.get? b = some o) →
      ∀ b o, s.heap.get? b = some o → h'.get? b = some o := fun h' hk b o e => by
    have lb := Heap.lt_size e
    exact hk b o (by simp only [List.mem_cons, List.not_mem_nil, or_false]; exact Nat.ne_of_lt lb) (by rw [hS]; exact Nat.ne_of_lt (Nat.lt_succ_of_lt lb)) (keep b o e)
  by_cases he : its = []
  · exact wpAny_pure ⟨plainId_quiet F.plain_min_loop _, min_noneK W _ hSf (by rw [he]; rfl) hst (Heap.get?_push_size _ rfl) fun h' tk hk => h0 he _ _ (back h' hk)⟩
  · refine wpAny_pure ⟨plainId_quiet F.plain_min_loop _, min_firstK W bt s.heap _ hcmp _ hSf (fun b hb => ?_) (none_at _ (by rw [hS]; omega)) ?_ hst keep (Heap.get?_push_size _ rfl) fun v h' tk hP hk => h1 he v _ _ hP (back h' hk)⟩
    · rw [List.mem_singleton.mp hb]; exact none_at _ (Nat.le_refl _)
    · rw [List.size_toArray]; exact List.length_pos_iff.mpr he
theorem argBest_le {f : Nat → Int} : ∀ k, argBest (fun i j => decide (f i < f j)) k ≤ k ∧ ∀ j, j ≤ k → f (argBest (fun i j => decide (f i < f j)) k) ≤ f j
  | 0 => ⟨Nat.le_refl _, fun j hj => by rw [Nat.le_zero.mp hj]; exact Int.le_refl _⟩
  | k + 1 => by
    obtain ⟨h1, h2⟩ := argBest_le (f := f) k
    by_cases c : f (k + 1) < f (argBest (fun i j => decide (f i < f j)) k)
    · have e : argBest (fun i j => decide (f i < f j)) (k + 1) = k + 1 := by simp [argBest, c]
      rw [e]
      refine ⟨Nat.le_refl _, fun j hj => ?_⟩
      by_cases z : j = k + 1
      · rw [z]; exact Int.le_refl _
      · have := h2 j (by omega); omega
    · have e : argBest (fun i j => decide (f i < f j)) (k + 1) = argBest (fun i j => decide (f i < f j)) k := by simp [argBest, c]
      rw [e]
      refine ⟨Nat.le_succ_of_le h1, fun j hj => ?_⟩
      by_cases z : j = k + 1
      · rw [z]; omega
      · exact h2 j (by omega)
theorem lex_code {B : Int} : ∀ {n m : List Int}, n.length = m.length → TS.Bd B n → TS.Bd B m → HT.lexLt n m = decide (TS.code B n < TS.code B m)
  | [], [], _, _, _ => by simp [HT.lexLt, TS.code]
  | d :: r, e :: q, hl, hn, hm => by
    have hl' : r.length = q.length := by simpa using hl
    show (if d = e then HT.lexLt r q else decide (d < e)) = _
    by_cases c : d = e
    · subst c
      rw [if_pos rfl, lex_code hl' hn.tail hm.tail]
      exact decide_eq_decide.mpr (TS.code_same hl').symm
    · rw [if_neg c]
      refine decide_eq_decide.mpr ⟨fun x => TS.code_lt hl' hn.tail hm.tail x, fun x => ?_⟩
      rcases Int.lt_trichotomy d e with y | y | y
      · exact y
      · exact absurd y c
      · have := TS.code_lt hl'.symm hm.tail hn.tail y
        omega
end
def rMinD (K : PySem.W.Frag) : List V → List V → Hp → VK → Prop := fun xs zs H Q => ∃ (a : Addr) (vs : List V) (L : List (List Int)), xs = [.ref a] ∧ zs = [.non] ∧ SqL K H a vs ∧ Sts K H vs L ∧ (L = [] → Q .non H) ∧
  ∀ x n, x ∈ vs → n ∈ L → TupI K H x n → (∀ m ∈ L, TS.code (10 ^ 43) n ≤ TS.code (10 ^ 43) m) → Q x H
theorem Sts.at {K : PySem.W.Frag} {H : Hp} : ∀ {xs : List V} {L : List (List Int)}, Sts K H xs L → ∀ {i : Nat} {x : V}, xs[i]? = some x → ∃ n, L[i]? = some n ∧ TupI K H x n ∧ StN n
  | [], [], _, i, x, e => by simp at e
  | v :: xs, n :: L, .cons a b r, i, x, e => by
    cases i with
    | zero => simp at e; subst e; exact ⟨n, rfl, a, b⟩
    | succ i => exact r.at (by simpa using e)
theorem vals_at : ∀ {xs : List V} {us : List Value}, Vals xs us → ∀ {i : Nat} {u : Value}, us[i]? = some u → ∃ x, xs[i]? = some x ∧ RelV x u
  | [], [], .nil, i, u, e => by simp at e
  | x :: xs, u :: us, .cons r t, i, w, e => by
    cases i with
    | zero => simp at e; subst e; exact ⟨x, rfl, r⟩
    | succ i => exact vals_at t (by simpa using e)
theorem cr_minD {X : Cx} (hc : X.calm = true) (hu : X.A.units + 64 < cLine) : CallRK X (.builtin "min") ["default"] (rMinD X.K) := by
  intro pins s σ H xs zs us ws Q I r rz h
  obtain ⟨a, vs, L, rfl, rfl, hs, hL, q0, q1⟩ := h
  obtain ⟨its, rv, hl, _⟩ := I.list hs
  rw [Vals.ref1 r]
  obtain ⟨z, rfl, ez⟩ := vals1 rz
  obtain rfl : z = Value.none := ez
  have lv := rv.length
  have lL := hL.len
  have at_ : ∀ i v, its.toArray[i]? = some v → ∃ x n, vs[i]? = some x ∧ RelV x v ∧ L[i]? = some n ∧ TupI X.K H x n ∧ StN n := fun i v e => by
    obtain ⟨x, ex, rx⟩ := vals_at rv (i := i) (u := v) (by rw [List.getElem?_toArray] at e; exact e)
    obtain ⟨n, en, tn, sn⟩ := hL.at ex
    exact ⟨x, n, ex, rx, en, tn, sn⟩
  have getL : ∀ {i : Nat} {n : List Int}, L[i]? = some n → L.getD i [] = n := fun e => by rw [List.getD_eq_getElem?_getD, e]; rfl
  show wpAny _ _ (call (.builtin "min") [.ref a] [("default", Value.none)]) _ _ s
  refine min_default (bt := fun i j => decide (TS.code (10 ^ 43) (L.getD i []) < TS.code (10 ^ 43) (L.getD j []))) (I.ok.hd hc) hl.isList (fun i j vi vj s' Q' E' keep hi hj hQ => ?_) (fun e h' tk hk => ?_) (fun e v h' tk hv hk => ?_)
  · obtain ⟨xi, ni, e1, r1, e2, ⟨ti, f1, t1⟩, s1⟩ := at_ i vi hi
    obtain ⟨xj, nj, e3, r3, e4, ⟨tj, f3, t3⟩, s3⟩ := at_ j vj hj
    subst f1; subst f3
    obtain rfl : vi = Value.ref ti := r1
    obtain rfl : vj = Value.ref tj := r3
    have hQ : Q' (Value.bool (decide (TS.code (10 ^ 43) (L.getD i []) < TS.code (10 ^ 43) (L.getD j [])))) s' := hQ
    rw [getL e2, getL e4, ← lex_code (s1.1.trans s3.1.symm) s1.2 s3.2] at hQ
    obtain ⟨a1, y1, g1, ⟨o1, k1, c1, m1⟩, i1⟩ := tupI_raw I t1
    obtain ⟨a3, y3, g3, ⟨o3, k3, c3, m3⟩, i3⟩ := tupI_raw I t3
    cases g1; cases g3
    exact HT.lt_tupInts ⟨o1, keep _ _ k1, c1, m1⟩ ⟨o3, keep _ _ k3, c3, m3⟩ i1 i3 (by show X.A.units + 1 < cLine; omega) hQ
  · have l0 : L = [] := List.eq_nil_of_length_eq_zero (by rw [← lL, lv, e]; rfl)
    exact ⟨.non, H, I.kept hk, rfl, q0 l0⟩
  · obtain ⟨x, n, ex, rx, en, tn, sn⟩ := at_ _ v hv
    refine ⟨x, H, I.kept hk, rx, q1 x n (List.mem_of_getElem? ex) (List.mem_of_getElem? en) tn fun m hm => ?_⟩
    obtain ⟨b1, b2⟩ := argBest_le (f := fun i => TS.code (10 ^ 43) (L.getD i [])) (its.toArray.size - 1)
    obtain ⟨j, hj, ej⟩ := List.getElem_of_mem hm
    have := b2 j (by rw [List.size_toArray]; omega)
    have gm : L.getD j [] = m := getL (by rw [List.getElem?_eq_getElem hj, ej])
    have gn : L.getD (argBest (fun i j => decide (TS.code (10 ^ 43) (L.getD i []) < TS.code (10 ^ 43) (L.getD j []))) (its.toArray.size - 1)) [] = n := getL en
    rw [gm, gn] at this
    exact this

end G0
namespace G0
open PySem PySem.Spec PyProof.Rows L2
/-! ### Desk -/
def deskF (h q : V) (b : Bool) : List (Str × V) := [("holder", h), ("queue", q), ("called", .bl b)]
theorem n_qh : ¬ (("queue" : Str) = "holder") := by decide +kernel
theorem n_ch : ¬ (("called" : Str) = "holder") := by decide +kernel
theorem n_cq : ¬ (("called" : Str) = "queue") := by decide +kernel
theorem deskF_holder (h q : V) (b : Bool) : (deskF h q b).lookup ("holder" : Str) = some h := by unfold deskF; rw [List.lookup_cons_self]
theorem deskF_queue (h q : V) (b : Bool) : (deskF h q b).lookup ("queue" : Str) = some q := by
  unfold deskF; rw [List.lookup_cons, beq_false_of_ne n_qh]; simp only []; rw [List.lookup_cons_self]
theorem deskF_called (h q : V) (b : Bool) : (deskF h q b).lookup ("called" : Str) = some (.bl b) := by
  unfold deskF; rw [List.lookup_cons, beq_false_of_ne n_ch]; simp only []; rw [List.lookup_cons, beq_false_of_ne n_cq]; simp only []; rw [List.lookup_cons_self]
theorem deskF_no (h q : V) (b : Bool) {x : Str} (h1 : x ≠ ("holder" : Str)) (h2 : x ≠ ("queue" : Str)) (h3 : x ≠ ("called" : Str)) : (deskF h q b).lookup x = none := by
  unfold deskF
  rw [List.lookup_cons, beq_false_of_ne h1]; simp only []
  rw [List.lookup_cons, beq_false_of_ne h2]; simp only []
  rw [List.lookup_cons, beq_false_of_ne h3]; rfl
theorem deskF_putH (h q u : V) (b : Bool) : putF "holder" u (deskF h q b) = deskF u q b := by
  unfold deskF
  show (if ("holder" : Str) = "holder" then _ else _) = _
  rw [if_pos rfl]
theorem deskF_putQ (h q u : V) (b : Bool) : putF "queue" u (deskF h q b) = deskF h u b := by
  unfold deskF
  show (if ("holder" : Str) = "queue" then _ else (("holder" : Str), h) :: (if ("queue" : Str) = "queue" then _ else _)) = _
  rw [if_neg (fun z => n_qh z.symm), if_pos rfl]
theorem deskF_putC (h q : V) (b c : Bool) : putF "called" (.bl c) (deskF h q b) = deskF h q c := by
  unfold deskF
  show (if ("holder" : Str) = "called" then _ else (("holder" : Str), h) :: (if ("queue" : Str) = "called" then _ else (("queue" : Str), q) :: (if ("called" : Str) = "called" then _ else _))) = _
  rw [if_neg (fun z => n_ch z.symm), if_neg (fun z => n_cq z.symm), if_pos rfl]
theorem deskF_made (q : V) : putF "called" (.bl false) (putF "queue" q (putF "holder" .non [])) = deskF .non q false := by
  show putF "called" (.bl false) (if ("holder" : Str) = "queue" then _ else (("holder" : Str), V.non) :: putF "queue" q []) = _
  rw [if_neg (fun z => n_qh z.symm)]
  show (if ("holder" : Str) = "called" then _ else (("holder" : Str), V.non) :: (if ("queue" : Str) = "called" then _ else (("queue" : Str), q) :: putF "called" (.bl false) [])) = _
  rw [if_neg (fun z => n_ch z.symm), if_neg (fun z => n_cq z.symm)]
  rfl
structure DeskT (K : PySem.W.Frag) (mg : Str → Option Value) (C : Addr) : Prop where
  cl : Cls K C
  nH : NoAttr K C "holder"
  nQ : NoAttr K C "queue"
  nC : NoAttr K C "called"
  mgC : mg "Desk" = some (.ref C)
section
variable {P : Program} {w : World} {K : PySem.W.Frag} {mg : Str → Option Value} {base : Heap} {C f : Addr} {fd : FuncData}
/-- what a tuple holds stays where an object alone changes -/
theorem sqt_chgI {H H' : Hp} {p D dx : Addr} {fs : List (Str × V)} (hp : H p = some (.ins D dx fs)) (c : Chg p H H') {a : Addr} {xs : List V} (h : SqT K H a xs) : SqT K H' a xs := by
  rcases h with (h | ⟨o, h⟩) | h
  · exact .inl (.inl (c _ _ (ne_of h hp (by intro z; cases z)) h))
  · exact .inl (.inr ⟨o, c _ _ (ne_of h hp (by intro z; cases z)) h⟩)
  · exact .inr h
/-- any slice of a tuple -/
theorem sl_anyk {H : Hp} {a : Addr} {xs : List V} {lo hi : Option Int} {Q : VK} (h : SqT K H a xs) (q : ∀ r H', Same H H' → SqT K H' r (cutV xs lo hi) → Q (.ref r) H') : rSlA K (.ref a) lo hi H Q := by
  refine ⟨a, xs, rfl, h, fun ⟨e1, e2⟩ => ?_, fun _ r hr => q r _ (same_upd hr) (SqT.of upd_same)⟩
  refine q a H (Same.refl H) ?_
  unfold cutV
  rw [e1, e2, List.drop_zero, Nat.sub_zero, List.take_length]
  exact h
theorem sl_nonek {σ : L2.St} {H : Hp} {a : Addr} {xs : List V} {lo : Option Int} {Q : VK} (h : SqT K H a xs) (q : ∀ r H', Same H H' → SqT K H' r (cutV xs lo none) → Q (.ref r) H') :
    tNoPart σ H fun u H3 => rSlA K (.ref a) lo u H3 Q := sl_anyk h q
/-- any two tuples together -/
theorem cat_anyk {H : Hp} {a b : Addr} {xs ys : List V} {Q : VK} (h1 : SqT K H a xs) (h2 : SqT K H b ys) (l : xs.length + ys.length ≤ 10000)
    (q : ∀ r H', Same H H' → SqT K H' r (xs ++ ys) → Q (.ref r) H') : rCatA K (.ref a) (.ref b) H Q := by
  refine ⟨a, b, xs, ys, rfl, rfl, h1, h2, Nat.le_trans l (by decide), fun e => ?_, fun _ e => ?_, fun _ _ r hr => q r _ (same_upd hr) (SqT.of upd_same)⟩
  · subst e
    exact q b H (Same.refl H) h2
  · subst e
    exact q a H (Same.refl H) (by rw [List.append_nil]; exact h1)
theorem cut1 (x : V) (r : List V) : cutV (x :: r) (some 1) none = r := by
  unfold cutV HT.sIx
  simp
def spDInit (C : Addr) : Sp := fun vs H Q _ => ∃ (p dx : Addr), vs = [.ref p] ∧ H p = some (.ins C dx []) ∧
  ∀ q H', H q = none → H' q = some (.tup []) → H' p = some (.ins C dx (deskF .non (.ref q) false)) → Chg p H H' → Q .non H'
theorem sc_Desk__init : FnScope ["self"] ["self"] (defScope s_Desk__init) :=
  ⟨rfl, rfl, rfl, by decide +kernel, rfl, by decide +kernel, by decide +kernel⟩
theorem ok_dinit (F : Fun K "__init__" "Desk.__init__" s_Desk__init f fd) (S : DeskT K mg C) : FnOk P w K mg base CX0 1 f fd ["self"] (spDInit C) := by
  refine F.ok sc_Desk__init (fun vs H Q E h => ?_) (fun cdv A outer s H vs Q E hr h => ?_)
  · obtain ⟨p, dx, rfl, _⟩ := h
    rfl
  obtain ⟨p, dx, rfl, hp, q⟩ := h
  refine ⟨_, (pss_cons (ps_fld (pv 0) pe_non rfl)
    (pss_cons (ps_fld (pv 0) (pe_tup pa_nil) rfl)
    (pss_one (ps_fld (pv 0) pe_bl rfl)))), ?_⟩
  refine ⟨_, rfl, p, C, dx, _, rfl, hp, S.cl, S.nH, (by show 0 < 1000; decide), ?_⟩
  refine ⟨Nat.zero_le _, fun e he => ?_⟩
  have pe : p ≠ e := by intro z; rw [z, upd_same] at he; cases he
  have he0 : H e = none := by rw [upd_ne pe.symm] at he; exact he
  refine ⟨_, rfl, p, C, dx, _, rfl, by rw [upd_ne pe, upd_same], S.cl, S.nQ, (by show 1 < 1000; decide), ?_⟩
  refine ⟨_, rfl, p, C, dx, _, rfl, upd_same, S.cl, S.nC, (by show 2 < 1000; decide), ?_⟩
  rw [deskF_made]
  refine q e _ he0 ?_ upd_same ?_
  · rw [upd_ne pe.symm, upd_ne pe.symm, upd_same]
  · intro b o n h
    rw [upd_ne n, upd_ne n, upd_ne (ne_of_none h he0), upd_ne n]
    exact h
def spDLen (C : Addr) : Sp := fun vs H Q _ => ∃ (p dx q : Addr) (h : V) (b : Bool) (xs : List V), vs = [.ref p] ∧ H p = some (.ins C dx (deskF h (.ref q) b)) ∧ SqT K H q xs ∧ Q (.int xs.length) H
theorem sc_Desk__len : FnScope ["self"] ["self"] (defScope s_Desk__len) :=
  ⟨rfl, rfl, rfl, by decide +kernel, rfl, by decide +kernel, by decide +kernel⟩
theorem ok_dlen (F : Fun K "__len__" "Desk.__len__" s_Desk__len f fd) (T : BlD mg) (S : DeskT K mg C) : FnOk P w K mg base CX0 1 f fd ["self"] (spDLen (K := K) C) := by
  refine F.ok sc_Desk__len (fun vs H Q E h => ?_) (fun cdv A outer s H vs Q E hr h => ?_)
  · obtain ⟨p, dx, q, h, b, xs, rfl, _⟩ := h
    rfl
  obtain ⟨p, dx, qa, h, b, xs, rfl, hp, hq, q⟩ := h
  refine ⟨_, (pss_one (ps_ret (pe_callB call_len_seq (by rfl) T.len (by decide +kernel) (pa_cons (pe_fld (pv 0) (by rfl)) pa_nil)))), ?_⟩
  exact ⟨_, rfl, p, C, dx, _, _, rfl, hp, S.cl, S.nQ, deskF_queue _ _ _, qa, xs, rfl, .inr hq, q⟩
/-- the free vote -/
def spGive (K : PySem.W.Frag) (C : Addr) : Sp := fun vs H Q _ => ∃ (p dx qa : Addr) (h : V) (b : Bool) (xs : List V), vs = [.ref p] ∧ H p = some (.ins C dx (deskF h (.ref qa) b)) ∧ SqT K H qa xs ∧
  ((((∃ a, h = .ref a) ∨ (h = .non ∧ xs = [])) ∧ ∀ l, H l = none → Q (.ref l) (upd H l (.lst []))) ∨
    (h = .non ∧ ∃ x r, xs = x :: r ∧ xs.length < 10000 ∧ ∀ l t q' H', H l = none → H' l = some (.lst [.ref t]) → H' t = some (.tup [.str "vote", x]) → SqT K H' q' r → H' p = some (.ins C dx (deskF x (.ref q') false)) →
      Chg p H H' → Q (.ref l) H'))
theorem sc_Desk_give_the_free_vote : FnScope ["self"] ["self"] (defScope s_Desk_give_the_free_vote) :=
  ⟨rfl, rfl, rfl, by decide +kernel, rfl, by decide +kernel, by decide +kernel⟩
theorem ok_give (F : Fun K "_give_the_free_vote" "Desk._give_the_free_vote" s_Desk_give_the_free_vote f fd) (T : BlD mg) (S : DeskT K mg C) : FnOk P w K mg base CX0 1 f fd ["self"] (spGive K C) := by
  refine F.ok sc_Desk_give_the_free_vote (fun vs H Q E h => ?_) (fun cdv A outer s H vs Q E hr h => ?_)
  · obtain ⟨p, dx, qa, h, b, xs, rfl, _⟩ := h
    rfl
  obtain ⟨p, dx, qa, h, b, xs, rfl, hp, hq, two⟩ := h
  refine ⟨_, (pss_cons (ps_if (PW.pt (pw_or (pt_cmpR op_notN (pe_fld (pv 0) (by rfl)) pe_non (nomark _)) (pw_or1 (pt_cmpR op_eq (pe_callB call_len_seq (by rfl) T.len (by decide +kernel) (pa_cons (pe_fld (pv 0) (by rfl)) pa_nil)) pe_int (nomark _)))))
    (pss_one (ps_ret (pe_lst pa_nil)))
    pss_nil)
    (pss_cons (ps_fld (pv 0) (pe_ix ix_tup (pe_fld (pv 0) (by rfl)) pe_int (fun _ _ => rfl)) rfl)
    (pss_cons (ps_fld (pv 0) (pe_slice sl_tupA (pe_fld (pv 0) (by rfl)) (po_some pe_int) po_none) rfl)
    (pss_cons (ps_fld (pv 0) pe_bl rfl)
    (pss_one (ps_ret (pe_lst (pa_cons (pe_tup (pa_cons pe_str (pa_cons (pe_fld (pv 0) (by rfl)) pa_nil))) pa_nil)))))))), ?_⟩
  refine ⟨_, rfl, p, C, dx, _, _, rfl, hp, S.cl, S.nH, deskF_holder _ _ _, ?_⟩
  rcases two with ⟨hh, q⟩ | ⟨rfl, x, r, rfl, sm, q⟩
  · rcases hh with ⟨a, rfl⟩ | ⟨rfl, rfl⟩
    · refine ⟨rfl, _, rfl, iteT' (by simp) ?_⟩
      refine iteT ?_
      exact ⟨Nat.zero_le _, q⟩
    · refine ⟨rfl, _, rfl, iteF' (by simp) ?_⟩
      refine ⟨_, rfl, p, C, dx, _, _, rfl, hp, S.cl, S.nQ, deskF_queue _ _ _, qa, [], rfl, .inr hq, rfl, _, rfl, ?_⟩
      refine iteT' (by simp) ?_
      exact ⟨Nat.zero_le _, q⟩
  · refine ⟨rfl, _, rfl, iteF' (by simp) ?_⟩
    refine ⟨_, rfl, p, C, dx, _, _, rfl, hp, S.cl, S.nQ, deskF_queue _ _ _, qa, _, rfl, .inr hq, rfl, _, rfl, ?_⟩
    refine iteF' (by simp; omega) ?_
    refine ⟨_, rfl, p, C, dx, _, _, rfl, hp, S.cl, S.nQ, deskF_queue _ _ _, qa, _, _, _, rfl, rfl, hq, (show atI (x :: r) ((0 : Nat) : Int) = some x from atI_nat rfl), _, rfl, p, C, dx, _, rfl, hp, S.cl, S.nH, (by show 3 < 1000; decide), ?_⟩
    rw [deskF_putH]
    have c1 : Chg p H (upd H p (.ins C dx (deskF x (.ref qa) b))) := Chg.self
    have hq1 := sqt_chgI hp c1 hq
    refine ⟨_, rfl, p, C, dx, _, _, rfl, upd_same, S.cl, S.nQ, deskF_queue _ _ _, _, rfl, sl_nonek hq1 fun q' G s2 hq2 => ?_⟩
    rw [cut1] at hq2
    have hp2 := s2 _ _ (upd_same (H := H) (a := p))
    refine ⟨_, rfl, p, C, dx, _, rfl, hp2, S.cl, S.nQ, (by show 3 < 1000; decide), ?_⟩
    rw [deskF_putQ]
    refine ⟨_, rfl, p, C, dx, _, rfl, upd_same, S.cl, S.nC, (by show 3 < 1000; decide), ?_⟩
    rw [deskF_putC, upd_upd]
    refine ⟨_, rfl, p, C, dx, _, _, rfl, upd_same, S.cl, S.nH, deskF_holder _ _ _, by show 2 ≤ sizeLine; decide, ?_⟩
    intro t ht
    refine ⟨by show 1 ≤ sizeLine; decide, ?_⟩
    intro l hl
    have hp3 : upd G p (.ins C dx (deskF x (.ref q') false)) p = some (.ins C dx (deskF x (.ref q') false)) := upd_same
    have cG : Chg p H (upd G p (.ins C dx (deskF x (.ref q') false))) := fun b o n e => by rw [upd_ne n]; exact s2 _ _ (c1 _ _ n e)
    have hq3 := sqt_chgI hp2 (Chg.self (o := .ins C dx (deskF x (.ref q') false))) hq2
    have cT := cG.new (o := .tup [.str "vote", x]) ht
    have pl : l ≠ p := by intro z; rw [z, (same_upd ht) _ _ hp3] at hl; cases hl
    refine q l t q' _ (cT.back hl pl) upd_same ((same_upd hl) _ _ upd_same) (sqt_same ((same_upd ht).trans (same_upd hl)) hq3) (((same_upd ht).trans (same_upd hl)) _ _ hp3) (cT.new hl)
end

end G0
namespace G0
open PySem PySem.Spec PyProof.Rows L2
section
variable {P : Program} {w : World} {K : PySem.W.Frag} {mg : Str → Option Value} {base : Heap} {C f : Addr} {fd : FuncData}
def Up (M : List (List Int)) : Prop := M.Pairwise fun n m => TS.code (10 ^ 43) n ≤ TS.code (10 ^ 43) m
/-- a method of the class at C -/
def Me (P : Program) (w : World) (K : PySem.W.Frag) (mg : Str → Option Value) (base : Heap) (C : Addr) (x : Str) (k : Nat) (ps : List Str) (sp : Sp) : Prop :=
  ∃ f fd, FnOk P w K mg base CX0 k f fd ps sp ∧ Binds K fd ps [] ∧ Meth K C x f
/-! ### take_ask -/
def spAsk (K : PySem.W.Frag) (C : Addr) : Sp := fun vs H Q _ => ∃ (p dx qa st : Addr) (h : V) (b : Bool) (xs : List V) (L : List (List Int)) (n : List Int), vs = [.ref p, .ref st] ∧
  H p = some (.ins C dx (deskF h (.ref qa) b)) ∧ SqT K H qa xs ∧ Sts K H xs L ∧ TupI K H (.ref st) n ∧ StN n ∧ L.length < 63 ∧
  ((∃ hh m, h = .ref hh ∧ TupI K H (.ref hh) m ∧ StN m ∧ ∀ l q' H' ys M, H l = none → SqT K H' q' ys → Sts K H' ys M → M.Perm (L ++ [n]) → Up M → Chg p H H' →
      (if (HT.lexLt n m && !b) = true then (∃ t, H' l = some (.lst [.ref t]) ∧ H' t = some (.tup [.str "back", .ref hh]) ∧ H' p = some (.ins C dx (deskF (.ref hh) (.ref q') true)))
        else (H' l = some (.lst []) ∧ H' p = some (.ins C dx (deskF (.ref hh) (.ref q') b)))) → Q (.ref l) H') ∨
    (h = .non ∧ xs = [] ∧ ∀ l t q' H', H l = none → H' l = some (.lst [.ref t]) → H' t = some (.tup [.str "vote", .ref st]) → SqT K H' q' [] → H' p = some (.ins C dx (deskF (.ref st) (.ref q') false)) →
      Chg p H H' → Q (.ref l) H'))
theorem sc_Desk_take_ask : FnScope ["self", "stamp"] ["self", "stamp"] (defScope s_Desk_take_ask) :=
  ⟨rfl, rfl, rfl, by decide +kernel, rfl, by decide +kernel, by decide +kernel⟩
theorem ok_ask (F : Fun K "take_ask" "Desk.take_ask" s_Desk_take_ask f fd) (T : BlD mg) (S : DeskT K mg C) (MV : Me P w K mg base C "_give_the_free_vote" 1 ["self"] (spGive K C)) :
    FnOk P w K mg base CX0 2 f fd ["self", "stamp"] (spAsk K C) := by
  obtain ⟨fV, fdV, GV, bV, mV⟩ := MV
  refine F.ok sc_Desk_take_ask (fun vs H Q E h => ?_) (fun cdv A outer s H vs Q E hr h => ?_)
  · obtain ⟨p, dx, qa, st, h, b, xs, L, n, rfl, _⟩ := h
    rfl
  obtain ⟨p, dx, qa, st, h, b, xs, L, n, rfl, hp, hq, hs, hn, sn, len, two⟩ := h
  refine ⟨_, (pss_cons (ps_fld (pv 0) (pe_callTy call_tuple_of (by rfl) T.tuple (by decide +kernel) (pa_cons (pe_callB (cr_sortTT (d := 3) (B := 10 ^ 43) (by decide)) (by rfl) T.sorted (by decide +kernel) (pa_cons (pe_op op_catA (pe_fld (pv 0) (by rfl)) (pe_tup (pa_cons (pv 1) pa_nil))) pa_nil)) pa_nil)) rfl)
    (pss_cons (ps_if (PW.pt (pw_and (pt_cmpR op_notN (pe_fld (pv 0) (by rfl)) pe_non (nomark _)) (pw_and (pt_cmpR (op_ltT (u0 hr)) (pv 1) (pe_fld (pv 0) (by rfl)) (nomark _)) (pw_and1 (pt_not (pt_val (pe_fld (pv 0) (by rfl))))))))
    (pss_cons (ps_fld (pv 0) pe_bl rfl)
    (pss_one (ps_ret (pe_lst (pa_cons (pe_tup (pa_cons pe_str (pa_cons (pe_fld (pv 0) (by rfl)) pa_nil))) pa_nil)))))
    pss_nil)
    (pss_one (ps_ret (pe_meth0 (pv 0) S.cl mV GV hr bV .nil pass0))))), ?_⟩
  refine ⟨_, rfl, p, C, dx, _, _, rfl, hp, S.cl, S.nQ, deskF_queue _ _ _, _, rfl, by show 1 ≤ sizeLine; decide, ?_⟩
  intro t1 ht1
  have lx := hs.len
  refine cat_anyk (sqt_same (same_upd ht1) hq) (SqT.of upd_same) (by simp; omega) fun r1 G1 s1 h1 => ?_
  have s01 : Same H G1 := (same_upd ht1).trans s1
  have hs1 : Sts K G1 (xs ++ [.ref st]) (L ++ [n]) := (hs.imp fun a ys z => sqt_same s01 z).app (Sts.one (by obtain ⟨t, e, z⟩ := hn; exact ⟨t, e, sqt_same s01 z⟩) sn)
  refine ⟨r1, _, rfl, h1, by simp; omega, fun x hx => ?_, fun ys o perm up ho => ?_⟩
  · obtain ⟨m, _, hm, sm⟩ := hs1.tup x hx
    exact ⟨m, hm, sm.1, sm.2⟩
  obtain ⟨M, hM, pM⟩ := hs1.perm perm
  have upM : Up M := hM.up up
  refine ⟨o, ys, rfl, .inl ⟨SqL.of upd_same, ?_⟩⟩
  intro q' hq'
  have s03 : Same H (upd (upd G1 o (.lst ys)) q' (.tup ys)) := (s01.trans (same_upd ho)).trans (same_upd hq')
  have hM3 : Sts K (upd (upd G1 o (.lst ys)) q' (.tup ys)) ys M := hM.imp fun a zs z => sqt_same ((same_upd ho).trans (same_upd hq')) z
  obtain ⟨G3, hG3⟩ : ∃ G3, G3 = upd (upd G1 o (.lst ys)) q' (.tup ys) := ⟨_, rfl⟩
  have q3 : SqT K G3 q' ys := by rw [hG3]; exact SqT.of upd_same
  rw [← hG3] at s03 hM3
  rw [← hG3]
  have hp3 := s03 _ _ hp
  refine ⟨_, rfl, p, C, dx, _, rfl, hp3, S.cl, S.nQ, (by show 3 < 1000; decide), ?_⟩
  rw [deskF_putQ]
  have cI : Chg p G3 (upd G3 p (.ins C dx (deskF h (.ref q') b))) := Chg.self
  have q4 := sqt_chgI hp3 cI q3
  have hM4 := hM3.imp fun a zs z => sqt_chgI hp3 cI z
  have c4 : Chg p H (upd G3 p (.ins C dx (deskF h (.ref q') b))) := fun z o n e => cI _ _ n (s03 _ _ e)
  have hp4 : upd G3 p (.ins C dx (deskF h (.ref q') b)) p = some (.ins C dx (deskF h (.ref q') b)) := upd_same
  obtain ⟨G4, hG4⟩ : ∃ G4, G4 = upd G3 p (.ins C dx (deskF h (.ref q') b)) := ⟨_, rfl⟩
  rw [← hG4] at q4 hM4 c4 hp4
  rw [← hG4]
  refine ⟨_, rfl, p, C, dx, _, _, rfl, hp4, S.cl, S.nH, deskF_holder _ _ _, ?_⟩
  rcases two with ⟨hh, m, rfl, hm, sm, q⟩ | ⟨rfl, rfl, q⟩
  · refine ⟨rfl, _, rfl, iteT' (by simp) ?_⟩
    obtain ⟨ta, e1, z1⟩ := hn
    obtain ⟨tb, e2, z2⟩ := hm
    cases e1; cases e2
    have z1' := sqt_chgI hp c4 z1
    have z2' := sqt_chgI hp c4 z2
    refine ⟨_, rfl, _, rfl, p, C, dx, _, _, rfl, hp4, S.cl, S.nH, deskF_holder _ _ _, _, _, n, m, rfl, rfl, z1', z2', _, rfl, ?_⟩
    obtain ⟨st', est⟩ : ∃ st', st' = hh := ⟨_, rfl⟩
    subst est
    cases hlt : HT.lexLt n m with
    | false =>
      refine iteF ?_
      refine ⟨_, rfl, p, dx, _, rfl, hp4, deskF_no _ _ _ (by decide +kernel) (by decide +kernel) (by decide +kernel), p, dx, q', .ref st', b, ys, rfl, hp4, q4, .inl ⟨.inl ⟨_, rfl⟩, fun l hl => ?_⟩⟩
      have pl : l ≠ p := by intro z; rw [z, hp4] at hl; cases hl
      refine q l q' _ ys M (c4.back hl pl) (sqt_same (same_upd hl) q4) (hM4.imp fun a zs z => sqt_same (same_upd hl) z) pM upM (c4.new hl) ?_
      rw [if_neg (by simp [hlt])]
      exact ⟨upd_same, same_upd hl _ _ hp4⟩
    | true =>
      refine iteT ?_
      refine ⟨_, rfl, p, C, dx, _, _, rfl, hp4, S.cl, S.nC, deskF_called _ _ _, _, rfl, ?_⟩
      cases b with
      | true =>
        refine iteF' rfl ?_
        refine ⟨_, rfl, p, dx, _, rfl, hp4, deskF_no _ _ _ (by decide +kernel) (by decide +kernel) (by decide +kernel), p, dx, q', .ref st', true, ys, rfl, hp4, q4, .inl ⟨.inl ⟨_, rfl⟩, fun l hl => ?_⟩⟩
        have pl : l ≠ p := by intro z; rw [z, hp4] at hl; cases hl
        refine q l q' _ ys M (c4.back hl pl) (sqt_same (same_upd hl) q4) (hM4.imp fun a zs z => sqt_same (same_upd hl) z) pM upM (c4.new hl) ?_
        rw [if_neg (by simp [hlt])]
        exact ⟨upd_same, same_upd hl _ _ hp4⟩
      | false =>
        refine iteT' rfl ?_
        refine ⟨_, rfl, p, C, dx, _, rfl, hp4, S.cl, S.nC, (by show 3 < 1000; decide), ?_⟩
        rw [deskF_putC]
        refine ⟨_, rfl, p, C, dx, _, _, rfl, upd_same, S.cl, S.nH, deskF_holder _ _ _, by show 2 ≤ sizeLine; decide, ?_⟩
        intro t ht
        refine ⟨by show 1 ≤ sizeLine; decide, ?_⟩
        intro l hl
        have cJ : Chg p G4 (upd G4 p (.ins C dx (deskF (.ref st') (.ref q') true))) := Chg.self
        have hp5 : upd G4 p (.ins C dx (deskF (.ref st') (.ref q') true)) p = some (.ins C dx (deskF (.ref st') (.ref q') true)) := upd_same
        have c5 := c4.trans cJ
        have s5 := (same_upd (o := .tup [.str "back", .ref st']) ht).trans (same_upd (o := .lst [.ref t]) hl)
        have pl : l ≠ p := by intro z; rw [z, (same_upd ht) _ _ hp5] at hl; cases hl
        refine q l q' _ ys M ((c5.new ht).back hl pl) (sqt_same s5 (sqt_chgI hp4 cJ q4)) (hM4.imp fun a zs z => sqt_same s5 (sqt_chgI hp4 cJ z)) pM upM ((c5.new ht).new hl) ?_
        rw [if_pos (by simp [hlt])]
        exact ⟨t, upd_same, same_upd hl _ _ upd_same, s5 _ _ hp5⟩
  · refine ⟨rfl, _, rfl, iteF' (by simp) ?_⟩
    have e0 : L = [] := List.eq_nil_of_length_eq_zero (by rw [← lx]; rfl)
    subst e0
    have ey : ys = [.ref st] := List.perm_singleton.mp perm
    subst ey
    refine ⟨_, rfl, p, dx, _, rfl, hp4, deskF_no _ _ _ (by decide +kernel) (by decide +kernel) (by decide +kernel), p, dx, q', .non, b, _, rfl, hp4, q4, .inr ⟨rfl, _, _, rfl, (by show 1 < 10000; decide), fun l t q2 H2 hl h1 h2 h3 h4 h5 => ?_⟩⟩
    have pl : l ≠ p := by intro z; rw [z, hp4] at hl; cases hl
    exact q l t q2 H2 (c4.back hl pl) h1 h2 h3 h4 (c4.trans h5)
end

end G0
namespace G0
open PySem PySem.Spec PyProof.Rows L2
section
variable {P : Program} {w : World} {K : PySem.W.Frag} {mg : Str → Option Value} {base : Heap} {C : Addr}
/-- the holder's stamp, or none -/
def HoldOk (K : PySem.W.Frag) (H : Hp) (h : V) : Prop := h = .non ∨ ∃ hh m, h = .ref hh ∧ TupI K H (.ref hh) m ∧ StN m
theorem HoldOk.imp {H H' : Hp} {h : V} (c : ∀ a xs, SqT K H a xs → SqT K H' a xs) (z : HoldOk K H h) : HoldOk K H' h := by
  rcases z with z | ⟨hh, m, e, ⟨t, e2, z⟩, sm⟩
  · exact .inl z
  · exact .inr ⟨hh, m, e, ⟨t, e2, c _ _ z⟩, sm⟩
theorem HoldOk.dp {H : Hp} {h : V} (z : HoldOk K H h) : ∃ d, (∀ k, Lv (k + 1) d) ∧ Dp K H h d := by
  rcases z with rfl | ⟨hh, m, rfl, z, sm⟩
  · exact ⟨.none, fun _ => .non, .non⟩
  · exact ⟨stD m, fun _ => lv_st (by rw [sm.1]; decide), dp_stamp z⟩
theorem HoldOk.dps {H : Hp} {h : V} (z : HoldOk K H h) : ∃ d, Dp K H h d ∧ SeqAt.shaped d = true := by
  rcases z with rfl | ⟨hh, m, rfl, z, sm⟩
  · exact ⟨.none, .non, by decide⟩
  · exact ⟨stD m, dp_stamp z, shaped_st m⟩
theorem lv_due (z : Str) {n : List Int} (h : n.length < 10000) : ∀ d ∈ [PyData.tuple [.str z, stD n]], Lv 2 d := fun d hd => by
  rw [List.mem_singleton.mp hd]
  refine .tup (by show 2 < 10000; decide) fun e he => ?_
  simp only [List.mem_cons, List.not_mem_nil, or_false] at he
  rcases he with rfl | rfl
  · exact .str z
  · exact lv_st h
theorem dp_due {H : Hp} {t x : Addr} {z : Str} {n : List Int} (h : SqT K H t [.str z, .ref x]) (hx : TupI K H (.ref x) n) : DpAll K H [.ref t] [PyData.tuple [.str z, stD n]] :=
  .cons (.tup h (.cons (.str z) (.cons (dp_stamp hx) .nil))) .nil
/-! ### _law_cells -/
theorem cut_ints (ns : List Int) (lo hi : Option Int) : ∃ ms : List Int, cutV (ns.map V.int) lo hi = ms.map V.int ∧ ms.length ≤ ns.length ∧ ∀ x ∈ ms, x ∈ ns := by
  unfold cutV
  rw [← List.map_drop, ← List.map_take]
  exact ⟨_, rfl, Nat.le_trans (List.length_take_le' _ _) (by rw [List.length_drop]; omega), fun x hx => List.mem_of_mem_drop (List.mem_of_mem_take hx)⟩
theorem bits_small {z : Int} (h : z.natAbs < 2 ^ 64) : Builtin.Int.intBits z ≤ 1048576 := Nat.le_trans (PyProof.Rows.intBits_le h) (by decide)
def spCells (K : PySem.W.Frag) : Sp := fun vs H Q _ => ∃ (a : Addr) (ns : List Int), vs = [.ref a, .int 0] ∧ SqL K H a (ns.map V.int) ∧ ns.length ≤ 63 ∧ (∀ z ∈ ns, Builtin.Int.intBits z ≤ 1048576) ∧
  ∀ (l : Addr) (H' : Hp) (cs : List Int), H l = none → Same H H' → H' l = some (.lst (cs.map V.int)) → cs.length ≤ 63 → (∀ z ∈ cs, Builtin.Int.intBits z ≤ 1048576) → Q (.ref l) H'
theorem sc_law_cells : FnScope ["script", "start", "found", "k"] ["script", "start"] (defScope s_law_cells) :=
  ⟨rfl, rfl, rfl, by decide +kernel, rfl, by decide +kernel, by decide +kernel⟩
theorem ok_cells (F : Fn K mg "_law_cells" s_law_cells) (T : BlD mg) : Cal P w K mg base "_law_cells" 1 ["script", "start"] (spCells K) := by
  refine cal_of F sc_law_cells
    (fun _ _ _ _ _ _ us hl => match us, hl with | [_, _], _ => rfl) ?_ ?_
  · rintro vs H Q E ⟨a, ns, rfl, _⟩
    rfl
  rintro f cdv A outer s H vs Q E free hr ⟨a, ns, rfl, hS, len, bits, q⟩
  refine ⟨_, (pss_cons (ps_set (i := 2) sc_law_cells.nd rfl (Or.inl rfl) (pe_callTy call_list_of (by rfl) T.list (by decide +kernel) (pa_cons (pe_slice sl_list (pv 0) (po_some (pv 1)) (po_some pe_int)) pa_nil)))
    (pss_cons (ps_for PassesOwn.never rfl (pi_range2 (by rfl) T.range (pa_cons (pe_callB call_len_seq (by rfl) T.len (by decide +kernel) (pa_cons (pv 2) pa_nil)) (pa_cons pe_int pa_nil))) (pg_name (i := 3) sc_law_cells.nd rfl (Or.inl rfl))
    (pss_one (ps_expr (pe_bm PySem.F.plainAttrs_list PySem.F.slot_list_append PySem.F.type_list_append mt_append (pv 2) (pa_cons (pe_op op_add (pe_op op_mul (pe_op op_mod (pe_callB (cr_sum (by rfl)) (by rfl) T.sum (by decide +kernel) (pa_cons (pe_slice sl_list (pv 0) po_none (po_some pe_int)) pa_nil)) pe_int) pe_int) (pe_op op_mul pe_int (pe_op op_add (pv 3) pe_int))) pa_nil)))))
    (pss_one (ps_ret (pv 2))))), ?_⟩
  obtain ⟨ms, em, lm, sub⟩ := cut_ints ns (some 0) (some 63)
  have bm : ∀ z ∈ ms, Builtin.Int.intBits z ≤ 1048576 := fun z hz => bits z (sub z hz)
  refine ⟨_, rfl, _, rfl, _, rfl, _, rfl, a, _, rfl, hS, ?_⟩
  intro s1 h1
  rw [em]
  refine ⟨s1, _, rfl, .inl (SqL.of upd_same), ?_⟩
  intro l hl
  have hl0 : H l = none := by
    by_cases z : l = s1
    · rw [z]; exact h1
    · rw [upd_ne z] at hl; exact hl
  have s2 : Same H (upd (upd H s1 (.lst (ms.map V.int))) l (.lst (ms.map V.int))) := (same_upd h1).trans (same_upd hl)
  have hlm : (ms.map V.int).length = ms.length := List.length_map _
  refine ⟨_, rfl, l, _, rfl, .inl (SqL.of upd_same), _, _, rfl, ⟨by omega, by omega, by omega, by omega⟩, ?_⟩
  obtain ⟨ms2, em2, lm2, sub2⟩ := cut_ints ns none (some 63)
  refine for_range (lo := _) (n := _) (fun i σ G => (∃ k : Option V, σ = [some (V.ref a), some (V.int 0), some (V.ref l), k]) ∧ ∃ cs : List Int, G l = some (.lst (cs.map V.int)) ∧ Same H G ∧ cs.length = ms.length + i ∧
    ∀ z ∈ cs, Builtin.Int.intBits z ≤ 1048576) ⟨⟨_, rfl⟩, ms, upd_same, s2, rfl, bm⟩ ?_ ?_
  · rintro i σ G hi ⟨⟨k, rfl⟩, cs, hG, sG, lc, bc⟩
    have i20 : i < 20 := by omega
    refine ⟨_, rfl, .inl ⟨rfl, _, SqL.of hG⟩, _, rfl, _, rfl, a, _, rfl, sG.seq hS, ?_⟩
    intro s3 h3
    rw [em2]
    refine ⟨s3, ms2, rfl, SqL.of upd_same, ?_⟩
    generalize ms2.sum = su
    refine ⟨_, _, rfl, rfl, (by show (0 : Int) < 1000003; decide), _, _, rfl, rfl, .inr ⟨by decide, by decide⟩, _, rfl, _, _, rfl, rfl, _, _, rfl, rfl, .inl ⟨by decide, by decide⟩, _, _, rfl, rfl, ?_⟩
    have ls : l ≠ s3 := ne_of_none hG h3
    refine ⟨l, _, _, rfl, rfl, by rw [upd_ne ls]; exact hG, by rw [List.length_map]; exact Nat.lt_of_lt_of_le (show cs.length < 100 by omega) (by decide), ?_⟩
    refine ⟨⟨_, rfl⟩, cs ++ [su % 1000003 * 48271 + 104729 * ((((ms.map V.int).length : Nat) : Int) + (i : Int) + 1)], ?_, ?_, by rw [List.length_append, List.length_singleton]; omega, fun z hz => ?_⟩
    · rw [upd_same, List.map_append]; rfl
    · intro b o e
      have nb : b ≠ l := by intro z; rw [z, hl0] at e; cases e
      rw [upd_ne nb]
      exact same_upd h3 _ _ (sG _ _ e)
    · rcases List.mem_append.mp hz with h | h
      · exact bc z h
      · rw [List.mem_singleton.mp h]
        have m0 : 0 ≤ su % 1000003 := Int.emod_nonneg _ (by decide)
        have m1 : su % 1000003 < 1000003 := Int.emod_lt_of_pos _ (by decide)
        exact bits_small (by omega)
  · rintro σ G ⟨⟨k, rfl⟩, cs, hG, sG, lc, bc⟩
    exact ⟨_, rfl, q l G cs hl0 sG hG (by omega) bc⟩
end

end G0
namespace G0
open PySem PySem.Spec PyProof.Rows L2
theorem eqv_intss : ∀ k n : List Int, PyData.eqvAll (k.map PyData.int) (n.map PyData.int) = decide (k = n)
  | [], [] => by simp [PyData.eqvAll]
  | [], _ :: _ => by simp [PyData.eqvAll]
  | _ :: _, [] => by simp [PyData.eqvAll]
  | i :: r, j :: q => by
    have ih := eqv_intss r q
    simp only [List.map_cons, PyData.eqvAll, PyData.eqv, ih]
    by_cases e : i = j <;> by_cases f : r = q <;> simp [e, f]
theorem eqv_sd (k n : List Int) : PyData.eqv (stD k) (stD n) = decide (k = n) := by
  have := eqv_intss k n
  simp only [stD, PyData.eqv]
  exact this
theorem op_neDk {X : Cx} (K : PySem.W.Frag) (hu : X.A.units + 64 < cLine) (hK : X.K = K := by rfl) : OpR X (compareOp .NotEq) (rNeD K) := op_K rNeD K (op_neD hu) hK
section
variable {P : Program} {w : World} {K : PySem.W.Frag} {mg : Str → Option Value} {base : Heap} {C f : Addr} {fd : FuncData}
/-- the free vote is given to the first of M -/
def Out (K : PySem.W.Frag) (C p dx : Addr) (H' : Hp) (l : Addr) (M : List (List Int)) : Prop :=
  (M = [] ∧ H' l = some (.lst []) ∧ ∃ q', SqT K H' q' [] ∧ H' p = some (.ins C dx (deskF .non (.ref q') false))) ∨
  (∃ t x nx r M' q', M = nx :: M' ∧ H' l = some (.lst [.ref t]) ∧ SqT K H' t [.str "vote", .ref x] ∧ TupI K H' (.ref x) nx ∧ StN nx ∧ SqT K H' q' r ∧ Sts K H' r M' ∧ H' p = some (.ins C dx (deskF (.ref x) (.ref q') false)))
/-- nothing is to be sent -/
def Stay (K : PySem.W.Frag) (C p dx : Addr) (h : V) (b : Bool) (H' : Hp) (l : Addr) (M : List (List Int)) : Prop :=
  H' l = some (.lst []) ∧ ∃ q' ys, SqT K H' q' ys ∧ Sts K H' ys M ∧ H' p = some (.ins C dx (deskF h (.ref q') b))
theorem give_out {G : Hp} {p dx q : Addr} {ys : List V} {M : List (List Int)} {Q : VK} {E : XK} (hp : G p = some (.ins C dx (deskF .non (.ref q) false))) (hq : SqT K G q ys) (hs : Sts K G ys M) (len : M.length < 1000)
    (k : ∀ l H', G l = none → Chg p G H' → Out K C p dx H' l M → Q (.ref l) H') : spGive K C [.ref p] G Q E := by
  refine ⟨p, dx, q, .non, false, ys, rfl, hp, hq, ?_⟩
  cases hs with
  | nil =>
    refine .inl ⟨.inr ⟨rfl, rfl⟩, fun l hl => k l _ hl (Chg.same (same_upd hl)) (.inl ⟨rfl, upd_same, q, sqt_same (same_upd hl) hq, same_upd hl _ _ hp⟩)⟩
  | @cons x xs n L a b r =>
    obtain ⟨tx, rfl, hx⟩ := a
    have lr := r.len
    refine .inr ⟨rfl, _, _, rfl, ?_, fun l t q' H' hl h1 h2 h3 h4 h5 => k l H' hl h5 (.inr ⟨t, tx, n, xs, L, q', rfl, h1, SqT.of h2, ⟨tx, rfl, sqt_chgI hp h5 hx⟩, b, h3, r.imp fun a zs z => sqt_chgI hp h5 z, h4⟩)⟩
    rw [List.length_cons] at len ⊢
    omega
theorem give_stay {G : Hp} {p dx q : Addr} {h : V} {b : Bool} {ys : List V} {M : List (List Int)} {Q : VK} {E : XK} (hp : G p = some (.ins C dx (deskF h (.ref q) b))) (hq : SqT K G q ys) (hs : Sts K G ys M) (hh : (∃ a, h = .ref a) ∨ (h = .non ∧ M = []))
    (k : ∀ l H', G l = none → Chg p G H' → Stay K C p dx h b H' l M → Q (.ref l) H') : spGive K C [.ref p] G Q E := by
  refine ⟨p, dx, q, h, b, ys, rfl, hp, hq, .inl ⟨?_, fun l hl => k l _ hl (Chg.same (same_upd hl)) ⟨upd_same, q, ys, sqt_same (same_upd hl) hq, hs.imp fun a zs z => sqt_same (same_upd hl) z, same_upd hl _ _ hp⟩⟩⟩
  rcases hh with z | ⟨z, e⟩
  · exact .inl z
  · subst e; cases hs; exact .inr ⟨z, rfl⟩
/-! ### _free -/
def spFree (C : Addr) : Sp := fun vs H Q _ => ∃ (p dx : Addr) (h q : V) (b : Bool), vs = [.ref p] ∧ H p = some (.ins C dx (deskF h q b)) ∧ Q .non (upd H p (.ins C dx (deskF .non q false)))
theorem sc_Desk_free : FnScope ["self"] ["self"] (defScope s_Desk_free) :=
  ⟨rfl, rfl, rfl, by decide +kernel, rfl, by decide +kernel, by decide +kernel⟩
theorem ok_free (F : Fun K "_free" "Desk._free" s_Desk_free f fd) (S : DeskT K mg C) : FnOk P w K mg base CX0 1 f fd ["self"] (spFree C) := by
  refine F.ok sc_Desk_free (fun vs H Q E h => ?_) (fun cdv A outer s H vs Q E hr h => ?_)
  · obtain ⟨p, dx, h, q, b, rfl, _⟩ := h
    rfl
  obtain ⟨p, dx, h, q, b, rfl, hp, k⟩ := h
  refine ⟨_, (pss_cons (ps_fld (pv 0) pe_non rfl)
    (pss_one (ps_fld (pv 0) pe_bl rfl))), ?_⟩
  refine ⟨_, rfl, p, C, dx, _, rfl, hp, S.cl, S.nH, (by show 3 < 1000; decide), ?_⟩
  rw [deskF_putH]
  refine ⟨_, rfl, p, C, dx, _, rfl, upd_same, S.cl, S.nC, (by show 3 < 1000; decide), ?_⟩
  rw [deskF_putC, upd_upd]
  exact k
/-! ### take_given -/
def HoldM (K : PySem.W.Frag) (H : Hp) (h : V) (M : List (List Int)) (m : Option (List Int)) : Prop := (h = .non ∧ M = [] ∧ m = none) ∨ ∃ hh n, h = .ref hh ∧ TupI K H (.ref hh) n ∧ StN n ∧ m = some n
theorem HoldM.dps {H : Hp} {h : V} {M : List (List Int)} {m : Option (List Int)} (z : HoldM K H h M m) : ∃ d, Dp K H h d ∧ SeqAt.shaped d = true ∧ ∀ n, PyData.eqv (stD n) d = decide (m = some n) := by
  rcases z with ⟨rfl, _, rfl⟩ | ⟨hh, k, rfl, z, sm, rfl⟩
  · exact ⟨.none, .non, by decide, fun n => by simp [stD, PyData.eqv]⟩
  · exact ⟨stD k, dp_stamp z, shaped_st k, fun n => by rw [eqv_sd]; simp [eq_comm]⟩
theorem HoldM.or {H : Hp} {h : V} {M : List (List Int)} {m : Option (List Int)} (z : HoldM K H h M m) : (∃ a, h = .ref a) ∨ (h = .non ∧ M = []) := by
  rcases z with ⟨rfl, e, rfl⟩ | ⟨hh, k, rfl, z, sm, rfl⟩
  · exact .inr ⟨rfl, e⟩
  · exact .inl ⟨hh, rfl⟩
def spGiven (K : PySem.W.Frag) (C : Addr) : Sp := fun vs H Q _ => ∃ (p dx qa st : Addr) (h : V) (b : Bool) (xs : List V) (M : List (List Int)) (m : Option (List Int)) (n : List Int), vs = [.ref p, .ref st] ∧
  H p = some (.ins C dx (deskF h (.ref qa) b)) ∧ SqT K H qa xs ∧ Sts K H xs M ∧ TupI K H (.ref st) n ∧ HoldM K H h M m ∧ M.length < 63 ∧
  (if m = some n then ∀ l H' M1, H l = none → M1.Perm (M ++ [n]) → Up M1 → Chg p H H' → Out K C p dx H' l M1 → Q (.ref l) H'
    else ∀ l H', H l = none → Chg p H H' → Stay K C p dx h b H' l M → Q (.ref l) H')
theorem sc_Desk_take_given : FnScope ["self", "stamp"] ["self", "stamp"] (defScope s_Desk_take_given) :=
  ⟨rfl, rfl, rfl, by decide +kernel, rfl, by decide +kernel, by decide +kernel⟩
theorem ok_given (F : Fun K "take_given" "Desk.take_given" s_Desk_take_given f fd) (T : BlD mg) (S : DeskT K mg C) (MV : Me P w K mg base C "_give_the_free_vote" 1 ["self"] (spGive K C)) (MF : Me P w K mg base C "_free" 1 ["self"] (spFree C)) :
    FnOk P w K mg base CX0 2 f fd ["self", "stamp"] (spGiven K C) := by
  obtain ⟨fV, fdV, GV, bV, mV⟩ := MV
  obtain ⟨fF, fdF, GF, bF, mF⟩ := MF
  refine F.ok sc_Desk_take_given (fun vs H Q E h => ?_) (fun cdv A outer s H vs Q E hr h => ?_)
  · obtain ⟨p, dx, qa, st, h, b, xs, M, m, n, rfl, _⟩ := h
    rfl
  obtain ⟨p, dx, qa, st, h, b, xs, M, m, n, rfl, hp, hq, hs, hn, hm, len, q⟩ := h
  refine ⟨_, (pss_cons (ps_if (pt_cmpR (op_eqD (u64 hr)) (pv 1) (pe_fld (pv 0) (by rfl)) (nomark _))
    (pss_cons (ps_fld (pv 0) (pe_callTy call_tuple_of (by rfl) T.tuple (by decide +kernel) (pa_cons (pe_callB (cr_sortTT (d := 3) (B := 10 ^ 43) (by decide)) (by rfl) T.sorted (by decide +kernel) (pa_cons (pe_op op_catA (pe_fld (pv 0) (by rfl)) (pe_tup (pa_cons (pv 1) pa_nil))) pa_nil)) pa_nil)) rfl)
    (pss_one (ps_expr (pe_meth0 (pv 0) S.cl mF GF hr bF .nil pass0))))
    pss_nil)
    (pss_one (ps_ret (pe_meth0 (pv 0) S.cl mV GV hr bV .nil pass0)))), ?_⟩
  obtain ⟨dh, dd, ds, de⟩ := hm.dps
  refine ⟨_, rfl, _, rfl, p, C, dx, _, _, rfl, hp, S.cl, S.nH, deskF_holder _ _ _, stD n, dh, dp_stamp hn, dd, shaped_st n, ds, _, rfl, ?_⟩
  rw [de n]
  by_cases c : m = some n
  · rw [if_pos c] at q
    refine iteT' (by simp [c]) ?_
    obtain ⟨hh, sn, rfl⟩ : ∃ hh, StN n ∧ h = V.ref hh := by
      rcases hm with ⟨_, _, e⟩ | ⟨hh, k, e, _, sk, ek⟩
      · rw [e] at c; cases c
      · rw [ek] at c; cases c; exact ⟨hh, sk, e⟩
    refine ⟨_, rfl, p, C, dx, _, _, rfl, hp, S.cl, S.nQ, deskF_queue _ _ _, _, rfl, by show 1 ≤ sizeLine; decide, ?_⟩
    intro t1 ht1
    have lx := hs.len
    refine cat_anyk (sqt_same (same_upd ht1) hq) (SqT.of upd_same) (by simp; omega) fun r1 G1 s1 h1 => ?_
    have s01 : Same H G1 := (same_upd ht1).trans s1
    have hs1 : Sts K G1 (xs ++ [.ref st]) (M ++ [n]) := (hs.imp fun a ys z => sqt_same s01 z).app (Sts.one (by obtain ⟨t, e, z⟩ := hn; exact ⟨t, e, sqt_same s01 z⟩) sn)
    refine ⟨r1, _, rfl, h1, by simp; omega, fun x hx => ?_, fun ys o perm up ho => ?_⟩
    · obtain ⟨k, _, hk, sk⟩ := hs1.tup x hx
      exact ⟨k, hk, sk.1, sk.2⟩
    obtain ⟨M1, hM, pM⟩ := hs1.perm perm
    have upM : Up M1 := hM.up up
    refine ⟨o, ys, rfl, .inl ⟨SqL.of upd_same, ?_⟩⟩
    intro q' hq'
    have s03 : Same H (upd (upd G1 o (.lst ys)) q' (.tup ys)) := (s01.trans (same_upd ho)).trans (same_upd hq')
    have hM3 : Sts K (upd (upd G1 o (.lst ys)) q' (.tup ys)) ys M1 := hM.imp fun a zs z => sqt_same ((same_upd ho).trans (same_upd hq')) z
    obtain ⟨G3, hG3⟩ : ∃ G3, G3 = upd (upd G1 o (.lst ys)) q' (.tup ys) := ⟨_, rfl⟩
    have q3 : SqT K G3 q' ys := by rw [hG3]; exact SqT.of upd_same
    rw [← hG3] at s03 hM3
    rw [← hG3]
    have hp3 := s03 _ _ hp
    refine ⟨_, rfl, p, C, dx, _, rfl, hp3, S.cl, S.nQ, (by show 3 < 1000; decide), ?_⟩
    rw [deskF_putQ]
    refine ⟨_, rfl, p, dx, _, rfl, upd_same, deskF_no _ _ _ (by decide +kernel) (by decide +kernel) (by decide +kernel), p, dx, _, _, _, rfl, upd_same, ?_⟩
    rw [upd_upd]
    have cI : Chg p G3 (upd G3 p (.ins C dx (deskF .non (.ref q') false))) := Chg.self
    have q4 := sqt_chgI hp3 cI q3
    have hM4 := hM3.imp fun a zs z => sqt_chgI hp3 cI z
    have c4 : Chg p H (upd G3 p (.ins C dx (deskF .non (.ref q') false))) := fun z o n e => cI _ _ n (s03 _ _ e)
    have hp4 : upd G3 p (.ins C dx (deskF .non (.ref q') false)) p = some (.ins C dx (deskF .non (.ref q') false)) := upd_same
    refine ⟨_, rfl, p, dx, _, rfl, hp4, deskF_no _ _ _ (by decide +kernel) (by decide +kernel) (by decide +kernel), give_out (E := E0) hp4 q4 hM4 (by rw [pM.length_eq, List.length_append, List.length_singleton]; omega) fun l H' hl ch out => ?_⟩
    have pl : l ≠ p := by intro z; rw [z, hp4] at hl; cases hl
    exact q l H' M1 (c4.back hl pl) pM upM (c4.trans ch) out
  · rw [if_neg c] at q
    refine iteF' (by simp [c]) ?_
    refine ⟨_, rfl, p, dx, _, rfl, hp, deskF_no _ _ _ (by decide +kernel) (by decide +kernel) (by decide +kernel), give_stay (E := E0) hp hq hs hm.or q⟩
end

end G0
namespace G0
open PySem PySem.Spec PyProof.Rows L2
section
variable {P : Program} {w : World} {K : PySem.W.Frag} {mg : Str → Option Value} {base : Heap} {C f : Addr} {fd : FuncData}
/-! ### take_done -/
def spDone (K : PySem.W.Frag) (C : Addr) : Sp := fun vs H Q _ => ∃ (p dx qa st : Addr) (h : V) (b : Bool) (xs : List V) (M : List (List Int)) (m : Option (List Int)) (n : List Int), vs = [.ref p, .ref st] ∧
  H p = some (.ins C dx (deskF h (.ref qa) b)) ∧ SqT K H qa xs ∧ Sts K H xs M ∧ TupI K H (.ref st) n ∧ HoldM K H h M m ∧ M.length < 63 ∧
  (if m = some n then ∀ l H', H l = none → Chg p H H' → Out K C p dx H' l M → Q (.ref l) H'
    else ∀ l H', H l = none → Chg p H H' → Stay K C p dx h b H' l (M.filter fun k => !decide (k = n)) → Q (.ref l) H')
theorem filt_snoc {α : Type} {M : List α} {i : Nat} {k : α} (e : M[i]? = some k) (g : α → Bool) : (M.take (i + 1)).filter g = (M.take i).filter g ++ (if g k = true then [k] else []) := by
  rw [List.take_succ, e, List.filter_append]
  cases h : g k <;> simp [h]
theorem sc_Desk_take_done : FnScope ["self", "stamp", "other"] ["self", "stamp"] (defScope s_Desk_take_done) :=
  ⟨rfl, rfl, rfl, by decide +kernel, rfl, by decide +kernel, by decide +kernel⟩
theorem ok_done (F : Fun K "take_done" "Desk.take_done" s_Desk_take_done f fd) (T : BlD mg) (S : DeskT K mg C) (MV : Me P w K mg base C "_give_the_free_vote" 1 ["self"] (spGive K C)) (MF : Me P w K mg base C "_free" 1 ["self"] (spFree C)) :
    FnOk P w K mg base CX0 2 f fd ["self", "stamp"] (spDone K C) := by
  obtain ⟨fV, fdV, GV, bV, mV⟩ := MV
  obtain ⟨fF, fdF, GF, bF, mF⟩ := MF
  refine F.ok sc_Desk_take_done (fun vs H Q E h => ?_) (fun cdv A outer s H vs Q E hr h => ?_)
  · obtain ⟨p, dx, qa, st, h, b, xs, M, m, n, rfl, _⟩ := h
    rfl
  obtain ⟨p, dx, qa, st, h, b, xs, M, m, n, rfl, hp, hq, hs, hn, hm, len, q⟩ := h
  refine ⟨_, (pss_cons (ps_if (pt_cmpR (op_eqD (u64 hr)) (pv 1) (pe_fld (pv 0) (by rfl)) (nomark _))
    (pss_one (ps_expr (pe_meth0 (pv 0) S.cl mF GF hr bF .nil pass0)))
    (pss_one (ps_fld (pv 0) (pe_callTy call_tuple_of (by rfl) T.tuple (by decide +kernel) (pa_cons (pe_lc (own := [("other", 2)]) (g := gName 2)  (by rfl) sc_Desk_take_done.nd (pi_tup (pe_fld (pv 0) (by rfl))) (blkOk_by (N := ["self", "stamp", "other"]) (sc := defScope s_Desk_take_done) (by decide +kernel)) (fun _ _ _ _ _ => pg_name (i := 2) sc_Desk_take_done.nd rfl (Or.inl rfl)) (fun _ _ _ _ _ => pts_one (pt_cmpR (op_neDk K (u64 hr)) (pv 2) (pv 1) (nomark _))) (fun _ _ _ _ _ => (pv 2))) pa_nil)) rfl)))
    (pss_one (ps_ret (pe_meth0 (pv 0) S.cl mV GV hr bV .nil pass0)))), ?_⟩
  obtain ⟨dh, dd, ds, de⟩ := hm.dps
  refine ⟨_, rfl, _, rfl, p, C, dx, _, _, rfl, hp, S.cl, S.nH, deskF_holder _ _ _, stD n, dh, dp_stamp hn, dd, shaped_st n, ds, _, rfl, ?_⟩
  rw [de n]
  by_cases c : m = some n
  · rw [if_pos c] at q
    refine iteT' (by simp [c]) ?_
    refine ⟨_, rfl, p, dx, _, rfl, hp, deskF_no _ _ _ (by decide +kernel) (by decide +kernel) (by decide +kernel), p, dx, _, _, _, rfl, hp, ?_⟩
    have cI : Chg p H (upd H p (.ins C dx (deskF .non (.ref qa) false))) := Chg.self
    have hp4 : upd H p (.ins C dx (deskF .non (.ref qa) false)) p = some (.ins C dx (deskF .non (.ref qa) false)) := upd_same
    refine ⟨_, rfl, p, dx, _, rfl, hp4, deskF_no _ _ _ (by decide +kernel) (by decide +kernel) (by decide +kernel), give_out (E := E0) hp4 (sqt_chgI hp cI hq) (hs.imp fun a zs z => sqt_chgI hp cI z) (by omega) fun l H' hl ch out => ?_⟩
    have pl : l ≠ p := by intro z; rw [z, hp4] at hl; cases hl
    exact q l H' (cI.back hl pl) (cI.trans ch) out
  · rw [if_neg c] at q
    refine iteF' (by simp [c]) ?_
    refine ⟨_, rfl, p, C, dx, _, _, rfl, hp, S.cl, S.nQ, deskF_queue _ _ _, _, rfl, ⟨_, hq⟩, fun J hJ => ?_⟩
    refine lc_tup (K := K) (a := qa) (xs := xs) (fun i G => ∃ acc : List V, G J = some (.lst acc) ∧ Sts K G acc ((M.take i).filter (fun k => !decide (k = n))) ∧ Same H G ∧ acc.length ≤ i)
      ⟨[], upd_same, by simpa using Sts.nil, same_upd hJ, Nat.le_refl _⟩ (fun i G _ h => by obtain ⟨_, _, _, z, _⟩ := h; exact sqt_same z hq) ?_ ?_
    · rintro i x G hi ⟨acc, hG, hA, sG, lA⟩
      obtain ⟨k, ek, tk, sk⟩ := hs.at hi
      obtain ⟨tx, rfl, zx⟩ := tk
      have i63 : i < 63 := by
        have := (List.getElem?_eq_some_iff.mp ek).1
        omega
      refine ⟨rfl, _, rfl, _, rfl, stD k, stD n, dp_stamp ⟨tx, rfl, sqt_same sG zx⟩, dp_stamp (by obtain ⟨t, e, z⟩ := hn; exact ⟨t, e, sqt_same sG z⟩), shaped_st k, shaped_st n, _, rfl, ?_⟩
      rw [eqv_sd]
      rw [filt_snoc ek]
      refine ite2 (fun c2 => ?_) (fun c2 => ?_)
      · have c3 : (fun k => !decide (k = n)) k = true := (by simpa using c2)
        rw [if_pos c3]
        have s9 : Same H (upd G J (.lst (acc ++ [.ref tx]))) := fun z o e => by rw [upd_ne (ne_of_none e hJ)]; exact sG _ _ e
        have nT : ∀ {a : Addr} {zs : List V}, SqT K G a zs → SqT K (upd G J (.lst (acc ++ [.ref tx]))) a zs := fun z => sqt_chg ⟨_, hG⟩ Chg.self z
        refine ⟨_, rfl, acc, hG, Nat.lt_of_lt_of_le (show acc.length < 100 by omega) (by decide), acc ++ [.ref tx], upd_same, (hA.imp fun a zs z => nT z).app (Sts.one ⟨tx, rfl, nT (sqt_same sG zx)⟩ sk), s9, by rw [List.length_append, List.length_singleton]; omega⟩
      · have c3 : ¬ ((fun k => !decide (k = n)) k = true) := (by simpa using c2)
        rw [if_neg c3, List.append_nil]
        exact ⟨acc, hG, hA, sG, Nat.le_succ_of_le lA⟩
    rintro G ⟨acc, hG, hA, sG, lA⟩
    have lx := hs.len
    rw [lx, List.take_length] at hA
    refine ⟨_, _, rfl, .inl ⟨SqL.of hG, ?_⟩⟩
    intro q' hq'
    have s03 : Same H (upd G q' (.tup acc)) := sG.trans (same_upd hq')
    have hM3 : Sts K (upd G q' (.tup acc)) acc _ := hA.imp fun a zs z => sqt_same (same_upd hq') z
    obtain ⟨G3, hG3⟩ : ∃ G3, G3 = upd G q' (.tup acc) := ⟨_, rfl⟩
    have q3 : SqT K G3 q' acc := by rw [hG3]; exact SqT.of upd_same
    rw [← hG3] at s03 hM3
    rw [← hG3]
    have hp3 := s03 _ _ hp
    refine ⟨_, rfl, p, C, dx, _, rfl, hp3, S.cl, S.nQ, (by show 3 < 1000; decide), ?_⟩
    rw [deskF_putQ]
    have cI : Chg p G3 (upd G3 p (.ins C dx (deskF h (.ref q') b))) := Chg.self
    have q4 := sqt_chgI hp3 cI q3
    have hM4 := hM3.imp fun a zs z => sqt_chgI hp3 cI z
    have c4 : Chg p H (upd G3 p (.ins C dx (deskF h (.ref q') b))) := fun z o n e => cI _ _ n (s03 _ _ e)
    have hp4 : upd G3 p (.ins C dx (deskF h (.ref q') b)) p = some (.ins C dx (deskF h (.ref q') b)) := upd_same
    refine ⟨_, rfl, p, dx, _, rfl, hp4, deskF_no _ _ _ (by decide +kernel) (by decide +kernel) (by decide +kernel), give_stay (E := E0) hp4 q4 hM4 ?_ fun l H' hl ch out => ?_⟩
    · rcases hm.or with z | ⟨z, e⟩
      · exact .inl z
      · exact .inr ⟨z, by rw [e]; rfl⟩
    · have pl : l ≠ p := by intro z; rw [z, hp4] at hl; cases hl
      exact q l H' (c4.back hl pl) (c4.trans ch) out
/-! ### take_gone -/
def seatN (k : List Int) : Int := k.getD 1 0
theorem seat_at {k : List Int} (h : k.length = 3) : atI (k.map V.int) 1 = some (.int (seatN k)) :=
  match k, h with
  | [a, b, c], _ => (show atI ([a, b, c].map V.int) ((1 : Nat) : Int) = some (.int b) from atI_nat rfl)
def isSeat (m : Option (List Int)) (v : Int) : Bool := match m with | none => false | some k => decide (seatN k = v)
def spGone (K : PySem.W.Frag) (C : Addr) : Sp := fun vs H Q _ => ∃ (p dx qa : Addr) (h : V) (b : Bool) (xs : List V) (M : List (List Int)) (m : Option (List Int)) (v : Int), vs = [.ref p, .int v] ∧
  H p = some (.ins C dx (deskF h (.ref qa) b)) ∧ SqT K H qa xs ∧ Sts K H xs M ∧ HoldM K H h M m ∧ M.length < 63 ∧
  (if isSeat m v = true then ∀ l H', H l = none → Chg p H H' → Out K C p dx H' l (M.filter fun k => !decide (seatN k = v)) → Q (.ref l) H'
    else ∀ l H', H l = none → Chg p H H' → Stay K C p dx h b H' l (M.filter fun k => !decide (seatN k = v)) → Q (.ref l) H')
theorem dec_ii {a b : Int} : decide (V.int a = V.int b) = decide (a = b) := decide_eq_decide.mpr ⟨fun h => by cases h; rfl, fun h => by rw [h]⟩
theorem sc_Desk_take_gone : FnScope ["self", "seat", "stamp"] ["self", "seat"] (defScope s_Desk_take_gone) :=
  ⟨rfl, rfl, rfl, by decide +kernel, rfl, by decide +kernel, by decide +kernel⟩
theorem ok_gone (F : Fun K "take_gone" "Desk.take_gone" s_Desk_take_gone f fd) (T : BlD mg) (S : DeskT K mg C) (MV : Me P w K mg base C "_give_the_free_vote" 1 ["self"] (spGive K C)) (MF : Me P w K mg base C "_free" 1 ["self"] (spFree C)) :
    FnOk P w K mg base CX0 2 f fd ["self", "seat"] (spGone K C) := by
  obtain ⟨fV, fdV, GV, bV, mV⟩ := MV
  obtain ⟨fF, fdF, GF, bF, mF⟩ := MF
  refine F.ok sc_Desk_take_gone (fun vs H Q E h => ?_) (fun cdv A outer s H vs Q E hr h => ?_)
  · obtain ⟨p, dx, qa, h, b, xs, M, m, v, rfl, _⟩ := h
    rfl
  obtain ⟨p, dx, qa, h, b, xs, M, m, v, rfl, hp, hq, hs, hm, len, q⟩ := h
  refine ⟨_, (pss_cons (ps_fld (pv 0) (pe_callTy call_tuple_of (by rfl) T.tuple (by decide +kernel) (pa_cons (pe_lc (own := [("stamp", 2)]) (g := gName 2)  (by rfl) sc_Desk_take_gone.nd (pi_tup (pe_fld (pv 0) (by rfl))) (blkOk_by (N := ["self", "seat", "stamp"]) (sc := defScope s_Desk_take_gone) (by decide +kernel)) (fun _ _ _ _ _ => pg_name (i := 2) sc_Desk_take_gone.nd rfl (Or.inl rfl)) (fun _ _ _ _ _ => pts_one (pt_cmpR op_ne (pe_ix (ix_tupK K) (pv 2) pe_int (fun _ _ => rfl)) (pv 1) (nomark _))) (fun _ _ _ _ _ => (pv 2))) pa_nil)) rfl)
    (pss_cons (ps_if (PW.pt (pw_and (pt_cmpR op_notN (pe_fld (pv 0) (by rfl)) pe_non (nomark _)) (pw_and1 (pt_cmpR op_eq (pe_ix ix_tup (pe_fld (pv 0) (by rfl)) pe_int (fun _ _ => rfl)) (pv 1) (nomark _)))))
    (pss_one (ps_expr (pe_meth0 (pv 0) S.cl mF GF hr bF .nil pass0)))
    pss_nil)
    (pss_one (ps_ret (pe_meth0 (pv 0) S.cl mV GV hr bV .nil pass0))))), ?_⟩
  refine ⟨_, rfl, p, C, dx, _, _, rfl, hp, S.cl, S.nQ, deskF_queue _ _ _, _, rfl, ⟨_, hq⟩, fun J hJ => ?_⟩
  refine lc_tup (K := K) (a := qa) (xs := xs) (fun i G => ∃ acc : List V, G J = some (.lst acc) ∧ Sts K G acc ((M.take i).filter (fun k => !decide (seatN k = v))) ∧ Same H G ∧ acc.length ≤ i)
    ⟨[], upd_same, by simpa using Sts.nil, same_upd hJ, Nat.le_refl _⟩ (fun i G _ h => by obtain ⟨_, _, _, z, _⟩ := h; exact sqt_same z hq) ?_ ?_
  · rintro i x G hi ⟨acc, hG, hA, sG, lA⟩
    obtain ⟨k, ek, tk, sk⟩ := hs.at hi
    obtain ⟨tx, rfl, zx⟩ := tk
    have i63 : i < 63 := by
      have := (List.getElem?_eq_some_iff.mp ek).1
      omega
    refine ⟨rfl, _, rfl, tx, _, _, _, rfl, rfl, sqt_same sG zx, seat_at sk.1, _, rfl, rfl, _, rfl, ?_⟩
    rw [filt_snoc ek]
    refine ite2 (fun c2 => ?_) (fun c2 => ?_)
    · have c3 : (fun k => !decide (seatN k = v)) k = true := (by simpa [dec_ii] using c2)
      rw [if_pos c3]
      have s9 : Same H (upd G J (.lst (acc ++ [.ref tx]))) := fun z o e => by rw [upd_ne (ne_of_none e hJ)]; exact sG _ _ e
      have nT : ∀ {a : Addr} {zs : List V}, SqT K G a zs → SqT K (upd G J (.lst (acc ++ [.ref tx]))) a zs := fun z => sqt_chg ⟨_, hG⟩ Chg.self z
      refine ⟨_, rfl, acc, hG, Nat.lt_of_lt_of_le (show acc.length < 100 by omega) (by decide), acc ++ [.ref tx], upd_same, (hA.imp fun a zs z => nT z).app (Sts.one ⟨tx, rfl, nT (sqt_same sG zx)⟩ sk), s9, by rw [List.length_append, List.length_singleton]; omega⟩
    · have c3 : ¬ ((fun k => !decide (seatN k = v)) k = true) := (by simpa [dec_ii] using c2)
      rw [if_neg c3, List.append_nil]
      exact ⟨acc, hG, hA, sG, Nat.le_succ_of_le lA⟩
  rintro G ⟨acc, hG, hA, sG, lA⟩
  have lx := hs.len
  rw [lx, List.take_length] at hA
  refine ⟨_, _, rfl, .inl ⟨SqL.of hG, ?_⟩⟩
  intro q' hq'
  have s03 : Same H (upd G q' (.tup acc)) := sG.trans (same_upd hq')
  have hM3 : Sts K (upd G q' (.tup acc)) acc _ := hA.imp fun a zs z => sqt_same (same_upd hq') z
  obtain ⟨G3, hG3⟩ : ∃ G3, G3 = upd G q' (.tup acc) := ⟨_, rfl⟩
  have q3 : SqT K G3 q' acc := by rw [hG3]; exact SqT.of upd_same
  rw [← hG3] at s03 hM3
  rw [← hG3]
  have hp3 := s03 _ _ hp
  refine ⟨_, rfl, p, C, dx, _, rfl, hp3, S.cl, S.nQ, (by show 3 < 1000; decide), ?_⟩
  rw [deskF_putQ]
  have cI : Chg p G3 (upd G3 p (.ins C dx (deskF h (.ref q') b))) := Chg.self
  have q4 := sqt_chgI hp3 cI q3
  have hM4 := hM3.imp fun a zs z => sqt_chgI hp3 cI z
  have c4 : Chg p H (upd G3 p (.ins C dx (deskF h (.ref q') b))) := fun z o n e => cI _ _ n (s03 _ _ e)
  have hp4 : upd G3 p (.ins C dx (deskF h (.ref q') b)) p = some (.ins C dx (deskF h (.ref q') b)) := upd_same
  refine ⟨_, rfl, p, C, dx, _, _, rfl, hp4, S.cl, S.nH, deskF_holder _ _ _, ?_⟩
  have stay : isSeat m v = false → (∀ l H', H l = none → Chg p H H' → Stay K C p dx h b H' l (M.filter fun k => !decide (seatN k = v)) → Q (.ref l) H') := fun e => by rw [e] at q; exact q
  rcases id hm with ⟨rfl, rfl, rfl⟩ | ⟨hh, n, rfl, ⟨th, eh, zh⟩, sn, rfl⟩
  · refine ⟨rfl, _, rfl, iteF' (by simp) ?_⟩
    refine ⟨_, rfl, p, dx, _, rfl, hp4, deskF_no _ _ _ (by decide +kernel) (by decide +kernel) (by decide +kernel), give_stay (E := E0) hp4 q4 hM4 (.inr ⟨rfl, rfl⟩) fun l H' hl ch out => ?_⟩
    have pl : l ≠ p := by intro z; rw [z, hp4] at hl; cases hl
    exact stay rfl l H' (c4.back hl pl) (c4.trans ch) out
  · refine ⟨rfl, _, rfl, iteT' (by simp) ?_⟩
    cases eh
    have zh4 := sqt_chgI hp c4 zh
    refine ⟨_, rfl, p, C, dx, _, _, rfl, hp4, S.cl, S.nH, deskF_holder _ _ _, hh, _, _, _, rfl, rfl, zh4, seat_at sn.1, _, rfl, rfl, _, rfl, ?_⟩
    rw [dec_ii]
    by_cases c : seatN n = v
    · refine iteT' (by simp [c]) ?_
      have qq : ∀ l H', H l = none → Chg p H H' → Out K C p dx H' l (M.filter fun k => !decide (seatN k = v)) → Q (.ref l) H' := by
        rw [show isSeat (some n) v = true from by simp [isSeat, c]] at q
        exact q
      refine ⟨_, rfl, p, dx, _, rfl, hp4, deskF_no _ _ _ (by decide +kernel) (by decide +kernel) (by decide +kernel), p, dx, _, _, _, rfl, hp4, ?_⟩
      have cJ : Chg p (upd G3 p (.ins C dx (deskF (.ref hh) (.ref q') b))) (upd (upd G3 p (.ins C dx (deskF (.ref hh) (.ref q') b))) p (.ins C dx (deskF .non (.ref q') false))) := Chg.self
      have c5 := c4.trans cJ
      have hp5 : upd (upd G3 p (.ins C dx (deskF (.ref hh) (.ref q') b))) p (.ins C dx (deskF .non (.ref q') false)) p = some (.ins C dx (deskF .non (.ref q') false)) := upd_same
      refine ⟨_, rfl, p, dx, _, rfl, hp5, deskF_no _ _ _ (by decide +kernel) (by decide +kernel) (by decide +kernel), give_out (E := E0) hp5 (sqt_chgI hp4 cJ q4) (hM4.imp fun a zs z => sqt_chgI hp4 cJ z) (Nat.lt_of_le_of_lt (List.length_filter_le _ _) (by omega)) fun l H' hl ch out => ?_⟩
      have pl : l ≠ p := by intro z; rw [z, hp5] at hl; cases hl
      exact qq l H' (c5.back hl pl) (c5.trans ch) out
    · refine iteF' (by simp [c]) ?_
      refine ⟨_, rfl, p, dx, _, rfl, hp4, deskF_no _ _ _ (by decide +kernel) (by decide +kernel) (by decide +kernel), give_stay (E := E0) hp4 q4 hM4 (.inl ⟨_, rfl⟩) fun l H' hl ch out => ?_⟩
      have pl : l ≠ p := by intro z; rw [z, hp4] at hl; cases hl
      exact stay (by simp [isSeat, c]) l H' (c4.back hl pl) (c4.trans ch) out
end

end G0
/-! A def with the cell __class__: its first statement says super().__init__(..). -/
namespace G0
open PySem PySem.Spec PyProof.Rows L2 NdefX
abbrev nfS (name qual : Str) (params : Arguments) (body : List Stmt) (scope : Scope) (cc cda : Addr) : NF := ⟨name, qual, params, body, scope, [("__class__", cc)], cda⟩
/-- a statement whose code must be told -/
def P1 (X : Cx) (body : List Stmt) (st : Stmt) (t : TS) : Prop :=
  ∀ (pins : List (Addr × Obj)) (s : Shared) (σ : L2.St) (H : Hp) (D : Ends), Inv X pins σ H s → t D σ H →
    _root_.PySem.wpAt (model X.prog X.w) X.A (.func body X.env) (exec st X.env) (SP X pins D) X.xe s
theorem fnS_of {CX : CXT} {P : Program} {w : World} {K : PySem.W.Frag} {mg : Str → Option Value} {base : Heap} {k : Nat}
    {f cc cda : Addr} {name qual : Str} {params : Arguments} {st : Stmt} {body : List Stmt} {scope : Scope} {dV kV doc pm ct oc cl : Value} {v : Option Value}
    {an od cld : Option Addr} {osl csl : Array (Option Value)} {N ps : List Str} {sp : Sp}
    (lk : K.lookup f = some ⟨oc, od, .func (PySem.W.ksFn name qual params (st :: body) scope dV kV doc pm an (.ref cda) ct cc), osl⟩)
    (coded : PySem.W.codeIn K (.ref cda) qual = true) (lc : K.lookup cc = some ⟨cl, cld, .cell v, csl⟩) (S : NScope N ps ["__class__"] scope)
    (len : ∀ zs G R W, sp zs G R W → zs.length = ps.length)
    (inner : ∀ (A : Around) (outer : List Env) (s : Shared) (H : Hp) (vs : List V) (Q : VK) (E : XK),
      Room k (A.deeper (envF (nfS name qual params (st :: body) scope cc cda) f s.heap.objs.size)) → sp vs H Q E →
      ∃ t1 t2, P1 (ncx CX P w K mg base N (nfS name qual params (st :: body) scope cc cda) f A outer s H E) (st :: body) st t1 ∧
        PSs (ncx CX P w K mg base N (nfS name qual params (st :: body) scope cc cda) f A outer s H E) body t2 ∧
        t1 { nx := fun σ' H' => t2 { nx := fun _ H' => Q .non H', rt := Q } σ' H', rt := Q } (startF N vs [none]) H) :
    FnOk P w K mg base CX (k + 1) f (PySem.W.ksFn name qual params (st :: body) scope dV kV doc pm an (.ref cda) ct cc) ps sp := by
  refine ⟨len, fun A outer s H given us vs Q E hr e0 bd r hsp => ?_⟩
  have hl := len _ _ _ _ hsp
  have KX : K.In s.heap := e0.mod.kin.keeps fun b o z => (e0.bs b o z).1
  have lim : s.heap.NoLimit := e0.mod.nolimit.keeps fun b o e => (e0.bs b o e).1
  have CA : CellsAt [("__class__", cc)] ["__class__"] [none] s.heap H := {
    len := rfl
    all := fun y c e => by
      have : c = cc := by
        simp only [List.lookup] at e
        split at e
        · exact (Option.some.inj e).symm
        · cases e
      subst this
      exact ⟨(e0.bs _ _ (e0.mod.kin _ _ lc)).2, v, ⟨_, KX _ _ lc, rfl⟩⟩
    inj := fun x y c h1 h2 => by
      have q : ∀ z c', List.lookup z [(("__class__" : Str), cc)] = some c' → z = "__class__" := fun z c' e => by
        simp only [List.lookup] at e
        split at e
        · rename_i h
          exact beq_iff_eq.mp h
        · cases e
      rw [q _ _ h1, q _ _ h2]
    has := fun i y e => by
      match i, e with
      | 0, e =>
        cases e
        exact ⟨cc, rfl, fun v h => by cases h⟩
      | i + 1, e => cases e }
  refine codeAny_call_function hr.depth (KX _ _ lk) rfl S.co S.gen rfl (PySem.W.codeRec_of KX coded) (bd _ _ _ _ ?_)
  refine wpAny_newFunctionEnv S.nocell (fun ⟨n, _⟩ hy => S.par n (List.of_mem_zip hy).1) (fun h₁ hns hsb => ⟨lim.fresh _ hsb, ?_⟩) S.kind
  show codeAny _ _ (.func (st :: body) (envF (nfS name qual params (st :: body) scope cc cda) f s.heap.objs.size)) _ _
  refine PySem.ks_codeAny_funcAt ?_
  have kp : ∀ b o, s.heap.get? b = some o → h₁.get? b = some o := fun b o e => hsb.extBut b o (Nat.ne_of_lt (Heap.lt_size e)) (Heap.get?_push_of_some _ e)
  obtain ⟨t1, t2, h1, h2, hq⟩ := inner A outer s H vs Q E (hr.deeper _) hsp
  have I : Inv (ncx CX P w K mg base N (nfS name qual params (st :: body) scope cc cda) f A outer s H E) [] (startF N vs [none]) H { s with heap := h₁, toks := s.toks + (ps.zip us).length } := inv_startN S hr.hd e0 hl r CA hns kp
  have fin : ∀ {σ' : L2.St} {H' : Hp} {v : V} {u : Value} {s' : Shared}, Inv (ncx CX P w K mg base N (nfS name qual params (st :: body) scope cc cda) f A outer s H E) [] σ' H' s' → L2.RelV v u → Q v H' → CE outer P w H s Q u s' :=
    fun {σ' H' v u s'} J rv q => ⟨v, H', J.os, J.bare, J.base, J.hok, rv, q⟩
  refine PySem.ks_wpAt_execs_cons (PySem.ks_wpAt_mono (h1 [] _ (startF N vs [none]) H _ I hq) (fun fl s' hs => ?_) fun e s' hs => hs)
  match fl, hs with
  | .ret u, ⟨v, σ', H', J, rv, q⟩ => exact fin J rv q
  | .brk, ⟨_, _, _, q⟩ => exact False.elim q
  | .cont, ⟨_, _, _, q⟩ => exact False.elim q
  | .next, ⟨σ', H', J, q⟩ =>
    refine _root_.PySem.wpAt_of_wpAny (wpAny_mono (h2.run [] _ σ' H' _ J q) (fun fl s' hs => ?_) fun e s' hs => hs)
    match fl, hs with
    | .ret u, ⟨v, σ', H', J, rv, q⟩ => exact fin J rv q
    | .next, ⟨σ', H', J, q⟩ => exact fin (v := V.non) (u := Value.none) J rfl q
    | .brk, ⟨_, _, _, q⟩ => exact False.elim q
    | .cont, ⟨_, _, _, q⟩ => exact False.elim q
end G0
namespace G0
open PySem PySem.Spec PyProof.Rows L2 NdefX
/-- what super() without arguments asks of the text and the written part -/
structure SupF (P : Program) (K : PySem.W.Frag) (N : List Str) (f cc cda D : Addr) (fd : FuncData) (params : Arguments) (scope : Scope) : Prop where
  fun_ : ∃ oc od osl, K.lookup f = some ⟨oc, od, .func fd, osl⟩ ∧ fd.params = params
  arg : ∃ ar : Arg, (params.posonlyargs ++ params.args).head? = some ar ∧ N[0]? = some ar.arg ∧ scope.names.lookup ar.arg = some .local
  code : ∃ ccl cdd vs ccs file tf, K.lookup cda = some ⟨ccl, cdd, .fields vs, ccs⟩ ∧ vs[2]? = some (.str file tf) ∧ ((P.main.file : Str) == file) = true
  cell : ∃ cl cld csl, K.lookup cc = some ⟨cl, cld, .cell (some (.ref D)), csl⟩
  cls : ∃ cdD, PySem.W.clsIn K D = some cdD
  miss : PySem.W.nsIn K mainGlobals "super" = some none
  sup : scope.names.lookup ("super" : Str) = some .globalImplicit
  own : scope.names.lookup ("__class__" : Str) = some .free
  kind : scope.kind = .function
  top : (P.main.scope.names.lookup ("super" : Str)).isSome = false
  any_ : PySem.W.nsIn K cStatics "thirdparty.any" = some none
/-- super() is made: an object of its own, held by a pin -/
theorem sup_node {CX : CXT} {P : Program} {w : World} {K : PySem.W.Frag} {mg : Str → Option Value} {base : Heap} {N : List Str}
    {f cc cda D a C : Addr} {name qual : Str} {params : Arguments} {st : List Stmt} {scope : Scope} {fd : FuncData}
    {A : Around} {outer : List Env} {s0 : Shared} {H0 : Hp} {E : XK} {pins : List (Addr × Obj)} {s : Shared} {σ : L2.St} {H : Hp} {p0 p1 : Pos} {attr : Str} {whole : Sem Value} {Q : Value → Shared → Prop} {EE : Value → Shared → Prop} {ox : Obj} {odx : Option Obj}
    (F : SupF P K N f cc cda D fd params scope)
    (I : Inv (ncx CX P w K mg base N (nfS name qual params st scope cc cda) f A outer s0 H0 E) pins σ H s) (hs : σ[0]? = some (some (.ref a)))
    (J : PySem.W.InstAt s.heap a ox C odx) (hsub : PySem.W.mroIn K C (.ref D) = some true) (hat : (attr == ("__class__" : Str)) = false)
    (h : ∀ h', (∀ b o, s.heap.get? b = some o → h'.get? b = some o) → h'.get? s.heap.objs.size = some (PySem.W.ks_superObj D a C) → Q (.ref s.heap.objs.size) { s with heap := h' }) :
    _root_.PySem.wpAt (model P w) (A.deeper (envF (nfS name qual params st scope cc cda) f s0.heap.objs.size)) (.func st (envF (nfS name qual params st scope cc cda) f s0.heap.objs.size))
      (attributeBase (.Call (.Name "super" p0) [] [] p1) attr (envF (nfS name qual params st scope cc cda) f s0.heap.objs.size) whole) Q EE s := by
  obtain ⟨oc, od, osl, hf, hpar⟩ := F.fun_
  obtain ⟨ar, hp, hN, hka⟩ := F.arg
  obtain ⟨ccl, cdd, vs, ccs, file, tf, hcode, hvs, hfile⟩ := F.code
  obtain ⟨cl, cld, csl, hcell⟩ := F.cell
  obtain ⟨cdD, hD⟩ := F.cls
  have X : K.In s.heap := I.kIn
  have M : Mod K mg base := I.mod
  obtain ⟨mb, hb, hboot⟩ := M.blt
  obtain ⟨m, hns, hlook⟩ := I.loc
  obtain ⟨u, ru, look⟩ := hlook 0 ar.arg (.ref a) hN hs (.inl hka)
  have ru : u = Value.ref a := ru
  subst ru
  have hv : m ar.arg = some (.ref a) := by
    rcases look with ⟨_, e⟩ | ⟨e, _⟩
    · exact e
    · exfalso
      have e : scope.names.lookup ar.arg = some .cell ∨ scope.names.lookup ar.arg = some .free := e
      rw [hka] at e
      rcases e with e | e <;> cases e
  have kb : ∀ b o, base.get? b = some o → s.heap.get? b = some o := I.bk
  obtain ⟨hh, g, d, t, os⟩ := s
  obtain ⟨oD, hD1, hD2⟩ : ∃ oD, hh.get? D = some oD ∧ oD.data = .cls cdD := by
    unfold PySem.W.clsIn at hD
    split at hD
    · rename_i c d cd' sl ho
      cases hD
      exact ⟨_, X _ _ ho, rfl⟩
    · cases hD
  subst hpar
  refine PySem.ks_wpAt_super_base F.sup F.own hat rfl (X _ _ hf) rfl hp rfl (X _ _ hcode) rfl hvs hfile F.top ?_
  refine PySem.W.ks_loadName_global F.kind F.sup (PySem.Calls.loadGlobal_builtin (M.glob.keeps kb) (PySem.W.mg_none_of M.kin M.glob F.miss) (hb.keeps kb) ((hboot _ (by decide +kernel)).trans (show bootBuiltins "super" = some (.type "super") by first | rfl | decide +kernel)) ⟨rfl, ?_⟩)
  refine wpAny_loadName_free F.kind F.own rfl ⟨_, X _ _ hcell, rfl⟩ ?_
  refine wpAny_loadName_local F.kind hka hns hv ?_
  refine PySem.ks_wpAny_isType_cls hD1 hD2 ⟨rfl, ?_⟩
  refine PySem.ks_wpAny_call_super hD1 hD2 J.at_ J.cls (fun c e => ?_) (PySem.W.looks_mroIn X hsub) (fun h' e k => h h' k e)
  have := J.no
  unfold PySem.W.notCls at this
  rw [e] at this
  exact Bool.noConfusion this
end G0
namespace G0
open PySem PySem.Spec PyProof.Rows L2 NdefX
section
variable {prog : Program} {w : World} {A : Around} {E : Value → Shared → Prop} {h : Heap} {g : Array GenState} {d : Drawn} {t : Nat} {os : OsState}
/-- a bound ValueError.__init__ is called: the exception's arguments are laid anew -/
theorem mw_code {nm q : Str} {C N : Addr} {bs bm : List Value} {hdct : Bool} {sn : List Str} {sub : List Value} {ab : Bool} {col : Option Bool} {dd : Option Addr} {k0 k1 k2 k3 k5 : Option Value} {u e t0 : Addr} {rest : List Value} {Q : Value → Shared → Prop}
    (hC : h.get? C = some (excClassObj nm q C N bs bm hdct sn sub ab col dd k0 k1 k2 k3 k5 "ValueError.__new__")) (he : h.get? e = some (PySem.HandSPX.excO C t0)) (hu : h.get? u = some (PySem.W.kxs_mw "ValueError.__init__" e)) (few : rest.length ≤ sizeLine)
    (k : ∀ h' t1, (∀ b o, b ≠ e → h.get? b = some o → h'.get? b = some o) → h'.get? e = some (PySem.HandSPX.excO C t1) → Q .none ⟨h', g, d, t, os⟩) :
    wpAny (model prog w) A (call (.ref u) rest) Q E ⟨h, g, d, t, os⟩ := by
  refine wpAny_call (codeAny_of_tree ?_)
  show wpAny _ A.in1 (callAny (.ref u) ⟨rest, []⟩) _ _ _
  simp only [callAny]
  refine wpAny_bind (wpAny_load hu ?_)
  simp only [PySem.W.kxs_mw, show (Value.type "method-wrapper" == Value.type "method" || Value.type "method-wrapper" == Value.type "builtin_function_or_method" || Value.type "method-wrapper" == Value.type "method-wrapper") = true by decide, if_true]
  refine PySem.W.KFB.if_so (by decide) ?_
  refine wpAny_bind (PySem.ESX.check_bound PySem.F.excBase_ValueError hC he rfl ?_)
  refine wpAny_bind (wpAny_pure (wpAny_pure ?_))
  refine ⟨Code.quiet_builtin _ (by decide +kernel), codeAny_builtin PySem.F.excBase_ValueError.initEntry ?_⟩
  rw [Around.under_plainId PySem.F.excBase_ValueError.init.plain _]
  wp_walk
  refine k _ h.objs.size (fun b o hb ho => ?_) ?_
  · rw [Heap.get?_update_other _ _ (Ne.symm hb)]
    exact Heap.get?_push_of_some _ ho
  · rw [Heap.get?_update_self _ (Heap.get?_push_of_some _ he) rfl]
    rfl
end
section
variable {X : Cx} {pins : List (Addr × Obj)} {σ : L2.St} {H : Hp} {s : Shared} {a C u : Addr} {us : List Value} {Q : Value → Shared → Prop} {E : Value → Shared → Prop} {A : Around}
theorem mw_ok (T : OexC X.K C) (I : Inv X pins σ H s) (e : H a = some (exo a C none)) (hu : s.heap.get? u = some (PySem.W.kxs_mw "ValueError.__init__" a)) (hl : us.length ≤ sizeLine) (k : ∀ s', Inv X pins σ H s' → Q .none s') :
    wpAny (model X.prog X.w) A (call (.ref u) us) Q E s := by
  obtain ⟨nm, q, N, bs, bm, sn, sub, ab, col, dd, k0, k1, k2, k3, k5, hC, hbm⟩ := T.cls
  obtain ⟨t1, ho⟩ := exo_at I.hok e
  obtain ⟨hp, g, d, t, os⟩ := s
  refine mw_code (I.kIn _ _ hC) ho hu hl fun h' t2 keep hx => ?_
  have J := I.write (t' := t) (x := a) (e := a) (o := exo a C none) (by rw [e]; exact True.intro) (.inl rfl) keep ⟨_, hx⟩ (exo_ok hx)
  have eu : upd H a (exo a C none) = H := by
    funext b
    by_cases hb : b = a
    · rw [hb, upd_same, e]
    · rw [upd_ne hb]
  rw [eu] at J
  exact k _ J
end
end G0
namespace G0
open PySem PySem.Spec PyProof.Rows L2 NdefX
/-- super().__init__(..) of an own exception -/
def tSupX (K : PySem.W.Frag) (D : Addr) (ta : TA) : TS := fun Dn σ H => ∃ a C : Addr, σ[0]? = some (some (.ref a)) ∧ OexC K C ∧ H a = some (exo a C none) ∧ PySem.W.mroIn K C (.ref D) = some true ∧
  PySem.W.ks_superIn K C D "__init__" = some (some (.builtin "ValueError.__init__")) ∧ PySem.W.subIn K (.ref C) (.type "ValueError") = some true ∧
  ta σ H fun vs H1 => vs.length ≤ 1000 ∧ H1 a = some (exo a C none) ∧ Dn.nx σ H1
theorem p1_supX {CX : CXT} {P : Program} {w : World} {K : PySem.W.Frag} {mg : Str → Option Value} {base : Heap} {N : List Str}
    {f cc cda D : Addr} {name qual : Str} {params : Arguments} {st : List Stmt} {scope : Scope} {fd : FuncData}
    {A : Around} {outer : List Env} {s0 : Shared} {H0 : Hp} {E : XK} {p0 p1 ap pos pos' : Pos} {e : Expr} {es : List Expr} {ta : TA} {pl : Sem Bool}
    (F : SupF P K N f cc cda D fd params scope) (ha : PA (ncx CX P w K mg base N (nfS name qual params st scope cc cda) f A outer s0 H0 E) (e :: es) ta)
    (he : starEach (e :: es) (envF (nfS name qual params st scope cc cda) f s0.heap.objs.size) = (false, eval e (envF (nfS name qual params st scope cc cda) f s0.heap.objs.size)) :: starEach es (envF (nfS name qual params st scope cc cda) f s0.heap.objs.size) := by rfl)
    (hpl : (backTo pos (starEach es (envF (nfS name qual params st scope cc cda) f s0.heap.objs.size))).any (·.1) = false := by rfl)
    (hsw : swapsWith (.Call (.Attribute (.Call (.Name "super" p0) [] [] p1) "__init__" ap) (e :: es) [] pos) none pos'.line (envF (nfS name qual params st scope cc cda) f s0.heap.objs.size) = pure false := by rfl)
    (hev : eval (.Call (.Attribute (.Call (.Name "super" p0) [] [] p1) "__init__" ap) (e :: es) [] pos) (envF (nfS name qual params st scope cc cda) f s0.heap.objs.size) = (do
      let ov ← attributeBase (.Call (.Name "super" p0) [] [] p1) "__init__" (envF (nfS name qual params st scope cc cda) f s0.heap.objs.size) (eval (.Call (.Name "super" p0) [] [] p1) (envF (nfS name qual params st scope cc cda) f s0.heap.objs.size))
      standAt ap.atName
      let (f', first) ← holding [ov] (getMethod ov "__init__" pl)
      callWith pos f' first (backTo pos (starEach (e :: es) (envF (nfS name qual params st scope cc cda) f s0.heap.objs.size))) []) := by rfl) :
    P1 (ncx CX P w K mg base N (nfS name qual params st scope cc cda) f A outer s0 H0 E) st (.Expr (.Call (.Attribute (.Call (.Name "super" p0) [] [] p1) "__init__" ap) (e :: es) [] pos) pos') (tSupX K D ta) := by
  rintro pins s σ H Dn I ⟨a, C, hs, T, ea, hm, hsu, hve, q⟩
  obtain ⟨t0, ho⟩ := exo_at I.hok ea
  have J : PySem.W.InstAt s.heap a _ C none := ⟨ho, rfl, rfl, trivial⟩
  have fresh := I.hok.fresh (Nat.le_refl s.heap.objs.size)
  refine PySem.ks_wpAt_Expr_any (PySem.ks_wpAt_MethodCall (sup_node F I hs J hm (by decide) fun h' k e1 => ?_) hev) I.quiet hsw
  obtain ⟨hh, g, d, t, os⟩ := s
  have I1 : Inv (ncx CX P w K mg base N (nfS name qual params st scope cc cda) f A outer s0 H0 E) pins σ H ⟨h', g, d, t, os⟩ := I.kept (t' := t) k
  have X1 : K.In h' := I1.kIn
  obtain ⟨t1, ho1⟩ := exo_at I1.hok ea
  have J1 : PySem.W.InstAt h' a _ C none := ⟨ho1, rfl, rfl, trivial⟩
  have hI : PySem.W.Looks (model P w) h' (isInstance (.ref a) (.type "ValueError")) true := J1.type.andThen (PySem.W.looks_subIn X1 hve)
  cases hc : PySem.W.clsIn K C with
  | none => unfold PySem.W.ks_superIn at hsu; rw [hc] at hsu; cases hsu
  | some cd =>
    unfold PySem.W.ks_superIn at hsu
    rw [hc] at hsu
    refine PySem.W.kxs_getMethod PySem.W.kxs_ValueError e1 (PySem.W.looks_opaque X1 F.any_) (l₀ := cd.mro) (fun A Q E s k q => wpAny_bind ((PySem.W.looks_clsIn X1 hc) A _ E s k (wpAny_pure q))) rfl X1 hsu hI (PySem.W.ks_ne X1 J1 hc) (by decide) ?_
    have k2 : ∀ b o, h'.get? b = some o → (h'.push (PySem.W.kxs_mw "ValueError.__init__" a)).get? b = some o := fun b o e => Heap.get?_push_of_some _ e
    have I2 : Inv (ncx CX P w K mg base N (nfS name qual params st scope cc cda) f A outer s0 H0 E) pins σ H ⟨h'.push (PySem.W.kxs_mw "ValueError.__init__" a), g, d, t + 1, os⟩ := I1.kept (t' := t + 1) k2
    have pin : ∀ p ∈ pins ++ [(h'.objs.size, PySem.W.kxs_mw "ValueError.__init__" a)], (h'.push (PySem.W.kxs_mw "ValueError.__init__" a)).get? p.1 = some p.2 ∧ H p.1 = none ∧
        p.1 ≠ (envF (nfS name qual params st scope cc cda) f s0.heap.objs.size).locals ∧ p.1 ∉ frs outer ∧ ∀ v, p.2.data ≠ .cell v := by
      intro p hp
      rcases List.mem_append.mp hp with hp | hp
      · exact I2.pin p (List.mem_append_right _ hp)
      · rw [List.mem_singleton.mp hp]
        exact ⟨Heap.get?_push_at rfl rfl, I1.hok.fresh (Nat.le_refl _), fun z => absurd (Nat.lt_of_le_of_lt (Nat.le_of_eq z) I1.lt) (Nat.lt_irrefl _), I1.nofs (Nat.le_refl _), fun v z => by cases z⟩
    have I3 := I2.pins_of pin
    refine PySem.W.kxs_callWith1 (h₀ := base) (L := (envF (nfS name qual params st scope cc cda) f s0.heap.objs.size).locals) (news := [(h'.objs.size, PySem.W.kxs_mw "ValueError.__init__" a)]) (i := "ValueError.__init__") (x := a) ?_ (List.mem_singleton.mpr rfl) ?_ he hpl
    · intro p hp
      have hp := List.mem_singleton.mp hp
      subst hp
      refine ⟨Heap.get?_push_at rfl rfl, fun z => absurd (Nat.lt_of_le_of_lt (Nat.le_of_eq z) I1.lt) (Nat.lt_irrefl _), ?_⟩
      cases z : base.get? h'.objs.size with
      | none => rfl
      | some o => exact absurd (Heap.lt_size (I1.bk _ _ z)) (Nat.lt_irrefl _)
    · refine wpAny_mono (ha.run pos _ _ σ H _ I3 q) (fun us s3 got => ?_) fun e s' h => h
      obtain ⟨vs, H3, I4, r, vl, ea3, qn⟩ := got
      have hu := (I4.pin (h'.objs.size, PySem.W.kxs_mw "ValueError.__init__" a) (List.mem_append_right _ (List.mem_append_right _ (List.mem_singleton.mpr rfl)))).1
      refine ⟨hu, mw_ok T I4 ea3 hu (by rw [← r.length, sizeLine_eq]; omega) fun s' I5 => ?_⟩
      exact ⟨σ, H3, I5.unpinned, qn⟩
end G0
namespace G0
open PySem PySem.Spec PyProof.Rows L2 NdefX
/-- __init__ of an own exception: super().__init__('..'), then self.f = y -/
def spXI (C : Addr) (fld : Str) : Sp := fun vs H Q _ => ∃ (a : Addr) (y : V), vs = [.ref a, y] ∧ H a = some (exo a C none) ∧ ∀ dx, H dx = none → dx ≠ a → Q .non (upd (upd H dx (exd dx [(fld, y)])) a (exo a C (some dx)))
/-- what an own exception class asks -/
structure XcK (K : PySem.W.Frag) (C : Addr) (fld : Str) : Prop where
  T : OexC K C
  mro : PySem.W.mroIn K C (.ref C) = some true
  sup : PySem.W.ks_superIn K C C "__init__" = some (some (.builtin "ValueError.__init__"))
  ve : PySem.W.subIn K (.ref C) (.type "ValueError") = some true
  no : PySem.W.findIn K (.ref C) fld = some none
theorem ok_xinit {CX : CXT} {P : Program} {w : World} {K : PySem.W.Frag} {mg : Str → Option Value} {base : Heap}
    {f cc cda C : Addr} {name qual y fld m : Str} {params : Arguments} {scope : Scope} {dV kV doc pm ct oc cl : Value} {v : Option Value}
    {an od cld : Option Addr} {osl csl : Array (Option Value)} {p0 p1 ap mp pos pos' q0 q1 q2 q3 : Pos} {j : Nat}
    (lk : K.lookup f = some ⟨oc, od, .func (PySem.W.ksFn name qual params [.Expr (.Call (.Attribute (.Call (.Name "super" p0) [] [] p1) "__init__" ap) [.Constant (.str m) j mp] [] pos) pos',
      .Assign [.Attribute (.Name "self" q0) fld q1] (.Name y q2) q3] scope dV kV doc pm an (.ref cda) ct cc), osl⟩)
    (coded : PySem.W.codeIn K (.ref cda) qual = true) (lc : K.lookup cc = some ⟨cl, cld, .cell v, csl⟩)
    (S : NScope ["self", y, "__class__"] ["self", y] ["__class__"] scope) (X : XcK K C fld) (hy1 : (y == ("__debug__" : Str)) = false) (hy2 : (y == ("__classdict__" : Str)) = false)
    (hev : ∀ env : Env, ∃ pl : Sem Bool, eval (.Call (.Attribute (.Call (.Name "super" p0) [] [] p1) "__init__" ap) [.Constant (.str m) j mp] [] pos) env = (do
      let ov ← attributeBase (.Call (.Name "super" p0) [] [] p1) "__init__" env (eval (.Call (.Name "super" p0) [] [] p1) env)
      standAt ap.atName
      let (f', first) ← holding [ov] (getMethod ov "__init__" pl)
      callWith pos f' first (backTo pos (starEach [.Constant (.str m) j mp] env)) []))
    (hsw : ∀ env : Env, swapsWith (.Call (.Attribute (.Call (.Name "super" p0) [] [] p1) "__init__" ap) [.Constant (.str m) j mp] [] pos) none pos'.line env = pure false) (hs2 : ∀ env : Env, swapsWith (.Name y q2) (some (.Attribute (.Name "self" q0) fld q1)) q3.line env = pure false)
    (F : SupF P K ["self", y, "__class__"] f cc cda C (PySem.W.ksFn name qual params [.Expr (.Call (.Attribute (.Call (.Name "super" p0) [] [] p1) "__init__" ap) [.Constant (.str m) j mp] [] pos) pos',
      .Assign [.Attribute (.Name "self" q0) fld q1] (.Name y q2) q3] scope dV kV doc pm an (.ref cda) ct cc) params scope) :
    FnOk P w K mg base CX (0 + 1) f (PySem.W.ksFn name qual params [.Expr (.Call (.Attribute (.Call (.Name "super" p0) [] [] p1) "__init__" ap) [.Constant (.str m) j mp] [] pos) pos',
      .Assign [.Attribute (.Name "self" q0) fld q1] (.Name y q2) q3] scope dV kV doc pm an (.ref cda) ct cc) ["self", y] (spXI C fld) := by
  refine fnS_of lk coded lc S ?_ fun A outer s H vs Q E hr h => ?_
  · rintro vs H Q E ⟨a, z, rfl, _⟩
    rfl
  · obtain ⟨a, z, rfl, ea, q⟩ := h
    obtain ⟨pl, hpl⟩ := hev (envF (nfS name qual params [.Expr (.Call (.Attribute (.Call (.Name "super" p0) [] [] p1) "__init__" ap) [.Constant (.str m) j mp] [] pos) pos', .Assign [.Attribute (.Name "self" q0) fld q1] (.Name y q2) q3] scope cc cda) f s.heap.objs.size)
    refine ⟨_, _, p1_supX F (pa_cons pe_str pa_nil) (hsw := hsw _) (hev := hpl), pss_one (ps_ost (pv 0 (by rfl) (.inl (S.par _ (by simp)))) (pv 1 (by rfl) (.inl (S.par _ (by simp))) hy1 hy2) (hs2 _)), ?_⟩
    refine ⟨a, C, rfl, X.T, ea, X.mro, X.sup, X.ve, by show 1 ≤ 1000; decide, ea, ?_⟩
    exact ⟨_, rfl, _, rfl, a, C, rfl, X.T, X.no, .inl ⟨ea, fun dx h1 h2 => q dx h1 h2⟩⟩
end G0
namespace G0
open PySem PySem.Spec PyProof.Rows L2 NdefX
/-- raise X(e) -/
theorem ps_raiseX {X : Cx} {W : WX} {x y fld : Str} {C fI : Addr} {fd : FuncData} {p pos pos' : Pos} {e : Expr} {te : TE} (T : OexC X.K C) (iC : PySem.W.findIn X.K (.ref C) "__init__" = some (some (.ref fI)))
    (tI : PySem.W.typeIn X.K (.ref fI) = some (.type "function")) (F1 : FnOk X.prog X.w X.K X.mg X.base CX0 1 fI fd ["self", y] (spXI C fld)) (hb : Binds X.K fd ["self", y] []) (hr : Room 2 X.A)
    (hg : Gl X x) (hm : X.mg x = some (.ref C)) (hc : X.calm = true) (tk : Takes X W) (ha : PE X e te) (hdb : (x == ("__debug__" : Str)) = false := by decide)
    (he : starEach [e] X.env = (false, eval e X.env) :: starEach [] X.env := by rfl) (hpl : (backTo pos (starEach [] X.env)).any (·.1) = false := by rfl) :
    PS X (.Raise (some (.Call (.Name x p) [e] [] pos)) none pos') (fun _ σ H => tMkO C (spXI C fld) [] (tCons te tNil) σ H fun cls d H' => W cls d σ H') :=
  ps_raise hc tk (pmk_oex T iC tI F1 hr hb .nil pass0 hg hm (pa_cons (hs := he) ha pa_nil) hdb he hpl)
theorem xc_done {C : Addr} {fld : Str} {y : V} {H1 : Hp} {R : XK} (h : ∀ d, H1 d = none → R (.ref C) (some d) (upd H1 d (.xd [(fld, y)]))) :
    [y].length ≤ 1000 ∧ ∀ a, H1 a = none → spXI C fld (.ref a :: ([y] ++ [])) (upd H1 a (exo a C none))
      (fun v H2 => v = .non ∧ ∃ (d : Addr) (fs : List (Str × V)), H2 a = some (exo a C (some d)) ∧ H2 d = some (exd d fs) ∧ H1 d = none ∧ R (.ref C) (some d) (upd (del H2 a) d (.xd fs))) (fun _ _ _ => False) := by
  refine ⟨by show 1 ≤ 1000; decide, fun a ha => ⟨a, y, rfl, upd_same, fun dx h1 h2 => ?_⟩⟩
  have hd : H1 dx = none := by rw [upd_ne h2] at h1; exact h1
  refine ⟨rfl, dx, [(fld, y)], upd_same, by rw [upd_ne h2, upd_same], hd, ?_⟩
  have e : upd (del (upd (upd (upd H1 a (exo a C none)) dx (exd dx [(fld, y)])) a (exo a C (some dx))) a) dx (.xd [(fld, y)]) = upd H1 dx (.xd [(fld, y)]) := by
    funext b
    by_cases c : b = dx
    · subst c; rw [upd_same, upd_same]
    · rw [upd_ne c, upd_ne c]
      by_cases c2 : b = a
      · subst c2; rw [del_same, ha]
      · rw [del_ne c2, upd_ne c2, upd_ne c, upd_ne c2]
  rw [e]
  exact h dx hd
end G0
namespace G0
open PySem PySem.Spec PyProof.Rows L2 NdefX ClX
/-- super().__init__(..) of an instance of an own class, D's base giving a def -/
def tSupM (K : PySem.W.Frag) (D f2 : Addr) (sp : Sp) (ta : TA) : TS := fun Dn σ H => ∃ (a C dx : Addr) (fs : List (Str × V)), σ[0]? = some (some (.ref a)) ∧ H a = some (.ins C dx fs) ∧ PySem.W.mroIn K C (.ref D) = some true ∧
  PySem.W.ks_superIn K C D "__init__" = some (some (.ref f2)) ∧ PySem.W.typeIn K (.ref f2) = some (.type "function") ∧ PySem.W.fnIn K f2 = true ∧
  ta σ H fun vs H1 => sp (.ref a :: vs) H1 (fun _ H2 => Dn.nx σ H2) (fun _ _ _ => False)
theorem p1_supM {CX : CXT} {P : Program} {w : World} {K : PySem.W.Frag} {mg : Str → Option Value} {base : Heap} {N : List Str} {k2 : Nat} {sp : Sp}
    {f cc cda D f2 : Addr} {name qual : Str} {params : Arguments} {st : List Stmt} {scope : Scope} {fd : FuncData}
    {A : Around} {outer : List Env} {s0 : Shared} {H0 : Hp} {E : XK} {p0 p1 ap pos pos' : Pos} {e : Expr} {es : List Expr} {ta : TA} {pl : Sem Bool}
    (F : SupF P K N f cc cda D fd params scope) (F2 : FnR P w K mg base CX0 k2 f2 sp) (hr : Room k2 (A.deeper (envF (nfS name qual params st scope cc cda) f s0.heap.objs.size)))
    (ha : PA (ncx CX P w K mg base N (nfS name qual params st scope cc cda) f A outer s0 H0 E) (e :: es) ta)
    (he : starEach (e :: es) (envF (nfS name qual params st scope cc cda) f s0.heap.objs.size) = (false, eval e (envF (nfS name qual params st scope cc cda) f s0.heap.objs.size)) :: starEach es (envF (nfS name qual params st scope cc cda) f s0.heap.objs.size) := by rfl)
    (hpl : (backTo pos (starEach es (envF (nfS name qual params st scope cc cda) f s0.heap.objs.size))).any (·.1) = false := by rfl)
    (hsw : swapsWith (.Call (.Attribute (.Call (.Name "super" p0) [] [] p1) "__init__" ap) (e :: es) [] pos) none pos'.line (envF (nfS name qual params st scope cc cda) f s0.heap.objs.size) = pure false := by rfl)
    (hev : eval (.Call (.Attribute (.Call (.Name "super" p0) [] [] p1) "__init__" ap) (e :: es) [] pos) (envF (nfS name qual params st scope cc cda) f s0.heap.objs.size) = (do
      let ov ← attributeBase (.Call (.Name "super" p0) [] [] p1) "__init__" (envF (nfS name qual params st scope cc cda) f s0.heap.objs.size) (eval (.Call (.Name "super" p0) [] [] p1) (envF (nfS name qual params st scope cc cda) f s0.heap.objs.size))
      standAt ap.atName
      let (f', first) ← holding [ov] (getMethod ov "__init__" pl)
      callWith pos f' first (backTo pos (starEach (e :: es) (envF (nfS name qual params st scope cc cda) f s0.heap.objs.size))) []) := by rfl) :
    P1 (ncx CX P w K mg base N (nfS name qual params st scope cc cda) f A outer s0 H0 E) st (.Expr (.Call (.Attribute (.Call (.Name "super" p0) [] [] p1) "__init__" ap) (e :: es) [] pos) pos') (tSupM K D f2 sp ta) := by
  rintro pins s σ H Dn I ⟨a, C, dx, fs, hs, ea, hm, hsu, hty, hfn, q⟩
  obtain ⟨mA, OM, _⟩ := ins_get I.hok ea
  obtain ⟨od, J, _⟩ := OM.look
  refine PySem.ks_wpAt_Expr_any (PySem.ks_wpAt_MethodCall (sup_node F I hs J hm (by decide) fun h' k e1 => ?_) hev) I.quiet hsw
  obtain ⟨hh, g, d, t, os⟩ := s
  have I1 : Inv (ncx CX P w K mg base N (nfS name qual params st scope cc cda) f A outer s0 H0 E) pins σ H ⟨h', g, d, t, os⟩ := I.kept (t' := t) k
  have X1 : K.In h' := I1.kIn
  obtain ⟨mA1, OM1, _⟩ := ins_get I1.hok ea
  obtain ⟨od1, J1, _⟩ := OM1.look
  cases hc : PySem.W.clsIn K C with
  | none => unfold PySem.W.ks_superIn at hsu; rw [hc] at hsu; cases hsu
  | some cd =>
    unfold PySem.W.ks_superIn at hsu
    rw [hc] at hsu
    obtain ⟨of, hof, hofc⟩ : ∃ of, h'.get? f2 = some of ∧ of.cls = .type "function" := by
      have ht' : (K.lookup f2).map (·.cls) = some (.type "function") := hty
      cases z : K.lookup f2 with
      | none => rw [z] at ht'; cases ht'
      | some of => rw [z] at ht'; exact ⟨of, X1 _ _ z, Option.some.inj ht'⟩
    refine PySem.ks_wpAny_getMethod_super e1 (PySem.W.looks_opaque X1 F.any_) (l₀ := cd.mro) (fun A Q E s k q => wpAny_bind ((PySem.W.looks_clsIn X1 hc) A _ E s k (wpAny_pure q))) rfl X1 hsu hof hofc (PySem.W.ks_ne X1 J1 hc) (by decide) ?_
    have I3 := met_new (g := f2) (C := a) I1
    refine callwith_cm (C := a) (g := f2) I3 ?_ hfn ?_ he hpl
    · cases z : base.get? h'.objs.size with
      | none => exact z
      | some o => exact absurd (Heap.lt_size (I1.bk _ _ z)) (Nat.lt_irrefl _)
    · refine wpAny_mono (ha.run pos _ _ σ H _ I3 q) (fun us s3 got => ?_) fun e s' h => h
      obtain ⟨vs, H3, I4, r, qn⟩ := got
      refine ⟨⟨pin_at I4, I4.kIn⟩, ?_⟩
      refine wpAny_mono (run_cm F2 hr pass0 I4 r qn) (fun u s' z => ?_) fun e s' h => h
      obtain ⟨v, H', I5, _, qq⟩ := z
      exact ⟨σ, H', I5, qq⟩
end G0
namespace G0
open PySem PySem.Spec PyProof.Rows L2
theorem n_voF_me_stt : (("me" : Str) = "state") = False := eq_false (by decide +kernel)
theorem n_voF_me_sits : (("me" : Str) = "sits") = False := eq_false (by decide +kernel)
theorem n_voF_me_cnt : (("me" : Str) = "count") = False := eq_false (by decide +kernel)
theorem n_voF_me_stp : (("me" : Str) = "stamp") = False := eq_false (by decide +kernel)
theorem n_voF_me_hnd : (("me" : Str) = "hand") = False := eq_false (by decide +kernel)
theorem n_voF_me_knw : (("me" : Str) = "known") = False := eq_false (by decide +kernel)
theorem n_voF_me_dsk : (("me" : Str) = "desk") = False := eq_false (by decide +kernel)
theorem n_voF_me_sets : (("me" : Str) = "_sets") = False := eq_false (by decide +kernel)
theorem n_voF_me_fst : (("me" : Str) = "_first") = False := eq_false (by decide +kernel)
theorem n_voF_me_sett : (("me" : Str) = "_set") = False := eq_false (by decide +kernel)
theorem n_voF_stt_me : (("state" : Str) = "me") = False := eq_false (by decide +kernel)
theorem n_voF_stt_sits : (("state" : Str) = "sits") = False := eq_false (by decide +kernel)
theorem n_voF_stt_cnt : (("state" : Str) = "count") = False := eq_false (by decide +kernel)
theorem n_voF_stt_stp : (("state" : Str) = "stamp") = False := eq_false (by decide +kernel)
theorem n_voF_stt_hnd : (("state" : Str) = "hand") = False := eq_false (by decide +kernel)
theorem n_voF_stt_knw : (("state" : Str) = "known") = False := eq_false (by decide +kernel)
theorem n_voF_stt_dsk : (("state" : Str) = "desk") = False := eq_false (by decide +kernel)
theorem n_voF_stt_sets : (("state" : Str) = "_sets") = False := eq_false (by decide +kernel)
theorem n_voF_stt_fst : (("state" : Str) = "_first") = False := eq_false (by decide +kernel)
theorem n_voF_stt_sett : (("state" : Str) = "_set") = False := eq_false (by decide +kernel)
theorem n_voF_sits_me : (("sits" : Str) = "me") = False := eq_false (by decide +kernel)
theorem n_voF_sits_stt : (("sits" : Str) = "state") = False := eq_false (by decide +kernel)
theorem n_voF_sits_cnt : (("sits" : Str) = "count") = False := eq_false (by decide +kernel)
theorem n_voF_sits_stp : (("sits" : Str) = "stamp") = False := eq_false (by decide +kernel)
theorem n_voF_sits_hnd : (("sits" : Str) = "hand") = False := eq_false (by decide +kernel)
theorem n_voF_sits_knw : (("sits" : Str) = "known") = False := eq_false (by decide +kernel)
theorem n_voF_sits_dsk : (("sits" : Str) = "desk") = False := eq_false (by decide +kernel)
theorem n_voF_sits_sets : (("sits" : Str) = "_sets") = False := eq_false (by decide +kernel)
theorem n_voF_sits_fst : (("sits" : Str) = "_first") = False := eq_false (by decide +kernel)
theorem n_voF_sits_sett : (("sits" : Str) = "_set") = False := eq_false (by decide +kernel)
theorem n_voF_cnt_me : (("count" : Str) = "me") = False := eq_false (by decide +kernel)
theorem n_voF_cnt_stt : (("count" : Str) = "state") = False := eq_false (by decide +kernel)
theorem n_voF_cnt_sits : (("count" : Str) = "sits") = False := eq_false (by decide +kernel)
theorem n_voF_cnt_stp : (("count" : Str) = "stamp") = False := eq_false (by decide +kernel)
theorem n_voF_cnt_hnd : (("count" : Str) = "hand") = False := eq_false (by decide +kernel)
theorem n_voF_cnt_knw : (("count" : Str) = "known") = False := eq_false (by decide +kernel)
theorem n_voF_cnt_dsk : (("count" : Str) = "desk") = False := eq_false (by decide +kernel)
theorem n_voF_cnt_sets : (("count" : Str) = "_sets") = False := eq_false (by decide +kernel)
theorem n_voF_cnt_fst : (("count" : Str) = "_first") = False := eq_false (by decide +kernel)
theorem n_voF_cnt_sett : (("count" : Str) = "_set") = False := eq_false (by decide +kernel)
theorem n_voF_stp_me : (("stamp" : Str) = "me") = False := eq_false (by decide +kernel)
theorem n_voF_stp_stt : (("stamp" : Str) = "state") = False := eq_false (by decide +kernel)
theorem n_voF_stp_sits : (("stamp" : Str) = "sits") = False := eq_false (by decide +kernel)
theorem n_voF_stp_cnt : (("stamp" : Str) = "count") = False := eq_false (by decide +kernel)
theorem n_voF_stp_hnd : (("stamp" : Str) = "hand") = False := eq_false (by decide +kernel)
theorem n_voF_stp_knw : (("stamp" : Str) = "known") = False := eq_false (by decide +kernel)
theorem n_voF_stp_dsk : (("stamp" : Str) = "desk") = False := eq_false (by decide +kernel)
theorem n_voF_stp_sets : (("stamp" : Str) = "_sets") = False := eq_false (by decide +kernel)
theorem n_voF_stp_fst : (("stamp" : Str) = "_first") = False := eq_false (by decide +kernel)
theorem n_voF_stp_sett : (("stamp" : Str) = "_set") = False := eq_false (by decide +kernel)
theorem n_voF_hnd_me : (("hand" : Str) = "me") = False := eq_false (by decide +kernel)
theorem n_voF_hnd_stt : (("hand" : Str) = "state") = False := eq_false (by decide +kernel)
theorem n_voF_hnd_sits : (("hand" : Str) = "sits") = False := eq_false (by decide +kernel)
theorem n_voF_hnd_cnt : (("hand" : Str) = "count") = False := eq_false (by decide +kernel)
theorem n_voF_hnd_stp : (("hand" : Str) = "stamp") = False := eq_false (by decide +kernel)
theorem n_voF_hnd_knw : (("hand" : Str) = "known") = False := eq_false (by decide +kernel)
theorem n_voF_hnd_dsk : (("hand" : Str) = "desk") = False := eq_false (by decide +kernel)
theorem n_voF_hnd_sets : (("hand" : Str) = "_sets") = False := eq_false (by decide +kernel)
theorem n_voF_hnd_fst : (("hand" : Str) = "_first") = False := eq_false (by decide +kernel)
theorem n_voF_hnd_sett : (("hand" : Str) = "_set") = False := eq_false (by decide +kernel)
theorem n_voF_knw_me : (("known" : Str) = "me") = False := eq_false (by decide +kernel)
theorem n_voF_knw_stt : (("known" : Str) = "state") = False := eq_false (by decide +kernel)
theorem n_voF_knw_sits : (("known" : Str) = "sits") = False := eq_false (by decide +kernel)
theorem n_voF_knw_cnt : (("known" : Str) = "count") = False := eq_false (by decide +kernel)
theorem n_voF_knw_stp : (("known" : Str) = "stamp") = False := eq_false (by decide +kernel)
theorem n_voF_knw_hnd : (("known" : Str) = "hand") = False := eq_false (by decide +kernel)
theorem n_voF_knw_dsk : (("known" : Str) = "desk") = False := eq_false (by decide +kernel)
theorem n_voF_knw_sets : (("known" : Str) = "_sets") = False := eq_false (by decide +kernel)
theorem n_voF_knw_fst : (("known" : Str) = "_first") = False := eq_false (by decide +kernel)
theorem n_voF_knw_sett : (("known" : Str) = "_set") = False := eq_false (by decide +kernel)
theorem n_voF_dsk_me : (("desk" : Str) = "me") = False := eq_false (by decide +kernel)
theorem n_voF_dsk_stt : (("desk" : Str) = "state") = False := eq_false (by decide +kernel)
theorem n_voF_dsk_sits : (("desk" : Str) = "sits") = False := eq_false (by decide +kernel)
theorem n_voF_dsk_cnt : (("desk" : Str) = "count") = False := eq_false (by decide +kernel)
theorem n_voF_dsk_stp : (("desk" : Str) = "stamp") = False := eq_false (by decide +kernel)
theorem n_voF_dsk_hnd : (("desk" : Str) = "hand") = False := eq_false (by decide +kernel)
theorem n_voF_dsk_knw : (("desk" : Str) = "known") = False := eq_false (by decide +kernel)
theorem n_voF_dsk_sets : (("desk" : Str) = "_sets") = False := eq_false (by decide +kernel)
theorem n_voF_dsk_fst : (("desk" : Str) = "_first") = False := eq_false (by decide +kernel)
theorem n_voF_dsk_sett : (("desk" : Str) = "_set") = False := eq_false (by decide +kernel)
theorem n_voF_sets_me : (("_sets" : Str) = "me") = False := eq_false (by decide +kernel)
theorem n_voF_sets_stt : (("_sets" : Str) = "state") = False := eq_false (by decide +kernel)
theorem n_voF_sets_sits : (("_sets" : Str) = "sits") = False := eq_false (by decide +kernel)
theorem n_voF_sets_cnt : (("_sets" : Str) = "count") = False := eq_false (by decide +kernel)
theorem n_voF_sets_stp : (("_sets" : Str) = "stamp") = False := eq_false (by decide +kernel)
theorem n_voF_sets_hnd : (("_sets" : Str) = "hand") = False := eq_false (by decide +kernel)
theorem n_voF_sets_knw : (("_sets" : Str) = "known") = False := eq_false (by decide +kernel)
theorem n_voF_sets_dsk : (("_sets" : Str) = "desk") = False := eq_false (by decide +kernel)
theorem n_voF_sets_fst : (("_sets" : Str) = "_first") = False := eq_false (by decide +kernel)
theorem n_voF_sets_sett : (("_sets" : Str) = "_set") = False := eq_false (by decide +kernel)
theorem n_voF_fst_me : (("_first" : Str) = "me") = False := eq_false (by decide +kernel)
theorem n_voF_fst_stt : (("_first" : Str) = "state") = False := eq_false (by decide +kernel)
theorem n_voF_fst_sits : (("_first" : Str) = "sits") = False := eq_false (by decide +kernel)
theorem n_voF_fst_cnt : (("_first" : Str) = "count") = False := eq_false (by decide +kernel)
theorem n_voF_fst_stp : (("_first" : Str) = "stamp") = False := eq_false (by decide +kernel)
theorem n_voF_fst_hnd : (("_first" : Str) = "hand") = False := eq_false (by decide +kernel)
theorem n_voF_fst_knw : (("_first" : Str) = "known") = False := eq_false (by decide +kernel)
theorem n_voF_fst_dsk : (("_first" : Str) = "desk") = False := eq_false (by decide +kernel)
theorem n_voF_fst_sets : (("_first" : Str) = "_sets") = False := eq_false (by decide +kernel)
theorem n_voF_fst_sett : (("_first" : Str) = "_set") = False := eq_false (by decide +kernel)
theorem n_voF_sett_me : (("_set" : Str) = "me") = False := eq_false (by decide +kernel)
theorem n_voF_sett_stt : (("_set" : Str) = "state") = False := eq_false (by decide +kernel)
theorem n_voF_sett_sits : (("_set" : Str) = "sits") = False := eq_false (by decide +kernel)
theorem n_voF_sett_cnt : (("_set" : Str) = "count") = False := eq_false (by decide +kernel)
theorem n_voF_sett_stp : (("_set" : Str) = "stamp") = False := eq_false (by decide +kernel)
theorem n_voF_sett_hnd : (("_set" : Str) = "hand") = False := eq_false (by decide +kernel)
theorem n_voF_sett_knw : (("_set" : Str) = "known") = False := eq_false (by decide +kernel)
theorem n_voF_sett_dsk : (("_set" : Str) = "desk") = False := eq_false (by decide +kernel)
theorem n_voF_sett_sets : (("_set" : Str) = "_sets") = False := eq_false (by decide +kernel)
theorem n_voF_sett_fst : (("_set" : Str) = "_first") = False := eq_false (by decide +kernel)
def voF (me : Int) (stt : Str) (sits : Bool) (cnt : Int) (stp : V) (hnd : Addr) (knw : Addr) (dsk : Addr) (sets : Addr) (fst : Int) (sett : Addr) : List (Str × V) := [("me", .int me), ("state", .str stt), ("sits", .bl sits), ("count", .int cnt), ("stamp", stp), ("hand", .ref hnd), ("known", .ref knw), ("desk", .ref dsk), ("_sets", .ref sets), ("_first", .int fst), ("_set", .ref sett)]
theorem voF_me (me : Int) (stt : Str) (sits : Bool) (cnt : Int) (stp : V) (hnd : Addr) (knw : Addr) (dsk : Addr) (sets : Addr) (fst : Int) (sett : Addr) : (voF me stt sits cnt stp hnd knw dsk sets fst sett).lookup ("me" : Str) = some (.int me) := by unfold voF; rw [List.lookup_cons_self]
theorem voF_put_me (me : Int) (stt : Str) (sits : Bool) (cnt : Int) (stp : V) (hnd : Addr) (knw : Addr) (dsk : Addr) (sets : Addr) (fst : Int) (sett : Addr) (me' : Int) : putF "me" (.int me') (voF me stt sits cnt stp hnd knw dsk sets fst sett) = voF me' stt sits cnt stp hnd knw dsk sets fst sett := by
  simp only [voF, putF, if_false, if_true]
theorem voF_stt (me : Int) (stt : Str) (sits : Bool) (cnt : Int) (stp : V) (hnd : Addr) (knw : Addr) (dsk : Addr) (sets : Addr) (fst : Int) (sett : Addr) : (voF me stt sits cnt stp hnd knw dsk sets fst sett).lookup ("state" : Str) = some (.str stt) := by unfold voF; rw [List.lookup_cons, beq_false_of_ne (fun z => by rw [n_voF_stt_me] at z; exact z)]; simp only []; rw [List.lookup_cons_self]
theorem voF_put_stt (me : Int) (stt : Str) (sits : Bool) (cnt : Int) (stp : V) (hnd : Addr) (knw : Addr) (dsk : Addr) (sets : Addr) (fst : Int) (sett : Addr) (stt' : Str) : putF "state" (.str stt') (voF me stt sits cnt stp hnd knw dsk sets fst sett) = voF me stt' sits cnt stp hnd knw dsk sets fst sett := by
  simp only [voF, putF, n_voF_me_stt, if_false, if_true]
theorem voF_sits (me : Int) (stt : Str) (sits : Bool) (cnt : Int) (stp : V) (hnd : Addr) (knw : Addr) (dsk : Addr) (sets : Addr) (fst : Int) (sett : Addr) : (voF me stt sits cnt stp hnd knw dsk sets fst sett).lookup ("sits" : Str) = some (.bl sits) := by unfold voF; rw [List.lookup_cons, beq_false_of_ne (fun z => by rw [n_voF_sits_me] at z; exact z)]; simp only []; rw [List.lookup_cons, beq_false_of_ne (fun z => by rw [n_voF_sits_stt] at z; exact z)]; simp only []; rw [List.lookup_cons_self]
theorem voF_put_sits (me : Int) (stt : Str) (sits : Bool) (cnt : Int) (stp : V) (hnd : Addr) (knw : Addr) (dsk : Addr) (sets : Addr) (fst : Int) (sett : Addr) (sits' : Bool) : putF "sits" (.bl sits') (voF me stt sits cnt stp hnd knw dsk sets fst sett) = voF me stt sits' cnt stp hnd knw dsk sets fst sett := by
  simp only [voF, putF, n_voF_me_sits, n_voF_stt_sits, if_false, if_true]
theorem voF_cnt (me : Int) (stt : Str) (sits : Bool) (cnt : Int) (stp : V) (hnd : Addr) (knw : Addr) (dsk : Addr) (sets : Addr) (fst : Int) (sett : Addr) : (voF me stt sits cnt stp hnd knw dsk sets fst sett).lookup ("count" : Str) = some (.int cnt) := by unfold voF; rw [List.lookup_cons, beq_false_of_ne (fun z => by rw [n_voF_cnt_me] at z; exact z)]; simp only []; rw [List.lookup_cons, beq_false_of_ne (fun z => by rw [n_voF_cnt_stt] at z; exact z)]; simp only []; rw [List.lookup_cons, beq_false_of_ne (fun z => by rw [n_voF_cnt_sits] at z; exact z)]; simp only []; rw [List.lookup_cons_self]
theorem voF_put_cnt (me : Int) (stt : Str) (sits : Bool) (cnt : Int) (stp : V) (hnd : Addr) (knw : Addr) (dsk : Addr) (sets : Addr) (fst : Int) (sett : Addr) (cnt' : Int) : putF "count" (.int cnt') (voF me stt sits cnt stp hnd knw dsk sets fst sett) = voF me stt sits cnt' stp hnd knw dsk sets fst sett := by
  simp only [voF, putF, n_voF_me_cnt, n_voF_stt_cnt, n_voF_sits_cnt, if_false, if_true]
theorem voF_stp (me : Int) (stt : Str) (sits : Bool) (cnt : Int) (stp : V) (hnd : Addr) (knw : Addr) (dsk : Addr) (sets : Addr) (fst : Int) (sett : Addr) : (voF me stt sits cnt stp hnd knw dsk sets fst sett).lookup ("stamp" : Str) = some (stp) := by unfold voF; rw [List.lookup_cons, beq_false_of_ne (fun z => by rw [n_voF_stp_me] at z; exact z)]; simp only []; rw [List.lookup_cons, beq_false_of_ne (fun z => by rw [n_voF_stp_stt] at z; exact z)]; simp only []; rw [List.lookup_cons, beq_false_of_ne (fun z => by rw [n_voF_stp_sits] at z; exact z)]; simp only []; rw [List.lookup_cons, beq_false_of_ne (fun z => by rw [n_voF_stp_cnt] at z; exact z)]; simp only []; rw [List.lookup_cons_self]
theorem voF_put_stp (me : Int) (stt : Str) (sits : Bool) (cnt : Int) (stp : V) (hnd : Addr) (knw : Addr) (dsk : Addr) (sets : Addr) (fst : Int) (sett : Addr) (stp' : V) : putF "stamp" (stp') (voF me stt sits cnt stp hnd knw dsk sets fst sett) = voF me stt sits cnt stp' hnd knw dsk sets fst sett := by
  simp only [voF, putF, n_voF_me_stp, n_voF_stt_stp, n_voF_sits_stp, n_voF_cnt_stp, if_false, if_true]
theorem voF_hnd (me : Int) (stt : Str) (sits : Bool) (cnt : Int) (stp : V) (hnd : Addr) (knw : Addr) (dsk : Addr) (sets : Addr) (fst : Int) (sett : Addr) : (voF me stt sits cnt stp hnd knw dsk sets fst sett).lookup ("hand" : Str) = some (.ref hnd) := by unfold voF; rw [List.lookup_cons, beq_false_of_ne (fun z => by rw [n_voF_hnd_me] at z; exact z)]; simp only []; rw [List.lookup_cons, beq_false_of_ne (fun z => by rw [n_voF_hnd_stt] at z; exact z)]; simp only []; rw [List.lookup_cons, beq_false_of_ne (fun z => by rw [n_voF_hnd_sits] at z; exact z)]; simp only []; rw [List.lookup_cons, beq_false_of_ne (fun z => by rw [n_voF_hnd_cnt] at z; exact z)]; simp only []; rw [List.lookup_cons, beq_false_of_ne (fun z => by rw [n_voF_hnd_stp] at z; exact z)]; simp only []; rw [List.lookup_cons_self]
theorem voF_put_hnd (me : Int) (stt : Str) (sits : Bool) (cnt : Int) (stp : V) (hnd : Addr) (knw : Addr) (dsk : Addr) (sets : Addr) (fst : Int) (sett : Addr) (hnd' : Addr) : putF "hand" (.ref hnd') (voF me stt sits cnt stp hnd knw dsk sets fst sett) = voF me stt sits cnt stp hnd' knw dsk sets fst sett := by
  simp only [voF, putF, n_voF_me_hnd, n_voF_stt_hnd, n_voF_sits_hnd, n_voF_cnt_hnd, n_voF_stp_hnd, if_false, if_true]
theorem voF_knw (me : Int) (stt : Str) (sits : Bool) (cnt : Int) (stp : V) (hnd : Addr) (knw : Addr) (dsk : Addr) (sets : Addr) (fst : Int) (sett : Addr) : (voF me stt sits cnt stp hnd knw dsk sets fst sett).lookup ("known" : Str) = some (.ref knw) := by unfold voF; rw [List.lookup_cons, beq_false_of_ne (fun z => by rw [n_voF_knw_me] at z; exact z)]; simp only []; rw [List.lookup_cons, beq_false_of_ne (fun z => by rw [n_voF_knw_stt] at z; exact z)]; simp only []; rw [List.lookup_cons, beq_false_of_ne (fun z => by rw [n_voF_knw_sits] at z; exact z)]; simp only []; rw [List.lookup_cons, beq_false_of_ne (fun z => by rw [n_voF_knw_cnt] at z; exact z)]; simp only []; rw [List.lookup_cons, beq_false_of_ne (fun z => by rw [n_voF_knw_stp] at z; exact z)]; simp only []; rw [List.lookup_cons, beq_false_of_ne (fun z => by rw [n_voF_knw_hnd] at z; exact z)]; simp only []; rw [List.lookup_cons_self]
theorem voF_put_knw (me : Int) (stt : Str) (sits : Bool) (cnt : Int) (stp : V) (hnd : Addr) (knw : Addr) (dsk : Addr) (sets : Addr) (fst : Int) (sett : Addr) (knw' : Addr) : putF "known" (.ref knw') (voF me stt sits cnt stp hnd knw dsk sets fst sett) = voF me stt sits cnt stp hnd knw' dsk sets fst sett := by
  simp only [voF, putF, n_voF_me_knw, n_voF_stt_knw, n_voF_sits_knw, n_voF_cnt_knw, n_voF_stp_knw, n_voF_hnd_knw, if_false, if_true]
theorem voF_dsk (me : Int) (stt : Str) (sits : Bool) (cnt : Int) (stp : V) (hnd : Addr) (knw : Addr) (dsk : Addr) (sets : Addr) (fst : Int) (sett : Addr) : (voF me stt sits cnt stp hnd knw dsk sets fst sett).lookup ("desk" : Str) = some (.ref dsk) := by unfold voF; rw [List.lookup_cons, beq_false_of_ne (fun z => by rw [n_voF_dsk_me] at z; exact z)]; simp only []; rw [List.lookup_cons, beq_false_of_ne (fun z => by rw [n_voF_dsk_stt] at z; exact z)]; simp only []; rw [List.lookup_cons, beq_false_of_ne (fun z => by rw [n_voF_dsk_sits] at z; exact z)]; simp only []; rw [List.lookup_cons, beq_false_of_ne (fun z => by rw [n_voF_dsk_cnt] at z; exact z)]; simp only []; rw [List.lookup_cons, beq_false_of_ne (fun z => by rw [n_voF_dsk_stp] at z; exact z)]; simp only []; rw [List.lookup_cons, beq_false_of_ne (fun z => by rw [n_voF_dsk_hnd] at z; exact z)]; simp only []; rw [List.lookup_cons, beq_false_of_ne (fun z => by rw [n_voF_dsk_knw] at z; exact z)]; simp only []; rw [List.lookup_cons_self]
theorem voF_put_dsk (me : Int) (stt : Str) (sits : Bool) (cnt : Int) (stp : V) (hnd : Addr) (knw : Addr) (dsk : Addr) (sets : Addr) (fst : Int) (sett : Addr) (dsk' : Addr) : putF "desk" (.ref dsk') (voF me stt sits cnt stp hnd knw dsk sets fst sett) = voF me stt sits cnt stp hnd knw dsk' sets fst sett := by
  simp only [voF, putF, n_voF_me_dsk, n_voF_stt_dsk, n_voF_sits_dsk, n_voF_cnt_dsk, n_voF_stp_dsk, n_voF_hnd_dsk, n_voF_knw_dsk, if_false, if_true]
theorem voF_sets (me : Int) (stt : Str) (sits : Bool) (cnt : Int) (stp : V) (hnd : Addr) (knw : Addr) (dsk : Addr) (sets : Addr) (fst : Int) (sett : Addr) : (voF me stt sits cnt stp hnd knw dsk sets fst sett).lookup ("_sets" : Str) = some (.ref sets) := by unfold voF; rw [List.lookup_cons, beq_false_of_ne (fun z => by rw [n_voF_sets_me] at z; exact z)]; simp only []; rw [List.lookup_cons, beq_false_of_ne (fun z => by rw [n_voF_sets_stt] at z; exact z)]; simp only []; rw [List.lookup_cons, beq_false_of_ne (fun z => by rw [n_voF_sets_sits] at z; exact z)]; simp only []; rw [List.lookup_cons, beq_false_of_ne (fun z => by rw [n_voF_sets_cnt] at z; exact z)]; simp only []; rw [List.lookup_cons, beq_false_of_ne (fun z => by rw [n_voF_sets_stp] at z; exact z)]; simp only []; rw [List.lookup_cons, beq_false_of_ne (fun z => by rw [n_voF_sets_hnd] at z; exact z)]; simp only []; rw [List.lookup_cons, beq_false_of_ne (fun z => by rw [n_voF_sets_knw] at z; exact z)]; simp only []; rw [List.lookup_cons, beq_false_of_ne (fun z => by rw [n_voF_sets_dsk] at z; exact z)]; simp only []; rw [List.lookup_cons_self]
theorem voF_put_sets (me : Int) (stt : Str) (sits : Bool) (cnt : Int) (stp : V) (hnd : Addr) (knw : Addr) (dsk : Addr) (sets : Addr) (fst : Int) (sett : Addr) (sets' : Addr) : putF "_sets" (.ref sets') (voF me stt sits cnt stp hnd knw dsk sets fst sett) = voF me stt sits cnt stp hnd knw dsk sets' fst sett := by
  simp only [voF, putF, n_voF_me_sets, n_voF_stt_sets, n_voF_sits_sets, n_voF_cnt_sets, n_voF_stp_sets, n_voF_hnd_sets, n_voF_knw_sets, n_voF_dsk_sets, if_false, if_true]
theorem voF_fst (me : Int) (stt : Str) (sits : Bool) (cnt : Int) (stp : V) (hnd : Addr) (knw : Addr) (dsk : Addr) (sets : Addr) (fst : Int) (sett : Addr) : (voF me stt sits cnt stp hnd knw dsk sets fst sett).lookup ("_first" : Str) = some (.int fst) := by unfold voF; rw [List.lookup_cons, beq_false_of_ne (fun z => by rw [n_voF_fst_me] at z; exact z)]; simp only []; rw [List.lookup_cons, beq_false_of_ne (fun z => by rw [n_voF_fst_stt] at z; exact z)]; simp only []; rw [List.lookup_cons, beq_false_of_ne (fun z => by rw [n_voF_fst_sits] at z; exact z)]; simp only []; rw [List.lookup_cons, beq_false_of_ne (fun z => by rw [n_voF_fst_cnt] at z; exact z)]; simp only []; rw [List.lookup_cons, beq_false_of_ne (fun z => by rw [n_voF_fst_stp] at z; exact z)]; simp only []; rw [List.lookup_cons, beq_false_of_ne (fun z => by rw [n_voF_fst_hnd] at z; exact z)]; simp only []; rw [List.lookup_cons, beq_false_of_ne (fun z => by rw [n_voF_fst_knw] at z; exact z)]; simp only []; rw [List.lookup_cons, beq_false_of_ne (fun z => by rw [n_voF_fst_dsk] at z; exact z)]; simp only []; rw [List.lookup_cons, beq_false_of_ne (fun z => by rw [n_voF_fst_sets] at z; exact z)]; simp only []; rw [List.lookup_cons_self]
theorem voF_put_fst (me : Int) (stt : Str) (sits : Bool) (cnt : Int) (stp : V) (hnd : Addr) (knw : Addr) (dsk : Addr) (sets : Addr) (fst : Int) (sett : Addr) (fst' : Int) : putF "_first" (.int fst') (voF me stt sits cnt stp hnd knw dsk sets fst sett) = voF me stt sits cnt stp hnd knw dsk sets fst' sett := by
  simp only [voF, putF, n_voF_me_fst, n_voF_stt_fst, n_voF_sits_fst, n_voF_cnt_fst, n_voF_stp_fst, n_voF_hnd_fst, n_voF_knw_fst, n_voF_dsk_fst, n_voF_sets_fst, if_false, if_true]
theorem voF_sett (me : Int) (stt : Str) (sits : Bool) (cnt : Int) (stp : V) (hnd : Addr) (knw : Addr) (dsk : Addr) (sets : Addr) (fst : Int) (sett : Addr) : (voF me stt sits cnt stp hnd knw dsk sets fst sett).lookup ("_set" : Str) = some (.ref sett) := by unfold voF; rw [List.lookup_cons, beq_false_of_ne (fun z => by rw [n_voF_sett_me] at z; exact z)]; simp only []; rw [List.lookup_cons, beq_false_of_ne (fun z => by rw [n_voF_sett_stt] at z; exact z)]; simp only []; rw [List.lookup_cons, beq_false_of_ne (fun z => by rw [n_voF_sett_sits] at z; exact z)]; simp only []; rw [List.lookup_cons, beq_false_of_ne (fun z => by rw [n_voF_sett_cnt] at z; exact z)]; simp only []; rw [List.lookup_cons, beq_false_of_ne (fun z => by rw [n_voF_sett_stp] at z; exact z)]; simp only []; rw [List.lookup_cons, beq_false_of_ne (fun z => by rw [n_voF_sett_hnd] at z; exact z)]; simp only []; rw [List.lookup_cons, beq_false_of_ne (fun z => by rw [n_voF_sett_knw] at z; exact z)]; simp only []; rw [List.lookup_cons, beq_false_of_ne (fun z => by rw [n_voF_sett_dsk] at z; exact z)]; simp only []; rw [List.lookup_cons, beq_false_of_ne (fun z => by rw [n_voF_sett_sets] at z; exact z)]; simp only []; rw [List.lookup_cons, beq_false_of_ne (fun z => by rw [n_voF_sett_fst] at z; exact z)]; simp only []; rw [List.lookup_cons_self]
theorem voF_put_sett (me : Int) (stt : Str) (sits : Bool) (cnt : Int) (stp : V) (hnd : Addr) (knw : Addr) (dsk : Addr) (sets : Addr) (fst : Int) (sett : Addr) (sett' : Addr) : putF "_set" (.ref sett') (voF me stt sits cnt stp hnd knw dsk sets fst sett) = voF me stt sits cnt stp hnd knw dsk sets fst sett' := by
  simp only [voF, putF, n_voF_me_sett, n_voF_stt_sett, n_voF_sits_sett, n_voF_cnt_sett, n_voF_stp_sett, n_voF_hnd_sett, n_voF_knw_sett, n_voF_dsk_sett, n_voF_sets_sett, n_voF_fst_sett, if_false, if_true]
theorem voF_no (me : Int) (stt : Str) (sits : Bool) (cnt : Int) (stp : V) (hnd : Addr) (knw : Addr) (dsk : Addr) (sets : Addr) (fst : Int) (sett : Addr) {x : Str} (h0 : x ≠ ("me" : Str)) (h1 : x ≠ ("state" : Str)) (h2 : x ≠ ("sits" : Str)) (h3 : x ≠ ("count" : Str)) (h4 : x ≠ ("stamp" : Str)) (h5 : x ≠ ("hand" : Str)) (h6 : x ≠ ("known" : Str)) (h7 : x ≠ ("desk" : Str)) (h8 : x ≠ ("_sets" : Str)) (h9 : x ≠ ("_first" : Str)) (h10 : x ≠ ("_set" : Str)) : (voF me stt sits cnt stp hnd knw dsk sets fst sett).lookup x = none := by
  unfold voF
  rw [List.lookup_cons, beq_false_of_ne h0]; simp only []
  rw [List.lookup_cons, beq_false_of_ne h1]; simp only []
  rw [List.lookup_cons, beq_false_of_ne h2]; simp only []
  rw [List.lookup_cons, beq_false_of_ne h3]; simp only []
  rw [List.lookup_cons, beq_false_of_ne h4]; simp only []
  rw [List.lookup_cons, beq_false_of_ne h5]; simp only []
  rw [List.lookup_cons, beq_false_of_ne h6]; simp only []
  rw [List.lookup_cons, beq_false_of_ne h7]; simp only []
  rw [List.lookup_cons, beq_false_of_ne h8]; simp only []
  rw [List.lookup_cons, beq_false_of_ne h9]; simp only []
  rw [List.lookup_cons, beq_false_of_ne h10]; rfl
theorem voF_made (me : Int) (stt : Str) (sits : Bool) (cnt : Int) (stp : V) (hnd : Addr) (knw : Addr) (dsk : Addr) (sets : Addr) (fst : Int) (sett : Addr) : putF "_set" (.ref sett) (putF "_first" (.int fst) (putF "_sets" (.ref sets) (putF "desk" (.ref dsk) (putF "known" (.ref knw) (putF "hand" (.ref hnd) (putF "stamp" (stp) (putF "count" (.int cnt) (putF "sits" (.bl sits) (putF "state" (.str stt) (putF "me" (.int me) ([] )))))))))))= voF me stt sits cnt stp hnd knw dsk sets fst sett := by
  simp only [putF, voF, n_voF_me_stt, n_voF_me_sits, n_voF_stt_sits, n_voF_me_cnt, n_voF_stt_cnt, n_voF_sits_cnt, n_voF_me_stp, n_voF_stt_stp, n_voF_sits_stp, n_voF_cnt_stp, n_voF_me_hnd, n_voF_stt_hnd, n_voF_sits_hnd, n_voF_cnt_hnd, n_voF_stp_hnd, n_voF_me_knw, n_voF_stt_knw, n_voF_sits_knw, n_voF_cnt_knw, n_voF_stp_knw, n_voF_hnd_knw, n_voF_me_dsk, n_voF_stt_dsk, n_voF_sits_dsk, n_voF_cnt_dsk, n_voF_stp_dsk, n_voF_hnd_dsk, n_voF_knw_dsk, n_voF_me_sets, n_voF_stt_sets, n_voF_sits_sets, n_voF_cnt_sets, n_voF_stp_sets, n_voF_hnd_sets, n_voF_knw_sets, n_voF_dsk_sets, n_voF_me_fst, n_voF_stt_fst, n_voF_sits_fst, n_voF_cnt_fst, n_voF_stp_fst, n_voF_hnd_fst, n_voF_knw_fst, n_voF_dsk_fst, n_voF_sets_fst, n_voF_me_sett, n_voF_stt_sett, n_voF_sits_sett, n_voF_cnt_sett, n_voF_stp_sett, n_voF_hnd_sett, n_voF_knw_sett, n_voF_dsk_sett, n_voF_sets_sett, n_voF_fst_sett, if_false, if_true]
end G0
namespace G0
open PySem PySem.Spec PyProof.Rows L2
section
variable {P : Program} {w : World} {K : PySem.W.Frag} {mg : Str → Option Value} {base : Heap} {C f : Addr} {fd : FuncData}
/-! ### what a voter sends for its desk -/
theorem lc_yes {te : TE} {σ : L2.St} {H : Hp} {Q : VK} {B : Hp → Prop} (h : te σ H Q) : tYes σ H (fun b H3 => if b = true then te σ H3 Q else B H3) := by
  show (if true = true then te σ H Q else B H)
  exact iteT h
structure VoT (K : PySem.W.Frag) (C : Addr) : Prop where
  cl : Cls K C
  me : NoAttr K C "me"
  state : NoAttr K C "state"
  sits : NoAttr K C "sits"
  count : NoAttr K C "count"
  stamp : NoAttr K C "stamp"
  hand : NoAttr K C "hand"
  known : NoAttr K C "known"
  desk : NoAttr K C "desk"
  sets : NoAttr K C "_sets"
  first : NoAttr K C "_first"
  set : NoAttr K C "_set"
/-- the letter for a deed of the desk -/
def deskL (z : Str) (c u cnt : Int) : List V := if z = "vote" then [.str "vote", .int c, .int u, .int cnt] else [.str "back", .int c, .int u]
def spDeskL (K : PySem.W.Frag) (C : Addr) : Sp := fun vs H Q _ => ∃ (p dx t : Addr) (z : Str) (c s u me cnt fst : Int) (stt : Str) (sits : Bool) (sp : V) (hnd knw dsk sa se : Addr), vs = [.ref p, .str z, .ref t] ∧ H p = some (.ins C dx (voF me stt sits cnt sp hnd knw dsk sa fst se)) ∧ SqT K H t [.int c, .int s, .int u] ∧
  ∀ r, H r = none → Q (.ref r) (upd H r (.tup (deskL z c u cnt)))
theorem sc_Voter_desk_letter : FnScope ["self", "word", "stamp"] ["self", "word", "stamp"] (defScope s_Voter_desk_letter) :=
  ⟨rfl, rfl, rfl, by decide +kernel, rfl, by decide +kernel, by decide +kernel⟩
theorem ok_deskL (F : Fun K "_desk_letter" "Voter._desk_letter" s_Voter_desk_letter f fd) (VT : VoT K C) : FnOk P w K mg base CX0 1 f fd ["self", "word", "stamp"] (spDeskL K C) := by
  refine F.ok sc_Voter_desk_letter (fun vs H Q E h => ?_) (fun cdv A outer s H vs Q E hr h => ?_)
  · obtain ⟨p, _, t, z, _, _, _, _, _, _, _, _, _, _, _, _, _, _, rfl, _⟩ := h
    rfl
  obtain ⟨p, dx, t, z, c, s', u, me, cnt, fst, stt, sits, sp, hnd, knw, dsk, sa, se, rfl, hp, ht, q⟩ := h
  refine ⟨_, (pss_cons (ps_if (pt_cmpR op_eq (pv 1) pe_str (nomark _))
    (pss_one (ps_ret (pe_tup (pa_cons pe_str (pa_cons (pe_ix ix_tup (pv 2) pe_int (fun _ _ => rfl)) (pa_cons (pe_ix ix_tup (pv 2) pe_int (fun _ _ => rfl)) (pa_cons (pe_fld (pv 0) (by rfl)) pa_nil)))))))
    pss_nil)
    (pss_one (ps_ret (pe_tup (pa_cons pe_str (pa_cons (pe_ix ix_tup (pv 2) pe_int (fun _ _ => rfl)) (pa_cons (pe_ix ix_tup (pv 2) pe_int (fun _ _ => rfl)) pa_nil))))))), ?_⟩
  unfold deskL at q
  refine ⟨_, rfl, rfl, _, rfl, ?_⟩
  by_cases h : z = "vote"
  · rw [if_pos h] at q
    refine iteT' (decide_eq_true (by rw [h])) ?_
    exact ⟨_, rfl, t, _, _, _, rfl, rfl, ht, atI_nat (j := 0) rfl, _, rfl, t, _, _, _, rfl, rfl, ht, atI_nat (j := 2) rfl, _, rfl, p, C, dx, _, _, rfl, hp, VT.cl, VT.count, voF_cnt _ _ _ _ _ _ _ _ _ _ _, by show 4 ≤ sizeLine; decide, fun r hr' => q r hr'⟩
  · rw [if_neg h] at q
    refine iteF' (decide_eq_false (fun e => h (V.str.inj e))) ?_
    exact ⟨_, rfl, t, _, _, _, rfl, rfl, ht, atI_nat (j := 0) rfl, _, rfl, t, _, _, _, rfl, rfl, ht, atI_nat (j := 2) rfl, by show 3 ≤ sizeLine; decide, fun r hr' => q r hr'⟩
end

end G0
namespace G0
open PySem PySem.Spec PyProof.Rows L2
section
variable {P : Program} {w : World} {K : PySem.W.Frag} {mg : Str → Option Value} {base : Heap} {C f : Addr} {fd : FuncData}
/-- none or one deed of the desk, told in a letter -/
def spFromD (K : PySem.W.Frag) (C : Addr) : Sp := fun vs H Q _ => ∃ (p dx l0 : Addr) (me cnt fst : Int) (stt : Str) (sits : Bool) (sp : V) (hnd knw dsk sa se : Addr), vs = [.ref p, .ref l0] ∧ H p = some (.ins C dx (voF me stt sits cnt sp hnd knw dsk sa fst se)) ∧
  ((H l0 = some (.lst []) ∧ ∀ l, H l = none → Q (.ref l) (upd H l (.lst []))) ∨
    ∃ (t0 t : Addr) (z : Str) (c s u : Int), H l0 = some (.lst [.ref t0]) ∧ SqT K H t0 [.str z, .ref t] ∧ SqT K H t [.int c, .int s, .int u] ∧
      ∀ l r r2 H', Same H H' → H l = none → H' l = some (.lst [.ref r2]) → H' r2 = some (.tup [.int s, .ref r]) → H' r = some (.tup (deskL z c u cnt)) → Q (.ref l) H')
theorem sc_Voter_from_desk : FnScope ["self", "deeds", "word", "stamp"] ["self", "deeds"] (defScope s_Voter_from_desk) :=
  ⟨rfl, rfl, rfl, by decide +kernel, rfl, by decide +kernel, by decide +kernel⟩
theorem ok_fromD (F : Fun K "_from_desk" "Voter._from_desk" s_Voter_from_desk f fd) (VT : VoT K C) (ML : ∃ f fd, FnOk P w K mg base CX0 1 f fd ["self", "word", "stamp"] (spDeskL K C) ∧ Binds K fd ["self", "word", "stamp"] [] ∧ Meth K C "_desk_letter" f) : FnOk P w K mg base CX0 2 f fd ["self", "deeds"] (spFromD K C) := by
  obtain ⟨fL, fdL, GL, bL, mL⟩ := ML
  refine F.ok sc_Voter_from_desk (fun vs H Q E h => ?_) (fun cdv A outer s H vs Q E hr h => ?_)
  · obtain ⟨p, _, l0, _, _, _, _, _, _, _, _, _, _, _, rfl, _⟩ := h
    rfl
  obtain ⟨p, dx, l0, me, cnt, fst, stt, sits, sp, hnd, knw, dsk, sa, se, rfl, hp, two⟩ := h
  refine ⟨_, (pss_one (ps_ret (pe_lc (own := [("word", 2), ("stamp", 3)]) (g := gTup K 2 (gCons (gName 2) (gCons (gName 3) gNil))) (tt := tYes) (by rfl) sc_Voter_from_desk.nd (pi_list (pv 1)) (blkOk_by (N := ["self", "deeds", "word", "stamp"]) (sc := defScope s_Voter_from_desk) (by decide +kernel)) (fun _ _ _ _ _ => pg_tup (by rfl) (pgs_cons (pg_name (i := 2) sc_Voter_from_desk.nd rfl (Or.inl rfl)) (pgs_cons (pg_name (i := 3) sc_Voter_from_desk.nd rfl (Or.inl rfl)) pgs_nil))) (fun _ _ _ _ _ => pts_nil) (fun _ _ _ _ _ => (pe_tup (pa_cons (pe_ix (ix_tupK K) (pv 3) pe_int (fun _ _ => rfl)) (pa_cons (pe_meth (pv 0) VT.cl mL GL hr bL .nil pass0 (pa_cons (pv 2) (pa_cons (pv 3) pa_nil))) pa_nil))))))), ?_⟩
  rcases two with ⟨h0, q⟩ | ⟨t0, t, z, c, s', u, h0, ht0, ht, q⟩
  · refine ⟨_, rfl, l0, rfl, ⟨_, SqL.of h0⟩, fun D hD => ?_⟩
    refine lc_list (K := K) (a := l0) (xs := []) (fun i G => G = upd H D (.lst [])) rfl (fun i G _ h => by rw [h]; exact SqL.of (same_upd hD _ _ h0)) (fun i x G hx => by simp at hx) (fun G h => by rw [h]; exact q D hD)
  · refine ⟨_, rfl, l0, rfl, ⟨_, SqL.of h0⟩, fun D hD => ?_⟩
    refine lc_list (K := K) (a := l0) (xs := [.ref t0]) (fun i G => Same H G ∧ (i = 0 → G D = some (.lst [])) ∧ (i = 1 → ∃ r r2, G D = some (.lst [.ref r2]) ∧ G r2 = some (.tup [.int s', .ref r]) ∧ G r = some (.tup (deskL z c u cnt)))) ⟨same_upd hD, fun _ => upd_same, (fun e => absurd e (by decide))⟩ (fun i G _ h => SqL.of (h.1 _ _ h0)) ?_ ?_
    · rintro i x G hx ⟨sG, k0, _⟩
      have i0 : i = 0 := by
        have := (List.getElem?_eq_some_iff.mp hx).1
        simp at this
        exact this
      subst i0
      cases hx
      have kD := k0 rfl
      refine ⟨t0, _, rfl, sqt_same sG ht0, rfl, _, _, rfl, _, _, rfl, rfl, rfl, lc_yes ?_⟩
      refine ⟨_, rfl, t, _, _, _, rfl, rfl, sqt_same sG ht, atI_nat (j := 1) rfl, ?_⟩
      refine ⟨_, rfl, p, dx, _, rfl, sG _ _ hp, (voF_no _ _ _ _ _ _ _ _ _ _ _ (by decide +kernel) (by decide +kernel) (by decide +kernel) (by decide +kernel) (by decide +kernel) (by decide +kernel) (by decide +kernel) (by decide +kernel) (by decide +kernel) (by decide +kernel) (by decide +kernel)), _, rfl, _, rfl, p, dx, t, z, c, s', u, me, cnt, fst, stt, sits, sp, hnd, knw, dsk, sa, se, rfl, sG _ _ hp, sqt_same sG ht, fun r hr' => ?_⟩
      have s5 := same_upd (o := .tup (deskL z c u cnt)) hr'
      refine ⟨by show 2 ≤ sizeLine; decide, fun r2 hr2 => ?_⟩
      have s6 := same_upd (o := .tup [.int s', .ref r]) hr2
      have kD6 := s6 _ _ (s5 _ _ kD)
      have Dr2 : r2 ≠ D := (ne_of_none (s5 _ _ kD) hr2).symm
      have Dr : r ≠ D := (ne_of_none kD hr').symm
      refine ⟨_, kD6, by show 0 < sizeLine; decide, fun a o e => ?_, (fun e => absurd e (by decide)), fun _ => ⟨r, r2, upd_same, (upd_ne Dr2).trans upd_same, (upd_ne Dr).trans (s6 _ _ upd_same)⟩⟩
      rw [upd_ne (ne_of_none e hD)]
      exact s6 _ _ (s5 _ _ (sG _ _ e))
    · rintro G ⟨sG, _, k1⟩
      obtain ⟨r, r2, h1, h2, h3⟩ := k1 rfl
      exact q D r r2 G sG hD h1 h2 h3
end

end G0
namespace G0
open PySem PySem.Spec PyProof.Rows L2
section
variable {P : Program} {w : World} {K : PySem.W.Frag} {mg : Str → Option Value} {base : Heap} {C CD f : Addr} {fd : FuncData}
def tDead : TS := fun _ _ _ => False
theorem ps_dead {X : Cx} {st : Stmt} : PS X st tDead := ⟨fun _ _ _ _ _ _ h => h.elim⟩
theorem dec_str {a b : Str} : decide (V.str a = V.str b) = decide (a = b) := decide_eq_decide.mpr ⟨fun h => by cases h; rfl, fun h => by rw [h]⟩
/-- a voter that asks for nothing, and its desk -/
structure VoD (K : PySem.W.Frag) (C CD p dx dk ddx : Addr) (H : Hp) (me cnt fst : Int) (kn : List Int) (h : V) (b : Bool) (M : List (List Int)) (m : Option (List Int)) (hnd knw sa se qa : Addr) (xs : List V) : Prop where
  hp : H p = some (.ins C dx (voF me "out" false cnt .non hnd knw dk sa fst se))
  hh : SqT K H hnd []
  hk : SqT K H knw (kn.map V.int)
  hd : H dk = some (.ins CD ddx (deskF h (.ref qa) b))
  hq : SqT K H qa xs
  hM : Sts K H xs M
  hold : HoldM K H h M m
  ne : p ≠ dk
/-- what _from_desk makes of the desk's answer M1: a vote for its first, or nothing -/
def Told (H2 : Hp) (l2 : Addr) (cnt : Int) (M1 : List (List Int)) : Prop :=
  (M1 = [] ∧ H2 l2 = some (.lst [])) ∨ ∃ (c s u : Int) (M' : List (List Int)) (r r2 : Addr), M1 = [c, s, u] :: M' ∧ H2 l2 = some (.lst [.ref r2]) ∧ H2 r2 = some (.tup [.int s, .ref r]) ∧ H2 r = some (.tup [.str "vote", .int c, .int u, .int cnt])
theorem from_out {H' : Hp} {p dx l dk ddx : Addr} {me cnt fst : Int} {stt : Str} {sits : Bool} {sp : V} {hnd knw dsk sa se : Addr} {M1 : List (List Int)} {Q : VK} {E : XK} (hp : H' p = some (.ins C dx (voF me stt sits cnt sp hnd knw dsk sa fst se))) (O : Out K CD dk ddx H' l M1)
    (k : ∀ l2 H2, Same H' H2 → H' l2 = none → Told H2 l2 cnt M1 → Q (.ref l2) H2) : spFromD K C [.ref p, .ref l] H' Q E := by
  refine ⟨p, dx, l, me, cnt, fst, stt, sits, sp, hnd, knw, dsk, sa, se, rfl, hp, ?_⟩
  rcases O with ⟨rfl, hl, _⟩ | ⟨t, x, nx, r, M', q', rfl, hl, ht, ⟨tx, ex, hx⟩, sn, _⟩
  · exact .inl ⟨hl, fun l2 h2 => k l2 _ (same_upd h2) h2 (.inl ⟨rfl, upd_same⟩)⟩
  · cases ex
    obtain ⟨c, s', u, rfl⟩ : ∃ a b c, nx = [a, b, c] := by
      match nx, sn.1 with
      | [a, b, c], _ => exact ⟨a, b, c, rfl⟩
    refine .inr ⟨t, x, "vote", c, s', u, hl, ht, hx, fun l2 r r2 H2 s2 h2 a1 a2 a3 => ?_⟩
    unfold deskL at a3
    rw [if_pos rfl] at a3
    exact k l2 H2 s2 h2 (.inr ⟨c, s', u, M', r, r2, rfl, a1, a2, a3⟩)
theorem from_stay {H' : Hp} {p dx l : Addr} {me cnt fst : Int} {stt : Str} {sits : Bool} {sp : V} {hnd knw dsk sa se : Addr} {Q : VK} {E : XK} (hp : H' p = some (.ins C dx (voF me stt sits cnt sp hnd knw dsk sa fst se))) (hl : H' l = some (.lst []))
    (k : ∀ l2, H' l2 = none → Q (.ref l2) (upd H' l2 (.lst []))) : spFromD K C [.ref p, .ref l] H' Q E :=
  ⟨p, dx, l, me, cnt, fst, stt, sits, sp, hnd, knw, dsk, sa, se, rfl, hp, .inl ⟨hl, k⟩⟩
end

end G0
namespace G0
open PySem PySem.Spec PyProof.Rows L2
section
variable {P : Program} {w : World} {K : PySem.W.Frag} {mg : Str → Option Value} {base : Heap} {C CD f : Addr} {fd : FuncData}
theorem out_at {H' : Hp} {l dk ddx : Addr} {M1 : List (List Int)} (O : Out K CD dk ddx H' l M1) : ∃ o, H' dk = some o := by
  rcases O with ⟨_, _, _, _, e⟩ | ⟨_, _, _, _, _, _, _, _, _, _, _, _, _, e⟩
  · exact ⟨_, e⟩
  · exact ⟨_, e⟩
/-- a vote given back, or a stamp done, is heard -/
def spHearGD (K : PySem.W.Frag) (C CD : Addr) : Sp := fun vs H Q _ => ∃ (p dx dk ddx lt : Addr) (me cnt fst c k u : Int) (kn : List Int) (h : V) (b : Bool) (M : List (List Int)) (m : Option (List Int)) (hnd knw sa se qa : Addr) (xs : List V), vs = [.ref p, .int k, .ref lt] ∧
  VoD K C CD p dx dk ddx H me cnt fst kn h b M m hnd knw sa se qa xs ∧ M.length < 63 ∧ StN [c, k, u] ∧
  ((SqT K H lt [.str "given", .int c, .int u] ∧ (if m = some [c, k, u] then ∀ l1 H1 M1 l2 H2, H l1 = none → H l2 = none → M1.Perm (M ++ [[c, k, u]]) → Up M1 → Chg dk H H1 → Out K CD dk ddx H1 l1 M1 → Same H1 H2 → Told H2 l2 cnt M1 → Q (.ref l2) H2
      else ∀ l1 H1 l2, H l1 = none → H l2 = none → Chg dk H H1 → Stay K CD dk ddx h b H1 l1 M → H1 l2 = none → Q (.ref l2) (upd H1 l2 (.lst [])))) ∨
    (SqT K H lt [.str "done", .int c, .int u] ∧ (if m = some [c, k, u] then ∀ l1 H1 l2 H2, H l1 = none → H l2 = none → Chg dk H H1 → Out K CD dk ddx H1 l1 M → Same H1 H2 → Told H2 l2 cnt M → Q (.ref l2) H2
      else ∀ l1 H1 l2, H l1 = none → H l2 = none → Chg dk H H1 → Stay K CD dk ddx h b H1 l1 (M.filter fun y => !decide (y = [c, k, u])) → H1 l2 = none → Q (.ref l2) (upd H1 l2 (.lst [])))))
theorem sc_Voter_hear : FnScope ["self", "sender", "letter", "word", "stamp_count", "turn", "stamp"] ["self", "sender", "letter"] (defScope s_Voter_hear) :=
  ⟨rfl, rfl, rfl, by decide +kernel, rfl, by decide +kernel, by decide +kernel⟩
theorem ok_hearGD (F : Fun K "hear" "Voter.hear" s_Voter_hear f fd) (VT : VoT K C) (DT : DeskT K mg CD) (MF : Me P w K mg base C "_from_desk" 2 ["self", "deeds"] (spFromD K C)) (MG : Me P w K mg base CD "take_given" 2 ["self", "stamp"] (spGiven K CD)) (MD : Me P w K mg base CD "take_done" 2 ["self", "stamp"] (spDone K CD)) :
    FnOk P w K mg base CX0 3 f fd ["self", "sender", "letter"] (spHearGD K C CD) := by
  obtain ⟨fF, fdF, GF, bF, mF⟩ := MF
  obtain ⟨fG, fdG, GG, bG, mG⟩ := MG
  obtain ⟨fD, fdD, GD, bD, mD⟩ := MD
  refine F.ok sc_Voter_hear (fun vs H Q E h => ?_) (fun cdv A outer s H vs Q E hr h => ?_)
  · obtain ⟨p, _, _, _, _, _, _, _, _, _, _, _, _, _, _, _, _, _, _, _, _, _, rfl, _⟩ := h
    rfl
  obtain ⟨p, dx, dk, ddx, lt, me, cnt, fst, c, k, u, kn, h, b, M, m, hnd, knw, sa, se, qa, xs, rfl, V, lM, sn, two⟩ := h
  refine ⟨_, (pss_cons (ps_asg (pe_slice sl_tupA (pv 2) po_none (po_some pe_int)) (pg_tup (by rfl) (pgs_cons (pg_name (i := 3) sc_Voter_hear.nd rfl (Or.inl rfl)) (pgs_cons (pg_name (i := 4) sc_Voter_hear.nd rfl (Or.inl rfl)) (pgs_cons (pg_name (i := 5) sc_Voter_hear.nd rfl (Or.inl rfl)) pgs_nil)))))
    (pss_cons (ps_if (pt_cmpR op_eq (pv 3) pe_str (nomark _))
    (pss_one ps_dead)
    pss_nil)
    (pss_cons (ps_if (pt_cmpR op_eq (pv 3) pe_str (nomark _))
    (pss_one ps_dead)
    pss_nil)
    (pss_cons (ps_set (i := 6) sc_Voter_hear.nd rfl (Or.inl rfl) (pe_tup (pa_cons (pv 4) (pa_cons (pv 1) (pa_cons (pv 5) pa_nil)))))
    (pss_cons (ps_if (pt_cmpR op_eq (pv 3) pe_str (nomark _))
    (pss_cons ps_dead
    (pss_one ps_dead))
    pss_nil)
    (pss_cons (ps_if (pt_cmpR op_eq (pv 3) pe_str (nomark _))
    (pss_one (ps_ret (pe_meth (pv 0) VT.cl mF GF hr bF .nil pass0 (pa_cons (pe_meth (pe_fld (pv 0) (by rfl)) DT.cl mG GG hr bG .nil pass0 (pa_cons (pv 6) pa_nil)) pa_nil))))
    pss_nil)
    (pss_one (ps_ret (pe_meth (pv 0) VT.cl mF GF hr bF .nil pass0 (pa_cons (pe_meth (pe_fld (pv 0) (by rfl)) DT.cl mD GD hr bD .nil pass0 (pa_cons (pv 6) pa_nil)) pa_nil)))))))))), ?_⟩
  have hno := (voF_no me "out" false cnt .non hnd knw dk sa fst se (x := "_from_desk") (by decide +kernel) (by decide +kernel) (by decide +kernel) (by decide +kernel) (by decide +kernel) (by decide +kernel) (by decide +kernel) (by decide +kernel) (by decide +kernel) (by decide +kernel) (by decide +kernel))
  rcases two with ⟨hl, q⟩ | ⟨hl, q⟩
  · skip
    refine ⟨_, rfl, _, rfl, sl_anyk hl fun r H1 s1 hr1 => ?_⟩
    refine ⟨r, _, rfl, hr1, rfl, _, _, rfl, _, _, rfl, _, _, rfl, rfl, ?_⟩
    refine ⟨_, rfl, rfl, _, rfl, iteF' (by decide +kernel) ?_⟩
    refine ⟨_, rfl, rfl, _, rfl, iteF' (by decide +kernel) ?_⟩
    refine ⟨_, rfl, _, rfl, _, rfl, by show 3 ≤ sizeLine; decide, fun t ht => ?_⟩
    have s2 := same_upd (o := .tup [.int c, .int k, .int u]) ht
    have sA := s1.trans s2
    refine ⟨_, rfl, rfl, _, rfl, iteF' (by decide +kernel) ?_⟩
    have hp2 := sA _ _ V.hp
    have hd2 := sA _ _ V.hd
    have hq2 := sqt_same sA V.hq
    have hM2 := V.hM.imp fun a xs z => sqt_same sA z
    have ho2 : HoldM K (upd H1 t (.tup [.int c, .int k, .int u])) h M m := by
      rcases V.hold with z | ⟨hh, n, e1, ⟨ty, e2, z⟩, e3, e4⟩
      · exact .inl z
      · exact .inr ⟨hh, n, e1, ⟨ty, e2, sqt_same sA z⟩, e3, e4⟩
    refine ⟨_, rfl, rfl, _, rfl, iteT' (by decide +kernel) ?_⟩
    refine ⟨_, rfl, p, dx, _, rfl, hp2, hno, _, rfl, p, C, dx, _, _, rfl, hp2, VT.cl, VT.desk, voF_dsk _ _ _ _ _ _ _ _ _ _ _, dk, ddx, _, rfl, hd2, deskF_no _ _ _ (by decide +kernel) (by decide +kernel) (by decide +kernel), _, rfl, dk, ddx, qa, t, h, b, xs, M, m, [c, k, u], rfl, hd2, hq2, hM2, ⟨t, rfl, SqT.of upd_same⟩, ho2, lM, ?_⟩
    have cH : ∀ {H3 : Hp}, Chg dk (upd H1 t (.tup [.int c, .int k, .int u])) H3 → Chg dk H H3 := fun cg => (Chg.same sA).trans cg
    by_cases e : m = some [c, k, u]
    · rw [if_pos e] at q ⊢
      exact fun l1 H3 M1 h1 pe up cg O => from_out (E := E0) (cg _ _ V.ne hp2) O fun l2 H4 s4 h2 T => q l1 H3 M1 l2 H4 (sA.free h1) ((cH cg).back h2 (fun z => by
        obtain ⟨o, eo⟩ := out_at O
        rw [z, eo] at h2
        cases h2)) pe up (cH cg) O s4 T
    · rw [if_neg e] at q ⊢
      exact fun l1 H3 h1 cg O => from_stay (E := E0) (cg _ _ V.ne hp2) O.1 fun l2 h2 => q l1 H3 l2 (sA.free h1) ((cH cg).back h2 (fun z => by
        obtain ⟨_, _, _, _, _, eo⟩ := O
        rw [z, eo] at h2
        cases h2)) (cH cg) O h2
  · skip
    refine ⟨_, rfl, _, rfl, sl_anyk hl fun r H1 s1 hr1 => ?_⟩
    refine ⟨r, _, rfl, hr1, rfl, _, _, rfl, _, _, rfl, _, _, rfl, rfl, ?_⟩
    refine ⟨_, rfl, rfl, _, rfl, iteF' (by decide +kernel) ?_⟩
    refine ⟨_, rfl, rfl, _, rfl, iteF' (by decide +kernel) ?_⟩
    refine ⟨_, rfl, _, rfl, _, rfl, by show 3 ≤ sizeLine; decide, fun t ht => ?_⟩
    have s2 := same_upd (o := .tup [.int c, .int k, .int u]) ht
    have sA := s1.trans s2
    refine ⟨_, rfl, rfl, _, rfl, iteF' (by decide +kernel) ?_⟩
    have hp2 := sA _ _ V.hp
    have hd2 := sA _ _ V.hd
    have hq2 := sqt_same sA V.hq
    have hM2 := V.hM.imp fun a xs z => sqt_same sA z
    have ho2 : HoldM K (upd H1 t (.tup [.int c, .int k, .int u])) h M m := by
      rcases V.hold with z | ⟨hh, n, e1, ⟨ty, e2, z⟩, e3, e4⟩
      · exact .inl z
      · exact .inr ⟨hh, n, e1, ⟨ty, e2, sqt_same sA z⟩, e3, e4⟩
    refine ⟨_, rfl, rfl, _, rfl, iteF' (by decide +kernel) ?_⟩
    refine ⟨_, rfl, p, dx, _, rfl, hp2, hno, _, rfl, p, C, dx, _, _, rfl, hp2, VT.cl, VT.desk, voF_dsk _ _ _ _ _ _ _ _ _ _ _, dk, ddx, _, rfl, hd2, deskF_no _ _ _ (by decide +kernel) (by decide +kernel) (by decide +kernel), _, rfl, dk, ddx, qa, t, h, b, xs, M, m, [c, k, u], rfl, hd2, hq2, hM2, ⟨t, rfl, SqT.of upd_same⟩, ho2, lM, ?_⟩
    have cH : ∀ {H3 : Hp}, Chg dk (upd H1 t (.tup [.int c, .int k, .int u])) H3 → Chg dk H H3 := fun cg => (Chg.same sA).trans cg
    by_cases e : m = some [c, k, u]
    · rw [if_pos e] at q ⊢
      exact fun l1 H3 h1 cg O => from_out (E := E0) (cg _ _ V.ne hp2) O fun l2 H4 s4 h2 T => q l1 H3   l2 H4 (sA.free h1) ((cH cg).back h2 (fun z => by
        obtain ⟨o, eo⟩ := out_at O
        rw [z, eo] at h2
        cases h2))   (cH cg) O s4 T
    · rw [if_neg e] at q ⊢
      exact fun l1 H3 h1 cg O => from_stay (E := E0) (cg _ _ V.ne hp2) O.1 fun l2 h2 => q l1 H3 l2 (sA.free h1) ((cH cg).back h2 (fun z => by
        obtain ⟨_, _, _, _, _, eo⟩ := O
        rw [z, eo] at h2
        cases h2)) (cH cg) O h2
end

end G0
namespace G0
open PySem PySem.Spec PyProof.Rows L2
/-! ### sorted of a tuple of ints, any number of them -/
section
variable {prog : Program} {w : World} {A : Around} {E : Value → Shared → Prop} {s : Shared}
open SrtO in
theorem sorted_intsT {l : Addr} {vs : List Value} {ns : List Int} {Q : Value → Shared → Prop} (hl : IsTup s.heap l vs.toArray) (hz : vs.length ≤ sizeLine) (hi : IntsAre vs ns)
    (h : ∀ out : List Value, Srtd ltIv out → Stb ltIv out vs → Q (.ref (s.heap.objs.size + 1)) { s with heap := sortedAll s.heap vs out.toArray }) :
    wpAny (model prog w) A (call (.builtin "sorted") [.ref l]) Q E s := by
  refine Calls.call_function_entry kind_sorted plain_sorted entry_sorted (args_sorted1 _) ?_
  unfold Builtin.«sorted»
  refine wpAny_bind (m := checkCount "sorted" 1 1 _) (wpAny_pure ?_)
  refine wpAny_bind (collect_tup hl ?_ hz)
  refine wpAny_bind (wpAny_newList ?_ hz)
  have hsz : ((s.heap.push (seqObj "list" #[] 0)).update s.heap.objs.size (Obj.mapSeq (· ++ vs.toArray))).objs.size = s.heap.objs.size + 1 := by
    rw [Heap.size_update, size_push']
  have hoL : (((s.heap.push (seqObj "list" #[] 0)).update s.heap.objs.size (Obj.mapSeq (· ++ vs.toArray))).push (seqObj "list" vs.toArray 0)).get? (s.heap.objs.size + 1) = some (seqObj "list" vs.toArray 0) := by
    rw [← hsz]; exact Heap.get?_push_size _ rfl
  show wpAny _ _ _ _ _ { s with heap := ((s.heap.push (seqObj "list" #[] 0)).update s.heap.objs.size (Obj.mapSeq (· ++ vs.toArray))).push (seqObj "list" vs.toArray 0) }
  rw [hsz]
  refine wpAny_bind (wpAny_holding (wpAny_call_entry slot_list_sort ⟨_, hoL, rfl⟩ entry_list_sort (list_sort_ord swo_int hoL hz (fun h2 => ints_sortable hi h2) fun out a1 a2 => ⟨_, rfl, ?_⟩) (args_list_sort _)))
  exact wpAny_pure ⟨_, rfl, h out a1 a2⟩
end
def rSortIT (K : PySem.W.Frag) : List V → Hp → VK → Prop := fun vs H Q => ∃ (a : Addr) (ns : List Int), vs = [V.ref a] ∧ SqT K H a (ns.map V.int) ∧
  ∀ (ns' : List Int) (p : Addr), ns'.Perm ns → ns'.Pairwise (· ≤ ·) → H p = none → Q (.ref p) (upd H p (.lst (ns'.map V.int)))
theorem cr_sortedIT {X : Cx} : CallR X (.builtin "sorted") (rSortIT X.K) := by
  intro pins s σ H vs us Q I r h
  obtain ⟨a, ns, rfl, hs, q⟩ := h
  obtain ⟨its, rv, hl, hz⟩ := I.tuple hs
  rw [Vals.ref1 r]
  have hi := rv.ints
  refine sorted_intsT hl (by rw [← rv.length]; exact hz) hi fun out h1 h2 => ?_
  obtain ⟨k1, k2, k3⟩ := SrtO.ints_out hi h1 h2
  obtain ⟨ep, he'⟩ := PyProof.Rows.sortedAll_at s.heap its out.toArray
  have hlen : ((out.map SrtO.iv).map V.int).length ≤ sizeLine := by
    rw [List.length_map, k2.length_eq]
    rw [List.length_map] at hz
    exact hz
  exact ⟨.ref _, upd H (s.heap.objs.size + 1) (.lst ((out.map SrtO.iv).map V.int)), I.laid (t' := s.toks) (fun _ _ => PyProof.Rows.sortedAll_old) (Nat.le_succ _) ⟨hlen, out, ep, vals_of_ints k1, he'⟩, rfl, q _ _ k2 k3 (I.hok.fresh (Nat.le_succ _))⟩
end G0
namespace G0
open PySem PySem.Spec PyProof.Rows L2
def kS (z : Str) : Key := Sum.inr z
theorem kS_ne {a b : Str} (h : decide (a = b) = false) : ¬ (kS a = kS b) := fun e => of_decide_eq_false h (Sum.inr.inj e)
def boxW (cn : Int) (la : Addr) (hv : V) (sn : Addr) (ga : Addr) (fa : Addr) (ta : Addr) (wa : Addr) : List (Key × V) := [(kS "count", .int cn), (kS "live", .ref la), (kS "held", hv), (kS "since", .ref sn), (kS "gone", .ref ga), (kS "floor", .ref fa), (kS "turned", .ref ta), (kS "waited", .ref wa)]
theorem boxW_cn (cn : Int) (la : Addr) (hv : V) (sn : Addr) (ga : Addr) (fa : Addr) (ta : Addr) (wa : Addr) : valV (boxW cn la hv sn ga fa ta wa) (kS "count") = some (.int cn) := by
  unfold boxW
  rw [valV_pos rfl]
theorem boxW_la (cn : Int) (la : Addr) (hv : V) (sn : Addr) (ga : Addr) (fa : Addr) (ta : Addr) (wa : Addr) : valV (boxW cn la hv sn ga fa ta wa) (kS "live") = some (.ref la) := by
  unfold boxW
  rw [valV_neg (kS_ne (by decide +kernel)), valV_pos rfl]
theorem boxW_hv (cn : Int) (la : Addr) (hv : V) (sn : Addr) (ga : Addr) (fa : Addr) (ta : Addr) (wa : Addr) : valV (boxW cn la hv sn ga fa ta wa) (kS "held") = some (hv) := by
  unfold boxW
  rw [valV_neg (kS_ne (by decide +kernel)), valV_neg (kS_ne (by decide +kernel)), valV_pos rfl]
theorem boxW_sn (cn : Int) (la : Addr) (hv : V) (sn : Addr) (ga : Addr) (fa : Addr) (ta : Addr) (wa : Addr) : valV (boxW cn la hv sn ga fa ta wa) (kS "since") = some (.ref sn) := by
  unfold boxW
  rw [valV_neg (kS_ne (by decide +kernel)), valV_neg (kS_ne (by decide +kernel)), valV_neg (kS_ne (by decide +kernel)), valV_pos rfl]
theorem boxW_ga (cn : Int) (la : Addr) (hv : V) (sn : Addr) (ga : Addr) (fa : Addr) (ta : Addr) (wa : Addr) : valV (boxW cn la hv sn ga fa ta wa) (kS "gone") = some (.ref ga) := by
  unfold boxW
  rw [valV_neg (kS_ne (by decide +kernel)), valV_neg (kS_ne (by decide +kernel)), valV_neg (kS_ne (by decide +kernel)), valV_neg (kS_ne (by decide +kernel)), valV_pos rfl]
theorem boxW_fa (cn : Int) (la : Addr) (hv : V) (sn : Addr) (ga : Addr) (fa : Addr) (ta : Addr) (wa : Addr) : valV (boxW cn la hv sn ga fa ta wa) (kS "floor") = some (.ref fa) := by
  unfold boxW
  rw [valV_neg (kS_ne (by decide +kernel)), valV_neg (kS_ne (by decide +kernel)), valV_neg (kS_ne (by decide +kernel)), valV_neg (kS_ne (by decide +kernel)), valV_neg (kS_ne (by decide +kernel)), valV_pos rfl]
theorem boxW_ta (cn : Int) (la : Addr) (hv : V) (sn : Addr) (ga : Addr) (fa : Addr) (ta : Addr) (wa : Addr) : valV (boxW cn la hv sn ga fa ta wa) (kS "turned") = some (.ref ta) := by
  unfold boxW
  rw [valV_neg (kS_ne (by decide +kernel)), valV_neg (kS_ne (by decide +kernel)), valV_neg (kS_ne (by decide +kernel)), valV_neg (kS_ne (by decide +kernel)), valV_neg (kS_ne (by decide +kernel)), valV_neg (kS_ne (by decide +kernel)), valV_pos rfl]
theorem boxW_wa (cn : Int) (la : Addr) (hv : V) (sn : Addr) (ga : Addr) (fa : Addr) (ta : Addr) (wa : Addr) : valV (boxW cn la hv sn ga fa ta wa) (kS "waited") = some (.ref wa) := by
  unfold boxW
  rw [valV_neg (kS_ne (by decide +kernel)), valV_neg (kS_ne (by decide +kernel)), valV_neg (kS_ne (by decide +kernel)), valV_neg (kS_ne (by decide +kernel)), valV_neg (kS_ne (by decide +kernel)), valV_neg (kS_ne (by decide +kernel)), valV_neg (kS_ne (by decide +kernel)), valV_pos rfl]
theorem boxW_put_cn (cn : Int) (la : Addr) (hv : V) (sn : Addr) (ga : Addr) (fa : Addr) (ta : Addr) (wa : Addr) (cn' : Int) : putK (boxW cn la hv sn ga fa ta wa) (kS "count") (.int cn') = boxW cn' la hv sn ga fa ta wa := by
  unfold putK
  rw [valV_any, boxW_cn]
  simp only [Option.isSome_some, if_true]
  unfold boxW
  simp only [List.map_cons, List.map_nil]
  rw [if_pos True.intro, if_neg (kS_ne (by decide +kernel)), if_neg (kS_ne (by decide +kernel)), if_neg (kS_ne (by decide +kernel)), if_neg (kS_ne (by decide +kernel)), if_neg (kS_ne (by decide +kernel)), if_neg (kS_ne (by decide +kernel)), if_neg (kS_ne (by decide +kernel))]
theorem boxW_put_la (cn : Int) (la : Addr) (hv : V) (sn : Addr) (ga : Addr) (fa : Addr) (ta : Addr) (wa : Addr) (la' : Addr) : putK (boxW cn la hv sn ga fa ta wa) (kS "live") (.ref la') = boxW cn la' hv sn ga fa ta wa := by
  unfold putK
  rw [valV_any, boxW_la]
  simp only [Option.isSome_some, if_true]
  unfold boxW
  simp only [List.map_cons, List.map_nil]
  rw [if_neg (kS_ne (by decide +kernel)), if_pos True.intro, if_neg (kS_ne (by decide +kernel)), if_neg (kS_ne (by decide +kernel)), if_neg (kS_ne (by decide +kernel)), if_neg (kS_ne (by decide +kernel)), if_neg (kS_ne (by decide +kernel)), if_neg (kS_ne (by decide +kernel))]
theorem boxW_put_hv (cn : Int) (la : Addr) (hv : V) (sn : Addr) (ga : Addr) (fa : Addr) (ta : Addr) (wa : Addr) (hv' : V) : putK (boxW cn la hv sn ga fa ta wa) (kS "held") (hv') = boxW cn la hv' sn ga fa ta wa := by
  unfold putK
  rw [valV_any, boxW_hv]
  simp only [Option.isSome_some, if_true]
  unfold boxW
  simp only [List.map_cons, List.map_nil]
  rw [if_neg (kS_ne (by decide +kernel)), if_neg (kS_ne (by decide +kernel)), if_pos True.intro, if_neg (kS_ne (by decide +kernel)), if_neg (kS_ne (by decide +kernel)), if_neg (kS_ne (by decide +kernel)), if_neg (kS_ne (by decide +kernel)), if_neg (kS_ne (by decide +kernel))]
theorem boxW_put_sn (cn : Int) (la : Addr) (hv : V) (sn : Addr) (ga : Addr) (fa : Addr) (ta : Addr) (wa : Addr) (sn' : Addr) : putK (boxW cn la hv sn ga fa ta wa) (kS "since") (.ref sn') = boxW cn la hv sn' ga fa ta wa := by
  unfold putK
  rw [valV_any, boxW_sn]
  simp only [Option.isSome_some, if_true]
  unfold boxW
  simp only [List.map_cons, List.map_nil]
  rw [if_neg (kS_ne (by decide +kernel)), if_neg (kS_ne (by decide +kernel)), if_neg (kS_ne (by decide +kernel)), if_pos True.intro, if_neg (kS_ne (by decide +kernel)), if_neg (kS_ne (by decide +kernel)), if_neg (kS_ne (by decide +kernel)), if_neg (kS_ne (by decide +kernel))]
theorem boxW_put_ga (cn : Int) (la : Addr) (hv : V) (sn : Addr) (ga : Addr) (fa : Addr) (ta : Addr) (wa : Addr) (ga' : Addr) : putK (boxW cn la hv sn ga fa ta wa) (kS "gone") (.ref ga') = boxW cn la hv sn ga' fa ta wa := by
  unfold putK
  rw [valV_any, boxW_ga]
  simp only [Option.isSome_some, if_true]
  unfold boxW
  simp only [List.map_cons, List.map_nil]
  rw [if_neg (kS_ne (by decide +kernel)), if_neg (kS_ne (by decide +kernel)), if_neg (kS_ne (by decide +kernel)), if_neg (kS_ne (by decide +kernel)), if_pos True.intro, if_neg (kS_ne (by decide +kernel)), if_neg (kS_ne (by decide +kernel)), if_neg (kS_ne (by decide +kernel))]
theorem boxW_put_fa (cn : Int) (la : Addr) (hv : V) (sn : Addr) (ga : Addr) (fa : Addr) (ta : Addr) (wa : Addr) (fa' : Addr) : putK (boxW cn la hv sn ga fa ta wa) (kS "floor") (.ref fa') = boxW cn la hv sn ga fa' ta wa := by
  unfold putK
  rw [valV_any, boxW_fa]
  simp only [Option.isSome_some, if_true]
  unfold boxW
  simp only [List.map_cons, List.map_nil]
  rw [if_neg (kS_ne (by decide +kernel)), if_neg (kS_ne (by decide +kernel)), if_neg (kS_ne (by decide +kernel)), if_neg (kS_ne (by decide +kernel)), if_neg (kS_ne (by decide +kernel)), if_pos True.intro, if_neg (kS_ne (by decide +kernel)), if_neg (kS_ne (by decide +kernel))]
theorem boxW_put_ta (cn : Int) (la : Addr) (hv : V) (sn : Addr) (ga : Addr) (fa : Addr) (ta : Addr) (wa : Addr) (ta' : Addr) : putK (boxW cn la hv sn ga fa ta wa) (kS "turned") (.ref ta') = boxW cn la hv sn ga fa ta' wa := by
  unfold putK
  rw [valV_any, boxW_ta]
  simp only [Option.isSome_some, if_true]
  unfold boxW
  simp only [List.map_cons, List.map_nil]
  rw [if_neg (kS_ne (by decide +kernel)), if_neg (kS_ne (by decide +kernel)), if_neg (kS_ne (by decide +kernel)), if_neg (kS_ne (by decide +kernel)), if_neg (kS_ne (by decide +kernel)), if_neg (kS_ne (by decide +kernel)), if_pos True.intro, if_neg (kS_ne (by decide +kernel))]
theorem boxW_put_wa (cn : Int) (la : Addr) (hv : V) (sn : Addr) (ga : Addr) (fa : Addr) (ta : Addr) (wa : Addr) (wa' : Addr) : putK (boxW cn la hv sn ga fa ta wa) (kS "waited") (.ref wa') = boxW cn la hv sn ga fa ta wa' := by
  unfold putK
  rw [valV_any, boxW_wa]
  simp only [Option.isSome_some, if_true]
  unfold boxW
  simp only [List.map_cons, List.map_nil]
  rw [if_neg (kS_ne (by decide +kernel)), if_neg (kS_ne (by decide +kernel)), if_neg (kS_ne (by decide +kernel)), if_neg (kS_ne (by decide +kernel)), if_neg (kS_ne (by decide +kernel)), if_neg (kS_ne (by decide +kernel)), if_neg (kS_ne (by decide +kernel)), if_pos True.intro]
def boxW5 (cn : Int) (la : Addr) (hv : V) (sn : Addr) (ga : Addr) : List (Key × V) := [(kS "count", .int cn), (kS "live", .ref la), (kS "held", hv), (kS "since", .ref sn), (kS "gone", .ref ga)]
def boxW6 (cn : Int) (la : Addr) (hv : V) (sn : Addr) (ga : Addr) (fa : Addr) : List (Key × V) := [(kS "count", .int cn), (kS "live", .ref la), (kS "held", hv), (kS "since", .ref sn), (kS "gone", .ref ga), (kS "floor", .ref fa)]
def boxW7 (cn : Int) (la : Addr) (hv : V) (sn : Addr) (ga : Addr) (fa : Addr) (ta : Addr) : List (Key × V) := [(kS "count", .int cn), (kS "live", .ref la), (kS "held", hv), (kS "since", .ref sn), (kS "gone", .ref ga), (kS "floor", .ref fa), (kS "turned", .ref ta)]
theorem mergeW5 (cn : Int) (la : Addr) (hv : V) (sn : Addr) (ga : Addr) : mergeK [] (boxW5 cn la hv sn ga) = boxW5 cn la hv sn ga := by
  unfold mergeK boxW5
  simp only [List.foldl_cons, List.foldl_nil]
  rw [putK_new (kvs := []) (k := kS "count") _ (by rfl)]
  simp only [List.nil_append, List.cons_append]
  rw [putK_new (kvs := [(kS "count", .int cn)]) (k := kS "live") _ (by rw [valV_neg (kS_ne (by decide +kernel)), valV_nil])]
  simp only [List.nil_append, List.cons_append]
  rw [putK_new (kvs := [(kS "count", .int cn), (kS "live", .ref la)]) (k := kS "held") _ (by rw [valV_neg (kS_ne (by decide +kernel)), valV_neg (kS_ne (by decide +kernel)), valV_nil])]
  simp only [List.nil_append, List.cons_append]
  rw [putK_new (kvs := [(kS "count", .int cn), (kS "live", .ref la), (kS "held", hv)]) (k := kS "since") _ (by rw [valV_neg (kS_ne (by decide +kernel)), valV_neg (kS_ne (by decide +kernel)), valV_neg (kS_ne (by decide +kernel)), valV_nil])]
  simp only [List.nil_append, List.cons_append]
  rw [putK_new (kvs := [(kS "count", .int cn), (kS "live", .ref la), (kS "held", hv), (kS "since", .ref sn)]) (k := kS "gone") _ (by rw [valV_neg (kS_ne (by decide +kernel)), valV_neg (kS_ne (by decide +kernel)), valV_neg (kS_ne (by decide +kernel)), valV_neg (kS_ne (by decide +kernel)), valV_nil])]
  simp only [List.nil_append, List.cons_append]

theorem mkW_fa (cn : Int) (la : Addr) (hv : V) (sn : Addr) (ga : Addr) (fa : Addr) : putK (boxW5 cn la hv sn ga) (kS "floor") (.ref fa) = boxW6 cn la hv sn ga fa := by
  rw [putK_new _ (by unfold boxW5; rw [valV_neg (kS_ne (by decide +kernel)), valV_neg (kS_ne (by decide +kernel)), valV_neg (kS_ne (by decide +kernel)), valV_neg (kS_ne (by decide +kernel)), valV_neg (kS_ne (by decide +kernel)), valV_nil])]
  rfl
theorem boxW5_cn (cn : Int) (la : Addr) (hv : V) (sn : Addr) (ga : Addr) : valV (boxW5 cn la hv sn ga) (kS "count") = some (.int cn) := by
  unfold boxW5
  rw [valV_pos rfl]
theorem mkW_ta (cn : Int) (la : Addr) (hv : V) (sn : Addr) (ga : Addr) (fa : Addr) (ta : Addr) : putK (boxW6 cn la hv sn ga fa) (kS "turned") (.ref ta) = boxW7 cn la hv sn ga fa ta := by
  rw [putK_new _ (by unfold boxW6; rw [valV_neg (kS_ne (by decide +kernel)), valV_neg (kS_ne (by decide +kernel)), valV_neg (kS_ne (by decide +kernel)), valV_neg (kS_ne (by decide +kernel)), valV_neg (kS_ne (by decide +kernel)), valV_neg (kS_ne (by decide +kernel)), valV_nil])]
  rfl
theorem boxW6_cn (cn : Int) (la : Addr) (hv : V) (sn : Addr) (ga : Addr) (fa : Addr) : valV (boxW6 cn la hv sn ga fa) (kS "count") = some (.int cn) := by
  unfold boxW6
  rw [valV_pos rfl]
theorem mkW_wa (cn : Int) (la : Addr) (hv : V) (sn : Addr) (ga : Addr) (fa : Addr) (ta : Addr) (wa : Addr) : putK (boxW7 cn la hv sn ga fa ta) (kS "waited") (.ref wa) = boxW cn la hv sn ga fa ta wa := by
  rw [putK_new _ (by unfold boxW7; rw [valV_neg (kS_ne (by decide +kernel)), valV_neg (kS_ne (by decide +kernel)), valV_neg (kS_ne (by decide +kernel)), valV_neg (kS_ne (by decide +kernel)), valV_neg (kS_ne (by decide +kernel)), valV_neg (kS_ne (by decide +kernel)), valV_neg (kS_ne (by decide +kernel)), valV_nil])]
  rfl
theorem boxW7_cn (cn : Int) (la : Addr) (hv : V) (sn : Addr) (ga : Addr) (fa : Addr) (ta : Addr) : valV (boxW7 cn la hv sn ga fa ta) (kS "count") = some (.int cn) := by
  unfold boxW7
  rw [valV_pos rfl]
theorem boxW8_cn (cn : Int) (la : Addr) (hv : V) (sn : Addr) (ga : Addr) (fa : Addr) (ta : Addr) (wa : Addr) : valV (boxW cn la hv sn ga fa ta wa) (kS "count") = some (.int cn) := by
  unfold boxW
  rw [valV_pos rfl]
end G0
namespace G0
open PySem PySem.Spec PyProof.Rows L2
def Rest (L : List (List Int)) (m : Option (List Int)) (M : List (List Int)) : Prop := ∀ S : List (List Int), S.Perm L → Up S → (S.filter fun k => !decide (m = some k)) = M
/-! ### what is live, held and waits -/
structure Dat (L M : List (List Int)) (m : Option (List Int)) (Cm : List (List Int)) : Prop where
  nd : L.Nodup
  up : Up M
  pm : M.Perm (L.filter fun k => !decide (m = some k))
  non : m = none → L = []
  mem : ∀ k, m = some k → k ∈ L
  sub : ∀ k ∈ L, k ∈ Cm
theorem up_filter {S : List (List Int)} (u : Up S) (g : List Int → Bool) : Up (S.filter g) := List.Pairwise.filter g u
theorem Dat.rest {L M : List (List Int)} {m : Option (List Int)} {Cm : List (List Int)} (D : Dat L M m Cm) (st : ∀ k ∈ L, StN k) : Rest L m M := fun S p u =>
  same_sorted ((p.filter _).trans D.pm.symm) (fun k hk => st k (p.mem_iff.mp ((List.mem_filter.mp hk).1))) (up_filter u _) D.up
theorem Dat.mnone {L M : List (List Int)} {Cm : List (List Int)} (D : Dat L M none Cm) : M = [] := by
  have h := D.pm
  rw [D.non rfl] at h
  exact List.Perm.eq_nil h
theorem filt_ne {L : List (List Int)} {k : List Int} : (L.filter fun x => !decide (some k = some x)) = L.filter fun x => !decide (x = k) := by
  exact List.filter_congr fun x _ => congrArg not (decide_eq_decide.mpr ⟨fun h => (Option.some.inj h).symm, fun h => by rw [h]⟩)
/-- one that waits, or is over, or a seat gone: not the holder's -/
theorem Dat.keep {L M : List (List Int)} {k : List Int} {Cm : List (List Int)} (D : Dat L M (some k) Cm) (g : List Int → Bool) (hg : g k = true) : Dat (L.filter g) (M.filter g) (some k) Cm where
  nd := D.nd.filter g
  up := up_filter D.up g
  pm := by
    refine (D.pm.filter g).trans ?_
    rw [List.filter_filter, List.filter_filter]
    exact List.Perm.of_eq (List.filter_congr fun x _ => Bool.and_comm _ _)
  non := fun e => by cases e
  mem := fun x e => by cases e; exact List.mem_filter.mpr ⟨D.mem k rfl, hg⟩
  sub := fun x hx => D.sub x ((List.mem_filter.mp hx).1)
/-- the first of those that are live is held -/
theorem Dat.first {L M : List (List Int)} {nx : List Int} {Cm : List (List Int)} (nd : L.Nodup) (p : (nx :: M).Perm L) (u : Up (nx :: M)) (sub : ∀ k ∈ L, k ∈ Cm) : Dat L M (some nx) Cm where
  nd := nd
  up := (List.pairwise_cons.mp u).2
  pm := by
    have nd2 : (nx :: M).Nodup := p.nodup_iff.mpr nd
    have h := p.filter fun x => !decide (some nx = some x)
    rw [filt_ne, filt_ne] at h
    rw [filt_ne]
    rw [List.filter_cons, if_neg (by simp)] at h
    rw [List.filter_eq_self.mpr (fun x hx => by
      have : x ≠ nx := fun e => (List.nodup_cons.mp nd2).1 (e ▸ hx)
      simp [this])] at h
    exact h
  non := fun e => by cases e
  mem := fun x e => by cases e; exact p.mem_iff.mp (List.mem_cons_self ..)
  sub := sub
theorem Dat.empty {Cm : List (List Int)} : Dat [] [] none Cm where
  nd := List.nodup_nil
  up := List.Pairwise.nil
  pm := List.Perm.refl _
  non := fun _ => rfl
  mem := fun _ e => by cases e
  sub := fun _ h => (List.not_mem_nil h).elim
/-- a new stamp behind a holder -/
theorem Dat.more {L M M' : List (List Int)} {k n : List Int} {Cm : List (List Int)} (D : Dat L M (some k) Cm) (hn : n ∉ Cm) (p : M'.Perm (M ++ [n])) (u : Up M') : Dat (L ++ [n]) M' (some k) (Cm ++ [n]) where
  nd := by
    rw [List.nodup_append]
    exact ⟨D.nd, (by simp), fun a ha b hb => by rw [List.mem_singleton.mp hb]; exact fun e => hn (D.sub n (e ▸ ha))⟩
  up := u
  pm := by
    refine p.trans ?_
    rw [List.filter_append]
    have e : ([n].filter fun x => !decide (some k = some x)) = [n] := by
      have : k ≠ n := fun e => hn (D.sub n (e ▸ D.mem k rfl))
      simp [this]
    rw [e]
    exact D.pm.append_right _
  non := fun e => by cases e
  mem := fun x e => List.mem_append.mpr (.inl (D.mem x e))
  sub := fun x hx => by
    rcases List.mem_append.mp hx with h | h
    · exact List.mem_append.mpr (.inl (D.sub x h))
    · exact List.mem_append.mpr (.inr h)
/-- the holder waits again: all are live -/
theorem Dat.whole {L M : List (List Int)} {k : List Int} {Cm : List (List Int)} (D : Dat L M (some k) Cm) : (M ++ [k]).Perm L := by
  have h := D.pm
  rw [filt_ne] at h
  refine (h.append_right [k]).trans ?_
  have e1 := D.mem k rfl
  have nd := D.nd
  clear h D
  induction L with
  | nil => exact absurd e1 List.not_mem_nil
  | cons a L ih =>
    rw [List.filter_cons]
    obtain ⟨h1, h2⟩ := List.nodup_cons.mp nd
    by_cases c : a = k
    · subst c
      rw [if_neg (by simp)]
      rw [List.filter_eq_self.mpr (fun x hx => by
        have : x ≠ a := fun e => h1 (e ▸ hx)
        simp [this])]
      exact List.perm_append_comm
    · rw [if_pos (by simp [c])]
      have m2 : k ∈ L := by
        rcases List.mem_cons.mp e1 with h | h
        · exact absurd h.symm c
        · exact h
      exact (ih m2 h2).cons a
theorem Dat.gone {L M : List (List Int)} {k : List Int} {Cm : List (List Int)} (D : Dat L M (some k) Cm) (g : List Int → Bool) (hg : g k = false) : (M.filter g).Perm (L.filter g) := by
  refine (D.pm.filter g).trans ?_
  rw [List.filter_filter]
  refine List.Perm.of_eq (List.filter_congr fun x _ => ?_)
  by_cases e : x = k
  · subst e; simp [hg]
  · simp [show ¬ (k = x) from fun z => e z.symm]
theorem Dat.done {L M : List (List Int)} {k : List Int} {Cm : List (List Int)} (D : Dat L M (some k) Cm) : M.Perm (L.filter fun x => !decide (x = k)) := by
  have h := D.pm
  rw [filt_ne] at h
  exact h
theorem min_first {L M : List (List Int)} {nx n : List Int} (p : (nx :: M).Perm L) (u : Up (nx :: M)) (st : ∀ k ∈ L, StN k) (hn : n ∈ L) (least : ∀ k ∈ L, TS.code (10 ^ 43) n ≤ TS.code (10 ^ 43) k) : nx = n := by
  have hx : nx ∈ L := p.mem_iff.mp (List.mem_cons_self ..)
  have s1 := st nx hx
  have s2 := st n hn
  refine code_inj (s1.1.trans s2.1.symm) s1.2 s2.2 (Int.le_antisymm ?_ (least nx hx))
  rcases List.mem_cons.mp (p.mem_iff.mpr hn) with e | e
  · rw [e]; exact Int.le_refl _
  · exact (List.pairwise_cons.mp u).1 n e

end G0
namespace G0
open PySem PySem.Spec PyProof.Rows L2
section
variable {P : Program} {w : World} {K : PySem.W.Frag} {mg : Str → Option Value} {base : Heap} {C CD f : Addr} {fd : FuncData}
/-! ### what a voter tells, by its desk -/
def voD (n : List Int) (cnt : Int) : PyData := .tuple [.int (seatN n), .tuple [.str "vote", .int (n.getD 0 0), .int (n.getD 2 0), .int cnt]]
def bkD (n : List Int) : PyData := .tuple [.int (seatN n), .tuple [.str "back", .int (n.getD 0 0), .int (n.getD 2 0)]]
/-- the free vote goes to the first of A -/
def FreeR (A : List (List Int)) (cnt : Int) (M' : List (List Int)) (m' : Option (List Int)) (ds : List PyData) : Prop :=
  (A = [] ∧ M' = [] ∧ m' = none ∧ ds = []) ∨ ∃ n, A = n :: M' ∧ m' = some n ∧ ds = [voD n cnt]
/-- an ask n -/
def AskR (n : List Int) (cnt : Int) (b : Bool) (M : List (List Int)) (m : Option (List Int)) (b' : Bool) (M' : List (List Int)) (m' : Option (List Int)) (ds : List PyData) : Prop :=
  (m = none ∧ M = [] ∧ m' = some n ∧ M' = [] ∧ b' = false ∧ ds = [voD n cnt]) ∨
    ∃ k, m = some k ∧ m' = some k ∧ M'.Perm (M ++ [n]) ∧ Up M' ∧ (((HT.lexLt n k && !b) = true ∧ b' = true ∧ ds = [bkD k]) ∨ ((HT.lexLt n k && !b) = false ∧ b' = b ∧ ds = []))
/-- all but instances stays -/
def FrL (H H' : Hp) : Prop := ∀ a o, H a = some o → (∀ D d fs, o ≠ .ins D d fs) → H' a = some o
theorem FrL.trans {H H1 H2 : Hp} (a : FrL H H1) (b : FrL H1 H2) : FrL H H2 := fun x o e n => b x o (a x o e n) n
theorem Same.frl {H H1 : Hp} (a : Same H H1) : FrL H H1 := fun x o e _ => a x o e
theorem Chg.frl {H H1 : Hp} {p D d : Addr} {fs : List (Str × V)} (a : Chg p H H1) (hp : H p = some (.ins D d fs)) : FrL H H1 := fun x o e n => a x o (fun z => by rw [z, hp] at e; exact n _ _ _ (Option.some.inj e).symm) e
theorem sqt_frl {H H' : Hp} (c : FrL H H') {a : Addr} {xs : List V} (h : SqT K H a xs) : SqT K H' a xs := by
  rcases h with (z | ⟨o', z⟩) | z
  · exact .inl (.inl (c _ _ z fun _ _ _ e => nomatch e))
  · exact .inl (.inr ⟨o', c _ _ z fun _ _ _ e => nomatch e⟩)
  · exact .inr z
structure BlX (mg : Str → Option Value) : Prop extends BlD mg where
  max : mg "max" = none
structure BlM (mg : Str → Option Value) : Prop where
  max : mg "max" = none
def VoX (K : PySem.W.Frag) (C CD p dx dk ddx : Addr) (H : Hp) (me cnt fst : Int) (kn : List Int) (b : Bool) (M : List (List Int)) (m : Option (List Int)) : Prop :=
  ∃ h hnd knw sa se qa xs, VoD K C CD p dx dk ddx H me cnt fst kn h b M m hnd knw sa se qa xs
section
variable {p dx dk ddx : Addr} {H H1 H2 : Hp} {me cnt fst : Int} {kn : List Int} {h : V} {b : Bool} {M M1 : List (List Int)} {m : Option (List Int)} {hnd knw sa se qa l1 l2 : Addr} {xs : List V}
theorem hold_imp {H H' : Hp} (c : ∀ a xs, SqT K H a xs → SqT K H' a xs) (z : HoldM K H h M m) : HoldM K H' h M m := by
  rcases z with z | ⟨hh, n, e1, ⟨ty, e2, z⟩, e3, e4⟩
  · exact .inl z
  · exact .inr ⟨hh, n, e1, ⟨ty, e2, c _ _ z⟩, e3, e4⟩
theorem VoD.same (V : VoD K C CD p dx dk ddx H me cnt fst kn h b M m hnd knw sa se qa xs) (s : Same H H2) : VoD K C CD p dx dk ddx H2 me cnt fst kn h b M m hnd knw sa se qa xs :=
  ⟨s _ _ V.hp, sqt_same s V.hh, sqt_same s V.hk, s _ _ V.hd, sqt_same s V.hq, V.hM.imp fun _ _ z => sqt_same s z, hold_imp (fun _ _ z => sqt_same s z) V.hold, V.ne⟩
theorem VoX.same (V : VoX K C CD p dx dk ddx H me cnt fst kn b M m) (s : Same H H2) : VoX K C CD p dx dk ddx H2 me cnt fst kn b M m := by
  obtain ⟨h, hnd, knw, sa, se, qa, xs, V⟩ := V
  exact ⟨_, _, _, _, _, _, _, V.same s⟩
theorem out_vod (V : VoD K C CD p dx dk ddx H me cnt fst kn h b M m hnd knw sa se qa xs) (cg : Chg dk H H1) (O : Out K CD dk ddx H1 l1 M1) (s : Same H1 H2) (T : Told H2 l2 cnt M1) :
    FrL H H2 ∧ ∃ M' m' zs ds, VoX K C CD p dx dk ddx H2 me cnt fst kn false M' m' ∧ H2 l2 = some (.lst zs) ∧ DpAll K H2 zs ds ∧ FreeR M1 cnt M' m' ds := by
  refine ⟨(cg.frl V.hd).trans (Same.frl s), ?_⟩
  have i : ∀ a xs, SqT K H a xs → SqT K H2 a xs := fun _ _ z => sqt_same s (sqt_chgI V.hd cg z)
  have hp2 := s _ _ (cg _ _ V.ne V.hp)
  rcases O with ⟨rfl, _, q', hq, hd⟩ | ⟨t, x, nx, r, M', q', rfl, _, _, ⟨tx, ex, hx⟩, sn, hq, hM, hd⟩
  · rcases T with ⟨_, hl⟩ | ⟨_, _, _, _, _, _, e, _⟩
    · exact ⟨[], none, [], [], ⟨_, _, _, _, _, _, _, ⟨hp2, i _ _ V.hh, i _ _ V.hk, s _ _ hd, sqt_same s hq, .nil, .inl ⟨rfl, rfl, rfl⟩, V.ne⟩⟩, hl, .nil, .inl ⟨rfl, rfl, rfl, rfl⟩⟩
    · cases e
  · rcases T with ⟨e, _⟩ | ⟨c, s', u, M2, r', r2, e, hl, h2, h3⟩
    · cases e
    · cases e
      cases ex
      exact ⟨M', some [c, s', u], [.ref r2], [voD [c, s', u] cnt], ⟨_, _, _, _, _, _, _, ⟨hp2, i _ _ V.hh, i _ _ V.hk, s _ _ hd, sqt_same s hq, hM.imp fun _ _ z => sqt_same s z, .inr ⟨x, [c, s', u], rfl, ⟨x, rfl, sqt_same s hx⟩, sn, rfl⟩, V.ne⟩⟩, hl,
        .cons (.tup (SqT.of h2) (.cons (.int _) (.cons (.tup (SqT.of h3) (.cons (.str _) (.cons (.int _) (.cons (.int _) (.cons (.int _) .nil))))) .nil))) .nil, .inr ⟨_, rfl, rfl, rfl⟩⟩
theorem stay_vod {A : List (List Int)} (V : VoD K C CD p dx dk ddx H me cnt fst kn h b M m hnd knw sa se qa xs) (cg : Chg dk H H1) (O : Stay K CD dk ddx h b H1 l1 A) (hA : M = [] → A = []) (s : Same H1 H2) :
    FrL H H2 ∧ VoX K C CD p dx dk ddx H2 me cnt fst kn b A m := by
  refine ⟨(cg.frl V.hd).trans (Same.frl s), ?_⟩
  have i : ∀ a xs, SqT K H a xs → SqT K H2 a xs := fun _ _ z => sqt_same s (sqt_chgI V.hd cg z)
  have hp2 := s _ _ (cg _ _ V.ne V.hp)
  obtain ⟨_, q', ys, hq, hs, hd⟩ := O
  refine ⟨_, _, _, _, _, _, _, ⟨hp2, i _ _ V.hh, i _ _ V.hk, s _ _ hd, sqt_same s hq, hs.imp fun _ _ z => sqt_same s z, ?_, V.ne⟩⟩
  rcases V.hold with ⟨e1, e2, e3⟩ | ⟨hh, n, e1, ⟨ty, e2, z⟩, e3, e4⟩
  · exact .inl ⟨e1, hA e2, e3⟩
  · exact .inr ⟨hh, n, e1, ⟨ty, e2, i _ _ z⟩, e3, e4⟩
end
/-! ### an ask is heard -/
def spHearA (K : PySem.W.Frag) (C CD : Addr) : Sp := fun vs H Q _ => ∃ (p dx dk ddx lt : Addr) (me cnt fst c k u : Int) (kn : List Int) (b : Bool) (M : List (List Int)) (m : Option (List Int)), vs = [.ref p, .int k, .ref lt] ∧
  VoX K C CD p dx dk ddx H me cnt fst kn b M m ∧ M.length < 63 ∧ StN [c, k, u] ∧ SqT K H lt [.str "ask", .int c, .int u] ∧
  ∀ l H' b' M' m' zs ds, FrL H H' → VoX K C CD p dx dk ddx H' me (if c > cnt then c else cnt) fst kn b' M' m' → H' l = some (.lst zs) → DpAll K H' zs ds → AskR [c, k, u] (if c > cnt then c else cnt) b M m b' M' m' ds → Q (.ref l) H'
theorem ok_hearA (F : Fun K "hear" "Voter.hear" s_Voter_hear f fd) (MX : mg "max" = none) (VT : VoT K C) (DT : DeskT K mg CD) (MF : Me P w K mg base C "_from_desk" 2 ["self", "deeds"] (spFromD K C)) (MA : Me P w K mg base CD "take_ask" 2 ["self", "stamp"] (spAsk K CD)) :
    FnOk P w K mg base CX0 3 f fd ["self", "sender", "letter"] (spHearA K C CD) := by
  obtain ⟨fF, fdF, GF, bF, mF⟩ := MF
  obtain ⟨fA, fdA, GA, bA, mA⟩ := MA
  refine F.ok sc_Voter_hear (fun vs H Q E h => ?_) (fun cdv A outer s H vs Q E hr h => ?_)
  · obtain ⟨p, _, _, _, _, _, _, _, _, _, _, _, _, _, _, rfl, _⟩ := h
    rfl
  obtain ⟨p, dx, dk, ddx, lt, me, cnt, fst, c, k, u, kn, b, M, m, rfl, ⟨h, hnd, knw, sa, se, qa, xs, V⟩, lM, sn, hl, q⟩ := h
  have T : BlM mg := ⟨MX⟩
  refine ⟨_, (pss_cons (ps_asg (pe_slice sl_tupA (pv 2) po_none (po_some pe_int)) (pg_tup (by rfl) (pgs_cons (pg_name (i := 3) sc_Voter_hear.nd rfl (Or.inl rfl)) (pgs_cons (pg_name (i := 4) sc_Voter_hear.nd rfl (Or.inl rfl)) (pgs_cons (pg_name (i := 5) sc_Voter_hear.nd rfl (Or.inl rfl)) pgs_nil)))))
    (pss_cons (ps_if (pt_cmpR op_eq (pv 3) pe_str (nomark _))
    (pss_one ps_dead)
    pss_nil)
    (pss_cons (ps_if (pt_cmpR op_eq (pv 3) pe_str (nomark _))
    (pss_one ps_dead)
    pss_nil)
    (pss_cons (ps_set (i := 6) sc_Voter_hear.nd rfl (Or.inl rfl) (pe_tup (pa_cons (pv 4) (pa_cons (pv 1) (pa_cons (pv 5) pa_nil)))))
    (pss_cons (ps_if (pt_cmpR op_eq (pv 3) pe_str (nomark _))
    (pss_cons (ps_fld (pv 0) (pe_callB (call_max2 rfl) (by rfl) T.max (by decide +kernel) (pa_cons (pe_fld (pv 0) (by rfl)) (pa_cons (pv 4) pa_nil))) rfl)
    (pss_one (ps_ret (pe_meth (pv 0) VT.cl mF GF hr bF .nil pass0 (pa_cons (pe_meth (pe_fld (pv 0) (by rfl)) DT.cl mA GA hr bA .nil pass0 (pa_cons (pv 6) pa_nil)) pa_nil)))))
    pss_nil)
    (pss_cons (ps_if (pt_cmpR op_eq (pv 3) pe_str (nomark _))
    (pss_one ps_dead)
    pss_nil)
    (pss_one ps_dead))))))), ?_⟩
  have hno := fun cn => (voF_no me "out" false cn .non hnd knw dk sa fst se (x := "_from_desk") (by decide +kernel) (by decide +kernel) (by decide +kernel) (by decide +kernel) (by decide +kernel) (by decide +kernel) (by decide +kernel) (by decide +kernel) (by decide +kernel) (by decide +kernel) (by decide +kernel))
  refine ⟨_, rfl, _, rfl, sl_anyk hl fun r H1 s1 hr1 => ?_⟩
  refine ⟨r, _, rfl, hr1, rfl, _, _, rfl, _, _, rfl, _, _, rfl, rfl, ?_⟩
  refine ⟨_, rfl, rfl, _, rfl, iteF' (by decide +kernel) ?_⟩
  refine ⟨_, rfl, rfl, _, rfl, iteF' (by decide +kernel) ?_⟩
  refine ⟨_, rfl, _, rfl, _, rfl, by show 3 ≤ sizeLine; decide, fun t ht => ?_⟩
  have s2 := same_upd (o := .tup [.int c, .int k, .int u]) ht
  have sA := s1.trans s2
  refine ⟨_, rfl, rfl, _, rfl, iteT' (by decide +kernel) ?_⟩
  obtain ⟨H2, e2⟩ : ∃ H2, H2 = upd H1 t (.tup [.int c, .int k, .int u]) := ⟨_, rfl⟩
  have t2 : H2 t = some (.tup [.int c, .int k, .int u]) := by rw [e2]; exact upd_same
  rw [← e2] at sA
  rw [← e2]
  have V2 := V.same sA
  refine ⟨_, rfl, p, C, dx, _, _, rfl, V2.hp, VT.cl, VT.count, voF_cnt _ _ _ _ _ _ _ _ _ _ _, _, rfl, _, _, rfl, _, rfl, p, C, dx, _, rfl, V2.hp, VT.cl, VT.count, (by show 11 < 1000; decide), ?_⟩
  rw [voF_put_cnt]
  obtain ⟨cn, ecn⟩ : ∃ cn, cn = if c > cnt then c else cnt := ⟨_, rfl⟩
  rw [← ecn] at q ⊢
  have cI : Chg p H2 (upd H2 p (.ins C dx (voF me "out" false cn .non hnd knw dk sa fst se))) := Chg.self
  obtain ⟨H3, e3⟩ : ∃ H3, H3 = upd H2 p (.ins C dx (voF me "out" false cn .non hnd knw dk sa fst se)) := ⟨_, rfl⟩
  have hp3 : H3 p = some (.ins C dx (voF me "out" false cn .non hnd knw dk sa fst se)) := by rw [e3]; exact upd_same
  rw [← e3] at cI
  rw [← e3]
  have f3 := (Same.frl sA).trans (cI.frl V2.hp)
  have i3 : ∀ a xs, SqT K H2 a xs → SqT K H3 a xs := fun _ _ z => sqt_frl (cI.frl V2.hp) z
  have hd3 := cI _ _ V.ne.symm V2.hd
  have V3 : VoD K C CD p dx dk ddx H3 me cn fst kn h b M m hnd knw sa se qa xs := ⟨hp3, i3 _ _ V2.hh, i3 _ _ V2.hk, hd3, i3 _ _ V2.hq, V2.hM.imp i3, hold_imp i3 V2.hold, V.ne⟩
  have ht3 : SqT K H3 t [.int c, .int k, .int u] := i3 _ _ (SqT.of t2)
  refine ⟨_, rfl, p, dx, _, rfl, hp3, hno cn, _, rfl, p, C, dx, _, _, rfl, hp3, VT.cl, VT.desk, voF_dsk _ _ _ _ _ _ _ _ _ _ _, dk, ddx, _, rfl, hd3, deskF_no _ _ _ (by decide +kernel) (by decide +kernel) (by decide +kernel), _, rfl, dk, ddx, qa, t, h, b, xs, M, [c, k, u], rfl, hd3, V3.hq, V3.hM, ⟨t, rfl, ht3⟩, sn, lM, ?_⟩
  have fin : ∀ {H' H4 : Hp} {l2 : Addr} {h' : L2.V} {b' : Bool} {q' : Addr} {ys : List L2.V} {M' : List (List Int)} {m' : Option (List Int)} {zs : List L2.V} {ds : List PyData}, Chg dk H3 H' → Same H' H4 → H' dk = some (.ins CD ddx (deskF h' (.ref q') b')) → SqT K H' q' ys → Sts K H' ys M' → HoldM K H' h' M' m' →
      H4 l2 = some (.lst zs) → DpAll K H4 zs ds → AskR [c, k, u] cn b M m b' M' m' ds → Q (.ref l2) H4 := fun {H' H4 l2 h' b' q' ys M' m' zs ds} cg s4 hd' hq' hs' ho' hl' dz R => by
    have i4 : ∀ a xs, SqT K H3 a xs → SqT K H4 a xs := fun _ _ z => sqt_same s4 (sqt_chgI hd3 cg z)
    exact q l2 H4 b' M' m' zs ds ((f3.trans (cg.frl hd3)).trans (Same.frl s4)) ⟨h', hnd, knw, sa, se, q', ys, ⟨s4 _ _ (cg _ _ V.ne hp3), i4 _ _ V3.hh, i4 _ _ V3.hk, s4 _ _ hd', sqt_same s4 hq', hs'.imp fun _ _ z => sqt_same s4 z, hold_imp (fun _ _ z => sqt_same s4 z) ho', V.ne⟩⟩ hl' dz R
  rcases V3.hold with ⟨rfl, rfl, rfl⟩ | ⟨hh, kk, rfl, tk, sk, rfl⟩
  · have x0 : xs = [] := by
      have := V3.hM.len
      exact List.eq_nil_of_length_eq_zero this
    refine .inr ⟨rfl, x0, fun l t0 q' H' _ h1 h2 h3 h4 cg => ?_⟩
    have ht' : SqT K H' t [.int c, .int k, .int u] := sqt_chgI hd3 cg ht3
    refine ⟨p, dx, l, me, cn, fst, "out", false, .non, hnd, knw, dk, sa, se, rfl, cg _ _ V.ne hp3, .inr ⟨t0, t, "vote", c, k, u, h1, SqT.of h2, ht', fun l2 r r2 H4 s4 _ a1 a2 a3 => ?_⟩⟩
    unfold deskL at a3
    rw [if_pos rfl] at a3
    exact fin cg s4 h4 h3 .nil (.inr ⟨t, [c, k, u], rfl, ⟨t, rfl, ht'⟩, sn, rfl⟩) a1 (.cons (.tup (SqT.of a2) (.cons (.int _) (.cons (.tup (SqT.of a3) (.cons (.str _) (.cons (.int _) (.cons (.int _) (.cons (.int _) .nil))))) .nil))) .nil) (.inl ⟨rfl, rfl, rfl, rfl, rfl, rfl⟩)
  · obtain ⟨k0, k1, k2, rfl⟩ : ∃ a b c, kk = [a, b, c] := by
      match kk, sk.1 with
      | [a, b, c], _ => exact ⟨a, b, c, rfl⟩
    refine .inl ⟨hh, [k0, k1, k2], rfl, tk, sk, fun l q' H' ys M' _ hq' hs' pM up cg two => ?_⟩
    have tk' : TupI K H' (.ref hh) [k0, k1, k2] := by
      obtain ⟨a, e, z⟩ := tk
      exact ⟨a, e, sqt_chgI hd3 cg z⟩
    obtain ⟨ha, ea, za⟩ := id tk'
    cases ea
    by_cases cc : (HT.lexLt [c, k, u] [k0, k1, k2] && !b) = true
    · rw [if_pos cc] at two
      obtain ⟨t0, h1, h2, h3⟩ := two
      refine ⟨p, dx, l, me, cn, fst, "out", false, .non, hnd, knw, dk, sa, se, rfl, cg _ _ V.ne hp3, .inr ⟨t0, hh, "back", k0, k1, k2, h1, SqT.of h2, za, fun l2 r r2 H4 s4 _ a1 a2 a3 => ?_⟩⟩
      unfold deskL at a3
      rw [if_neg (by decide +kernel)] at a3
      exact fin cg s4 h3 hq' hs' (.inr ⟨hh, _, rfl, tk', sk, rfl⟩) a1 (.cons (.tup (SqT.of a2) (.cons (.int _) (.cons (.tup (SqT.of a3) (.cons (.str _) (.cons (.int _) (.cons (.int _) .nil)))) .nil))) .nil) (.inr ⟨_, rfl, rfl, pM, up, .inl ⟨cc, rfl, rfl⟩⟩)
    · rw [if_neg cc] at two
      obtain ⟨h1, h3⟩ := two
      refine ⟨p, dx, l, me, cn, fst, "out", false, .non, hnd, knw, dk, sa, se, rfl, cg _ _ V.ne hp3, .inl ⟨h1, fun l2 h2 => ?_⟩⟩
      exact fin cg (same_upd h2) h3 hq' hs' (.inr ⟨hh, _, rfl, tk', sk, rfl⟩) upd_same .nil (.inr ⟨_, rfl, rfl, pM, up, .inr ⟨by simpa using cc, rfl, rfl⟩⟩)
end

end G0
namespace G0
open PySem PySem.Spec PyProof.Rows L2
section
variable {P : Program} {w : World} {K : PySem.W.Frag} {mg : Str → Option Value} {base : Heap} {C CD f : Addr} {fd : FuncData}
/-! ### all that is heard -/
theorem FnOk_imp {CX : CXT} {k : Nat} {f : Addr} {fd : FuncData} {ps : List Str} {sp sp' : Sp} (F : FnOk P w K mg base CX k f fd ps sp) (h : ∀ vs H Q E, sp' vs H Q E → sp vs H Q E) : FnOk P w K mg base CX k f fd ps sp' :=
  ⟨fun a b c d q => F.len _ _ _ _ (h _ _ _ _ q), fun A o s H args us vs Q E hr he hb hv hs => F.run A o s H args us vs Q E hr he hb hv (h _ _ _ _ hs)⟩
theorem FnOk_or {CX : CXT} {k : Nat} {f : Addr} {fd : FuncData} {ps : List Str} {sp sp' : Sp} (F : FnOk P w K mg base CX k f fd ps sp) (G : FnOk P w K mg base CX k f fd ps sp') : FnOk P w K mg base CX k f fd ps (fun vs H Q E => sp vs H Q E ∨ sp' vs H Q E) :=
  ⟨fun a b c d q => q.elim (F.len _ _ _ _) (G.len _ _ _ _), fun A o s H args us vs Q E hr he hb hv hs => hs.elim (F.run A o s H args us vs Q E hr he hb hv) (G.run A o s H args us vs Q E hr he hb hv)⟩
def spHearB (K : PySem.W.Frag) (C CD : Addr) : Sp := fun vs H Q _ => ∃ (p dx dk ddx lt : Addr) (me cnt fst c k u : Int) (kn : List Int) (b : Bool) (M : List (List Int)) (m : Option (List Int)), vs = [.ref p, .int k, .ref lt] ∧
  VoX K C CD p dx dk ddx H me cnt fst kn b M m ∧ M.length < 63 ∧ StN [c, k, u] ∧
  ((SqT K H lt [.str "given", .int c, .int u] ∧ m = some [c, k, u] ∧ ∀ l H' M' m' zs ds A, FrL H H' → VoX K C CD p dx dk ddx H' me cnt fst kn false M' m' → H' l = some (.lst zs) → DpAll K H' zs ds → A.Perm (M ++ [[c, k, u]]) → Up A → FreeR A cnt M' m' ds → Q (.ref l) H') ∨
    (SqT K H lt [.str "done", .int c, .int u] ∧ (if m = some [c, k, u] then ∀ l H' M' m' zs ds, FrL H H' → VoX K C CD p dx dk ddx H' me cnt fst kn false M' m' → H' l = some (.lst zs) → DpAll K H' zs ds → FreeR M cnt M' m' ds → Q (.ref l) H'
      else ∀ l H', FrL H H' → VoX K C CD p dx dk ddx H' me cnt fst kn b (M.filter fun y => !decide (y = [c, k, u])) m → H' l = some (.lst []) → Q (.ref l) H')))
theorem hear_imp (vs : List V) (H : Hp) (Q : VK) (E : XK) (h : spHearB K C CD vs H Q E) : spHearGD K C CD vs H Q E := by
  obtain ⟨p, dx, dk, ddx, lt, me, cnt, fst, c, k, u, kn, b, M, m, rfl, ⟨h, hnd, knw, sa, se, qa, xs, V⟩, lM, sn, two⟩ := h
  refine ⟨p, dx, dk, ddx, lt, me, cnt, fst, c, k, u, kn, h, b, M, m, hnd, knw, sa, se, qa, xs, rfl, V, lM, sn, ?_⟩
  rcases two with ⟨hl, e, q⟩ | ⟨hl, q⟩
  · refine .inl ⟨hl, ?_⟩
    rw [if_pos e]
    intro l1 H1 M1 l2 H2 _ _ pM up cg O s T
    obtain ⟨fr, M', m', zs, ds, V', kl, dz, R⟩ := out_vod V cg O s T
    exact q l2 H2 M' m' zs ds M1 fr V' kl dz pM up R
  · refine .inr ⟨hl, ?_⟩
    by_cases e : m = some [c, k, u]
    · rw [if_pos e] at q ⊢
      intro l1 H1 l2 H2 _ _ cg O s T
      obtain ⟨fr, M', m', zs, ds, V', kl, dz, R⟩ := out_vod V cg O s T
      exact q l2 H2 M' m' zs ds fr V' kl dz R
    · rw [if_neg e] at q ⊢
      intro l1 H1 l2 _ _ cg O h2
      obtain ⟨fr, V'⟩ := stay_vod V cg O (fun z => by rw [z]; rfl) (same_upd (o := .lst []) h2)
      exact q l2 _ fr V' upd_same
def spHear4 (K : PySem.W.Frag) (C CD : Addr) : Sp := fun vs H Q E => spHearA K C CD vs H Q E ∨ spHearB K C CD vs H Q E
theorem ok_hear4 (F : Fun K "hear" "Voter.hear" s_Voter_hear f fd) (MX : mg "max" = none) (VT : VoT K C) (DT : DeskT K mg CD) (MF : Me P w K mg base C "_from_desk" 2 ["self", "deeds"] (spFromD K C)) (MA : Me P w K mg base CD "take_ask" 2 ["self", "stamp"] (spAsk K CD)) (MG : Me P w K mg base CD "take_given" 2 ["self", "stamp"] (spGiven K CD)) (MD : Me P w K mg base CD "take_done" 2 ["self", "stamp"] (spDone K CD)) :
    FnOk P w K mg base CX0 3 f fd ["self", "sender", "letter"] (spHear4 K C CD) :=
  FnOk_or (ok_hearA F MX VT DT MF MA) (FnOk_imp (ok_hearGD F VT DT MF MG MD) hear_imp)
/-! ### a fall is heard -/
def spGone4 (K : PySem.W.Frag) (C CD : Addr) : Sp := fun vs H Q _ => ∃ (p dx dk ddx : Addr) (me cnt fst v : Int) (kn : List Int) (b : Bool) (M : List (List Int)) (m : Option (List Int)), vs = [.ref p, .int v] ∧
  VoX K C CD p dx dk ddx H me cnt fst kn b M m ∧ M.length < 63 ∧ kn.length < 100 ∧
  (if isSeat m v = true then ∀ l H' kn' M' m' zs ds, FrL H H' → kn'.Perm (kn ++ [v]) → kn'.Pairwise (· ≤ ·) → VoX K C CD p dx dk ddx H' me cnt fst kn' false M' m' → H' l = some (.lst zs) → DpAll K H' zs ds → FreeR (M.filter fun k => !decide (seatN k = v)) cnt M' m' ds → Q (.ref l) H'
    else ∀ l H' kn', FrL H H' → kn'.Perm (kn ++ [v]) → kn'.Pairwise (· ≤ ·) → VoX K C CD p dx dk ddx H' me cnt fst kn' b (M.filter fun k => !decide (seatN k = v)) m → H' l = some (.lst []) → Q (.ref l) H')
theorem sc_Voter_gone : FnScope ["self", "seat", "sends"] ["self", "seat"] (defScope s_Voter_gone) :=
  ⟨rfl, rfl, rfl, by decide +kernel, rfl, by decide +kernel, by decide +kernel⟩
theorem ok_gone4 (F : Fun K "gone" "Voter.gone" s_Voter_gone f fd) (T : BlD mg) (VT : VoT K C) (DT : DeskT K mg CD) (MF : Me P w K mg base C "_from_desk" 2 ["self", "deeds"] (spFromD K C)) (MN : Me P w K mg base CD "take_gone" 2 ["self", "seat"] (spGone K CD)) :
    FnOk P w K mg base CX0 3 f fd ["self", "seat"] (spGone4 K C CD) := by
  obtain ⟨fF, fdF, GF, bF, mF⟩ := MF
  obtain ⟨fN, fdN, GN, bN, mN⟩ := MN
  refine F.ok sc_Voter_gone (fun vs H Q E h => ?_) (fun cdv A outer s H vs Q E hr h => ?_)
  · obtain ⟨p, _, _, _, _, _, _, _, _, _, _, _, rfl, _⟩ := h
    rfl
  obtain ⟨p, dx, dk, ddx, me, cnt, fst, v, kn, b, M, m, rfl, ⟨h, hnd, knw, sa, se, qa, xs, V⟩, lM, lk, q⟩ := h
  refine ⟨_, (pss_cons (ps_fld (pv 0) (pe_callTy call_tuple_of (by rfl) T.tuple (by decide +kernel) (pa_cons (pe_callB cr_sortedIT (by rfl) T.sorted (by decide +kernel) (pa_cons (pe_op op_catA (pe_fld (pv 0) (by rfl)) (pe_tup (pa_cons (pv 1) pa_nil))) pa_nil)) pa_nil)) rfl)
    (pss_cons (ps_set (i := 2) sc_Voter_gone.nd rfl (Or.inl rfl) (pe_meth (pv 0) VT.cl mF GF hr bF .nil pass0 (pa_cons (pe_meth (pe_fld (pv 0) (by rfl)) DT.cl mN GN hr bN .nil pass0 (pa_cons (pv 1) pa_nil)) pa_nil)))
    (pss_cons (ps_if (PW.pt (pw_and (pt_cmpR op_eq (pe_fld (pv 0) (by rfl)) pe_str (nomark _)) (pw_and1 (pt_cmpR u_in (pv 1) (pe_fld (pv 0) (by rfl)) (by rfl)))))
    (pss_one ps_dead)
    pss_nil)
    (pss_one (ps_ret (pv 2)))))), ?_⟩
  have hno := fun kw => (voF_no me "out" false cnt .non hnd kw dk sa fst se (x := "_from_desk") (by decide +kernel) (by decide +kernel) (by decide +kernel) (by decide +kernel) (by decide +kernel) (by decide +kernel) (by decide +kernel) (by decide +kernel) (by decide +kernel) (by decide +kernel) (by decide +kernel))
  refine ⟨_, rfl, p, C, dx, _, _, rfl, V.hp, VT.cl, VT.known, voF_knw _ _ _ _ _ _ _ _ _ _ _, _, rfl, by show 1 ≤ sizeLine; decide, fun t1 ht1 => ?_⟩
  refine cat_anyk (sqt_same (same_upd ht1) V.hk) (SqT.of upd_same) (by simp; omega) fun r1 G1 s1 h1 => ?_
  have s01 : Same H G1 := (same_upd ht1).trans s1
  refine ⟨r1, kn ++ [v], rfl, by rw [List.map_append]; exact h1, fun kn' o pk uk ho => ?_⟩
  have s02 := s01.trans (same_upd (o := .lst (kn'.map L2.V.int)) ho)
  refine ⟨o, _, rfl, .inl ⟨SqL.of upd_same, fun q' hq' => ?_⟩⟩
  have s03 := s02.trans (same_upd (o := .tup (kn'.map L2.V.int)) hq')
  obtain ⟨G3, e3⟩ : ∃ G3, G3 = upd (upd G1 o (.lst (kn'.map L2.V.int))) q' (.tup (kn'.map L2.V.int)) := ⟨_, rfl⟩
  have k3 : G3 q' = some (.tup (kn'.map L2.V.int)) := by rw [e3]; exact upd_same
  rw [← e3] at s03
  rw [← e3]
  have V3 := V.same s03
  refine ⟨_, rfl, p, C, dx, _, rfl, V3.hp, VT.cl, VT.known, (by show 11 < 1000; decide), ?_⟩
  rw [voF_put_knw]
  have cI : Chg p G3 (upd G3 p (.ins C dx (voF me "out" false cnt .non hnd q' dk sa fst se))) := Chg.self
  obtain ⟨G4, e4⟩ : ∃ G4, G4 = upd G3 p (.ins C dx (voF me "out" false cnt .non hnd q' dk sa fst se)) := ⟨_, rfl⟩
  have hp4 : G4 p = some (.ins C dx (voF me "out" false cnt .non hnd q' dk sa fst se)) := by rw [e4]; exact upd_same
  rw [← e4] at cI
  rw [← e4]
  have f4 := (Same.frl s03).trans (cI.frl V3.hp)
  have i4 : ∀ a xs, SqT K G3 a xs → SqT K G4 a xs := fun _ _ z => sqt_frl (cI.frl V3.hp) z
  have hd4 := cI _ _ V.ne.symm V3.hd
  have V4 : VoD K C CD p dx dk ddx G4 me cnt fst kn' h b M m hnd q' sa se qa xs := ⟨hp4, i4 _ _ V3.hh, i4 _ _ (SqT.of k3), hd4, i4 _ _ V3.hq, V3.hM.imp i4, hold_imp i4 V3.hold, V.ne⟩
  refine ⟨_, rfl, p, dx, _, rfl, hp4, hno q', _, rfl, p, C, dx, _, _, rfl, hp4, VT.cl, VT.desk, voF_dsk _ _ _ _ _ _ _ _ _ _ _, dk, ddx, _, rfl, hd4, deskF_no _ _ _ (by decide +kernel) (by decide +kernel) (by decide +kernel), _, rfl, dk, ddx, qa, h, b, xs, M, m, v, rfl, hd4, V4.hq, V4.hM, V4.hold, lM, ?_⟩
  by_cases e : isSeat m v = true
  · rw [if_pos e] at q ⊢
    intro l1 H1 h1 cg O
    unfold tNil
    dsimp only [List.nil_append, List.append_nil]
    refine from_out (E := E0) (cg _ _ V.ne hp4) O fun l2 H2 s2 h2 T2 => ?_
    obtain ⟨fr, M', m', zs, ds, V', kl, dz, R⟩ := out_vod V4 cg O s2 T2
    refine ⟨_, rfl, p, C, dx, _, _, rfl, (s2 _ _ (cg _ _ V.ne hp4)), VT.cl, VT.state, voF_stt _ _ _ _ _ _ _ _ _ _ _, rfl, _, rfl, iteF' (by decide +kernel) ?_⟩
    exact ⟨_, rfl, q l2 H2 kn' M' m' zs ds (f4.trans fr) pk uk V' kl dz R⟩
  · rw [if_neg e] at q ⊢
    intro l1 H1 h1 cg O
    unfold tNil
    dsimp only [List.nil_append, List.append_nil]
    refine from_stay (E := E0) (cg _ _ V.ne hp4) O.1 fun l2 h2 => ?_
    obtain ⟨fr, V'⟩ := stay_vod V4 cg O (fun z => by rw [z]; rfl) (same_upd (o := .lst []) h2)
    refine ⟨_, rfl, p, C, dx, _, _, rfl, (same_upd h2 _ _ (cg _ _ V.ne hp4)), VT.cl, VT.state, voF_stt _ _ _ _ _ _ _ _ _ _ _, rfl, _, rfl, iteF' (by decide +kernel) ?_⟩
    exact ⟨_, rfl, q l2 _ kn' (f4.trans fr) pk uk V' upd_same⟩
end

end G0
namespace G0
open PySem PySem.Spec PyProof.Rows L2
/-! ### what is held -/
def HeldV (K : PySem.W.Frag) (H : Hp) (h : V) (m : Option (List Int)) : Prop := (h = .non ∧ m = none) ∨ ∃ hh n, h = .ref hh ∧ TupI K H (.ref hh) n ∧ StN n ∧ m = some n
theorem HeldV.imp {K : PySem.W.Frag} {H H' : Hp} (c : ∀ a xs, SqT K H a xs → SqT K H' a xs) {h : V} {m : Option (List Int)} (z : HeldV K H h m) : HeldV K H' h m := by
  rcases z with z | ⟨hh, n, e, ⟨t, e2, z⟩, sm, f⟩
  · exact .inl z
  · exact .inr ⟨hh, n, e, ⟨t, e2, c _ _ z⟩, sm, f⟩
def mD : Option (List Int) → PyData
  | none => .none
  | some n => stD n
theorem HeldV.dps {K : PySem.W.Frag} {H : Hp} {h : V} {m : Option (List Int)} (z : HeldV K H h m) : ∃ d, (∀ k, Lv (k + 1) d) ∧ Dp K H h d ∧ SeqAt.shaped d = true ∧ (∀ n, PyData.eqv (stD n) d = decide (m = some n)) ∧ d = mD m := by
  rcases z with ⟨rfl, rfl⟩ | ⟨hh, k, rfl, z, sm, rfl⟩
  · exact ⟨.none, fun _ => .non, .non, by decide, fun n => by simp [stD, PyData.eqv], rfl⟩
  · exact ⟨stD k, fun _ => lv_st (by rw [sm.1]; decide), dp_stamp z, shaped_st k, fun n => by rw [eqv_sd]; simp [eq_comm], rfl⟩
theorem eqv_nil (L : List (List Int)) : PyData.eqv (.list (L.map stD)) (.list []) = decide (L = []) := by
  cases L <;> simp [PyData.eqv, PyData.eqvAll]
theorem sqt_mut {K : PySem.W.Frag} {H H' : Hp} {q : Addr} {o : HO} (hq : H q = some o) (no : (∀ xs, o ≠ .tup xs) ∧ ∀ u xs, o ≠ .frz u xs) (c : Chg q H H') {a : Addr} {xs : List V} (h : SqT K H a xs) : SqT K H' a xs := by
  rcases h with (z | ⟨o', z⟩) | z
  · exact .inl (.inl (c _ _ (fun e => by rw [e, hq] at z; exact no.1 _ (Option.some.inj z)) z))
  · exact .inl (.inr ⟨o', c _ _ (fun e => by rw [e, hq] at z; exact no.2 _ _ (Option.some.inj z)) z⟩)
  · exact .inr z
theorem lst_no {xs : List V} : (∀ ys, (HO.lst xs) ≠ .tup ys) ∧ ∀ u ys, (HO.lst xs) ≠ .frz u ys := ⟨(fun _ z => nomatch z), (fun _ _ z => nomatch z)⟩
theorem dK_no {kvs : List (Key × V)} : (∀ ys, (HO.dK kvs) ≠ .tup ys) ∧ ∀ u ys, (HO.dK kvs) ≠ .frz u ys := ⟨(fun _ z => nomatch z), (fun _ _ z => nomatch z)⟩
/-- all but lists and dicts stays -/
def FrI (H H' : Hp) : Prop := ∀ a o, H a = some o → (∀ xs, o ≠ .lst xs) → (∀ kvs, o ≠ .dK kvs) → H' a = some o
theorem FrI.trans {H H1 H2 : Hp} (a : FrI H H1) (b : FrI H1 H2) : FrI H H2 := fun x o e n m => b x o (a x o e n m) n m
theorem Same.fri {H H1 : Hp} (a : Same H H1) : FrI H H1 := fun x o e _ _ => a x o e
theorem fri_lst {H : Hp} {q : Addr} {xs : List V} {o : HO} (hq : H q = some (.lst xs)) : FrI H (upd H q o) := fun a u e n _ => by
  have aq : a ≠ q := fun z => by rw [z, hq] at e; exact n _ (Option.some.inj e).symm
  rw [upd_ne aq]; exact e
theorem fri_dK {H : Hp} {q : Addr} {xs : List (Key × V)} {o : HO} (hq : H q = some (.dK xs)) : FrI H (upd H q o) := fun a u e _ n => by
  have aq : a ≠ q := fun z => by rw [z, hq] at e; exact n _ (Option.some.inj e).symm
  rw [upd_ne aq]; exact e
theorem sqt_fri {K : PySem.W.Frag} {H H' : Hp} (c : FrI H H') {a : Addr} {xs : List V} (h : SqT K H a xs) : SqT K H' a xs := by
  rcases h with (z | ⟨o', z⟩) | z
  · exact .inl (.inl (c _ _ z (fun _ e => nomatch e) (fun _ e => nomatch e)))
  · exact .inl (.inr ⟨o', c _ _ z (fun _ e => nomatch e) (fun _ e => nomatch e)⟩)
  · exact .inr z
/-- as many as fields of a kind -/
def TuAt (K : PySem.W.Frag) (H : Hp) (xs : List V) (tu : List (Option (List Int))) : Prop := xs.length = tu.length ∧ ∀ (i : Nat) (v : V) (o : Option (List Int)), xs[i]? = some v → tu[i]? = some o → HeldV K H v o
theorem TuAt.imp {K : PySem.W.Frag} {H H' : Hp} (c : ∀ a xs, SqT K H a xs → SqT K H' a xs) {xs : List V} {tu : List (Option (List Int))} (z : TuAt K H xs tu) : TuAt K H' xs tu := ⟨z.1, fun i v o e1 e2 => (z.2 i v o e1 e2).imp c⟩
theorem TuAt.set {K : PySem.W.Frag} {H : Hp} {xs : List V} {tu : List (Option (List Int))} (z : TuAt K H xs tu) {v : V} {o : Option (List Int)} (j : Nat) (h : HeldV K H v o) : TuAt K H (xs.set j v) (tu.set j o) := by
  refine ⟨by rw [List.length_set, List.length_set]; exact z.1, fun i u q e1 e2 => ?_⟩
  rw [List.getElem?_set] at e1 e2
  by_cases c : j = i
  · subst c
    rw [if_pos rfl] at e1 e2
    have l := z.1
    by_cases c2 : j < xs.length
    · rw [if_pos c2] at e1
      rw [if_pos (by omega)] at e2
      cases e1; cases e2
      exact h
    · rw [if_neg c2] at e1
      cases e1
  · rw [if_neg c] at e1 e2
    exact z.2 i u q e1 e2
/-! ### the law's world -/
structure Wo (K : PySem.W.Frag) (H : Hp) (b cl la sn ga fa ta wa : Addr) (hv : V) (cs : List Int) (cnt : Int) (lv : List (List Int)) (hd : Option (List Int)) (sv : List (List Int)) (gn fl : List Int) (tu : List (Option (List Int))) (wt : List Bool) : Prop where
  kb : H b = some (.dK (boxW cnt la hv sn ga fa ta wa))
  kC : H cl = some (.lst (cs.map V.int))
  kL : ∃ xs, H la = some (.lst xs) ∧ Sts K H xs lv
  kH : HeldV K H hv hd
  kS : ∃ xs, H sn = some (.lst xs) ∧ Sts K H xs sv
  kG : H ga = some (.lst (gn.map V.int))
  kF : H fa = some (.lst (fl.map V.int))
  kT : ∃ xs, H ta = some (.lst xs) ∧ TuAt K H xs tu
  kW : H wa = some (.lst (wt.map V.bl))
  nd : [cl, la, sn, ga, fa, ta, wa].Nodup
section
variable {K : PySem.W.Frag} {H H' : Hp} {b cl la sn ga fa ta wa : Addr} {hv : V} {cs : List Int} {cnt : Int} {lv : List (List Int)} {hd : Option (List Int)} {sv : List (List Int)} {gn fl : List Int} {tu : List (Option (List Int))} {wt : List Bool}
theorem Wo.frl (F : Wo K H b cl la sn ga fa ta wa hv cs cnt lv hd sv gn fl tu wt) (s : FrL H H') : Wo K H' b cl la sn ga fa ta wa hv cs cnt lv hd sv gn fl tu wt := by
  have i : ∀ a xs, SqT K H a xs → SqT K H' a xs := fun _ _ z => sqt_frl s z
  have k : ∀ {a : Addr} {xs : List V}, H a = some (.lst xs) → H' a = some (.lst xs) := fun e => s _ _ e (fun _ _ _ z => nomatch z)
  obtain ⟨xl, l1, l2⟩ := F.kL
  obtain ⟨xs, s1, s2⟩ := F.kS
  obtain ⟨xt, t1, t2⟩ := F.kT
  exact ⟨s _ _ F.kb (fun _ _ _ z => nomatch z), k F.kC, ⟨xl, k l1, l2.imp i⟩, F.kH.imp i, ⟨xs, k s1, s2.imp i⟩, k F.kG, k F.kF, ⟨xt, k t1, t2.imp i⟩, k F.kW, F.nd⟩
theorem Wo.same (F : Wo K H b cl la sn ga fa ta wa hv cs cnt lv hd sv gn fl tu wt) (s : Same H H') : Wo K H' b cl la sn ga fa ta wa hv cs cnt lv hd sv gn fl tu wt := F.frl (Same.frl s)
theorem Wo.setcnt (F : Wo K H b cl la sn ga fa ta wa hv cs cnt lv hd sv gn fl tu wt) (cnt' : Int) : Wo K (upd H b (.dK (boxW cnt' la hv sn ga fa ta wa))) b cl la sn ga fa ta wa hv cs cnt' lv hd sv gn fl tu wt := by
  have c : Chg b H (upd H b (.dK (boxW cnt' la hv sn ga fa ta wa))) := Chg.self
  have i : ∀ a xs, SqT K H a xs → SqT K (upd H b (.dK (boxW cnt' la hv sn ga fa ta wa))) a xs := fun _ _ z => sqt_mut F.kb dK_no c z
  have k : ∀ {a : Addr} {xs : List V}, H a = some (.lst xs) → (upd H b (.dK (boxW cnt' la hv sn ga fa ta wa))) a = some (.lst xs) := fun e => c _ _ (ne_of e F.kb (by intro z; cases z)) e
  obtain ⟨xl, l1, l2⟩ := F.kL
  obtain ⟨xs, s1, s2⟩ := F.kS
  obtain ⟨xt, t1, t2⟩ := F.kT
  exact ⟨upd_same, k F.kC, ⟨xl, k l1, l2.imp i⟩, F.kH.imp i, ⟨xs, k s1, s2.imp i⟩, k F.kG, k F.kF, ⟨xt, k t1, t2.imp i⟩, k F.kW, F.nd⟩
theorem Wo.setheld (F : Wo K H b cl la sn ga fa ta wa hv cs cnt lv hd sv gn fl tu wt) {hv' : V} {hd' : Option (List Int)} (h : HeldV K H hv' hd') : Wo K (upd H b (.dK (boxW cnt la hv' sn ga fa ta wa))) b cl la sn ga fa ta wa hv' cs cnt lv hd' sv gn fl tu wt := by
  have c : Chg b H (upd H b (.dK (boxW cnt la hv' sn ga fa ta wa))) := Chg.self
  have i : ∀ a xs, SqT K H a xs → SqT K (upd H b (.dK (boxW cnt la hv' sn ga fa ta wa))) a xs := fun _ _ z => sqt_mut F.kb dK_no c z
  have k : ∀ {a : Addr} {xs : List V}, H a = some (.lst xs) → (upd H b (.dK (boxW cnt la hv' sn ga fa ta wa))) a = some (.lst xs) := fun e => c _ _ (ne_of e F.kb (by intro z; cases z)) e
  obtain ⟨xl, l1, l2⟩ := F.kL
  obtain ⟨xs, s1, s2⟩ := F.kS
  obtain ⟨xt, t1, t2⟩ := F.kT
  exact ⟨upd_same, k F.kC, ⟨xl, k l1, l2.imp i⟩, h.imp i, ⟨xs, k s1, s2.imp i⟩, k F.kG, k F.kF, ⟨xt, k t1, t2.imp i⟩, k F.kW, F.nd⟩
theorem Wo.setlive (F : Wo K H b cl la sn ga fa ta wa hv cs cnt lv hd sv gn fl tu wt) {D : Addr} {ys : List V} {lv' : List (List Int)} (h : H D = some (.lst ys)) (hs : Sts K H ys lv') (n1 : D ≠ cl) (n2 : D ≠ la) (n3 : D ≠ sn) (n4 : D ≠ ga) (n5 : D ≠ fa) (n6 : D ≠ ta) (n7 : D ≠ wa) : Wo K (upd H b (.dK (boxW cnt D hv sn ga fa ta wa))) b cl D sn ga fa ta wa hv cs cnt lv' hd sv gn fl tu wt := by
  have c : Chg b H (upd H b (.dK (boxW cnt D hv sn ga fa ta wa))) := Chg.self
  have i : ∀ a xs, SqT K H a xs → SqT K (upd H b (.dK (boxW cnt D hv sn ga fa ta wa))) a xs := fun _ _ z => sqt_mut F.kb dK_no c z
  have k : ∀ {a : Addr} {xs : List V}, H a = some (.lst xs) → (upd H b (.dK (boxW cnt D hv sn ga fa ta wa))) a = some (.lst xs) := fun e => c _ _ (ne_of e F.kb (by intro z; cases z)) e
  obtain ⟨xl, l1, l2⟩ := F.kL
  obtain ⟨xs, s1, s2⟩ := F.kS
  obtain ⟨xt, t1, t2⟩ := F.kT
  exact ⟨upd_same, k F.kC, ⟨ys, k h, hs.imp i⟩, F.kH.imp i, ⟨xs, k s1, s2.imp i⟩, k F.kG, k F.kF, ⟨xt, k t1, t2.imp i⟩, k F.kW, (by
    have nd := F.nd
    simp only [List.nodup_cons, List.mem_cons, not_or, List.not_mem_nil, not_false_eq_true, and_true] at nd ⊢
    have n1' := n1.symm
    have n2' := n2.symm
    have n3' := n3.symm
    have n4' := n4.symm
    have n5' := n5.symm
    have n6' := n6.symm
    have n7' := n7.symm
    simp_all)⟩
theorem Wo.setsince (F : Wo K H b cl la sn ga fa ta wa hv cs cnt lv hd sv gn fl tu wt) {D : Addr} {ys : List V} {sv' : List (List Int)} (h : H D = some (.lst ys)) (hs : Sts K H ys sv') (n1 : D ≠ cl) (n2 : D ≠ la) (n3 : D ≠ sn) (n4 : D ≠ ga) (n5 : D ≠ fa) (n6 : D ≠ ta) (n7 : D ≠ wa) : Wo K (upd H b (.dK (boxW cnt la hv D ga fa ta wa))) b cl la D ga fa ta wa hv cs cnt lv hd sv' gn fl tu wt := by
  have c : Chg b H (upd H b (.dK (boxW cnt la hv D ga fa ta wa))) := Chg.self
  have i : ∀ a xs, SqT K H a xs → SqT K (upd H b (.dK (boxW cnt la hv D ga fa ta wa))) a xs := fun _ _ z => sqt_mut F.kb dK_no c z
  have k : ∀ {a : Addr} {xs : List V}, H a = some (.lst xs) → (upd H b (.dK (boxW cnt la hv D ga fa ta wa))) a = some (.lst xs) := fun e => c _ _ (ne_of e F.kb (by intro z; cases z)) e
  obtain ⟨xl, l1, l2⟩ := F.kL
  obtain ⟨xs, s1, s2⟩ := F.kS
  obtain ⟨xt, t1, t2⟩ := F.kT
  exact ⟨upd_same, k F.kC, ⟨xl, k l1, l2.imp i⟩, F.kH.imp i, ⟨ys, k h, hs.imp i⟩, k F.kG, k F.kF, ⟨xt, k t1, t2.imp i⟩, k F.kW, (by
    have nd := F.nd
    simp only [List.nodup_cons, List.mem_cons, not_or, List.not_mem_nil, not_false_eq_true, and_true] at nd ⊢
    have n1' := n1.symm
    have n2' := n2.symm
    have n3' := n3.symm
    have n4' := n4.symm
    have n5' := n5.symm
    have n6' := n6.symm
    have n7' := n7.symm
    simp_all)⟩
theorem Wo.mutlive (F : Wo K H b cl la sn ga fa ta wa hv cs cnt lv hd sv gn fl tu wt) {ys : List V} {lv' : List (List Int)} (hs : Sts K H ys lv') : Wo K (upd H la (.lst ys)) b cl la sn ga fa ta wa hv cs cnt lv' hd sv gn fl tu wt := by
  have nd := F.nd
  obtain ⟨xl, l1, l2⟩ := F.kL
  obtain ⟨xs, s1, s2⟩ := F.kS
  obtain ⟨xt, t1, t2⟩ := F.kT
  have kx := l1
  have c : Chg la H (upd H la (.lst ys)) := Chg.self
  have i : ∀ a xs, SqT K H a xs → SqT K (upd H la (.lst ys)) a xs := fun _ _ z => sqt_mut kx lst_no c z
  have k : ∀ {a : Addr} {xs : List V}, a ≠ la → H a = some (.lst xs) → (upd H la (.lst ys)) a = some (.lst xs) := fun n e => c _ _ n e
  exact ⟨c _ _ (ne_of F.kb kx (by intro z; cases z)) F.kb, k (fun e => by subst e; simp at nd) F.kC, ⟨ys, upd_same, hs.imp i⟩, F.kH.imp i, ⟨xs, k (fun e => by subst e; simp at nd) s1, s2.imp i⟩, k (fun e => by subst e; simp at nd) F.kG, k (fun e => by subst e; simp at nd) F.kF, ⟨xt, k (fun e => by subst e; simp at nd) t1, t2.imp i⟩, k (fun e => by subst e; simp at nd) F.kW, nd⟩
theorem Wo.mutsince (F : Wo K H b cl la sn ga fa ta wa hv cs cnt lv hd sv gn fl tu wt) {ys : List V} {sv' : List (List Int)} (hs : Sts K H ys sv') : Wo K (upd H sn (.lst ys)) b cl la sn ga fa ta wa hv cs cnt lv hd sv' gn fl tu wt := by
  have nd := F.nd
  obtain ⟨xl, l1, l2⟩ := F.kL
  obtain ⟨xs, s1, s2⟩ := F.kS
  obtain ⟨xt, t1, t2⟩ := F.kT
  have kx := s1
  have c : Chg sn H (upd H sn (.lst ys)) := Chg.self
  have i : ∀ a xs, SqT K H a xs → SqT K (upd H sn (.lst ys)) a xs := fun _ _ z => sqt_mut kx lst_no c z
  have k : ∀ {a : Addr} {xs : List V}, a ≠ sn → H a = some (.lst xs) → (upd H sn (.lst ys)) a = some (.lst xs) := fun n e => c _ _ n e
  exact ⟨c _ _ (ne_of F.kb kx (by intro z; cases z)) F.kb, k (fun e => by subst e; simp at nd) F.kC, ⟨xl, k (fun e => by subst e; simp at nd) l1, l2.imp i⟩, F.kH.imp i, ⟨ys, upd_same, hs.imp i⟩, k (fun e => by subst e; simp at nd) F.kG, k (fun e => by subst e; simp at nd) F.kF, ⟨xt, k (fun e => by subst e; simp at nd) t1, t2.imp i⟩, k (fun e => by subst e; simp at nd) F.kW, nd⟩
theorem Wo.mutgone (F : Wo K H b cl la sn ga fa ta wa hv cs cnt lv hd sv gn fl tu wt) (gn' : List Int) : Wo K (upd H ga (.lst (gn'.map V.int))) b cl la sn ga fa ta wa hv cs cnt lv hd sv gn' fl tu wt := by
  have nd := F.nd
  obtain ⟨xl, l1, l2⟩ := F.kL
  obtain ⟨xs, s1, s2⟩ := F.kS
  obtain ⟨xt, t1, t2⟩ := F.kT
  have kx := F.kG
  have c : Chg ga H (upd H ga (.lst (gn'.map V.int))) := Chg.self
  have i : ∀ a xs, SqT K H a xs → SqT K (upd H ga (.lst (gn'.map V.int))) a xs := fun _ _ z => sqt_mut kx lst_no c z
  have k : ∀ {a : Addr} {xs : List V}, a ≠ ga → H a = some (.lst xs) → (upd H ga (.lst (gn'.map V.int))) a = some (.lst xs) := fun n e => c _ _ n e
  exact ⟨c _ _ (ne_of F.kb kx (by intro z; cases z)) F.kb, k (fun e => by subst e; simp at nd) F.kC, ⟨xl, k (fun e => by subst e; simp at nd) l1, l2.imp i⟩, F.kH.imp i, ⟨xs, k (fun e => by subst e; simp at nd) s1, s2.imp i⟩, upd_same, k (fun e => by subst e; simp at nd) F.kF, ⟨xt, k (fun e => by subst e; simp at nd) t1, t2.imp i⟩, k (fun e => by subst e; simp at nd) F.kW, nd⟩
theorem Wo.mutfloor (F : Wo K H b cl la sn ga fa ta wa hv cs cnt lv hd sv gn fl tu wt) (fl' : List Int) : Wo K (upd H fa (.lst (fl'.map V.int))) b cl la sn ga fa ta wa hv cs cnt lv hd sv gn fl' tu wt := by
  have nd := F.nd
  obtain ⟨xl, l1, l2⟩ := F.kL
  obtain ⟨xs, s1, s2⟩ := F.kS
  obtain ⟨xt, t1, t2⟩ := F.kT
  have kx := F.kF
  have c : Chg fa H (upd H fa (.lst (fl'.map V.int))) := Chg.self
  have i : ∀ a xs, SqT K H a xs → SqT K (upd H fa (.lst (fl'.map V.int))) a xs := fun _ _ z => sqt_mut kx lst_no c z
  have k : ∀ {a : Addr} {xs : List V}, a ≠ fa → H a = some (.lst xs) → (upd H fa (.lst (fl'.map V.int))) a = some (.lst xs) := fun n e => c _ _ n e
  exact ⟨c _ _ (ne_of F.kb kx (by intro z; cases z)) F.kb, k (fun e => by subst e; simp at nd) F.kC, ⟨xl, k (fun e => by subst e; simp at nd) l1, l2.imp i⟩, F.kH.imp i, ⟨xs, k (fun e => by subst e; simp at nd) s1, s2.imp i⟩, k (fun e => by subst e; simp at nd) F.kG, upd_same, ⟨xt, k (fun e => by subst e; simp at nd) t1, t2.imp i⟩, k (fun e => by subst e; simp at nd) F.kW, nd⟩
theorem Wo.mutturned (F : Wo K H b cl la sn ga fa ta wa hv cs cnt lv hd sv gn fl tu wt) {ys : List V} {tu' : List (Option (List Int))} (hs : TuAt K H ys tu') : Wo K (upd H ta (.lst ys)) b cl la sn ga fa ta wa hv cs cnt lv hd sv gn fl tu' wt := by
  have nd := F.nd
  obtain ⟨xl, l1, l2⟩ := F.kL
  obtain ⟨xs, s1, s2⟩ := F.kS
  obtain ⟨xt, t1, t2⟩ := F.kT
  have kx := t1
  have c : Chg ta H (upd H ta (.lst ys)) := Chg.self
  have i : ∀ a xs, SqT K H a xs → SqT K (upd H ta (.lst ys)) a xs := fun _ _ z => sqt_mut kx lst_no c z
  have k : ∀ {a : Addr} {xs : List V}, a ≠ ta → H a = some (.lst xs) → (upd H ta (.lst ys)) a = some (.lst xs) := fun n e => c _ _ n e
  exact ⟨c _ _ (ne_of F.kb kx (by intro z; cases z)) F.kb, k (fun e => by subst e; simp at nd) F.kC, ⟨xl, k (fun e => by subst e; simp at nd) l1, l2.imp i⟩, F.kH.imp i, ⟨xs, k (fun e => by subst e; simp at nd) s1, s2.imp i⟩, k (fun e => by subst e; simp at nd) F.kG, k (fun e => by subst e; simp at nd) F.kF, ⟨ys, upd_same, hs.imp i⟩, k (fun e => by subst e; simp at nd) F.kW, nd⟩
theorem Wo.mutwaited (F : Wo K H b cl la sn ga fa ta wa hv cs cnt lv hd sv gn fl tu wt) (wt' : List Bool) : Wo K (upd H wa (.lst (wt'.map V.bl))) b cl la sn ga fa ta wa hv cs cnt lv hd sv gn fl tu wt' := by
  have nd := F.nd
  obtain ⟨xl, l1, l2⟩ := F.kL
  obtain ⟨xs, s1, s2⟩ := F.kS
  obtain ⟨xt, t1, t2⟩ := F.kT
  have kx := F.kW
  have c : Chg wa H (upd H wa (.lst (wt'.map V.bl))) := Chg.self
  have i : ∀ a xs, SqT K H a xs → SqT K (upd H wa (.lst (wt'.map V.bl))) a xs := fun _ _ z => sqt_mut kx lst_no c z
  have k : ∀ {a : Addr} {xs : List V}, a ≠ wa → H a = some (.lst xs) → (upd H wa (.lst (wt'.map V.bl))) a = some (.lst xs) := fun n e => c _ _ n e
  exact ⟨c _ _ (ne_of F.kb kx (by intro z; cases z)) F.kb, k (fun e => by subst e; simp at nd) F.kC, ⟨xl, k (fun e => by subst e; simp at nd) l1, l2.imp i⟩, F.kH.imp i, ⟨xs, k (fun e => by subst e; simp at nd) s1, s2.imp i⟩, k (fun e => by subst e; simp at nd) F.kG, k (fun e => by subst e; simp at nd) F.kF, ⟨xt, k (fun e => by subst e; simp at nd) t1, t2.imp i⟩, upd_same, nd⟩
end

end G0
namespace G0
open PySem PySem.Spec PyProof.Rows L2
section
variable {P : Program} {w : World} {K : PySem.W.Frag} {mg : Str → Option Value} {base : Heap} {C CD : Addr}
theorem sorted_eq {a b : List Int} (p : a.Perm b) (ha : a.Pairwise (· ≤ ·)) (hb : b.Pairwise (· ≤ ·)) : a = b :=
  List.Perm.eq_of_pairwise (fun _ _ _ _ h1 h2 => Int.le_antisymm h1 h2) ha hb p
theorem dp_tupI {H : Hp} {t : Addr} {ns : List Int} (h : SqT K H t (ns.map V.int)) : Dp K H (.ref t) (.tuple (ns.map PyData.int)) := .tup h (dps_ints ns)
theorem lv_tupI (ns : List Int) (l : ns.length < 10000) (k : Nat) : Lv (k + 1) (.tuple (ns.map PyData.int)) := .tup (by rw [List.length_map]; exact l) fun d hd => by
  obtain ⟨i, _, rfl⟩ := List.mem_map.mp hd
  exact .int i
/-! ### _law_looks -/
def spLooks4 (K : PySem.W.Frag) (C CD : Addr) : Sp := fun vs H Q _ => ∃ (p dx dk ddx b cl la sn ga fa ta wa : Addr) (hv : V) (cs gn fl kn : List Int) (me cnt fst : Int) (lv sv M : List (List Int)) (hd : Option (List Int)) (tu : List (Option (List Int))) (wt : List Bool) (bb : Bool), vs = [.ref p, .ref b] ∧
  VoX K C CD p dx dk ddx H me cnt fst kn bb M hd ∧ Wo K H b cl la sn ga fa ta wa hv cs cnt lv hd sv gn fl tu wt ∧ bb = !decide (sv = []) ∧ Rest lv hd M ∧ lv.length < 64 ∧ kn.Perm gn ∧ kn.Pairwise (· ≤ ·) ∧ kn.length < 100 ∧ ∀ H', Same H H' → Q (.bl true) H'
theorem sc_law_looks : FnScope ["voter", "world", "desk", "held", "waiting", "one"] ["voter", "world"] (defScope s_law_looks) :=
  ⟨rfl, rfl, rfl, by decide +kernel, rfl, by decide +kernel, by decide +kernel⟩
theorem ok_looks4 (F : Fn K mg "_law_looks" s_law_looks) (T : BlD mg) (S : DeskT K mg CD) (VT : VoT K C) (C_same : Cal P w K mg base "_law_same" 4 ["found", "due"] (spSameD K 3))
    (ML : Me P w K mg base CD "__len__" 1 ["self"] (spDLen (K := K) CD)) : Cal P w K mg base "_law_looks" 5 ["voter", "world"] (spLooks4 K C CD) := by
  obtain ⟨fL, fdL, GL, bL, mL⟩ := ML
  refine cal_of F sc_law_looks
    (fun _ _ _ _ _ _ us hl => match us, hl with | [_, _], _ => rfl) ?_ ?_
  · rintro vs H Q E ⟨_, _, _, _, _, _, _, _, _, _, _, _, _, _, _, _, _, _, _, _, _, _, _, _, _, _, _, rfl, _⟩
    rfl
  rintro f cdv A outer s H vs Q E free hr ⟨p, dx, dk, ddx, b, cl, la, sn, ga, fa, ta, wa, hv, cs, gn, fl, kn, me, cnt, fst, lv, sv, M, hd, tu, wt, bb, rfl, ⟨h, hnd, knw, sa, se, qa, ys, V0⟩, W, hb, rest, len, pk, uk, lk, q⟩
  have hr2 : Room 2 _ := hr.mono (by decide)
  refine ⟨_, (pss_cons (ps_set (i := 2) sc_law_looks.nd rfl (Or.inl rfl) (pe_fld (pv 0) (by rfl)))
    (pss_cons (ps_set (i := 3) sc_law_looks.nd rfl (Or.inr rfl) (pe_dget (hu_of hr) (pv 1) pe_str (fun _ _ => rfl)))
    (pss_cons (ps_set (i := 4) sc_law_looks.nd rfl (Or.inl rfl) (pe_callTy call_tuple_of (by rfl) T.tuple (by decide +kernel) (pa_cons (pe_lc (own := [("one", 5)]) (g := gName 5)  (by rfl) sc_law_looks.nd (pi_list (pe_callB (cr_sortT (d := 3) (B := 10 ^ 43) (by decide)) (by rfl) T.sorted (by decide +kernel) (pa_cons (pe_dget (hu_of hr) (pv 1) pe_str (fun _ _ => rfl)) pa_nil))) (blkOk_by (N := ["voter", "world", "desk", "held", "waiting", "one"]) (sc := defScope s_law_looks) (by decide +kernel)) (fun _ _ _ _ _ => pg_name (i := 5) sc_law_looks.nd rfl (Or.inl rfl)) (fun _ _ _ _ _ => pts_one (pt_cmpR (op_neDk K (u64 hr)) (pv 5) (pv 3) (nomark _))) (fun _ _ _ _ _ => (pv 5))) pa_nil)))
    (pss_cons (ps_if (PW.pt (pw_or (pt_not (pt_val (pe_cal C_same free (hr.mono (by decide)) (pa_cons (pe_fld (pv 2) (by rfl)) (pa_cons (pv 3) pa_nil))))) (pw_or1 (pt_not (pt_val (pe_cal C_same free (hr.mono (by decide)) (pa_cons (pe_fld (pv 2) (by rfl)) (pa_cons (pe_cmpR (op_neD (u64 hr)) (pe_dget (hu_of hr) (pv 1) pe_str (fun _ _ => rfl)) (pe_lst pa_nil) (nomark _)) pa_nil))))))))
    (pss_one (ps_ret pe_bl))
    pss_nil)
    (pss_cons (ps_if (PW.pt (pw_or (pt_not (pt_val (pe_callB call_isi (by rfl) T.isinstance (by decide +kernel) (pa_cons (pe_fld (pv 2) (by rfl)) (pa_cons (pe_bltn (v := .ty "tuple") (by rfl) T.tuple (by decide +kernel) rfl) pa_nil))))) (pw_or (pt_cmpR (op_neD (u64 hr)) (pe_fld (pv 2) (by rfl)) (pv 4) (nomark _)) (pw_or1 (pt_cmpR op_ne (pe_callB (call_lenOwn mL GL hr2 bL pass0) (by rfl) T.len (by decide +kernel) (pa_cons (pv 2) pa_nil)) (pe_callB call_len_seq (by rfl) T.len (by decide +kernel) (pa_cons (pv 4) pa_nil)) (nomark _))))))
    (pss_one (ps_ret pe_bl))
    pss_nil)
    (pss_cons (ps_if (PW.pt (pw_or (pt_cmpR op_ne (pe_fld (pv 0) (by rfl)) pe_str (nomark _)) (pw_or (pt_cmpR op_notN (pe_fld (pv 0) (by rfl)) pe_non (nomark _)) (pw_or1 (pt_not (pt_val (pe_cal C_same free (hr.mono (by decide)) (pa_cons (pe_fld (pv 0) (by rfl)) (pa_cons (pe_tup pa_nil) pa_nil)))))))))
    (pss_one (ps_ret pe_bl))
    pss_nil)
    (pss_one (ps_ret (pe_and (pe_cal C_same free (hr.mono (by decide)) (pa_cons (pe_fld (pv 0) (by rfl)) (pa_cons (pe_dget (hu_of hr) (pv 1) pe_str (fun _ _ => rfl)) pa_nil))) (pe_one (pe_cal C_same free (hr.mono (by decide)) (pa_cons (pe_fld (pv 0) (by rfl)) (pa_cons (pe_callTy call_tuple_of (by rfl) T.tuple (by decide +kernel) (pa_cons (pe_callB cr_sortedI (by rfl) T.sorted (by decide +kernel) (pa_cons (pe_dget (hu_of hr) (pv 1) pe_str (fun _ _ => rfl)) pa_nil)) pa_nil)) pa_nil))))))))))))), ?_⟩
  have hh : HeldV K H h hd := by
    rcases V0.hold with ⟨e1, _, e3⟩ | ⟨hh, n, e1, t1, e3, e4⟩
    · exact .inl ⟨e1, e3⟩
    · exact .inr ⟨hh, n, e1, t1, e3, e4⟩
  obtain ⟨d, lvd, hdd, _, _, ed⟩ := hh.dps
  obtain ⟨dv, _, ddv, sdv, edv, ev⟩ := W.kH.dps
  have edd : dv = d := by rw [ed, ev]
  obtain ⟨ls, hlv, hL⟩ := W.kL
  obtain ⟨zs, hsn, hZ⟩ := W.kS
  have ll := hL.len
  refine ⟨_, rfl, p, C, dx, _, _, rfl, V0.hp, VT.cl, VT.desk, voF_dsk _ _ _ _ _ _ _ _ _ _ _, ?_⟩
  refine ⟨_, rfl, b, _, rfl, .inl ⟨_, kS "held", .inl W.kb, rfl, (boxW_hv _ _ _ _ _ _ _ _).symm⟩, ?_⟩
  refine ⟨_, rfl, b, _, rfl, .inl ⟨_, kS "live", .inl W.kb, rfl, (boxW_la _ _ _ _ _ _ _ _).symm⟩, la, ls, rfl, SqL.of hlv, by omega, fun x hx => ?_, fun xs l perm up hl => ?_⟩
  · obtain ⟨k, _, hk, sk⟩ := hL.tup x hx
    exact ⟨k, hk, sk.1, sk.2⟩
  obtain ⟨A1, hA0, pA⟩ := hL.perm perm
  have upA : Up A1 := hA0.up up
  have s1 := same_upd (o := .lst xs) hl
  have hl1 : upd H l (.lst xs) l = some (.lst xs) := upd_same
  have hA1 : Sts K (upd H l (.lst xs)) xs A1 := hA0.imp fun a zs z => sqt_same s1 z
  obtain ⟨H1, hH1⟩ : ∃ H1, H1 = upd H l (.lst xs) := ⟨_, rfl⟩
  rw [← hH1] at s1 hl1 hA1
  rw [← hH1]
  have lA1 : A1.length < 64 := by rw [pA.length_eq]; exact len
  refine ⟨l, rfl, ⟨_, SqL.of hl1⟩, fun J hJ => ?_⟩
  refine lc_list (K := K) (a := l) (xs := xs) (fun i G => ∃ acc : List V, G J = some (.lst acc) ∧ Sts K G acc ((A1.take i).filter (fun k => !decide (hd = some k))) ∧ Same H1 G ∧ acc.length ≤ i)
    ⟨[], upd_same, by simpa using Sts.nil, same_upd hJ, Nat.le_refl _⟩ (fun i G _ h => by obtain ⟨_, _, _, z, _⟩ := h; exact SqL.of (z _ _ hl1)) ?_ ?_
  · rintro i x G hi ⟨acc, hG, hA, sG, lA⟩
    obtain ⟨k, ek, tk, sk⟩ := hA1.at hi
    obtain ⟨tx, rfl, zx⟩ := tk
    have i63 : i < 64 := by
      have := (List.getElem?_eq_some_iff.mp ek).1
      omega
    refine ⟨rfl, _, rfl, _, rfl, stD k, dv, dp_stamp ⟨tx, rfl, sqt_same sG zx⟩, dp_same ((s1).trans sG) _ _ ddv, shaped_st k, sdv, _, rfl, ?_⟩
    rw [edv]
    rw [filt_snoc ek]
    refine ite2 (fun c2 => ?_) (fun c2 => ?_)
    · have c3 : (fun k => !decide (hd = some k)) k = true := (by simpa using c2)
      rw [if_pos c3]
      have s9 : Same H1 (upd G J (.lst (acc ++ [.ref tx]))) := fun z o e => by rw [upd_ne (ne_of_none e hJ)]; exact sG _ _ e
      have nT : ∀ {a : Addr} {zs : List V}, SqT K G a zs → SqT K (upd G J (.lst (acc ++ [.ref tx]))) a zs := fun z => sqt_chg ⟨_, hG⟩ Chg.self z
      refine ⟨_, rfl, acc, hG, Nat.lt_of_lt_of_le (show acc.length < 100 by omega) (by decide), acc ++ [.ref tx], upd_same, (hA.imp fun a zs z => nT z).app (Sts.one ⟨tx, rfl, nT (sqt_same sG zx)⟩ sk), s9, by rw [List.length_append, List.length_singleton]; omega⟩
    · have c3 : ¬ ((fun k => !decide (hd = some k)) k = true) := (by simpa using c2)
      rw [if_neg c3, List.append_nil]
      exact ⟨acc, hG, hA, sG, Nat.le_succ_of_le lA⟩
  rintro G ⟨acc, hG, hA, sG, lA⟩
  have lx := hA1.len
  rw [lx, List.take_length] at hA
  rw [rest A1 pA upA] at hA
  refine ⟨J, acc, rfl, .inl ⟨SqL.of hG, fun tw htw => ?_⟩⟩
  have s2 := (s1.trans sG).trans (same_upd (o := .tup acc) htw)
  have ktw : SqT K (upd G tw (.tup acc)) tw acc := SqT.of upd_same
  have hAw : Sts K (upd G tw (.tup acc)) acc M := hA.imp fun a zs z => sqt_same (same_upd htw) z
  obtain ⟨H2, hH2⟩ : ∃ H2, H2 = upd G tw (.tup acc) := ⟨_, rfl⟩
  rw [← hH2] at s2 ktw hAw
  rw [← hH2]
  have V2 := V0.same s2
  have W2 := W.same s2
  have dd2 := dp_same s2 _ _ hdd
  have dv2 := dp_same s2 _ _ ddv
  rw [edd] at dv2
  refine ⟨_, rfl, dk, CD, ddx, _, _, rfl, V2.hd, S.cl, S.nH, deskF_holder _ _ _, _, rfl, _, _, rfl, .inl ⟨d, lvd 2, dd2, dv2⟩, _, rfl, iteF' rfl ?_⟩
  refine ⟨_, rfl, dk, CD, ddx, _, _, rfl, V2.hd, S.cl, S.nC, deskF_called _ _ _, _, rfl, b, _, rfl, .inl ⟨_, kS "since", .inl W2.kb, rfl, (boxW_sn _ _ _ _ _ _ _ _).symm⟩, Nat.zero_le _, fun e he => ?_⟩
  have s3 := s2.trans (same_upd (o := .lst []) he)
  refine ⟨.list (sv.map stD), .list [], .lst (SqL.of (s3 _ _ hsn)) (hZ.imp fun a zs z => sqt_same s3 z).dps, .lst (SqL.of upd_same) .nil, shaped_lsts sv, by decide, ?_⟩
  rw [eqv_nil, ← hb]
  refine ⟨_, _, rfl, .inl ⟨.bool bb, .bl bb, .bl bb, .bl bb⟩, _, rfl, iteF' rfl ?_⟩
  have V3 := V0.same s3
  have W3 := W.same s3
  obtain ⟨H3, hH3⟩ : ∃ H3, H3 = upd H2 e (.lst []) := ⟨_, rfl⟩
  have s23 : Same H2 H3 := by rw [hH3]; exact same_upd he
  rw [← hH3] at V3 W3 s3
  rw [← hH3]
  have ktw3 := sqt_same s23 ktw
  have hA3 : Sts K H3 acc M := hAw.imp fun a zs z => sqt_same s23 z
  refine ⟨_, rfl, dk, CD, ddx, _, _, rfl, V3.hd, S.cl, S.nQ, deskF_queue _ _ _, _, .ty "tuple", _, _, _, rfl, .ty _, ty_sqt V3.hq, kit_ty (r := true) (by decide +kernel), _, rfl, iteF' rfl ?_⟩
  refine ⟨_, rfl, dk, CD, ddx, _, _, rfl, V3.hd, S.cl, S.nQ, deskF_queue _ _ _, _, rfl, _, _, .tup V3.hq V3.hM.dps, .tup ktw3 hA3.dps, shaped_tups M, shaped_tups M, ?_⟩
  rw [eqv_tups]
  refine ⟨_, rfl, iteF' rfl ?_⟩
  have e1 := V3.hM.len
  have e2 := hA3.len
  have lM : M.length < 64 := by
    have h1 := (hA3.len).symm
    omega
  refine ⟨_, rfl, dk, ddx, _, rfl, V3.hd, dk, ddx, qa, h, bb, ys, rfl, V3.hd, V3.hq, ys.length, rfl, Nat.le_trans (show ys.length ≤ 100 by omega) (by decide), ?_⟩
  refine ⟨_, rfl, tw, acc, rfl, .inr ktw3, rfl, ?_⟩
  refine ⟨_, rfl, iteF' (by rw [e1, e2]; simp) ?_⟩
  refine ⟨_, rfl, p, C, dx, _, _, rfl, V3.hp, VT.cl, VT.state, voF_stt _ _ _ _ _ _ _ _ _ _ _, rfl, _, rfl, iteF' (by decide +kernel) ?_⟩
  refine ⟨_, rfl, p, C, dx, _, _, rfl, V3.hp, VT.cl, VT.stamp, voF_stp _ _ _ _ _ _ _ _ _ _ _, rfl, _, rfl, iteF' rfl ?_⟩
  refine ⟨_, rfl, p, C, dx, _, _, rfl, V3.hp, VT.cl, VT.hand, voF_hnd _ _ _ _ _ _ _ _ _ _ _, Nat.zero_le _, fun e4 he4 => ?_⟩
  have s34 := same_upd (o := .tup []) he4
  have V4 := V3.same s34
  have W4 := W3.same s34
  refine ⟨_, _, rfl, .inl ⟨.tuple [], .tup (by decide) (fun d h => by simp at h), .tup V4.hh .nil, .tup (SqT.of upd_same) .nil⟩, _, rfl, iteF' rfl ?_⟩
  refine ⟨_, rfl, p, C, dx, _, _, rfl, V4.hp, VT.cl, VT.count, voF_cnt _ _ _ _ _ _ _ _ _ _ _, _, rfl, b, _, rfl, .inl ⟨_, kS "count", .inl W4.kb, rfl, (boxW_cn _ _ _ _ _ _ _ _).symm⟩, _, _, rfl, .inl ⟨.int cnt, .int _, .int _, .int _⟩, ?_⟩
  refine ⟨_, rfl, ?_⟩
  refine iteT ?_
  refine ⟨_, rfl, p, C, dx, _, _, rfl, V4.hp, VT.cl, VT.known, voF_knw _ _ _ _ _ _ _ _ _ _ _, _, rfl, b, _, rfl, .inl ⟨_, kS "gone", .inl W4.kb, rfl, (boxW_ga _ _ _ _ _ _ _ _).symm⟩, ga, gn, rfl, SqL.of W4.kG, fun gs o pg ug ho => ?_⟩
  refine ⟨o, _, rfl, .inl ⟨SqL.of upd_same, fun tk htk => ?_⟩⟩
  have s45 := (same_upd (o := .lst (gs.map V.int)) ho).trans (same_upd (o := .tup (gs.map V.int)) htk)
  have eg : gs = kn := sorted_eq (pg.trans pk.symm) ug uk
  subst eg
  exact ⟨_, _, rfl, .inl ⟨_, lv_tupI gs (by omega) 2, dp_tupI (sqt_same s45 V4.hk), dp_tupI (SqT.of upd_same)⟩, q _ ((s3.trans s34).trans s45)⟩
end

end G0
namespace G0
open PySem PySem.Spec PyProof.Rows L2
section
variable {P : Program} {w : World} {K : PySem.W.Frag} {mg : Str → Option Value} {base : Heap} {C CD : Addr}
/-! ### deeds -/
inductive D4 where
  | ask (n : List Int) | giv (n : List Int) | don (n : List Int) | gon (v : Int)
def wd4 : D4 → Str
  | .ask _ => "ask" | .giv _ => "given" | .don _ => "done" | .gon _ => "gone"
def st4 : D4 → List Int
  | .ask n => n | .giv n => n | .don n => n | .gon v => [0, v, 0]
def StB (B : Int) (k : List Int) : Prop := ∃ c s u, k = [c, s, u] ∧ 0 ≤ c ∧ c ≤ B ∧ 0 ≤ s ∧ s < 9 ∧ 0 ≤ u ∧ u ≤ 50
structure Pw (cnt B : Int) (lv : List (List Int)) (hd : Option (List Int)) (sv : List (List Int)) (fl : List Int) (tu : List (Option (List Int))) (wt : List Bool) : Prop where
  hn : hd = none → lv = []
  hm : ∀ k, hd = some k → k ∈ lv
  hs : sv ≠ [] → hd ≠ none
  seats : lv.Pairwise fun a b => seatN a ≠ seatN b
  ok : ∀ k ∈ lv, StB B k
  tuok : ∀ (i : Nat) k, tu[i]? = some (some k) → StB B k
  fl9 : fl.length = 9
  tu9 : tu.length = 9
  wt9 : wt.length = 9
  flok : ∀ x ∈ fl, 0 ≤ x ∧ x ≤ B
  c0 : 0 ≤ cnt
  c1 : cnt ≤ B
def Ok4 (B : Int) (lv : List (List Int)) (hd : Option (List Int)) (sv : List (List Int)) (seat : Int) : D4 → Prop
  | .ask n => StB B n ∧ seatN n = seat ∧ ∀ k ∈ lv, seatN k ≠ seat
  | .giv n => hd = some n ∧ sv ≠ []
  | .don n => n ∈ lv
  | .gon v => v = seat
def spFin4 (K : PySem.W.Frag) (H : Hp) (Q : VK) (b fa : Addr) (more seat fj : Int) : Prop := ∃ kvs, H b = some (.dK kvs) ∧ valV kvs (kS "floor") = some (.ref fa) ∧ ∃ fl : List Int, H fa = some (.lst (fl.map V.int)) ∧ atI (fl.map V.int) seat = some (.int fj) ∧
  ∀ T t H' n, Same H H' → SqT K H' T [.str "ask", .ref t] → SqT K H' t (n.map V.int) → n = [fj + 1 + more, seat, 0] → Q (.ref T) H'
/-! ### _law_deed -/
def spDeed4 (K : PySem.W.Frag) : Sp := fun vs H Q _ => ∃ (b cl la sn ga fa ta wa : Addr) (hv : V) (cs gn fl : List Int) (cnt B kind seat more : Int) (lv sv : List (List Int)) (hd : Option (List Int)) (tu : List (Option (List Int))) (wt : List Bool), vs = [.ref b, .int kind, .int seat, .int more] ∧
  Wo K H b cl la sn ga fa ta wa hv cs cnt lv hd sv gn fl tu wt ∧ Pw cnt B lv hd sv fl tu wt ∧ lv.length < 64 ∧ 0 ≤ seat ∧ seat < 9 ∧ 0 ≤ more ∧ more < 10 ^ 40 ∧ 0 ≤ kind ∧
  ∀ T t H' D, Same H H' → SqT K H' T [.str (wd4 D), .ref t] → SqT K H' t ((st4 D).map V.int) → Ok4 (B + 10 ^ 40) lv hd sv seat D → Q (.ref T) H'
theorem sc_law_deed : FnScope ["world", "kind", "seat", "more", "mine", "one", "held", "turned", "waited"] ["world", "kind", "seat", "more"] (defScope s_law_deed) :=
  ⟨rfl, rfl, rfl, by decide +kernel, rfl, by decide +kernel, by decide +kernel⟩
theorem ok_deed4 (F : Fn K mg "_law_deed" s_law_deed) (T : BlD mg) : Cal P w K mg base "_law_deed" 1 ["world", "kind", "seat", "more"] (spDeed4 K) := by
  refine cal_of F sc_law_deed
    (fun _ _ _ _ _ _ us hl => match us, hl with | [_, _, _, _], _ => rfl) ?_ ?_
  · rintro vs H Q E ⟨_, _, _, _, _, _, _, _, _, _, _, _, _, _, _, _, _, _, _, _, _, _, rfl, _⟩
    rfl
  rintro f cdv A outer s H vs Q E free hr ⟨b, cl, la, sn, ga, fa, ta, wa, hv, cs, gn, fl, cnt, B, kind, seat, more, lv, sv, hd, tu, wt, rfl, W, PI, len, z0, z9, m0, m1, k0, q⟩
  refine ⟨_, (pss_cons (ps_setLc (i := 4) (own := [("one", 5)]) (g := gName 5)  (by rfl) sc_law_deed.nd rfl rfl (sw_true rfl rfl rfl (by decide +kernel)) (pi_list (pe_dget (hu_of hr) (pv 0) pe_str (fun _ _ => rfl))) (blkOk_by (N := ["world", "kind", "seat", "more", "mine", "one", "held", "turned", "waited"]) (sc := defScope s_law_deed) (by decide +kernel)) (fun _ _ _ _ _ => pg_name (i := 5) sc_law_deed.nd rfl (Or.inl rfl)) (fun _ _ _ _ _ => pts_one (pt_cmpR op_eq (pe_ix (ix_tupK K) (pv 5) pe_int (fun _ _ => rfl)) (pv 2) (nomark _))) (fun _ _ _ _ _ => (pv 5)))
    (pss_cons (ps_set (i := 6) sc_law_deed.nd rfl (Or.inl rfl) (pe_dget (hu_of hr) (pv 0) pe_str (fun _ _ => rfl)))
    (pss_cons (ps_if (pt_cmpR op_eq (pv 1) pe_int (nomark _))
    (pss_one (ps_ret (pe_tup (pa_cons pe_str (pa_cons (pe_tup (pa_cons pe_int (pa_cons (pv 2) (pa_cons pe_int pa_nil)))) pa_nil)))))
    pss_nil)
    (pss_cons (ps_if (PW.pt (pw_and (pt_cmpR op_lt (pv 1) pe_int (nomark _)) (pw_and1 (pt_cmpR (op_neD (u64 hr)) (pe_dget (hu_of hr) (pv 0) pe_str (fun _ _ => rfl)) (pe_lst pa_nil) (nomark _)))))
    (pss_one (ps_ret (pe_tup (pa_cons pe_str (pa_cons (pv 6) pa_nil)))))
    pss_nil)
    (pss_cons (ps_if (pt_cmpR (op_eqD (u64 hr)) (pv 4) (pe_lst pa_nil) (nomark _))
    (pss_cons (ps_par (i := 7) (j := 8) (by rfl) sc_law_deed.nd rfl rfl (by decide) rfl rfl (pa_cons (pe_ix ix_list (pe_dget (hu_of hr) (pv 0) pe_str (fun _ _ => rfl)) (pv 2) (fun _ _ => rfl)) (pa_cons (pe_ix ix_list (pe_dget (hu_of hr) (pv 0) pe_str (fun _ _ => rfl)) (pv 2) (fun _ _ => rfl)) pa_nil)) (by rfl))
    (pss_cons (ps_if (PW.pt (pw_and (pt_cmpR op_notN (pv 7) pe_non (nomark _)) (pw_and (pt_cmpR op_lt (pe_ix ix_tup (pv 7) pe_int (fun _ _ => rfl)) pe_int (nomark _)) (pw_and1 (PW.pt (pw_or (pt_val (pv 8)) (pw_or1 (pt_cmpR op_eq (pe_op op_mod (pv 1) pe_int) pe_int (nomark _)))))))))
    (pss_one (ps_ret (pe_tup (pa_cons pe_str (pa_cons (pe_tup (pa_cons (pe_ix ix_tup (pv 7) pe_int (fun _ _ => rfl)) (pa_cons (pv 2) (pa_cons (pe_op op_add (pe_ix ix_tup (pv 7) pe_int (fun _ _ => rfl)) pe_int) pa_nil)))) pa_nil)))))
    pss_nil)
    (pss_cons (ps_if (pt_val (pv 8))
    (pss_one (ps_ret (pe_tup (pa_cons pe_str (pa_cons (pe_tup (pa_cons pe_int (pa_cons (pv 2) (pa_cons pe_int pa_nil)))) pa_nil)))))
    pss_nil)
    (pss_one (ps_ret (pe_tup (pa_cons pe_str (pa_cons (pe_tup (pa_cons (pe_op op_add (pe_op op_add (pe_ix ix_list (pe_dget (hu_of hr) (pv 0) pe_str (fun _ _ => rfl)) (pv 2) (fun _ _ => rfl)) pe_int) (pv 3)) (pa_cons (pv 2) (pa_cons pe_int pa_nil)))) pa_nil))))))))
    pss_nil)
    (pss_cons (ps_if (pt_cmpR op_gt (pv 1) pe_int (nomark _))
    (pss_one (ps_ret (pe_tup (pa_cons pe_str (pa_cons (pv 6) pa_nil)))))
    pss_nil)
    (pss_one (ps_ret (pe_tup (pa_cons pe_str (pa_cons (pe_ix ix_list (pv 4) pe_int (fun _ _ => rfl)) pa_nil))))))))))), ?_⟩
  obtain ⟨ls, hlv, hL⟩ := W.kL
  have ll := hL.len
  refine ⟨_, rfl, b, _, rfl, .inl ⟨_, kS "live", .inl W.kb, rfl, (boxW_la _ _ _ _ _ _ _ _).symm⟩, la, rfl, ⟨_, SqL.of hlv⟩, fun J hJ => ?_⟩
  refine lc_list (K := K) (a := la) (xs := ls) (fun i G => ∃ acc : List V, G J = some (.lst acc) ∧ Sts K G acc ((lv.take i).filter fun k => decide (seatN k = seat)) ∧ Same H G ∧ acc.length ≤ i)
    ⟨[], upd_same, by simpa using Sts.nil, same_upd hJ, Nat.le_refl _⟩ (fun i G _ h => by obtain ⟨_, _, _, z, _⟩ := h; exact SqL.of (z _ _ hlv)) ?_ ?_
  · rintro i x G hi ⟨acc, hG, hA, sG, lA⟩
    obtain ⟨k, ek, tk, sk⟩ := hL.at hi
    obtain ⟨tx, rfl, zx⟩ := tk
    have i63 : i < 64 := by
      have := (List.getElem?_eq_some_iff.mp ek).1
      omega
    refine ⟨rfl, _, rfl, tx, _, _, _, rfl, rfl, sqt_same sG zx, seat_at sk.1, _, rfl, rfl, _, rfl, ?_⟩
    rw [dec_ii, filt_snoc ek]
    refine ite2 (fun c2 => ?_) (fun c2 => ?_)
    · rw [if_pos c2]
      have s9 : Same H (upd G J (.lst (acc ++ [.ref tx]))) := fun z o e => by rw [upd_ne (ne_of_none e hJ)]; exact sG _ _ e
      have nT : ∀ {a : Addr} {zs : List V}, SqT K G a zs → SqT K (upd G J (.lst (acc ++ [.ref tx]))) a zs := fun z => sqt_chg ⟨_, hG⟩ Chg.self z
      refine ⟨_, rfl, acc, hG, Nat.lt_of_lt_of_le (show acc.length < 100 by omega) (by decide), acc ++ [.ref tx], upd_same, (hA.imp fun a zs z => nT z).app (Sts.one ⟨tx, rfl, nT (sqt_same sG zx)⟩ sk), s9, by rw [List.length_append, List.length_singleton]; omega⟩
    · rw [if_neg c2, List.append_nil]
      exact ⟨acc, hG, hA, sG, Nat.le_succ_of_le lA⟩
  rintro G ⟨acc, hG, hA, sG, lA⟩
  rw [ll, List.take_length] at hA
  have W1 := W.same sG
  obtain ⟨mi, emi⟩ : ∃ mi, mi = lv.filter fun k => decide (seatN k = seat) := ⟨_, rfl⟩
  rw [← emi] at hA
  refine ⟨_, rfl, b, _, rfl, .inl ⟨_, kS "held", .inl W1.kb, rfl, (boxW_hv _ _ _ _ _ _ _ _).symm⟩, ?_⟩
  refine ⟨_, rfl, rfl, _, rfl, ?_⟩
  rw [dec_ii]
  refine ite2 (fun c1 => ?_) (fun c1 => ?_)
  · skip
    refine ⟨_, rfl, by show 3 ≤ sizeLine; decide, fun t ht => ?_⟩
    have sa1 := same_upd (o := .tup [.int 0, .int seat, .int 0]) ht
    refine ⟨by show 2 ≤ sizeLine; decide, fun T hT => ?_⟩
    have sa2 := same_upd (o := .tup [.str "gone", .ref t]) hT
    exact q T t _ (.gon seat) ((sG.trans sa1).trans sa2) (SqT.of upd_same) (SqT.of (sa2 _ _ upd_same)) rfl
  refine ⟨_, rfl, _, _, rfl, rfl, _, rfl, ?_⟩
  refine ite2 (fun c2 => ?_) (fun c2 => ?_)
  · obtain ⟨zs, hsn, hZ⟩ := W1.kS
    refine ⟨_, rfl, b, _, rfl, .inl ⟨_, kS "since", .inl W1.kb, rfl, (boxW_sn _ _ _ _ _ _ _ _).symm⟩, Nat.zero_le _, fun e he => ?_⟩
    have se := same_upd (o := .lst []) he
    refine ⟨.list (sv.map stD), .list [], .lst (SqL.of (se _ _ hsn)) (hZ.imp fun a zs z => sqt_same se z).dps, .lst (SqL.of upd_same) .nil, shaped_lsts sv, by decide, _, rfl, ?_⟩
    rw [eqv_nil]
    have W2 := W1.same se
    have s2 := sG.trans se
    by_cases c3 : sv = []
    · refine iteF' (by rw [decide_eq_true c3]; rfl) ?_
      refine ⟨_, rfl, Nat.zero_le _, fun e2 he2 => ?_⟩
      have se2 := same_upd (o := .lst []) he2
      have s5 := s2.trans se2
      refine ⟨.list (mi.map stD), .list [], .lst (SqL.of (se2 _ _ (se _ _ hG))) ((hA.imp fun a zs z => sqt_same se z).imp fun a zs z => sqt_same se2 z).dps, .lst (SqL.of upd_same) .nil, shaped_lsts mi, by decide, _, rfl, ?_⟩
      rw [eqv_nil]
      have W5 := W.same s5
      by_cases cn : mi = []
      · refine iteT' (decide_eq_true cn) ?_
        obtain ⟨xt, kt, tt⟩ := W5.kT
        have p9 := PI.tu9
        have w9 := PI.wt9
        have f9 := PI.fl9
        obtain ⟨j, ej⟩ : ∃ j : Nat, seat = (j : Int) := ⟨seat.toNat, by omega⟩
        have jx : j < xt.length := by rw [tt.1, p9]; omega
        have jt : j < tu.length := by rw [p9]; omega
        have jw : j < wt.length := by rw [w9]; omega
        have jf : j < fl.length := by rw [f9]; omega
        obtain ⟨tv, etv⟩ : ∃ tv, xt[j]? = some tv := ⟨_, List.getElem?_eq_getElem jx⟩
        have at1' : atI xt seat = some tv := by rw [ej]; exact atI_nat etv
        have at2' : atI (wt.map V.bl) seat = some (.bl wt[j]) := by rw [ej]; exact atI_nat (by rw [List.getElem?_map, List.getElem?_eq_getElem jw]; rfl)
        have at3' : atI (fl.map V.int) seat = some (.int fl[j]) := by rw [ej]; exact atI_nat (by rw [List.getElem?_map, List.getElem?_eq_getElem jf]; rfl)
        have htu := tt.2 j _ _ etv (List.getElem?_eq_getElem jt)
        have nomine : ∀ k ∈ lv, seatN k ≠ seat := fun k hk e => by
          have : k ∈ mi := by rw [emi]; exact List.mem_filter.mpr ⟨hk, by simp [e]⟩
          rw [cn] at this
          exact absurd this List.not_mem_nil
        refine ⟨_, rfl, b, _, rfl, .inl ⟨_, kS "turned", .inl W5.kb, rfl, (boxW_ta _ _ _ _ _ _ _ _).symm⟩, _, rfl, ta, xt, _, _, rfl, rfl, SqL.of kt, at1', _, rfl, b, _, rfl, .inl ⟨_, kS "waited", .inl W5.kb, rfl, (boxW_wa _ _ _ _ _ _ _ _).symm⟩, _, rfl, wa, _, _, _, rfl, rfl, SqL.of W5.kW, at2', _, _, rfl, ?_⟩
        have last : spFin4 K (upd (upd G e (.lst [])) e2 (.lst [])) Q b fa more seat fl[j] := ⟨_, W5.kb, boxW_fa _ _ _ _ _ _ _ _, fl, W5.kF, at3', fun T t H' n s9 hT ht en => q T t H' (.ask n) (s5.trans s9) hT ht ⟨⟨fl[j] + 1 + more, seat, 0, en, by have := (PI.flok _ (List.getElem_mem jf)).1; omega, by have := (PI.flok _ (List.getElem_mem jf)).2; omega, z0, z9, by decide, by decide⟩, by rw [en]; rfl, nomine⟩⟩
        obtain ⟨G5, eG5⟩ : ∃ G5, G5 = upd (upd G e (.lst [])) e2 (.lst []) := ⟨_, rfl⟩
        rw [← eG5] at s5 W5 htu last
        rw [← eG5]
        rcases htu with ⟨rfl, e0⟩ | ⟨hh, n, rfl, ⟨ty, ety, zy⟩, snn, e3⟩
        · refine ⟨_, rfl, rfl, _, rfl, iteF' rfl ?_⟩
          refine ⟨_, rfl, _, rfl, ?_⟩
          refine ite2 (fun c6 => ?_) (fun c6 => ?_)
          · skip
            refine ⟨_, rfl, by show 3 ≤ sizeLine; decide, fun t ht => ?_⟩
            have sa1 := same_upd (o := .tup [.int 0, .int seat, .int 0]) ht
            refine ⟨by show 2 ≤ sizeLine; decide, fun T hT => ?_⟩
            have sa2 := same_upd (o := .tup [.str "gone", .ref t]) hT
            exact q T t _ (.gon seat) ((s5.trans sa1).trans sa2) (SqT.of upd_same) (SqT.of (sa2 _ _ upd_same)) rfl
          · obtain ⟨kvs, l1, l2, fl', l3, l4, l5⟩ := last
            refine ⟨_, rfl, b, _, rfl, .inl ⟨_, kS "floor", .inl l1, rfl, l2.symm⟩, _, rfl, fa, _, _, _, rfl, rfl, SqL.of l3, l4, _, _, rfl, rfl, _, rfl, _, _, rfl, rfl, _, rfl, by show 3 ≤ sizeLine; decide, fun t ht => ?_⟩
            have sa1 := same_upd (o := .tup [.int (fl[j] + 1 + more), .int seat, .int 0]) ht
            refine ⟨by show 2 ≤ sizeLine; decide, fun T hT => ?_⟩
            have sa2 := same_upd (o := .tup [.str "ask", .ref t]) hT
            exact l5 T t _ [fl[j] + 1 + more, seat, 0] (sa1.trans sa2) (SqT.of upd_same) (SqT.of (sa2 _ _ upd_same)) rfl
        · cases ety
          obtain ⟨c, s', u, rfl, o1, o2, o3, o4, o5, o6⟩ := PI.tuok j n (by rw [List.getElem?_eq_getElem jt, e3])
          refine ⟨_, rfl, rfl, _, rfl, iteT' rfl ?_⟩
          refine ⟨_, rfl, hh, _, _, _, rfl, rfl, zy, atI_nat (j := 2) rfl, _, _, rfl, rfl, _, rfl, ?_⟩
          refine ite2 (fun c7 => ?_) (fun c7 => ?_)
          · have c7' : u < 50 := of_decide_eq_true c7
            refine ⟨_, rfl, _, rfl, ?_⟩
            refine ite2 (fun c8 => ?_) (fun c8 => ?_)
            · skip
              refine ⟨_, rfl, hh, _, _, _, rfl, rfl, zy, atI_nat (j := 0) rfl, _, rfl, _, rfl, hh, _, _, _, rfl, rfl, zy, atI_nat (j := 2) rfl, _, _, rfl, rfl, by show 3 ≤ sizeLine; decide, fun t ht => ?_⟩
              have sa1 := same_upd (o := .tup [.int c, .int seat, .int (u + 1)]) ht
              refine ⟨by show 2 ≤ sizeLine; decide, fun T hT => ?_⟩
              have sa2 := same_upd (o := .tup [.str "ask", .ref t]) hT
              exact q T t _ (.ask [c, seat, u + 1]) ((s5.trans sa1).trans sa2) (SqT.of upd_same) (SqT.of (sa2 _ _ upd_same)) ⟨⟨c, seat, u + 1, rfl, o1, by omega, z0, z9, by omega, by omega⟩, rfl, nomine⟩
            · refine ⟨_, rfl, _, _, rfl, rfl, (by show (0 : Int) < 2; decide), rfl, _, rfl, ?_⟩
              refine ite2 (fun c9 => ?_) (fun c9 => ?_)
              · skip
                refine ⟨_, rfl, hh, _, _, _, rfl, rfl, zy, atI_nat (j := 0) rfl, _, rfl, _, rfl, hh, _, _, _, rfl, rfl, zy, atI_nat (j := 2) rfl, _, _, rfl, rfl, by show 3 ≤ sizeLine; decide, fun t ht => ?_⟩
                have sa1 := same_upd (o := .tup [.int c, .int seat, .int (u + 1)]) ht
                refine ⟨by show 2 ≤ sizeLine; decide, fun T hT => ?_⟩
                have sa2 := same_upd (o := .tup [.str "ask", .ref t]) hT
                exact q T t _ (.ask [c, seat, u + 1]) ((s5.trans sa1).trans sa2) (SqT.of upd_same) (SqT.of (sa2 _ _ upd_same)) ⟨⟨c, seat, u + 1, rfl, o1, by omega, z0, z9, by omega, by omega⟩, rfl, nomine⟩
              · skip
                refine ⟨_, rfl, _, rfl, ?_⟩
                refine ite2 (fun c6 => ?_) (fun c6 => ?_)
                · skip
                  refine ⟨_, rfl, by show 3 ≤ sizeLine; decide, fun t ht => ?_⟩
                  have sa1 := same_upd (o := .tup [.int 0, .int seat, .int 0]) ht
                  refine ⟨by show 2 ≤ sizeLine; decide, fun T hT => ?_⟩
                  have sa2 := same_upd (o := .tup [.str "gone", .ref t]) hT
                  exact q T t _ (.gon seat) ((s5.trans sa1).trans sa2) (SqT.of upd_same) (SqT.of (sa2 _ _ upd_same)) rfl
                · obtain ⟨kvs, l1, l2, fl', l3, l4, l5⟩ := last
                  refine ⟨_, rfl, b, _, rfl, .inl ⟨_, kS "floor", .inl l1, rfl, l2.symm⟩, _, rfl, fa, _, _, _, rfl, rfl, SqL.of l3, l4, _, _, rfl, rfl, _, rfl, _, _, rfl, rfl, _, rfl, by show 3 ≤ sizeLine; decide, fun t ht => ?_⟩
                  have sa1 := same_upd (o := .tup [.int (fl[j] + 1 + more), .int seat, .int 0]) ht
                  refine ⟨by show 2 ≤ sizeLine; decide, fun T hT => ?_⟩
                  have sa2 := same_upd (o := .tup [.str "ask", .ref t]) hT
                  exact l5 T t _ [fl[j] + 1 + more, seat, 0] (sa1.trans sa2) (SqT.of upd_same) (SqT.of (sa2 _ _ upd_same)) rfl
          · skip
            refine ⟨_, rfl, _, rfl, ?_⟩
            refine ite2 (fun c6 => ?_) (fun c6 => ?_)
            · skip
              refine ⟨_, rfl, by show 3 ≤ sizeLine; decide, fun t ht => ?_⟩
              have sa1 := same_upd (o := .tup [.int 0, .int seat, .int 0]) ht
              refine ⟨by show 2 ≤ sizeLine; decide, fun T hT => ?_⟩
              have sa2 := same_upd (o := .tup [.str "gone", .ref t]) hT
              exact q T t _ (.gon seat) ((s5.trans sa1).trans sa2) (SqT.of upd_same) (SqT.of (sa2 _ _ upd_same)) rfl
            · obtain ⟨kvs, l1, l2, fl', l3, l4, l5⟩ := last
              refine ⟨_, rfl, b, _, rfl, .inl ⟨_, kS "floor", .inl l1, rfl, l2.symm⟩, _, rfl, fa, _, _, _, rfl, rfl, SqL.of l3, l4, _, _, rfl, rfl, _, rfl, _, _, rfl, rfl, _, rfl, by show 3 ≤ sizeLine; decide, fun t ht => ?_⟩
              have sa1 := same_upd (o := .tup [.int (fl[j] + 1 + more), .int seat, .int 0]) ht
              refine ⟨by show 2 ≤ sizeLine; decide, fun T hT => ?_⟩
              have sa2 := same_upd (o := .tup [.str "ask", .ref t]) hT
              exact l5 T t _ [fl[j] + 1 + more, seat, 0] (sa1.trans sa2) (SqT.of upd_same) (SqT.of (sa2 _ _ upd_same)) rfl
      · refine iteF' (decide_eq_false cn) ?_
        have hA5 : Sts K (upd (upd G e (.lst [])) e2 (.lst [])) acc mi := ((hA.imp fun a zs z => sqt_same se z)).imp fun a zs z => sqt_same se2 z
        have kJ5 := se2 _ _ ((se _ _ hG))
        refine ⟨_, rfl, _, _, rfl, rfl, _, rfl, ?_⟩
        refine ite2 (fun c5 => ?_) (fun c5 => ?_)
        · skip
          obtain ⟨hh, n, rfl, ⟨th, eth, zh⟩, snn, rfl⟩ : ∃ hh n, hv = V.ref hh ∧ TupI K _ (.ref hh) n ∧ StN n ∧ hd = some n := by
            rcases W5.kH with ⟨_, e⟩ | z
            · exact absurd e (fun z => cn (by rw [emi, PI.hn z]; rfl))
            · exact z
          cases eth
          refine ⟨_, rfl, by show 2 ≤ sizeLine; decide, fun T hT => ?_⟩
          have sa2 := same_upd (o := .tup [.str "done", .ref hh]) hT
          exact q T hh _ (.don n) (s5.trans sa2) (SqT.of upd_same) (sqt_same sa2 zh) (PI.hm n rfl)
        · have sub : ∀ k ∈ mi, k ∈ lv := fun k hk => by rw [emi] at hk; exact (List.mem_filter.mp hk).1
          cases hA5 with
          | nil => exact absurd rfl cn
          | @cons x xs' n L' a0 b0 r0 =>
            obtain ⟨tx, rfl, zx⟩ := a0
            refine ⟨_, rfl, J, _, _, _, rfl, rfl, SqL.of kJ5, atI_nat (j := 0) rfl, by show 2 ≤ sizeLine; decide, fun T hT => ?_⟩
            have sa2 := same_upd (o := .tup [.str "done", .ref tx]) hT
            exact q T tx _ (.don n) (s5.trans sa2) (SqT.of upd_same) (sqt_same sa2 zx) (sub n (List.mem_cons_self ..))
    · refine iteT' (by rw [decide_eq_false c3]; rfl) ?_
      obtain ⟨hh, n, rfl, ⟨th, eth, zh⟩, snn, rfl⟩ : ∃ hh n, hv = V.ref hh ∧ TupI K _ (.ref hh) n ∧ StN n ∧ hd = some n := by
        rcases W2.kH with ⟨_, e⟩ | z
        · exact absurd e (PI.hs c3)
        · exact z
      cases eth
      refine ⟨_, rfl, by show 2 ≤ sizeLine; decide, fun T hT => ?_⟩
      have sa2 := same_upd (o := .tup [.str "given", .ref hh]) hT
      exact q T hh _ (.giv n) (s2.trans sa2) (SqT.of upd_same) (sqt_same sa2 zh) ⟨rfl, c3⟩
  · skip
    refine ⟨_, rfl, Nat.zero_le _, fun e2 he2 => ?_⟩
    have se2 := same_upd (o := .lst []) he2
    have s5 := sG.trans se2
    refine ⟨.list (mi.map stD), .list [], .lst (SqL.of (se2 _ _ hG)) (hA.imp fun a zs z => sqt_same se2 z).dps, .lst (SqL.of upd_same) .nil, shaped_lsts mi, by decide, _, rfl, ?_⟩
    rw [eqv_nil]
    have W5 := W.same s5
    by_cases cn : mi = []
    · refine iteT' (decide_eq_true cn) ?_
      obtain ⟨xt, kt, tt⟩ := W5.kT
      have p9 := PI.tu9
      have w9 := PI.wt9
      have f9 := PI.fl9
      obtain ⟨j, ej⟩ : ∃ j : Nat, seat = (j : Int) := ⟨seat.toNat, by omega⟩
      have jx : j < xt.length := by rw [tt.1, p9]; omega
      have jt : j < tu.length := by rw [p9]; omega
      have jw : j < wt.length := by rw [w9]; omega
      have jf : j < fl.length := by rw [f9]; omega
      obtain ⟨tv, etv⟩ : ∃ tv, xt[j]? = some tv := ⟨_, List.getElem?_eq_getElem jx⟩
      have at1' : atI xt seat = some tv := by rw [ej]; exact atI_nat etv
      have at2' : atI (wt.map V.bl) seat = some (.bl wt[j]) := by rw [ej]; exact atI_nat (by rw [List.getElem?_map, List.getElem?_eq_getElem jw]; rfl)
      have at3' : atI (fl.map V.int) seat = some (.int fl[j]) := by rw [ej]; exact atI_nat (by rw [List.getElem?_map, List.getElem?_eq_getElem jf]; rfl)
      have htu := tt.2 j _ _ etv (List.getElem?_eq_getElem jt)
      have nomine : ∀ k ∈ lv, seatN k ≠ seat := fun k hk e => by
        have : k ∈ mi := by rw [emi]; exact List.mem_filter.mpr ⟨hk, by simp [e]⟩
        rw [cn] at this
        exact absurd this List.not_mem_nil
      refine ⟨_, rfl, b, _, rfl, .inl ⟨_, kS "turned", .inl W5.kb, rfl, (boxW_ta _ _ _ _ _ _ _ _).symm⟩, _, rfl, ta, xt, _, _, rfl, rfl, SqL.of kt, at1', _, rfl, b, _, rfl, .inl ⟨_, kS "waited", .inl W5.kb, rfl, (boxW_wa _ _ _ _ _ _ _ _).symm⟩, _, rfl, wa, _, _, _, rfl, rfl, SqL.of W5.kW, at2', _, _, rfl, ?_⟩
      have last : spFin4 K (upd G e2 (.lst [])) Q b fa more seat fl[j] := ⟨_, W5.kb, boxW_fa _ _ _ _ _ _ _ _, fl, W5.kF, at3', fun T t H' n s9 hT ht en => q T t H' (.ask n) (s5.trans s9) hT ht ⟨⟨fl[j] + 1 + more, seat, 0, en, by have := (PI.flok _ (List.getElem_mem jf)).1; omega, by have := (PI.flok _ (List.getElem_mem jf)).2; omega, z0, z9, by decide, by decide⟩, by rw [en]; rfl, nomine⟩⟩
      obtain ⟨G5, eG5⟩ : ∃ G5, G5 = upd G e2 (.lst []) := ⟨_, rfl⟩
      rw [← eG5] at s5 W5 htu last
      rw [← eG5]
      rcases htu with ⟨rfl, e0⟩ | ⟨hh, n, rfl, ⟨ty, ety, zy⟩, snn, e3⟩
      · refine ⟨_, rfl, rfl, _, rfl, iteF' rfl ?_⟩
        refine ⟨_, rfl, _, rfl, ?_⟩
        refine ite2 (fun c6 => ?_) (fun c6 => ?_)
        · skip
          refine ⟨_, rfl, by show 3 ≤ sizeLine; decide, fun t ht => ?_⟩
          have sa1 := same_upd (o := .tup [.int 0, .int seat, .int 0]) ht
          refine ⟨by show 2 ≤ sizeLine; decide, fun T hT => ?_⟩
          have sa2 := same_upd (o := .tup [.str "gone", .ref t]) hT
          exact q T t _ (.gon seat) ((s5.trans sa1).trans sa2) (SqT.of upd_same) (SqT.of (sa2 _ _ upd_same)) rfl
        · obtain ⟨kvs, l1, l2, fl', l3, l4, l5⟩ := last
          refine ⟨_, rfl, b, _, rfl, .inl ⟨_, kS "floor", .inl l1, rfl, l2.symm⟩, _, rfl, fa, _, _, _, rfl, rfl, SqL.of l3, l4, _, _, rfl, rfl, _, rfl, _, _, rfl, rfl, _, rfl, by show 3 ≤ sizeLine; decide, fun t ht => ?_⟩
          have sa1 := same_upd (o := .tup [.int (fl[j] + 1 + more), .int seat, .int 0]) ht
          refine ⟨by show 2 ≤ sizeLine; decide, fun T hT => ?_⟩
          have sa2 := same_upd (o := .tup [.str "ask", .ref t]) hT
          exact l5 T t _ [fl[j] + 1 + more, seat, 0] (sa1.trans sa2) (SqT.of upd_same) (SqT.of (sa2 _ _ upd_same)) rfl
      · cases ety
        obtain ⟨c, s', u, rfl, o1, o2, o3, o4, o5, o6⟩ := PI.tuok j n (by rw [List.getElem?_eq_getElem jt, e3])
        refine ⟨_, rfl, rfl, _, rfl, iteT' rfl ?_⟩
        refine ⟨_, rfl, hh, _, _, _, rfl, rfl, zy, atI_nat (j := 2) rfl, _, _, rfl, rfl, _, rfl, ?_⟩
        refine ite2 (fun c7 => ?_) (fun c7 => ?_)
        · have c7' : u < 50 := of_decide_eq_true c7
          refine ⟨_, rfl, _, rfl, ?_⟩
          refine ite2 (fun c8 => ?_) (fun c8 => ?_)
          · skip
            refine ⟨_, rfl, hh, _, _, _, rfl, rfl, zy, atI_nat (j := 0) rfl, _, rfl, _, rfl, hh, _, _, _, rfl, rfl, zy, atI_nat (j := 2) rfl, _, _, rfl, rfl, by show 3 ≤ sizeLine; decide, fun t ht => ?_⟩
            have sa1 := same_upd (o := .tup [.int c, .int seat, .int (u + 1)]) ht
            refine ⟨by show 2 ≤ sizeLine; decide, fun T hT => ?_⟩
            have sa2 := same_upd (o := .tup [.str "ask", .ref t]) hT
            exact q T t _ (.ask [c, seat, u + 1]) ((s5.trans sa1).trans sa2) (SqT.of upd_same) (SqT.of (sa2 _ _ upd_same)) ⟨⟨c, seat, u + 1, rfl, o1, by omega, z0, z9, by omega, by omega⟩, rfl, nomine⟩
          · refine ⟨_, rfl, _, _, rfl, rfl, (by show (0 : Int) < 2; decide), rfl, _, rfl, ?_⟩
            refine ite2 (fun c9 => ?_) (fun c9 => ?_)
            · skip
              refine ⟨_, rfl, hh, _, _, _, rfl, rfl, zy, atI_nat (j := 0) rfl, _, rfl, _, rfl, hh, _, _, _, rfl, rfl, zy, atI_nat (j := 2) rfl, _, _, rfl, rfl, by show 3 ≤ sizeLine; decide, fun t ht => ?_⟩
              have sa1 := same_upd (o := .tup [.int c, .int seat, .int (u + 1)]) ht
              refine ⟨by show 2 ≤ sizeLine; decide, fun T hT => ?_⟩
              have sa2 := same_upd (o := .tup [.str "ask", .ref t]) hT
              exact q T t _ (.ask [c, seat, u + 1]) ((s5.trans sa1).trans sa2) (SqT.of upd_same) (SqT.of (sa2 _ _ upd_same)) ⟨⟨c, seat, u + 1, rfl, o1, by omega, z0, z9, by omega, by omega⟩, rfl, nomine⟩
            · skip
              refine ⟨_, rfl, _, rfl, ?_⟩
              refine ite2 (fun c6 => ?_) (fun c6 => ?_)
              · skip
                refine ⟨_, rfl, by show 3 ≤ sizeLine; decide, fun t ht => ?_⟩
                have sa1 := same_upd (o := .tup [.int 0, .int seat, .int 0]) ht
                refine ⟨by show 2 ≤ sizeLine; decide, fun T hT => ?_⟩
                have sa2 := same_upd (o := .tup [.str "gone", .ref t]) hT
                exact q T t _ (.gon seat) ((s5.trans sa1).trans sa2) (SqT.of upd_same) (SqT.of (sa2 _ _ upd_same)) rfl
              · obtain ⟨kvs, l1, l2, fl', l3, l4, l5⟩ := last
                refine ⟨_, rfl, b, _, rfl, .inl ⟨_, kS "floor", .inl l1, rfl, l2.symm⟩, _, rfl, fa, _, _, _, rfl, rfl, SqL.of l3, l4, _, _, rfl, rfl, _, rfl, _, _, rfl, rfl, _, rfl, by show 3 ≤ sizeLine; decide, fun t ht => ?_⟩
                have sa1 := same_upd (o := .tup [.int (fl[j] + 1 + more), .int seat, .int 0]) ht
                refine ⟨by show 2 ≤ sizeLine; decide, fun T hT => ?_⟩
                have sa2 := same_upd (o := .tup [.str "ask", .ref t]) hT
                exact l5 T t _ [fl[j] + 1 + more, seat, 0] (sa1.trans sa2) (SqT.of upd_same) (SqT.of (sa2 _ _ upd_same)) rfl
        · skip
          refine ⟨_, rfl, _, rfl, ?_⟩
          refine ite2 (fun c6 => ?_) (fun c6 => ?_)
          · skip
            refine ⟨_, rfl, by show 3 ≤ sizeLine; decide, fun t ht => ?_⟩
            have sa1 := same_upd (o := .tup [.int 0, .int seat, .int 0]) ht
            refine ⟨by show 2 ≤ sizeLine; decide, fun T hT => ?_⟩
            have sa2 := same_upd (o := .tup [.str "gone", .ref t]) hT
            exact q T t _ (.gon seat) ((s5.trans sa1).trans sa2) (SqT.of upd_same) (SqT.of (sa2 _ _ upd_same)) rfl
          · obtain ⟨kvs, l1, l2, fl', l3, l4, l5⟩ := last
            refine ⟨_, rfl, b, _, rfl, .inl ⟨_, kS "floor", .inl l1, rfl, l2.symm⟩, _, rfl, fa, _, _, _, rfl, rfl, SqL.of l3, l4, _, _, rfl, rfl, _, rfl, _, _, rfl, rfl, _, rfl, by show 3 ≤ sizeLine; decide, fun t ht => ?_⟩
            have sa1 := same_upd (o := .tup [.int (fl[j] + 1 + more), .int seat, .int 0]) ht
            refine ⟨by show 2 ≤ sizeLine; decide, fun T hT => ?_⟩
            have sa2 := same_upd (o := .tup [.str "ask", .ref t]) hT
            exact l5 T t _ [fl[j] + 1 + more, seat, 0] (sa1.trans sa2) (SqT.of upd_same) (SqT.of (sa2 _ _ upd_same)) rfl
    · refine iteF' (decide_eq_false cn) ?_
      have hA5 : Sts K (upd G e2 (.lst [])) acc mi := (hA).imp fun a zs z => sqt_same se2 z
      have kJ5 := se2 _ _ (hG)
      refine ⟨_, rfl, _, _, rfl, rfl, _, rfl, ?_⟩
      refine ite2 (fun c5 => ?_) (fun c5 => ?_)
      · skip
        obtain ⟨hh, n, rfl, ⟨th, eth, zh⟩, snn, rfl⟩ : ∃ hh n, hv = V.ref hh ∧ TupI K _ (.ref hh) n ∧ StN n ∧ hd = some n := by
          rcases W5.kH with ⟨_, e⟩ | z
          · exact absurd e (fun z => cn (by rw [emi, PI.hn z]; rfl))
          · exact z
        cases eth
        refine ⟨_, rfl, by show 2 ≤ sizeLine; decide, fun T hT => ?_⟩
        have sa2 := same_upd (o := .tup [.str "done", .ref hh]) hT
        exact q T hh _ (.don n) (s5.trans sa2) (SqT.of upd_same) (sqt_same sa2 zh) (PI.hm n rfl)
      · have sub : ∀ k ∈ mi, k ∈ lv := fun k hk => by rw [emi] at hk; exact (List.mem_filter.mp hk).1
        cases hA5 with
        | nil => exact absurd rfl cn
        | @cons x xs' n L' a0 b0 r0 =>
          obtain ⟨tx, rfl, zx⟩ := a0
          refine ⟨_, rfl, J, _, _, _, rfl, rfl, SqL.of kJ5, atI_nat (j := 0) rfl, by show 2 ≤ sizeLine; decide, fun T hT => ?_⟩
          have sa2 := same_upd (o := .tup [.str "done", .ref tx]) hT
          exact q T tx _ (.don n) (s5.trans sa2) (SqT.of upd_same) (sqt_same sa2 zx) (sub n (List.mem_cons_self ..))
end

end G0
namespace G0
open PySem PySem.Spec PyProof.Rows L2
/-! ### t > u of two tuples of three ints -/
def rGt3 (K : PySem.W.Frag) : R2 := fun x y H Q => ∃ (a b : Addr) (ns ms : List Int), x = .ref a ∧ y = .ref b ∧ SqT K H a (ns.map V.int) ∧ SqT K H b (ms.map V.int) ∧ ns.length = 3 ∧ ms.length = 3 ∧ Q (.bl (HT.lexLt ms ns)) H
theorem lex3 {ns ms : List Int} (h1 : ns.length = 3) (h2 : ms.length = 3) : Ob.lexAt (fun j => decide (ns.getD j 0 = ms.getD j 0)) (fun j => decide (ms.getD j 0 < ns.getD j 0)) (decide (ns.length > ms.length)) 0 (min ns.length ms.length) = HT.lexLt ms ns := by
  match ns, h1, ms, h2 with
  | [a, b, c], _, [d, e, f], _ =>
    by_cases c1 : a = d <;> by_cases c2 : b = e <;> by_cases c3 : c = f <;> simp [Ob.lexAt_zero, Ob.lexAt_succ, HT.lexLt, c1, c2, c3, eq_comm]
theorem op_gtT {X : Cx} (hu : X.A.units < cLine) : OpR X (compareOp .Gt) (rGt3 X.K) := by
  intro pins s σ H x y v u Q I rx ry h
  obtain ⟨a, b, ns, ms, rfl, rfl, ha, hb, n3, m3, q⟩ := h
  cases rx
  cases ry
  obtain ⟨its, r1, p1, _⟩ := I.tuple ha
  obtain ⟨its2, r2, p2, _⟩ := I.tuple hb
  have i1 : IntsAre its ns := Vals.ints r1
  have i2 : IntsAre its2 ms := Vals.ints r2
  have e1 : its.toArray.size = ns.length := by rw [List.size_toArray]; exact i1.length
  have e2 : its2.toArray.size = ms.length := by rw [List.size_toArray]; exact i2.length
  have at1 : ∀ j (h1 : j < its.toArray.size), ∃ t, its.toArray[j] = .int (ns.getD j 0) t := fun j h1 => PyProof.Rows.IntsAre.int_at i1 _ _ (by simp at h1; simp [h1])
  have at2 : ∀ j (h1 : j < its2.toArray.size), ∃ t, its2.toArray[j] = .int (ms.getD j 0) t := fun j h1 => PyProof.Rows.IntsAre.int_at i2 _ _ (by simp at h1; simp [h1])
  have R := Ob.RcOp.tuples_gt (A := X.A) (s := s) (e := fun j => decide (ns.getD j 0 = ms.getD j 0)) (r := fun j => decide (ms.getD j 0 < ns.getD j 0)) p1 p2 hu (fun j h1 h2 => by
    obtain ⟨t, et⟩ := at1 j h1
    obtain ⟨t', et'⟩ := at2 j h2
    rw [et, et']
    have z : (ns.getD j 0 == ms.getD j 0) = decide (ns.getD j 0 = ms.getD j 0) := by
      by_cases q : ns.getD j 0 = ms.getD j 0
      · rw [decide_eq_true q]; exact beq_iff_eq.mpr q
      · rw [decide_eq_false q]; exact beq_eq_false_iff_ne.mpr q
    rw [← z]
    exact SeqAt.EqAt.int_int _ _ _ _) (fun j h1 h2 _ => by
    obtain ⟨t, et⟩ := at1 j h1
    obtain ⟨t', et'⟩ := at2 j h2
    rw [et, et']
    exact Ob.RcOp.gt_int _ _ _ _)
  rw [e1, e2, lex3 n3 m3] at R
  have z : wpAny (model X.prog X.w) X.A (compareOp .Gt (.ref a) (.ref b)) (EP X pins σ Q) X.xe s := R X.prog X.w X.xe (EP X pins σ Q) ⟨.bl _, H, I, rfl, q⟩
  exact z
end G0
namespace G0
open PySem PySem.Spec PyProof.Rows L2
section
variable {K : PySem.W.Frag} {H H' : Hp} {b cl la sn ga fa ta wa : Addr} {hv : V} {cs : List Int} {cnt : Int} {lv : List (List Int)} {hd : Option (List Int)} {sv : List (List Int)} {gn fl : List Int} {tu : List (Option (List Int))} {wt : List Bool}
theorem box_len {cn : Int} {a1 : Addr} {v : V} {a2 a3 a4 a5 a6 : Addr} : (boxW cn a1 v a2 a3 a4 a5 a6).length < sizeLine := by show 8 < sizeLine; decide
theorem Wo.fresh (F : Wo K H b cl la sn ga fa ta wa hv cs cnt lv hd sv gn fl tu wt) {D : Addr} (hD : H D = none) : D ≠ cl ∧ D ≠ la ∧ D ≠ sn ∧ D ≠ ga ∧ D ≠ fa ∧ D ≠ ta ∧ D ≠ wa := by
  obtain ⟨xl, l1, l2⟩ := F.kL
  obtain ⟨xs, s1, s2⟩ := F.kS
  obtain ⟨xt, t1, t2⟩ := F.kT
  exact ⟨(ne_of_none F.kC hD).symm, (ne_of_none l1 hD).symm, (ne_of_none s1 hD).symm, (ne_of_none F.kG hD).symm, (ne_of_none F.kF hD).symm, (ne_of_none t1 hD).symm, (ne_of_none F.kW hD).symm⟩
theorem Wo.newsince (F : Wo K H b cl la sn ga fa ta wa hv cs cnt lv hd sv gn fl tu wt) {D : Addr} (hD : H D = none) : Wo K (upd (upd H D (.lst [])) b (.dK (boxW cnt la hv D ga fa ta wa))) b cl la D ga fa ta wa hv cs cnt lv hd [] gn fl tu wt := by
  obtain ⟨n1, n2, n3, n4, n5, n6, n7⟩ := F.fresh hD
  exact (F.same (same_upd (o := .lst []) hD)).setsince upd_same .nil n1 n2 n3 n4 n5 n6 n7
theorem Wo.newlive (F : Wo K H b cl la sn ga fa ta wa hv cs cnt lv hd sv gn fl tu wt) {D : Addr} (hD : H D = none) (s : Same H H') {ys : List V} {lv' : List (List Int)} (kD : H' D = some (.lst ys)) (hs : Sts K H' ys lv') : Wo K (upd H' b (.dK (boxW cnt D hv sn ga fa ta wa))) b cl D sn ga fa ta wa hv cs cnt lv' hd sv gn fl tu wt := by
  obtain ⟨n1, n2, n3, n4, n5, n6, n7⟩ := F.fresh hD
  exact (F.same s).setlive kD hs n1 n2 n3 n4 n5 n6 n7
end
theorem ix_n {j n : Nat} (h : j < n) : ixN n (j : Int) = some j := by
  unfold ixN
  rw [if_pos (by omega), if_pos (by omega)]
  simp
theorem seq_ix {j n : Nat} (h : j < n) : seqIndex? (j : Int) n = some j := by
  unfold seqIndex?
  simp only [if_neg (show ¬ (j : Int) < 0 by omega)]
  rw [if_pos (by simp; omega)]
  simp
section
variable {P : Program} {w : World} {K : PySem.W.Frag} {mg : Str → Option Value} {base : Heap} {C CD : Addr}
def VoteR (A : List (List Int)) (cnt : Int) (m' : Option (List Int)) (ds : List PyData) : Prop :=
  (A = [] ∧ m' = none ∧ ds = []) ∨ ∃ n, n ∈ A ∧ m' = some n ∧ (∀ k ∈ A, TS.code (10 ^ 43) n ≤ TS.code (10 ^ 43) k) ∧ ds = [voD n cnt]
/-! ### _law_vote -/
def spVote4 (K : PySem.W.Frag) : Sp := fun vs H Q _ => ∃ (b cl la sn ga fa ta wa : Addr) (hv : V) (cs gn fl : List Int) (cnt B : Int) (lv sv : List (List Int)) (hd : Option (List Int)) (tu : List (Option (List Int))) (wt : List Bool), vs = [.ref b] ∧
  Wo K H b cl la sn ga fa ta wa hv cs cnt lv hd sv gn fl tu wt ∧ (∀ k ∈ lv, StB B k) ∧ fl.length = 9 ∧ (∀ x ∈ fl, 0 ≤ x ∧ x ≤ B) ∧ 0 ≤ cnt ∧ cnt ≤ B ∧
  ∀ l zs ds H' hv' sn' m' fl', FrI H H' → Wo K H' b cl la sn' ga fa ta wa hv' cs cnt lv m' [] gn fl' tu wt → H' l = some (.lst zs) → DpAll K H' zs ds → VoteR lv cnt m' ds → fl'.length = 9 → (∀ x ∈ fl', 0 ≤ x ∧ x ≤ B) → Q (.ref l) H'
theorem sc_law_vote : FnScope ["world", "held"] ["world"] (defScope s_law_vote) :=
  ⟨rfl, rfl, rfl, by decide +kernel, rfl, by decide +kernel, by decide +kernel⟩
theorem ok_vote4 (F : Fn K mg "_law_vote" s_law_vote) (T : BlD mg) (MX : mg "max" = none) : Cal P w K mg base "_law_vote" 1 ["world"] (spVote4 K) := by
  refine cal_of F sc_law_vote
    (fun _ _ _ _ _ _ us hl => match us, hl with | [_], _ => rfl) ?_ ?_
  · rintro vs H Q E ⟨_, _, _, _, _, _, _, _, _, _, _, _, _, _, _, _, _, _, _, rfl, _⟩
    rfl
  have T1 := T
  have T : BlX mg := ⟨T1, MX⟩
  rintro f cdv A outer s H vs Q E free hr ⟨b, cl, la, sn, ga, fa, ta, wa, hv, cs, gn, fl, cnt, B, lv, sv, hd, tu, wt, rfl, W, ok, f9, flok, c0, c1, q⟩
  refine ⟨_, (pss_cons (ps_set (i := 1) sc_law_vote.nd rfl (Or.inl rfl) (pe_callBK (cr_minD (by rfl) (u64 hr)) (by rfl) T.min (by decide +kernel) (pa_cons (pe_dget (hu_of hr) (pv 0) pe_str (fun _ _ => rfl)) pa_nil) (pk_cons pe_non pk_nil)))
    (pss_cons (ps_asg (pv 1) (pg_sub (pv 0) pe_str (set_dict (hu_of hr))))
    (pss_cons (ps_asg (pe_lst pa_nil) (pg_sub (pv 0) pe_str (set_dict (hu_of hr))))
    (pss_cons (ps_if (pt_cmpR op_isN (pv 1) pe_non (nomark _))
    (pss_one (ps_ret (pe_lst pa_nil)))
    pss_nil)
    (pss_cons (ps_asg (pe_callB (call_max2 rfl) (by rfl) T.max (by decide +kernel) (pa_cons (pe_ix ix_list (pe_dget (hu_of hr) (pv 0) pe_str (fun _ _ => rfl)) (pe_ix ix_tup (pv 1) pe_int (fun _ _ => rfl)) (fun _ _ => rfl)) (pa_cons (pe_dget (hu_of hr) (pv 0) pe_str (fun _ _ => rfl)) pa_nil))) (pg_sub (pe_dget (hu_of hr) (pv 0) pe_str (fun _ _ => rfl)) (pe_ix ix_tup (pv 1) pe_int (fun _ _ => rfl)) set_list))
    (pss_one (ps_ret (pe_lst (pa_cons (pe_tup (pa_cons (pe_ix ix_tup (pv 1) pe_int (fun _ _ => rfl)) (pa_cons (pe_tup (pa_cons pe_str (pa_cons (pe_ix ix_tup (pv 1) pe_int (fun _ _ => rfl)) (pa_cons (pe_ix ix_tup (pv 1) pe_int (fun _ _ => rfl)) (pa_cons (pe_dget (hu_of hr) (pv 0) pe_str (fun _ _ => rfl)) pa_nil))))) pa_nil))) pa_nil))))))))), ?_⟩
  obtain ⟨ls, hlv, hL⟩ := W.kL
  have ll := hL.len
  refine ⟨_, rfl, b, _, rfl, .inl ⟨_, kS "live", .inl W.kb, rfl, (boxW_la _ _ _ _ _ _ _ _).symm⟩, la, ls, lv, rfl, rfl, SqL.of hlv, hL, fun el => ?_, fun x nx hx hnx tx least => ?_⟩
  · skip
    refine ⟨_, rfl, _, rfl, b, _, rfl, .inl ⟨_, kS "held", W.kb, rfl, box_len, rfl⟩, ?_⟩
    rw [boxW_put_hv]
    have W1 := W.setheld (hv':=.non) (hd':=none) (.inl ⟨rfl, rfl⟩)
    have f1 : FrI H (upd H b (.dK (boxW cnt la (V.non) sn ga fa ta wa))) := fri_dK W.kb
    refine ⟨Nat.zero_le _, fun D hD => ?_⟩
    have W2 := W1.newsince hD
    have s2 := same_upd (o := .lst []) hD
    have f2 : FrI H (upd (upd (upd H b (.dK (boxW cnt la (V.non) sn ga fa ta wa))) D (.lst [])) b (.dK (boxW cnt la (V.non) D ga fa ta wa))) := (f1.trans (Same.fri s2)).trans (fri_dK (s2 _ _ W1.kb))
    refine ⟨_, rfl, b, _, rfl, .inl ⟨_, kS "since", s2 _ _ W1.kb, rfl, box_len, rfl⟩, ?_⟩
    rw [boxW_put_sn]
    obtain ⟨H2, e2⟩ : ∃ H2, H2 = upd (upd (upd H b (.dK (boxW cnt la (V.non) sn ga fa ta wa))) D (.lst [])) b (.dK (boxW cnt la (V.non) D ga fa ta wa)) := ⟨_, rfl⟩
    rw [← e2] at W2 f2
    rw [← e2]
    refine ⟨_, rfl, rfl, _, rfl, iteT' rfl ?_⟩
    refine ⟨Nat.zero_le _, fun l hl => ?_⟩
    have s3 := same_upd (o := .lst []) hl
    exact q l [] [] _ _ _ _ _ (f2.trans (Same.fri s3)) (W2.same s3) upd_same .nil (.inl ⟨el, rfl, rfl⟩) f9 flok
  · obtain ⟨tt, rfl, ht⟩ := tx
    have snn := hL.st nx hnx
    obtain ⟨c, s', u, rfl, o1, o2, o3, o4, o5, o6⟩ := ok nx hnx
    refine ⟨_, rfl, _, rfl, b, _, rfl, .inl ⟨_, kS "held", W.kb, rfl, box_len, rfl⟩, ?_⟩
    rw [boxW_put_hv]
    have W1 := W.setheld (hv':=.ref tt) (hd':=some [c, s', u]) (.inr ⟨tt, _, rfl, ⟨tt, rfl, ht⟩, snn, rfl⟩)
    have f1 : FrI H (upd H b (.dK (boxW cnt la (V.ref tt) sn ga fa ta wa))) := fri_dK W.kb
    refine ⟨Nat.zero_le _, fun D hD => ?_⟩
    have W2 := W1.newsince hD
    have s2 := same_upd (o := .lst []) hD
    have f2 : FrI H (upd (upd (upd H b (.dK (boxW cnt la (V.ref tt) sn ga fa ta wa))) D (.lst [])) b (.dK (boxW cnt la (V.ref tt) D ga fa ta wa))) := (f1.trans (Same.fri s2)).trans (fri_dK (s2 _ _ W1.kb))
    refine ⟨_, rfl, b, _, rfl, .inl ⟨_, kS "since", s2 _ _ W1.kb, rfl, box_len, rfl⟩, ?_⟩
    rw [boxW_put_sn]
    obtain ⟨H2, e2⟩ : ∃ H2, H2 = upd (upd (upd H b (.dK (boxW cnt la (V.ref tt) sn ga fa ta wa))) D (.lst [])) b (.dK (boxW cnt la (V.ref tt) D ga fa ta wa)) := ⟨_, rfl⟩
    rw [← e2] at W2 f2
    rw [← e2]
    have ht2 := sqt_fri f2 ht
    refine ⟨_, rfl, rfl, _, rfl, iteF' rfl ?_⟩
    obtain ⟨j, ej⟩ : ∃ j : Nat, s' = (j : Int) := ⟨s'.toNat, by omega⟩
    have jl : j < fl.length := by omega
    have att : atI (fl.map V.int) s' = some (.int fl[j]) := by rw [ej]; exact atI_nat (by rw [List.getElem?_map, List.getElem?_eq_getElem jl]; rfl)
    refine ⟨_, rfl, b, _, rfl, .inl ⟨_, kS "floor", .inl W2.kb, rfl, (boxW_fa _ _ _ _ _ _ _ _).symm⟩, _, rfl, tt, _, _, _, rfl, rfl, ht2, atI_nat (j := 1) rfl, fa, _, _, _, rfl, rfl, SqL.of W2.kF, att, _, rfl, b, _, rfl, .inl ⟨_, kS "count", .inl W2.kb, rfl, (boxW_cn _ _ _ _ _ _ _ _).symm⟩, _, _, rfl, ?_⟩
    refine ⟨_, rfl, b, _, rfl, .inl ⟨_, kS "floor", .inl W2.kb, rfl, (boxW_fa _ _ _ _ _ _ _ _).symm⟩, _, rfl, tt, _, _, _, rfl, rfl, ht2, atI_nat (j := 1) rfl, fa, _, _, j, rfl, rfl, W2.kF, (by rw [ej, List.length_map]; exact ix_n jl), ?_⟩
    obtain ⟨mx, emx⟩ : ∃ mx, mx = if cnt > fl[j] then cnt else fl[j] := ⟨_, rfl⟩
    rw [← emx, ← List.map_set]
    have W3 := W2.mutfloor (fl.set j mx)
    have f3 := f2.trans (fri_lst (o := .lst ((fl.set j mx).map V.int)) W2.kF)
    have ht3 := sqt_fri f3 ht
    obtain ⟨H3, e3⟩ : ∃ H3, H3 = upd H2 fa (.lst ((fl.set j mx).map V.int)) := ⟨_, rfl⟩
    rw [← e3] at W3 f3 ht3
    rw [← e3]
    refine ⟨_, rfl, tt, _, _, _, rfl, rfl, ht3, atI_nat (j := 1) rfl, _, rfl, tt, _, _, _, rfl, rfl, ht3, atI_nat (j := 0) rfl, _, rfl, tt, _, _, _, rfl, rfl, ht3, atI_nat (j := 2) rfl, _, rfl, b, _, rfl, .inl ⟨_, kS "count", .inl W3.kb, rfl, (boxW_cn _ _ _ _ _ _ _ _).symm⟩, by show 4 ≤ sizeLine; decide, fun t1 ht1 => ?_⟩
    have sa := same_upd (o := .tup [.str "vote", .int c, .int u, .int cnt]) ht1
    refine ⟨by show 2 ≤ sizeLine; decide, fun t2 ht2 => ?_⟩
    have sb := same_upd (o := .tup [.int s', .ref t1]) ht2
    refine ⟨by show 1 ≤ sizeLine; decide, fun l hl => ?_⟩
    have sc := same_upd (o := .lst [.ref t2]) hl
    have sabc := (sa.trans sb).trans sc
    refine q l [.ref t2] [voD [c, s', u] cnt] _ _ _ _ _ (f3.trans (Same.fri sabc)) (W3.same sabc) upd_same (.cons (.tup (SqT.of (sc _ _ upd_same)) (.cons (.int _) (.cons (.tup (SqT.of ((sb.trans sc) _ _ upd_same)) (.cons (.str _) (.cons (.int _) (.cons (.int _) (.cons (.int _) .nil))))) .nil))) .nil) (.inr ⟨_, hnx, rfl, least, rfl⟩) (by rw [List.length_set]; exact f9) (fun y hy => ?_)
    rcases List.mem_or_eq_of_mem_set hy with z | z
    · exact flok y z
    · have := flok _ (List.getElem_mem jl)
      rw [z, emx]
      split <;> omega
end

end G0
namespace G0
open PySem PySem.Spec PyProof.Rows L2
section
variable {P : Program} {w : World} {K : PySem.W.Frag} {mg : Str → Option Value} {base : Heap} {C CD : Addr}
def LeftR (hd : Option (List Int)) (sv : List (List Int)) (s : Int) (lv' : List (List Int)) (cnt : Int) (m' : Option (List Int)) (sv' : List (List Int)) (ds : List PyData) : Prop :=
  if isSeat hd s = true then VoteR lv' cnt m' ds ∧ sv' = [] else m' = hd ∧ sv' = sv ∧ ds = []
def DueR (cnt : Int) (lv : List (List Int)) (hd : Option (List Int)) (sv : List (List Int)) (gn : List Int) (cnt' : Int) (lv' : List (List Int)) (m' : Option (List Int)) (sv' : List (List Int)) (gn' : List Int) (ds : List PyData) : D4 → Prop
  | .ask n => cnt' = (if n.getD 0 0 > cnt then n.getD 0 0 else cnt) ∧ lv' = lv ++ [n] ∧ gn' = gn ∧ ((hd = none ∧ VoteR lv' cnt' m' ds ∧ sv' = []) ∨
      ∃ h, hd = some h ∧ m' = some h ∧ ((HT.lexLt h n = true ∧ sv' = sv ∧ ds = []) ∨ (HT.lexLt h n = false ∧ sv' = sv ++ [n] ∧ ds = if sv = [] then [bkD h] else [])))
  | .giv _ => cnt' = cnt ∧ lv' = lv ∧ gn' = gn ∧ VoteR lv cnt m' ds ∧ sv' = []
  | .don n => cnt' = cnt ∧ lv' = (lv.filter fun k => !decide (seatN k = seatN n)) ∧ gn' = gn ∧ LeftR hd sv (seatN n) lv' cnt m' sv' ds
  | .gon v => cnt' = cnt ∧ lv' = (lv.filter fun k => !decide (seatN k = v)) ∧ gn' = gn ++ [v] ∧ LeftR hd sv v lv' cnt m' sv' ds
def Len4 (B : Int) (fl : List Int) (tu : List (Option (List Int))) (wt : List Bool) : Prop := fl.length = 9 ∧ (∀ x ∈ fl, 0 ≤ x ∧ x ≤ B) ∧ tu.length = 9 ∧ (∀ (i : Nat) k, tu[i]? = some (some k) → StB B k) ∧ wt.length = 9
theorem StB.mono {B B' : Int} {k : List Int} (h : StB B k) (l : B ≤ B') : StB B' k := by
  obtain ⟨c, s, u, e, a1, a2, r⟩ := h
  exact ⟨c, s, u, e, a1, by omega, r⟩
theorem tu_set {tu : List (Option (List Int))} {B : Int} {o : Option (List Int)} (h : ∀ (i : Nat) k, tu[i]? = some (some k) → StB B k) (j : Nat) (ho : ∀ k, o = some k → StB B k) : ∀ (i : Nat) k, (tu.set j o)[i]? = some (some k) → StB B k := fun i k e => by
  rw [List.getElem?_set] at e
  by_cases c : j = i
  · rw [if_pos c] at e
    split at e
    · exact ho k (Option.some.inj e)
    · cases e
  · rw [if_neg c] at e
    exact h i k e
/-! ### _law_due -/
def spDue4 (K : PySem.W.Frag) : Sp := fun vs H Q _ => ∃ (b cl la sn ga fa ta wa t : Addr) (hv : V) (z : Str) (cs gn fl : List Int) (cnt B kind : Int) (lv sv : List (List Int)) (hd : Option (List Int)) (tu : List (Option (List Int))) (wt : List Bool) (D : D4) (seat : Int), vs = [.ref b, .int kind, .str z, .ref t] ∧ z = wd4 D ∧
  SqT K H t ((st4 D).map V.int) ∧ Wo K H b cl la sn ga fa ta wa hv cs cnt lv hd sv gn fl tu wt ∧ Pw cnt B lv hd sv fl tu wt ∧ B ≤ 10 ^ 42 ∧ lv.length < 64 ∧ sv.length < 64 ∧ gn.length < 64 ∧ 0 ≤ seat ∧ seat < 9 ∧ Ok4 (B + 10 ^ 40) lv hd sv seat D ∧
  ∀ l zs ds H' hv' la' sn' cnt' lv' m' sv' gn' fl' tu' wt', FrI H H' → Wo K H' b cl la' sn' ga fa ta wa hv' cs cnt' lv' m' sv' gn' fl' tu' wt' → H' l = some (.lst zs) → DpAll K H' zs ds → DueR cnt lv hd sv gn cnt' lv' m' sv' gn' ds D → Len4 (B + 10 ^ 40) fl' tu' wt' → Q (.ref l) H'
theorem sc_law_due : FnScope ["world", "kind", "word", "stamp", "held", "seat", "one"] ["world", "kind", "word", "stamp"] (defScope s_law_due) :=
  ⟨rfl, rfl, rfl, by decide +kernel, rfl, by decide +kernel, by decide +kernel⟩
theorem ok_due4 (F : Fn K mg "_law_due" s_law_due) (T0 : BlD mg) (MX : mg "max" = none) (C_vote : Cal P w K mg base "_law_vote" 1 ["world"] (spVote4 K)) : Cal P w K mg base "_law_due" 2 ["world", "kind", "word", "stamp"] (spDue4 K) := by
  refine cal_of F sc_law_due
    (fun _ _ _ _ _ _ us hl => match us, hl with | [_, _, _, _], _ => rfl) ?_ ?_
  · rintro vs H Q E ⟨_, _, _, _, _, _, _, _, _, _, _, _, _, _, _, _, _, _, _, _, _, _, _, _, rfl, _⟩
    rfl
  have T : BlX mg := ⟨T0, MX⟩
  rintro f cdv A outer s H vs Q E free hr ⟨b, cl, la, sn, ga, fa, ta, wa, t, hv, z, cs, gn, fl, cnt, B, kind, lv, sv, hd, tu, wt, D, seat, rfl, hz, ht, W, PI, B42, len, lens, leng, z0, z9, ok, q⟩
  refine ⟨_, (pss_cons (ps_set (i := 4) sc_law_due.nd rfl (Or.inl rfl) (pe_dget (hu_of hr) (pv 0) pe_str (fun _ _ => rfl)))
    (pss_cons (ps_set (i := 5) sc_law_due.nd rfl (Or.inr rfl) (pe_ix ix_tup (pv 3) pe_int (fun _ _ => rfl)))
    (pss_cons (ps_if (pt_cmpR op_eq (pv 2) pe_str (nomark _))
    (pss_cons (ps_asg (pe_callB (call_max2 rfl) (by rfl) T.max (by decide +kernel) (pa_cons (pe_dget (hu_of hr) (pv 0) pe_str (fun _ _ => rfl)) (pa_cons (pe_ix ix_tup (pv 3) pe_int (fun _ _ => rfl)) pa_nil))) (pg_sub (pv 0) pe_str (set_dict (hu_of hr))))
    (pss_cons (ps_asg (pe_callB (call_max2 rfl) (by rfl) T.max (by decide +kernel) (pa_cons (pe_ix ix_list (pe_dget (hu_of hr) (pv 0) pe_str (fun _ _ => rfl)) (pv 5) (fun _ _ => rfl)) (pa_cons (pe_ix ix_tup (pv 3) pe_int (fun _ _ => rfl)) pa_nil))) (pg_sub (pe_dget (hu_of hr) (pv 0) pe_str (fun _ _ => rfl)) (pv 5) set_list))
    (pss_cons (ps_asg pe_non (pg_sub (pe_dget (hu_of hr) (pv 0) pe_str (fun _ _ => rfl)) (pv 5) set_list))
    (pss_cons (ps_asg pe_bl (pg_sub (pe_dget (hu_of hr) (pv 0) pe_str (fun _ _ => rfl)) (pv 5) set_list))
    (pss_cons (ps_expr (pe_bm PySem.F.plainAttrs_list PySem.F.slot_list_append PySem.F.type_list_append mt_append (pe_dget (hu_of hr) (pv 0) pe_str (fun _ _ => rfl)) (pa_cons (pv 3) pa_nil)))
    (pss_cons (ps_if (PW.pt (pw_and (pt_cmpR op_notN (pv 4) pe_non (nomark _)) (pw_and1 (pt_cmpR (op_gtT (u0 hr)) (pv 3) (pv 4) (nomark _)))))
    (pss_one (ps_ret (pe_lst pa_nil)))
    pss_nil)
    (pss_cons (ps_if (pt_cmpR op_notN (pv 4) pe_non (nomark _))
    (pss_cons (ps_expr (pe_bm PySem.F.plainAttrs_list PySem.F.slot_list_append PySem.F.type_list_append mt_append (pe_dget (hu_of hr) (pv 0) pe_str (fun _ _ => rfl)) (pa_cons (pv 3) pa_nil)))
    (pss_cons (ps_if (pt_cmpR op_gt (pe_callB call_len_seq (by rfl) T.len (by decide +kernel) (pa_cons (pe_dget (hu_of hr) (pv 0) pe_str (fun _ _ => rfl)) pa_nil)) pe_int (nomark _))
    (pss_one (ps_ret (pe_lst pa_nil)))
    pss_nil)
    (pss_one (ps_ret (pe_lst (pa_cons (pe_tup (pa_cons (pe_ix ix_tup (pv 4) pe_int (fun _ _ => rfl)) (pa_cons (pe_tup (pa_cons pe_str (pa_cons (pe_ix ix_tup (pv 4) pe_int (fun _ _ => rfl)) (pa_cons (pe_ix ix_tup (pv 4) pe_int (fun _ _ => rfl)) pa_nil)))) pa_nil))) pa_nil))))))
    pss_nil)
    (pss_one (ps_ret (pe_cal C_vote free (hr.mono (by decide)) (pa_cons (pv 0) pa_nil)))))))))))
    pss_nil)
    (pss_cons (ps_if (pt_cmpR op_eq (pv 2) pe_str (nomark _))
    (pss_one (ps_expr (pe_bm PySem.F.plainAttrs_list PySem.F.slot_list_append PySem.F.type_list_append mt_append (pe_dget (hu_of hr) (pv 0) pe_str (fun _ _ => rfl)) (pa_cons (pv 5) pa_nil))))
    pss_nil)
    (pss_cons (ps_if (PW.pt (pw_and (pt_cmpR op_eq (pv 2) pe_str (nomark _)) (pw_and1 (PW.pt (pw_or (pt_cmpR (op_neD (u64 hr)) (pv 3) (pv 4) (nomark _)) (pw_or1 (pt_cmpR op_eq (pe_op op_mod (pv 1) pe_int) pe_int (nomark _))))))))
    (pss_cons (ps_asg (pv 3) (pg_sub (pe_dget (hu_of hr) (pv 0) pe_str (fun _ _ => rfl)) (pv 5) set_list))
    (pss_one (ps_asg (pe_cmpR (op_neD (u64 hr)) (pv 3) (pv 4) (nomark _)) (pg_sub (pe_dget (hu_of hr) (pv 0) pe_str (fun _ _ => rfl)) (pv 5) set_list))))
    pss_nil)
    (pss_cons (ps_if (pt_cmpR op_ne (pv 2) pe_str (nomark _))
    (pss_one (ps_asg (pe_lc (own := [("one", 6)]) (g := gName 6)  (by rfl) sc_law_due.nd (pi_list (pe_dget (hu_of hr) (pv 0) pe_str (fun _ _ => rfl))) (blkOk_by (N := ["world", "kind", "word", "stamp", "held", "seat", "one"]) (sc := defScope s_law_due) (by decide +kernel)) (fun _ _ _ _ _ => pg_name (i := 6) sc_law_due.nd rfl (Or.inl rfl)) (fun _ _ _ _ _ => pts_one (pt_cmpR op_ne (pe_ix (ix_tupK K) (pv 6) pe_int (fun _ _ => rfl)) (pv 5) (nomark _))) (fun _ _ _ _ _ => (pv 6))) (pg_sub (pv 0) pe_str (set_dict (hu_of hr)))))
    pss_nil)
    (pss_cons (ps_if (PW.pt (pw_and (pt_cmpR op_notN (pv 4) pe_non (nomark _)) (pw_and1 (pt_cmpR op_eq (pe_ix ix_tup (pv 4) pe_int (fun _ _ => rfl)) (pv 5) (nomark _)))))
    (pss_one (ps_ret (pe_cal C_vote free (hr.mono (by decide)) (pa_cons (pv 0) pa_nil))))
    pss_nil)
    (pss_one (ps_ret (pe_lst pa_nil)))))))))), ?_⟩
  refine ⟨_, rfl, b, _, rfl, .inl ⟨_, kS "held", .inl W.kb, rfl, (boxW_hv _ _ _ _ _ _ _ _).symm⟩, ?_⟩
  obtain ⟨ls, hlv, hL⟩ := W.kL
  have flm : ∀ x ∈ fl, 0 ≤ x ∧ x ≤ B + 10 ^ 40 := fun x hx => by have := PI.flok x hx; omega
  have tum : ∀ (i : Nat) k, tu[i]? = some (some k) → StB (B + 10 ^ 40) k := fun i k e => (PI.tuok i k e).mono (by omega)
  have okm : ∀ k ∈ lv, StB (B + 10 ^ 40) k := fun k hk => (PI.ok k hk).mono (by omega)
  have L4 : Len4 (B + 10 ^ 40) fl tu wt := ⟨PI.fl9, flm, PI.tu9, tum, PI.wt9⟩
  cases D with
  | ask n =>
    replace hz : z = "ask" := hz
    obtain ⟨⟨c, s', u, rfl, o1, o2, o3, o4, o5, o6⟩, eseat, nok⟩ := ok
    have es : s' = seat := eseat
    subst es
    subst hz
    have ht : SqT K H t [.int c, .int s', .int u] := ht
    have sn3 : StN [c, s', u] := ⟨rfl, fun m hm => by
      have p1 : (10 : Int) ^ 43 = 10 * 10 ^ 42 := by decide
      have p2 : (10 : Int) ^ 42 = 100 * 10 ^ 40 := by decide
      simp only [List.mem_cons, List.not_mem_nil, or_false] at hm
      rcases hm with rfl | rfl | rfl <;> constructor <;> omega⟩
    obtain ⟨j, ej⟩ : ∃ j : Nat, s' = (j : Int) := ⟨s'.toNat, by omega⟩
    refine ⟨_, rfl, t, _, _, _, rfl, rfl, ht, atI_nat (j := 1) rfl, ?_⟩
    refine ⟨_, rfl, rfl, _, rfl, iteT' (by decide +kernel) ?_⟩
    refine ⟨_, rfl, b, _, rfl, .inl ⟨_, kS "count", .inl W.kb, rfl, (boxW_cn _ _ _ _ _ _ _ _).symm⟩, _, rfl, t, _, _, _, rfl, rfl, ht, atI_nat (j := 0) rfl, _, _, rfl, _, rfl, b, _, rfl, .inl ⟨_, kS "count", W.kb, rfl, box_len, rfl⟩, ?_⟩
    rw [boxW_put_cn]
    obtain ⟨cn, ecn⟩ : ∃ cn, cn = if c > cnt then c else cnt := ⟨_, rfl⟩
    rw [← ecn]
    have W1 := W.setcnt cn
    have f1 := fri_dK (o := .dK (boxW cn la hv sn ga fa ta wa)) W.kb
    have ht1 := sqt_fri f1 ht
    obtain ⟨H1, e1⟩ : ∃ H1, H1 = upd H b (.dK (boxW cn la hv sn ga fa ta wa)) := ⟨_, rfl⟩
    rw [← e1] at W1 f1 ht1
    rw [← e1]
    have jl : j < fl.length := by rw [PI.fl9]; omega
    have att : atI (fl.map V.int) s' = some (.int fl[j]) := by rw [ej]; exact atI_nat (by rw [List.getElem?_map, List.getElem?_eq_getElem jl]; rfl)
    refine ⟨_, rfl, b, _, rfl, .inl ⟨_, kS "floor", .inl W1.kb, rfl, (boxW_fa _ _ _ _ _ _ _ _).symm⟩, _, rfl, fa, _, _, _, rfl, rfl, SqL.of W1.kF, att, _, rfl, t, _, _, _, rfl, rfl, ht1, atI_nat (j := 0) rfl, _, _, rfl, ?_⟩
    refine ⟨_, rfl, b, _, rfl, .inl ⟨_, kS "floor", .inl W1.kb, rfl, (boxW_fa _ _ _ _ _ _ _ _).symm⟩, _, rfl, fa, _, _, j, rfl, rfl, W1.kF, (by rw [ej, List.length_map]; exact ix_n jl), ?_⟩
    obtain ⟨mx, emx⟩ : ∃ mx, mx = if c > fl[j] then c else fl[j] := ⟨_, rfl⟩
    rw [← emx, ← List.map_set]
    have W2 := W1.mutfloor (fl.set j mx)
    have f2 := f1.trans (fri_lst (o := .lst ((fl.set j mx).map V.int)) W1.kF)
    obtain ⟨H2, e2⟩ : ∃ H2, H2 = upd H1 fa (.lst ((fl.set j mx).map V.int)) := ⟨_, rfl⟩
    rw [← e2] at W2 f2
    rw [← e2]
    obtain ⟨xt, kt, tt⟩ := W2.kT
    have jx : j < xt.length := by rw [tt.1, PI.tu9]; omega
    refine ⟨_, rfl, b, _, rfl, .inl ⟨_, kS "turned", .inl W2.kb, rfl, (boxW_ta _ _ _ _ _ _ _ _).symm⟩, _, rfl, ta, xt, _, j, rfl, rfl, kt, (by rw [ej]; exact ix_n jx), ?_⟩
    have W3 := W2.mutturned (tt.set j (v := .non) (o := none) (.inl ⟨rfl, rfl⟩))
    have f3 := f2.trans (fri_lst (o := .lst (xt.set j .non)) kt)
    obtain ⟨H3, e3⟩ : ∃ H3, H3 = upd H2 ta (.lst (xt.set j .non)) := ⟨_, rfl⟩
    rw [← e3] at W3 f3
    rw [← e3]
    have jw : j < wt.length := by rw [PI.wt9]; omega
    refine ⟨_, rfl, b, _, rfl, .inl ⟨_, kS "waited", .inl W3.kb, rfl, (boxW_wa _ _ _ _ _ _ _ _).symm⟩, _, rfl, wa, _, _, j, rfl, rfl, W3.kW, (by rw [ej, List.length_map]; exact ix_n jw), ?_⟩
    rw [← List.map_set]
    have W4 := W3.mutwaited (wt.set j false)
    have f4 := f3.trans (fri_lst (o := .lst ((wt.set j false).map V.bl)) W3.kW)
    have ht4 := sqt_fri f4 ht
    obtain ⟨H4, e4⟩ : ∃ H4, H4 = upd H3 wa (.lst ((wt.set j false).map V.bl)) := ⟨_, rfl⟩
    rw [← e4] at W4 f4 ht4
    rw [← e4]
    obtain ⟨xl, kl4, tl4⟩ := W4.kL
    have lxl := tl4.len
    refine ⟨_, rfl, b, _, rfl, .inl ⟨_, kS "live", .inl W4.kb, rfl, (boxW_la _ _ _ _ _ _ _ _).symm⟩, .inl ⟨rfl, _, SqL.of kl4⟩, _, rfl, la, _, _, rfl, rfl, kl4, Nat.lt_of_lt_of_le (show xl.length < 100 by omega) (by decide), ?_⟩
    have W5 := W4.mutlive (tl4.app (Sts.one (show TupI K H4 (.ref t) [c, s', u] from ⟨t, rfl, ht4⟩) sn3))
    have f5 := f4.trans (fri_lst (o := .lst (xl ++ [.ref t])) kl4)
    have ht5 := sqt_fri f5 ht
    obtain ⟨H5, e5⟩ : ∃ H5, H5 = upd H4 la (.lst (xl ++ [.ref t])) := ⟨_, rfl⟩
    rw [← e5] at W5 f5 ht5
    rw [← e5]
    have L5 : Len4 (B + 10 ^ 40) (fl.set j mx) (tu.set j none) (wt.set j false) := ⟨by rw [List.length_set]; exact PI.fl9, fun y hy => by
      rcases List.mem_or_eq_of_mem_set hy with z | z
      · exact flm y z
      · have := flm _ (List.getElem_mem jl)
        rw [z, emx]
        split <;> omega, by rw [List.length_set]; exact PI.tu9, tu_set tum j (fun k e => by cases e), by rw [List.length_set]; exact PI.wt9⟩
    have cnb : 0 ≤ cn ∧ cn ≤ B + 10 ^ 40 := by
      have := PI.c0
      have := PI.c1
      rw [ecn]
      split <;> omega
    rcases W5.kH with ⟨rfl, ehd⟩ | ⟨hh, h, rfl, ⟨th, eth, zh⟩, snh, ehd⟩
    · refine ⟨_, rfl, rfl, _, rfl, iteF' rfl ?_⟩
      refine ⟨_, rfl, rfl, _, rfl, iteF' rfl ?_⟩
      refine ⟨_, rfl, b, cl, _, sn, ga, fa, ta, wa, _, cs, _, _, cn, B + 10 ^ 40, _, _, _, _, _, rfl, W5, fun k hk => ?_, L5.1, L5.2.1, cnb.1, cnb.2, fun l zs ds H9 hv' sn' m' fl' f9 W9 kl dz R l9 fl9 => ?_⟩
      · rcases List.mem_append.mp hk with z | z
        · exact okm k z
        · rw [List.mem_singleton.mp z]
          exact ⟨c, s', u, rfl, o1, o2, o3, o4, o5, o6⟩
      · exact q l zs ds _ _ _ _ _ _ _ _ _ _ _ _ (f5.trans f9) W9 kl dz ⟨ecn, rfl, rfl, .inl ⟨ehd, R, rfl⟩⟩ ⟨l9, fl9, L5.2.2⟩
    · cases eth
      refine ⟨_, rfl, rfl, _, rfl, iteT' rfl ?_⟩
      refine ⟨_, rfl, _, rfl, _, _, [c, s', u], h, rfl, rfl, ht5, zh, rfl, snh.1, _, rfl, ?_⟩
      cases hlt : HT.lexLt h [c, s', u] with
      | true =>
        refine iteT ?_
        refine ⟨Nat.zero_le _, fun l hl => ?_⟩
        have s9 := same_upd (o := .lst []) hl
        exact q l [] [] _ _ _ _ _ _ _ _ _ _ _ _ (f5.trans (Same.fri s9)) (W5.same s9) upd_same .nil ⟨ecn, rfl, rfl, .inr ⟨h, ehd, ehd, .inl ⟨hlt, rfl, rfl⟩⟩⟩ L5
      | false =>
        refine iteF ?_
        refine ⟨_, rfl, rfl, _, rfl, iteT' rfl ?_⟩
        obtain ⟨xs, ks, ts⟩ := W5.kS
        have lxs := ts.len
        refine ⟨_, rfl, b, _, rfl, .inl ⟨_, kS "since", .inl W5.kb, rfl, (boxW_sn _ _ _ _ _ _ _ _).symm⟩, .inl ⟨rfl, _, SqL.of ks⟩, _, rfl, sn, _, _, rfl, rfl, ks, Nat.lt_of_lt_of_le (show xs.length < 100 by omega) (by decide), ?_⟩
        have W6 := W5.mutsince (ts.app (Sts.one (show TupI K H5 (.ref t) [c, s', u] from ⟨t, rfl, ht5⟩) sn3))
        have f6 := f5.trans (fri_lst (o := .lst (xs ++ [.ref t])) ks)
        have k6 : upd H5 sn (.lst (xs ++ [.ref t])) sn = some (.lst (xs ++ [.ref t])) := upd_same
        have zh6 := sqt_fri (fri_lst (o := .lst (xs ++ [.ref t])) ks) zh
        obtain ⟨H6, e6⟩ : ∃ H6, H6 = upd H5 sn (.lst (xs ++ [.ref t])) := ⟨_, rfl⟩
        rw [← e6] at W6 f6 k6 zh6
        rw [← e6]
        refine ⟨_, rfl, b, _, rfl, .inl ⟨_, kS "since", .inl W6.kb, rfl, (boxW_sn _ _ _ _ _ _ _ _).symm⟩, sn, _, rfl, .inl (SqL.of k6), _, _, rfl, rfl, _, rfl, ?_⟩
        by_cases cs0 : sv = []
        · subst cs0
          have x0 : xs = [] := List.eq_nil_of_length_eq_zero lxs
          subst x0
          refine iteF' (by simp) ?_
          obtain ⟨h0, h1, h2, rfl⟩ : ∃ a b c, h = [a, b, c] := by
            match h, snh.1 with
            | [a, b, c], _ => exact ⟨a, b, c, rfl⟩
          refine ⟨_, rfl, hh, _, _, _, rfl, rfl, zh6, atI_nat (j := 1) rfl, _, rfl, hh, _, _, _, rfl, rfl, zh6, atI_nat (j := 0) rfl, _, rfl, hh, _, _, _, rfl, rfl, zh6, atI_nat (j := 2) rfl, by show 3 ≤ sizeLine; decide, fun t1 ht1 => ?_⟩
          have sa := same_upd (o := .tup [.str "back", .int h0, .int h2]) ht1
          refine ⟨by show 2 ≤ sizeLine; decide, fun t2 ht2 => ?_⟩
          have sb := same_upd (o := .tup [.int h1, .ref t1]) ht2
          refine ⟨by show 1 ≤ sizeLine; decide, fun l hl => ?_⟩
          have sc := same_upd (o := .lst [.ref t2]) hl
          have sabc := (sa.trans sb).trans sc
          exact q l [.ref t2] [bkD [h0, h1, h2]] _ _ _ _ _ _ _ _ _ _ _ _ (f6.trans (Same.fri sabc)) (W6.same sabc) upd_same (.cons (.tup (SqT.of (sc _ _ upd_same)) (.cons (.int _) (.cons (.tup (SqT.of ((sb.trans sc) _ _ upd_same)) (.cons (.str _) (.cons (.int _) (.cons (.int _) .nil)))) .nil))) .nil) ⟨ecn, rfl, rfl, .inr ⟨_, ehd, ehd, .inr ⟨hlt, rfl, by rw [if_pos rfl]⟩⟩⟩ L5
        · have x1 : 0 < xs.length := by
            rw [lxs]
            exact List.length_pos_iff.mpr cs0
          refine iteT' (decide_eq_true (by rw [List.length_append, List.length_singleton]; omega)) ?_
          refine ⟨Nat.zero_le _, fun l hl => ?_⟩
          have s9 := same_upd (o := .lst []) hl
          exact q l [] [] _ _ _ _ _ _ _ _ _ _ _ _ (f6.trans (Same.fri s9)) (W6.same s9) upd_same .nil ⟨ecn, rfl, rfl, .inr ⟨h, ehd, ehd, .inr ⟨hlt, rfl, by rw [if_neg cs0]⟩⟩⟩ L5
  | giv n =>
    replace hz : z = "given" := hz
    obtain ⟨rfl, sne⟩ := ok
    obtain ⟨c, s', u, rfl, o1, o2, o3, o4, o5, o6⟩ := PI.ok n (PI.hm n rfl)
    subst hz
    have ht : SqT K H t [.int c, .int s', .int u] := ht
    refine ⟨_, rfl, t, _, _, _, rfl, rfl, ht, atI_nat (j := 1) rfl, ?_⟩
    refine ⟨_, rfl, rfl, _, rfl, iteF' (by decide +kernel) ?_⟩
    refine ⟨_, rfl, rfl, _, rfl, iteF' (by decide +kernel) ?_⟩
    refine ⟨_, rfl, rfl, _, rfl, iteF' (by decide +kernel) ?_⟩
    refine ⟨_, rfl, rfl, _, rfl, iteF' (by decide +kernel) ?_⟩
    rcases id W.kH with ⟨_, ehd⟩ | ⟨hh, h, rfl, ⟨th, eth, zh⟩, snh, ehd⟩
    · cases ehd
    cases eth
    cases ehd
    refine ⟨_, rfl, rfl, _, rfl, iteT' rfl ?_⟩
    refine ⟨_, rfl, hh, _, _, _, rfl, rfl, zh, atI_nat (j := 1) rfl, _, rfl, rfl, _, rfl, ?_⟩
    rw [dec_ii]
    refine iteT' (decide_eq_true rfl) ?_
    exact ⟨_, rfl, b, cl, _, sn, ga, fa, ta, wa, _, cs, _, _, cnt, B + 10 ^ 40, _, _, _, _, _, rfl, W, okm, L4.1, L4.2.1, PI.c0, by have := PI.c1; omega, fun l zs ds H9 hv' sn' m' fl' f9 W9 kl dz R l9 fl9 => q l zs ds _ _ _ _ _ _ _ _ _ _ _ _ f9 W9 kl dz ⟨rfl, rfl, rfl, R, rfl⟩ ⟨l9, fl9, L4.2.2⟩⟩
  | don n =>
    replace hz : z = "done" := hz
    have hn : n ∈ lv := ok
    have snn := hL.st n hn
    obtain ⟨c, s', u, rfl, o1, o2, o3, o4, o5, o6⟩ := PI.ok n hn
    subst hz
    have ht : SqT K H t [.int c, .int s', .int u] := ht
    obtain ⟨j, ej⟩ : ∃ j : Nat, s' = (j : Int) := ⟨s'.toNat, by omega⟩
    refine ⟨_, rfl, t, _, _, _, rfl, rfl, ht, atI_nat (j := 1) rfl, ?_⟩
    refine ⟨_, rfl, rfl, _, rfl, iteF' (by decide +kernel) ?_⟩
    refine ⟨_, rfl, rfl, _, rfl, iteF' (by decide +kernel) ?_⟩
    refine ⟨_, rfl, rfl, _, rfl, iteT' (by decide +kernel) ?_⟩
    obtain ⟨d, _, dd, sd, ed, _⟩ := W.kH.dps
    refine ⟨_, rfl, _, rfl, stD [c, s', u], d, dp_stamp (n := [c, s', u]) ⟨t, rfl, ht⟩, dd, shaped_st _, sd, _, rfl, ?_⟩
    rw [ed]
    refine ite2 (fun cA => ?_) (fun cA => ?_)
    · skip
      obtain ⟨xt, kt, tt⟩ := W.kT
      have jx : j < xt.length := by rw [tt.1, PI.tu9]; omega
      refine ⟨_, rfl, _, rfl, b, _, rfl, .inl ⟨_, kS "turned", .inl W.kb, rfl, (boxW_ta _ _ _ _ _ _ _ _).symm⟩, _, rfl, ta, xt, _, j, rfl, rfl, kt, (by rw [ej]; exact ix_n jx), ?_⟩
      have W3 := W.mutturned (tt.set j (v := .ref t) (o := some [c, s', u]) (.inr ⟨t, [c, s', u], rfl, ⟨t, rfl, ht⟩, snn, rfl⟩))
      have f3 := fri_lst (o := .lst (xt.set j (.ref t))) kt
      have ht3 := sqt_fri f3 ht
      obtain ⟨H3, e3⟩ : ∃ H3, H3 = upd H ta (.lst (xt.set j (.ref t))) := ⟨_, rfl⟩
      rw [← e3] at W3 f3 ht3
      rw [← e3]
      have jw : j < wt.length := by rw [PI.wt9]; omega
      obtain ⟨d3, _, dd3, sd3, ed3, _⟩ := W3.kH.dps
      refine ⟨_, rfl, _, rfl, stD [c, s', u], d3, dp_stamp (n := [c, s', u]) ⟨t, rfl, ht3⟩, dd3, shaped_st _, sd3, ?_⟩
      obtain ⟨bw, ebw⟩ : ∃ bw, bw = !PyData.eqv (stD [c, s', u]) d3 := ⟨_, rfl⟩
      rw [← ebw]
      refine ⟨_, rfl, b, _, rfl, .inl ⟨_, kS "waited", .inl W3.kb, rfl, (boxW_wa _ _ _ _ _ _ _ _).symm⟩, _, rfl, wa, _, _, j, rfl, rfl, W3.kW, (by rw [ej, List.length_map]; exact ix_n jw), ?_⟩
      rw [← List.map_set]
      have W4 := W3.mutwaited (wt.set j bw)
      have f4 := f3.trans (fri_lst (o := .lst ((wt.set j bw).map V.bl)) W3.kW)
      obtain ⟨H4, e4⟩ : ∃ H4, H4 = upd H3 wa (.lst ((wt.set j bw).map V.bl)) := ⟨_, rfl⟩
      rw [← e4] at W4 f4
      rw [← e4]
      have L4 : Len4 (B + 10 ^ 40) fl (tu.set j (some [c, s', u])) (wt.set j bw) := ⟨PI.fl9, flm, by rw [List.length_set]; exact PI.tu9, tu_set tum j (fun k e => by cases e; exact ⟨c, s', u, rfl, o1, by omega, o3, o4, o5, o6⟩), by rw [List.length_set]; exact PI.wt9⟩
      obtain ⟨ls, hlv, hL⟩ := W4.kL
      refine ⟨_, rfl, rfl, _, rfl, iteT' (by decide +kernel) ?_⟩
      refine ⟨_, rfl, b, _, rfl, .inl ⟨_, kS "live", .inl W4.kb, rfl, (boxW_la _ _ _ _ _ _ _ _).symm⟩, la, rfl, ⟨_, SqL.of hlv⟩, fun J hJ => ?_⟩
      refine lc_list (K := K) (a := la) (xs := ls) (fun i G => ∃ acc : List V, G J = some (.lst acc) ∧ Sts K G acc ((lv.take i).filter fun k => !decide (seatN k = s')) ∧ Same (H4) G ∧ acc.length ≤ i)
        ⟨[], upd_same, by simpa using Sts.nil, same_upd hJ, Nat.le_refl _⟩ (fun i G _ h => by obtain ⟨_, _, _, z, _⟩ := h; exact SqL.of (z _ _ hlv)) ?_ ?_
      · rintro i x G hi ⟨acc, hG, hA, sG, lA⟩
        obtain ⟨k, ek, tk, sk⟩ := hL.at hi
        obtain ⟨tx, rfl, zx⟩ := tk
        have i63 : i < 64 := by
          have := (List.getElem?_eq_some_iff.mp ek).1
          omega
        refine ⟨rfl, _, rfl, tx, _, _, _, rfl, rfl, sqt_same sG zx, seat_at sk.1, _, rfl, rfl, _, rfl, ?_⟩
        rw [dec_ii, filt_snoc ek]
        refine ite2 (fun c2 => ?_) (fun c2 => ?_)
        · rw [if_pos c2]
          have s9 : Same (H4) (upd G J (.lst (acc ++ [.ref tx]))) := fun z o e => by rw [upd_ne (ne_of_none e hJ)]; exact sG _ _ e
          have nT : ∀ {a : Addr} {zs : List V}, SqT K G a zs → SqT K (upd G J (.lst (acc ++ [.ref tx]))) a zs := fun z => sqt_chg ⟨_, hG⟩ Chg.self z
          refine ⟨_, rfl, acc, hG, Nat.lt_of_lt_of_le (show acc.length < 100 by omega) (by decide), acc ++ [.ref tx], upd_same, (hA.imp fun a zs z => nT z).app (Sts.one ⟨tx, rfl, nT (sqt_same sG zx)⟩ sk), s9, by rw [List.length_append, List.length_singleton]; omega⟩
        · rw [if_neg c2, List.append_nil]
          exact ⟨acc, hG, hA, sG, Nat.le_succ_of_le lA⟩
      rintro G ⟨acc, hG, hA, sG, lA⟩
      rw [hL.len, List.take_length] at hA
      have kG := sG _ _ W4.kb
      refine ⟨_, rfl, b, _, rfl, .inl ⟨_, kS "live", kG, rfl, box_len, rfl⟩, ?_⟩
      rw [boxW_put_la]
      have W8 := W4.newlive hJ sG hG hA
      have f8 := (f4.trans (Same.fri sG)).trans (fri_dK (o := .dK (boxW cnt J hv sn ga fa ta wa)) kG)
      obtain ⟨H8, e8⟩ : ∃ H8, H8 = upd G b (.dK (boxW cnt J hv sn ga fa ta wa)) := ⟨_, rfl⟩
      rw [← e8] at W8 f8
      rw [← e8]
      rcases W8.kH with ⟨rfl, ehd⟩ | ⟨hh, h, rfl, ⟨th, eth, zh⟩, snh, ehd⟩
      · refine ⟨_, rfl, rfl, _, rfl, iteF' rfl ?_⟩
        refine ⟨Nat.zero_le _, fun l hl => ?_⟩
        have s9 := same_upd (o := .lst []) hl
        refine q l [] [] _ _ _ _ _ _ _ _ _ _ _ _ (f8.trans (Same.fri s9)) (W8.same s9) upd_same .nil ((fun z => ⟨rfl, rfl, rfl, z⟩) ?_) (L4)
        rw [ehd]
        exact ⟨rfl, rfl, rfl⟩
      · cases eth
        refine ⟨_, rfl, rfl, _, rfl, iteT' rfl ?_⟩
        refine ⟨_, rfl, hh, _, _, _, rfl, rfl, zh, seat_at snh.1, _, rfl, rfl, _, rfl, ?_⟩
        rw [dec_ii]
        by_cases c9 : seatN h = s'
        · refine iteT' (decide_eq_true c9) ?_
          have i9 : isSeat hd (s') = true := by rw [ehd]; exact decide_eq_true c9
          refine ⟨_, rfl, b, cl, _, sn, ga, fa, ta, wa, _, cs, _, _, cnt, B + 10 ^ 40, _, _, _, _, _, rfl, W8, (fun k hk => okm k (List.mem_filter.mp hk).1), (L4).1, (L4).2.1, PI.c0, by have := PI.c1; omega, fun l zs ds H9 hv' sn' m' fl' f9 W9 kl dz R l9 fl9 => ?_⟩
          refine q l zs ds _ _ _ _ _ _ _ _ _ _ _ _ (f8.trans f9) W9 kl dz ((fun z => ⟨rfl, rfl, rfl, z⟩) ?_) ⟨l9, fl9, (L4).2.2⟩
          show if isSeat hd (s') = true then _ else _
          rw [if_pos i9]
          exact ⟨R, rfl⟩
        · refine iteF' (decide_eq_false c9) ?_
          have i9 : ¬ (isSeat hd (s') = true) := by rw [ehd]; exact fun z => c9 (of_decide_eq_true z)
          refine ⟨Nat.zero_le _, fun l hl => ?_⟩
          have s9 := same_upd (o := .lst []) hl
          refine q l [] [] _ _ _ _ _ _ _ _ _ _ _ _ (f8.trans (Same.fri s9)) (W8.same s9) upd_same .nil ((fun z => ⟨rfl, rfl, rfl, z⟩) ?_) (L4)
          show if isSeat hd (s') = true then _ else _
          rw [if_neg i9]
          exact ⟨rfl, rfl, rfl⟩
    · refine ⟨_, rfl, _, _, rfl, rfl, (by show (0 : Int) < 2; decide), rfl, _, rfl, ?_⟩
      refine ite2 (fun cB => ?_) (fun cB => ?_)
      · skip
        obtain ⟨xt, kt, tt⟩ := W.kT
        have jx : j < xt.length := by rw [tt.1, PI.tu9]; omega
        refine ⟨_, rfl, _, rfl, b, _, rfl, .inl ⟨_, kS "turned", .inl W.kb, rfl, (boxW_ta _ _ _ _ _ _ _ _).symm⟩, _, rfl, ta, xt, _, j, rfl, rfl, kt, (by rw [ej]; exact ix_n jx), ?_⟩
        have W3 := W.mutturned (tt.set j (v := .ref t) (o := some [c, s', u]) (.inr ⟨t, [c, s', u], rfl, ⟨t, rfl, ht⟩, snn, rfl⟩))
        have f3 := fri_lst (o := .lst (xt.set j (.ref t))) kt
        have ht3 := sqt_fri f3 ht
        obtain ⟨H3, e3⟩ : ∃ H3, H3 = upd H ta (.lst (xt.set j (.ref t))) := ⟨_, rfl⟩
        rw [← e3] at W3 f3 ht3
        rw [← e3]
        have jw : j < wt.length := by rw [PI.wt9]; omega
        obtain ⟨d3, _, dd3, sd3, ed3, _⟩ := W3.kH.dps
        refine ⟨_, rfl, _, rfl, stD [c, s', u], d3, dp_stamp (n := [c, s', u]) ⟨t, rfl, ht3⟩, dd3, shaped_st _, sd3, ?_⟩
        obtain ⟨bw, ebw⟩ : ∃ bw, bw = !PyData.eqv (stD [c, s', u]) d3 := ⟨_, rfl⟩
        rw [← ebw]
        refine ⟨_, rfl, b, _, rfl, .inl ⟨_, kS "waited", .inl W3.kb, rfl, (boxW_wa _ _ _ _ _ _ _ _).symm⟩, _, rfl, wa, _, _, j, rfl, rfl, W3.kW, (by rw [ej, List.length_map]; exact ix_n jw), ?_⟩
        rw [← List.map_set]
        have W4 := W3.mutwaited (wt.set j bw)
        have f4 := f3.trans (fri_lst (o := .lst ((wt.set j bw).map V.bl)) W3.kW)
        obtain ⟨H4, e4⟩ : ∃ H4, H4 = upd H3 wa (.lst ((wt.set j bw).map V.bl)) := ⟨_, rfl⟩
        rw [← e4] at W4 f4
        rw [← e4]
        have L4 : Len4 (B + 10 ^ 40) fl (tu.set j (some [c, s', u])) (wt.set j bw) := ⟨PI.fl9, flm, by rw [List.length_set]; exact PI.tu9, tu_set tum j (fun k e => by cases e; exact ⟨c, s', u, rfl, o1, by omega, o3, o4, o5, o6⟩), by rw [List.length_set]; exact PI.wt9⟩
        obtain ⟨ls, hlv, hL⟩ := W4.kL
        refine ⟨_, rfl, rfl, _, rfl, iteT' (by decide +kernel) ?_⟩
        refine ⟨_, rfl, b, _, rfl, .inl ⟨_, kS "live", .inl W4.kb, rfl, (boxW_la _ _ _ _ _ _ _ _).symm⟩, la, rfl, ⟨_, SqL.of hlv⟩, fun J hJ => ?_⟩
        refine lc_list (K := K) (a := la) (xs := ls) (fun i G => ∃ acc : List V, G J = some (.lst acc) ∧ Sts K G acc ((lv.take i).filter fun k => !decide (seatN k = s')) ∧ Same (H4) G ∧ acc.length ≤ i)
          ⟨[], upd_same, by simpa using Sts.nil, same_upd hJ, Nat.le_refl _⟩ (fun i G _ h => by obtain ⟨_, _, _, z, _⟩ := h; exact SqL.of (z _ _ hlv)) ?_ ?_
        · rintro i x G hi ⟨acc, hG, hA, sG, lA⟩
          obtain ⟨k, ek, tk, sk⟩ := hL.at hi
          obtain ⟨tx, rfl, zx⟩ := tk
          have i63 : i < 64 := by
            have := (List.getElem?_eq_some_iff.mp ek).1
            omega
          refine ⟨rfl, _, rfl, tx, _, _, _, rfl, rfl, sqt_same sG zx, seat_at sk.1, _, rfl, rfl, _, rfl, ?_⟩
          rw [dec_ii, filt_snoc ek]
          refine ite2 (fun c2 => ?_) (fun c2 => ?_)
          · rw [if_pos c2]
            have s9 : Same (H4) (upd G J (.lst (acc ++ [.ref tx]))) := fun z o e => by rw [upd_ne (ne_of_none e hJ)]; exact sG _ _ e
            have nT : ∀ {a : Addr} {zs : List V}, SqT K G a zs → SqT K (upd G J (.lst (acc ++ [.ref tx]))) a zs := fun z => sqt_chg ⟨_, hG⟩ Chg.self z
            refine ⟨_, rfl, acc, hG, Nat.lt_of_lt_of_le (show acc.length < 100 by omega) (by decide), acc ++ [.ref tx], upd_same, (hA.imp fun a zs z => nT z).app (Sts.one ⟨tx, rfl, nT (sqt_same sG zx)⟩ sk), s9, by rw [List.length_append, List.length_singleton]; omega⟩
          · rw [if_neg c2, List.append_nil]
            exact ⟨acc, hG, hA, sG, Nat.le_succ_of_le lA⟩
        rintro G ⟨acc, hG, hA, sG, lA⟩
        rw [hL.len, List.take_length] at hA
        have kG := sG _ _ W4.kb
        refine ⟨_, rfl, b, _, rfl, .inl ⟨_, kS "live", kG, rfl, box_len, rfl⟩, ?_⟩
        rw [boxW_put_la]
        have W8 := W4.newlive hJ sG hG hA
        have f8 := (f4.trans (Same.fri sG)).trans (fri_dK (o := .dK (boxW cnt J hv sn ga fa ta wa)) kG)
        obtain ⟨H8, e8⟩ : ∃ H8, H8 = upd G b (.dK (boxW cnt J hv sn ga fa ta wa)) := ⟨_, rfl⟩
        rw [← e8] at W8 f8
        rw [← e8]
        rcases W8.kH with ⟨rfl, ehd⟩ | ⟨hh, h, rfl, ⟨th, eth, zh⟩, snh, ehd⟩
        · refine ⟨_, rfl, rfl, _, rfl, iteF' rfl ?_⟩
          refine ⟨Nat.zero_le _, fun l hl => ?_⟩
          have s9 := same_upd (o := .lst []) hl
          refine q l [] [] _ _ _ _ _ _ _ _ _ _ _ _ (f8.trans (Same.fri s9)) (W8.same s9) upd_same .nil ((fun z => ⟨rfl, rfl, rfl, z⟩) ?_) (L4)
          rw [ehd]
          exact ⟨rfl, rfl, rfl⟩
        · cases eth
          refine ⟨_, rfl, rfl, _, rfl, iteT' rfl ?_⟩
          refine ⟨_, rfl, hh, _, _, _, rfl, rfl, zh, seat_at snh.1, _, rfl, rfl, _, rfl, ?_⟩
          rw [dec_ii]
          by_cases c9 : seatN h = s'
          · refine iteT' (decide_eq_true c9) ?_
            have i9 : isSeat hd (s') = true := by rw [ehd]; exact decide_eq_true c9
            refine ⟨_, rfl, b, cl, _, sn, ga, fa, ta, wa, _, cs, _, _, cnt, B + 10 ^ 40, _, _, _, _, _, rfl, W8, (fun k hk => okm k (List.mem_filter.mp hk).1), (L4).1, (L4).2.1, PI.c0, by have := PI.c1; omega, fun l zs ds H9 hv' sn' m' fl' f9 W9 kl dz R l9 fl9 => ?_⟩
            refine q l zs ds _ _ _ _ _ _ _ _ _ _ _ _ (f8.trans f9) W9 kl dz ((fun z => ⟨rfl, rfl, rfl, z⟩) ?_) ⟨l9, fl9, (L4).2.2⟩
            show if isSeat hd (s') = true then _ else _
            rw [if_pos i9]
            exact ⟨R, rfl⟩
          · refine iteF' (decide_eq_false c9) ?_
            have i9 : ¬ (isSeat hd (s') = true) := by rw [ehd]; exact fun z => c9 (of_decide_eq_true z)
            refine ⟨Nat.zero_le _, fun l hl => ?_⟩
            have s9 := same_upd (o := .lst []) hl
            refine q l [] [] _ _ _ _ _ _ _ _ _ _ _ _ (f8.trans (Same.fri s9)) (W8.same s9) upd_same .nil ((fun z => ⟨rfl, rfl, rfl, z⟩) ?_) (L4)
            show if isSeat hd (s') = true then _ else _
            rw [if_neg i9]
            exact ⟨rfl, rfl, rfl⟩
      · refine ⟨_, rfl, rfl, _, rfl, iteT' (by decide +kernel) ?_⟩
        refine ⟨_, rfl, b, _, rfl, .inl ⟨_, kS "live", .inl W.kb, rfl, (boxW_la _ _ _ _ _ _ _ _).symm⟩, la, rfl, ⟨_, SqL.of hlv⟩, fun J hJ => ?_⟩
        refine lc_list (K := K) (a := la) (xs := ls) (fun i G => ∃ acc : List V, G J = some (.lst acc) ∧ Sts K G acc ((lv.take i).filter fun k => !decide (seatN k = s')) ∧ Same (H) G ∧ acc.length ≤ i)
          ⟨[], upd_same, by simpa using Sts.nil, same_upd hJ, Nat.le_refl _⟩ (fun i G _ h => by obtain ⟨_, _, _, z, _⟩ := h; exact SqL.of (z _ _ hlv)) ?_ ?_
        · rintro i x G hi ⟨acc, hG, hA, sG, lA⟩
          obtain ⟨k, ek, tk, sk⟩ := hL.at hi
          obtain ⟨tx, rfl, zx⟩ := tk
          have i63 : i < 64 := by
            have := (List.getElem?_eq_some_iff.mp ek).1
            omega
          refine ⟨rfl, _, rfl, tx, _, _, _, rfl, rfl, sqt_same sG zx, seat_at sk.1, _, rfl, rfl, _, rfl, ?_⟩
          rw [dec_ii, filt_snoc ek]
          refine ite2 (fun c2 => ?_) (fun c2 => ?_)
          · rw [if_pos c2]
            have s9 : Same (H) (upd G J (.lst (acc ++ [.ref tx]))) := fun z o e => by rw [upd_ne (ne_of_none e hJ)]; exact sG _ _ e
            have nT : ∀ {a : Addr} {zs : List V}, SqT K G a zs → SqT K (upd G J (.lst (acc ++ [.ref tx]))) a zs := fun z => sqt_chg ⟨_, hG⟩ Chg.self z
            refine ⟨_, rfl, acc, hG, Nat.lt_of_lt_of_le (show acc.length < 100 by omega) (by decide), acc ++ [.ref tx], upd_same, (hA.imp fun a zs z => nT z).app (Sts.one ⟨tx, rfl, nT (sqt_same sG zx)⟩ sk), s9, by rw [List.length_append, List.length_singleton]; omega⟩
          · rw [if_neg c2, List.append_nil]
            exact ⟨acc, hG, hA, sG, Nat.le_succ_of_le lA⟩
        rintro G ⟨acc, hG, hA, sG, lA⟩
        rw [hL.len, List.take_length] at hA
        have kG := sG _ _ W.kb
        refine ⟨_, rfl, b, _, rfl, .inl ⟨_, kS "live", kG, rfl, box_len, rfl⟩, ?_⟩
        rw [boxW_put_la]
        have W8 := W.newlive hJ sG hG hA
        have f8 := ((Same.fri (Same.refl H)).trans (Same.fri sG)).trans (fri_dK (o := .dK (boxW cnt J hv sn ga fa ta wa)) kG)
        obtain ⟨H8, e8⟩ : ∃ H8, H8 = upd G b (.dK (boxW cnt J hv sn ga fa ta wa)) := ⟨_, rfl⟩
        rw [← e8] at W8 f8
        rw [← e8]
        rcases W8.kH with ⟨rfl, ehd⟩ | ⟨hh, h, rfl, ⟨th, eth, zh⟩, snh, ehd⟩
        · refine ⟨_, rfl, rfl, _, rfl, iteF' rfl ?_⟩
          refine ⟨Nat.zero_le _, fun l hl => ?_⟩
          have s9 := same_upd (o := .lst []) hl
          refine q l [] [] _ _ _ _ _ _ _ _ _ _ _ _ (f8.trans (Same.fri s9)) (W8.same s9) upd_same .nil ((fun z => ⟨rfl, rfl, rfl, z⟩) ?_) (L4)
          rw [ehd]
          exact ⟨rfl, rfl, rfl⟩
        · cases eth
          refine ⟨_, rfl, rfl, _, rfl, iteT' rfl ?_⟩
          refine ⟨_, rfl, hh, _, _, _, rfl, rfl, zh, seat_at snh.1, _, rfl, rfl, _, rfl, ?_⟩
          rw [dec_ii]
          by_cases c9 : seatN h = s'
          · refine iteT' (decide_eq_true c9) ?_
            have i9 : isSeat hd (s') = true := by rw [ehd]; exact decide_eq_true c9
            refine ⟨_, rfl, b, cl, _, sn, ga, fa, ta, wa, _, cs, _, _, cnt, B + 10 ^ 40, _, _, _, _, _, rfl, W8, (fun k hk => okm k (List.mem_filter.mp hk).1), (L4).1, (L4).2.1, PI.c0, by have := PI.c1; omega, fun l zs ds H9 hv' sn' m' fl' f9 W9 kl dz R l9 fl9 => ?_⟩
            refine q l zs ds _ _ _ _ _ _ _ _ _ _ _ _ (f8.trans f9) W9 kl dz ((fun z => ⟨rfl, rfl, rfl, z⟩) ?_) ⟨l9, fl9, (L4).2.2⟩
            show if isSeat hd (s') = true then _ else _
            rw [if_pos i9]
            exact ⟨R, rfl⟩
          · refine iteF' (decide_eq_false c9) ?_
            have i9 : ¬ (isSeat hd (s') = true) := by rw [ehd]; exact fun z => c9 (of_decide_eq_true z)
            refine ⟨Nat.zero_le _, fun l hl => ?_⟩
            have s9 := same_upd (o := .lst []) hl
            refine q l [] [] _ _ _ _ _ _ _ _ _ _ _ _ (f8.trans (Same.fri s9)) (W8.same s9) upd_same .nil ((fun z => ⟨rfl, rfl, rfl, z⟩) ?_) (L4)
            show if isSeat hd (s') = true then _ else _
            rw [if_neg i9]
            exact ⟨rfl, rfl, rfl⟩
  | gon v =>
    replace hz : z = "gone" := hz
    have ok : v = seat := ok
    subst ok
    subst hz
    have ht : SqT K H t [.int 0, .int v, .int 0] := ht
    refine ⟨_, rfl, t, _, _, _, rfl, rfl, ht, atI_nat (j := 1) rfl, ?_⟩
    refine ⟨_, rfl, rfl, _, rfl, iteF' (by decide +kernel) ?_⟩
    refine ⟨_, rfl, rfl, _, rfl, iteT' (by decide +kernel) ?_⟩
    refine ⟨_, rfl, b, _, rfl, .inl ⟨_, kS "gone", .inl W.kb, rfl, (boxW_ga _ _ _ _ _ _ _ _).symm⟩, .inl ⟨rfl, _, SqL.of W.kG⟩, _, rfl, ga, _, _, rfl, rfl, W.kG, by rw [List.length_map]; exact Nat.lt_of_lt_of_le (show gn.length < 100 by omega) (by decide), ?_⟩
    rw [show gn.map V.int ++ [V.int v] = (gn ++ [v]).map V.int by rw [List.map_append]; rfl]
    have W1 := W.mutgone (gn ++ [v])
    have f1 := fri_lst (o := .lst ((gn ++ [v]).map V.int)) W.kG
    obtain ⟨H1, e1⟩ : ∃ H1, H1 = upd H ga (.lst ((gn ++ [v]).map V.int)) := ⟨_, rfl⟩
    rw [← e1] at W1 f1
    rw [← e1]
    obtain ⟨ls, hlv, hL⟩ := W1.kL
    refine ⟨_, rfl, rfl, _, rfl, iteF' (by decide +kernel) ?_⟩
    refine ⟨_, rfl, rfl, _, rfl, iteT' (by decide +kernel) ?_⟩
    refine ⟨_, rfl, b, _, rfl, .inl ⟨_, kS "live", .inl W1.kb, rfl, (boxW_la _ _ _ _ _ _ _ _).symm⟩, la, rfl, ⟨_, SqL.of hlv⟩, fun J hJ => ?_⟩
    refine lc_list (K := K) (a := la) (xs := ls) (fun i G => ∃ acc : List V, G J = some (.lst acc) ∧ Sts K G acc ((lv.take i).filter fun k => !decide (seatN k = v)) ∧ Same (H1) G ∧ acc.length ≤ i)
      ⟨[], upd_same, by simpa using Sts.nil, same_upd hJ, Nat.le_refl _⟩ (fun i G _ h => by obtain ⟨_, _, _, z, _⟩ := h; exact SqL.of (z _ _ hlv)) ?_ ?_
    · rintro i x G hi ⟨acc, hG, hA, sG, lA⟩
      obtain ⟨k, ek, tk, sk⟩ := hL.at hi
      obtain ⟨tx, rfl, zx⟩ := tk
      have i63 : i < 64 := by
        have := (List.getElem?_eq_some_iff.mp ek).1
        omega
      refine ⟨rfl, _, rfl, tx, _, _, _, rfl, rfl, sqt_same sG zx, seat_at sk.1, _, rfl, rfl, _, rfl, ?_⟩
      rw [dec_ii, filt_snoc ek]
      refine ite2 (fun c2 => ?_) (fun c2 => ?_)
      · rw [if_pos c2]
        have s9 : Same (H1) (upd G J (.lst (acc ++ [.ref tx]))) := fun z o e => by rw [upd_ne (ne_of_none e hJ)]; exact sG _ _ e
        have nT : ∀ {a : Addr} {zs : List V}, SqT K G a zs → SqT K (upd G J (.lst (acc ++ [.ref tx]))) a zs := fun z => sqt_chg ⟨_, hG⟩ Chg.self z
        refine ⟨_, rfl, acc, hG, Nat.lt_of_lt_of_le (show acc.length < 100 by omega) (by decide), acc ++ [.ref tx], upd_same, (hA.imp fun a zs z => nT z).app (Sts.one ⟨tx, rfl, nT (sqt_same sG zx)⟩ sk), s9, by rw [List.length_append, List.length_singleton]; omega⟩
      · rw [if_neg c2, List.append_nil]
        exact ⟨acc, hG, hA, sG, Nat.le_succ_of_le lA⟩
    rintro G ⟨acc, hG, hA, sG, lA⟩
    rw [hL.len, List.take_length] at hA
    have kG := sG _ _ W1.kb
    refine ⟨_, rfl, b, _, rfl, .inl ⟨_, kS "live", kG, rfl, box_len, rfl⟩, ?_⟩
    rw [boxW_put_la]
    have W8 := W1.newlive hJ sG hG hA
    have f8 := (f1.trans (Same.fri sG)).trans (fri_dK (o := .dK (boxW cnt J hv sn ga fa ta wa)) kG)
    obtain ⟨H8, e8⟩ : ∃ H8, H8 = upd G b (.dK (boxW cnt J hv sn ga fa ta wa)) := ⟨_, rfl⟩
    rw [← e8] at W8 f8
    rw [← e8]
    rcases W8.kH with ⟨rfl, ehd⟩ | ⟨hh, h, rfl, ⟨th, eth, zh⟩, snh, ehd⟩
    · refine ⟨_, rfl, rfl, _, rfl, iteF' rfl ?_⟩
      refine ⟨Nat.zero_le _, fun l hl => ?_⟩
      have s9 := same_upd (o := .lst []) hl
      refine q l [] [] _ _ _ _ _ _ _ _ _ _ _ _ (f8.trans (Same.fri s9)) (W8.same s9) upd_same .nil ((fun z => ⟨rfl, rfl, rfl, z⟩) ?_) (L4)
      rw [ehd]
      exact ⟨rfl, rfl, rfl⟩
    · cases eth
      refine ⟨_, rfl, rfl, _, rfl, iteT' rfl ?_⟩
      refine ⟨_, rfl, hh, _, _, _, rfl, rfl, zh, seat_at snh.1, _, rfl, rfl, _, rfl, ?_⟩
      rw [dec_ii]
      by_cases c9 : seatN h = v
      · refine iteT' (decide_eq_true c9) ?_
        have i9 : isSeat hd (v) = true := by rw [ehd]; exact decide_eq_true c9
        refine ⟨_, rfl, b, cl, _, sn, ga, fa, ta, wa, _, cs, _, _, cnt, B + 10 ^ 40, _, _, _, _, _, rfl, W8, (fun k hk => okm k (List.mem_filter.mp hk).1), (L4).1, (L4).2.1, PI.c0, by have := PI.c1; omega, fun l zs ds H9 hv' sn' m' fl' f9 W9 kl dz R l9 fl9 => ?_⟩
        refine q l zs ds _ _ _ _ _ _ _ _ _ _ _ _ (f8.trans f9) W9 kl dz ((fun z => ⟨rfl, rfl, rfl, z⟩) ?_) ⟨l9, fl9, (L4).2.2⟩
        show if isSeat hd (v) = true then _ else _
        rw [if_pos i9]
        exact ⟨R, rfl⟩
      · refine iteF' (decide_eq_false c9) ?_
        have i9 : ¬ (isSeat hd (v) = true) := by rw [ehd]; exact fun z => c9 (of_decide_eq_true z)
        refine ⟨Nat.zero_le _, fun l hl => ?_⟩
        have s9 := same_upd (o := .lst []) hl
        refine q l [] [] _ _ _ _ _ _ _ _ _ _ _ _ (f8.trans (Same.fri s9)) (W8.same s9) upd_same .nil ((fun z => ⟨rfl, rfl, rfl, z⟩) ?_) (L4)
        show if isSeat hd (v) = true then _ else _
        rw [if_neg i9]
        exact ⟨rfl, rfl, rfl⟩
end

end G0
namespace G0
open PySem PySem.Spec PyProof.Rows L2 NdefX ClX
section
variable {P : Program} {w : World} {K : PySem.W.Frag} {mg : Str → Option Value} {base : Heap} {C CK f : Addr} {fd : FuncData}
/-! ### Seat.__init__, of an object of a class under it -/
def seatG (m : Int) : List (Str × V) := [("me", .int m), ("state", .str "out"), ("sits", .bl false)]
theorem seatG_made (m : Int) : putF "sits" (.bl false) (putF "state" (.str "out") (putF "me" (.int m) [])) = seatG m := by
  simp only [putF, seatG, n_voF_me_stt, n_voF_me_sits, n_voF_stt_sits, if_false, if_true]
def spSeat0 (C : Addr) : Sp := fun vs H Q _ => ∃ (p dx : Addr) (m : Int), vs = [.ref p, .int m] ∧ H p = some (.ins C dx []) ∧ Q .non (upd H p (.ins C dx (seatG m)))
theorem sc_Seat__init : FnScope ["self", "me"] ["self", "me"] (defScope s_Seat__init) :=
  ⟨rfl, rfl, rfl, by decide +kernel, rfl, by decide +kernel, by decide +kernel⟩
theorem ok_seat0 {f : Addr} {fd : FuncData} (F : Fun K "__init__" "Seat.__init__" s_Seat__init f fd) (c : Cls K C) (n1 : NoAttr K C "me") (n2 : NoAttr K C "state") (n3 : NoAttr K C "sits") : FnOk P w K mg base CX0 1 f fd ["self", "me"] (spSeat0 C) := by
  refine F.ok sc_Seat__init (fun vs H Q E h => ?_) (fun cdv A outer s H vs Q E hr h => ?_)
  · obtain ⟨p, dx, m, rfl, _⟩ := h
    rfl
  obtain ⟨p, dx, m, rfl, hp, q⟩ := h
  refine ⟨_, (pss_cons (ps_fld (pv 0) (pv 1) rfl)
    (pss_cons (ps_fld (pv 0) pe_str rfl)
    (pss_one (ps_fld (pv 0) pe_bl rfl)))), ?_⟩
  refine ⟨_, rfl, _, rfl, p, C, dx, _, rfl, hp, c, n1, (by show 0 < 1000; decide), ?_⟩
  refine ⟨_, rfl, p, C, dx, _, rfl, upd_same, c, n2, (by show 1 < 1000; decide), ?_⟩
  refine ⟨_, rfl, p, C, dx, _, rfl, upd_same, c, n3, (by show 2 < 1000; decide), ?_⟩
  rw [upd_upd, upd_upd, seatG_made]
  exact q
theorem fnR_of {k : Nat} {f : Addr} {fd : FuncData} {ps : List Str} {sp : Sp} (F : FnOk P w K mg base CX0 k f fd ps sp) (b : Binds K fd ps []) : FnR P w K mg base CX0 k f sp :=
  fun A outer s H us vs Q E hr e0 r h => by
    have hl : (us ++ []).length = ps.length := by rw [List.append_nil, ← r.length]; exact F.len _ _ _ _ h
    have KX : K.In s.heap := e0.mod.kin.keeps fun b o z => (e0.bs b o z).1
    have bt := b s us KX hl
    rw [List.append_nil] at bt
    exact F.run A outer s H ⟨us, []⟩ us vs Q E hr e0 bt r h
end
section
variable {P : Program} {w : World} {K : PySem.W.Frag} {mg : Str → Option Value} {base : Heap} {C CD : Addr}
/-! ### made -/
def spVInit4 (K : PySem.W.Frag) (C CD : Addr) : Sp := fun vs H Q _ => ∃ (p dx sl : Addr) (m cn a : Int) (xs0 : List V), vs = [.ref p, .int m, .ref sl, .int a, .int cn] ∧ H p = some (.ins C dx []) ∧ H sl = some (.lst xs0) ∧
  ∀ (y dy : Addr) H', Chg p H H' → VoX K C CD p dx y dy H' m cn a [] false [] none → Q .non H'
theorem voF_end (m cn fs : Int) (h k d sa se : Addr) : putF "_set" (.ref se) (putF "_first" (.int fs) (putF "_sets" (.ref sa) (putF "desk" (.ref d) (putF "known" (.ref k) (putF "hand" (.ref h) (putF "stamp" .non (putF "count" (.int cn) (seatG m)))))))) = voF m "out" false cn .non h k d sa fs se :=
  voF_made m "out" false cn .non h k d sa fs se
/-- one more thing laid, one more field -/
theorem step_fld {H G : Hp} {p dx e : Addr} {o : HO} {fs : List (Str × V)} (c : Chg p H G) (hp : G p = some (.ins C dx fs)) (he : G e = none) (x : Str) (v : V) :
    ∃ G', G' = upd (upd G e o) p (.ins C dx (putF x v fs)) ∧ Chg p H G' ∧ G' p = some (.ins C dx (putF x v fs)) ∧ G' e = some o ∧ e ≠ p ∧ H e = none := by
  have ep : e ≠ p := (ne_of_none hp he).symm
  exact ⟨_, rfl, (c.trans (Chg.same (same_upd he))).trans Chg.self, upd_same, (upd_ne ep).trans upd_same, ep, c.back he ep⟩
theorem ok_vinit4 {f cc cda D f2 fK : Addr} {fdK : FuncData} {dV kV doc pm ct oc cl : Value} {v : Option Value} {an od cld : Option Addr} {osl csl : Array (Option Value)} (T : BlD mg)
    (lk : K.lookup f = some ⟨oc, od, .func (PySem.W.ksFn "__init__" "Voter.__init__" (defArgs s_Voter__init) (defBody s_Voter__init) (defScope s_Voter__init) dV kV doc pm an (.ref cda) ct cc), osl⟩)
    (coded : PySem.W.codeIn K (.ref cda) "Voter.__init__" = true) (lc : K.lookup cc = some ⟨cl, cld, .cell v, csl⟩)
    (F : SupF P K ["self", "me", "sets", "first", "count", "__class__"] f cc cda D (PySem.W.ksFn "__init__" "Voter.__init__" (defArgs s_Voter__init) (defBody s_Voter__init) (defScope s_Voter__init) dV kV doc pm an (.ref cda) ct cc) (defArgs s_Voter__init) (defScope s_Voter__init))
    (F2 : FnR P w K mg base CX0 1 f2 (spSeat0 C)) (VT : VoT K C) (mro : PySem.W.mroIn K C (.ref D) = some true) (su : PySem.W.ks_superIn K C D "__init__" = some (some (.ref f2))) (ty : PySem.W.typeIn K (.ref f2) = some (.type "function")) (fi : PySem.W.fnIn K f2 = true)
    (KKm : Mk K CD fK) (GK : FnOk P w K mg base CX0 1 fK fdK ["self"] (spDInit CD)) (bK : Binds K fdK ["self"] []) (gD : mg "Desk" = some (.ref CD)) :
    FnOk P w K mg base CX0 3 f (PySem.W.ksFn "__init__" "Voter.__init__" (defArgs s_Voter__init) (defBody s_Voter__init) (defScope s_Voter__init) dV kV doc pm an (.ref cda) ct cc) ["self", "me", "sets", "first", "count"] (spVInit4 K C CD) := by
  have NS : NScope ["self", "me", "sets", "first", "count", "__class__"] ["self", "me", "sets", "first", "count"] ["__class__"] (defScope s_Voter__init) := nscope_by (by decide +kernel)
  refine fnS_of lk coded lc NS ?_ fun A outer s H vs Q E hr h => ?_
  · rintro vs H Q E ⟨p, dx, sl, m, cn, fv, xs0, rfl, _⟩
    rfl
  obtain ⟨p, dx, sl, m, cn, a, xs0, rfl, hp, hsl, q⟩ := h
  refine ⟨_, _, p1_supM F F2 (hr.mono (by decide)) (pa_cons (pv 1 (by rfl) (.inl (NS.par _ (by simp)))) pa_nil), (pss_cons (ps_fld (pv 0) (pv 4) rfl)
    (pss_cons (ps_fld (pv 0) pe_non rfl)
    (pss_cons (ps_fld (pv 0) (pe_tup pa_nil) rfl)
    (pss_cons (ps_fld (pv 0) (pe_tup pa_nil) rfl)
    (pss_cons (ps_fld (pv 0) (pe_make0 KKm GK hr (by rfl) gD bK .nil pass0) rfl)
    (pss_cons (ps_fld (pv 0) (pe_callTy call_list_of (by rfl) T.list (by decide +kernel) (pa_cons (pv 2) pa_nil)) rfl)
    (pss_cons (ps_fld (pv 0) (pe_ifExp (pt_cmpR op_isN (pv 3) pe_non (nomark _)) (pv 1) (pv 3)) rfl)
    (pss_one (ps_fld (pv 0) (pe_tup pa_nil) rfl))))))))), ?_⟩
  refine ⟨p, C, dx, [], rfl, hp, mro, su, ty, fi, _, rfl, p, dx, m, rfl, hp, ?_⟩
  refine ⟨_, rfl, _, rfl, p, C, dx, _, rfl, upd_same, VT.cl, VT.count, (by show 3 < 1000; decide), ?_⟩
  rw [upd_upd]
  refine ⟨_, rfl, p, C, dx, _, rfl, upd_same, VT.cl, VT.stamp, (by show 4 < 1000; decide), ?_⟩
  rw [upd_upd]
  obtain ⟨H1, e1⟩ : ∃ H1, H1 = upd H p (.ins C dx (putF "stamp" .non (putF "count" (.int cn) (seatG m)))) := ⟨_, rfl⟩
  have c1 : Chg p H H1 := by rw [e1]; exact Chg.self
  have k1 : H1 p = some (.ins C dx (putF "stamp" .non (putF "count" (.int cn) (seatG m)))) := by rw [e1]; exact upd_same
  rw [← e1]
  clear e1
  refine ⟨Nat.zero_le _, fun h1 hh1 => ?_⟩
  obtain ⟨H2, e2, c2, k2, h2, hp2, hn2⟩ := step_fld (o := .tup []) c1 k1 hh1 "hand" (.ref h1)
  refine ⟨_, rfl, p, C, dx, _, rfl, (upd_ne hp2.symm).trans k1, VT.cl, VT.hand, (by show 5 < 1000; decide), ?_⟩
  rw [← e2]
  clear e2
  refine ⟨Nat.zero_le _, fun h3 hh3 => ?_⟩
  obtain ⟨H3, e3, c3, k3, h3', hp3, hn3⟩ := step_fld (o := .tup []) c2 k2 hh3 "known" (.ref h3)
  refine ⟨_, rfl, p, C, dx, _, rfl, (upd_ne hp3.symm).trans k2, VT.cl, VT.known, (by show 6 < 1000; decide), ?_⟩
  have h13 : H3 h1 = some (.tup []) := by rw [e3, upd_ne hp2, upd_ne (ne_of_none h2 hh3)]; exact h2
  rw [← e3]
  clear e3
  refine fun y dy hy hdy ne => ⟨y, dy, rfl, upd_same, fun qa H4 hq4 h4 hp4 c4 => ⟨rfl, ?_⟩⟩
  have sy : Same H3 (upd (upd H3 dy (.own y)) y (.ins CD dy [])) := (same_upd hdy).trans (same_upd (by rw [upd_ne ne.symm]; exact hy))
  have s4 : Same H3 H4 := fun b o e => c4 _ _ (ne_of_none e hy) (sy _ _ e)
  have k4 := s4 _ _ k3
  have yp : y ≠ p := (ne_of_none k3 hy).symm
  have qp : qa ≠ p := fun z => by rw [z, k4] at h4; cases h4
  refine ⟨_, rfl, p, C, dx, _, rfl, k4, VT.cl, VT.desk, (by show 7 < 1000; decide), ?_⟩
  obtain ⟨H5, e5⟩ : ∃ H5, H5 = upd H4 p (.ins C dx (putF "desk" (.ref y) (putF "known" (.ref h3) (putF "hand" (.ref h1) (putF "stamp" .non (putF "count" (.int cn) (seatG m))))))) := ⟨_, rfl⟩
  have c5 : Chg p H H5 := by rw [e5]; exact (c3.trans (Chg.same s4)).trans Chg.self
  have k5 : H5 p = some (.ins C dx (putF "desk" (.ref y) (putF "known" (.ref h3) (putF "hand" (.ref h1) (putF "stamp" .non (putF "count" (.int cn) (seatG m))))))) := by rw [e5]; exact upd_same
  have y5 : H5 y = some (.ins CD dy (deskF .non (.ref qa) false)) := by rw [e5, upd_ne yp]; exact hp4
  have q5 : H5 qa = some (.tup []) := by rw [e5, upd_ne qp]; exact h4
  have h15 : H5 h1 = some (.tup []) := by rw [e5, upd_ne hp2]; exact s4 _ _ h13
  have h35 : H5 h3 = some (.tup []) := by rw [e5, upd_ne hp3]; exact s4 _ _ h3'
  rw [← e5]
  clear e5
  have slp : sl ≠ p := ne_of hsl hp (by intro z; cases z)
  have ksl := c5 _ _ slp hsl
  refine ⟨_, rfl, sl, _, rfl, .inl (SqL.of ksl), fun sa hsa => ?_⟩
  obtain ⟨H6, e6, c6, k6, h6, hp6, hn6⟩ := step_fld (o := .lst (xs0)) c5 k5 hsa "_sets" (.ref sa)
  refine ⟨_, rfl, p, C, dx, _, rfl, (upd_ne hp6.symm).trans k5, VT.cl, VT.sets, (by show 8 < 1000; decide), ?_⟩
  have y6 : H6 y = some (.ins CD dy (deskF .non (.ref qa) false)) := by rw [e6, upd_ne yp, upd_ne (ne_of_none y5 hsa)]; exact y5
  have q6 : H6 qa = some (.tup []) := by rw [e6, upd_ne qp, upd_ne (ne_of_none q5 hsa)]; exact q5
  have h16 : H6 h1 = some (.tup []) := by rw [e6, upd_ne hp2, upd_ne (ne_of_none h15 hsa)]; exact h15
  have h36 : H6 h3 = some (.tup []) := by rw [e6, upd_ne hp3, upd_ne (ne_of_none h35 hsa)]; exact h35
  rw [← e6]
  clear e6
  refine ⟨_, rfl, rfl, _, rfl, iteF' rfl ?_⟩
  refine ⟨_, rfl, ?_⟩
  refine ⟨_, rfl, p, C, dx, _, rfl, k6, VT.cl, VT.first, (by show 9 < 1000; decide), ?_⟩
  obtain ⟨H7, e7⟩ : ∃ H7, H7 = upd H6 p (.ins C dx (putF "_first" (.int (a)) (putF "_sets" (.ref sa) (putF "desk" (.ref y) (putF "known" (.ref h3) (putF "hand" (.ref h1) (putF "stamp" .non (putF "count" (.int cn) (seatG m))))))))) := ⟨_, rfl⟩
  have c7 : Chg p H H7 := by rw [e7]; exact c6.trans Chg.self
  have k7 : H7 p = some (.ins C dx (putF "_first" (.int (a)) (putF "_sets" (.ref sa) (putF "desk" (.ref y) (putF "known" (.ref h3) (putF "hand" (.ref h1) (putF "stamp" .non (putF "count" (.int cn) (seatG m))))))))) := by rw [e7]; exact upd_same
  have y7 : H7 y = some (.ins CD dy (deskF .non (.ref qa) false)) := by rw [e7, upd_ne yp]; exact y6
  have q7 : H7 qa = some (.tup []) := by rw [e7, upd_ne qp]; exact q6
  have h17 : H7 h1 = some (.tup []) := by rw [e7, upd_ne hp2]; exact h16
  have h37 : H7 h3 = some (.tup []) := by rw [e7, upd_ne hp3]; exact h36
  have h67 : H7 sa = some (.lst (xs0)) := by rw [e7, upd_ne hp6]; exact h6
  rw [← e7]
  clear e7
  refine ⟨Nat.zero_le _, fun h8 hh8 => ?_⟩
  obtain ⟨H8, e8, c8, k8, h8', hp8, hn8⟩ := step_fld (o := .tup []) c7 k7 hh8 "_set" (.ref h8)
  refine ⟨_, rfl, p, C, dx, _, rfl, (upd_ne hp8.symm).trans k7, VT.cl, VT.set, (by show 10 < 1000; decide), ?_⟩
  rw [← e8]
  have y8 : H8 y = some (.ins CD dy (deskF .non (.ref qa) false)) := by rw [e8, upd_ne yp, upd_ne (ne_of_none y7 hh8)]; exact y7
  have q8 : H8 qa = some (.tup []) := by rw [e8, upd_ne qp, upd_ne (ne_of_none q7 hh8)]; exact q7
  have h18 : H8 h1 = some (.tup []) := by rw [e8, upd_ne hp2, upd_ne (ne_of_none h17 hh8)]; exact h17
  have h38 : H8 h3 = some (.tup []) := by rw [e8, upd_ne hp3, upd_ne (ne_of_none h37 hh8)]; exact h37
  have h68 : H8 sa = some (.lst (xs0)) := by rw [e8, upd_ne hp6, upd_ne (ne_of_none h67 hh8)]; exact h67
  rw [voF_end] at k8
  exact q y dy H8 c8 ⟨.non, h1, h3, sa, h8, qa, [], ⟨k8, SqT.of h18, SqT.of h38, y8, SqT.of q8, .nil, .inl ⟨rfl, rfl, rfl⟩, yp.symm⟩⟩
end

end G0
namespace G0
open PySem PySem.Spec PyProof.Rows L2
section
variable {P : Program} {w : World} {K : PySem.W.Frag} {mg : Str → Option Value} {base : Heap} {C : Addr}
def spCell (K : PySem.W.Frag) : Sp := fun vs H Q _ => ∃ (a : Addr) (ns : List Int) (k : Int), vs = [.ref a, .int k] ∧ SqL K H a (ns.map V.int) ∧ 0 ≤ k ∧ (∀ z ∈ ns, Builtin.Int.intBits z ≤ 1048576) ∧ ∀ c : Int, Builtin.Int.intBits c ≤ 1048576 → Q (.int c) H
theorem sc_law_cell_at : FnScope ["script", "k"] ["script", "k"] (defScope s_law_cell_at) :=
  ⟨rfl, rfl, rfl, by decide +kernel, rfl, by decide +kernel, by decide +kernel⟩
theorem ok_cell (F : Fn K mg "_law_cell_at" s_law_cell_at) (T : BlD mg) : Cal P w K mg base "_law_cell_at" 1 ["script", "k"] (spCell K) := by
  refine cal_of F sc_law_cell_at
    (fun _ _ _ _ _ _ us hl => match us, hl with | [_, _], _ => rfl) ?_ ?_
  · rintro vs H Q E ⟨a, ns, k, rfl, _⟩
    rfl
  rintro f cdv A outer s H vs Q E free hr ⟨a, ns, k, rfl, hS, k0, bits, q⟩
  refine ⟨_, (pss_cons (ps_if (pt_cmpR op_lt (pv 1) (pe_callB call_len_seq (by rfl) T.len (by decide +kernel) (pa_cons (pv 0) pa_nil)) (nomark _))
    (pss_one (ps_ret (pe_ix ix_list (pv 0) (pv 1) (fun _ _ => rfl))))
    pss_nil)
    (pss_one (ps_ret pe_int))), ?_⟩
  refine ⟨_, rfl, _, rfl, a, _, rfl, .inl hS, _, _, rfl, rfl, _, rfl, ?_⟩
  refine ite2 (fun c => ?_) (fun c => ?_)
  · have c' : k < (((ns.map V.int).length : Nat) : Int) := of_decide_eq_true c
    rw [List.length_map] at c'
    have hk : k.toNat < ns.length := by omega
    have at_ : atI (ns.map V.int) k = some (.int ns[k.toNat]) := by
      have := atI_nat (xs := ns.map V.int) (j := k.toNat) (v := .int ns[k.toNat]) (by rw [List.getElem?_map, List.getElem?_eq_getElem hk]; rfl)
      rwa [show ((k.toNat : Nat) : Int) = k by omega] at this
    exact ⟨_, rfl, _, rfl, a, _, _, _, rfl, rfl, hS, at_, q _ (bits _ (List.getElem_mem hk))⟩
  · exact q _ (by decide)
/-! ### _law_cells -/
def spCells1 (K : PySem.W.Frag) : Sp := fun vs H Q _ => ∃ (a : Addr) (ns : List Int), vs = [.ref a, .int 1] ∧ SqL K H a (ns.map V.int) ∧ ns.length ≤ 63 ∧ (∀ z ∈ ns, Builtin.Int.intBits z ≤ 1048576) ∧
  ∀ (l : Addr) (H' : Hp) (cs : List Int), H l = none → Same H H' → H' l = some (.lst (cs.map V.int)) → cs.length ≤ 63 → (∀ z ∈ cs, Builtin.Int.intBits z ≤ 1048576) → Q (.ref l) H'
theorem ok_cells1 (F : Fn K mg "_law_cells" s_law_cells) (T : BlD mg) : Cal P w K mg base "_law_cells" 1 ["script", "start"] (spCells1 K) := by
  refine cal_of F sc_law_cells
    (fun _ _ _ _ _ _ us hl => match us, hl with | [_, _], _ => rfl) ?_ ?_
  · rintro vs H Q E ⟨a, ns, rfl, _⟩
    rfl
  rintro f cdv A outer s H vs Q E free hr ⟨a, ns, rfl, hS, len, bits, q⟩
  refine ⟨_, (pss_cons (ps_set (i := 2) sc_law_cells.nd rfl (Or.inl rfl) (pe_callTy call_list_of (by rfl) T.list (by decide +kernel) (pa_cons (pe_slice sl_list (pv 0) (po_some (pv 1)) (po_some pe_int)) pa_nil)))
    (pss_cons (ps_for PassesOwn.never rfl (pi_range2 (by rfl) T.range (pa_cons (pe_callB call_len_seq (by rfl) T.len (by decide +kernel) (pa_cons (pv 2) pa_nil)) (pa_cons pe_int pa_nil))) (pg_name (i := 3) sc_law_cells.nd rfl (Or.inl rfl))
    (pss_one (ps_expr (pe_bm PySem.F.plainAttrs_list PySem.F.slot_list_append PySem.F.type_list_append mt_append (pv 2) (pa_cons (pe_op op_add (pe_op op_mul (pe_op op_mod (pe_callB (cr_sum (by rfl)) (by rfl) T.sum (by decide +kernel) (pa_cons (pe_slice sl_list (pv 0) po_none (po_some pe_int)) pa_nil)) pe_int) pe_int) (pe_op op_mul pe_int (pe_op op_add (pv 3) pe_int))) pa_nil)))))
    (pss_one (ps_ret (pv 2))))), ?_⟩
  obtain ⟨ms, em, lm, sub⟩ := cut_ints ns (some 1) (some 63)
  have bm : ∀ z ∈ ms, Builtin.Int.intBits z ≤ 1048576 := fun z hz => bits z (sub z hz)
  refine ⟨_, rfl, _, rfl, _, rfl, _, rfl, a, _, rfl, hS, ?_⟩
  intro s1 h1
  rw [em]
  refine ⟨s1, _, rfl, .inl (SqL.of upd_same), ?_⟩
  intro l hl
  have hl0 : H l = none := by
    by_cases z : l = s1
    · rw [z]; exact h1
    · rw [upd_ne z] at hl; exact hl
  have s2 : Same H (upd (upd H s1 (.lst (ms.map V.int))) l (.lst (ms.map V.int))) := (same_upd h1).trans (same_upd hl)
  have hlm : (ms.map V.int).length = ms.length := List.length_map _
  refine ⟨_, rfl, l, _, rfl, .inl (SqL.of upd_same), _, _, rfl, ⟨by omega, by omega, by omega, by omega⟩, ?_⟩
  obtain ⟨ms2, em2, lm2, sub2⟩ := cut_ints ns none (some 63)
  refine for_range (lo := _) (n := _) (fun i σ G => (∃ k : Option V, σ = [some (V.ref a), some (V.int 1), some (V.ref l), k]) ∧ ∃ cs : List Int, G l = some (.lst (cs.map V.int)) ∧ Same H G ∧ cs.length = ms.length + i ∧
    ∀ z ∈ cs, Builtin.Int.intBits z ≤ 1048576) ⟨⟨_, rfl⟩, ms, upd_same, s2, rfl, bm⟩ ?_ ?_
  · rintro i σ G hi ⟨⟨k, rfl⟩, cs, hG, sG, lc, bc⟩
    have i20 : i < 20 := by omega
    refine ⟨_, rfl, .inl ⟨rfl, _, SqL.of hG⟩, _, rfl, _, rfl, a, _, rfl, sG.seq hS, ?_⟩
    intro s3 h3
    rw [em2]
    refine ⟨s3, ms2, rfl, SqL.of upd_same, ?_⟩
    generalize ms2.sum = su
    refine ⟨_, _, rfl, rfl, (by show (0 : Int) < 1000003; decide), _, _, rfl, rfl, .inr ⟨by decide, by decide⟩, _, rfl, _, _, rfl, rfl, _, _, rfl, rfl, .inl ⟨by decide, by decide⟩, _, _, rfl, rfl, ?_⟩
    have ls : l ≠ s3 := ne_of_none hG h3
    refine ⟨l, _, _, rfl, rfl, by rw [upd_ne ls]; exact hG, by rw [List.length_map]; exact Nat.lt_of_lt_of_le (show cs.length < 100 by omega) (by decide), ?_⟩
    refine ⟨⟨_, rfl⟩, cs ++ [su % 1000003 * 48271 + 104729 * ((((ms.map V.int).length : Nat) : Int) + (i : Int) + 1)], ?_, ?_, by rw [List.length_append, List.length_singleton]; omega, fun z hz => ?_⟩
    · rw [upd_same, List.map_append]; rfl
    · intro b o e
      have nb : b ≠ l := by intro z; rw [z, hl0] at e; cases e
      rw [upd_ne nb]
      exact same_upd h3 _ _ (sG _ _ e)
    · rcases List.mem_append.mp hz with h | h
      · exact bc z h
      · rw [List.mem_singleton.mp h]
        have m0 : 0 ≤ su % 1000003 := Int.emod_nonneg _ (by decide)
        have m1 : su % 1000003 < 1000003 := Int.emod_lt_of_pos _ (by decide)
        exact bits_small (by omega)
  · rintro σ G ⟨⟨k, rfl⟩, cs, hG, sG, lc, bc⟩
    exact ⟨_, rfl, q l G cs hl0 sG hG (by omega) bc⟩
end

/-! ### both sides of a deed -/
theorem seat_inj : ∀ {L : List (List Int)}, L.Pairwise (fun a b => seatN a ≠ seatN b) → ∀ {a b : List Int}, a ∈ L → b ∈ L → seatN a = seatN b → a = b
  | [], _, _, _, h, _, _ => absurd h List.not_mem_nil
  | x :: L, p, a, b, ha, hb, e => by
    obtain ⟨p1, p2⟩ := List.pairwise_cons.mp p
    rcases List.mem_cons.mp ha with ea | ha'
    · rcases List.mem_cons.mp hb with eb | hb'
      · rw [ea, eb]
      · rw [ea] at e
        exact absurd e (p1 b hb')
    · rcases List.mem_cons.mp hb with eb | hb'
      · rw [eb] at e
        exact absurd e.symm (p1 a ha')
      · exact seat_inj p2 ha' hb' e
theorem free_vote {A lv M' : List (List Int)} {cnt : Int} {m1 m' : Option (List Int)} {ds1 ds : List PyData} (p : A.Perm lv) (u : Up A) (st : ∀ k ∈ lv, StN k) (nd : lv.Nodup) (F : FreeR A cnt M' m1 ds1) (Vt : VoteR lv cnt m' ds) : m1 = m' ∧ ds1 = ds ∧ Dat lv M' m1 lv := by
  rcases F with ⟨rfl, rfl, rfl, rfl⟩ | ⟨n, rfl, rfl, rfl⟩
  · have e := p.symm.eq_nil
    subst e
    rcases Vt with ⟨_, rfl, rfl⟩ | ⟨n, hn, _⟩
    · exact ⟨rfl, rfl, Dat.empty⟩
    · exact absurd hn List.not_mem_nil
  · rcases Vt with ⟨e, _⟩ | ⟨k, hk, rfl, least, rfl⟩
    · subst e
      exact absurd p.eq_nil (by simp)
    · have e := min_first p u st hk least
      subst e
      exact ⟨rfl, rfl, Dat.first nd p u (fun _ h => h)⟩
theorem lex_ne {n h : List Int} (sn : StN n) (sh : StN h) (ne : n ≠ h) : HT.lexLt h n = !HT.lexLt n h := by
  rw [lex_code (sh.1.trans sn.1.symm) sh.2 sn.2, lex_code (sn.1.trans sh.1.symm) sn.2 sh.2]
  by_cases c : TS.code (10 ^ 43) h < TS.code (10 ^ 43) n
  · rw [decide_eq_true c, decide_eq_false (by omega)]
    rfl
  · have : TS.code (10 ^ 43) n ≠ TS.code (10 ^ 43) h := fun e => ne (code_inj (sn.1.trans sh.1.symm) sn.2 sh.2 e)
    rw [decide_eq_false c, decide_eq_true (by omega)]
    rfl
theorem ask_both {n : List Int} {cn : Int} {b b' : Bool} {lv lv' M M' sv sv' : List (List Int)} {hd m1 m' : Option (List Int)} {ds1 ds : List PyData} {gn gn' : List Int} {cnt cnt' : Int} (D : Dat lv M hd lv) (hb : b = !decide (sv = [])) (hs : sv ≠ [] → hd ≠ none) (st : ∀ k ∈ lv, StN k) (sn : StN n) (nin : n ∉ lv)
    (A : AskR n cn b M hd b' M' m1 ds1) (R : DueR cnt lv hd sv gn cnt' lv' m' sv' gn' ds (.ask n)) (ec : cn = cnt') : m1 = m' ∧ ds1 = ds ∧ Dat lv' M' m1 lv' ∧ b' = !decide (sv' = []) ∧ (sv' ≠ [] → m1 ≠ none) ∧ sv'.length ≤ sv.length + 1 := by
  obtain ⟨_, rfl, _, R⟩ := R
  rcases A with ⟨rfl, _, rfl, rfl, rfl, rfl⟩ | ⟨k, rfl, rfl, pM, up, two⟩
  · rcases R with ⟨_, Vt, rfl⟩ | ⟨h, e, _⟩
    · have l0 := D.non rfl
      subst l0
      rcases Vt with ⟨e, _⟩ | ⟨k, hk, rfl, _, rfl⟩
      · cases e
      · have e : k = n := by simpa using hk
        subst e
        subst ec
        exact ⟨rfl, rfl, Dat.first (by simp) (List.Perm.refl _) (by simp [Up]) (fun _ h => h), by simp, fun h => absurd rfl h, by simp⟩
    · cases e
  · rcases R with ⟨e, _⟩ | ⟨h, e, rfl, R⟩
    · cases e
    cases e
    have kl := D.mem k rfl
    have lx := lex_ne sn (st k kl) (fun e => nin (e ▸ kl))
    have Dm := D.more nin pM up
    rcases R with ⟨r1, rfl, rfl⟩ | ⟨r1, rfl, rfl⟩
    · rw [r1] at lx
      have l2 : HT.lexLt n k = false := by cases z : HT.lexLt n k <;> simp [z] at lx ⊢
      rw [l2] at two
      rcases two with ⟨z, _⟩ | ⟨_, rfl, rfl⟩
      · simp at z
      · exact ⟨rfl, rfl, Dm, hb, fun _ e => (by cases e), by omega⟩
    · rw [r1] at lx
      have l2 : HT.lexLt n k = true := by cases z : HT.lexLt n k <;> simp [z] at lx ⊢
      rw [l2] at two
      by_cases c : sv = []
      · subst c
        have b0 : b = false := by rw [hb]; rfl
        subst b0
        rcases two with ⟨_, rfl, rfl⟩ | ⟨z, _⟩
        · exact ⟨rfl, by rw [if_pos rfl], Dm, by simp, fun _ e => (by cases e), by simp⟩
        · simp at z
      · have b0 : b = true := by rw [hb]; simp [c]
        subst b0
        rcases two with ⟨z, _⟩ | ⟨_, rfl, rfl⟩
        · simp at z
        · exact ⟨rfl, by rw [if_neg c], Dm, by simp, fun _ e => (by cases e), by simp⟩
theorem filt_seat {lv : List (List Int)} {n : List Int} (p : lv.Pairwise fun a b => seatN a ≠ seatN b) (hn : n ∈ lv) : (lv.filter fun k => !decide (seatN k = seatN n)) = lv.filter fun k => !decide (k = n) :=
  List.filter_congr fun k hk => congrArg not (decide_eq_decide.mpr ⟨fun e => seat_inj p hk hn e, fun e => by rw [e]⟩)


end G0
namespace G0
open PySem PySem.Spec PyProof.Rows L2
/-! ### what a deed leaves -/
theorem lv_vo (n : List Int) (c : Int) : Lv 2 (voD n c) := by
  refine .tup (by show 2 < 10000; decide) fun d hd => ?_
  simp only [List.mem_cons, List.not_mem_nil, or_false] at hd
  rcases hd with rfl | rfl
  · exact .int _
  · refine .tup (by show 4 < 10000; decide) fun d hd => ?_
    simp only [List.mem_cons, List.not_mem_nil, or_false] at hd
    rcases hd with rfl | rfl | rfl | rfl <;> constructor
theorem lv_bk (n : List Int) : Lv 2 (bkD n) := by
  refine .tup (by show 2 < 10000; decide) fun d hd => ?_
  simp only [List.mem_cons, List.not_mem_nil, or_false] at hd
  rcases hd with rfl | rfl
  · exact .int _
  · refine .tup (by show 3 < 10000; decide) fun d hd => ?_
    simp only [List.mem_cons, List.not_mem_nil, or_false] at hd
    rcases hd with rfl | rfl | rfl <;> constructor
def DsOk (ds : List PyData) : Prop := ds.length < 10000 ∧ ∀ d ∈ ds, Lv 2 d
theorem ds_nil : DsOk [] := ⟨by decide, fun d h => absurd h List.not_mem_nil⟩
theorem ds_vo (n : List Int) (c : Int) : DsOk [voD n c] := ⟨by show 1 < 10000; decide, fun d h => by rw [List.mem_singleton.mp h]; exact lv_vo n c⟩
theorem ds_bk (n : List Int) : DsOk [bkD n] := ⟨by show 1 < 10000; decide, fun d h => by rw [List.mem_singleton.mp h]; exact lv_bk n⟩
theorem vote_ds {A : List (List Int)} {cnt : Int} {m' : Option (List Int)} {ds : List PyData} (h : VoteR A cnt m' ds) : DsOk ds := by
  rcases h with ⟨_, _, rfl⟩ | ⟨n, _, _, _, rfl⟩
  · exact ds_nil
  · exact ds_vo _ _
theorem left_ds {hd : Option (List Int)} {sv : List (List Int)} {s : Int} {lv' : List (List Int)} {cnt : Int} {m' : Option (List Int)} {sv' : List (List Int)} {ds : List PyData} (h : LeftR hd sv s lv' cnt m' sv' ds) : DsOk ds := by
  unfold LeftR at h
  split at h
  · exact vote_ds h.1
  · rw [h.2.2]; exact ds_nil
theorem due_ds {cnt cnt' : Int} {lv lv' sv sv' : List (List Int)} {hd m' : Option (List Int)} {gn gn' : List Int} {ds : List PyData} : ∀ {D : D4}, DueR cnt lv hd sv gn cnt' lv' m' sv' gn' ds D → DsOk ds
  | .ask n, ⟨_, _, _, R⟩ => by
    rcases R with ⟨_, v, _⟩ | ⟨h, _, _, ⟨_, _, rfl⟩ | ⟨_, _, rfl⟩⟩
    · exact vote_ds v
    · exact ds_nil
    · split
      · exact ds_bk _
      · exact ds_nil
  | .giv n, ⟨_, _, _, v, _⟩ => vote_ds v
  | .don n, ⟨_, _, _, l⟩ => left_ds l
  | .gon v, ⟨_, _, _, l⟩ => left_ds l
theorem left_sv {hd : Option (List Int)} {sv : List (List Int)} {s : Int} {lv' : List (List Int)} {cnt : Int} {m' : Option (List Int)} {sv' : List (List Int)} {ds : List PyData} (h : LeftR hd sv s lv' cnt m' sv' ds) : sv' = [] ∨ sv' = sv := by
  unfold LeftR at h
  split at h
  · exact .inl h.2
  · exact .inr h.2.1
theorem Pw.next {cnt cnt' B : Int} {lv lv' sv sv' M' : List (List Int)} {hd m' : Option (List Int)} {gn gn' fl fl' : List Int} {tu tu' : List (Option (List Int))} {wt wt' : List Bool} {ds : List PyData} {seat : Int} {D : D4} (PI : Pw cnt B lv hd sv fl tu wt) (R : DueR cnt lv hd sv gn cnt' lv' m' sv' gn' ds D)
    (ok : Ok4 (B + 10 ^ 40) lv hd sv seat D) (L : Len4 (B + 10 ^ 40) fl' tu' wt') (Da : Dat lv' M' m' lv') (hs : sv' ≠ [] → m' ≠ none) : Pw cnt' (B + 10 ^ 40) lv' m' sv' fl' tu' wt' := by
  have base : ∀ {lv'' : List (List Int)}, lv' = lv'' → cnt' = cnt → (∀ k ∈ lv'', k ∈ lv) → lv''.Pairwise (fun a b => seatN a ≠ seatN b) → Pw cnt' (B + 10 ^ 40) lv' m' sv' fl' tu' wt' := fun e ec sub pw =>
    ⟨Da.non, Da.mem, hs, e ▸ pw, fun k hk => (PI.ok k (sub k (e ▸ hk))).mono (by omega), L.2.2.2.1, L.1, L.2.2.1, L.2.2.2.2, L.2.1, by rw [ec]; exact PI.c0, by rw [ec]; have := PI.c1; omega⟩
  cases D with
  | ask n =>
    obtain ⟨e1, rfl, _, _⟩ := R
    obtain ⟨⟨c, s, u, rfl, o1, o2, o3, o4, o5, o6⟩, es, nok⟩ := ok
    have e1 : cnt' = if c > cnt then c else cnt := e1
    refine ⟨Da.non, Da.mem, hs, ?_, fun k hk => ?_, L.2.2.2.1, L.1, L.2.2.1, L.2.2.2.2, L.2.1, ?_, ?_⟩
    · rw [List.pairwise_append]
      exact ⟨PI.seats, by simp, fun a ha b hb => by rw [List.mem_singleton.mp hb, es]; exact nok a ha⟩
    · rcases List.mem_append.mp hk with z | z
      · exact (PI.ok k z).mono (by omega)
      · rw [List.mem_singleton.mp z]
        exact ⟨c, s, u, rfl, o1, o2, o3, o4, o5, o6⟩
    · have := PI.c0
      rw [e1]; split <;> omega
    · have := PI.c1
      rw [e1]; split <;> omega
  | giv n =>
    obtain ⟨e1, e2, _, _⟩ := R
    exact base e2 e1 (fun _ h => h) PI.seats
  | don n =>
    obtain ⟨e1, e2, _, _⟩ := R
    exact base e2 e1 (fun _ h => (List.mem_filter.mp h).1) (PI.seats.filter _)
  | gon v =>
    obtain ⟨e1, e2, _, _⟩ := R
    exact base e2 e1 (fun _ h => (List.mem_filter.mp h).1) (PI.seats.filter _)
section
variable {K : PySem.W.Frag} {C CD p dx dk ddx : Addr} {H H' : Hp} {me cnt fst : Int} {kn : List Int} {b : Bool} {M : List (List Int)} {m : Option (List Int)}
theorem VoX.fri (V : VoX K C CD p dx dk ddx H me cnt fst kn b M m) (s : FrI H H') : VoX K C CD p dx dk ddx H' me cnt fst kn b M m := by
  obtain ⟨h, hnd, knw, sa, se, qa, xs, V⟩ := V
  exact ⟨h, hnd, knw, sa, se, qa, xs, s _ _ V.hp (fun _ z => nomatch z) (fun _ z => nomatch z), sqt_fri s V.hh, sqt_fri s V.hk, s _ _ V.hd (fun _ z => nomatch z) (fun _ z => nomatch z), sqt_fri s V.hq, V.hM.imp fun _ _ z => sqt_fri s z, hold_imp (fun _ _ z => sqt_fri s z) V.hold, V.ne⟩
theorem VoX.hpx (V : VoX K C CD p dx dk ddx H me cnt fst kn b M m) (x : Str) (h1 : x ≠ "me" := by decide +kernel) (h2 : x ≠ "state" := by decide +kernel) (h3 : x ≠ "sits" := by decide +kernel) (h4 : x ≠ "count" := by decide +kernel) (h5 : x ≠ "stamp" := by decide +kernel) (h6 : x ≠ "hand" := by decide +kernel) (h7 : x ≠ "known" := by decide +kernel) (h8 : x ≠ "desk" := by decide +kernel) (h9 : x ≠ "_sets" := by decide +kernel) (h10 : x ≠ "_first" := by decide +kernel) (h11 : x ≠ "_set" := by decide +kernel) : ∃ fs, H p = some (.ins C dx fs) ∧ fs.lookup x = none := by
  obtain ⟨h, hnd, knw, sa, se, qa, xs, V⟩ := V
  exact ⟨_, V.hp, voF_no _ _ _ _ _ _ _ _ _ _ _ h1 h2 h3 h4 h5 h6 h7 h8 h9 h10 h11⟩
end
theorem Dat.lenM {L M : List (List Int)} {m : Option (List Int)} {Cm : List (List Int)} (D : Dat L M m Cm) : M.length ≤ L.length := by
  rw [D.pm.length_eq]
  exact List.length_filter_le _ _
theorem sql_frl {K : PySem.W.Frag} {H H' : Hp} (c : FrL H H') {a : Addr} {xs : List V} (h : SqL K H a xs) : SqL K H' a xs := by
  rcases h with (z | ⟨o', z⟩) | z
  · exact .inl (.inl (c _ _ z fun _ _ _ e => nomatch e))
  · exact .inl (.inr ⟨o', c _ _ z fun _ _ _ e => nomatch e⟩)
  · exact .inr z
mutual
theorem dp_frl {K : PySem.W.Frag} {H H' : Hp} (c : FrL H H') : ∀ (d : PyData) (v : V), Dp K H v d → Dp K H' v d
  | .none, _, h => by cases h; exact .non
  | .bool _, _, h => by cases h; exact .bl _
  | .int _, _, h => by cases h; exact .int _
  | .str _, _, h => by cases h; exact .str _
  | .list ds, _, h => by
    cases h with
    | lst hs ha => exact .lst (sql_frl c hs) (dps_frl c ds _ ha)
  | .dict _, _, h => by cases h
  | .tuple ds, _, h => by
    cases h with
    | tup hs ha => exact .tup (sqt_frl c hs) (dps_frl c ds _ ha)
theorem dps_frl {K : PySem.W.Frag} {H H' : Hp} (c : FrL H H') : ∀ (ds : List PyData) (vs : List V), DpAll K H vs ds → DpAll K H' vs ds
  | [], _, h => by cases h; exact .nil
  | d :: ds, _, h => by
    cases h with
    | cons h1 h2 => exact .cons (dp_frl c d _ h1) (dps_frl c ds _ h2)
end
theorem filt_len {L : List (List Int)} {g : List Int → Bool} {j : Nat} (h : L.length ≤ j) : (L.filter g).length ≤ j + 1 := Nat.le_trans (List.length_filter_le _ _) (by omega)
/-- the voter's side and the law's are the same -/
def Both (lv' sv' M3 : List (List Int)) (m3 m' : Option (List Int)) (b3 : Bool) (ds3 ds : List PyData) (j : Nat) : Prop :=
  m3 = m' ∧ ds3 = ds ∧ Dat lv' M3 m3 lv' ∧ b3 = !decide (sv' = []) ∧ (sv' ≠ [] → m3 ≠ none) ∧ sv'.length ≤ j + 1 ∧ lv'.length ≤ j + 1
section
variable {cnt cnt' : Int} {lv lv' sv sv' M M3 : List (List Int)} {hd m3 m' : Option (List Int)} {b b3 : Bool} {ds3 ds : List PyData} {gn gn' : List Int} {j : Nat}
theorem nodup_of (st : lv.Pairwise fun a b => seatN a ≠ seatN b) : lv.Nodup := st.imp fun h e => h (by rw [e])
theorem both_free {A : List (List Int)} (p : A.Perm lv') (u : Up A) (st : ∀ k ∈ lv', StN k) (nd : lv'.Nodup) (F : FreeR A cnt M3 m3 ds3) (Vt : VoteR lv' cnt m' ds) (es : sv' = []) (ll : lv'.length ≤ j + 1) : Both lv' sv' M3 m3 m' false ds3 ds j := by
  obtain ⟨e1, e2, D⟩ := free_vote p u st nd F Vt
  subst es
  exact ⟨e1, e2, D, rfl, fun h => absurd rfl h, Nat.zero_le _, ll⟩
theorem both_stay {g : List Int → Bool} (D : Dat lv M hd lv) (hg : ∀ k, hd = some k → g k = true) (hb : b = !decide (sv = [])) (hs : sv ≠ [] → hd ≠ none) (ll : lv.length ≤ j) (ls : sv.length ≤ j) : Both (lv.filter g) sv (M.filter g) hd hd b [] [] j := by
  refine ⟨rfl, rfl, ?_, hb, hs, by omega, filt_len ll⟩
  cases hd with
  | none =>
    have l0 := D.non rfl
    have m0 := D.mnone
    subst l0
    subst m0
    exact Dat.empty
  | some k =>
    have K1 := D.keep g (hg k rfl)
    exact ⟨K1.nd, K1.up, K1.pm, K1.non, K1.mem, fun _ h => h⟩
end

end G0
namespace G0
open PySem PySem.Spec PyProof.Rows L2 NdefX ClX
/-! ### new places -/
def Fresh (L : List Addr) (H : Hp) : Prop := L.Nodup ∧ ∀ x ∈ L, H x ≠ none
theorem Fresh.nil {H : Hp} : Fresh [] H := ⟨List.nodup_nil, fun _ h => (List.not_mem_nil h).elim⟩
theorem Fresh.new {L : List Addr} {H : Hp} {q : Addr} {o : HO} (f : Fresh L H) (n : H q = none) : Fresh (q :: L) (upd H q o) := by
  refine ⟨List.nodup_cons.mpr ⟨fun m => f.2 q m n, f.1⟩, fun x hx => ?_⟩
  rcases List.mem_cons.mp hx with e | e
  · rw [e, upd_same]; exact fun z => by cases z
  · by_cases q' : x = q
    · rw [q', upd_same]; exact fun z => by cases z
    · rw [upd_ne q']; exact f.2 x e
theorem Fresh.same {L : List Addr} {H H' : Hp} (f : Fresh L H) (s : Same H H') : Fresh L H' := by
  refine ⟨f.1, fun x hx => ?_⟩
  cases e : H x with
  | none => exact (f.2 x hx e).elim
  | some u => rw [s x u e]; exact fun z => by cases z
theorem Fresh.put {L : List Addr} {H : Hp} {q : Addr} {o : HO} (f : Fresh L H) : Fresh L (upd H q o) := by
  refine ⟨f.1, fun x hx => ?_⟩
  by_cases e : x = q
  · rw [e, upd_same]; exact fun z => by cases z
  · rw [upd_ne e]; exact f.2 x hx
section
variable {P : Program} {w : World} {K : PySem.W.Frag} {mg : Str → Option Value} {base : Heap} {C CD : Addr}
structure MkV4 (P : Program) (w : World) (K : PySem.W.Frag) (mg : Str → Option Value) (base : Heap) (C CD : Addr) : Prop where
  made : ∃ f fd, FnOk P w K mg base CX0 3 f fd ["self", "me", "sets", "first", "count"] (spVInit4 K C CD) ∧ Mk K C f ∧
    KBn K fd ["self", "me", "sets", "first", "count"] 3 ["first", "count"] (fun us ws => us ++ ws) (fun vs zs => vs ++ zs)
  mg : mg "Voter" = some (.ref C)
/-! ### the law -/
def In4 (K : PySem.W.Frag) (C CD : Addr) (H : Hp) (b cl p dx dk ddx ga fa ta wa : Addr) (cs : List Int) (me fst : Int) (j : Nat) : Prop :=
  ∃ (la sn : Addr) (hv : V) (cnt : Int) (lv : List (List Int)) (hd : Option (List Int)) (sv : List (List Int)) (gn fl : List Int) (tu : List (Option (List Int))) (wt : List Bool) (kn : List Int) (bb : Bool) (M : List (List Int)),
    VoX K C CD p dx dk ddx H me cnt fst kn bb M hd ∧ Wo K H b cl la sn ga fa ta wa hv cs cnt lv hd sv gn fl tu wt ∧ Pw cnt (((j : Int) + 1) * 10 ^ 40) lv hd sv fl tu wt ∧ bb = !decide (sv = []) ∧ Dat lv M hd lv ∧ kn.Perm gn ∧ kn.Pairwise (· ≤ ·) ∧ lv.length ≤ j ∧ sv.length ≤ j ∧ gn.length ≤ j
theorem stn_of {B : Int} {k : List Int} (h : StB B k) (l : B ≤ 10 ^ 42) : StN k := by
  obtain ⟨c, s, u, rfl, o1, o2, o3, o4, o5, o6⟩ := h
  refine ⟨rfl, fun m hm => ?_⟩
  have p1 : (10 : Int) ^ 43 = 10 * 10 ^ 42 := by decide
  have p2 : (10 : Int) ^ 42 = 100 * 10 ^ 40 := by decide
  have p3 : (10 : Int) ^ 40 = 10000000000000000000000000000000000000000 := by decide
  simp only [List.mem_cons, List.not_mem_nil, or_false] at hm
  rcases hm with rfl | rfl | rfl <;> constructor <;> omega
theorem rep_at {α : Type} {n i : Nat} {a b : α} (h : (List.replicate n a)[i]? = some b) : b = a := by
  rw [List.getElem?_replicate] at h
  split at h
  · exact (Option.some.inj h).symm
  · cases h
theorem four {ds : List Int} (h : ds.length = 4) : ∃ a b c d, ds = [a, b, c, d] := by
  match ds, h with
  | [a, b, c, d], _ => exact ⟨a, b, c, d, rfl⟩
theorem eqv_nilI (S : List Int) : PyData.eqv (.list (S.map PyData.int)) (.list []) = decide (S = []) := by
  cases S with
  | nil => simp [PyData.eqv, PyData.eqvAll]
  | cons a S => simp [PyData.eqv, PyData.eqvAll]
def spLaw (K : PySem.W.Frag) : Sp := fun vs H Q _ => ∃ (a : Addr) (ns : List Int), vs = [.ref a] ∧ SqL K H a (ns.map V.int) ∧ ns.length ≤ 63 ∧ (∀ z ∈ ns, Builtin.Int.intBits z ≤ 1048576) ∧ ∀ H', Q (.bl true) H'
-- [(0, 'script'), (1, 'me'), (2, 'pick'), (3, 'way'), (4, 'big'), (5, 'world'), (6, 'sets'), (7, 'far'), (8, 'voter'), (9, 'cell'), (10, 'kind'), (11, 'low'), (12, 'many'), (13, 'alive'), (14, 'seat'), (15, 'word'), (16, 'stamp'), (17, 'due'), (18, 'told')]
theorem sc_law : FnScope ["script", "me", "pick", "way", "big", "world", "sets", "far", "voter", "cell", "kind", "low", "many", "alive", "seat", "word", "stamp", "due", "told"] ["script"] (defScope s_law) :=
  ⟨rfl, rfl, rfl, by decide +kernel, rfl, by decide +kernel, by decide +kernel⟩
theorem ok_law (F : Fn K mg "law" s_law) (T : BlD mg) (VT : VoT K C) (S : DeskT K mg CD) (MC : MkV4 P w K mg base C CD) (C_cell_at : Cal P w K mg base "_law_cell_at" 1 ["script", "k"] (spCell K)) (C_draws : Cal P w K mg base "_law_draws" 1 ["cell", "tops"] spDraws)
    (C_looks : Cal P w K mg base "_law_looks" 5 ["voter", "world"] (spLooks4 K C CD)) (C_cells : Cal P w K mg base "_law_cells" 1 ["script", "start"] (spCells1 K)) (C_deed : Cal P w K mg base "_law_deed" 1 ["world", "kind", "seat", "more"] (spDeed4 K))
    (C_due : Cal P w K mg base "_law_due" 2 ["world", "kind", "word", "stamp"] (spDue4 K)) (C_same : Cal P w K mg base "_law_same" 4 ["found", "due"] (spSameD K 3))
    (MH : Me P w K mg base C "hear" 3 ["self", "sender", "letter"] (spHear4 K C CD)) (MG : Me P w K mg base C "gone" 3 ["self", "seat"] (spGone4 K C CD)) :
    Cal P w K mg base "law" 7 ["script"] (spLaw K) := by
  obtain ⟨fC, fdC, GC, MI, k0⟩ := MC.made
  have gC := MC.mg
  obtain ⟨fH, fdH, GH, bH, mH⟩ := MH
  obtain ⟨fG, fdG, GG, bG, mG⟩ := MG
  refine cal_of F sc_law
    (fun _ _ _ _ _ _ us hl => match us, hl with | [_], _ => rfl) ?_ ?_
  · rintro vs H Q E ⟨a, ns, rfl, _⟩
    rfl
  rintro f cdv A outer s H vs Q E free hr ⟨a, ns, rfl, hS, len, bits, q⟩
  have hr4 : Room 4 _ := hr.mono (by decide)
  have hr3 : Room 3 _ := hr.mono (by decide)
  refine ⟨_, (pss_cons (ps_asg (pe_cal C_draws free (hr.mono (by decide)) (pa_cons (pe_cal C_cell_at free (hr.mono (by decide)) (pa_cons (pv 0) (pa_cons pe_int pa_nil))) (pa_cons (pe_lst (pa_cons pe_int (pa_cons pe_int (pa_cons pe_int (pa_cons (pe_op op_pow pe_int pe_int) pa_nil))))) pa_nil))) (pg_lst (by rfl) (pgs_cons (pg_name (i := 1) sc_law.nd rfl (Or.inr rfl)) (pgs_cons (pg_name (i := 2) sc_law.nd rfl (Or.inl rfl)) (pgs_cons (pg_name (i := 3) sc_law.nd rfl (Or.inl rfl)) (pgs_cons (pg_name (i := 4) sc_law.nd rfl (Or.inl rfl)) pgs_nil))))))
    (pss_cons (ps_set (i := 5) sc_law.nd rfl (Or.inr rfl) (pe_disp (pps_cons pe_str (pe_ix ix_list (pe_lst (pa_cons pe_int (pa_cons (pe_op op_mod (pv 2) pe_int) (pa_cons (pv 4) pa_nil)))) (pv 3) (fun _ _ => rfl)) (pps_cons pe_str (pe_lst pa_nil) (pps_cons pe_str pe_non (pps_cons pe_str (pe_lst pa_nil) (pps_cons pe_str (pe_lst pa_nil) pps_nil))))) (by rfl) (by rfl) (fun z => by cases z) (by decide)))
    (pss_cons (ps_asg (pe_op op_rep (pe_lst (pa_cons pe_int pa_nil)) pe_int) (pg_sub (pv 5) pe_str (set_dict (hu_of hr))))
    (pss_cons (ps_asg (pe_op op_rep (pe_lst (pa_cons pe_non pa_nil)) pe_int) (pg_sub (pv 5) pe_str (set_dict (hu_of hr))))
    (pss_cons (ps_asg (pe_op op_rep (pe_lst (pa_cons pe_bl pa_nil)) pe_int) (pg_sub (pv 5) pe_str (set_dict (hu_of hr))))
    (pss_cons (ps_setLc (i := 6) (own := [("far", 7)]) (g := gName 7) (tt := tYes) (by rfl) sc_law.nd rfl rfl (sw_true rfl rfl rfl (by decide +kernel)) (pi_range2 (by rfl) T.range (pa_cons pe_int (pa_cons pe_int pa_nil))) (blkOk_by (N := ["script", "me", "pick", "way", "big", "world", "sets", "far", "voter", "cell", "kind", "low", "many", "alive", "seat", "word", "stamp", "due", "told"]) (sc := defScope s_law) (by decide +kernel)) (fun _ _ _ _ _ => pg_name (i := 7) sc_law.nd rfl (Or.inl rfl)) (fun _ _ _ _ _ => pts_nil) (fun _ _ _ _ _ => (pe_tup (pa_cons (pv 1) (pa_cons (pv 7) pa_nil)))))
    (pss_cons (ps_set (i := 8) sc_law.nd rfl (Or.inl rfl) (pe_makeK MI GC hr4 (by rfl) gC k0 pass0 (pa_cons (pv 1) (pa_cons (pv 6) pa_nil)) (pk_cons (pe_op op_mod (pe_op op_fdivW (pv 2) pe_int) pe_int) (pk_cons (pe_dget (hu_of hr) (pv 5) pe_str (fun _ _ => rfl)) pk_nil))))
    (pss_cons (ps_for PassesOwn.never rfl (pi_list (pe_cal C_cells free (hr.mono (by decide)) (pa_cons (pv 0) (pa_cons pe_int pa_nil)))) (pg_name (i := 9) sc_law.nd rfl (Or.inl rfl))
    (pss_cons (ps_asg (pe_cal C_draws free (hr.mono (by decide)) (pa_cons (pv 9) (pa_cons (pe_lst (pa_cons pe_int (pa_cons pe_int (pa_cons pe_int (pa_cons (pe_op op_pow pe_int pe_int) pa_nil))))) pa_nil))) (pg_lst (by rfl) (pgs_cons (pg_name (i := 10) sc_law.nd rfl (Or.inl rfl)) (pgs_cons (pg_name (i := 2) sc_law.nd rfl (Or.inl rfl)) (pgs_cons (pg_name (i := 11) sc_law.nd rfl (Or.inl rfl)) (pgs_cons (pg_name (i := 12) sc_law.nd rfl (Or.inl rfl)) pgs_nil))))))
    (pss_cons (ps_setLc (i := 13) (own := [("seat", 14)]) (g := gName 14)  (by rfl) sc_law.nd rfl rfl (sw_true rfl rfl rfl (by decide +kernel)) (pi_range1 (by rfl) T.range (pa_cons pe_int pa_nil)) (blkOk_by (N := ["script", "me", "pick", "way", "big", "world", "sets", "far", "voter", "cell", "kind", "low", "many", "alive", "seat", "word", "stamp", "due", "told"]) (sc := defScope s_law) (by decide +kernel)) (fun _ _ _ _ _ => pg_name (i := 14) sc_law.nd rfl (Or.inl rfl)) (fun _ _ _ _ _ => pts_one (PW.pt (pw_and (pt_cmpR op_ne (pv 14) (pv 1) (nomark _)) (pw_and1 (pt_cmpR (u_notinK K) (pv 14) (pe_dget (hu_of hr) (pv 5) pe_str (fun _ _ => rfl)) (by rfl)))))) (fun _ _ _ _ _ => (pv 14)))
    (pss_cons (ps_if (pt_cmpR (op_eqD (u64 hr)) (pv 13) (pe_lst pa_nil) (nomark _))
    (pss_one (ps_ret (pe_cal C_looks free (hr.mono (by decide)) (pa_cons (pv 8) (pa_cons (pv 5) pa_nil)))))
    pss_nil)
    (pss_cons (ps_asg (pe_cal C_deed free (hr.mono (by decide)) (pa_cons (pv 5) (pa_cons (pv 10) (pa_cons (pe_ix ix_list (pv 13) (pe_op op_mod (pv 2) (pe_callB call_len_seq (by rfl) T.len (by decide +kernel) (pa_cons (pv 13) pa_nil))) (fun _ _ => rfl)) (pa_cons (pe_ix ix_list (pe_lst (pa_cons (pv 11) (pa_cons (pv 12) pa_nil))) (pe_callTy call_int1 (by rfl) T.int (by decide +kernel) (pa_cons (pe_cmpR op_eq (pe_op op_mod (pv 10) pe_int) pe_int (nomark _)) pa_nil)) (fun _ _ => rfl)) pa_nil))))) (pg_tup (by rfl) (pgs_cons (pg_name (i := 15) sc_law.nd rfl (Or.inl rfl)) (pgs_cons (pg_name (i := 16) sc_law.nd rfl (Or.inl rfl)) pgs_nil))))
    (pss_cons (ps_set (i := 17) sc_law.nd rfl (Or.inl rfl) (pe_cal C_due free (hr.mono (by decide)) (pa_cons (pv 5) (pa_cons (pv 10) (pa_cons (pv 15) (pa_cons (pv 16) pa_nil))))))
    (pss_cons (ps_if (pt_cmpR op_eq (pv 15) pe_str (nomark _))
    (pss_one (ps_set (i := 18) sc_law.nd rfl (Or.inl rfl) (pe_meth (pv 8) VT.cl mG GG hr3 bG .nil pass0 (pa_cons (pe_ix ix_tup (pv 16) pe_int (fun _ _ => rfl)) pa_nil))))
    (pss_one (ps_set (i := 18) sc_law.nd rfl (Or.inl rfl) (pe_meth (pv 8) VT.cl mH GH hr3 bH .nil pass0 (pa_cons (pe_ix ix_tup (pv 16) pe_int (fun _ _ => rfl)) (pa_cons (pe_tup (pa_cons (pv 15) (pa_cons (pe_ix ix_tup (pv 16) pe_int (fun _ _ => rfl)) (pa_cons (pe_ix ix_tup (pv 16) pe_int (fun _ _ => rfl)) pa_nil)))) pa_nil))))))
    (pss_one (ps_if (PW.pt (pw_or (pt_not (pt_val (pe_cal C_same free (hr.mono (by decide)) (pa_cons (pv 18) (pa_cons (pv 17) pa_nil))))) (pw_or1 (pt_not (pt_val (pe_cal C_looks free (hr.mono (by decide)) (pa_cons (pv 8) (pa_cons (pv 5) pa_nil))))))))
    (pss_one (ps_ret pe_bl))
    pss_nil)))))))))
    (pss_one (ps_ret pe_bl)))))))))), ?_⟩
  refine ⟨_, rfl, a, ns, 0, rfl, hS, by decide, bits, fun c0 hc0 => ?_⟩
  refine ⟨_, _, rfl, rfl, ⟨by decide, by decide, by decide⟩, by show 4 ≤ sizeLine; decide, fun tA htA => ?_⟩
  have s1 := same_upd (o := .lst [.int 9, .int 40320, .int 3, .int (10 ^ (Int.toNat 40))]) htA
  refine ⟨tA, c0, [9, 40320, 3, 10 ^ (Int.toNat 40)], rfl, upd_same, hc0, fun x hx => ?_, by decide, fun l ds hl lds bl => ?_⟩
  · simp only [List.mem_cons, List.not_mem_nil, or_false] at hx
    rcases hx with rfl | rfl | rfl | rfl <;> exact ⟨by decide, by decide⟩
  have s2 := same_upd (o := .lst (ds.map V.int)) hl
  obtain ⟨me, pick, way, big, rfl⟩ := four lds
  obtain ⟨_, hm, m0, m1⟩ := bl 0 me rfl
  cases hm
  obtain ⟨_, hm, p0, p1⟩ := bl 1 pick rfl
  cases hm
  obtain ⟨_, hm, w0, w1⟩ := bl 2 way rfl
  cases hm
  obtain ⟨_, hm, g0, g1⟩ := bl 3 big rfl
  cases hm
  have p40 : (10 : Int) ^ (Int.toNat 40) = 10 ^ 40 := by decide
  have pp : (10 : Int) ^ 40 = 10000000000000000000000000000000000000000 := by decide
  rw [p40] at g1
  have sA := s1.trans s2
  obtain ⟨G1, e1⟩ : ∃ G1, G1 = upd (upd H tA (.lst [.int 9, .int 40320, .int 3, .int (10 ^ (Int.toNat 40))])) l (.lst ([me, pick, way, big].map V.int)) := ⟨_, rfl⟩
  have kl : G1 l = some (.lst ([me, pick, way, big].map V.int)) := by rw [e1]; exact upd_same
  rw [← e1] at sA
  rw [← e1]
  refine ⟨l, _, rfl, SqL.of kl, rfl, _, _, rfl, _, _, rfl, _, _, rfl, _, _, rfl, rfl, ?_⟩
  have hS1 := sA.seq hS
  refine fun b hb => ?_
  have s4 := same_upd (o := .dK []) hb
  obtain ⟨cnt0, at0', n0, n1⟩ : ∃ c : Int, atI [V.int 0, .int (pick % 5), .int big] way = some (.int c) ∧ 0 ≤ c ∧ c ≤ 10 ^ 40 := by
    rcases (show way = 0 ∨ way = 1 ∨ way = 2 by omega) with e | e | e
    · subst e
      exact ⟨0, (show atI _ ((0 : Nat) : Int) = _ from atI_nat rfl), by omega, by omega⟩
    · subst e
      exact ⟨pick % 5, (show atI _ ((1 : Nat) : Int) = _ from atI_nat rfl), by omega, by omega⟩
    · subst e
      exact ⟨big, (show atI _ ((2 : Nat) : Int) = _ from atI_nat rfl), by omega, by omega⟩
  refine ⟨_, rfl, _, _, rfl, rfl, (by show (0 : Int) < 5; decide), _, rfl, by show 3 ≤ sizeLine; decide, fun z hz => ⟨_, rfl, z, _, _, _, rfl, rfl, SqL.of upd_same, at0', ?_⟩⟩
  have s5 := same_upd (o := .lst [.int 0, .int (pick % 5), .int big]) hz
  refine ⟨Nat.zero_le _, fun la hla => ⟨Nat.zero_le _, fun sn hsn => ⟨Nat.zero_le _, fun ga hga => ?_⟩⟩⟩
  have s6 := same_upd (o := .lst []) hla
  have s7 := same_upd (o := .lst []) hsn
  have s8 := same_upd (o := .lst []) hga
  obtain ⟨G2, e2⟩ : ∃ G2, G2 = upd (upd (upd (upd (upd G1 b (.dK [])) z (.lst [.int 0, .int (pick % 5), .int big])) la (.lst [])) sn (.lst [])) ga (.lst []) := ⟨_, rfl⟩
  have kb0 : G2 b = some (.dK []) := by rw [e2]; exact s8 _ _ (s7 _ _ (s6 _ _ (s5 _ _ upd_same)))
  have kla0 : G2 la = some (.lst []) := by rw [e2]; exact s8 _ _ (s7 _ _ upd_same)
  have ksn0 : G2 sn = some (.lst []) := by rw [e2]; exact s8 _ _ upd_same
  have kga0 : G2 ga = some (.lst []) := by rw [e2]; exact upd_same
  have n_sl : sn ≠ la := (ne_of_none upd_same hsn).symm
  have n_gs : ga ≠ sn := (ne_of_none upd_same hga).symm
  have n_gl : ga ≠ la := (ne_of_none (s7 _ _ upd_same) hga).symm
  have sC : Same G1 G2 := by rw [e2]; exact ((((s4.trans s5).trans s6).trans s7).trans s8)
  rw [← e2]
  refine ⟨kb0, [(kS "count", .int cnt0), (kS "live", .ref la), (kS "held", .non), (kS "since", .ref sn), (kS "gone", .ref ga)], rfl, by show 5 ≤ 15; decide, ?_⟩
  show gName 5 (V.ref b) _ (upd G2 b (.dK (mergeK [] (boxW5 cnt0 la .non sn ga)))) _
  rw [mergeW5]
  have nb : ∀ {a : Addr} {xs : List V}, G2 a = some (.lst xs) → a ≠ b := fun h => ne_of h kb0 (by intro z; cases z)
  have fr2 : Fresh [ga, sn, la] G2 := by
    rw [e2]
    exact ((Fresh.nil.new hla).new hsn).new hga
  obtain ⟨G3, e3⟩ : ∃ G3, G3 = upd G2 b (.dK (boxW5 cnt0 la .non sn ga)) := ⟨_, rfl⟩
  have kb3 : G3 b = some (.dK (boxW5 cnt0 la .non sn ga)) := by rw [e3]; exact upd_same
  have kla3 : G3 la = some (.lst []) := by rw [e3, upd_ne (nb kla0)]; exact kla0
  have ksn3 : G3 sn = some (.lst []) := by rw [e3, upd_ne (nb ksn0)]; exact ksn0
  have kga3 : G3 ga = some (.lst []) := by rw [e3, upd_ne (nb kga0)]; exact kga0
  have fr3 : Fresh [ga, sn, la] G3 := by rw [e3]; exact fr2.put
  have s13 : Same G1 G3 := fun a o e => by rw [e3, upd_ne (ne_of_none e hb)]; exact sC _ _ e
  rw [← e3]
  clear e3 e2 nb kb0 kla0 ksn0 kga0 fr2 sC n_sl n_gs n_gl
  refine ⟨by show 1 ≤ sizeLine; decide, fun z2 hz2 => ⟨z2, 9, _, rfl, rfl, upd_same, by decide, by decide, by decide, fun fa hfa => ?_⟩⟩
  have sx := (same_upd (o := .lst [V.int 0]) hz2).trans (same_upd (o := .lst (List.replicate (Int.toNat 9) [V.int 0]).flatten) hfa)
  refine ⟨_, rfl, b, _, rfl, .inl ⟨_, kS "floor", sx _ _ kb3, rfl, (by show 5 < sizeLine; decide), rfl⟩, ?_⟩
  rw [mkW_fa]
  obtain ⟨G4, e4⟩ : ∃ G4, G4 = upd (upd (upd G3 z2 (.lst [V.int 0])) fa (.lst (List.replicate (Int.toNat 9) [V.int 0]).flatten)) b (.dK (boxW6 cnt0 la .non sn ga fa)) := ⟨_, rfl⟩
  have nb : ∀ {a : Addr} {xs : List V}, (upd (upd G3 z2 (.lst [V.int 0])) fa (.lst (List.replicate (Int.toNat 9) [V.int 0]).flatten)) a = some (.lst xs) → a ≠ b := fun h => ne_of h (sx _ _ kb3) (by intro z; cases z)
  have up : ∀ {a : Addr} {xs : List V}, (upd (upd G3 z2 (.lst [V.int 0])) fa (.lst (List.replicate (Int.toNat 9) [V.int 0]).flatten)) a = some (.lst xs) → G4 a = some (.lst xs) := fun h => by rw [e4, upd_ne (nb h)]; exact h
  have kb4 : G4 b = some (.dK (boxW6 cnt0 la .non sn ga fa)) := by rw [e4]; exact upd_same
  have kla4 := up (sx _ _ kla3)
  have ksn4 := up (sx _ _ ksn3)
  have kga4 := up (sx _ _ kga3)
  have kfa4 : G4 fa = some (.lst (([0, 0, 0, 0, 0, 0, 0, 0, 0] : List Int).map V.int)) := up upd_same
  have fr4 : Fresh (fa :: [ga, sn, la]) G4 := by
    rw [e4]
    exact ((fr3.same (same_upd hz2)).new hfa).put
  have s14 : Same G1 G4 := fun a o e => by
    have := sx _ _ (s13 _ _ e)
    rw [e4, upd_ne (fun z => by rw [z, hb] at e; cases e)]
    exact this
  rw [← e4]
  clear e4 nb
  refine ⟨by show 1 ≤ sizeLine; decide, fun z2 hz2 => ⟨z2, 9, _, rfl, rfl, upd_same, by decide, by decide, by decide, fun ta hta => ?_⟩⟩
  have sx := (same_upd (o := .lst [V.non]) hz2).trans (same_upd (o := .lst (List.replicate (Int.toNat 9) [V.non]).flatten) hta)
  refine ⟨_, rfl, b, _, rfl, .inl ⟨_, kS "turned", sx _ _ kb4, rfl, (by show 6 < sizeLine; decide), rfl⟩, ?_⟩
  rw [mkW_ta]
  obtain ⟨G5, e5⟩ : ∃ G5, G5 = upd (upd (upd G4 z2 (.lst [V.non])) ta (.lst (List.replicate (Int.toNat 9) [V.non]).flatten)) b (.dK (boxW7 cnt0 la .non sn ga fa ta)) := ⟨_, rfl⟩
  have nb : ∀ {a : Addr} {xs : List V}, (upd (upd G4 z2 (.lst [V.non])) ta (.lst (List.replicate (Int.toNat 9) [V.non]).flatten)) a = some (.lst xs) → a ≠ b := fun h => ne_of h (sx _ _ kb4) (by intro z; cases z)
  have up : ∀ {a : Addr} {xs : List V}, (upd (upd G4 z2 (.lst [V.non])) ta (.lst (List.replicate (Int.toNat 9) [V.non]).flatten)) a = some (.lst xs) → G5 a = some (.lst xs) := fun h => by rw [e5, upd_ne (nb h)]; exact h
  have kb5 : G5 b = some (.dK (boxW7 cnt0 la .non sn ga fa ta)) := by rw [e5]; exact upd_same
  have kla5 := up (sx _ _ kla4)
  have ksn5 := up (sx _ _ ksn4)
  have kga5 := up (sx _ _ kga4)
  have kta5 : G5 ta = some (.lst (List.replicate 9 V.non)) := up upd_same
  have fr5 : Fresh (ta :: [fa, ga, sn, la]) G5 := by
    rw [e5]
    exact ((fr4.same (same_upd hz2)).new hta).put
  have s15 : Same G1 G5 := fun a o e => by
    have := sx _ _ (s14 _ _ e)
    rw [e5, upd_ne (fun z => by rw [z, hb] at e; cases e)]
    exact this
  have kfa5 := up (sx _ _ kfa4)
  rw [← e5]
  clear e5 nb
  refine ⟨by show 1 ≤ sizeLine; decide, fun z2 hz2 => ⟨z2, 9, _, rfl, rfl, upd_same, by decide, by decide, by decide, fun wa hwa => ?_⟩⟩
  have sx := (same_upd (o := .lst [V.bl false]) hz2).trans (same_upd (o := .lst (List.replicate (Int.toNat 9) [V.bl false]).flatten) hwa)
  refine ⟨_, rfl, b, _, rfl, .inl ⟨_, kS "waited", sx _ _ kb5, rfl, (by show 7 < sizeLine; decide), rfl⟩, ?_⟩
  rw [mkW_wa]
  obtain ⟨G6, e6⟩ : ∃ G6, G6 = upd (upd (upd G5 z2 (.lst [V.bl false])) wa (.lst (List.replicate (Int.toNat 9) [V.bl false]).flatten)) b (.dK (boxW cnt0 la .non sn ga fa ta wa)) := ⟨_, rfl⟩
  have nb : ∀ {a : Addr} {xs : List V}, (upd (upd G5 z2 (.lst [V.bl false])) wa (.lst (List.replicate (Int.toNat 9) [V.bl false]).flatten)) a = some (.lst xs) → a ≠ b := fun h => ne_of h (sx _ _ kb5) (by intro z; cases z)
  have up : ∀ {a : Addr} {xs : List V}, (upd (upd G5 z2 (.lst [V.bl false])) wa (.lst (List.replicate (Int.toNat 9) [V.bl false]).flatten)) a = some (.lst xs) → G6 a = some (.lst xs) := fun h => by rw [e6, upd_ne (nb h)]; exact h
  have kb6 : G6 b = some (.dK (boxW cnt0 la .non sn ga fa ta wa)) := by rw [e6]; exact upd_same
  have kla6 := up (sx _ _ kla5)
  have ksn6 := up (sx _ _ ksn5)
  have kga6 := up (sx _ _ kga5)
  have kwa6 : G6 wa = some (.lst ((List.replicate 9 false).map V.bl)) := up upd_same
  have fr6 : Fresh (wa :: [ta, fa, ga, sn, la]) G6 := by
    rw [e6]
    exact ((fr5.same (same_upd hz2)).new hwa).put
  have s16 : Same G1 G6 := fun a o e => by
    have := sx _ _ (s15 _ _ e)
    rw [e6, upd_ne (fun z => by rw [z, hb] at e; cases e)]
    exact this
  have kfa6 := up (sx _ _ kfa5)
  have kta6 := up (sx _ _ kta5)
  rw [← e6]
  clear e6 nb
  refine ⟨_, _, rfl, ⟨by decide, by decide, by decide, by decide⟩, fun se hse => ?_⟩
  refine lc_range (lo := 9) (n := _) (fun i G => Same G6 G ∧ ∃ zs : List V, zs.length = i ∧ G se = some (.lst zs)) ⟨same_upd hse, [], rfl, upd_same⟩ ?_ ?_
  · rintro i G hi ⟨sG, zs, lz, kD⟩
    have i51 : i < 51 := hi
    refine ⟨rfl, lc_yes ?_⟩
    refine ⟨_, rfl, _, rfl, by show 2 ≤ sizeLine; decide, fun t ht => ?_⟩
    have st := same_upd (o := .tup [.int me, .int (9 + (i : Int))]) ht
    refine ⟨_, st _ _ kD, Nat.lt_of_lt_of_le (show zs.length < 100 by omega) (by decide), fun c o e => ?_, zs ++ [.ref t], by rw [List.length_append, lz]; rfl, upd_same⟩
    rw [upd_ne (ne_of_none e hse)]
    exact st _ _ (sG _ _ e)
  rintro G7 ⟨s67, zs, lz, kse⟩
  have s17 := s16.trans s67
  refine ⟨_, rfl, _, rfl, _, rfl, _, _, rfl, rfl, wide_div (b := 10) (by decide) (by decide) (by decide) (by decide), _, _, rfl, rfl, (by show (0 : Int) < 51; decide), _, rfl, b, _, rfl, .inl ⟨_, kS "count", .inl (s67 _ _ kb6), rfl, (boxW_cn _ _ _ _ _ _ _ _).symm⟩, rfl, rfl, fun y dy hy hdy ne => ?_⟩
  have sy := (same_upd (o := .own y) hdy).trans (same_upd (o := .ins C dy []) (by rw [upd_ne ne.symm]; exact hy))
  refine ⟨y, dy, se, me, cnt0, pick / 5 % 51, zs, rfl, upd_same, sy _ _ kse, fun dk ddx G8 c8 V8 => ⟨rfl, ?_⟩⟩
  have s78 : Same G7 G8 := fun b o e => c8 _ _ (ne_of_none e hy) (sy _ _ e)
  have s68 := s67.trans s78
  have s18 := s17.trans s78
  refine ⟨_, rfl, a, ns, rfl, s18.seq hS1, len, bits, fun cl G9 cs hcl s89 kcl lc bc => ?_⟩
  have s69 := s68.trans s89
  have fr8 := fr6.same s68
  have nd9 : [cl, la, sn, ga, fa, ta, wa].Nodup := by
    have h1 : cl ∉ [wa, ta, fa, ga, sn, la] := fun m => fr8.2 _ m hcl
    have h2 : [la, sn, ga, fa, ta, wa].Nodup := ((List.reverse_perm [wa, ta, fa, ga, sn, la]).nodup_iff).mpr fr8.1
    exact List.nodup_cons.mpr ⟨fun m => h1 (List.mem_reverse.mp m), h2⟩
  have ta0 : TuAt K G9 (List.replicate 9 V.non) (List.replicate 9 none) := ⟨rfl, fun i v o h1 h2 => .inl ⟨rep_at h1, rep_at h2⟩⟩
  have W9 : Wo K G9 b cl la sn ga fa ta wa .non cs cnt0 [] none [] [] [0, 0, 0, 0, 0, 0, 0, 0, 0] (List.replicate 9 none) (List.replicate 9 false) :=
    ⟨s69 _ _ kb6, kcl, ⟨[], s69 _ _ kla6, .nil⟩, .inl ⟨rfl, rfl⟩, ⟨[], s69 _ _ ksn6, .nil⟩, s69 _ _ kga6, s69 _ _ kfa6, ⟨_, s69 _ _ kta6, ta0⟩, s69 _ _ kwa6, nd9⟩
  have tu0 : ∀ (i : Nat) k, (List.replicate 9 (none : Option (List Int)))[i]? = some (some k) → StB (((0 : Nat) + 1 : Int) * 10 ^ 40) k := fun i k e => by
    have := rep_at e
    cases this
  have fl0 : ∀ x ∈ ([0, 0, 0, 0, 0, 0, 0, 0, 0] : List Int), 0 ≤ x ∧ x ≤ (((0 : Nat) + 1 : Int) * 10 ^ 40) := fun x hx => by
    have : x = 0 := by simpa using hx
    subst this
    exact ⟨Int.le_refl _, by omega⟩
  have I0 : In4 K C CD G9 b cl y dy dk ddx ga fa ta wa cs me (pick / 5 % 51) 0 := ⟨la, sn, .non, cnt0, [], none, [], [], _, _, _, [], false, [], V8.same s89, W9, ⟨(fun _ => rfl), (fun k e => nomatch e), (fun h => absurd rfl h), List.Pairwise.nil, (fun k h => absurd h List.not_mem_nil), tu0, rfl, rfl, rfl, fl0, n0, by omega⟩, rfl, Dat.empty, .refl _, .nil, Nat.le_refl _, Nat.le_refl _, Nat.le_refl _⟩
  refine ⟨_, rfl, ⟨_, SqL.of kcl⟩, ?_⟩
  refine for_list (K := K) (a := cl) (xs := cs.map V.int) (fun j σ G => (∃ z2 z7 z9 z10 z11 z12 z13 z14 z15 z16 z17 z18 : Option V, σ = [some (V.ref a), some (V.int me), z2, some (V.int way), some (V.int big), some (V.ref b), some (V.ref se), z7, some (V.ref y), z9, z10, z11, z12, z13, z14, z15, z16, z17, z18]) ∧ In4 K C CD G b cl y dy dk ddx ga fa ta wa cs me (pick / 5 % 51) j)
    ⟨⟨_, _, _, _, _, _, _, _, _, _, _, _, rfl⟩, I0⟩ ?_ ?_ ?_
  · rintro j σ G _ ⟨_, la, sn, hv, cnt, lv, hd, sv, gn, fl, tu, wt, kn, bb, M, V, W, _⟩
    exact SqL.of W.kC
  · rintro j x σ G hj ⟨⟨z2, z7, z9, z10, z11, z12, z13, z14, z15, z16, z17, z18, rfl⟩, la, sn, hv, cnt, lv, hd, sv, gn, fl, tu, wt, kn, bb, M, V0, W, PI, hbb, Da, pk, uk, ll, ls, lg⟩
    obtain ⟨c', hc', rfl⟩ : ∃ v, v ∈ cs ∧ x = V.int v := by
      rw [List.getElem?_map] at hj
      cases e : cs[j]? with
      | none => rw [e] at hj; cases hj
      | some u => rw [e] at hj; cases hj; exact ⟨u, List.mem_of_getElem? e, rfl⟩
    have j63 : j < 63 := by
      have := (List.getElem?_eq_some_iff.mp hj).1
      rw [List.length_map] at this
      omega
    have p42 : (10 : Int) ^ 42 = 1000000000000000000000000000000000000000000 := by decide
    obtain ⟨B, eB⟩ : ∃ B, B = ((j : Int) + 1) * 10 ^ 40 := ⟨_, rfl⟩
    have B42 : B + 10 ^ 40 ≤ 10 ^ 42 := by rw [eB, pp, p42]; omega
    have eB2 : (((j + 1 : Nat) : Int) + 1) * 10 ^ 40 = B + 10 ^ 40 := by rw [eB, pp]; omega
    rw [← eB] at PI
    refine ⟨_, rfl, _, _, rfl, rfl, ⟨by decide, by decide, by decide⟩, by show 4 ≤ sizeLine; decide, fun T0 hT0 => ?_⟩
    refine ⟨T0, c', [16, 40320, 3, 10 ^ (Int.toNat 40)], rfl, upd_same, bc c' hc', fun x hx => ?_, by decide, fun l1 ds1 hl1 lds1 bl1 => ?_⟩
    · simp only [List.mem_cons, List.not_mem_nil, or_false] at hx
      rcases hx with rfl | rfl | rfl | rfl <;> exact ⟨by decide, by decide⟩
    have sa1 := same_upd (o := .lst [.int 16, .int 40320, .int 3, .int (10 ^ (Int.toNat 40))]) hT0
    have sa2 := same_upd (o := .lst (ds1.map V.int)) hl1
    obtain ⟨kind, pk1, low, many, rfl⟩ := four lds1
    obtain ⟨_, hm, k0, k1⟩ := bl1 0 kind rfl
    cases hm
    obtain ⟨_, hm, q0, q1⟩ := bl1 1 pk1 rfl
    cases hm
    obtain ⟨_, hm, lo0, lo1⟩ := bl1 2 low rfl
    cases hm
    obtain ⟨_, hm, my0, my1⟩ := bl1 3 many rfl
    cases hm
    rw [p40] at my1
    have sa := sa1.trans sa2
    obtain ⟨A1, eA1⟩ : ∃ A1, A1 = upd (upd G T0 (.lst [.int 16, .int 40320, .int 3, .int (10 ^ (Int.toNat 40))])) l1 (.lst ([kind, pk1, low, many].map V.int)) := ⟨_, rfl⟩
    have kl1 : A1 l1 = some (.lst ([kind, pk1, low, many].map V.int)) := by rw [eA1]; exact upd_same
    rw [← eA1] at sa
    rw [← eA1]
    refine ⟨l1, _, rfl, SqL.of kl1, rfl, _, _, rfl, _, _, rfl, _, _, rfl, _, _, rfl, rfl, ?_⟩
    have V1 := V0.same sa
    have W1 := W.same sa
    refine ⟨_, rfl, by decide, by decide, fun J hJ => ?_⟩
    refine lc_range (lo := 0) (n := 9) (fun i G => Same A1 G ∧ ∃ al : List Int, al.length ≤ i ∧ G J = some (.lst (al.map V.int)) ∧ ∀ x ∈ al, 0 ≤ x ∧ x < 9) ⟨same_upd hJ, [], Nat.le_refl _, upd_same, fun x hx => absurd hx List.not_mem_nil⟩ ?_ ?_
    · rintro i G hi ⟨sG, al, lal, kJ, bal⟩
      have i9 : i < 9 := hi
      have W2 := W1.same sG
      refine ⟨rfl, _, rfl, _, rfl, rfl, _, rfl, ?_⟩
      refine ite2 (fun cA => ?_) (fun cA => ?_)
      · refine ⟨_, rfl, _, rfl, b, _, rfl, .inl ⟨_, kS "gone", .inl W2.kb, rfl, (boxW_ga _ _ _ _ _ _ _ _).symm⟩, .inl ⟨ga, _, rfl, .inl (SqL.of W2.kG), rfl, flat_ints _, _, rfl, ?_⟩⟩
        refine ite2 (fun cB => ?_) (fun cB => ?_)
        · refine ⟨_, rfl, _, kJ, by rw [List.length_map]; exact Nat.lt_of_lt_of_le (show al.length < 100 by omega) (by decide), fun c o e => ?_, al ++ [0 + (i : Int)], by rw [List.length_append, List.length_singleton]; omega, by rw [upd_same, List.map_append]; rfl, fun x hx => ?_⟩
          · rw [upd_ne (ne_of_none e hJ)]
            exact sG _ _ e
          · rcases List.mem_append.mp hx with z | z
            · exact bal x z
            · rw [List.mem_singleton.mp z]
              omega
        · exact ⟨sG, al, by omega, kJ, bal⟩
      · exact ⟨sG, al, by omega, kJ, bal⟩
    rintro A2 ⟨sJ, al, lal, kJ, bal⟩
    have V2 := V1.same sJ
    have W2 := W1.same sJ
    refine ⟨_, rfl, Nat.zero_le _, fun e he => ?_⟩
    have se := same_upd (o := .lst []) he
    refine ⟨.list (al.map PyData.int), .list [], dp_ints (se _ _ kJ), .lst (SqL.of upd_same) .nil, shaped_ints _, by decide, _, rfl, ?_⟩
    rw [eqv_nilI]
    have st10 : ∀ k ∈ lv, StN k := fun k hk => stn_of (PI.ok k hk) (by omega)
    obtain ⟨A3, eA3⟩ : ∃ A3, A3 = upd A2 e (.lst []) := ⟨_, rfl⟩
    rw [← eA3] at se
    rw [← eA3]
    have V3 := V2.same se
    have W3 := W2.same se
    have kJ3 := se _ _ kJ
    have lkn := pk.length_eq
    by_cases ca : al = []
    · refine iteT' (decide_eq_true ca) ?_
      exact ⟨_, rfl, _, rfl, y, dy, dk, ddx, b, cl, la, sn, ga, fa, ta, wa, hv, cs, gn, fl, kn, me, cnt, _, lv, sv, M, hd, tu, wt, bb, rfl, V3, W3, hbb, Da.rest st10, by omega, pk, uk, by omega, fun H' _ => q H'⟩
    · refine iteF' (decide_eq_false ca) ?_
      have apos : 0 < al.length := List.length_pos_iff.mpr ca
      obtain ⟨seat, ms, ats⟩ := at_ints (ns := al) (d := pk1 % (al.length : Int)) (Int.emod_nonneg _ (by omega)) (Int.emod_lt_of_pos _ (by omega))
      obtain ⟨se0, se1⟩ := bal seat ms
      have lall : (al.map V.int).length = al.length := List.length_map _
      refine ⟨_, rfl, _, rfl, _, rfl, _, rfl, _, rfl, J, _, rfl, .inl (SqL.of kJ3), _, _, rfl, rfl, (by rw [lall]; show (0 : Int) < (al.length : Int); omega), J, _, _, _, rfl, rfl, SqL.of kJ3, (by rw [lall]; exact ats), ?_⟩
      refine ⟨_, rfl, _, rfl, by show 2 ≤ sizeLine; decide, fun zz hzz => ?_⟩
      have sz := same_upd (o := .lst [.int low, .int many]) hzz
      obtain ⟨more, atm, mo0, mo1⟩ : ∃ more : Int, atI [V.int low, .int many] (if decide (kind % 4 = 0) = true then 1 else 0) = some (.int more) ∧ 0 ≤ more ∧ more < 10 ^ 40 := by
        by_cases c4 : kind % 4 = 0
        · rw [decide_eq_true c4]
          exact ⟨many, (show atI _ ((1 : Nat) : Int) = _ from atI_nat rfl), my0, my1⟩
        · rw [decide_eq_false c4]
          exact ⟨low, (show atI _ ((0 : Nat) : Int) = _ from atI_nat rfl), lo0, by omega⟩
      refine ⟨_, rfl, _, _, rfl, rfl, (by show (0 : Int) < 4; decide), rfl, .inr ⟨_, by rw [dec_ii], zz, _, _, _, rfl, rfl, SqL.of upd_same, atm, ?_⟩⟩
      have V4 := V3.same sz
      have W4 := W3.same sz
      refine ⟨b, cl, la, sn, ga, fa, ta, wa, hv, cs, gn, fl, cnt, B, kind, seat, more, lv, sv, hd, tu, wt, rfl, W4, PI, by omega, se0, se1, mo0, mo1, k0, fun T0 t A5 Dd sd hT hst okD => ?_⟩
      have V5 := V4.same sd
      have W5 := W4.same sd
      refine ⟨T0, _, rfl, hT, rfl, _, _, rfl, _, _, rfl, rfl, ?_⟩
      refine ⟨_, rfl, _, rfl, _, rfl, _, rfl, b, cl, la, sn, ga, fa, ta, wa, t, hv, _, cs, gn, fl, cnt, B, kind, lv, sv, hd, tu, wt, Dd, seat, rfl, rfl, hst, W5, PI, by omega, by omega, by omega, by omega, se0, se1, okD, fun l2 zs2 ds A6 hv' la' sn' cnt' lv' m' sv' gn' fl' tu' wt' f56 W6 kl2 dz2 R L4 => ?_⟩
      have V6 := V5.fri f56
      have hst6 := sqt_fri f56 hst
      obtain ⟨fs6, hp6, hno6⟩ := V6.hpx "gone"
      obtain ⟨fs7, hp7, hno7⟩ := V6.hpx "hear"
      have lM := Da.lenM
      have ndl := nodup_of PI.seats
      have okds := due_ds R
      have nxt : ∀ {M3 : List (List Int)}, Dat lv' M3 m' lv' → (sv' ≠ [] → m' ≠ none) → Pw cnt' (B + 10 ^ 40) lv' m' sv' fl' tu' wt' := fun d h => Pw.next PI R okD L4 d h
      cases Dd with
      | ask n =>
        obtain ⟨⟨c, s', u, rfl, o1, o2, o3, o4, o5, o6⟩, es, nok⟩ := okD
        have sb : StB (B + 10 ^ 40) [c, s', u] := ⟨c, s', u, rfl, o1, o2, o3, o4, o5, o6⟩
        have nin : [c, s', u] ∉ lv := fun m => nok _ m es
        refine ⟨_, rfl, rfl, _, rfl, iteF' (decide_eq_false fun h => (show ¬ (("ask" : Str) = "gone") by decide +kernel) (L2.V.str.inj h)) ?_⟩
        refine ⟨_, rfl, y, dy, _, rfl, hp7, hno7, _, rfl, t, _, _, _, rfl, rfl, hst6, atI_nat (j := 1) rfl, _, rfl, _, rfl, t, _, _, _, rfl, rfl, hst6, atI_nat (j := 0) rfl, _, rfl, t, _, _, _, rfl, rfl, hst6, atI_nat (j := 2) rfl, by show 3 ≤ sizeLine; decide, fun lt hlt => ?_⟩
        have slt := same_upd (o := .tup [.str "ask", .int c, .int u]) hlt
        have Vl := V6.same slt
        have f6l := Same.frl slt
        refine .inl ⟨y, dy, dk, ddx, lt, me, cnt, _, c, s', u, kn, bb, M, hd, rfl, Vl, by omega, stn_of sb B42, SqT.of upd_same, fun l3 A7 b3 M3 m3 zs3 ds3 f V7 k3 dz3 AR => ?_⟩
        have f67 := f6l.trans f
        have bo : Both lv' sv' M3 m3 m' b3 ds3 ds j := by
          obtain ⟨x1, x2, x3, x4, x5, x6⟩ := ask_both Da hbb PI.hs st10 (stn_of sb B42) nin AR R R.1.symm
          exact ⟨x1, x2, x3, x4, x5, by omega, by rw [R.2.1, List.length_append, List.length_singleton]; omega⟩
        have ec : (if c > cnt then c else cnt) = cnt' := R.1.symm
        rw [ec] at V7
        have eg := R.2.2.1
        subst eg
        have pk3 := pk
        have uk3 := uk
        have lg3 : gn'.length ≤ j + 1 := by omega
        obtain ⟨em, ed, Da3, hb3, hs3, lsv, llv⟩ := bo
        try subst em
        try subst ed
        have W7 := W6.frl f67
        have P7 := nxt Da3 hs3
        have st7 : ∀ k ∈ _, StN k := fun k hk => stn_of (P7.ok k hk) B42
        refine ⟨_, rfl, _, rfl, _, _, rfl, .inr ⟨l3, l2, zs3, zs2, _, 2, rfl, rfl, k3, f67 _ _ kl2 (fun _ _ _ z => nomatch z), dz3, dps_frl f67 _ _ dz2, rfl, okds.1, okds.2⟩, _, rfl, iteF' rfl ?_⟩
        refine ⟨_, rfl, _, rfl, y, dy, dk, ddx, b, cl, la', sn', ga, fa, ta, wa, hv', cs, _, fl', _, me, _, _, _, _, _, _, tu', wt', _, rfl, V7, W7, hb3, Da3.rest st7, by omega, pk3, uk3, by have := pk3.length_eq; omega, fun H9 s79 => ⟨_, rfl, iteF' rfl ?_⟩⟩
        refine ⟨⟨_, _, _, _, _, _, _, _, _, _, _, _, rfl⟩, la', sn', hv', _, _, _, _, _, fl', tu', wt', _, _, _, V7.same s79, W7.same s79, ?_, hb3, Da3, pk3, uk3, llv, lsv, lg3⟩
        rw [eB2]
        exact P7
      | giv n =>
        obtain ⟨ehd, sne⟩ := okD
        subst ehd
        obtain ⟨c, s', u, rfl, o1, o2, o3, o4, o5, o6⟩ := PI.ok n (PI.hm n rfl)
        obtain ⟨rfl, rfl, rfl, Vt, rfl⟩ := R
        refine ⟨_, rfl, rfl, _, rfl, iteF' (decide_eq_false fun h => (show ¬ (("given" : Str) = "gone") by decide +kernel) (L2.V.str.inj h)) ?_⟩
        refine ⟨_, rfl, y, dy, _, rfl, hp7, hno7, _, rfl, t, _, _, _, rfl, rfl, hst6, atI_nat (j := 1) rfl, _, rfl, _, rfl, t, _, _, _, rfl, rfl, hst6, atI_nat (j := 0) rfl, _, rfl, t, _, _, _, rfl, rfl, hst6, atI_nat (j := 2) rfl, by show 3 ≤ sizeLine; decide, fun lt hlt => ?_⟩
        have slt := same_upd (o := .tup [.str "given", .int c, .int u]) hlt
        have Vl := V6.same slt
        have f6l := Same.frl slt
        refine .inr ⟨y, dy, dk, ddx, lt, me, cnt', _, c, s', u, kn, bb, M, _, rfl, Vl, by omega, st10 _ (PI.hm _ rfl), .inl ⟨SqT.of upd_same, rfl, fun l3 A7 M3 m3 zs3 ds3 A f V7 k3 dz3 pA uA Fr => ?_⟩⟩
        have f67 := f6l.trans f
        have bo : Both lv' [] M3 m3 m' false ds3 ds j := both_free (pA.trans Da.whole) uA st10 ndl Fr Vt rfl (by omega)
        have pk3 := pk
        have uk3 := uk
        have lg3 : gn'.length ≤ j + 1 := by omega
        obtain ⟨em, ed, Da3, hb3, hs3, lsv, llv⟩ := bo
        try subst em
        try subst ed
        have W7 := W6.frl f67
        have P7 := nxt Da3 hs3
        have st7 : ∀ k ∈ _, StN k := fun k hk => stn_of (P7.ok k hk) B42
        refine ⟨_, rfl, _, rfl, _, _, rfl, .inr ⟨l3, l2, zs3, zs2, _, 2, rfl, rfl, k3, f67 _ _ kl2 (fun _ _ _ z => nomatch z), dz3, dps_frl f67 _ _ dz2, rfl, okds.1, okds.2⟩, _, rfl, iteF' rfl ?_⟩
        refine ⟨_, rfl, _, rfl, y, dy, dk, ddx, b, cl, la', sn', ga, fa, ta, wa, hv', cs, _, fl', _, me, _, _, _, _, _, _, tu', wt', _, rfl, V7, W7, hb3, Da3.rest st7, by omega, pk3, uk3, by have := pk3.length_eq; omega, fun H9 s79 => ⟨_, rfl, iteF' rfl ?_⟩⟩
        refine ⟨⟨_, _, _, _, _, _, _, _, _, _, _, _, rfl⟩, la', sn', hv', _, _, _, _, _, fl', tu', wt', _, _, _, V7.same s79, W7.same s79, ?_, hb3, Da3, pk3, uk3, llv, lsv, lg3⟩
        rw [eB2]
        exact P7
      | don n =>
        have hn : n ∈ lv := okD
        obtain ⟨c, s', u, rfl, o1, o2, o3, o4, o5, o6⟩ := PI.ok n hn
        obtain ⟨rfl, el, rfl, L⟩ := R
        rw [filt_seat PI.seats hn] at el
        refine ⟨_, rfl, rfl, _, rfl, iteF' (decide_eq_false fun h => (show ¬ (("done" : Str) = "gone") by decide +kernel) (L2.V.str.inj h)) ?_⟩
        refine ⟨_, rfl, y, dy, _, rfl, hp7, hno7, _, rfl, t, _, _, _, rfl, rfl, hst6, atI_nat (j := 1) rfl, _, rfl, _, rfl, t, _, _, _, rfl, rfl, hst6, atI_nat (j := 0) rfl, _, rfl, t, _, _, _, rfl, rfl, hst6, atI_nat (j := 2) rfl, by show 3 ≤ sizeLine; decide, fun lt hlt => ?_⟩
        have slt := same_upd (o := .tup [.str "done", .int c, .int u]) hlt
        have Vl := V6.same slt
        have f6l := Same.frl slt
        refine .inr ⟨y, dy, dk, ddx, lt, me, cnt', _, c, s', u, kn, bb, M, hd, rfl, Vl, by omega, st10 _ hn, .inr ⟨SqT.of upd_same, ?_⟩⟩
        have pk3 := pk
        have uk3 := uk
        have lg3 : gn'.length ≤ j + 1 := by omega
        by_cases e : hd = some [c, s', u]
        · rw [if_pos e]
          intro l3 A7 M3 m3 zs3 ds3 f V7 k3 dz3 Fr
          have f67 := f6l.trans f
          have L : VoteR lv' cnt' m' ds ∧ sv' = [] := by
            unfold LeftR at L
            rw [if_pos (by rw [e]; exact decide_eq_true rfl)] at L
            exact L
          obtain ⟨Vt, rfl⟩ := L
          have bo : Both lv' [] M3 m3 m' false ds3 ds j := by
            subst e
            exact both_free (by rw [el]; exact Da.done) Da.up (fun k hk => by rw [el] at hk; exact st10 k (List.mem_filter.mp hk).1) (by rw [el]; exact ndl.filter _) Fr Vt rfl (by rw [el]; exact filt_len ll)
          obtain ⟨em, ed, Da3, hb3, hs3, lsv, llv⟩ := bo
          try subst em
          try subst ed
          have W7 := W6.frl f67
          have P7 := nxt Da3 hs3
          have st7 : ∀ k ∈ _, StN k := fun k hk => stn_of (P7.ok k hk) B42
          refine ⟨_, rfl, _, rfl, _, _, rfl, .inr ⟨l3, l2, zs3, zs2, _, 2, rfl, rfl, k3, f67 _ _ kl2 (fun _ _ _ z => nomatch z), dz3, dps_frl f67 _ _ dz2, rfl, okds.1, okds.2⟩, _, rfl, iteF' rfl ?_⟩
          refine ⟨_, rfl, _, rfl, y, dy, dk, ddx, b, cl, la', sn', ga, fa, ta, wa, hv', cs, _, fl', _, me, _, _, _, _, _, _, tu', wt', _, rfl, V7, W7, hb3, Da3.rest st7, by omega, pk3, uk3, by have := pk3.length_eq; omega, fun H9 s79 => ⟨_, rfl, iteF' rfl ?_⟩⟩
          refine ⟨⟨_, _, _, _, _, _, _, _, _, _, _, _, rfl⟩, la', sn', hv', _, _, _, _, _, fl', tu', wt', _, _, _, V7.same s79, W7.same s79, ?_, hb3, Da3, pk3, uk3, llv, lsv, lg3⟩
          rw [eB2]
          exact P7
        · rw [if_neg e]
          intro l3 A7 f V7 k3
          have f67 := f6l.trans f
          have nis : ¬ (isSeat hd (seatN [c, s', u]) = true) := fun z => by
            cases hd with
            | none => cases z
            | some k => exact e (by rw [seat_inj PI.seats (PI.hm k rfl) hn (of_decide_eq_true z)])
          have L : m' = hd ∧ sv' = sv ∧ ds = [] := by
            unfold LeftR at L
            rw [if_neg nis] at L
            exact L
          obtain ⟨rfl, rfl, rfl⟩ := L
          obtain ⟨zs3, ezs⟩ : ∃ zs3 : List L2.V, zs3 = [] := ⟨_, rfl⟩
          have dz3 : DpAll K A7 zs3 [] := by rw [ezs]; exact .nil
          rw [← ezs] at k3
          have bo : Both lv' sv' (M.filter fun y => !decide (y = [c, s', u])) m' m' bb [] [] j := by
            rw [el]
            exact both_stay Da (fun k ek => by simp; intro z; exact e (by rw [ek, z])) hbb PI.hs ll ls
          obtain ⟨em, ed, Da3, hb3, hs3, lsv, llv⟩ := bo
          try subst em
          try subst ed
          have W7 := W6.frl f67
          have P7 := nxt Da3 hs3
          have st7 : ∀ k ∈ _, StN k := fun k hk => stn_of (P7.ok k hk) B42
          refine ⟨_, rfl, _, rfl, _, _, rfl, .inr ⟨l3, l2, zs3, zs2, _, 2, rfl, rfl, k3, f67 _ _ kl2 (fun _ _ _ z => nomatch z), dz3, dps_frl f67 _ _ dz2, rfl, okds.1, okds.2⟩, _, rfl, iteF' rfl ?_⟩
          refine ⟨_, rfl, _, rfl, y, dy, dk, ddx, b, cl, la', sn', ga, fa, ta, wa, hv', cs, _, fl', _, me, _, _, _, _, _, _, tu', wt', _, rfl, V7, W7, hb3, Da3.rest st7, by omega, pk3, uk3, by have := pk3.length_eq; omega, fun H9 s79 => ⟨_, rfl, iteF' rfl ?_⟩⟩
          refine ⟨⟨_, _, _, _, _, _, _, _, _, _, _, _, rfl⟩, la', sn', hv', _, _, _, _, _, fl', tu', wt', _, _, _, V7.same s79, W7.same s79, ?_, hb3, Da3, pk3, uk3, llv, lsv, lg3⟩
          rw [eB2]
          exact P7
      | gon v =>
        obtain ⟨rfl, rfl, rfl, L⟩ := R
        refine ⟨_, rfl, rfl, _, rfl, iteT' (decide_eq_true rfl) ?_⟩
        refine ⟨_, rfl, y, dy, _, rfl, hp6, hno6, _, rfl, t, _, _, _, rfl, rfl, hst6, atI_nat (j := 1) rfl, y, dy, dk, ddx, me, cnt', _, v, kn, bb, M, hd, rfl, V6, by omega, by omega, ?_⟩
        have lg3 : (gn ++ [v]).length ≤ j + 1 := by rw [List.length_append, List.length_singleton]; omega
        by_cases e : isSeat hd v = true
        · rw [if_pos e]
          intro l3 A7 kn3 M3 m3 zs3 ds3 f67 pk0 uk3 V7 k3 dz3 Fr
          have pk3 := pk0.trans (pk.append_right [v])
          have L : VoteR (lv.filter fun k => !decide (seatN k = v)) cnt' m' ds ∧ sv' = [] := by
            unfold LeftR at L
            rw [if_pos e] at L
            exact L
          obtain ⟨Vt, rfl⟩ := L
          have bo : Both (lv.filter fun k => !decide (seatN k = v)) [] M3 m3 m' false ds3 ds j := by
            refine both_free ?_ (up_filter Da.up _) (fun k hk => st10 k (List.mem_filter.mp hk).1) (ndl.filter _) Fr Vt rfl (filt_len ll)
            cases hd with
            | none => cases e
            | some k => exact Da.gone _ (by rw [show seatN k = v from of_decide_eq_true e]; simp)
          obtain ⟨em, ed, Da3, hb3, hs3, lsv, llv⟩ := bo
          try subst em
          try subst ed
          have W7 := W6.frl f67
          have P7 := nxt Da3 hs3
          have st7 : ∀ k ∈ _, StN k := fun k hk => stn_of (P7.ok k hk) B42
          refine ⟨_, rfl, _, rfl, _, _, rfl, .inr ⟨l3, l2, zs3, zs2, _, 2, rfl, rfl, k3, f67 _ _ kl2 (fun _ _ _ z => nomatch z), dz3, dps_frl f67 _ _ dz2, rfl, okds.1, okds.2⟩, _, rfl, iteF' rfl ?_⟩
          refine ⟨_, rfl, _, rfl, y, dy, dk, ddx, b, cl, la', sn', ga, fa, ta, wa, hv', cs, _, fl', _, me, _, _, _, _, _, _, tu', wt', _, rfl, V7, W7, hb3, Da3.rest st7, by omega, pk3, uk3, by have := pk3.length_eq; omega, fun H9 s79 => ⟨_, rfl, iteF' rfl ?_⟩⟩
          refine ⟨⟨_, _, _, _, _, _, _, _, _, _, _, _, rfl⟩, la', sn', hv', _, _, _, _, _, fl', tu', wt', _, _, _, V7.same s79, W7.same s79, ?_, hb3, Da3, pk3, uk3, llv, lsv, lg3⟩
          rw [eB2]
          exact P7
        · rw [if_neg e]
          intro l3 A7 kn3 f67 pk0 uk3 V7 k3
          have pk3 := pk0.trans (pk.append_right [v])
          have L : m' = hd ∧ sv' = sv ∧ ds = [] := by
            unfold LeftR at L
            rw [if_neg e] at L
            exact L
          obtain ⟨rfl, rfl, rfl⟩ := L
          obtain ⟨zs3, ezs⟩ : ∃ zs3 : List L2.V, zs3 = [] := ⟨_, rfl⟩
          have dz3 : DpAll K A7 zs3 [] := by rw [ezs]; exact .nil
          rw [← ezs] at k3
          have bo : Both (lv.filter fun k => !decide (seatN k = v)) sv' (M.filter fun k => !decide (seatN k = v)) m' m' bb [] [] j :=
            both_stay Da (fun k ek => by simp; intro z; exact e (by rw [ek]; exact decide_eq_true z)) hbb PI.hs ll ls
          obtain ⟨em, ed, Da3, hb3, hs3, lsv, llv⟩ := bo
          try subst em
          try subst ed
          have W7 := W6.frl f67
          have P7 := nxt Da3 hs3
          have st7 : ∀ k ∈ _, StN k := fun k hk => stn_of (P7.ok k hk) B42
          refine ⟨_, rfl, _, rfl, _, _, rfl, .inr ⟨l3, l2, zs3, zs2, _, 2, rfl, rfl, k3, f67 _ _ kl2 (fun _ _ _ z => nomatch z), dz3, dps_frl f67 _ _ dz2, rfl, okds.1, okds.2⟩, _, rfl, iteF' rfl ?_⟩
          refine ⟨_, rfl, _, rfl, y, dy, dk, ddx, b, cl, la', sn', ga, fa, ta, wa, hv', cs, _, fl', _, me, _, _, _, _, _, _, tu', wt', _, rfl, V7, W7, hb3, Da3.rest st7, by omega, pk3, uk3, by have := pk3.length_eq; omega, fun H9 s79 => ⟨_, rfl, iteF' rfl ?_⟩⟩
          refine ⟨⟨_, _, _, _, _, _, _, _, _, _, _, _, rfl⟩, la', sn', hv', _, _, _, _, _, fl', tu', wt', _, _, _, V7.same s79, W7.same s79, ?_, hb3, Da3, pk3, uk3, llv, lsv, lg3⟩
          rw [eB2]
          exact P7
  · rintro σ G ⟨⟨z2, z7, z9, z10, z11, z12, z13, z14, z15, z16, z17, z18, rfl⟩, _⟩
    exact q _
end

end G0
namespace G0
open PySem PySem.Spec PyProof.Rows L2 NdefX ClX
/-! ### the whole -/
theorem me_of {P : Program} {w : World} {K : PySem.W.Frag} {mg : Str → Option Value} {base : Heap} {C : Addr} {x qual : Str} {st : Stmt} {k : Nat} {ps : List Str} {sp : Sp}
    (F : Fm K C x qual st) (ok : ∀ f fd, Fun K x qual st f fd → FnOk P w K mg base CX0 k f fd ps sp)
    (bd : ∀ (kV doc pm : Value) (an : Option Addr) (cdv ct : Value) (us : List Value), us.length = ps.length →
      bindArgs (PySem.W.fnOf x qual (defArgs st) (defBody st) (defScope st) .none kV doc pm an cdv ct) ⟨us, []⟩ = pure (ps.zip us)) :
    Me P w K mg base C x k ps sp := by
  obtain ⟨f, fd, F, m⟩ := F
  exact ⟨f, fd, ok f fd F, F.binds bd, m⟩
theorem made_of {P : Program} {w : World} {K : PySem.W.Frag} {mg : Str → Option Value} {base : Heap} {C CD fI cc cda Dk fS fK : Addr} {ocI dcI pmI ctI clI ccl : Value} {odI anI cldI cdd : Option Addr} {oslI csl ccs : Array (Option Value)} {vs : Array Value} {file : Str} {tf td : Tok} {cdD : ClassData} {fd2 fdK : FuncData}
    (T : BlD mg) (S : VoT K C) (mgC : mg "Voter" = some (.ref C)) (mk : PySem.W.makesIn K C = true) (kc : PySem.W.keepIn K (.ref C) = true)
    (FS : Fun K "__init__" "Seat.__init__" s_Seat__init fS fd2)
    (i1 : PySem.W.findIn K (.ref C) "__init__" = some (some (.ref fI))) (i2 : PySem.W.isFn K (.ref fI) = true)
    (i3 : K.lookup fI = some ⟨ocI, odI, .func (PySem.W.ksFn "__init__" "Voter.__init__" (defArgs s_Voter__init) (defBody s_Voter__init) (defScope s_Voter__init) .none (.ref Dk) dcI pmI anI (.ref cda) ctI cc), oslI⟩)
    (i4 : PySem.W.codeIn K (.ref cda) "Voter.__init__" = true) (i5 : K.lookup cc = some ⟨clI, cldI, .cell (some (.ref C)), csl⟩) (i6 : K.lookup cda = some ⟨ccl, cdd, .fields vs, ccs⟩)
    (w7 : vs[2]? = some (.str file tf)) (w8 : ((P.main.file : Str) == file) = true) (w9 : PySem.W.clsIn K C = some cdD) (i10 : PySem.W.nsIn K mainGlobals "super" = some none)
    (w11 : (P.main.scope.names.lookup ("super" : Str)).isSome = false) (i12 : PySem.W.nsIn K cStatics "thirdparty.any" = some none) (w13 : PySem.W.mroIn K C (.ref C) = some true)
    (w14 : PySem.W.ks_superIn K C C "__init__" = some (some (.ref fS))) (i15 : PySem.W.typeIn K (.ref fS) = some (.type "function")) (w16 : PySem.W.fnIn K fS = true)
    (i17 : PySem.W.nsIn K Dk "first" = some (some .none)) (i18 : PySem.W.nsIn K Dk "count" = some (some (.int 0 td)))
    (KT : DeskT K mg CD) (KKm : Mk K CD fK) (FK : Fun K "__init__" "Desk.__init__" s_Desk__init fK fdK) : MkV4 P w K mg base C CD := by
  have F2 : FnR P w K mg base CX0 1 fS (spSeat0 C) := fnR_of (ps := ["self", "me"]) (ok_seat0 FS S.cl S.me S.state S.sits) (FS.binds (fun _ _ _ _ _ _ us hl => match us, hl with | [_, _], _ => rfl) )
  have F : SupF P K ["self", "me", "sets", "first", "count", "__class__"] fI cc cda C (PySem.W.ksFn "__init__" "Voter.__init__" (defArgs s_Voter__init) (defBody s_Voter__init) (defScope s_Voter__init) .none (.ref Dk) dcI pmI anI (.ref cda) ctI cc) (defArgs s_Voter__init) (defScope s_Voter__init) := {
    fun_ := ⟨_, _, _, i3, rfl⟩
    arg := ⟨_, rfl, rfl, by decide +kernel⟩
    code := ⟨_, _, _, _, _, _, i6, w7, w8⟩
    cell := ⟨_, _, _, i5⟩
    cls := ⟨_, w9⟩
    miss := i10
    sup := by decide +kernel
    own := by decide +kernel
    kind := rfl
    top := w11
    any_ := i12 }
  have GK := ok_dinit (P := P) (w := w) (base := base) FK KT
  have bK : Binds K fdK ["self"] [] := FK.binds (fun _ _ _ _ _ _ us hl => match us, hl with | [_], _ => rfl) 
  refine ⟨⟨fI, _, ok_vinit4 T i3 i4 i5 F F2 S w13 w14 i15 w16 KKm GK bK KT.mgC, ⟨mk, i1, i2, kc⟩, ⟨fun s us ws X l1 l2 => ?_, fun r1 r2 => r1.append r2⟩⟩, mgC⟩
  match us, ws, l1, l2 with
  | [_, _, _], [_, _], _, _ => exact .of_eq rfl
theorem whole {P : Program} {w : World} {K : PySem.W.Frag} {mg : Str → Option Value} {base : Heap} {C CD : Addr} (T : BlD mg) (MX : mg "max" = none) (S : VoT K C) (KT : DeskT K mg CD) (MC : MkV4 P w K mg base C CD)
    (F_law_draws : Fn K mg "_law_draws" s_law_draws) (F_law_same : Fn K mg "_law_same" s_law_same) (F_law_cell_at : Fn K mg "_law_cell_at" s_law_cell_at) (F_law_looks : Fn K mg "_law_looks" s_law_looks) (F_law_deed : Fn K mg "_law_deed" s_law_deed) (F_law_vote : Fn K mg "_law_vote" s_law_vote) (F_law_due : Fn K mg "_law_due" s_law_due) (F_law_cells : Fn K mg "_law_cells" s_law_cells) (F_law : Fn K mg "law" s_law)
    (M_V_hear : Fm K C "hear" "Voter.hear" s_Voter_hear) (M_V_gone : Fm K C "gone" "Voter.gone" s_Voter_gone) (M_V_from_desk : Fm K C "_from_desk" "Voter._from_desk" s_Voter_from_desk) (M_V_desk_letter : Fm K C "_desk_letter" "Voter._desk_letter" s_Voter_desk_letter) (M_D_take_ask : Fm K CD "take_ask" "Desk.take_ask" s_Desk_take_ask) (M_D_take_given : Fm K CD "take_given" "Desk.take_given" s_Desk_take_given) (M_D_take_done : Fm K CD "take_done" "Desk.take_done" s_Desk_take_done) (M_D_take_gone : Fm K CD "take_gone" "Desk.take_gone" s_Desk_take_gone) (M_D_len : Fm K CD "__len__" "Desk.__len__" s_Desk__len) (M_D_free : Fm K CD "_free" "Desk._free" s_Desk_free) (M_D_give_the_free_vote : Fm K CD "_give_the_free_vote" "Desk._give_the_free_vote" s_Desk_give_the_free_vote) : Cal P w K mg base "law" 7 ["script"] (spLaw K) := by
  have Gv := me_of (P := P) (w := w) (mg := mg) (base := base) (ps := ["self"]) M_D_give_the_free_vote (fun f fd F => ok_give F T KT) (fun _ _ _ _ _ _ us hl => match us, hl with | [_], _ => rfl) 
  have Fr := me_of (P := P) (w := w) (mg := mg) (base := base) (ps := ["self"]) M_D_free (fun f fd F => ok_free F KT) (fun _ _ _ _ _ _ us hl => match us, hl with | [_], _ => rfl) 
  have A := me_of (P := P) (w := w) (mg := mg) (base := base) (ps := ["self", "stamp"]) M_D_take_ask (fun f fd F => ok_ask F T KT Gv) (fun _ _ _ _ _ _ us hl => match us, hl with | [_, _], _ => rfl) 
  have Gi := me_of (P := P) (w := w) (mg := mg) (base := base) (ps := ["self", "stamp"]) M_D_take_given (fun f fd F => ok_given F T KT Gv Fr) (fun _ _ _ _ _ _ us hl => match us, hl with | [_, _], _ => rfl) 
  have Do := me_of (P := P) (w := w) (mg := mg) (base := base) (ps := ["self", "stamp"]) M_D_take_done (fun f fd F => ok_done F T KT Gv Fr) (fun _ _ _ _ _ _ us hl => match us, hl with | [_, _], _ => rfl) 
  have Go := me_of (P := P) (w := w) (mg := mg) (base := base) (ps := ["self", "seat"]) M_D_take_gone (fun f fd F => ok_gone F T KT Gv Fr) (fun _ _ _ _ _ _ us hl => match us, hl with | [_, _], _ => rfl) 
  have Ln := me_of (P := P) (w := w) (mg := mg) (base := base) (ps := ["self"]) M_D_len (fun f fd F => ok_dlen F T KT) (fun _ _ _ _ _ _ us hl => match us, hl with | [_], _ => rfl) 
  have Dl := me_of (P := P) (w := w) (mg := mg) (base := base) (ps := ["self", "word", "stamp"]) M_V_desk_letter (fun f fd F => ok_deskL F S) (fun _ _ _ _ _ _ us hl => match us, hl with | [_, _, _], _ => rfl) 
  have Fd := me_of (P := P) (w := w) (mg := mg) (base := base) (ps := ["self", "deeds"]) M_V_from_desk (fun f fd F => ok_fromD F S Dl) (fun _ _ _ _ _ _ us hl => match us, hl with | [_, _], _ => rfl) 
  have He := me_of (P := P) (w := w) (mg := mg) (base := base) (ps := ["self", "sender", "letter"]) M_V_hear (fun f fd F => ok_hear4 F MX S KT Fd A Gi Do) (fun _ _ _ _ _ _ us hl => match us, hl with | [_, _, _], _ => rfl) 
  have Gn := me_of (P := P) (w := w) (mg := mg) (base := base) (ps := ["self", "seat"]) M_V_gone (fun f fd F => ok_gone4 F T S KT Fd Go) (fun _ _ _ _ _ _ us hl => match us, hl with | [_, _], _ => rfl) 
  have Dr := ok_draws (P := P) (w := w) (base := base) F_law_draws T
  have Sa := ok_sames (P := P) (w := w) (base := base) F_law_same T 3
  exact ok_law F_law T S KT MC (ok_cell F_law_cell_at T) Dr (ok_looks4 F_law_looks T KT S Sa Ln) (ok_cells1 F_law_cells T) (ok_deed4 F_law_deed T) (ok_due4 F_law_due T MX (ok_vote4 F_law_vote T MX)) Sa He Gn
theorem all_mk {P : Program} {w : World} {K : PySem.W.Frag} {h : Heap} {mg : Str → Option Value} {fa : Addr}
    {C_Voter : Addr} {C_Seat : Addr} {C_Desk : Addr} {f1 : Addr} {od1 an1 : Option Addr} {sl1 : Array (Option Value)} {oc1 kV1 dc1 pm1 cd1 ct1 : Value} {f2 : Addr} {od2 an2 : Option Addr} {sl2 : Array (Option Value)} {oc2 kV2 dc2 pm2 cd2 ct2 : Value} {f3 : Addr} {od3 an3 : Option Addr} {sl3 : Array (Option Value)} {oc3 kV3 dc3 pm3 cd3 ct3 : Value} {f4 : Addr} {od4 an4 : Option Addr} {sl4 : Array (Option Value)} {oc4 kV4 dc4 pm4 cd4 ct4 : Value} {f5 : Addr} {od5 an5 : Option Addr} {sl5 : Array (Option Value)} {oc5 kV5 dc5 pm5 cd5 ct5 : Value} {f6 : Addr} {od6 an6 : Option Addr} {sl6 : Array (Option Value)} {oc6 kV6 dc6 pm6 cd6 ct6 : Value} {f7 : Addr} {od7 an7 : Option Addr} {sl7 : Array (Option Value)} {oc7 kV7 dc7 pm7 cd7 ct7 : Value} {f8 : Addr} {od8 an8 : Option Addr} {sl8 : Array (Option Value)} {oc8 kV8 dc8 pm8 cd8 ct8 : Value} {f9 : Addr} {od9 an9 : Option Addr} {sl9 : Array (Option Value)} {oc9 kV9 dc9 pm9 cd9 ct9 : Value} {f10 : Addr} {od10 an10 : Option Addr} {sl10 : Array (Option Value)} {oc10 kV10 dc10 pm10 cd10 ct10 : Value} {f11 : Addr} {od11 an11 : Option Addr} {sl11 : Array (Option Value)} {oc11 kV11 dc11 pm11 cd11 ct11 : Value} {f12 : Addr} {od12 an12 : Option Addr} {sl12 : Array (Option Value)} {oc12 kV12 dc12 pm12 cd12 ct12 : Value} {f13 : Addr} {od13 an13 : Option Addr} {sl13 : Array (Option Value)} {oc13 kV13 dc13 pm13 cd13 ct13 : Value} {f14 : Addr} {od14 an14 : Option Addr} {sl14 : Array (Option Value)} {oc14 kV14 dc14 pm14 cd14 ct14 : Value} {f15 : Addr} {od15 an15 : Option Addr} {sl15 : Array (Option Value)} {oc15 kV15 dc15 pm15 cd15 ct15 : Value} {f16 : Addr} {od16 an16 : Option Addr} {sl16 : Array (Option Value)} {oc16 kV16 dc16 pm16 cd16 ct16 : Value} {f17 : Addr} {od17 an17 : Option Addr} {sl17 : Array (Option Value)} {oc17 kV17 dc17 pm17 cd17 ct17 : Value} {f18 : Addr} {od18 an18 : Option Addr} {sl18 : Array (Option Value)} {oc18 kV18 dc18 pm18 cd18 ct18 : Value} {f19 : Addr} {od19 an19 : Option Addr} {sl19 : Array (Option Value)} {oc19 kV19 dc19 pm19 cd19 ct19 : Value} {f20 : Addr} {od20 an20 : Option Addr} {sl20 : Array (Option Value)} {oc20 kV20 dc20 pm20 cd20 ct20 : Value} {f21 : Addr} {od21 an21 : Option Addr} {sl21 : Array (Option Value)} {oc21 kV21 dc21 pm21 cd21 ct21 : Value} {f22 : Addr} {od22 an22 : Option Addr} {sl22 : Array (Option Value)} {oc22 kV22 dc22 pm22 cd22 ct22 : Value} {fI cc cda Dk : Addr} {ocI dcI pmI ctI clI ccl : Value} {odI anI cldI cdd : Option Addr} {oslI csl ccs : Array (Option Value)} {vs : Array Value} {file : Str} {tf td : Tok} {cdD : ClassData}
    (X : K.In h) (G : h.Ns mainGlobals mg) (hfa : mg "law" = some (.ref fa))
    (aC_Voter : PySem.W.nsIn K mainGlobals "Voter" = some (some (.ref C_Voter)))
    (pg_Voter : PySem.W.plainGet K C_Voter Str.empty = true)
    (hd_Voter : PySem.W.hasDictIn K C_Voter = true)
    (po_Voter : PySem.W.plainOver K C_Voter = true)
    (sa_Voter : PySem.W.findIn K (.ref C_Voter) "__setattr__" = some (some (.builtin "object.__setattr__")))
    (mk_Voter : PySem.W.makesIn K C_Voter = true)
    (kc_Voter : PySem.W.keepIn K (.ref C_Voter) = true)
    (aC_Seat : PySem.W.nsIn K mainGlobals "Seat" = some (some (.ref C_Seat)))
    (pg_Seat : PySem.W.plainGet K C_Seat Str.empty = true)
    (hd_Seat : PySem.W.hasDictIn K C_Seat = true)
    (po_Seat : PySem.W.plainOver K C_Seat = true)
    (sa_Seat : PySem.W.findIn K (.ref C_Seat) "__setattr__" = some (some (.builtin "object.__setattr__")))
    (mk_Seat : PySem.W.makesIn K C_Seat = true)
    (kc_Seat : PySem.W.keepIn K (.ref C_Seat) = true)
    (aC_Desk : PySem.W.nsIn K mainGlobals "Desk" = some (some (.ref C_Desk)))
    (pg_Desk : PySem.W.plainGet K C_Desk Str.empty = true)
    (hd_Desk : PySem.W.hasDictIn K C_Desk = true)
    (po_Desk : PySem.W.plainOver K C_Desk = true)
    (sa_Desk : PySem.W.findIn K (.ref C_Desk) "__setattr__" = some (some (.builtin "object.__setattr__")))
    (mk_Desk : PySem.W.makesIn K C_Desk = true)
    (kc_Desk : PySem.W.keepIn K (.ref C_Desk) = true)
    (a1 : PySem.W.nsIn K mainGlobals "_law_draws" = some (some (.ref f1)))
    (l1 : K.lookup f1 = some ⟨oc1, od1, .func (PySem.W.fnOf "_law_draws" "_law_draws" (defArgs s_law_draws) (defBody s_law_draws) (defScope s_law_draws) .none kV1 dc1 pm1 an1 cd1 ct1), sl1⟩)
    (c1 : PySem.W.codeIn K cd1 "_law_draws" = true)
    (k1 : PySem.W.keepIn K (.ref f1) = true)
    (a2 : PySem.W.nsIn K mainGlobals "_law_same" = some (some (.ref f2)))
    (l2 : K.lookup f2 = some ⟨oc2, od2, .func (PySem.W.fnOf "_law_same" "_law_same" (defArgs s_law_same) (defBody s_law_same) (defScope s_law_same) .none kV2 dc2 pm2 an2 cd2 ct2), sl2⟩)
    (c2 : PySem.W.codeIn K cd2 "_law_same" = true)
    (k2 : PySem.W.keepIn K (.ref f2) = true)
    (a3 : PySem.W.nsIn K mainGlobals "_law_cell_at" = some (some (.ref f3)))
    (l3 : K.lookup f3 = some ⟨oc3, od3, .func (PySem.W.fnOf "_law_cell_at" "_law_cell_at" (defArgs s_law_cell_at) (defBody s_law_cell_at) (defScope s_law_cell_at) .none kV3 dc3 pm3 an3 cd3 ct3), sl3⟩)
    (c3 : PySem.W.codeIn K cd3 "_law_cell_at" = true)
    (k3 : PySem.W.keepIn K (.ref f3) = true)
    (a4 : PySem.W.nsIn K mainGlobals "_law_looks" = some (some (.ref f4)))
    (l4 : K.lookup f4 = some ⟨oc4, od4, .func (PySem.W.fnOf "_law_looks" "_law_looks" (defArgs s_law_looks) (defBody s_law_looks) (defScope s_law_looks) .none kV4 dc4 pm4 an4 cd4 ct4), sl4⟩)
    (c4 : PySem.W.codeIn K cd4 "_law_looks" = true)
    (k4 : PySem.W.keepIn K (.ref f4) = true)
    (a5 : PySem.W.nsIn K mainGlobals "_law_deed" = some (some (.ref f5)))
    (l5 : K.lookup f5 = some ⟨oc5, od5, .func (PySem.W.fnOf "_law_deed" "_law_deed" (defArgs s_law_deed) (defBody s_law_deed) (defScope s_law_deed) .none kV5 dc5 pm5 an5 cd5 ct5), sl5⟩)
    (c5 : PySem.W.codeIn K cd5 "_law_deed" = true)
    (k5 : PySem.W.keepIn K (.ref f5) = true)
    (a6 : PySem.W.nsIn K mainGlobals "_law_vote" = some (some (.ref f6)))
    (l6 : K.lookup f6 = some ⟨oc6, od6, .func (PySem.W.fnOf "_law_vote" "_law_vote" (defArgs s_law_vote) (defBody s_law_vote) (defScope s_law_vote) .none kV6 dc6 pm6 an6 cd6 ct6), sl6⟩)
    (c6 : PySem.W.codeIn K cd6 "_law_vote" = true)
    (k6 : PySem.W.keepIn K (.ref f6) = true)
    (a7 : PySem.W.nsIn K mainGlobals "_law_due" = some (some (.ref f7)))
    (l7 : K.lookup f7 = some ⟨oc7, od7, .func (PySem.W.fnOf "_law_due" "_law_due" (defArgs s_law_due) (defBody s_law_due) (defScope s_law_due) .none kV7 dc7 pm7 an7 cd7 ct7), sl7⟩)
    (c7 : PySem.W.codeIn K cd7 "_law_due" = true)
    (k7 : PySem.W.keepIn K (.ref f7) = true)
    (a8 : PySem.W.nsIn K mainGlobals "_law_cells" = some (some (.ref f8)))
    (l8 : K.lookup f8 = some ⟨oc8, od8, .func (PySem.W.fnOf "_law_cells" "_law_cells" (defArgs s_law_cells) (defBody s_law_cells) (defScope s_law_cells) .none kV8 dc8 pm8 an8 cd8 ct8), sl8⟩)
    (c8 : PySem.W.codeIn K cd8 "_law_cells" = true)
    (k8 : PySem.W.keepIn K (.ref f8) = true)
    (a9 : PySem.W.nsIn K mainGlobals "law" = some (some (.ref f9)))
    (l9 : K.lookup f9 = some ⟨oc9, od9, .func (PySem.W.fnOf "law" "law" (defArgs s_law) (defBody s_law) (defScope s_law) .none kV9 dc9 pm9 an9 cd9 ct9), sl9⟩)
    (c9 : PySem.W.codeIn K cd9 "law" = true)
    (k9 : PySem.W.keepIn K (.ref f9) = true)
    (a10 : PySem.W.findIn K (.ref C_Seat) "__init__" = some (some (.ref f10)))
    (i10 : PySem.W.isFn K (.ref f10) = true)
    (l10 : K.lookup f10 = some ⟨oc10, od10, .func (PySem.W.fnOf "__init__" "Seat.__init__" (defArgs s_Seat__init) (defBody s_Seat__init) (defScope s_Seat__init) .none kV10 dc10 pm10 an10 cd10 ct10), sl10⟩)
    (c10 : PySem.W.codeIn K cd10 "Seat.__init__" = true)
    (k10 : PySem.W.keepIn K (.ref f10) = true)
    (a11 : PySem.W.findIn K (.ref C_Desk) "__init__" = some (some (.ref f11)))
    (i11 : PySem.W.isFn K (.ref f11) = true)
    (l11 : K.lookup f11 = some ⟨oc11, od11, .func (PySem.W.fnOf "__init__" "Desk.__init__" (defArgs s_Desk__init) (defBody s_Desk__init) (defScope s_Desk__init) .none kV11 dc11 pm11 an11 cd11 ct11), sl11⟩)
    (c11 : PySem.W.codeIn K cd11 "Desk.__init__" = true)
    (k11 : PySem.W.keepIn K (.ref f11) = true)
    (a12 : PySem.W.findIn K (.ref C_Voter) "hear" = some (some (.ref f12)))
    (i12 : PySem.W.isFn K (.ref f12) = true)
    (l12 : K.lookup f12 = some ⟨oc12, od12, .func (PySem.W.fnOf "hear" "Voter.hear" (defArgs s_Voter_hear) (defBody s_Voter_hear) (defScope s_Voter_hear) .none kV12 dc12 pm12 an12 cd12 ct12), sl12⟩)
    (c12 : PySem.W.codeIn K cd12 "Voter.hear" = true)
    (k12 : PySem.W.keepIn K (.ref f12) = true)
    (a13 : PySem.W.findIn K (.ref C_Voter) "gone" = some (some (.ref f13)))
    (i13 : PySem.W.isFn K (.ref f13) = true)
    (l13 : K.lookup f13 = some ⟨oc13, od13, .func (PySem.W.fnOf "gone" "Voter.gone" (defArgs s_Voter_gone) (defBody s_Voter_gone) (defScope s_Voter_gone) .none kV13 dc13 pm13 an13 cd13 ct13), sl13⟩)
    (c13 : PySem.W.codeIn K cd13 "Voter.gone" = true)
    (k13 : PySem.W.keepIn K (.ref f13) = true)
    (a14 : PySem.W.findIn K (.ref C_Voter) "_from_desk" = some (some (.ref f14)))
    (i14 : PySem.W.isFn K (.ref f14) = true)
    (l14 : K.lookup f14 = some ⟨oc14, od14, .func (PySem.W.fnOf "_from_desk" "Voter._from_desk" (defArgs s_Voter_from_desk) (defBody s_Voter_from_desk) (defScope s_Voter_from_desk) .none kV14 dc14 pm14 an14 cd14 ct14), sl14⟩)
    (c14 : PySem.W.codeIn K cd14 "Voter._from_desk" = true)
    (k14 : PySem.W.keepIn K (.ref f14) = true)
    (a15 : PySem.W.findIn K (.ref C_Voter) "_desk_letter" = some (some (.ref f15)))
    (i15 : PySem.W.isFn K (.ref f15) = true)
    (l15 : K.lookup f15 = some ⟨oc15, od15, .func (PySem.W.fnOf "_desk_letter" "Voter._desk_letter" (defArgs s_Voter_desk_letter) (defBody s_Voter_desk_letter) (defScope s_Voter_desk_letter) .none kV15 dc15 pm15 an15 cd15 ct15), sl15⟩)
    (c15 : PySem.W.codeIn K cd15 "Voter._desk_letter" = true)
    (k15 : PySem.W.keepIn K (.ref f15) = true)
    (a16 : PySem.W.findIn K (.ref C_Desk) "take_ask" = some (some (.ref f16)))
    (i16 : PySem.W.isFn K (.ref f16) = true)
    (l16 : K.lookup f16 = some ⟨oc16, od16, .func (PySem.W.fnOf "take_ask" "Desk.take_ask" (defArgs s_Desk_take_ask) (defBody s_Desk_take_ask) (defScope s_Desk_take_ask) .none kV16 dc16 pm16 an16 cd16 ct16), sl16⟩)
    (c16 : PySem.W.codeIn K cd16 "Desk.take_ask" = true)
    (k16 : PySem.W.keepIn K (.ref f16) = true)
    (a17 : PySem.W.findIn K (.ref C_Desk) "take_given" = some (some (.ref f17)))
    (i17 : PySem.W.isFn K (.ref f17) = true)
    (l17 : K.lookup f17 = some ⟨oc17, od17, .func (PySem.W.fnOf "take_given" "Desk.take_given" (defArgs s_Desk_take_given) (defBody s_Desk_take_given) (defScope s_Desk_take_given) .none kV17 dc17 pm17 an17 cd17 ct17), sl17⟩)
    (c17 : PySem.W.codeIn K cd17 "Desk.take_given" = true)
    (k17 : PySem.W.keepIn K (.ref f17) = true)
    (a18 : PySem.W.findIn K (.ref C_Desk) "take_done" = some (some (.ref f18)))
    (i18 : PySem.W.isFn K (.ref f18) = true)
    (l18 : K.lookup f18 = some ⟨oc18, od18, .func (PySem.W.fnOf "take_done" "Desk.take_done" (defArgs s_Desk_take_done) (defBody s_Desk_take_done) (defScope s_Desk_take_done) .none kV18 dc18 pm18 an18 cd18 ct18), sl18⟩)
    (c18 : PySem.W.codeIn K cd18 "Desk.take_done" = true)
    (k18 : PySem.W.keepIn K (.ref f18) = true)
    (a19 : PySem.W.findIn K (.ref C_Desk) "take_gone" = some (some (.ref f19)))
    (i19 : PySem.W.isFn K (.ref f19) = true)
    (l19 : K.lookup f19 = some ⟨oc19, od19, .func (PySem.W.fnOf "take_gone" "Desk.take_gone" (defArgs s_Desk_take_gone) (defBody s_Desk_take_gone) (defScope s_Desk_take_gone) .none kV19 dc19 pm19 an19 cd19 ct19), sl19⟩)
    (c19 : PySem.W.codeIn K cd19 "Desk.take_gone" = true)
    (k19 : PySem.W.keepIn K (.ref f19) = true)
    (a20 : PySem.W.findIn K (.ref C_Desk) "__len__" = some (some (.ref f20)))
    (i20 : PySem.W.isFn K (.ref f20) = true)
    (l20 : K.lookup f20 = some ⟨oc20, od20, .func (PySem.W.fnOf "__len__" "Desk.__len__" (defArgs s_Desk__len) (defBody s_Desk__len) (defScope s_Desk__len) .none kV20 dc20 pm20 an20 cd20 ct20), sl20⟩)
    (c20 : PySem.W.codeIn K cd20 "Desk.__len__" = true)
    (k20 : PySem.W.keepIn K (.ref f20) = true)
    (a21 : PySem.W.findIn K (.ref C_Desk) "_free" = some (some (.ref f21)))
    (i21 : PySem.W.isFn K (.ref f21) = true)
    (l21 : K.lookup f21 = some ⟨oc21, od21, .func (PySem.W.fnOf "_free" "Desk._free" (defArgs s_Desk_free) (defBody s_Desk_free) (defScope s_Desk_free) .none kV21 dc21 pm21 an21 cd21 ct21), sl21⟩)
    (c21 : PySem.W.codeIn K cd21 "Desk._free" = true)
    (k21 : PySem.W.keepIn K (.ref f21) = true)
    (a22 : PySem.W.findIn K (.ref C_Desk) "_give_the_free_vote" = some (some (.ref f22)))
    (i22 : PySem.W.isFn K (.ref f22) = true)
    (l22 : K.lookup f22 = some ⟨oc22, od22, .func (PySem.W.fnOf "_give_the_free_vote" "Desk._give_the_free_vote" (defArgs s_Desk_give_the_free_vote) (defBody s_Desk_give_the_free_vote) (defScope s_Desk_give_the_free_vote) .none kV22 dc22 pm22 an22 cd22 ct22), sl22⟩)
    (c22 : PySem.W.codeIn K cd22 "Desk._give_the_free_vote" = true)
    (k22 : PySem.W.keepIn K (.ref f22) = true)
    (n_Voter_me : PySem.W.findIn K (.ref C_Voter) "me" = some none)
    (n_Voter_state : PySem.W.findIn K (.ref C_Voter) "state" = some none)
    (n_Voter_sits : PySem.W.findIn K (.ref C_Voter) "sits" = some none)
    (n_Voter_count : PySem.W.findIn K (.ref C_Voter) "count" = some none)
    (n_Voter_stamp : PySem.W.findIn K (.ref C_Voter) "stamp" = some none)
    (n_Voter_hand : PySem.W.findIn K (.ref C_Voter) "hand" = some none)
    (n_Voter_known : PySem.W.findIn K (.ref C_Voter) "known" = some none)
    (n_Voter_desk : PySem.W.findIn K (.ref C_Voter) "desk" = some none)
    (n_Voter__sets : PySem.W.findIn K (.ref C_Voter) "_sets" = some none)
    (n_Voter__first : PySem.W.findIn K (.ref C_Voter) "_first" = some none)
    (n_Voter__set : PySem.W.findIn K (.ref C_Voter) "_set" = some none)
    (n_Desk_holder : PySem.W.findIn K (.ref C_Desk) "holder" = some none)
    (n_Desk_queue : PySem.W.findIn K (.ref C_Desk) "queue" = some none)
    (n_Desk_called : PySem.W.findIn K (.ref C_Desk) "called" = some none)
    (i1 : PySem.W.findIn K (.ref C_Voter) "__init__" = some (some (.ref fI)))
    (i2 : PySem.W.isFn K (.ref fI) = true)
    (i3 : K.lookup fI = some ⟨ocI, odI, .func (PySem.W.ksFn "__init__" "Voter.__init__" (defArgs s_Voter__init) (defBody s_Voter__init) (defScope s_Voter__init) .none (.ref Dk) dcI pmI anI (.ref cda) ctI cc), oslI⟩)
    (ii4 : PySem.W.codeIn K (.ref cda) "Voter.__init__" = true)
    (ii5 : K.lookup cc = some ⟨clI, cldI, .cell (some (.ref C_Voter)), csl⟩)
    (ii6 : K.lookup cda = some ⟨ccl, cdd, .fields vs, ccs⟩)
    (w7 : vs[2]? = some (.str file tf))
    (w8 : ((P.main.file : Str) == file) = true)
    (w9 : PySem.W.clsIn K C_Voter = some cdD)
    (ii10 : PySem.W.nsIn K mainGlobals "super" = some none)
    (w11 : (P.main.scope.names.lookup ("super" : Str)).isSome = false)
    (ii12 : PySem.W.nsIn K cStatics "thirdparty.any" = some none)
    (w13 : PySem.W.mroIn K C_Voter (.ref C_Voter) = some true)
    (w14 : PySem.W.ks_superIn K C_Voter C_Voter "__init__" = some (some (.ref f10)))
    (ii15 : PySem.W.typeIn K (.ref f10) = some (.type "function"))
    (w16 : PySem.W.fnIn K f10 = true)
    (ii17 : PySem.W.nsIn K Dk "first" = some (some .none))
    (ii18 : PySem.W.nsIn K Dk "count" = some (some (.int 0 td)))
    (ik1 : PySem.W.findIn K (.ref C_Desk) "__init__" = some (some (.ref f11)))
    (ik2 : PySem.W.isFn K (.ref f11) = true)
    (b_len : PySem.W.nsIn K mainGlobals "len" = some none)
    (b_range : PySem.W.nsIn K mainGlobals "range" = some none)
    (b_tuple : PySem.W.nsIn K mainGlobals "tuple" = some none)
    (b_list : PySem.W.nsIn K mainGlobals "list" = some none)
    (b_isinstance : PySem.W.nsIn K mainGlobals "isinstance" = some none)
    (b_bool : PySem.W.nsIn K mainGlobals "bool" = some none)
    (b_sorted : PySem.W.nsIn K mainGlobals "sorted" = some none)
    (b_sum : PySem.W.nsIn K mainGlobals "sum" = some none)
    (b_int : PySem.W.nsIn K mainGlobals "int" = some none)
    (b_min : PySem.W.nsIn K mainGlobals "min" = some none)
    (b_max : PySem.W.nsIn K mainGlobals "max" = some none) :
    ∃ fd : FuncData, (∀ (s : Shared) (v : Value), BindsTo s fd ⟨[v], []⟩ [("script", v)]) ∧
      ∀ base : Heap, K.In base → base.Ns mainGlobals mg → FnG P w K mg base CX0 7 fa fd ["script"] (spLaw K) := by
  have F_law_draws : Fn K mg "_law_draws" s_law_draws := fn_top X G a1 l1 c1 k1
  have F_law_same : Fn K mg "_law_same" s_law_same := fn_top X G a2 l2 c2 k2
  have F_law_cell_at : Fn K mg "_law_cell_at" s_law_cell_at := fn_top X G a3 l3 c3 k3
  have F_law_looks : Fn K mg "_law_looks" s_law_looks := fn_top X G a4 l4 c4 k4
  have F_law_deed : Fn K mg "_law_deed" s_law_deed := fn_top X G a5 l5 c5 k5
  have F_law_vote : Fn K mg "_law_vote" s_law_vote := fn_top X G a6 l6 c6 k6
  have F_law_due : Fn K mg "_law_due" s_law_due := fn_top X G a7 l7 c7 k7
  have F_law_cells : Fn K mg "_law_cells" s_law_cells := fn_top X G a8 l8 c8 k8
  have F_law : Fn K mg "law" s_law := fn_top X G a9 l9 c9 k9
  have M_Seat__init : Fm K C_Seat "__init__" "Seat.__init__" s_Seat__init := fm_top a10 i10 l10 c10 k10
  have M_Desk__init : Fm K C_Desk "__init__" "Desk.__init__" s_Desk__init := fm_top a11 i11 l11 c11 k11
  have M_Voter_hear : Fm K C_Voter "hear" "Voter.hear" s_Voter_hear := fm_top a12 i12 l12 c12 k12
  have M_Voter_gone : Fm K C_Voter "gone" "Voter.gone" s_Voter_gone := fm_top a13 i13 l13 c13 k13
  have M_Voter_from_desk : Fm K C_Voter "_from_desk" "Voter._from_desk" s_Voter_from_desk := fm_top a14 i14 l14 c14 k14
  have M_Voter_desk_letter : Fm K C_Voter "_desk_letter" "Voter._desk_letter" s_Voter_desk_letter := fm_top a15 i15 l15 c15 k15
  have M_Desk_take_ask : Fm K C_Desk "take_ask" "Desk.take_ask" s_Desk_take_ask := fm_top a16 i16 l16 c16 k16
  have M_Desk_take_given : Fm K C_Desk "take_given" "Desk.take_given" s_Desk_take_given := fm_top a17 i17 l17 c17 k17
  have M_Desk_take_done : Fm K C_Desk "take_done" "Desk.take_done" s_Desk_take_done := fm_top a18 i18 l18 c18 k18
  have M_Desk_take_gone : Fm K C_Desk "take_gone" "Desk.take_gone" s_Desk_take_gone := fm_top a19 i19 l19 c19 k19
  have M_Desk__len : Fm K C_Desk "__len__" "Desk.__len__" s_Desk__len := fm_top a20 i20 l20 c20 k20
  have M_Desk_free : Fm K C_Desk "_free" "Desk._free" s_Desk_free := fm_top a21 i21 l21 c21 k21
  have M_Desk_give_the_free_vote : Fm K C_Desk "_give_the_free_vote" "Desk._give_the_free_vote" s_Desk_give_the_free_vote := fm_top a22 i22 l22 c22 k22
  have B_len := PySem.W.mg_none_of X G b_len
  have B_range := PySem.W.mg_none_of X G b_range
  have B_tuple := PySem.W.mg_none_of X G b_tuple
  have B_list := PySem.W.mg_none_of X G b_list
  have B_isinstance := PySem.W.mg_none_of X G b_isinstance
  have B_bool := PySem.W.mg_none_of X G b_bool
  have B_sorted := PySem.W.mg_none_of X G b_sorted
  have B_sum := PySem.W.mg_none_of X G b_sum
  have B_int := PySem.W.mg_none_of X G b_int
  have B_min := PySem.W.mg_none_of X G b_min
  have B_max := PySem.W.mg_none_of X G b_max
  have T_Voter : Cls K C_Voter := ⟨pg_Voter, hd_Voter, po_Voter, sa_Voter⟩
  have G_Voter := PySem.W.mg_of X G aC_Voter
  have T_Seat : Cls K C_Seat := ⟨pg_Seat, hd_Seat, po_Seat, sa_Seat⟩
  have G_Seat := PySem.W.mg_of X G aC_Seat
  have T_Desk : Cls K C_Desk := ⟨pg_Desk, hd_Desk, po_Desk, sa_Desk⟩
  have G_Desk := PySem.W.mg_of X G aC_Desk
  have S : VoT K C_Voter := ⟨T_Voter, n_Voter_me, n_Voter_state, n_Voter_sits, n_Voter_count, n_Voter_stamp, n_Voter_hand, n_Voter_known, n_Voter_desk, n_Voter__sets, n_Voter__first, n_Voter__set⟩
  have KT : DeskT K mg C_Desk := ⟨T_Desk, n_Desk_holder, n_Desk_queue, n_Desk_called, G_Desk⟩
  have T : BlD mg := ⟨B_len, B_range, B_tuple, B_list, B_isinstance, B_bool, B_sorted, B_sum, B_int, B_min⟩
  exact law_end F_law hfa (fun _ _ _ _ _ _ s v => .of_eq rfl) fun base _ _ => whole T B_max S KT
    (made_of T S G_Voter mk_Voter kc_Voter (fun_mk l10 c10 k10) i1 i2 i3 ii4 ii5 ii6 w7 w8 w9 ii10 w11 ii12 w13 w14 ii15 w16 ii17 ii18 KT ⟨mk_Desk, ik1, ik2, kc_Desk⟩ (fun_mk l11 c11 k11))
    F_law_draws F_law_same F_law_cell_at F_law_looks F_law_deed F_law_vote F_law_due F_law_cells F_law
    M_Voter_hear M_Voter_gone M_Voter_from_desk M_Voter_desk_letter M_Desk_take_ask M_Desk_take_given M_Desk_take_done M_Desk_take_gone M_Desk__len M_Desk_free M_Desk_give_the_free_vote
end G0
open PySem PySem.W PyProof.Rows in
set_option maxRecDepth 100000 in
set_option maxHeartbeats 0 in
theorem PySem.Challenge.cw_soleseat_k64_votes_given_out_holds : PySem.Challenge.rw_soleseat_k64_votes_given_out.Holds := by
  w_on; o_law; k_head; (case hw => w_witness2)
  k_fill
  refine G0.walk_ofGB (l := PySem.Challenge.rw_soleseat_k64_votes_given_out) (n := 63) (k := 7) (x := "script") (sp := G0.spLaw) rfl (by decide) rfl ⟨rfl, by decide, by decide⟩ (fun w h Y => PySem.W.kIn_of Y) ?F (fun K H a ns hl bits _ hS => ⟨a, ns, rfl, hS, hl, bits, fun _ => rfl⟩)
  case F =>
    intro w mg fa h KX G hmg
    refine' G0.all_mk KX G hmg ?aC_Voter ?pg_Voter ?hd_Voter ?po_Voter ?sa_Voter ?mk_Voter ?kc_Voter ?aC_Seat ?pg_Seat ?hd_Seat ?po_Seat ?sa_Seat ?mk_Seat ?kc_Seat ?aC_Desk ?pg_Desk ?hd_Desk ?po_Desk ?sa_Desk ?mk_Desk ?kc_Desk ?a1 ?l1 ?c1 ?k1 ?a2 ?l2 ?c2 ?k2 ?a3 ?l3 ?c3 ?k3 ?a4 ?l4 ?c4 ?k4 ?a5 ?l5 ?c5 ?k5 ?a6 ?l6 ?c6 ?k6 ?a7 ?l7 ?c7 ?k7 ?a8 ?l8 ?c8 ?k8 ?a9 ?l9 ?c9 ?k9 ?a10 ?i10 ?l10 ?c10 ?k10 ?a11 ?i11 ?l11 ?c11 ?k11 ?a12 ?i12 ?l12 ?c12 ?k12 ?a13 ?i13 ?l13 ?c13 ?k13 ?a14 ?i14 ?l14 ?c14 ?k14 ?a15 ?i15 ?l15 ?c15 ?k15 ?a16 ?i16 ?l16 ?c16 ?k16 ?a17 ?i17 ?l17 ?c17 ?k17 ?a18 ?i18 ?l18 ?c18 ?k18 ?a19 ?i19 ?l19 ?c19 ?k19 ?a20 ?i20 ?l20 ?c20 ?k20 ?a21 ?i21 ?l21 ?c21 ?k21 ?a22 ?i22 ?l22 ?c22 ?k22 ?n_Voter_me ?n_Voter_state ?n_Voter_sits ?n_Voter_count ?n_Voter_stamp ?n_Voter_hand ?n_Voter_known ?n_Voter_desk ?n_Voter__sets ?n_Voter__first ?n_Voter__set ?n_Desk_holder ?n_Desk_queue ?n_Desk_called ?i1 ?i2 ?i3 ?ii4 ?ii5 ?ii6 ?w7 ?w8 ?w9 ?ii10 ?w11 ?ii12 ?w13 ?w14 ?ii15 ?w16 ?ii17 ?ii18 ?ik1 ?ik2 ?b_len ?b_range ?b_tuple ?b_list ?b_isinstance ?b_bool ?b_sorted ?b_sum ?b_int ?b_min ?b_max
    (case aC_Voter => k_is)
    (case pg_Voter => k_is)
    (case hd_Voter => k_is)
    (case po_Voter => k_is)
    (case sa_Voter => k_is)
    (case mk_Voter => k_is)
    (case kc_Voter => k_is)
    (case aC_Seat => k_is)
    (case pg_Seat => k_is)
    (case hd_Seat => k_is)
    (case po_Seat => k_is)
    (case sa_Seat => k_is)
    (case mk_Seat => k_is)
    (case kc_Seat => k_is)
    (case aC_Desk => k_is)
    (case pg_Desk => k_is)
    (case hd_Desk => k_is)
    (case po_Desk => k_is)
    (case sa_Desk => k_is)
    (case mk_Desk => k_is)
    (case kc_Desk => k_is)
    (case a1 => k_is)
    (case l1 => k_is)
    (case c1 => k_is)
    (case k1 => k_is)
    (case a2 => k_is)
    (case l2 => k_is)
    (case c2 => k_is)
    (case k2 => k_is)
    (case a3 => k_is)
    (case l3 => k_is)
    (case c3 => k_is)
    (case k3 => k_is)
    (case a4 => k_is)
    (case l4 => k_is)
    (case c4 => k_is)
    (case k4 => k_is)
    (case a5 => k_is)
    (case l5 => k_is)
    (case c5 => k_is)
    (case k5 => k_is)
    (case a6 => k_is)
    (case l6 => k_is)
    (case c6 => k_is)
    (case k6 => k_is)
    (case a7 => k_is)
    (case l7 => k_is)
    (case c7 => k_is)
    (case k7 => k_is)
    (case a8 => k_is)
    (case l8 => k_is)
    (case c8 => k_is)
    (case k8 => k_is)
    (case a9 => k_is)
    (case l9 => k_is)
    (case c9 => k_is)
    (case k9 => k_is)
    (case a10 => k_is)
    (case i10 => k_is)
    (case l10 => k_is)
    (case c10 => k_is)
    (case k10 => k_is)
    (case a11 => k_is)
    (case i11 => k_is)
    (case l11 => k_is)
    (case c11 => k_is)
    (case k11 => k_is)
    (case a12 => k_is)
    (case i12 => k_is)
    (case l12 => k_is)
    (case c12 => k_is)
    (case k12 => k_is)
    (case a13 => k_is)
    (case i13 => k_is)
    (case l13 => k_is)
    (case c13 => k_is)
    (case k13 => k_is)
    (case a14 => k_is)
    (case i14 => k_is)
    (case l14 => k_is)
    (case c14 => k_is)
    (case k14 => k_is)
    (case a15 => k_is)
    (case i15 => k_is)
    (case l15 => k_is)
    (case c15 => k_is)
    (case k15 => k_is)
    (case a16 => k_is)
    (case i16 => k_is)
    (case l16 => k_is)
    (case c16 => k_is)
    (case k16 => k_is)
    (case a17 => k_is)
    (case i17 => k_is)
    (case l17 => k_is)
    (case c17 => k_is)
    (case k17 => k_is)
    (case a18 => k_is)
    (case i18 => k_is)
    (case l18 => k_is)
    (case c18 => k_is)
    (case k18 => k_is)
    (case a19 => k_is)
    (case i19 => k_is)
    (case l19 => k_is)
    (case c19 => k_is)
    (case k19 => k_is)
    (case a20 => k_is)
    (case i20 => k_is)
    (case l20 => k_is)
    (case c20 => k_is)
    (case k20 => k_is)
    (case a21 => k_is)
    (case i21 => k_is)
    (case l21 => k_is)
    (case c21 => k_is)
    (case k21 => k_is)
    (case a22 => k_is)
    (case i22 => k_is)
    (case l22 => k_is)
    (case c22 => k_is)
    (case k22 => k_is)
    (case n_Voter_me => k_is)
    (case n_Voter_state => k_is)
    (case n_Voter_sits => k_is)
    (case n_Voter_count => k_is)
    (case n_Voter_stamp => k_is)
    (case n_Voter_hand => k_is)
    (case n_Voter_known => k_is)
    (case n_Voter_desk => k_is)
    (case n_Voter__sets => k_is)
    (case n_Voter__first => k_is)
    (case n_Voter__set => k_is)
    (case n_Desk_holder => k_is)
    (case n_Desk_queue => k_is)
    (case n_Desk_called => k_is)
    (case i1 => k_is)
    (case i2 => k_is)
    (case i3 => k_is)
    (case ii4 => k_is)
    (case ii5 => k_is)
    (case ii6 => k_is)
    (case w7 => first | k_is | exact rfl | decide +kernel)
    (case w8 => first | k_is | exact rfl | decide +kernel)
    (case w9 => first | k_is | exact rfl | decide +kernel)
    (case ii10 => k_is)
    (case w11 => first | k_is | exact rfl | decide +kernel)
    (case ii12 => k_is)
    (case w13 => first | k_is | exact rfl | decide +kernel)
    (case w14 => first | k_is | exact rfl | decide +kernel)
    (case ii15 => k_is)
    (case w16 => first | k_is | exact rfl | decide +kernel)
    (case ii17 => k_is)
    (case ii18 => k_is)
    (case ik1 => k_is)
    (case ik2 => k_is)
    (case b_len => k_is)
    (case b_range => k_is)
    (case b_tuple => k_is)
    (case b_list => k_is)
    (case b_isinstance => k_is)
    (case b_bool => k_is)
    (case b_sorted => k_is)
    (case b_sum => k_is)
    (case b_int => k_is)
    (case b_min => k_is)
    (case b_max => k_is)
#print axioms PySem.Challenge.cw_soleseat_k64_votes_given_out_holds
namespace G0

end G0
