import PyProof.Rows.All
import Wide.All
import OpenK.AllK
import Wide.FinOn
import HandS.ForMost
import HandS.Wide
import HandS.Conv
import HandS.TupAny
import HandS.Deep
import HandS.Steps
import HandS.NoneIn
import HandS.IsInst
import HandS.More
import HandS.Defaults
import HandS.Small
import HandS.TupLe
import HandS.TupSets
import HandS.EndBits
import HandS.Nested
import HandS.ExcInit
import HandS.ExcSuper
import HandS.ClsMeth
import KE.KSuper
import KE.KExcSuper
import HandS.IsInst
import HandS.MakeKwOnly
import HandS.DictComp
import HandS.SortInts
import HandS.Conv
import HandS.More
import HandS.Wide
import HandS.Deep
import HandS.Style
import HandS.WideBits
import HandS.Dict
import PySem.Challenge.RW_soleseat_k00_a_key_lives_on
set_option Elab.async false
set_option maxRecDepth 100000
set_option maxHeartbeats 1000000
set_option linter.all false
/-! Calls where nothing is under repr around: the layer's defs, with one premise more (no guard around). -/
namespace G0
open PySem PySem.Spec PyProof.Rows L2
structure FnG (P : Program) (w : World) (K : PySem.W.Frag) (mg : Str → Option Value) (base : Heap) (CX : CXT)
    (k : Nat) (f : Addr) (fd : FuncData) (ps : List Str) (sp : Sp) : Prop where
  args : ∀ zs G R W, sp zs G R W → zs.length = ps.length
  runs : ∀ (B : Around) (around : List Env) (t : Shared) (G : Hp) (given : Args) (bound : List Value) (zs : List V) (R : VK) (W : XK),
    B.guards = some [] → Room k B → Env0 P w K mg base B around t G →
    BindsTo t fd given (ps.zip bound) → Vals zs bound → sp zs G R W →
    codeAny (model P w) B (.call (.ref f) given) (CR CX around P w G t R W) t
theorem FnG.of {P : Program} {w : World} {K : PySem.W.Frag} {mg : Str → Option Value} {base : Heap} {CX : CXT}
    {k : Nat} {f : Addr} {fd : FuncData} {ps : List Str} {sp : Sp} (F : FnOk P w K mg base CX k f fd ps sp) :
    FnG P w K mg base CX k f fd ps sp :=
  ⟨F.len, fun B around t G given bound zs R W _ hr => F.run B around t G given bound zs R W hr⟩
theorem FnG.mono {P : Program} {w : World} {K : PySem.W.Frag} {mg : Str → Option Value} {base : Heap} {CX : CXT}
    {j k : Nat} {f : Addr} {fd : FuncData} {ps : List Str} {sp : Sp} (F : FnG P w K mg base CX j f fd ps sp) (h : j ≤ k) :
    FnG P w K mg base CX k f fd ps sp :=
  ⟨F.args, fun B around t G given bound zs R W hg hr => F.runs B around t G given bound zs R W hg (hr.mono h)⟩
section
variable {X : Cx} {CX : CXT} {k : Nat} {f : Addr} {fd : FuncData} {ps : List Str} {sp : Sp}
  {dvs : List V} {ds : List Value} {E : XK} {x : Str} {p pos : Pos} {e : Expr} {es : List Expr} {t : TA}
theorem goes {pins : List (Addr × Obj)} {σ : L2.St} {H : Hp} {s : Shared} {Q : VK} {us : List Value} {vs : List V}
    (F : FnG X.prog X.w X.K X.mg X.base CX k f fd ps sp) (free : X.A.guards = some []) (hr : Room k X.A)
    (hb : Binds X.K fd ps ds) (hd : Vals dvs ds) (hx : Passes CX X E)
    (I : Inv X pins σ H s) (r : Vals vs us) (h : sp (vs ++ dvs) H Q E) :
    wpAny (model X.prog X.w) X.A (call (.ref f) us) (EP X pins σ Q) X.xe s := by
  have both : Vals (vs ++ dvs) (us ++ ds) := r.append hd
  have many : (us ++ ds).length = ps.length := both.length.symm.trans (F.args _ _ _ _ h)
  have it := F.runs X.A X.stack s H ⟨us, []⟩ (us ++ ds) (vs ++ dvs) Q E free hr I.env0 (hb s us I.kIn many) both h
  refine wpAny_call (codeAny_mono it fun out s' told => ?_)
  match out, told with
  | .error e, told => exact hx pins σ H s e s' I told
  | .ok (.ret u), told => exact I.after told
  | .ok .next, told => exact told.elim
  | .ok .brk, told => exact told.elim
  | .ok .cont, told => exact told.elim
theorem pe_callG (F : FnG X.prog X.w X.K X.mg X.base CX k f fd ps sp) (free : X.A.guards = some []) (hr : Room k X.A)
    (hg : Gl X x) (hm : X.mg x = some (.ref f)) (hk : PySem.W.keepIn X.K (.ref f) = true)
    (hb : Binds X.K fd ps ds) (hd : Vals dvs ds) (hx : Passes CX X E) (ha : PA X (e :: es) t)
    (n1 : (x == ("__debug__" : Str)) = false := by decide)
    (n2 : starEach (e :: es) X.env = (false, eval e X.env) :: starEach es X.env := by rfl)
    (n3 : (backTo pos (starEach es X.env)).any (·.1) = false := by rfl) :
    PE X (.Call (.Name x p) (e :: es) [] pos) (tCall sp dvs E t) :=
  ⟨fun pins s σ H Q I h => wpAny_Call_Name_kw (ld_glob I hg hm
    (PySem.W.callWith_K (h₀ := X.base) I.ok.mod.kin hk
      (thn (ha.run pos pins s σ H _ I h) fun us s1 ⟨vs, H1, I1, r, q⟩ =>
        ⟨I1.kIn, goes F free hr hb hd hx I1 r q⟩) n2 n3) n1)⟩
end
/-- a def's body, where nothing is under repr -/
theorem fnG_of {CX : CXT} {P : Program} {w : World} {K : PySem.W.Frag} {mg : Str → Option Value} {base : Heap} {k : Nat}
    {f : Addr} {name qual : Str} {params : Arguments} {body : List Stmt} {scope : Scope} {dV kV doc pm cdv ct oc : Value}
    {an od : Option Addr} {osl : Array (Option Value)} {N ps : List Str} {sp : Sp}
    (lk : K.lookup f = some ⟨oc, od, .func (PySem.W.fnOf name qual params body scope dV kV doc pm an cdv ct), osl⟩)
    (coded : PySem.W.codeIn K cdv qual = true) (S : FnScope N ps scope)
    (len : ∀ zs G R W, sp zs G R W → zs.length = ps.length)
    (inner : ∀ (B : Around) (around : List Env) (t : Shared) (G : Hp) (zs : List V) (R : VK) (W : XK), B.guards = some [] →
      Room k (B.deeper (envOfC qual scope t.heap.objs.size f cdv)) → sp zs G R W →
      ∃ tb, PSs (cxOf CX P w K mg base N qual scope f cdv B around t G W) body tb ∧
        tb { nx := fun _ G' => R .non G', rt := R } (start N zs) G) :
    FnG P w K mg base CX (k + 1) f (PySem.W.fnOf name qual params body scope dV kV doc pm an cdv ct) ps sp := by
  refine ⟨len, fun B around t G given bound zs R W free room e0 bd rel asked => ?_⟩
  have many := len _ _ _ _ asked
  have KX : K.In t.heap := e0.mod.kin.keeps fun b o z => (e0.bs b o z).1
  have lim : t.heap.NoLimit := e0.mod.nolimit.keeps fun b o z => (e0.bs b o z).1
  have kinds : ∀ y ∈ ps.zip bound, scope.names.lookup y.1 = some .local ∨
      (scope.names.lookup y.1 = some .cell ∧ ((cellsFrom (t.heap.objs.size + 1) scope.names []).lookup y.1).isSome = true) := by
    intro y hy
    cases S.par y.1 (List.of_mem_zip hy).1 with
    | inl q => exact .inl q
    | inr q => exact .inr ⟨q, PySem.W.cellsFrom_some _ _ _ (.inl q)⟩
  refine codeAny_call_function room.depth (KX _ _ lk) rfl S.co S.gen rfl (PySem.W.codeRec_of KX coded) (bd _ _ _ _ ?_)
  refine wpAny_newFunctionEnv_cells S.kind kinds fun env same t1 made => ?_
  subst same
  refine ⟨lim.keeps made.toInCall.keep, codeAny_func ?_⟩
  obtain ⟨tb, derived, holds⟩ := inner B around t G zs R W free (room.deeper _) asked
  have J : Inv (cxOf CX P w K mg base N qual scope f cdv B around t G W) [] (start N zs) G t1 :=
    inv_start S room.hd e0 many rel made
  refine wpAny_mono (derived.run [] t1 (start N zs) G _ J holds) (fun fl t' told => ?_) fun e t' told => told
  match fl, told with
  | .ret u, ⟨v, σ', G', J', rv, q⟩ => exact ⟨v, G', J'.os, J'.bare, J'.base, J'.hok, rv, q⟩
  | .next, ⟨σ', G', J', q⟩ => exact ⟨V.non, G', J'.os, J'.bare, J'.base, J'.hok, (rfl : Value.none = Value.none), q⟩
  | .brk, ⟨_, _, _, q⟩ => exact q.elim
  | .cont, ⟨_, _, _, q⟩ => exact q.elim
theorem okG {P : Program} {w : World} {K : PySem.W.Frag} {mg : Str → Option Value} {base : Heap} {x qual : Str} {st : Stmt}
    {f : Addr} {fd : FuncData} {N ps : List Str} {k : Nat} {sp : Sp} (F : Fun K x qual st f fd) (S : FnScope N ps (defScope st))
    (len : ∀ zs G R W, sp zs G R W → zs.length = ps.length)
    (inner : ∀ (cdv : Value) (B : Around) (around : List Env) (t : Shared) (G : Hp) (zs : List V) (R : VK) (W : XK), B.guards = some [] →
      Room k (B.deeper (envOfC qual (defScope st) t.heap.objs.size f cdv)) → sp zs G R W →
      ∃ tb, PSs (cxOf CX0 P w K mg base N qual (defScope st) f cdv B around t G W).nox (defBody st) tb ∧
        tb { nx := fun _ G' => R .non G', rt := R } (start N zs) G) :
    FnG P w K mg base CX0 (k + 1) f fd ps sp := by
  obtain ⟨oc, od, kV, doc, pm, an, cdv, ct, osl, rfl, lk, coded⟩ := F.ex
  refine fnG_of lk coded S len fun B around t G zs R W free room asked => ?_
  obtain ⟨tb, derived, holds⟩ := inner cdv B around t G zs R W free room asked
  exact ⟨tb, derived.nox, holds⟩
/-- the law's own call -/
theorem law_callG {P : Program} {w : World} {K : PySem.W.Frag} {mg mb : Str → Option Value} {CX : CXT} {k : Nat} {fa a : Addr}
    {fd : FuncData} {x : Str} {sp : Sp} {s₁ : Shared} {vs : List Value} {ns : List Int}
    (KX : K.In s₁.heap) (gl : s₁.heap.Ns mainGlobals mg) (bl : s₁.heap.Ns builtinsNs mb)
    (boot : ∀ x : Str, x ≠ "__name__" → mb x = bootBuiltins x) (lim : s₁.heap.NoLimit) (nogens : s₁.gens = #[])
    (at_ : s₁.heap.get? a = some { cls := .type "list", data := .seq vs.toArray }) (nums : IntsAre vs ns) (short : ns.length ≤ sizeLine)
    (room : Room k callerA)
    (F : ∀ base : Heap, K.In base → base.Ns mainGlobals mg → FnG P w K mg base CX k fa fd [x] sp)
    (bound : ∀ (s : Shared) (u : Value), BindsTo s fd ⟨[u], []⟩ [(x, u)])
    (asked : ∀ H : Hp, Only H → SqL K H a (ns.map V.int) → sp [.ref a] H (fun v _ => v = .bl true) fun _ _ _ => False)
    (never : ∀ H e s', CX [] H s₁ (fun _ _ _ => False) e s' → False) :
    codeAny (model P w) callerA (.call (.ref fa) ⟨[.ref a], []⟩)
      (fun r s' => r = .ok (.ret (.bool true)) ∧ OldK s₁.heap s'.heap ∧ s'.os = s₁.os ∧ AllBare s'.gens) s₁ := by
  have rel := vals_ints nums
  have many := nums.length
  have from_ : ∀ H : Hp, Only H → SqL K H a (ns.map V.int) → HOk P w H s₁.heap → (∀ b, H b ≠ none → b = a) →
      (H a ≠ none → K.lookup a = none) → codeAny (model P w) callerA (.call (.ref fa) ⟨[.ref a], []⟩)
        (fun r s' => r = .ok (.ret (.bool true)) ∧ OldK s₁.heap s'.heap ∧ s'.os = s₁.os ∧ AllBare s'.gens) s₁ := by
    intro H only seq fine one away
    have down : ∀ {b : Addr} {o : Obj}, s₁.heap.get? b = some o → H b = none →
      (hidT s₁.heap H).get? b = some o := fun e n => hidT_get e n
    have untracked : ∀ {b : Addr} {o : Obj}, s₁.heap.get? b = some o → (b = a → False) → H b = none := by
      intro b o _ n
      by_cases q : H b = none
      · exact q
      · exact (n (one b q)).elim
    have nodict : ∀ {b : Addr} {o : Obj} {es : Array DictEntry} {ep : Nat},
        s₁.heap.get? b = some o → o.data = .dict es ep → H b = none := by
      intro b o es ep e d
      refine untracked e fun q => ?_
      rw [q, at_] at e
      have e' := Option.some.inj e
      rw [← e'] at d
      have d' : Data.seq vs.toArray _ = Data.dict es ep := d
      exact absurd d' (fun h => by cases h)
    have spaces : ∀ {b : Addr} {m : Str → Option Value}, s₁.heap.Ns b m → (hidT s₁.heap H).Ns b m := by
      intro b m ns
      obtain ⟨o, es, ep, e, d, r⟩ := ns
      exact ⟨o, es, ep, down e (nodict e d), d, r⟩
    have written : K.In (hidT s₁.heap H) := by
      intro b o e
      refine down (KX b o e) ?_
      by_cases q : H b = none
      · exact q
      · have same := one b q
        rw [same] at q e
        rw [away q] at e
        cases e
    have md : Mod K mg (hidT s₁.heap H) := by
      obtain ⟨mc, h1, h2⟩ := lim
      exact ⟨written, spaces gl, ⟨mb, spaces bl, boot⟩, ⟨mc, spaces h1, h2⟩⟩
    have e0 : Env0 P w K mg (hidT s₁.heap H) callerA [] s₁ H :=
      ⟨rfl, md, fun b o e => of_hidT e, Nat.le_of_eq (hidT_size _ _), trivial,
        fun b hb => (List.not_mem_nil (show b ∈ ([] : List Addr) from hb)).elim, fine, .of_eq nogens⟩
    have it := (F _ written (spaces gl)).runs callerA [] s₁ H ⟨[.ref a], []⟩ [.ref a] [.ref a] _ _ rfl room e0
      (bound s₁ (.ref a)) (.cons rfl .nil) (asked H only seq)
    refine codeAny_mono it fun out s' told => ?_
    match out, told with
    | .error e, told => exact (never H e s' told).elim
    | .ok .next, told => exact told.elim
    | .ok .brk, told => exact told.elim
    | .ok .cont, told => exact told.elim
    | .ok (.ret u), ⟨v, H', os, bare, un, fine', r', q⟩ =>
      have q' : v = .bl true := q
      subst q'
      have u' : u = Value.bool true := r'
      subst u'
      refine ⟨rfl, OldK.of_keep fun b o e => ?_, os, bare⟩
      cases q : H b with
      | none => exact un.keep b o e q (fun z => (List.not_mem_nil (show b ∈ ([] : List Addr) from z)).elim) (List.not_mem_nil)
      | some u =>
        rcases only b with z | ⟨ob, xs, z⟩
        · have z1 := q.symm.trans z
          cases z1
        · have z' := un.frzs b ob _ z
          have e1 := (fine b _ z).1
          have e2 := (fine' b _ z').1
          exact e2.trans (e1.symm.trans e)
  cases known : K.lookup a with
  | some o =>
    have e := (KX a o known).symm.trans at_
    have e' := Option.some.inj e
    subst e'
    refine from_ (fun _ => none) (fun _ => .inl rfl) (.inr ⟨_, vs.toArray, _, known, rfl, rfl, rfl, ?_, ?_⟩)
      (fun b u z => by have z1 : (none : Option HO) = some u := z; cases z1) (fun b z => (z rfl).elim) fun z => (z rfl).elim
    · rw [List.size_toArray, many]; exact short
    · simpa using rel
  | none =>
    have self : (fun b => if b = a then some (HO.frz { cls := .type "list", data := .seq vs.toArray } (.lst (ns.map V.int))) else none) a
        = some (HO.frz { cls := .type "list", data := .seq vs.toArray } (.lst (ns.map V.int))) := if_pos rfl
    refine from_ (fun b => if b = a then some (HO.frz { cls := .type "list", data := .seq vs.toArray } (.lst (ns.map V.int))) else none)
      (fun b => ?_) (.inl (.inr ⟨_, self⟩)) (fun b u z => ?_) (fun b z => ?_) fun _ => known
    · by_cases same : b = a
      · exact .inr ⟨_, _, if_pos same⟩
      · exact .inl (if_neg same)
    · by_cases same : b = a
      · subst same
        have z' := Option.some.inj ((if_pos rfl).symm.trans z)
        subst z'
        exact ⟨at_, by rw [List.length_map]; exact short, vs, _, rel, at_⟩
      · have z1 := (if_neg same).symm.trans z
        cases z1
    · by_cases same : b = a
      · exact same
      · exact (z (if_neg same)).elim
theorem walk_ofG {l : PySem.W.OpenLaw} {n k : Nat} {q : Program} {loose : List Str} {XP : (Str → Option Value) → Heap → Prop}
    {YP : World → Heap → Prop} {d : DefRec} {K : Params → PySem.W.Frag} {sp : PySem.W.Frag → Sp} {x : Str}
    (hn : l.most = some n) (hn2 : n ≤ sizeLine) (hdf : d.params.defaults = []) (room : Room k callerA)
    (hY : ∀ (w : World) (h : Heap), YP w h → (K w.params).In h)
    (F : ∀ (w : World) (mg : Str → Option Value) (fa : Addr) (h : Heap), (K w.params).In h → h.Ns mainGlobals mg →
      mg d.name = some (.ref fa) → ∃ fd : FuncData, (∀ (s : Shared) (u : Value), BindsTo s fd ⟨[u], []⟩ [(x, u)]) ∧
        ∀ base : Heap, (K w.params).In base → base.Ns mainGlobals mg →
          FnG l.prog w (K w.params) mg base CX0 k fa fd [x] (sp (K w.params)))
    (asked : ∀ (K : PySem.W.Frag) (H : Hp) (a : Addr) (ns : List Int), ns.length ≤ n → Only H → SqL K H a (ns.map V.int) →
      sp K [.ref a] H (fun v _ => v = .bl true) fun _ _ _ => False) :
    PySem.W.WalkO q loose XP YP l.row.toRowW d [] (fun f vs => PySem.call f vs) := by
  refine Att.attach_call hn hdf fun w s₀ s₁ mg mb fa o pm cd doc a vs ns G Y ho hd hcd named obj nums few nogens => ?_
  have KX := hY w _ Y
  obtain ⟨fd, bound, all⟩ := F w mg fa _ KX G.T.g named
  exact law_callG KX G.T.g G.T.b G.T.builtins G.T.nolimit nogens obj nums (Nat.le_trans few hn2) room all bound
    (fun H only seq => asked _ H a ns few only seq) fun H e s' z => z
end G0
namespace G0
open PySem PySem.Spec PyProof.Rows L2
/-! ### a def of the module's top, by its name (no word of guards: for laws without repr) -/
def Fn (K : PySem.W.Frag) (mg : Str → Option Value) (x : Str) (st : Stmt) : Prop :=
  ∃ f fd, Fun K x x st f fd ∧ mg x = some (.ref f)
def Cal (P : Program) (w : World) (K : PySem.W.Frag) (mg : Str → Option Value) (base : Heap) (x : Str) (k : Nat) (ps : List Str) (sp : Sp) : Prop :=
  ∃ f fd, FnOk P w K mg base CX0 k f fd ps sp ∧ Binds K fd ps [] ∧ mg x = some (.ref f) ∧ PySem.W.keepIn K (.ref f) = true ∧
    ∃ oc od osl, K.lookup f = some ⟨oc, od, .func fd, osl⟩
theorem fn_top {K : PySem.W.Frag} {h : Heap} {mg : Str → Option Value} {x : Str} {st : Stmt} {f : Addr} {oc : Value} {od an : Option Addr}
    {osl : Array (Option Value)} {kV doc pm cdv ct : Value} (X : K.In h) (G : h.Ns mainGlobals mg)
    (a : PySem.W.nsIn K mainGlobals x = some (some (.ref f)))
    (l : K.lookup f = some ⟨oc, od, .func (PySem.W.fnOf x x (defArgs st) (defBody st) (defScope st) .none kV doc pm an cdv ct), osl⟩)
    (c : PySem.W.codeIn K cdv x = true) (k : PySem.W.keepIn K (.ref f) = true) : Fn K mg x st :=
  ⟨f, _, fun_mk l c k, PySem.W.mg_of X G a⟩
/-- a method of the class at C -/
def Fm (K : PySem.W.Frag) (C : Addr) (x qual : Str) (st : Stmt) : Prop := ∃ f fd, Fun K x qual st f fd ∧ Meth K C x f
theorem fm_top {K : PySem.W.Frag} {C : Addr} {x qual : Str} {st : Stmt} {f : Addr} {oc : Value} {od an : Option Addr}
    {osl : Array (Option Value)} {kV doc pm cdv ct : Value}
    (a : PySem.W.findIn K (.ref C) x = some (some (.ref f))) (i : PySem.W.isFn K (.ref f) = true)
    (l : K.lookup f = some ⟨oc, od, .func (PySem.W.fnOf x qual (defArgs st) (defBody st) (defScope st) .none kV doc pm an cdv ct), osl⟩)
    (c : PySem.W.codeIn K cdv qual = true) (k : PySem.W.keepIn K (.ref f) = true) : Fm K C x qual st :=
  ⟨f, _, fun_mk l c k, ⟨a, i, k⟩⟩
section
variable {P : Program} {w : World} {K : PySem.W.Frag} {mg : Str → Option Value} {base : Heap}
theorem cal_of {x : Str} {st : Stmt} {N ps : List Str} {k : Nat} {sp : Sp} (F : Fn K mg x st) (S : FnScope N ps (defScope st))
    (bd : ∀ (kV doc pm : Value) (an : Option Addr) (cdv ct : Value) (us : List Value), us.length = ps.length →
      bindArgs (PySem.W.fnOf x x (defArgs st) (defBody st) (defScope st) .none kV doc pm an cdv ct) ⟨us, []⟩ = pure (ps.zip us))
    (len : ∀ zs G R W, sp zs G R W → zs.length = ps.length)
    (inner : ∀ (f : Addr) (cdv : Value) (B : Around) (around : List Env) (t : Shared) (G : Hp) (zs : List V) (R : VK) (W : XK), True →
      Room k (B.deeper (envOfC x (defScope st) t.heap.objs.size f cdv)) → sp zs G R W →
      ∃ tb, PSs (cxOf CX0 P w K mg base N x (defScope st) f cdv B around t G W).nox (defBody st) tb ∧
        tb { nx := fun _ G' => R .non G', rt := R } (start N zs) G) :
    Cal P w K mg base x (k + 1) ps sp := by
  obtain ⟨f, fd, F, m⟩ := F
  obtain ⟨oc, od, kV, doc, pm, an, cdv, ct, osl, e, lk, c⟩ := id F.ex
  exact ⟨f, fd, F.ok S len (fun cdv B around t G zs R W room h => inner f cdv B around t G zs R W True.intro room h), F.binds bd, m, F.kp, oc, od, osl, lk⟩
theorem Cal.mono {x : Str} {j k : Nat} {ps : List Str} {sp : Sp} (C : Cal P w K mg base x j ps sp) (h : j ≤ k) : Cal P w K mg base x k ps sp := by
  obtain ⟨f, fd, F, r⟩ := C
  exact ⟨f, fd, F.mono h, r⟩
/-- the law itself, at the end -/
theorem law_end {st : Stmt} {k : Nat} {sp : Sp} {fa : Addr} (F : Fn K mg "law" st) (hm : mg "law" = some (.ref fa))
    (bt : ∀ (kV doc pm : Value) (an : Option Addr) (cdv ct : Value) (s : Shared) (v : Value),
      BindsTo s (PySem.W.fnOf "law" "law" (defArgs st) (defBody st) (defScope st) .none kV doc pm an cdv ct) ⟨[v], []⟩ [("script", v)])
    (C : ∀ base : Heap, K.In base → base.Ns mainGlobals mg → Cal P w K mg base "law" k ["script"] sp) :
    ∃ fd : FuncData, (∀ (s : Shared) (v : Value), BindsTo s fd ⟨[v], []⟩ [("script", v)]) ∧
      ∀ base : Heap, K.In base → base.Ns mainGlobals mg → FnG P w K mg base CX0 k fa fd ["script"] sp := by
  obtain ⟨f, fd, F, m⟩ := F
  obtain ⟨oc, od, kV, doc, pm, an, cdv, ct, osl, e, lk, c⟩ := id F.ex
  have ef := m.symm.trans hm
  cases ef
  refine ⟨fd, fun s v => by rw [e]; exact bt _ _ _ _ _ _ s v, fun base kin ns => ?_⟩
  obtain ⟨f', fd', G, _, m', _, oc', od', osl', lk'⟩ := C base kin ns
  have ef := m.symm.trans m'
  cases ef
  have ed := lk.symm.trans lk'
  cases ed
  exact FnG.of G
end
section
variable {X : Cx} {k : Nat} {ps : List Str} {sp : Sp} {x : Str} {p pos : Pos} {e : Expr} {es : List Expr} {t : TA}
theorem pe_cal (C : Cal X.prog X.w X.K X.mg X.base x k ps sp) (free : True) (hr : Room k X.A)
    (ha : PA X (e :: es) t) (hg : Gl X x := by rfl) (n1 : (x == ("__debug__" : Str)) = false := by decide)
    (n2 : starEach (e :: es) X.env = (false, eval e X.env) :: starEach es X.env := by rfl)
    (n3 : (backTo pos (starEach es X.env)).any (·.1) = false := by rfl) (hx : Passes CX0 X E0 := by exact pass0) :
    PE X (.Call (.Name x p) (e :: es) [] pos) (tCall sp [] E0 t) := by
  obtain ⟨f, fd, F, b, m, kp, _⟩ := C
  exact pe_call F hr hg m kp b .nil hx ha n1 n2 n3
/-! ### repr of data -/
def rRep (K : PySem.W.Frag) : List V → Hp → VK → Prop := fun xs H Q => ∃ (x : V) (d : PyData), xs = [x] ∧ Dp K H x d ∧
  d.showable = true ∧ d.hasDict = false ∧ d.depth ≤ 64 ∧ d.shown.length ≤ sizeLine ∧ Q (.str d.shown) H
theorem call_rep (free : X.A.guards = some []) (hu : X.A.units + 66 < cLine) : CallR X (.builtin "repr") (rRep X.K) := by
  intro pins s σ H xs us Q I r h
  obtain ⟨x, d, rfl, hd, hs, hn, h64, hz, q⟩ := h
  obtain ⟨u, rfl, rx⟩ := vals1 r
  have viaRef : ∀ (a : Addr), x = .ref a → wpAny (model X.prog X.w) X.A (call (.builtin "repr") [u]) (EP X pins σ Q) X.xe s := by
    intro a e
    subst e
    obtain rfl : u = Value.ref a := rx
    obtain ⟨as, rd⟩ := Dp.reads I d _ _ hd (rfl : RelV (.ref a) (.ref a))
    exact repr_of_reads' rd hs (PyData.noDict_hsm hn) free (by omega) (fun _ _ e => e)
      (fun h' w t kp => ⟨.str d.shown, H, I.kept (t' := t) kp, ⟨_, rfl⟩, q⟩) hz
  cases hd with
  | non =>
    obtain rfl : u = Value.none := rx
    exact PySem.P.repr_of_none ⟨.str _, H, I.tok _, ⟨_, rfl⟩, by simpa only [PyData.shown] using q⟩
  | bl b =>
    obtain rfl : u = Value.bool b := rx
    exact PySem.P.repr_of_bool ⟨.str _, H, I.tok _, ⟨_, rfl⟩, by simpa only [PyData.shown] using q⟩
  | int i =>
    obtain ⟨t, rfl⟩ := rx
    exact PySem.P.repr_of_int (by simpa [PyData.showable] using hs) ⟨.str _, H, I.tok _, ⟨_, rfl⟩, by simpa only [PyData.shown] using q⟩
  | str z =>
    obtain ⟨t, rfl⟩ := rx
    exact PySem.P.repr_of_str ⟨.str _, H, I.tok _, ⟨_, rfl⟩, by simpa only [PyData.shown] using q⟩ (by simpa only [PyData.shown] using hz)
  | lst _ _ => exact viaRef _ rfl
  | tup _ _ => exact viaRef _ rfl
/-! ### operators of several kinds in one -/
theorem u_eq (hu : X.A.units + 64 < cLine) : OpR X (compareOp .Eq) (fun x y H Q => rEq x y H Q ∨ rEqD X.K x y H Q) := op_eq.or (op_eqD hu)
theorem u_ne (hu : X.A.units + 64 < cLine) : OpR X (compareOp .NotEq) (fun x y H Q => rNe x y H Q ∨ rNeD X.K x y H Q) := op_ne.or (op_neD hu)
theorem u_in : OpR X (compareOp .In) (fun x y H Q => rIn X.K false x y H Q ∨ rInS x y H Q) := op_in_seq.or op_inS
theorem u_notin : OpR X (compareOp .NotIn) (fun x y H Q => rIn X.K true x y H Q ∨ rNotInS x y H Q) := op_notIn_seq.or op_notInS
end
theorem pe_fldK {X : Cx} {e : Expr} {f : Str} {pos : Pos} {ta : TE} (K : PySem.W.Frag) (ha : PE X e ta) (hK : X.K = K := by rfl)
    (hb : attributeBase e f X.env (eval e X.env) = eval e X.env := by rfl) : PE X (.Attribute e f pos) (tFld K ta f) := by
  subst hK
  exact pe_fld ha hb
/-! ### the written part named, for what stands within a comprehension -/
theorem op_K {X : Cx} {f : Value → Value → Sem Value} (r : PySem.W.Frag → R2) (K : PySem.W.Frag) (ho : OpR X f (r X.K)) (hK : X.K = K) : OpR X f (r K) := hK ▸ ho
theorem ix_K {X : Cx} (r : PySem.W.Frag → R2) (K : PySem.W.Frag) (ho : IxR X (r X.K)) (hK : X.K = K) : IxR X (r K) := hK ▸ ho
theorem call_K {X : Cx} {f : Value} (r : PySem.W.Frag → List V → Hp → VK → Prop) (K : PySem.W.Frag) (ho : CallR X f (r X.K)) (hK : X.K = K) : CallR X f (r K) := hK ▸ ho
section
variable {X : Cx} (K : PySem.W.Frag)
theorem u_inK (hK : X.K = K := by rfl) : OpR X (compareOp .In) (fun x y H Q => rIn K false x y H Q ∨ rInS x y H Q) := op_K (fun K x y H Q => rIn K false x y H Q ∨ rInS x y H Q) K u_in hK
theorem u_notinK (hK : X.K = K := by rfl) : OpR X (compareOp .NotIn) (fun x y H Q => rIn K true x y H Q ∨ rNotInS x y H Q) := op_K (fun K x y H Q => rIn K true x y H Q ∨ rNotInS x y H Q) K u_notin hK
theorem ix_listK (hK : X.K = K := by rfl) : IxR X (rIxL K) := ix_K rIxL K ix_list hK
theorem ix_tupK (hK : X.K = K := by rfl) : IxR X (rIxT K) := ix_K rIxT K ix_tup hK
theorem ix_seqK (hK : X.K = K := by rfl) : IxR X (rIx K) := ix_K rIx K ix_seq hK
theorem call_len_seqK (hK : X.K = K := by rfl) : CallR X (.builtin "len") (fun xs H Q => ∃ p ys, xs = [.ref p] ∧ (SqL K H p ys ∨ SqT K H p ys) ∧ Q (.int ys.length) H) :=
  call_K (fun K xs H Q => ∃ p ys, xs = [.ref p] ∧ (SqL K H p ys ∨ SqT K H p ys) ∧ Q (.int ys.length) H) K call_len_seq hK
end
/-! ### what changes: one list -/
/-- all that is tracked but p stays -/
def Chg (p : Addr) (H H' : Hp) : Prop := ∀ b o, b ≠ p → H b = some o → H' b = some o
theorem Chg.refl (p : Addr) (H : Hp) : Chg p H H := fun _ _ _ e => e
theorem Chg.trans {p : Addr} {H H1 H2 : Hp} (a : Chg p H H1) (b : Chg p H1 H2) : Chg p H H2 := fun c o n e => b c o n (a c o n e)
theorem Chg.self {p : Addr} {H : Hp} {o : HO} : Chg p H (upd H p o) := fun b u n e => by rw [upd_ne n]; exact e
theorem Chg.new {p q : Addr} {H H1 : Hp} {o : HO} (a : Chg p H H1) (n : H1 q = none) : Chg p H (upd H1 q o) := fun b u m e => by
  rw [upd_ne (ne_of_none (a b u m e) n)]; exact a b u m e
theorem Chg.same {p : Addr} {H H1 : Hp} (a : Same H H1) : Chg p H H1 := fun b o _ e => a b o e
theorem same_upd {H : Hp} {q : Addr} {o : HO} (n : H q = none) : Same H (upd H q o) := fun b u e => by
  rw [upd_ne (ne_of_none e n)]; exact e
/-! ### a law's draws: the pot -/
def PotL (n : Nat) (xs : List V) : Prop := ∃ a b c : Int, xs = [.int a, .int b, .int c] ∧ 0 ≤ a ∧ 0 ≤ b ∧ b < 2305843009213693951 ∧ 0 ≤ c ∧ c ≤ n
def PotAt (n : Nat) (H : Hp) (p : Addr) : Prop := ∃ xs, H p = some (.lst xs) ∧ PotL n xs
theorem PotL.mono {n m : Nat} {xs : List V} (h : PotL n xs) (le : n ≤ m) : PotL m xs := by
  obtain ⟨a, b, c, e, h1, h2, h3, h4, h5⟩ := h
  exact ⟨a, b, c, e, h1, h2, h3, h4, by omega⟩
theorem PotAt.mono {n m : Nat} {H : Hp} {p : Addr} (h : PotAt n H p) (le : n ≤ m) : PotAt m H p := by
  obtain ⟨xs, e, h⟩ := h
  exact ⟨xs, e, h.mono le⟩
theorem PotAt.keep {n : Nat} {H H' : Hp} {p : Addr} (h : PotAt n H p) (s : Same H H') : PotAt n H' p := by
  obtain ⟨xs, e, h⟩ := h
  exact ⟨xs, s _ _ e, h⟩
theorem PotAt.at {n : Nat} {H : Hp} {p : Addr} {xs : List V} (h : PotL n xs) : PotAt n (upd H p (.lst xs)) p := ⟨xs, upd_same, h⟩
end G0
/-! Wide powers, the law's own call with the script's bits told, len of an own object, sorted of a tuple of tuples of ints. -/
namespace G0
open PySem PySem.Spec PyProof.Rows L2
def CPowB (i j : Int) : Prop := 0 ≤ j ∧ (Builtin.Int.intBits i : Int) * j ≤ 2 ^ 27
theorem op_powB {X : Cx} : OpR X (binaryOp .Pow) (rI CPowB fun i j => .int (i ^ j.toNat)) := opI fun _ _ _ _ _ _ _ hc q => pow_int hc.1 hc.2 q
theorem walk_ofGB {l : PySem.W.OpenLaw} {n k : Nat} {q : Program} {loose : List Str} {XP : (Str → Option Value) → Heap → Prop}
    {YP : World → Heap → Prop} {d : DefRec} {K : Params → PySem.W.Frag} {sp : PySem.W.Frag → Sp} {x : Str}
    (hn : l.most = some n) (hn2 : n ≤ sizeLine) (hdf : d.params.defaults = []) (room : Room k callerA)
    (hY : ∀ (w : World) (h : Heap), YP w h → (K w.params).In h)
    (F : ∀ (w : World) (mg : Str → Option Value) (fa : Addr) (h : Heap), (K w.params).In h → h.Ns mainGlobals mg →
      mg d.name = some (.ref fa) → ∃ fd : FuncData, (∀ (s : Shared) (u : Value), BindsTo s fd ⟨[u], []⟩ [(x, u)]) ∧
        ∀ base : Heap, (K w.params).In base → base.Ns mainGlobals mg →
          FnG l.prog w (K w.params) mg base CX0 k fa fd [x] (sp (K w.params)))
    (asked : ∀ (K : PySem.W.Frag) (H : Hp) (a : Addr) (ns : List Int), ns.length ≤ n → (∀ z ∈ ns, Builtin.Int.intBits z ≤ 1048576) → Only H → SqL K H a (ns.map V.int) →
      sp K [.ref a] H (fun v _ => v = .bl true) fun _ _ _ => False) :
    PySem.W.WalkO q loose XP YP l.row.toRowW d [] (fun f vs => PySem.call f vs) := by
  refine Att.attach_callB hn hdf fun w s₀ s₁ mg mb fa o pm cd doc a vs ns G Y ho hd hcd named obj nums few bits nogens => ?_
  have KX := hY w _ Y
  obtain ⟨fd, bound, all⟩ := F w mg fa _ KX G.T.g named
  exact law_callG KX G.T.g G.T.b G.T.builtins G.T.nolimit nogens obj nums (Nat.le_trans few hn2) room all bound
    (fun H only seq => asked _ H a ns few bits only seq) fun H e s' z => z
/-! ### len of an own object -/
section
variable {X : Cx} {CX : CXT} {k : Nat} {f C : Addr} {fd : FuncData} {ps : List Str} {sp : Sp} {dvs : List V} {ds : List Value} {E : XK}
theorem run_fn1 {pins : List (Addr × Obj)} {σ : L2.St} {H : Hp} {s : Shared} {Q : VK} {us : List Value} {vs : List V}
    (F : FnOk X.prog X.w X.K X.mg X.base CX k f fd ps sp) (hr : Room (k + 1) X.A) (hb : Binds X.K fd ps ds) (hd : Vals dvs ds) (hx : Passes CX X E)
    (I : Inv X pins σ H s) (r : Vals vs us) (h : sp (vs ++ dvs) H Q E) : wpAny (model X.prog X.w) X.A.in1 (call (.ref f) us) (EP X pins σ Q) X.xe s := by
  have r2 : Vals (vs ++ dvs) (us ++ ds) := r.append hd
  have hl : (us ++ ds).length = ps.length := by rw [← r2.length]; exact F.len _ _ _ _ h
  refine wpAny_call (codeAny_mono (F.run X.A.in1 X.stack s H ⟨us, []⟩ (us ++ ds) (vs ++ dvs) Q E hr.in1 I.env0.in1 (hb s us I.kIn hl) r2 h) fun r s' hq => ?_)
  cases r with
  | error e => exact hx pins σ H s e s' I hq
  | ok fl =>
    cases fl with
    | ret u => exact I.after hq
    | next => exact False.elim hq
    | brk => exact False.elim hq
    | cont => exact False.elim hq
def rLenOwn (C : Addr) (sp : Sp) (E : XK) : List V → Hp → VK → Prop := fun xs H Q => ∃ (a dx : Addr) (fs : List (Str × V)), xs = [.ref a] ∧ H a = some (.ins C dx fs) ∧
  sp [.ref a] H (fun v H2 => ∃ n : Nat, v = .int n ∧ n ≤ sizeLine ∧ Q (.int n) H2) E
theorem call_lenOwn (hm : Meth X.K C "__len__" f) (F : FnOk X.prog X.w X.K X.mg X.base CX k f fd ps sp) (hr : Room (k + 1) X.A) (hb : Binds X.K fd ps []) (hx : Passes CX X E) :
    CallR X (.builtin "len") (rLenOwn C sp E) := by
  intro pins s σ H xs us Q I r h
  obtain ⟨a, dx, fs, rfl, e, q⟩ := h
  obtain ⟨u, rfl, ru⟩ := vals1 r
  obtain rfl : u = Value.ref a := ru
  obtain ⟨mA, O, _, _, _, _⟩ := ins_get I.hok e
  obtain ⟨od, ho, _⟩ := lookIn_ns O.ns
  have IA : PySem.W.InstAt s.heap a (PySem.W.instObj C dx) C (some od) := ⟨O.obj, rfl, rfl, ho⟩
  refine Calls.call_function_entry kind_len plain_len entry_len (args_len1 _) ?_
  unfold Builtin.«len»
  refine wpAny_bind (m := oneArg "len" _) (wpAny_pure ?_)
  refine wpAny_bind (m := callSpecial? (.ref a) (Str.ofString "__len__")) (PySem.W.special_fn I.kIn IA hm.at_ (beq_iff_eq.mp hm.fn)
    (wpAny_mono (run_fn1 (us := [.ref a]) (vs := [.ref a]) F hr hb .nil hx I (.cons rfl .nil) q) (fun r s' hr' => ?_) fun _ _ y => y))
  obtain ⟨v, H', I', rv, n, rfl, hn, q'⟩ := hr'
  obtain ⟨t, rfl⟩ := (show ∃ t, r = Value.int n t from rv)
  rw [sizeLine_eq] at hn
  refine wpAny_bind (wpAny_holding (wpAny_pure ?_))
  refine wpAny_bind (wpAny_letGo ?_)
  show wpAny _ _ (if ((n : Nat) : Int) < 0 then _ else _) _ _ _
  rw [if_neg (by omega)]
  show wpAny _ _ (if ((n : Nat) : Int) ≥ 2 ^ 63 then _ else _) _ _ _
  rw [if_neg (by omega)]
  exact wpAny_bind (wpAny_mkInt (wpAny_pure ⟨_, rfl, .int n, H', I'.tok _, ⟨_, rfl⟩, q'⟩))
end
/-! ### sorted of a tuple of tuples of ints -/
section
variable {prog : Program} {w : World} {A : Around} {E : Value → Shared → Prop} {s : Shared}
theorem collect_tup {l : Addr} {vs : List Value} {Q : List Value → Shared → Prop} (hl : IsTup s.heap l vs.toArray)
    (h : Q vs { s with heap := (s.heap.push (seqObj "list" #[] 0)).update s.heap.objs.size (Obj.mapSeq (· ++ vs.toArray)) }) (hsz : vs.length ≤ sizeLine) :
    wpAny (model prog w) A (collect (.ref l)) Q E s := by
  obtain ⟨o, ho, hc, n, hd⟩ := id hl
  unfold collect
  refine wpAny_bind (wpAny_runValue (codeAny_builtin entry_proto_collect' ?_))
  show wpAny _ _ (do again (.builtin "list.__iadd__" ⟨[← newList [], .ref l], []⟩)) _ _ s
  refine wpAny_bind (wpAny_newList (wpAny_pure ⟨Code.quiet_builtin _ (by decide +kernel), codeAny_builtin entry_list_iadd' ?_⟩))
  show wpAny _ _ (Builtin.List.listExtendWith (.ref s.heap.objs.size) (.ref l) (.ref s.heap.objs.size)) _ _ { s with heap := s.heap.push (seqObj "list" #[] 0) }
  unfold Builtin.List.listExtendWith
  have ho' : (s.heap.push (seqObj "list" #[] 0)).get? l = some o := Heap.get?_push_of_some _ ho
  refine wpAny_bind (wpAny_typeOf (T := "tuple") ⟨o, ho', hc⟩ ?_)
  have ht : (Value.type "tuple" == Value.type "tuple") = true := by rfl
  rw [if_pos (by rw [ht]; simp)]
  refine wpAny_bind (listItems_at ho' hd ?_)
  refine wpAny_bind (listItems_at (xs := #[]) (n := 0) (Heap.get?_push_size _ rfl) rfl ?_)
  rw [if_neg (by simp)]
  refine wpAny_bind (listUpdate_at (xs := #[]) (n := 0) (Heap.get?_push_size _ rfl) rfl ?_ (Nat.zero_le _) (by show (#[] ++ vs.toArray).size ≤ sizeLine + 1; simp only [Array.size_append, List.size_toArray, List.length_nil]; omega))
  refine wpAny_pure ?_
  show wpAny (model prog w) A (do
      let o ← load s.heap.objs.size
      match o.data with
      | .seq xs _ => pure xs.toList
      | _ => unsupported "internal:collect") Q E { s with heap := (s.heap.push (seqObj "list" #[] 0)).update s.heap.objs.size (Obj.mapSeq (· ++ vs.toArray)) }
  refine wpAny_bind (wpAny_load (get?_update_seq (Heap.get?_push_size _ rfl) _) ?_)
  show wpAny _ _ (pure ((#[] : Array Value) ++ vs.toArray).toList) Q E _
  rw [show ((#[] : Array Value) ++ vs.toArray).toList = vs by simp]
  exact wpAny_pure h
open TS in
theorem sorted_tupsT {l : Addr} {vs : List Value} {d : Nat} {B : Int} {Q : Value → Shared → Prop} (hl : IsTup s.heap l vs.toArray) (h64 : vs.length < 64) (hd : 1 ≤ d) (x : TupsOk s.heap d B vs)
    (h : ∀ out : Array Value, out.toList.Perm vs → out.toList.Pairwise (fun u v => code B (intsOf s.heap u) ≤ code B (intsOf s.heap v)) → Q (.ref (s.heap.objs.size + 1)) { s with heap := sortedAll s.heap vs out }) :
    wpAny (model prog w) A (call (.builtin "sorted") [.ref l]) Q E s := by
  refine Calls.call_function_entry kind_sorted plain_sorted entry_sorted (args_sorted1 _) ?_
  unfold Builtin.«sorted»
  refine wpAny_bind (m := checkCount "sorted" 1 1 _) (wpAny_pure ?_)
  refine wpAny_bind (collect_tup hl ?_ (by rw [sizeLine_eq]; omega))
  refine wpAny_bind (wpAny_newList ?_ (by rw [sizeLine_eq]; omega))
  have hsz : ((s.heap.push (seqObj "list" #[] 0)).update s.heap.objs.size (Obj.mapSeq (· ++ vs.toArray))).objs.size = s.heap.objs.size + 1 := by
    rw [Heap.size_update, size_push']
  have hoL : (((s.heap.push (seqObj "list" #[] 0)).update s.heap.objs.size (Obj.mapSeq (· ++ vs.toArray))).push (seqObj "list" vs.toArray 0)).get? (s.heap.objs.size + 1) = some (seqObj "list" vs.toArray 0) := by
    rw [← hsz]; exact Heap.get?_push_size _ rfl
  have keep : ∀ b o, s.heap.get? b = some o → o.cls = .type "tuple" → (((s.heap.push (seqObj "list" #[] 0)).update s.heap.objs.size (Obj.mapSeq (· ++ vs.toArray))).push (seqObj "list" vs.toArray 0)).get? b = some o := fun b o q _ => by
    have hlt : b < s.heap.objs.size := Heap.lt_size q
    rw [Heap.get?_push_ne _ _ _ (by rw [hsz]; exact Nat.ne_of_lt (Nat.lt_succ_of_lt hlt)), Heap.get?_update_ne _ _ _ _ (Nat.ne_of_lt hlt), Heap.get?_push_ne _ _ _ (Nat.ne_of_lt hlt)]
    exact q
  show wpAny _ _ _ _ _ { s with heap := ((s.heap.push (seqObj "list" #[] 0)).update s.heap.objs.size (Obj.mapSeq (· ++ vs.toArray))).push (seqObj "list" vs.toArray 0) }
  rw [hsz]
  refine wpAny_bind (wpAny_holding (wpAny_call_entry slot_list_sort ⟨_, hoL, rfl⟩ entry_list_sort (sort_tups hoL h64 hd (x.keeps keep) (fun v => code B (intsOf s.heap v)) (fun v hv ns t => ?_) fun out a1 a2 => ⟨_, rfl, ?_⟩) (args_list_sort _)))
  · obtain ⟨ns0, t0, _⟩ := x v hv
    have e : ns = ns0 := t.ints.symm.trans (t0.keeps keep).ints
    rw [e]
    show code B (intsOf s.heap v) = code B ns0
    rw [t0.ints]
  · exact wpAny_pure ⟨_, rfl, h out a1 a2⟩
end
def rSortUT (K : PySem.W.Frag) (d : Nat) (B : Int) : List V → Hp → VK → Prop := fun vs H Q => ∃ (a : Addr) (xs : List V), vs = [V.ref a] ∧ SqT K H a xs ∧ xs.length < 64 ∧ (∀ x ∈ xs, ∃ ns, TupI K H x ns ∧ ns.length = d ∧ TS.Bd B ns) ∧
  ∀ (ys : List V) (p : Addr), ys.Perm xs → ys.Pairwise (fun x y => ∀ n m, TupI K H x n → TupI K H y m → TS.code B n ≤ TS.code B m) → H p = none → Q (.ref p) (upd H p (.lst ys))
theorem cr_sortTT {X : Cx} {d : Nat} {B : Int} (hd : 1 ≤ d) : CallR X (.builtin "sorted") (rSortUT X.K d B) := by
  intro pins s σ H vs us Q I r h
  obtain ⟨a, xs, rfl, hs, h64, hx, q⟩ := h
  obtain ⟨its, rv, hl, hz⟩ := I.tuple hs
  rw [Vals.ref1 r]
  obtain ⟨e1, e2⟩ := bkV_refs rv fun x m => by
    obtain ⟨ns, ⟨t, e, _⟩, _⟩ := hx x m
    exact ⟨t, e⟩
  refine sorted_tupsT (d := d) (B := B) hl (by rw [← rv.length]; exact h64) hd (fun v hv => ?_) fun out h1 h2 => ?_
  · obtain ⟨t, rfl⟩ := e2 v hv
    have hm : V.ref t ∈ xs := by
      rw [e1]
      exact List.mem_map.mpr ⟨_, hv, rfl⟩
    obtain ⟨ns, ⟨t', e, ht⟩, hn, hb⟩ := hx _ hm
    cases e
    exact ⟨ns, tupI_raw I ht, hn, hb⟩
  · obtain ⟨ep, he'⟩ := PyProof.Rows.sortedAll_at s.heap its out
    have h3 : ∀ u ∈ out.toList, ∃ a, u = Value.ref a := fun u hu => e2 u (h1.mem_iff.mp hu)
    have hp : (out.toList.map bkV).Perm xs := by
      rw [e1]
      exact h1.map bkV
    have hlen : (out.toList.map bkV).length ≤ sizeLine := by
      rw [hp.length_eq]
      exact hz
    refine ⟨.ref _, upd H (s.heap.objs.size + 1) (.lst (out.toList.map bkV)), I.laid (t' := s.toks) (fun _ _ => PyProof.Rows.sortedAll_old) (Nat.le_succ _) ⟨hlen, out.toList, ep, bkV_vals h3, he'⟩, rfl, q _ _ hp ?_ (I.hok.fresh (Nat.le_succ _))⟩
    rw [List.pairwise_map]
    refine List.Pairwise.imp (fun {u v} huv n m hn hm => ?_) h2
    obtain ⟨t, et, ht⟩ := hn
    obtain ⟨t', et', ht'⟩ := hm
    have eu := bkV_ref et
    have ev := bkV_ref et'
    have i1 : TS.intsOf s.heap u = n := by
      rw [eu]
      exact (tupI_raw I ht).ints
    have i2 : TS.intsOf s.heap v = m := by
      rw [ev]
      exact (tupI_raw I ht').ints
    rw [← i1, ← i2]
    exact huv
end G0
namespace G0
open PySem PySem.Spec PyProof.Rows L2
/-! ### data -/
mutual
def noL : PyData → Bool
  | .none | .bool _ | .int _ | .str _ => true
  | .list _ | .dict _ => false
  | .tuple xs => noLs xs
def noLs : List PyData → Bool
  | [] => true
  | x :: xs => noL x && noLs xs
end
section
variable {K : PySem.W.Frag} {H H' : Hp} {p : Addr}
theorem sqt_chg (hp : ∃ xs, H p = some (.lst xs)) (c : Chg p H H') {a : Addr} {xs : List V} (h : SqT K H a xs) : SqT K H' a xs := by
  obtain ⟨ys, hp⟩ := hp
  rcases h with (h | ⟨o, h⟩) | h
  · exact .inl (.inl (c _ _ (ne_of h hp (by intro z; cases z)) h))
  · exact .inl (.inr ⟨o, c _ _ (ne_of h hp (by intro z; cases z)) h⟩)
  · exact .inr h
theorem sqt_same (c : Same H H') {a : Addr} {xs : List V} (h : SqT K H a xs) : SqT K H' a xs := by
  rcases h with (h | ⟨o, h⟩) | h
  · exact .inl (.inl (c _ _ h))
  · exact .inl (.inr ⟨o, c _ _ h⟩)
  · exact .inr h
mutual
theorem dp_chg (hp : ∃ xs, H p = some (.lst xs)) (c : Chg p H H') : ∀ (d : PyData) (v : V), noL d = true → Dp K H v d → Dp K H' v d
  | .none, _, _, h => by cases h; exact .non
  | .bool _, _, _, h => by cases h; exact .bl _
  | .int _, _, _, h => by cases h; exact .int _
  | .str _, _, _, h => by cases h; exact .str _
  | .list _, _, n, _ => by simp [noL] at n
  | .dict _, _, n, _ => by simp [noL] at n
  | .tuple ds, _, n, h => by
    cases h with
    | tup hs ha => exact .tup (sqt_chg hp c hs) (dps_chg hp c ds _ (by simpa [noL] using n) ha)
theorem dps_chg (hp : ∃ xs, H p = some (.lst xs)) (c : Chg p H H') : ∀ (ds : List PyData) (vs : List V), noLs ds = true → DpAll K H vs ds → DpAll K H' vs ds
  | [], _, _, h => by cases h; exact .nil
  | d :: ds, _, n, h => by
    simp only [noLs, Bool.and_eq_true] at n
    cases h with
    | cons h1 h2 => exact .cons (dp_chg hp c d _ n.1 h1) (dps_chg hp c ds _ n.2 h2)
end
mutual
theorem dp_same (c : Same H H') : ∀ (d : PyData) (v : V), Dp K H v d → Dp K H' v d
  | .none, _, h => by cases h; exact .non
  | .bool _, _, h => by cases h; exact .bl _
  | .int _, _, h => by cases h; exact .int _
  | .str _, _, h => by cases h; exact .str _
  | .list ds, _, h => by
    cases h with
    | lst hs ha => exact .lst (c.seq hs) (dps_same c ds _ ha)
  | .dict _, _, h => by cases h
  | .tuple ds, _, h => by
    cases h with
    | tup hs ha => exact .tup (sqt_same c hs) (dps_same c ds _ ha)
theorem dps_same (c : Same H H') : ∀ (ds : List PyData) (vs : List V), DpAll K H vs ds → DpAll K H' vs ds
  | [], _, h => by cases h; exact .nil
  | d :: ds, _, h => by
    cases h with
    | cons h1 h2 => exact .cons (dp_same c d _ h1) (dps_same c ds _ h2)
end
theorem dps_app {vs ws : List V} {ds es : List PyData} : DpAll K H vs ds → DpAll K H ws es → DpAll K H (vs ++ ws) (ds ++ es) := by
  intro h g
  match vs, ds, h with
  | [], [], _ => exact g
  | _ :: _, _ :: _, .cons h1 h2 => exact .cons h1 (dps_app h2 g)
theorem dps_len {vs : List V} {ds : List PyData} : DpAll K H vs ds → vs.length = ds.length := by
  intro h
  match vs, ds, h with
  | [], [], _ => rfl
  | _ :: _, _ :: _, .cons _ h2 => exact congrArg (· + 1) (dps_len h2)
end
theorem noLs_of : ∀ {ds : List PyData}, (∀ d ∈ ds, noL d = true) → noLs ds = true
  | [], _ => rfl
  | d :: ds, h => by
    simp only [noLs, Bool.and_eq_true]
    exact ⟨h d (List.mem_cons_self ..), noLs_of fun x hx => h x (List.mem_cons_of_mem _ hx)⟩
/-! ### things and letters -/
inductive Thing : Nat → PyData → Prop
  | num {n : Nat} {i : Int} : 0 ≤ i → i < 10 ^ 60 → Thing n (.int i)
  | tup {n : Nat} {ds : List PyData} : ds.length ≤ 2 → (∀ d ∈ ds, Thing n d) → Thing (n + 1) (.tuple ds)
theorem Thing.noL {n : Nat} {d : PyData} (h : Thing n d) : noL d = true := by
  induction h with
  | num _ _ => rfl
  | tup _ _ ih =>
    simp only [G0.noL]
    exact noLs_of ih
theorem Thing.mono {n m : Nat} {d : PyData} (h : Thing n d) (le : n ≤ m) : Thing m d := by
  induction h generalizing m with
  | num a b => exact .num a b
  | tup l _ ih =>
    cases m with
    | zero => omega
    | succ m => exact .tup l fun d hd => ih d hd (by omega)
def WordOk (z : Str) : Prop := 1 ≤ z.length ∧ z.length ≤ 8 ∧ (∀ c ∈ z.cps.toList, 97 ≤ c ∧ c ≤ 122) ∧ z ≠ "gone"
def LetterD (d : PyData) : Prop := ∃ (z : Str) (ds : List PyData), d = .tuple (.str z :: ds) ∧ WordOk z ∧ ds.length ≤ 5 ∧ ∀ x ∈ ds, Thing 3 x
theorem LetterD.noL {d : PyData} (h : LetterD d) : noL d = true := by
  obtain ⟨z, ds, rfl, _, _, hd⟩ := h
  simp only [G0.noL, noLs, Bool.true_and]
  exact noLs_of fun x hx => (hd x hx).noL
theorem Chg.mut {p D : Addr} {H0 H1 : Hp} {o : HO} (a : Chg p H0 H1) (n : H0 D = none) : Chg p H0 (upd H1 D o) := fun b u m e => by
  rw [upd_ne (ne_of_none e n)]; exact a b u m e
theorem PotAt.ne {n : Nat} {H H' : Hp} {p D : Addr} {o : HO} (h : PotAt n H p) (d : p ≠ D) (e : H' = upd H D o) : PotAt n H' p := by
  obtain ⟨xs, q, r⟩ := h
  exact ⟨xs, by rw [e, upd_ne d]; exact q, r⟩
theorem PotAt.new {n : Nat} {H : Hp} {p D : Addr} {o : HO} (h : PotAt n H p) (d : H D = none) : PotAt n (upd H D o) p := h.keep (same_upd d)
theorem PotAt.neD {n : Nat} {H : Hp} {p D : Addr} (h : PotAt n H p) (d : H D = none) : p ≠ D := by
  obtain ⟨xs, q, r⟩ := h
  exact ne_of_none q d
theorem PotAt.lst {n : Nat} {H : Hp} {p : Addr} (h : PotAt n H p) : ∃ xs, H p = some (.lst xs) := by
  obtain ⟨xs, q, r⟩ := h
  exact ⟨xs, q⟩
theorem PotAt.neT {n : Nat} {H : Hp} {p t : Addr} {xs : List V} (h : PotAt n H p) (d : H t = some (.tup xs)) : t ≠ p := by
  obtain ⟨ys, q, r⟩ := h
  exact ne_of d q (by intro z; cases z)
theorem Cal.imp {P : Program} {w : World} {K : PySem.W.Frag} {mg : Str → Option Value} {base : Heap} {x : Str} {k : Nat} {ps : List Str} {sp sp' : Sp}
    (C : Cal P w K mg base x k ps sp) (h : ∀ vs H Q E, sp' vs H Q E → sp vs H Q E) : Cal P w K mg base x k ps sp' := by
  obtain ⟨f, fd, F, r⟩ := C
  exact ⟨f, fd, ⟨fun a b c d q => F.len _ _ _ _ (h _ _ _ _ q), fun A o s H args us vs Q E hr he hb hv hs => F.run A o s H args us vs Q E hr he hb hv (h _ _ _ _ hs)⟩, r⟩
theorem cal_no {P : Program} {w : World} {K : PySem.W.Frag} {mg : Str → Option Value} {base : Heap} {x : Str} {st : Stmt} {ps : List Str} (F : Fn K mg x st)
    (bd : ∀ (kV doc pm : Value) (an : Option Addr) (cdv ct : Value) (us : List Value), us.length = ps.length →
      bindArgs (PySem.W.fnOf x x (defArgs st) (defBody st) (defScope st) .none kV doc pm an cdv ct) ⟨us, []⟩ = pure (ps.zip us)) :
    Cal P w K mg base x 0 ps (fun _ _ _ _ => False) := by
  obtain ⟨f, fd, F, m⟩ := F
  obtain ⟨oc, od, kV, doc, pm, an, cdv, ct, osl, e, lk, c⟩ := id F.ex
  exact ⟨f, fd, ⟨fun _ _ _ _ h => h.elim, fun _ _ _ _ _ _ _ _ _ _ _ _ _ h => h.elim⟩, F.binds bd, m, F.kp, oc, od, osl, lk⟩
/-! ### texts of small letters -/
theorem az : ∀ j : Fin 26, (("abcdefghijklmnopqrstuvwxyz" : Str).cps.toList)[j.val]? = some (97 + j.val) := by decide +kernel
theorem az_at {d : Int} (h0 : 0 ≤ d) (h1 : d < 26) : atI ("abcdefghijklmnopqrstuvwxyz" : Str).cps.toList d = some (97 + d.toNat) := by
  have e : d = ((d.toNat : Nat) : Int) := by omega
  have q := az ⟨d.toNat, by omega⟩
  rw [e]
  exact atI_nat q
def sg (c : Nat) : Str := ⟨#[c]⟩
open TL in
theorem joinL_sg : ∀ cs : List Nat, joinL [] (cs.map fun c => [c]) = cs
  | [] => rfl
  | [c] => rfl
  | c :: d :: r => by
    show [c] ++ ([] ++ joinL [] ((d :: r).map fun c => [c])) = c :: d :: r
    rw [joinL_sg (d :: r)]
    rfl
open TL in
theorem tl_of (z : Str) : tl z = z.cps.toList := rfl
open TL in
theorem join_sg (cs : List Nat) : (Txt.join "" (cs.map sg)).cps.toList = cs := by
  rw [join_eq, ← tl_of, tl_join]
  have e : (cs.map sg).map tl = cs.map fun c => [c] := by rw [List.map_map]; rfl
  rw [e]
  exact joinL_sg cs
open TL in
theorem join_sg_len (cs : List Nat) : (Txt.join "" (cs.map sg)).length = cs.length := by
  have e := congrArg List.length (join_sg cs)
  rw [← e]
  show _ = (Txt.join "" (cs.map sg)).cps.toList.length
  simp [Str.length]
theorem sum_sg : ∀ cs : List Nat, ((cs.map sg).map (·.length)).sum = cs.length
  | [] => rfl
  | c :: r => by
    show 1 + ((r.map sg).map (·.length)).sum = r.length + 1
    rw [sum_sg r]; omega

end G0
namespace G0
open PySem PySem.Spec PyProof.Rows L2
theorem iteF' {c : Bool} {A B : Prop} (e : c = false) (h : B) : if c = true then A else B := by rw [e]; exact iteF h
theorem iteT' {c : Bool} {A B : Prop} (e : c = true) (h : A) : if c = true then A else B := by rw [e]; exact iteT h
/-! ### several lists may change -/
def ChgS (S : List Addr) (H H' : Hp) : Prop := ∀ b o, b ∉ S → H b = some o → H' b = some o
section
variable {S : List Addr} {p q : Addr} {H H' H0 H1 H2 : Hp} {o : HO}
theorem ChgS.refl : ChgS S H H := fun _ _ _ e => e
theorem ChgS.trans (a : ChgS S H H1) (b : ChgS S H1 H2) : ChgS S H H2 := fun c o n e => b c o n (a c o n e)
theorem Chg.s (h : Chg p H H') (m : p ∈ S) : ChgS S H H' := fun b o n e => h b o (fun z => n (z ▸ m)) e
theorem Same.s (h : Same H H') : ChgS S H H' := fun b o _ e => h b o e
theorem ChgS.mono {T : List Addr} (h : ChgS S H H') (m : ∀ b ∈ S, b ∈ T) : ChgS T H H' := fun b o n e => h b o (fun z => n (m b z)) e
theorem ChgS.new (a : ChgS S H H1) (n : H1 q = none) : ChgS S H (upd H1 q o) := fun b u m e => by
  rw [upd_ne (ne_of_none (a b u m e) n)]; exact a b u m e
theorem ChgS.mut (a : ChgS S H H1) (n : H q = none) : ChgS S H (upd H1 q o) := fun b u m e => by
  rw [upd_ne (ne_of_none e n)]; exact a b u m e
theorem ChgS.put (a : ChgS S H H1) (m : q ∈ S) : ChgS S H (upd H1 q o) := fun b u n e => by
  have nb : b ≠ q := fun z => n (by rw [z]; exact m)
  rw [upd_ne nb]; exact a b u n e
/-- what is new behind was new ahead -/
theorem ChgS.back (a : ChgS S H H1) (n : H1 q = none) (m : q ∉ S) : H q = none := by
  cases e : H q with
  | none => rfl
  | some u => rw [a q u m e] at n; cases n
theorem Chg.back (a : Chg p H H1) (n : H1 q = none) (m : q ≠ p) : H q = none := by
  cases e : H q with
  | none => rfl
  | some u => rw [a q u m e] at n; cases n
theorem PotAt.keepS {n : Nat} (h : PotAt n H p) (s : ChgS S H H') (m : p ∉ S) : PotAt n H' p := by
  obtain ⟨xs, e, h⟩ := h
  exact ⟨xs, s _ _ m e, h⟩
end
/-! ### lists of ints -/
section
variable {K : PySem.W.Frag} {H : Hp}
theorem dps_ints : ∀ ns : List Int, DpAll K H (ns.map V.int) (ns.map PyData.int)
  | [] => .nil
  | n :: r => .cons (.int n) (dps_ints r)
theorem dp_ints {a : Addr} {ns : List Int} (h : H a = some (.lst (ns.map V.int))) : Dp K H (.ref a) (.list (ns.map PyData.int)) := .lst (SqL.of h) (dps_ints ns)
theorem lay_ints : ∀ ns : List Int, PyData.canLayAll0 (ns.map PyData.int) = true
  | [] => by simp [PyData.canLayAll0]
  | n :: r => by simp [PyData.canLayAll0, PyData.canLay0, lay_ints r]
theorem deep_ints : ∀ ns : List Int, PyData.depthAll (ns.map PyData.int) = 0
  | [] => by simp [PyData.depthAll]
  | n :: r => by simp [PyData.depthAll, PyData.depth, deep_ints r]
theorem shaped_ints (ns : List Int) : SeqAt.shaped (.list (ns.map PyData.int)) = true := by
  show ((PyData.list (ns.map PyData.int)).canLay0 && decide ((PyData.list (ns.map PyData.int)).depth ≤ 64)) = true
  simp [PyData.canLay0, PyData.depth, lay_ints, deep_ints]
theorem flat_ints : ∀ ns : List Int, (ns.map V.int).all flatV = true
  | [] => rfl
  | n :: r => by simp [flatV, flat_ints r]
theorem inV_ints (v : Int) : ∀ ns : List Int, inV (.int v) (ns.map V.int) = decide (v ∈ ns)
  | [] => by simp [inV]
  | n :: r => by
    have ih := inV_ints v r
    unfold inV at ih ⊢
    rw [List.map_cons, List.any_cons, ih]
    show ((n == v) || decide (v ∈ r)) = decide (v ∈ n :: r)
    by_cases e : n = v
    · subst e; simp
    · have e' : ¬ v = n := fun z => e z.symm
      simp [e, e']
theorem at_ints {ns : List Int} {d : Int} (h0 : 0 ≤ d) (h1 : d < ns.length) : ∃ v, v ∈ ns ∧ atI (ns.map V.int) d = some (.int v) := by
  have hk : d.toNat < ns.length := by omega
  have ek : d = ((d.toNat : Nat) : Int) := by omega
  refine ⟨ns[d.toNat], List.getElem_mem hk, ?_⟩
  have q : atI (ns.map V.int) ((d.toNat : Nat) : Int) = some (.int ns[d.toNat]) := atI_nat (by rw [List.getElem?_map, List.getElem?_eq_getElem hk] <;> rfl)
  rw [← ek] at q
  exact q
end
/-! ### how long a repr is -/
mutual
def cost : PyData → Nat
  | .none => 4
  | .bool _ => 5
  | .int _ => 1921
  | .str x => 10 * x.length + 2
  | .list xs => 2 + costs xs
  | .tuple xs => 4 + costs xs
  | .dict _ => 0
def costs : List PyData → Nat
  | [] => 0
  | x :: xs => cost x + 2 + costs xs
end
theorem from_le : ∀ (ts : List Str) (k : Nat) (acc : Str), (textFrom k acc ts).length ≤ acc.length + (ts.map fun t => t.length + 2).sum
  | [], k, acc => by show acc.length ≤ _; simp
  | t :: r, k, acc => by
    have ih := from_le r (k + 1) (acc ++ (if k > 0 then ", " else "" : String) ++ t)
    show (textFrom (k + 1) _ r).length ≤ _
    rw [List.map_cons, List.sum_cons]
    rw [Str.length_append, Str.length_append] at ih
    have sep : (Str.ofString (if k > 0 then ", " else "")).length ≤ 2 := by split <;> decide
    omega
theorem join_le : ∀ ts : List Str, (Str.join ", " ts).length ≤ (ts.map fun t => t.length + 2).sum
  | [] => by decide
  | [x] => by show x.length ≤ _; simp
  | x :: y :: r => by
    have ih := join_le (y :: r)
    show (x ++ (", " : Str) ++ Str.join ", " (y :: r)).length ≤ _
    rw [Str.length_append, Str.length_append, List.map_cons, List.sum_cons]
    have : (", " : Str).length = 2 := by decide
    omega
theorem small_cps {x : Str} (h : PyData.strOk x = true) : ∀ c ∈ x.cps.toList, c < 16 ^ 8 := fun c hc => by
  unfold PyData.strOk at h
  rw [Array.all_eq_true_iff_forall_mem] at h
  have := of_decide_eq_true (h c (Array.mem_toList_iff.mp hc))
  omega
mutual
theorem shown_le : ∀ d : PyData, d.showable = true → d.canLay0 = true → d.shown.length ≤ cost d
  | .none, _, _ => by show (("None" : Str)).length ≤ 4; decide
  | .bool b, _, _ => by cases b <;> (simp only [PyData.shown, cost]; decide)
  | .int i, h, _ => by
    simp only [PyData.shown, cost]
    exact int_text_len_1921 (by simpa [PyData.showable] using h)
  | .str x, _, h => by
    simp only [PyData.shown, cost]
    exact StrLaws.reprText_len x (small_cps (by simpa [PyData.canLay0] using h))
  | .list xs, h, l => by
    have ih := shown_les xs (by simpa [PyData.showable] using h) (by simpa [PyData.canLay0] using l)
    simp only [PyData.shown, cost]
    show (textFrom 0 "[" (PyData.shownAll xs) ++ ("]" : Str)).length ≤ _
    have := from_le (PyData.shownAll xs) 0 "["
    have a : ("[" : Str).length = 1 := by decide
    have b : ("]" : Str).length = 1 := by decide
    rw [Str.length_append]
    omega
  | .tuple xs, h, l => by
    have ih := shown_les xs (by simpa [PyData.showable] using h) (by simpa [PyData.canLay0] using l)
    simp only [PyData.shown, cost]
    show (("(" : Str) ++ Str.join ", " (PyData.shownAll xs) ++ (Str.ofString (if (PyData.shownAll xs).length == 1 then ",)" else ")"))).length ≤ _
    have := join_le (PyData.shownAll xs)
    have a : ("(" : Str).length = 1 := by decide
    have b : (Str.ofString (if (PyData.shownAll xs).length == 1 then ",)" else ")")).length ≤ 2 := by split <;> decide
    rw [Str.length_append, Str.length_append]
    omega
  | .dict _, _, h => by simp [PyData.canLay0] at h
theorem shown_les : ∀ ds : List PyData, PyData.showableAll ds = true → PyData.canLayAll0 ds = true → ((PyData.shownAll ds).map fun t => t.length + 2).sum ≤ costs ds
  | [], _, _ => Nat.le_refl _
  | d :: ds, h, l => by
    simp only [PyData.showableAll, Bool.and_eq_true] at h
    simp only [PyData.canLayAll0, Bool.and_eq_true] at l
    have h1 := shown_le d h.1 l.1
    have h2 := shown_les ds h.2 l.2
    simp only [PyData.shownAll, costs, List.map_cons, List.sum_cons]
    omega
end

end G0
namespace G0
open PySem PySem.Spec PyProof.Rows L2
theorem n_caF_me_stt : (("me" : Str) = "state") = False := eq_false (by decide +kernel)
theorem n_caF_me_sits : (("me" : Str) = "sits") = False := eq_false (by decide +kernel)
theorem n_caF_me_rnd : (("me" : Str) = "round") = False := eq_false (by decide +kernel)
theorem n_caF_me_ros : (("me" : Str) = "_roster") = False := eq_false (by decide +kernel)
theorem n_caF_me_nms : (("me" : Str) = "_numbers") = False := eq_false (by decide +kernel)
theorem n_caF_me_key : (("me" : Str) = "_key") = False := eq_false (by decide +kernel)
theorem n_caF_me_bgn : (("me" : Str) = "_begun") = False := eq_false (by decide +kernel)
theorem n_caF_me_plg : (("me" : Str) = "_pledges") = False := eq_false (by decide +kernel)
theorem n_caF_stt_me : (("state" : Str) = "me") = False := eq_false (by decide +kernel)
theorem n_caF_stt_sits : (("state" : Str) = "sits") = False := eq_false (by decide +kernel)
theorem n_caF_stt_rnd : (("state" : Str) = "round") = False := eq_false (by decide +kernel)
theorem n_caF_stt_ros : (("state" : Str) = "_roster") = False := eq_false (by decide +kernel)
theorem n_caF_stt_nms : (("state" : Str) = "_numbers") = False := eq_false (by decide +kernel)
theorem n_caF_stt_key : (("state" : Str) = "_key") = False := eq_false (by decide +kernel)
theorem n_caF_stt_bgn : (("state" : Str) = "_begun") = False := eq_false (by decide +kernel)
theorem n_caF_stt_plg : (("state" : Str) = "_pledges") = False := eq_false (by decide +kernel)
theorem n_caF_sits_me : (("sits" : Str) = "me") = False := eq_false (by decide +kernel)
theorem n_caF_sits_stt : (("sits" : Str) = "state") = False := eq_false (by decide +kernel)
theorem n_caF_sits_rnd : (("sits" : Str) = "round") = False := eq_false (by decide +kernel)
theorem n_caF_sits_ros : (("sits" : Str) = "_roster") = False := eq_false (by decide +kernel)
theorem n_caF_sits_nms : (("sits" : Str) = "_numbers") = False := eq_false (by decide +kernel)
theorem n_caF_sits_key : (("sits" : Str) = "_key") = False := eq_false (by decide +kernel)
theorem n_caF_sits_bgn : (("sits" : Str) = "_begun") = False := eq_false (by decide +kernel)
theorem n_caF_sits_plg : (("sits" : Str) = "_pledges") = False := eq_false (by decide +kernel)
theorem n_caF_rnd_me : (("round" : Str) = "me") = False := eq_false (by decide +kernel)
theorem n_caF_rnd_stt : (("round" : Str) = "state") = False := eq_false (by decide +kernel)
theorem n_caF_rnd_sits : (("round" : Str) = "sits") = False := eq_false (by decide +kernel)
theorem n_caF_rnd_ros : (("round" : Str) = "_roster") = False := eq_false (by decide +kernel)
theorem n_caF_rnd_nms : (("round" : Str) = "_numbers") = False := eq_false (by decide +kernel)
theorem n_caF_rnd_key : (("round" : Str) = "_key") = False := eq_false (by decide +kernel)
theorem n_caF_rnd_bgn : (("round" : Str) = "_begun") = False := eq_false (by decide +kernel)
theorem n_caF_rnd_plg : (("round" : Str) = "_pledges") = False := eq_false (by decide +kernel)
theorem n_caF_ros_me : (("_roster" : Str) = "me") = False := eq_false (by decide +kernel)
theorem n_caF_ros_stt : (("_roster" : Str) = "state") = False := eq_false (by decide +kernel)
theorem n_caF_ros_sits : (("_roster" : Str) = "sits") = False := eq_false (by decide +kernel)
theorem n_caF_ros_rnd : (("_roster" : Str) = "round") = False := eq_false (by decide +kernel)
theorem n_caF_ros_nms : (("_roster" : Str) = "_numbers") = False := eq_false (by decide +kernel)
theorem n_caF_ros_key : (("_roster" : Str) = "_key") = False := eq_false (by decide +kernel)
theorem n_caF_ros_bgn : (("_roster" : Str) = "_begun") = False := eq_false (by decide +kernel)
theorem n_caF_ros_plg : (("_roster" : Str) = "_pledges") = False := eq_false (by decide +kernel)
theorem n_caF_nms_me : (("_numbers" : Str) = "me") = False := eq_false (by decide +kernel)
theorem n_caF_nms_stt : (("_numbers" : Str) = "state") = False := eq_false (by decide +kernel)
theorem n_caF_nms_sits : (("_numbers" : Str) = "sits") = False := eq_false (by decide +kernel)
theorem n_caF_nms_rnd : (("_numbers" : Str) = "round") = False := eq_false (by decide +kernel)
theorem n_caF_nms_ros : (("_numbers" : Str) = "_roster") = False := eq_false (by decide +kernel)
theorem n_caF_nms_key : (("_numbers" : Str) = "_key") = False := eq_false (by decide +kernel)
theorem n_caF_nms_bgn : (("_numbers" : Str) = "_begun") = False := eq_false (by decide +kernel)
theorem n_caF_nms_plg : (("_numbers" : Str) = "_pledges") = False := eq_false (by decide +kernel)
theorem n_caF_key_me : (("_key" : Str) = "me") = False := eq_false (by decide +kernel)
theorem n_caF_key_stt : (("_key" : Str) = "state") = False := eq_false (by decide +kernel)
theorem n_caF_key_sits : (("_key" : Str) = "sits") = False := eq_false (by decide +kernel)
theorem n_caF_key_rnd : (("_key" : Str) = "round") = False := eq_false (by decide +kernel)
theorem n_caF_key_ros : (("_key" : Str) = "_roster") = False := eq_false (by decide +kernel)
theorem n_caF_key_nms : (("_key" : Str) = "_numbers") = False := eq_false (by decide +kernel)
theorem n_caF_key_bgn : (("_key" : Str) = "_begun") = False := eq_false (by decide +kernel)
theorem n_caF_key_plg : (("_key" : Str) = "_pledges") = False := eq_false (by decide +kernel)
theorem n_caF_bgn_me : (("_begun" : Str) = "me") = False := eq_false (by decide +kernel)
theorem n_caF_bgn_stt : (("_begun" : Str) = "state") = False := eq_false (by decide +kernel)
theorem n_caF_bgn_sits : (("_begun" : Str) = "sits") = False := eq_false (by decide +kernel)
theorem n_caF_bgn_rnd : (("_begun" : Str) = "round") = False := eq_false (by decide +kernel)
theorem n_caF_bgn_ros : (("_begun" : Str) = "_roster") = False := eq_false (by decide +kernel)
theorem n_caF_bgn_nms : (("_begun" : Str) = "_numbers") = False := eq_false (by decide +kernel)
theorem n_caF_bgn_key : (("_begun" : Str) = "_key") = False := eq_false (by decide +kernel)
theorem n_caF_bgn_plg : (("_begun" : Str) = "_pledges") = False := eq_false (by decide +kernel)
theorem n_caF_plg_me : (("_pledges" : Str) = "me") = False := eq_false (by decide +kernel)
theorem n_caF_plg_stt : (("_pledges" : Str) = "state") = False := eq_false (by decide +kernel)
theorem n_caF_plg_sits : (("_pledges" : Str) = "sits") = False := eq_false (by decide +kernel)
theorem n_caF_plg_rnd : (("_pledges" : Str) = "round") = False := eq_false (by decide +kernel)
theorem n_caF_plg_ros : (("_pledges" : Str) = "_roster") = False := eq_false (by decide +kernel)
theorem n_caF_plg_nms : (("_pledges" : Str) = "_numbers") = False := eq_false (by decide +kernel)
theorem n_caF_plg_key : (("_pledges" : Str) = "_key") = False := eq_false (by decide +kernel)
theorem n_caF_plg_bgn : (("_pledges" : Str) = "_begun") = False := eq_false (by decide +kernel)
def caF (me : Int) (stt : Str) (sits : Bool) (rnd : Int) (ros : Addr) (nms : Addr) (key : V) (bgn : V) (plg : Addr) : List (Str × V) := [("me", .int me), ("state", .str stt), ("sits", .bl sits), ("round", .int rnd), ("_roster", .ref ros), ("_numbers", .ref nms), ("_key", key), ("_begun", bgn), ("_pledges", .ref plg)]
theorem caF_me (me : Int) (stt : Str) (sits : Bool) (rnd : Int) (ros : Addr) (nms : Addr) (key : V) (bgn : V) (plg : Addr) : (caF me stt sits rnd ros nms key bgn plg).lookup ("me" : Str) = some (.int me) := by unfold caF; rw [List.lookup_cons_self]
theorem caF_put_me (me : Int) (stt : Str) (sits : Bool) (rnd : Int) (ros : Addr) (nms : Addr) (key : V) (bgn : V) (plg : Addr) (me' : Int) : putF "me" (.int me') (caF me stt sits rnd ros nms key bgn plg) = caF me' stt sits rnd ros nms key bgn plg := by
  simp only [caF, putF, if_false, if_true]
theorem caF_stt (me : Int) (stt : Str) (sits : Bool) (rnd : Int) (ros : Addr) (nms : Addr) (key : V) (bgn : V) (plg : Addr) : (caF me stt sits rnd ros nms key bgn plg).lookup ("state" : Str) = some (.str stt) := by unfold caF; rw [List.lookup_cons, beq_false_of_ne (fun z => by rw [n_caF_stt_me] at z; exact z)]; simp only []; rw [List.lookup_cons_self]
theorem caF_put_stt (me : Int) (stt : Str) (sits : Bool) (rnd : Int) (ros : Addr) (nms : Addr) (key : V) (bgn : V) (plg : Addr) (stt' : Str) : putF "state" (.str stt') (caF me stt sits rnd ros nms key bgn plg) = caF me stt' sits rnd ros nms key bgn plg := by
  simp only [caF, putF, n_caF_me_stt, if_false, if_true]
theorem caF_sits (me : Int) (stt : Str) (sits : Bool) (rnd : Int) (ros : Addr) (nms : Addr) (key : V) (bgn : V) (plg : Addr) : (caF me stt sits rnd ros nms key bgn plg).lookup ("sits" : Str) = some (.bl sits) := by unfold caF; rw [List.lookup_cons, beq_false_of_ne (fun z => by rw [n_caF_sits_me] at z; exact z)]; simp only []; rw [List.lookup_cons, beq_false_of_ne (fun z => by rw [n_caF_sits_stt] at z; exact z)]; simp only []; rw [List.lookup_cons_self]
theorem caF_put_sits (me : Int) (stt : Str) (sits : Bool) (rnd : Int) (ros : Addr) (nms : Addr) (key : V) (bgn : V) (plg : Addr) (sits' : Bool) : putF "sits" (.bl sits') (caF me stt sits rnd ros nms key bgn plg) = caF me stt sits' rnd ros nms key bgn plg := by
  simp only [caF, putF, n_caF_me_sits, n_caF_stt_sits, if_false, if_true]
theorem caF_rnd (me : Int) (stt : Str) (sits : Bool) (rnd : Int) (ros : Addr) (nms : Addr) (key : V) (bgn : V) (plg : Addr) : (caF me stt sits rnd ros nms key bgn plg).lookup ("round" : Str) = some (.int rnd) := by unfold caF; rw [List.lookup_cons, beq_false_of_ne (fun z => by rw [n_caF_rnd_me] at z; exact z)]; simp only []; rw [List.lookup_cons, beq_false_of_ne (fun z => by rw [n_caF_rnd_stt] at z; exact z)]; simp only []; rw [List.lookup_cons, beq_false_of_ne (fun z => by rw [n_caF_rnd_sits] at z; exact z)]; simp only []; rw [List.lookup_cons_self]
theorem caF_put_rnd (me : Int) (stt : Str) (sits : Bool) (rnd : Int) (ros : Addr) (nms : Addr) (key : V) (bgn : V) (plg : Addr) (rnd' : Int) : putF "round" (.int rnd') (caF me stt sits rnd ros nms key bgn plg) = caF me stt sits rnd' ros nms key bgn plg := by
  simp only [caF, putF, n_caF_me_rnd, n_caF_stt_rnd, n_caF_sits_rnd, if_false, if_true]
theorem caF_ros (me : Int) (stt : Str) (sits : Bool) (rnd : Int) (ros : Addr) (nms : Addr) (key : V) (bgn : V) (plg : Addr) : (caF me stt sits rnd ros nms key bgn plg).lookup ("_roster" : Str) = some (.ref ros) := by unfold caF; rw [List.lookup_cons, beq_false_of_ne (fun z => by rw [n_caF_ros_me] at z; exact z)]; simp only []; rw [List.lookup_cons, beq_false_of_ne (fun z => by rw [n_caF_ros_stt] at z; exact z)]; simp only []; rw [List.lookup_cons, beq_false_of_ne (fun z => by rw [n_caF_ros_sits] at z; exact z)]; simp only []; rw [List.lookup_cons, beq_false_of_ne (fun z => by rw [n_caF_ros_rnd] at z; exact z)]; simp only []; rw [List.lookup_cons_self]
theorem caF_put_ros (me : Int) (stt : Str) (sits : Bool) (rnd : Int) (ros : Addr) (nms : Addr) (key : V) (bgn : V) (plg : Addr) (ros' : Addr) : putF "_roster" (.ref ros') (caF me stt sits rnd ros nms key bgn plg) = caF me stt sits rnd ros' nms key bgn plg := by
  simp only [caF, putF, n_caF_me_ros, n_caF_stt_ros, n_caF_sits_ros, n_caF_rnd_ros, if_false, if_true]
theorem caF_nms (me : Int) (stt : Str) (sits : Bool) (rnd : Int) (ros : Addr) (nms : Addr) (key : V) (bgn : V) (plg : Addr) : (caF me stt sits rnd ros nms key bgn plg).lookup ("_numbers" : Str) = some (.ref nms) := by unfold caF; rw [List.lookup_cons, beq_false_of_ne (fun z => by rw [n_caF_nms_me] at z; exact z)]; simp only []; rw [List.lookup_cons, beq_false_of_ne (fun z => by rw [n_caF_nms_stt] at z; exact z)]; simp only []; rw [List.lookup_cons, beq_false_of_ne (fun z => by rw [n_caF_nms_sits] at z; exact z)]; simp only []; rw [List.lookup_cons, beq_false_of_ne (fun z => by rw [n_caF_nms_rnd] at z; exact z)]; simp only []; rw [List.lookup_cons, beq_false_of_ne (fun z => by rw [n_caF_nms_ros] at z; exact z)]; simp only []; rw [List.lookup_cons_self]
theorem caF_put_nms (me : Int) (stt : Str) (sits : Bool) (rnd : Int) (ros : Addr) (nms : Addr) (key : V) (bgn : V) (plg : Addr) (nms' : Addr) : putF "_numbers" (.ref nms') (caF me stt sits rnd ros nms key bgn plg) = caF me stt sits rnd ros nms' key bgn plg := by
  simp only [caF, putF, n_caF_me_nms, n_caF_stt_nms, n_caF_sits_nms, n_caF_rnd_nms, n_caF_ros_nms, if_false, if_true]
theorem caF_key (me : Int) (stt : Str) (sits : Bool) (rnd : Int) (ros : Addr) (nms : Addr) (key : V) (bgn : V) (plg : Addr) : (caF me stt sits rnd ros nms key bgn plg).lookup ("_key" : Str) = some (key) := by unfold caF; rw [List.lookup_cons, beq_false_of_ne (fun z => by rw [n_caF_key_me] at z; exact z)]; simp only []; rw [List.lookup_cons, beq_false_of_ne (fun z => by rw [n_caF_key_stt] at z; exact z)]; simp only []; rw [List.lookup_cons, beq_false_of_ne (fun z => by rw [n_caF_key_sits] at z; exact z)]; simp only []; rw [List.lookup_cons, beq_false_of_ne (fun z => by rw [n_caF_key_rnd] at z; exact z)]; simp only []; rw [List.lookup_cons, beq_false_of_ne (fun z => by rw [n_caF_key_ros] at z; exact z)]; simp only []; rw [List.lookup_cons, beq_false_of_ne (fun z => by rw [n_caF_key_nms] at z; exact z)]; simp only []; rw [List.lookup_cons_self]
theorem caF_put_key (me : Int) (stt : Str) (sits : Bool) (rnd : Int) (ros : Addr) (nms : Addr) (key : V) (bgn : V) (plg : Addr) (key' : V) : putF "_key" (key') (caF me stt sits rnd ros nms key bgn plg) = caF me stt sits rnd ros nms key' bgn plg := by
  simp only [caF, putF, n_caF_me_key, n_caF_stt_key, n_caF_sits_key, n_caF_rnd_key, n_caF_ros_key, n_caF_nms_key, if_false, if_true]
theorem caF_bgn (me : Int) (stt : Str) (sits : Bool) (rnd : Int) (ros : Addr) (nms : Addr) (key : V) (bgn : V) (plg : Addr) : (caF me stt sits rnd ros nms key bgn plg).lookup ("_begun" : Str) = some (bgn) := by unfold caF; rw [List.lookup_cons, beq_false_of_ne (fun z => by rw [n_caF_bgn_me] at z; exact z)]; simp only []; rw [List.lookup_cons, beq_false_of_ne (fun z => by rw [n_caF_bgn_stt] at z; exact z)]; simp only []; rw [List.lookup_cons, beq_false_of_ne (fun z => by rw [n_caF_bgn_sits] at z; exact z)]; simp only []; rw [List.lookup_cons, beq_false_of_ne (fun z => by rw [n_caF_bgn_rnd] at z; exact z)]; simp only []; rw [List.lookup_cons, beq_false_of_ne (fun z => by rw [n_caF_bgn_ros] at z; exact z)]; simp only []; rw [List.lookup_cons, beq_false_of_ne (fun z => by rw [n_caF_bgn_nms] at z; exact z)]; simp only []; rw [List.lookup_cons, beq_false_of_ne (fun z => by rw [n_caF_bgn_key] at z; exact z)]; simp only []; rw [List.lookup_cons_self]
theorem caF_put_bgn (me : Int) (stt : Str) (sits : Bool) (rnd : Int) (ros : Addr) (nms : Addr) (key : V) (bgn : V) (plg : Addr) (bgn' : V) : putF "_begun" (bgn') (caF me stt sits rnd ros nms key bgn plg) = caF me stt sits rnd ros nms key bgn' plg := by
  simp only [caF, putF, n_caF_me_bgn, n_caF_stt_bgn, n_caF_sits_bgn, n_caF_rnd_bgn, n_caF_ros_bgn, n_caF_nms_bgn, n_caF_key_bgn, if_false, if_true]
theorem caF_plg (me : Int) (stt : Str) (sits : Bool) (rnd : Int) (ros : Addr) (nms : Addr) (key : V) (bgn : V) (plg : Addr) : (caF me stt sits rnd ros nms key bgn plg).lookup ("_pledges" : Str) = some (.ref plg) := by unfold caF; rw [List.lookup_cons, beq_false_of_ne (fun z => by rw [n_caF_plg_me] at z; exact z)]; simp only []; rw [List.lookup_cons, beq_false_of_ne (fun z => by rw [n_caF_plg_stt] at z; exact z)]; simp only []; rw [List.lookup_cons, beq_false_of_ne (fun z => by rw [n_caF_plg_sits] at z; exact z)]; simp only []; rw [List.lookup_cons, beq_false_of_ne (fun z => by rw [n_caF_plg_rnd] at z; exact z)]; simp only []; rw [List.lookup_cons, beq_false_of_ne (fun z => by rw [n_caF_plg_ros] at z; exact z)]; simp only []; rw [List.lookup_cons, beq_false_of_ne (fun z => by rw [n_caF_plg_nms] at z; exact z)]; simp only []; rw [List.lookup_cons, beq_false_of_ne (fun z => by rw [n_caF_plg_key] at z; exact z)]; simp only []; rw [List.lookup_cons, beq_false_of_ne (fun z => by rw [n_caF_plg_bgn] at z; exact z)]; simp only []; rw [List.lookup_cons_self]
theorem caF_put_plg (me : Int) (stt : Str) (sits : Bool) (rnd : Int) (ros : Addr) (nms : Addr) (key : V) (bgn : V) (plg : Addr) (plg' : Addr) : putF "_pledges" (.ref plg') (caF me stt sits rnd ros nms key bgn plg) = caF me stt sits rnd ros nms key bgn plg' := by
  simp only [caF, putF, n_caF_me_plg, n_caF_stt_plg, n_caF_sits_plg, n_caF_rnd_plg, n_caF_ros_plg, n_caF_nms_plg, n_caF_key_plg, n_caF_bgn_plg, if_false, if_true]
theorem caF_no (me : Int) (stt : Str) (sits : Bool) (rnd : Int) (ros : Addr) (nms : Addr) (key : V) (bgn : V) (plg : Addr) {x : Str} (h0 : x ≠ ("me" : Str)) (h1 : x ≠ ("state" : Str)) (h2 : x ≠ ("sits" : Str)) (h3 : x ≠ ("round" : Str)) (h4 : x ≠ ("_roster" : Str)) (h5 : x ≠ ("_numbers" : Str)) (h6 : x ≠ ("_key" : Str)) (h7 : x ≠ ("_begun" : Str)) (h8 : x ≠ ("_pledges" : Str)) : (caF me stt sits rnd ros nms key bgn plg).lookup x = none := by
  unfold caF
  rw [List.lookup_cons, beq_false_of_ne h0]; simp only []
  rw [List.lookup_cons, beq_false_of_ne h1]; simp only []
  rw [List.lookup_cons, beq_false_of_ne h2]; simp only []
  rw [List.lookup_cons, beq_false_of_ne h3]; simp only []
  rw [List.lookup_cons, beq_false_of_ne h4]; simp only []
  rw [List.lookup_cons, beq_false_of_ne h5]; simp only []
  rw [List.lookup_cons, beq_false_of_ne h6]; simp only []
  rw [List.lookup_cons, beq_false_of_ne h7]; simp only []
  rw [List.lookup_cons, beq_false_of_ne h8]; rfl
theorem caF_made (me : Int) (stt : Str) (sits : Bool) (rnd : Int) (ros : Addr) (nms : Addr) (key : V) (bgn : V) (plg : Addr) : putF "_pledges" (.ref plg) (putF "_begun" (bgn) (putF "_key" (key) (putF "_numbers" (.ref nms) (putF "_roster" (.ref ros) (putF "round" (.int rnd) (putF "sits" (.bl sits) (putF "state" (.str stt) (putF "me" (.int me) ([] )))))))))= caF me stt sits rnd ros nms key bgn plg := by
  simp only [putF, caF, n_caF_me_stt, n_caF_me_sits, n_caF_stt_sits, n_caF_me_rnd, n_caF_stt_rnd, n_caF_sits_rnd, n_caF_me_ros, n_caF_stt_ros, n_caF_sits_ros, n_caF_rnd_ros, n_caF_me_nms, n_caF_stt_nms, n_caF_sits_nms, n_caF_rnd_nms, n_caF_ros_nms, n_caF_me_key, n_caF_stt_key, n_caF_sits_key, n_caF_rnd_key, n_caF_ros_key, n_caF_nms_key, n_caF_me_bgn, n_caF_stt_bgn, n_caF_sits_bgn, n_caF_rnd_bgn, n_caF_ros_bgn, n_caF_nms_bgn, n_caF_key_bgn, n_caF_me_plg, n_caF_stt_plg, n_caF_sits_plg, n_caF_rnd_plg, n_caF_ros_plg, n_caF_nms_plg, n_caF_key_plg, n_caF_bgn_plg, if_false, if_true]
end G0
namespace G0
open PySem PySem.Spec PyProof.Rows L2
theorem n_keF_rnd_srv : (("round" : Str) = "_served") = False := eq_false (by decide +kernel)
theorem n_keF_rnd_lin : (("round" : Str) = "_line") = False := eq_false (by decide +kernel)
theorem n_keF_srv_rnd : (("_served" : Str) = "round") = False := eq_false (by decide +kernel)
theorem n_keF_srv_lin : (("_served" : Str) = "_line") = False := eq_false (by decide +kernel)
theorem n_keF_lin_rnd : (("_line" : Str) = "round") = False := eq_false (by decide +kernel)
theorem n_keF_lin_srv : (("_line" : Str) = "_served") = False := eq_false (by decide +kernel)
def keF (rnd : Int) (srv : Addr) (lin : Addr) : List (Str × V) := [("round", .int rnd), ("_served", .ref srv), ("_line", .ref lin)]
theorem keF_rnd (rnd : Int) (srv : Addr) (lin : Addr) : (keF rnd srv lin).lookup ("round" : Str) = some (.int rnd) := by unfold keF; rw [List.lookup_cons_self]
theorem keF_put_rnd (rnd : Int) (srv : Addr) (lin : Addr) (rnd' : Int) : putF "round" (.int rnd') (keF rnd srv lin) = keF rnd' srv lin := by
  simp only [keF, putF, if_false, if_true]
theorem keF_srv (rnd : Int) (srv : Addr) (lin : Addr) : (keF rnd srv lin).lookup ("_served" : Str) = some (.ref srv) := by unfold keF; rw [List.lookup_cons, beq_false_of_ne (fun z => by rw [n_keF_srv_rnd] at z; exact z)]; simp only []; rw [List.lookup_cons_self]
theorem keF_put_srv (rnd : Int) (srv : Addr) (lin : Addr) (srv' : Addr) : putF "_served" (.ref srv') (keF rnd srv lin) = keF rnd srv' lin := by
  simp only [keF, putF, n_keF_rnd_srv, if_false, if_true]
theorem keF_lin (rnd : Int) (srv : Addr) (lin : Addr) : (keF rnd srv lin).lookup ("_line" : Str) = some (.ref lin) := by unfold keF; rw [List.lookup_cons, beq_false_of_ne (fun z => by rw [n_keF_lin_rnd] at z; exact z)]; simp only []; rw [List.lookup_cons, beq_false_of_ne (fun z => by rw [n_keF_lin_srv] at z; exact z)]; simp only []; rw [List.lookup_cons_self]
theorem keF_put_lin (rnd : Int) (srv : Addr) (lin : Addr) (lin' : Addr) : putF "_line" (.ref lin') (keF rnd srv lin) = keF rnd srv lin' := by
  simp only [keF, putF, n_keF_rnd_lin, n_keF_srv_lin, if_false, if_true]
theorem keF_no (rnd : Int) (srv : Addr) (lin : Addr) {x : Str} (h0 : x ≠ ("round" : Str)) (h1 : x ≠ ("_served" : Str)) (h2 : x ≠ ("_line" : Str)) : (keF rnd srv lin).lookup x = none := by
  unfold keF
  rw [List.lookup_cons, beq_false_of_ne h0]; simp only []
  rw [List.lookup_cons, beq_false_of_ne h1]; simp only []
  rw [List.lookup_cons, beq_false_of_ne h2]; rfl
theorem keF_made (rnd : Int) (srv : Addr) (lin : Addr) : putF "_line" (.ref lin) (putF "_served" (.ref srv) (putF "round" (.int rnd) ([] )))= keF rnd srv lin := by
  simp only [putF, keF, n_keF_rnd_srv, n_keF_rnd_lin, n_keF_srv_lin, if_false, if_true]
end G0
namespace G0
open PySem PySem.Spec PyProof.Rows L2
/-! ### comprehensions over ints, with a test: what stays, what is made of it -/
theorem ints_at' {ns : List Int} {i : Nat} {x : V} (h : (ns.map V.int)[i]? = some x) : ∃ k, ns[i]? = some k ∧ x = V.int k := by
  rw [List.getElem?_map] at h
  cases e : ns[i]? with
  | none => rw [e] at h; cases h
  | some k => rw [e] at h; exact ⟨k, rfl, (Option.some.inj h).symm⟩
theorem filt_next {α : Type} {ns : List α} {i : Nat} {k : α} (p : α → Bool) (h : ns[i]? = some k) : (ns.take (i + 1)).filter p = (ns.take i).filter p ++ (if p k = true then [k] else []) := by
  rw [List.take_succ, h, List.filter_append]
  cases z : p k <;> simp [z]
theorem tst {b c : Bool} {te : TE} {σ : L2.St} {G : Hp} {Y : VK} {B : Hp → Prop} {v : V} (e : b = c) (go : Y v G → te σ G Y) (h : if c = true then Y v G else B G) : if b = true then te σ G Y else B G := by
  rw [e]
  cases c with
  | true => exact iteT (go ((if_pos rfl).mp h))
  | false => exact iteF (by simpa using h)
section
variable {K : PySem.W.Frag} {a : Addr} {ns : List Int} {g : TG} {tt : TT} {te : TE} {vs : List Nat} {σ : L2.St} {H1 : Hp} {D : Addr} {Qd : Hp → Prop}
theorem lc_filtI (p : Int → Bool) (few : ns.length ≤ 10000) (hD : H1 D = none) (hs : SqL K H1 a (ns.map V.int))
    (step : ∀ (i : Nat) (x : Int) (G : Hp) (Y : VK) (B : Hp → Prop), ns[i]? = some x → Same H1 G → (if p x = true then Y (.int x) G else B G) → g (.int x) (wipe σ vs) G fun σ2 H2 => wipe σ2 vs = wipe σ vs ∧ tt σ2 H2 fun b H3 => if b = true then te σ2 H3 Y else B H3)
    (fin : ∀ G, Same H1 G → G D = some (.lst ((ns.filter p).map V.int)) → Qd G) :
    ∃ W : Nat → Nat → Hp → Prop, (∃ m, W 0 m (upd H1 D (.lst []))) ∧ ∀ i m G, W i m G →
      ((Itl K a).stop i G ∧ Qd G) ∨ ((Itl K a).go i G ∧ ∃ Nx : Hp → Prop, (∀ G', Nx G' → ∃ m', m' < m ∧ W (i + 1) m' G') ∧ ∀ x G', (Itl K a).yld i G x G' → g x (wipe σ vs) G' fun σ2 H2 => wipe σ2 vs = wipe σ vs ∧ tt σ2 H2 fun b H3 =>
        if b = true then te σ2 H3 fun y H4 => ∃ acc, H4 D = some (.lst acc) ∧ acc.length < sizeLine ∧ Nx (upd H4 D (.lst (acc ++ [y]))) else Nx H3) := by
  refine lc_list (K := K) (a := a) (xs := ns.map V.int) (fun i G => Same H1 G ∧ G D = some (.lst (((ns.take i).filter p).map V.int))) ⟨same_upd hD, upd_same⟩ (fun i G _ h => h.1.seq hs) ?_ ?_
  · rintro i x G hx ⟨sG, kD⟩
    obtain ⟨k, hk, rfl⟩ := ints_at' hx
    have li := (List.getElem?_eq_some_iff.mp hk).1
    refine step i k G _ _ hk sG ?_
    rw [filt_next p hk]
    by_cases c : p k = true
    · rw [if_pos c, if_pos c]
      refine ⟨_, kD, ?_, fun b o e => ?_, ?_⟩
      · rw [List.length_map]
        exact Nat.lt_of_lt_of_le (show _ < 20000 from Nat.lt_of_le_of_lt (List.length_filter_le ..) (by rw [List.length_take]; omega)) (by decide)
      · rw [upd_ne (ne_of_none e hD)]
        exact sG _ _ e
      · rw [List.map_append]
        exact upd_same
    · rw [if_neg c, if_neg c, List.append_nil]
      exact ⟨sG, kD⟩
  · rintro G ⟨sG, kD⟩
    rw [List.length_map, List.take_length] at kD
    exact fin G sG kD
theorem lc_dataI (p : Int → Bool) (f : Int → PyData) (few : ns.length ≤ 10000) (nl : ∀ x ∈ ns, noL (f x) = true) (hD : H1 D = none) (hs : SqL K H1 a (ns.map V.int))
    (step : ∀ (i : Nat) (x : Int) (G : Hp) (Y : VK) (B : Hp → Prop), ns[i]? = some x → Same H1 G → (p x = true → ∀ v G', Same G G' → Dp K G' v (f x) → Y v G') → (p x = false → B G) → g (.int x) (wipe σ vs) G fun σ2 H2 => wipe σ2 vs = wipe σ vs ∧ tt σ2 H2 fun b H3 => if b = true then te σ2 H3 Y else B H3)
    (fin : ∀ G zs, Same H1 G → G D = some (.lst zs) → DpAll K G zs ((ns.filter p).map f) → Qd G) :
    ∃ W : Nat → Nat → Hp → Prop, (∃ m, W 0 m (upd H1 D (.lst []))) ∧ ∀ i m G, W i m G →
      ((Itl K a).stop i G ∧ Qd G) ∨ ((Itl K a).go i G ∧ ∃ Nx : Hp → Prop, (∀ G', Nx G' → ∃ m', m' < m ∧ W (i + 1) m' G') ∧ ∀ x G', (Itl K a).yld i G x G' → g x (wipe σ vs) G' fun σ2 H2 => wipe σ2 vs = wipe σ vs ∧ tt σ2 H2 fun b H3 =>
        if b = true then te σ2 H3 fun y H4 => ∃ acc, H4 D = some (.lst acc) ∧ acc.length < sizeLine ∧ Nx (upd H4 D (.lst (acc ++ [y]))) else Nx H3) := by
  refine lc_list (K := K) (a := a) (xs := ns.map V.int) (fun i G => Same H1 G ∧ ∃ zs, zs.length ≤ i ∧ G D = some (.lst zs) ∧ DpAll K G zs (((ns.take i).filter p).map f)) ⟨same_upd hD, [], Nat.le_refl _, upd_same, .nil⟩ (fun i G _ h => h.1.seq hs) ?_ ?_
  · rintro i x G hx ⟨sG, zs, lz, kD, dz⟩
    obtain ⟨k, hk, rfl⟩ := ints_at' hx
    have li := (List.getElem?_eq_some_iff.mp hk).1
    have nls : noLs (((ns.take i).filter p).map f) = true := noLs_of fun d hd => by
      obtain ⟨y, hy, rfl⟩ := List.mem_map.mp hd
      exact nl y (List.mem_of_mem_take (List.mem_filter.mp hy).1)
    refine step i k G _ _ hk sG (fun c v G' s' dv => ?_) (fun c => ?_)
    · have kD' := s' _ _ kD
      refine ⟨_, kD', Nat.lt_of_lt_of_le (show zs.length < 20000 by omega) (by decide), fun b o e => ?_, zs ++ [v], by rw [List.length_append, List.length_singleton]; omega, upd_same, ?_⟩
      · rw [upd_ne (ne_of_none e hD)]
        exact s' _ _ (sG _ _ e)
      · rw [filt_next p hk, if_pos c, List.map_append]
        exact dps_app (dps_chg ⟨_, kD'⟩ Chg.self _ _ nls (dps_same s' _ _ dz)) (.cons (dp_chg ⟨_, kD'⟩ Chg.self _ _ (nl k (List.mem_of_getElem? hk)) dv) .nil)
    · refine ⟨sG, zs, by omega, kD, ?_⟩
      rw [filt_next p hk, if_neg (by simp [c]), List.append_nil]
      exact dz
  · rintro G ⟨sG, zs, lz, kD, dz⟩
    rw [List.length_map, List.take_length] at dz
    exact fin G zs sG kD dz
end

end G0
/-! A def with the cell __class__: its first statement says super().__init__(..). -/
namespace G0
open PySem PySem.Spec PyProof.Rows L2 NdefX
abbrev nfS (name qual : Str) (params : Arguments) (body : List Stmt) (scope : Scope) (cc cda : Addr) : NF := ⟨name, qual, params, body, scope, [("__class__", cc)], cda⟩
/-- a statement whose code must be told -/
def P1 (X : Cx) (body : List Stmt) (st : Stmt) (t : TS) : Prop :=
  ∀ (pins : List (Addr × Obj)) (s : Shared) (σ : L2.St) (H : Hp) (D : Ends), Inv X pins σ H s → t D σ H →
    _root_.PySem.wpAt (model X.prog X.w) X.A (.func body X.env) (exec st X.env) (SP X pins D) X.xe s
theorem fnS_of {CX : CXT} {P : Program} {w : World} {K : PySem.W.Frag} {mg : Str → Option Value} {base : Heap} {k : Nat}
    {f cc cda : Addr} {name qual : Str} {params : Arguments} {st : Stmt} {body : List Stmt} {scope : Scope} {dV kV doc pm ct oc cl : Value} {v : Option Value}
    {an od cld : Option Addr} {osl csl : Array (Option Value)} {N ps : List Str} {sp : Sp}
    (lk : K.lookup f = some ⟨oc, od, .func (PySem.W.ksFn name qual params (st :: body) scope dV kV doc pm an (.ref cda) ct cc), osl⟩)
    (coded : PySem.W.codeIn K (.ref cda) qual = true) (lc : K.lookup cc = some ⟨cl, cld, .cell v, csl⟩) (S : NScope N ps ["__class__"] scope)
    (len : ∀ zs G R W, sp zs G R W → zs.length = ps.length)
    (inner : ∀ (A : Around) (outer : List Env) (s : Shared) (H : Hp) (vs : List V) (Q : VK) (E : XK),
      Room k (A.deeper (envF (nfS name qual params (st :: body) scope cc cda) f s.heap.objs.size)) → sp vs H Q E →
      ∃ t1 t2, P1 (ncx CX P w K mg base N (nfS name qual params (st :: body) scope cc cda) f A outer s H E) (st :: body) st t1 ∧
        PSs (ncx CX P w K mg base N (nfS name qual params (st :: body) scope cc cda) f A outer s H E) body t2 ∧
        t1 { nx := fun σ' H' => t2 { nx := fun _ H' => Q .non H', rt := Q } σ' H', rt := Q } (startF N vs [none]) H) :
    FnOk P w K mg base CX (k + 1) f (PySem.W.ksFn name qual params (st :: body) scope dV kV doc pm an (.ref cda) ct cc) ps sp := by
  refine ⟨len, fun A outer s H given us vs Q E hr e0 bd r hsp => ?_⟩
  have hl := len _ _ _ _ hsp
  have KX : K.In s.heap := e0.mod.kin.keeps fun b o z => (e0.bs b o z).1
  have lim : s.heap.NoLimit := e0.mod.nolimit.keeps fun b o e => (e0.bs b o e).1
  have CA : CellsAt [("__class__", cc)] ["__class__"] [none] s.heap H := {
    len := rfl
    all := fun y c e => by
      have : c = cc := by
        simp only [List.lookup] at e
        split at e
        · exact (Option.some.inj e).symm
        · cases e
      subst this
      exact ⟨(e0.bs _ _ (e0.mod.kin _ _ lc)).2, v, ⟨_, KX _ _ lc, rfl⟩⟩
    inj := fun x y c h1 h2 => by
      have q : ∀ z c', List.lookup z [(("__class__" : Str), cc)] = some c' → z = "__class__" := fun z c' e => by
        simp only [List.lookup] at e
        split at e
        · rename_i h
          exact beq_iff_eq.mp h
        · cases e
      rw [q _ _ h1, q _ _ h2]
    has := fun i y e => by
      match i, e with
      | 0, e =>
        cases e
        exact ⟨cc, rfl, fun v h => by cases h⟩
      | i + 1, e => cases e }
  refine codeAny_call_function hr.depth (KX _ _ lk) rfl S.co S.gen rfl (PySem.W.codeRec_of KX coded) (bd _ _ _ _ ?_)
  refine wpAny_newFunctionEnv S.nocell (fun ⟨n, _⟩ hy => S.par n (List.of_mem_zip hy).1) (fun h₁ hns hsb => ⟨lim.fresh _ hsb, ?_⟩) S.kind
  show codeAny _ _ (.func (st :: body) (envF (nfS name qual params (st :: body) scope cc cda) f s.heap.objs.size)) _ _
  refine PySem.ks_codeAny_funcAt ?_
  have kp : ∀ b o, s.heap.get? b = some o → h₁.get? b = some o := fun b o e => hsb.extBut b o (Nat.ne_of_lt (Heap.lt_size e)) (Heap.get?_push_of_some _ e)
  obtain ⟨t1, t2, h1, h2, hq⟩ := inner A outer s H vs Q E (hr.deeper _) hsp
  have I : Inv (ncx CX P w K mg base N (nfS name qual params (st :: body) scope cc cda) f A outer s H E) [] (startF N vs [none]) H { s with heap := h₁, toks := s.toks + (ps.zip us).length } := inv_startN S hr.hd e0 hl r CA hns kp
  have fin : ∀ {σ' : L2.St} {H' : Hp} {v : V} {u : Value} {s' : Shared}, Inv (ncx CX P w K mg base N (nfS name qual params (st :: body) scope cc cda) f A outer s H E) [] σ' H' s' → L2.RelV v u → Q v H' → CE outer P w H s Q u s' :=
    fun {σ' H' v u s'} J rv q => ⟨v, H', J.os, J.bare, J.base, J.hok, rv, q⟩
  refine PySem.ks_wpAt_execs_cons (PySem.ks_wpAt_mono (h1 [] _ (startF N vs [none]) H _ I hq) (fun fl s' hs => ?_) fun e s' hs => hs)
  match fl, hs with
  | .ret u, ⟨v, σ', H', J, rv, q⟩ => exact fin J rv q
  | .brk, ⟨_, _, _, q⟩ => exact False.elim q
  | .cont, ⟨_, _, _, q⟩ => exact False.elim q
  | .next, ⟨σ', H', J, q⟩ =>
    refine _root_.PySem.wpAt_of_wpAny (wpAny_mono (h2.run [] _ σ' H' _ J q) (fun fl s' hs => ?_) fun e s' hs => hs)
    match fl, hs with
    | .ret u, ⟨v, σ', H', J, rv, q⟩ => exact fin J rv q
    | .next, ⟨σ', H', J, q⟩ => exact fin (v := V.non) (u := Value.none) J rfl q
    | .brk, ⟨_, _, _, q⟩ => exact False.elim q
    | .cont, ⟨_, _, _, q⟩ => exact False.elim q
end G0
namespace G0
open PySem PySem.Spec PyProof.Rows L2 NdefX
/-- what super() without arguments asks of the text and the written part -/
structure SupF (P : Program) (K : PySem.W.Frag) (N : List Str) (f cc cda D : Addr) (fd : FuncData) (params : Arguments) (scope : Scope) : Prop where
  fun_ : ∃ oc od osl, K.lookup f = some ⟨oc, od, .func fd, osl⟩ ∧ fd.params = params
  arg : ∃ ar : Arg, (params.posonlyargs ++ params.args).head? = some ar ∧ N[0]? = some ar.arg ∧ scope.names.lookup ar.arg = some .local
  code : ∃ ccl cdd vs ccs file tf, K.lookup cda = some ⟨ccl, cdd, .fields vs, ccs⟩ ∧ vs[2]? = some (.str file tf) ∧ ((P.main.file : Str) == file) = true
  cell : ∃ cl cld csl, K.lookup cc = some ⟨cl, cld, .cell (some (.ref D)), csl⟩
  cls : ∃ cdD, PySem.W.clsIn K D = some cdD
  miss : PySem.W.nsIn K mainGlobals "super" = some none
  sup : scope.names.lookup ("super" : Str) = some .globalImplicit
  own : scope.names.lookup ("__class__" : Str) = some .free
  kind : scope.kind = .function
  top : (P.main.scope.names.lookup ("super" : Str)).isSome = false
  any_ : PySem.W.nsIn K cStatics "thirdparty.any" = some none
/-- super() is made: an object of its own, held by a pin -/
theorem sup_node {CX : CXT} {P : Program} {w : World} {K : PySem.W.Frag} {mg : Str → Option Value} {base : Heap} {N : List Str}
    {f cc cda D a C : Addr} {name qual : Str} {params : Arguments} {st : List Stmt} {scope : Scope} {fd : FuncData}
    {A : Around} {outer : List Env} {s0 : Shared} {H0 : Hp} {E : XK} {pins : List (Addr × Obj)} {s : Shared} {σ : L2.St} {H : Hp} {p0 p1 : Pos} {attr : Str} {whole : Sem Value} {Q : Value → Shared → Prop} {EE : Value → Shared → Prop} {ox : Obj} {odx : Option Obj}
    (F : SupF P K N f cc cda D fd params scope)
    (I : Inv (ncx CX P w K mg base N (nfS name qual params st scope cc cda) f A outer s0 H0 E) pins σ H s) (hs : σ[0]? = some (some (.ref a)))
    (J : PySem.W.InstAt s.heap a ox C odx) (hsub : PySem.W.mroIn K C (.ref D) = some true) (hat : (attr == ("__class__" : Str)) = false)
    (h : ∀ h', (∀ b o, s.heap.get? b = some o → h'.get? b = some o) → h'.get? s.heap.objs.size = some (PySem.W.ks_superObj D a C) → Q (.ref s.heap.objs.size) { s with heap := h' }) :
    _root_.PySem.wpAt (model P w) (A.deeper (envF (nfS name qual params st scope cc cda) f s0.heap.objs.size)) (.func st (envF (nfS name qual params st scope cc cda) f s0.heap.objs.size))
      (attributeBase (.Call (.Name "super" p0) [] [] p1) attr (envF (nfS name qual params st scope cc cda) f s0.heap.objs.size) whole) Q EE s := by
  obtain ⟨oc, od, osl, hf, hpar⟩ := F.fun_
  obtain ⟨ar, hp, hN, hka⟩ := F.arg
  obtain ⟨ccl, cdd, vs, ccs, file, tf, hcode, hvs, hfile⟩ := F.code
  obtain ⟨cl, cld, csl, hcell⟩ := F.cell
  obtain ⟨cdD, hD⟩ := F.cls
  have X : K.In s.heap := I.kIn
  have M : Mod K mg base := I.mod
  obtain ⟨mb, hb, hboot⟩ := M.blt
  obtain ⟨m, hns, hlook⟩ := I.loc
  obtain ⟨u, ru, look⟩ := hlook 0 ar.arg (.ref a) hN hs (.inl hka)
  have ru : u = Value.ref a := ru
  subst ru
  have hv : m ar.arg = some (.ref a) := by
    rcases look with ⟨_, e⟩ | ⟨e, _⟩
    · exact e
    · exfalso
      have e : scope.names.lookup ar.arg = some .cell ∨ scope.names.lookup ar.arg = some .free := e
      rw [hka] at e
      rcases e with e | e <;> cases e
  have kb : ∀ b o, base.get? b = some o → s.heap.get? b = some o := I.bk
  obtain ⟨hh, g, d, t, os⟩ := s
  obtain ⟨oD, hD1, hD2⟩ : ∃ oD, hh.get? D = some oD ∧ oD.data = .cls cdD := by
    unfold PySem.W.clsIn at hD
    split at hD
    · rename_i c d cd' sl ho
      cases hD
      exact ⟨_, X _ _ ho, rfl⟩
    · cases hD
  subst hpar
  refine PySem.ks_wpAt_super_base F.sup F.own hat rfl (X _ _ hf) rfl hp rfl (X _ _ hcode) rfl hvs hfile F.top ?_
  refine PySem.W.ks_loadName_global F.kind F.sup (PySem.Calls.loadGlobal_builtin (M.glob.keeps kb) (PySem.W.mg_none_of M.kin M.glob F.miss) (hb.keeps kb) ((hboot _ (by decide +kernel)).trans (show bootBuiltins "super" = some (.type "super") by first | rfl | decide +kernel)) ⟨rfl, ?_⟩)
  refine wpAny_loadName_free F.kind F.own rfl ⟨_, X _ _ hcell, rfl⟩ ?_
  refine wpAny_loadName_local F.kind hka hns hv ?_
  refine PySem.ks_wpAny_isType_cls hD1 hD2 ⟨rfl, ?_⟩
  refine PySem.ks_wpAny_call_super hD1 hD2 J.at_ J.cls (fun c e => ?_) (PySem.W.looks_mroIn X hsub) (fun h' e k => h h' k e)
  have := J.no
  unfold PySem.W.notCls at this
  rw [e] at this
  exact Bool.noConfusion this
end G0
namespace G0
open PySem PySem.Spec PyProof.Rows L2 NdefX
section
variable {prog : Program} {w : World} {A : Around} {E : Value → Shared → Prop} {h : Heap} {g : Array GenState} {d : Drawn} {t : Nat} {os : OsState}
/-- a bound ValueError.__init__ is called: the exception's arguments are laid anew -/
theorem mw_code {nm q : Str} {C N : Addr} {bs bm : List Value} {hdct : Bool} {sn : List Str} {sub : List Value} {ab : Bool} {col : Option Bool} {dd : Option Addr} {k0 k1 k2 k3 k5 : Option Value} {u e t0 : Addr} {rest : List Value} {Q : Value → Shared → Prop}
    (hC : h.get? C = some (excClassObj nm q C N bs bm hdct sn sub ab col dd k0 k1 k2 k3 k5 "ValueError.__new__")) (he : h.get? e = some (PySem.HandSPX.excO C t0)) (hu : h.get? u = some (PySem.W.kxs_mw "ValueError.__init__" e)) (few : rest.length ≤ sizeLine)
    (k : ∀ h' t1, (∀ b o, b ≠ e → h.get? b = some o → h'.get? b = some o) → h'.get? e = some (PySem.HandSPX.excO C t1) → Q .none ⟨h', g, d, t, os⟩) :
    wpAny (model prog w) A (call (.ref u) rest) Q E ⟨h, g, d, t, os⟩ := by
  refine wpAny_call (codeAny_of_tree ?_)
  show wpAny _ A.in1 (callAny (.ref u) ⟨rest, []⟩) _ _ _
  simp only [callAny]
  refine wpAny_bind (wpAny_load hu ?_)
  simp only [PySem.W.kxs_mw, show (Value.type "method-wrapper" == Value.type "method" || Value.type "method-wrapper" == Value.type "builtin_function_or_method" || Value.type "method-wrapper" == Value.type "method-wrapper") = true by decide, if_true]
  refine PySem.W.KFB.if_so (by decide) ?_
  refine wpAny_bind (PySem.ESX.check_bound PySem.F.excBase_ValueError hC he rfl ?_)
  refine wpAny_bind (wpAny_pure (wpAny_pure ?_))
  refine ⟨Code.quiet_builtin _ (by decide +kernel), codeAny_builtin PySem.F.excBase_ValueError.initEntry ?_⟩
  rw [Around.under_plainId PySem.F.excBase_ValueError.init.plain _]
  wp_walk
  refine k _ h.objs.size (fun b o hb ho => ?_) ?_
  · rw [Heap.get?_update_other _ _ (Ne.symm hb)]
    exact Heap.get?_push_of_some _ ho
  · rw [Heap.get?_update_self _ (Heap.get?_push_of_some _ he) rfl]
    rfl
end
section
variable {X : Cx} {pins : List (Addr × Obj)} {σ : L2.St} {H : Hp} {s : Shared} {a C u : Addr} {us : List Value} {Q : Value → Shared → Prop} {E : Value → Shared → Prop} {A : Around}
theorem mw_ok (T : OexC X.K C) (I : Inv X pins σ H s) (e : H a = some (exo a C none)) (hu : s.heap.get? u = some (PySem.W.kxs_mw "ValueError.__init__" a)) (hl : us.length ≤ sizeLine) (k : ∀ s', Inv X pins σ H s' → Q .none s') :
    wpAny (model X.prog X.w) A (call (.ref u) us) Q E s := by
  obtain ⟨nm, q, N, bs, bm, sn, sub, ab, col, dd, k0, k1, k2, k3, k5, hC, hbm⟩ := T.cls
  obtain ⟨t1, ho⟩ := exo_at I.hok e
  obtain ⟨hp, g, d, t, os⟩ := s
  refine mw_code (I.kIn _ _ hC) ho hu hl fun h' t2 keep hx => ?_
  have J := I.write (t' := t) (x := a) (e := a) (o := exo a C none) (by rw [e]; exact True.intro) (.inl rfl) keep ⟨_, hx⟩ (exo_ok hx)
  have eu : upd H a (exo a C none) = H := by
    funext b
    by_cases hb : b = a
    · rw [hb, upd_same, e]
    · rw [upd_ne hb]
  rw [eu] at J
  exact k _ J
end
end G0
namespace G0
open PySem PySem.Spec PyProof.Rows L2 NdefX
/-- super().__init__(..) of an own exception -/
def tSupX (K : PySem.W.Frag) (D : Addr) (ta : TA) : TS := fun Dn σ H => ∃ a C : Addr, σ[0]? = some (some (.ref a)) ∧ OexC K C ∧ H a = some (exo a C none) ∧ PySem.W.mroIn K C (.ref D) = some true ∧
  PySem.W.ks_superIn K C D "__init__" = some (some (.builtin "ValueError.__init__")) ∧ PySem.W.subIn K (.ref C) (.type "ValueError") = some true ∧
  ta σ H fun vs H1 => vs.length ≤ 1000 ∧ H1 a = some (exo a C none) ∧ Dn.nx σ H1
theorem p1_supX {CX : CXT} {P : Program} {w : World} {K : PySem.W.Frag} {mg : Str → Option Value} {base : Heap} {N : List Str}
    {f cc cda D : Addr} {name qual : Str} {params : Arguments} {st : List Stmt} {scope : Scope} {fd : FuncData}
    {A : Around} {outer : List Env} {s0 : Shared} {H0 : Hp} {E : XK} {p0 p1 ap pos pos' : Pos} {e : Expr} {es : List Expr} {ta : TA} {pl : Sem Bool}
    (F : SupF P K N f cc cda D fd params scope) (ha : PA (ncx CX P w K mg base N (nfS name qual params st scope cc cda) f A outer s0 H0 E) (e :: es) ta)
    (he : starEach (e :: es) (envF (nfS name qual params st scope cc cda) f s0.heap.objs.size) = (false, eval e (envF (nfS name qual params st scope cc cda) f s0.heap.objs.size)) :: starEach es (envF (nfS name qual params st scope cc cda) f s0.heap.objs.size) := by rfl)
    (hpl : (backTo pos (starEach es (envF (nfS name qual params st scope cc cda) f s0.heap.objs.size))).any (·.1) = false := by rfl)
    (hsw : swapsWith (.Call (.Attribute (.Call (.Name "super" p0) [] [] p1) "__init__" ap) (e :: es) [] pos) none pos'.line (envF (nfS name qual params st scope cc cda) f s0.heap.objs.size) = pure false := by rfl)
    (hev : eval (.Call (.Attribute (.Call (.Name "super" p0) [] [] p1) "__init__" ap) (e :: es) [] pos) (envF (nfS name qual params st scope cc cda) f s0.heap.objs.size) = (do
      let ov ← attributeBase (.Call (.Name "super" p0) [] [] p1) "__init__" (envF (nfS name qual params st scope cc cda) f s0.heap.objs.size) (eval (.Call (.Name "super" p0) [] [] p1) (envF (nfS name qual params st scope cc cda) f s0.heap.objs.size))
      standAt ap.atName
      let (f', first) ← holding [ov] (getMethod ov "__init__" pl)
      callWith pos f' first (backTo pos (starEach (e :: es) (envF (nfS name qual params st scope cc cda) f s0.heap.objs.size))) []) := by rfl) :
    P1 (ncx CX P w K mg base N (nfS name qual params st scope cc cda) f A outer s0 H0 E) st (.Expr (.Call (.Attribute (.Call (.Name "super" p0) [] [] p1) "__init__" ap) (e :: es) [] pos) pos') (tSupX K D ta) := by
  rintro pins s σ H Dn I ⟨a, C, hs, T, ea, hm, hsu, hve, q⟩
  obtain ⟨t0, ho⟩ := exo_at I.hok ea
  have J : PySem.W.InstAt s.heap a _ C none := ⟨ho, rfl, rfl, trivial⟩
  have fresh := I.hok.fresh (Nat.le_refl s.heap.objs.size)
  refine PySem.ks_wpAt_Expr_any (PySem.ks_wpAt_MethodCall (sup_node F I hs J hm (by decide) fun h' k e1 => ?_) hev) I.quiet hsw
  obtain ⟨hh, g, d, t, os⟩ := s
  have I1 : Inv (ncx CX P w K mg base N (nfS name qual params st scope cc cda) f A outer s0 H0 E) pins σ H ⟨h', g, d, t, os⟩ := I.kept (t' := t) k
  have X1 : K.In h' := I1.kIn
  obtain ⟨t1, ho1⟩ := exo_at I1.hok ea
  have J1 : PySem.W.InstAt h' a _ C none := ⟨ho1, rfl, rfl, trivial⟩
  have hI : PySem.W.Looks (model P w) h' (isInstance (.ref a) (.type "ValueError")) true := J1.type.andThen (PySem.W.looks_subIn X1 hve)
  cases hc : PySem.W.clsIn K C with
  | none => unfold PySem.W.ks_superIn at hsu; rw [hc] at hsu; cases hsu
  | some cd =>
    unfold PySem.W.ks_superIn at hsu
    rw [hc] at hsu
    refine PySem.W.kxs_getMethod PySem.W.kxs_ValueError e1 (PySem.W.looks_opaque X1 F.any_) (l₀ := cd.mro) (fun A Q E s k q => wpAny_bind ((PySem.W.looks_clsIn X1 hc) A _ E s k (wpAny_pure q))) rfl X1 hsu hI (PySem.W.ks_ne X1 J1 hc) (by decide) ?_
    have k2 : ∀ b o, h'.get? b = some o → (h'.push (PySem.W.kxs_mw "ValueError.__init__" a)).get? b = some o := fun b o e => Heap.get?_push_of_some _ e
    have I2 : Inv (ncx CX P w K mg base N (nfS name qual params st scope cc cda) f A outer s0 H0 E) pins σ H ⟨h'.push (PySem.W.kxs_mw "ValueError.__init__" a), g, d, t + 1, os⟩ := I1.kept (t' := t + 1) k2
    have pin : ∀ p ∈ pins ++ [(h'.objs.size, PySem.W.kxs_mw "ValueError.__init__" a)], (h'.push (PySem.W.kxs_mw "ValueError.__init__" a)).get? p.1 = some p.2 ∧ H p.1 = none ∧
        p.1 ≠ (envF (nfS name qual params st scope cc cda) f s0.heap.objs.size).locals ∧ p.1 ∉ frs outer ∧ ∀ v, p.2.data ≠ .cell v := by
      intro p hp
      rcases List.mem_append.mp hp with hp | hp
      · exact I2.pin p (List.mem_append_right _ hp)
      · rw [List.mem_singleton.mp hp]
        exact ⟨Heap.get?_push_at rfl rfl, I1.hok.fresh (Nat.le_refl _), fun z => absurd (Nat.lt_of_le_of_lt (Nat.le_of_eq z) I1.lt) (Nat.lt_irrefl _), I1.nofs (Nat.le_refl _), fun v z => by cases z⟩
    have I3 := I2.pins_of pin
    refine PySem.W.kxs_callWith1 (h₀ := base) (L := (envF (nfS name qual params st scope cc cda) f s0.heap.objs.size).locals) (news := [(h'.objs.size, PySem.W.kxs_mw "ValueError.__init__" a)]) (i := "ValueError.__init__") (x := a) ?_ (List.mem_singleton.mpr rfl) ?_ he hpl
    · intro p hp
      have hp := List.mem_singleton.mp hp
      subst hp
      refine ⟨Heap.get?_push_at rfl rfl, fun z => absurd (Nat.lt_of_le_of_lt (Nat.le_of_eq z) I1.lt) (Nat.lt_irrefl _), ?_⟩
      cases z : base.get? h'.objs.size with
      | none => rfl
      | some o => exact absurd (Heap.lt_size (I1.bk _ _ z)) (Nat.lt_irrefl _)
    · refine wpAny_mono (ha.run pos _ _ σ H _ I3 q) (fun us s3 got => ?_) fun e s' h => h
      obtain ⟨vs, H3, I4, r, vl, ea3, qn⟩ := got
      have hu := (I4.pin (h'.objs.size, PySem.W.kxs_mw "ValueError.__init__" a) (List.mem_append_right _ (List.mem_append_right _ (List.mem_singleton.mpr rfl)))).1
      refine ⟨hu, mw_ok T I4 ea3 hu (by rw [← r.length, sizeLine_eq]; omega) fun s' I5 => ?_⟩
      exact ⟨σ, H3, I5.unpinned, qn⟩
end G0
namespace G0
open PySem PySem.Spec PyProof.Rows L2 NdefX
/-- __init__ of an own exception: super().__init__('..'), then self.f = y -/
def spXI (C : Addr) (fld : Str) : Sp := fun vs H Q _ => ∃ (a : Addr) (y : V), vs = [.ref a, y] ∧ H a = some (exo a C none) ∧ ∀ dx, H dx = none → dx ≠ a → Q .non (upd (upd H dx (exd dx [(fld, y)])) a (exo a C (some dx)))
/-- what an own exception class asks -/
structure XcK (K : PySem.W.Frag) (C : Addr) (fld : Str) : Prop where
  T : OexC K C
  mro : PySem.W.mroIn K C (.ref C) = some true
  sup : PySem.W.ks_superIn K C C "__init__" = some (some (.builtin "ValueError.__init__"))
  ve : PySem.W.subIn K (.ref C) (.type "ValueError") = some true
  no : PySem.W.findIn K (.ref C) fld = some none
theorem ok_xinit {CX : CXT} {P : Program} {w : World} {K : PySem.W.Frag} {mg : Str → Option Value} {base : Heap}
    {f cc cda C : Addr} {name qual y fld m : Str} {params : Arguments} {scope : Scope} {dV kV doc pm ct oc cl : Value} {v : Option Value}
    {an od cld : Option Addr} {osl csl : Array (Option Value)} {p0 p1 ap mp pos pos' q0 q1 q2 q3 : Pos} {j : Nat}
    (lk : K.lookup f = some ⟨oc, od, .func (PySem.W.ksFn name qual params [.Expr (.Call (.Attribute (.Call (.Name "super" p0) [] [] p1) "__init__" ap) [.Constant (.str m) j mp] [] pos) pos',
      .Assign [.Attribute (.Name "self" q0) fld q1] (.Name y q2) q3] scope dV kV doc pm an (.ref cda) ct cc), osl⟩)
    (coded : PySem.W.codeIn K (.ref cda) qual = true) (lc : K.lookup cc = some ⟨cl, cld, .cell v, csl⟩)
    (S : NScope ["self", y, "__class__"] ["self", y] ["__class__"] scope) (X : XcK K C fld) (hy1 : (y == ("__debug__" : Str)) = false) (hy2 : (y == ("__classdict__" : Str)) = false)
    (hev : ∀ env : Env, ∃ pl : Sem Bool, eval (.Call (.Attribute (.Call (.Name "super" p0) [] [] p1) "__init__" ap) [.Constant (.str m) j mp] [] pos) env = (do
      let ov ← attributeBase (.Call (.Name "super" p0) [] [] p1) "__init__" env (eval (.Call (.Name "super" p0) [] [] p1) env)
      standAt ap.atName
      let (f', first) ← holding [ov] (getMethod ov "__init__" pl)
      callWith pos f' first (backTo pos (starEach [.Constant (.str m) j mp] env)) []))
    (hsw : ∀ env : Env, swapsWith (.Call (.Attribute (.Call (.Name "super" p0) [] [] p1) "__init__" ap) [.Constant (.str m) j mp] [] pos) none pos'.line env = pure false) (hs2 : ∀ env : Env, swapsWith (.Name y q2) (some (.Attribute (.Name "self" q0) fld q1)) q3.line env = pure false)
    (F : SupF P K ["self", y, "__class__"] f cc cda C (PySem.W.ksFn name qual params [.Expr (.Call (.Attribute (.Call (.Name "super" p0) [] [] p1) "__init__" ap) [.Constant (.str m) j mp] [] pos) pos',
      .Assign [.Attribute (.Name "self" q0) fld q1] (.Name y q2) q3] scope dV kV doc pm an (.ref cda) ct cc) params scope) :
    FnOk P w K mg base CX (0 + 1) f (PySem.W.ksFn name qual params [.Expr (.Call (.Attribute (.Call (.Name "super" p0) [] [] p1) "__init__" ap) [.Constant (.str m) j mp] [] pos) pos',
      .Assign [.Attribute (.Name "self" q0) fld q1] (.Name y q2) q3] scope dV kV doc pm an (.ref cda) ct cc) ["self", y] (spXI C fld) := by
  refine fnS_of lk coded lc S ?_ fun A outer s H vs Q E hr h => ?_
  · rintro vs H Q E ⟨a, z, rfl, _⟩
    rfl
  · obtain ⟨a, z, rfl, ea, q⟩ := h
    obtain ⟨pl, hpl⟩ := hev (envF (nfS name qual params [.Expr (.Call (.Attribute (.Call (.Name "super" p0) [] [] p1) "__init__" ap) [.Constant (.str m) j mp] [] pos) pos', .Assign [.Attribute (.Name "self" q0) fld q1] (.Name y q2) q3] scope cc cda) f s.heap.objs.size)
    refine ⟨_, _, p1_supX F (pa_cons pe_str pa_nil) (hsw := hsw _) (hev := hpl), pss_one (ps_ost (pv 0 (by rfl) (.inl (S.par _ (by simp)))) (pv 1 (by rfl) (.inl (S.par _ (by simp))) hy1 hy2) (hs2 _)), ?_⟩
    refine ⟨a, C, rfl, X.T, ea, X.mro, X.sup, X.ve, by show 1 ≤ 1000; decide, ea, ?_⟩
    exact ⟨_, rfl, _, rfl, a, C, rfl, X.T, X.no, .inl ⟨ea, fun dx h1 h2 => q dx h1 h2⟩⟩
end G0
namespace G0
open PySem PySem.Spec PyProof.Rows L2 NdefX
/-- raise X(e) -/
theorem ps_raiseX {X : Cx} {W : WX} {x y fld : Str} {C fI : Addr} {fd : FuncData} {p pos pos' : Pos} {e : Expr} {te : TE} (T : OexC X.K C) (iC : PySem.W.findIn X.K (.ref C) "__init__" = some (some (.ref fI)))
    (tI : PySem.W.typeIn X.K (.ref fI) = some (.type "function")) (F1 : FnOk X.prog X.w X.K X.mg X.base CX0 1 fI fd ["self", y] (spXI C fld)) (hb : Binds X.K fd ["self", y] []) (hr : Room 2 X.A)
    (hg : Gl X x) (hm : X.mg x = some (.ref C)) (hc : X.calm = true) (tk : Takes X W) (ha : PE X e te) (hdb : (x == ("__debug__" : Str)) = false := by decide)
    (he : starEach [e] X.env = (false, eval e X.env) :: starEach [] X.env := by rfl) (hpl : (backTo pos (starEach [] X.env)).any (·.1) = false := by rfl) :
    PS X (.Raise (some (.Call (.Name x p) [e] [] pos)) none pos') (fun _ σ H => tMkO C (spXI C fld) [] (tCons te tNil) σ H fun cls d H' => W cls d σ H') :=
  ps_raise hc tk (pmk_oex T iC tI F1 hr hb .nil pass0 hg hm (pa_cons (hs := he) ha pa_nil) hdb he hpl)
theorem xc_done {C : Addr} {fld : Str} {y : V} {H1 : Hp} {R : XK} (h : ∀ d, H1 d = none → R (.ref C) (some d) (upd H1 d (.xd [(fld, y)]))) :
    [y].length ≤ 1000 ∧ ∀ a, H1 a = none → spXI C fld (.ref a :: ([y] ++ [])) (upd H1 a (exo a C none))
      (fun v H2 => v = .non ∧ ∃ (d : Addr) (fs : List (Str × V)), H2 a = some (exo a C (some d)) ∧ H2 d = some (exd d fs) ∧ H1 d = none ∧ R (.ref C) (some d) (upd (del H2 a) d (.xd fs))) (fun _ _ _ => False) := by
  refine ⟨by show 1 ≤ 1000; decide, fun a ha => ⟨a, y, rfl, upd_same, fun dx h1 h2 => ?_⟩⟩
  have hd : H1 dx = none := by rw [upd_ne h2] at h1; exact h1
  refine ⟨rfl, dx, [(fld, y)], upd_same, by rw [upd_ne h2, upd_same], hd, ?_⟩
  have e : upd (del (upd (upd (upd H1 a (exo a C none)) dx (exd dx [(fld, y)])) a (exo a C (some dx))) a) dx (.xd [(fld, y)]) = upd H1 dx (.xd [(fld, y)]) := by
    funext b
    by_cases c : b = dx
    · subst c; rw [upd_same, upd_same]
    · rw [upd_ne c, upd_ne c]
      by_cases c2 : b = a
      · subst c2; rw [del_same, ha]
      · rw [del_ne c2, upd_ne c2, upd_ne c, upd_ne c2]
  rw [e]
  exact h dx hd
end G0
namespace G0
open PySem PySem.Spec PyProof.Rows L2 NdefX ClX
/-- super().__init__(..) of an instance of an own class, D's base giving a def -/
def tSupM (K : PySem.W.Frag) (D f2 : Addr) (sp : Sp) (ta : TA) : TS := fun Dn σ H => ∃ (a C dx : Addr) (fs : List (Str × V)), σ[0]? = some (some (.ref a)) ∧ H a = some (.ins C dx fs) ∧ PySem.W.mroIn K C (.ref D) = some true ∧
  PySem.W.ks_superIn K C D "__init__" = some (some (.ref f2)) ∧ PySem.W.typeIn K (.ref f2) = some (.type "function") ∧ PySem.W.fnIn K f2 = true ∧
  ta σ H fun vs H1 => sp (.ref a :: vs) H1 (fun _ H2 => Dn.nx σ H2) (fun _ _ _ => False)
theorem p1_supM {CX : CXT} {P : Program} {w : World} {K : PySem.W.Frag} {mg : Str → Option Value} {base : Heap} {N : List Str} {k2 : Nat} {sp : Sp}
    {f cc cda D f2 : Addr} {name qual : Str} {params : Arguments} {st : List Stmt} {scope : Scope} {fd : FuncData}
    {A : Around} {outer : List Env} {s0 : Shared} {H0 : Hp} {E : XK} {p0 p1 ap pos pos' : Pos} {e : Expr} {es : List Expr} {ta : TA} {pl : Sem Bool}
    (F : SupF P K N f cc cda D fd params scope) (F2 : FnR P w K mg base CX0 k2 f2 sp) (hr : Room k2 (A.deeper (envF (nfS name qual params st scope cc cda) f s0.heap.objs.size)))
    (ha : PA (ncx CX P w K mg base N (nfS name qual params st scope cc cda) f A outer s0 H0 E) (e :: es) ta)
    (he : starEach (e :: es) (envF (nfS name qual params st scope cc cda) f s0.heap.objs.size) = (false, eval e (envF (nfS name qual params st scope cc cda) f s0.heap.objs.size)) :: starEach es (envF (nfS name qual params st scope cc cda) f s0.heap.objs.size) := by rfl)
    (hpl : (backTo pos (starEach es (envF (nfS name qual params st scope cc cda) f s0.heap.objs.size))).any (·.1) = false := by rfl)
    (hsw : swapsWith (.Call (.Attribute (.Call (.Name "super" p0) [] [] p1) "__init__" ap) (e :: es) [] pos) none pos'.line (envF (nfS name qual params st scope cc cda) f s0.heap.objs.size) = pure false := by rfl)
    (hev : eval (.Call (.Attribute (.Call (.Name "super" p0) [] [] p1) "__init__" ap) (e :: es) [] pos) (envF (nfS name qual params st scope cc cda) f s0.heap.objs.size) = (do
      let ov ← attributeBase (.Call (.Name "super" p0) [] [] p1) "__init__" (envF (nfS name qual params st scope cc cda) f s0.heap.objs.size) (eval (.Call (.Name "super" p0) [] [] p1) (envF (nfS name qual params st scope cc cda) f s0.heap.objs.size))
      standAt ap.atName
      let (f', first) ← holding [ov] (getMethod ov "__init__" pl)
      callWith pos f' first (backTo pos (starEach (e :: es) (envF (nfS name qual params st scope cc cda) f s0.heap.objs.size))) []) := by rfl) :
    P1 (ncx CX P w K mg base N (nfS name qual params st scope cc cda) f A outer s0 H0 E) st (.Expr (.Call (.Attribute (.Call (.Name "super" p0) [] [] p1) "__init__" ap) (e :: es) [] pos) pos') (tSupM K D f2 sp ta) := by
  rintro pins s σ H Dn I ⟨a, C, dx, fs, hs, ea, hm, hsu, hty, hfn, q⟩
  obtain ⟨mA, OM, _⟩ := ins_get I.hok ea
  obtain ⟨od, J, _⟩ := OM.look
  refine PySem.ks_wpAt_Expr_any (PySem.ks_wpAt_MethodCall (sup_node F I hs J hm (by decide) fun h' k e1 => ?_) hev) I.quiet hsw
  obtain ⟨hh, g, d, t, os⟩ := s
  have I1 : Inv (ncx CX P w K mg base N (nfS name qual params st scope cc cda) f A outer s0 H0 E) pins σ H ⟨h', g, d, t, os⟩ := I.kept (t' := t) k
  have X1 : K.In h' := I1.kIn
  obtain ⟨mA1, OM1, _⟩ := ins_get I1.hok ea
  obtain ⟨od1, J1, _⟩ := OM1.look
  cases hc : PySem.W.clsIn K C with
  | none => unfold PySem.W.ks_superIn at hsu; rw [hc] at hsu; cases hsu
  | some cd =>
    unfold PySem.W.ks_superIn at hsu
    rw [hc] at hsu
    obtain ⟨of, hof, hofc⟩ : ∃ of, h'.get? f2 = some of ∧ of.cls = .type "function" := by
      have ht' : (K.lookup f2).map (·.cls) = some (.type "function") := hty
      cases z : K.lookup f2 with
      | none => rw [z] at ht'; cases ht'
      | some of => rw [z] at ht'; exact ⟨of, X1 _ _ z, Option.some.inj ht'⟩
    refine PySem.ks_wpAny_getMethod_super e1 (PySem.W.looks_opaque X1 F.any_) (l₀ := cd.mro) (fun A Q E s k q => wpAny_bind ((PySem.W.looks_clsIn X1 hc) A _ E s k (wpAny_pure q))) rfl X1 hsu hof hofc (PySem.W.ks_ne X1 J1 hc) (by decide) ?_
    have I3 := met_new (g := f2) (C := a) I1
    refine callwith_cm (C := a) (g := f2) I3 ?_ hfn ?_ he hpl
    · cases z : base.get? h'.objs.size with
      | none => exact z
      | some o => exact absurd (Heap.lt_size (I1.bk _ _ z)) (Nat.lt_irrefl _)
    · refine wpAny_mono (ha.run pos _ _ σ H _ I3 q) (fun us s3 got => ?_) fun e s' h => h
      obtain ⟨vs, H3, I4, r, qn⟩ := got
      refine ⟨⟨pin_at I4, I4.kIn⟩, ?_⟩
      refine wpAny_mono (run_cm F2 hr pass0 I4 r qn) (fun u s' z => ?_) fun e s' h => h
      obtain ⟨v, H', I5, _, qq⟩ := z
      exact ⟨σ, H', I5, qq⟩
end G0
namespace G0
open PySem PySem.Spec PyProof.Rows L2 NdefX ClX
def top (i : Nat) : Stmt := PySem.Challenge.pw_soleseat_k00_a_key_lives_on.main.body.getD i (.Pass ⟨0, 0, 0, 0⟩)
abbrev s_Seat__init : Stmt := inClass (top 1) 0
abbrev s_Seat_ask : Stmt := inClass (top 1) 1
abbrev s_Seat_leave : Stmt := inClass (top 1) 2
abbrev s_Seat_hear : Stmt := inClass (top 1) 3
abbrev s_Seat_gone : Stmt := inClass (top 1) 4
abbrev s_Key__init : Stmt := inClass (top 3) 0
abbrev s_Key_told : Stmt := inClass (top 3) 1
abbrev s_Key_serve : Stmt := inClass (top 3) 2
abbrev s_Key_renew : Stmt := inClass (top 3) 3
abbrev s_Key_line_up : Stmt := inClass (top 3) 4
abbrev s_Key_take_first : Stmt := inClass (top 3) 5
abbrev s_Key_is_due : Stmt := inClass (top 3) 6
abbrev s_Caller__init : Stmt := inClass (top 6) 0
abbrev s_Caller_ask : Stmt := inClass (top 6) 1
abbrev s_Caller_leave : Stmt := inClass (top 6) 2
abbrev s_Caller_hear : Stmt := inClass (top 6) 3
abbrev s_Caller_gone : Stmt := inClass (top 6) 4
abbrev s_Caller_bears : Stmt := inClass (top 6) 5
abbrev s_Caller_roster : Stmt := inClass (top 6) 6
abbrev s_Caller_numbers : Stmt := inClass (top 6) 7
abbrev s_Caller_awaits : Stmt := inClass (top 6) 8
abbrev s_Caller_to_others : Stmt := inClass (top 6) 9
abbrev s_Caller_learn : Stmt := inClass (top 6) 10
abbrev s_Caller_hear_ask : Stmt := inClass (top 6) 11
abbrev s_Caller_hear_key : Stmt := inClass (top 6) 12
abbrev s_Caller_hear_round : Stmt := inClass (top 6) 13
abbrev s_Caller_hear_pledge : Stmt := inClass (top 6) 14
abbrev s_Caller_begin : Stmt := inClass (top 6) 15
abbrev s_Caller_pledge : Stmt := inClass (top 6) 16
abbrev s_Caller_make_key : Stmt := inClass (top 6) 17
abbrev s_Caller_hand_on : Stmt := inClass (top 6) 18
abbrev s_law_cell_at : Stmt := top 8
abbrev s_law_bits : Stmt := top 9
abbrev s_law_among : Stmt := top 10
abbrev s_law_round_from : Stmt := top 11
abbrev s_law_pairs : Stmt := top 12
abbrev s_law_heard : Stmt := top 13
abbrev s_law_begun : Stmt := top 14
abbrev s_law_held : Stmt := top 15
abbrev s_law_taken : Stmt := top 16
abbrev s_law_none_made : Stmt := top 17
abbrev s_law_dead : Stmt := top 18
abbrev s_law_second : Stmt := top 19
abbrev s_law_end : Stmt := top 20
abbrev s_law : Stmt := top 21
theorem u64 {k : Nat} {A : Around} (hr : Room k A) : A.units + 64 < cLine := by have := hr.un; omega
theorem dec_ii {a b : Int} : decide (V.int a = V.int b) = decide (a = b) := decide_eq_decide.mpr ⟨fun h => by cases h; rfl, fun h => by rw [h]⟩
theorem lc_yes {te : TE} {σ : L2.St} {H : Hp} {Q : VK} {B : Hp → Prop} (h : te σ H Q) : tYes σ H (fun b H3 => if b = true then te σ H3 Q else B H3) := by
  show (if true = true then te σ H Q else B H)
  exact iteT h
def tDead : TS := fun _ _ _ => False
theorem ps_dead {X : Cx} {st : Stmt} : PS X st tDead := ⟨fun _ _ _ _ _ _ h => h.elim⟩
/-- {k: v for .. in xs}, xs a list -/
theorem dc_list {K : PySem.W.Frag} {a : Addr} {xs : List V} {g : TG} {tt : TT} {tk tv : TE} {vs : List Nat} {σ : L2.St} {H1 : Hp} {D : Addr} {Qd : Hp → Prop} (Pv : Nat → Hp → Prop) (start : Pv 0 (upd H1 D (.dK []))) (stays : ∀ i G, Pv i G → SqL K G a xs)
    (step : ∀ i x G, xs[i]? = some x → Pv i G → g x (wipe σ vs) G fun σ2 H2 => wipe σ2 vs = wipe σ vs ∧ tt σ2 H2 fun b H3 =>
      if b = true then tk σ2 H3 fun y H4 => tv σ2 H4 fun z H5 => ∃ kvs k, y = kV k ∧ H5 D = some (.dK kvs) ∧ kvs.length < sizeLine ∧ Pv (i + 1) (upd H5 D (.dK (putK kvs k z))) else Pv (i + 1) H3) (fin : ∀ G, Pv xs.length G → Qd G) :
    ∃ W : Nat → Nat → Hp → Prop, (∃ m, W 0 m (upd H1 D (.dK []))) ∧ ∀ i m G, W i m G →
      ((Itl K a).stop i G ∧ Qd G) ∨ ((Itl K a).go i G ∧ ∃ Nx : Hp → Prop, (∀ G', Nx G' → ∃ m', m' < m ∧ W (i + 1) m' G') ∧ ∀ x G', (Itl K a).yld i G x G' → g x (wipe σ vs) G' fun σ2 H2 => wipe σ2 vs = wipe σ vs ∧ tt σ2 H2 fun b H3 =>
        if b = true then tk σ2 H3 fun y H4 => tv σ2 H4 fun z H5 => ∃ kvs k, y = kV k ∧ H5 D = some (.dK kvs) ∧ kvs.length < sizeLine ∧ Nx (upd H5 D (.dK (putK kvs k z))) else Nx H3) := by
  refine ⟨fun i m G => m + i = xs.length ∧ Pv i G, ⟨xs.length, rfl, start⟩, ?_⟩
  rintro i m G ⟨e, p⟩
  have sq := stays i G p
  rcases Nat.lt_or_ge i xs.length with lt | ge
  · refine .inr ⟨⟨xs, xs[i], sq, List.getElem?_eq_getElem lt⟩, Pv (i + 1), fun G' p' => ⟨m - 1, by omega, by omega, p'⟩, fun x G' told => ?_⟩
    obtain ⟨rfl, y⟩ := told
    exact step i x G' (y xs sq) p
  · have e' : i = xs.length := by omega
    subst e'
    exact .inl ⟨⟨xs, sq, Nat.le_refl _⟩, fin G p⟩
structure BlK71 (mg : Str → Option Value) : Prop where
  sorted : mg "sorted" = none
  tuple : mg "tuple" = none
def Me (P : Program) (w : World) (K : PySem.W.Frag) (mg : Str → Option Value) (base : Heap) (C : Addr) (x : Str) (k : Nat) (ps : List Str) (sp : Sp) : Prop :=
  ∃ f fd, FnOk P w K mg base CX0 k f fd ps sp ∧ Binds K fd ps [] ∧ Meth K C x f
section
variable {P : Program} {w : World} {K : PySem.W.Frag} {mg : Str → Option Value} {base : Heap} {C CK f : Addr} {fd : FuncData}
theorem two_dp {H : Hp} {x : V} {d1 d2 : PyData} (h : Dp K H x (.tuple [d1, d2])) : ∃ t v1 v2, x = .ref t ∧ SqT K H t [v1, v2] ∧ Dp K H v1 d1 ∧ Dp K H v2 d2 := by
  cases h with
  | tup hs ha =>
    cases ha with
    | cons h1 h2 =>
      cases h2 with
      | cons h3 h4 =>
        cases h4
        exact ⟨_, _, _, rfl, hs, h1, h3⟩
theorem dps_at {H : Hp} {vs : List V} {ds : List PyData} (h : DpAll K H vs ds) : ∀ {i : Nat} {v : V}, vs[i]? = some v → ∃ d, ds[i]? = some d ∧ Dp K H v d := by
  match vs, ds, h with
  | [], [], _ => intro i v e; simp at e
  | v :: vs, d :: ds, .cons h1 h2 =>
    intro i v' e
    cases i with
    | zero => exact ⟨d, rfl, by have : v = v' := by simpa using e
                                rw [← this]; exact h1⟩
    | succ i => exact dps_at h2 (by simpa using e)
theorem dps_at' {α : Type} {f : α → PyData} {H : Hp} {vs : List V} {L : List α} (h : DpAll K H vs (L.map f)) {i : Nat} {v : V} (e : vs[i]? = some v) : ∃ a, L[i]? = some a ∧ Dp K H v (f a) := by
  obtain ⟨d, e1, e2⟩ := dps_at h e
  rw [List.getElem?_map] at e1
  cases z : L[i]? with
  | none => rw [z] at e1; cases e1
  | some a =>
    rw [z] at e1
    cases e1
    exact ⟨a, rfl, e2⟩
theorem ints_at {ns : List Int} {i : Nat} {x : V} (h : (ns.map V.int)[i]? = some x) : ∃ k, ns[i]? = some k ∧ x = V.int k := by
  rw [List.getElem?_map] at h
  cases e : ns[i]? with
  | none => rw [e] at h; cases h
  | some k => rw [e] at h; exact ⟨k, rfl, (Option.some.inj h).symm⟩
/-! ### the key -/
def pairD (p : Int × Int) : PyData := .tuple [.int p.1, .int p.2]
def entI (p : Int × Int) : Key × V := (Sum.inl p.1, V.int p.2)
theorem noLs_pairs : ∀ S : List (Int × Int), noLs (S.map pairD) = true
  | [] => rfl
  | p :: S => by
    have := noLs_pairs S
    simp only [List.map_cons, noLs, pairD, noL, Bool.true_and]
    exact this
theorem ent_none {S : List (Int × Int)} {m : Int} (h : m ∉ S.map (·.1)) : valV (S.map entI) (Sum.inl m) = none := by
  induction S with
  | nil => rfl
  | cons p S ih =>
    rw [List.map_cons] at h
    rw [List.map_cons, valV_neg (fun e => h (by
      have : p.1 = m := Sum.inl.inj e
      rw [← this]; exact List.mem_cons_self ..))]
    exact ih fun z => h (List.mem_cons_of_mem _ z)
theorem ent_some {S : List (Int × Int)} {p : Int × Int} (nd : (S.map (·.1)).Nodup) (m : p ∈ S) : valV (S.map entI) (Sum.inl p.1) = some (.int p.2) := by
  induction S with
  | nil => simp at m
  | cons q S ih =>
    rw [List.map_cons] at nd ⊢
    obtain ⟨n1, n2⟩ := List.nodup_cons.mp nd
    rcases List.mem_cons.mp m with e | m
    · subst e
      exact valV_pos rfl
    · rw [valV_neg (fun e => n1 (by
        have : q.1 = p.1 := Sum.inl.inj e
        rw [this]; exact List.mem_map_of_mem m))]
      exact ih n2 m
structure KeyT (K : PySem.W.Frag) (C : Addr) : Prop where
  cl : Cls K C
  round : NoAttr K C "round"
  served : NoAttr K C "_served"
  line : NoAttr K C "_line"
structure KeyAt (H : Hp) (CK k dk : Addr) (r : Int) (d l : Addr) (S : List (Int × Int)) (ns : List Int) : Prop where
  hp : H k = some (.ins CK dk (keF r d l))
  hd : H d = some (.dK (S.map entI))
  hl : H l = some (.lst (ns.map V.int))
  nd : (S.map (·.1)).Nodup
  few : S.length ≤ 60
  few2 : ns.length ≤ 1000
theorem KeyAt.same {H H' : Hp} {k dk : Addr} {r : Int} {d l : Addr} {S : List (Int × Int)} {ns : List Int} (A : KeyAt H CK k dk r d l S ns) (s : Same H H') : KeyAt H' CK k dk r d l S ns :=
  { A with hp := s _ _ A.hp, hd := s _ _ A.hd, hl := s _ _ A.hl }
theorem yes_ite {σ : L2.St} {H : Hp} {A B : Hp → Prop} (h : A H) : tYes σ H (fun b H3 => if b = true then A H3 else B H3) := by
  show (if true = true then A H else B H)
  exact iteT h
theorem sql_chgI {H H' : Hp} {q D dx : Addr} {fs : List (Str × V)} (hq : H q = some (.ins D dx fs)) (c : Chg q H H') {a : Addr} {xs : List V} (h : SqL K H a xs) : SqL K H' a xs := by
  rcases h with (z | ⟨o, z⟩) | z
  · exact .inl (.inl (c _ _ (ne_of z hq (by intro y; cases y)) z))
  · exact .inl (.inr ⟨o, c _ _ (ne_of z hq (by intro y; cases y)) z⟩)
  · exact .inr z
theorem sqt_chgI {H H' : Hp} {q D dx : Addr} {fs : List (Str × V)} (hq : H q = some (.ins D dx fs)) (c : Chg q H H') {a : Addr} {xs : List V} (h : SqT K H a xs) : SqT K H' a xs := by
  rcases h with (z | ⟨o, z⟩) | z
  · exact .inl (.inl (c _ _ (ne_of z hq (by intro y; cases y)) z))
  · exact .inl (.inr ⟨o, c _ _ (ne_of z hq (by intro y; cases y)) z⟩)
  · exact .inr z
mutual
theorem dp_chgI {H H' : Hp} {q D dx : Addr} {fs : List (Str × V)} (hq : H q = some (.ins D dx fs)) (c : Chg q H H') : ∀ (d : PyData) (v : V), Dp K H v d → Dp K H' v d
  | .none, _, h => by cases h; exact .non
  | .bool _, _, h => by cases h; exact .bl _
  | .int _, _, h => by cases h; exact .int _
  | .str _, _, h => by cases h; exact .str _
  | .dict _, _, h => by cases h
  | .list ds, _, h => by
    cases h with
    | lst hs ha => exact .lst (sql_chgI hq c hs) (dps_chgI hq c ds _ ha)
  | .tuple ds, _, h => by
    cases h with
    | tup hs ha => exact .tup (sqt_chgI hq c hs) (dps_chgI hq c ds _ ha)
theorem dps_chgI {H H' : Hp} {q D dx : Addr} {fs : List (Str × V)} (hq : H q = some (.ins D dx fs)) (c : Chg q H H') : ∀ (ds : List PyData) (vs : List V), DpAll K H vs ds → DpAll K H' vs ds
  | [], _, h => by cases h; exact .nil
  | d :: ds, _, h => by
    cases h with
    | cons h1 h2 => exact .cons (dp_chgI hq c d _ h1) (dps_chgI hq c ds _ h2)
end
def spKInit (K : PySem.W.Frag) (CK : Addr) : Sp := fun vs H Q _ => ∃ (p dx sv ln : Addr) (r : Int) (ys : List V) (S : List (Int × Int)) (ns : List Int), vs = [.ref p, .int r, .ref sv, .ref ln] ∧ H p = some (.ins CK dx []) ∧ SqL K H sv ys ∧ DpAll K H ys (S.map pairD) ∧ SqL K H ln (ns.map V.int) ∧
  (S.map (·.1)).Nodup ∧ S.length ≤ 60 ∧ ns.length ≤ 1000 ∧ ∀ d l H', H d = none → H l = none → d ≠ p → l ≠ p → d ≠ l → Chg p H H' → KeyAt H' CK p dx r d l S ns → Q .non H'
theorem keF_made0 (r : Int) (d l : Addr) : putF "_line" (.ref l) (putF "_served" (.ref d) (putF "round" (.int r) [])) = keF r d l := keF_made r d l
theorem sc_Key__init : FnScope ["self", "of_round", "served", "line", "member", "number"] ["self", "of_round", "served", "line"] (defScope s_Key__init) :=
  ⟨rfl, rfl, rfl, by decide +kernel, rfl, by decide +kernel, by decide +kernel⟩
theorem ok_kinit (F : Fun K "__init__" "Key.__init__" s_Key__init f fd) (hL : mg "list" = none) (T : KeyT K CK) : FnOk P w K mg base CX0 1 f fd ["self", "of_round", "served", "line"] (spKInit K CK) := by
  refine F.ok sc_Key__init (fun vs H Q E h => ?_) (fun cdv A outer s H vs Q E hr h => ?_)
  · obtain ⟨p, dx, sv, ln, r, ys, S, ns, rfl, _⟩ := h
    rfl
  obtain ⟨p, dx, sv, ln, r, ys, S, ns, rfl, hp, qS, dS, qL, nd, l60, l2, q⟩ := h
  refine ⟨_, (pss_cons (ps_fld (pv 0) (pv 1) rfl)
    (pss_cons (ps_fld (pv 0) (pe_dc (own := [("member", 4), ("number", 5)]) (g := gTup K 2 (gCons (gName 4) (gCons (gName 5) gNil))) (tt := tYes) (by rfl) sc_Key__init.nd (pi_list (pv 2)) (blkOk_by (N := ["self", "of_round", "served", "line", "member", "number"]) (sc := defScope s_Key__init) (by decide +kernel)) (fun _ _ _ _ _ => pg_tup (by rfl) (pgs_cons (pg_name (i := 4) sc_Key__init.nd rfl (Or.inl rfl)) (pgs_cons (pg_name (i := 5) sc_Key__init.nd rfl (Or.inl rfl)) pgs_nil))) (fun _ _ _ _ _ => pts_nil) (fun _ _ _ _ _ => (pv 4)) (fun _ _ _ _ _ => (pv 5))) rfl)
    (pss_one (ps_fld (pv 0) (pe_callTy call_list_of (by rfl) hL (by decide +kernel) (pa_cons (pv 3) pa_nil)) rfl)))), ?_⟩
  refine ⟨_, rfl, _, rfl, p, CK, dx, _, rfl, hp, T.cl, T.round, (by show 0 < 1000; decide), ?_⟩
  obtain ⟨H1, e1⟩ : ∃ H1, H1 = upd H p (.ins CK dx (putF "round" (.int r) [])) := ⟨_, rfl⟩
  have c1 : Chg p H H1 := by rw [e1]; exact Chg.self
  have hp1 : H1 p = some (.ins CK dx (putF "round" (.int r) [])) := by rw [e1]; exact upd_same
  rw [← e1]
  have qS1 := sql_chgI hp c1 qS
  have dS1 := dps_chgI hp c1 _ _ dS
  have lS : ys.length = S.length := by rw [dps_len dS, List.length_map]
  refine ⟨_, rfl, sv, rfl, ⟨_, qS1⟩, fun D hD => ?_⟩
  refine dc_list (K := K) (a := sv) (xs := ys) (fun i G => Same H1 G ∧ G D = some (.dK ((S.take i).map entI))) ⟨same_upd hD, upd_same⟩ (fun i G h => h.1.seq qS1) ?_ ?_
  · rintro i x G hx ⟨sG, kD⟩
    obtain ⟨pr, er, dp⟩ := dps_at' dS1 hx
    have li := (List.getElem?_eq_some_iff.mp er).1
    obtain ⟨t, v1, v2, rfl, qt, d1, d2⟩ := two_dp dp
    cases d1
    cases d2
    refine ⟨t, _, rfl, sqt_same sG qt, rfl, _, _, rfl, _, _, rfl, rfl, rfl, yes_ite ?_⟩
    refine ⟨_, rfl, _, rfl, _, Sum.inl pr.1, rfl, kD, ?_, fun b o e => ?_, ?_⟩
    · rw [List.length_map]
      refine Nat.lt_of_le_of_lt (List.length_take_le _ _) (Nat.lt_of_lt_of_le (show i < 100 by omega) (by decide))
    · rw [upd_ne (ne_of_none e hD)]
      exact sG _ _ e
    · have nin : pr.1 ∉ (S.take i).map (·.1) := fun z => by
        rw [List.map_take] at z
        obtain ⟨j, lj, ej⟩ := List.mem_take_iff_getElem.mp z
        have lj' : j < i := by omega
        have h2 : (S.map (·.1))[i]? = some pr.1 := by rw [List.getElem?_map, er]; rfl
        have h1 : (S.map (·.1))[j]? = some pr.1 := by rw [List.getElem?_eq_getElem (by omega), ej]
        have := (List.getElem?_inj (by rw [List.length_map]; omega) nd).mp (h1.trans h2.symm)
        omega
      rw [putK_new _ (ent_none nin), List.take_succ, er, List.map_append]
      exact upd_same
  rintro G ⟨sG, kD⟩
  rw [lS, List.take_length] at kD
  have hpG := sG _ _ hp1
  have Dp : D ≠ p := (ne_of_none hp1 hD).symm
  refine ⟨_, rfl, p, CK, dx, _, rfl, hpG, T.cl, T.served, (by show 1 < 1000; decide), ?_⟩
  obtain ⟨H2, e2⟩ : ∃ H2, H2 = upd G p (.ins CK dx (putF "_served" (.ref D) (putF "round" (.int r) []))) := ⟨_, rfl⟩
  rw [← e2]
  have c2 : Chg p H H2 := fun b o nb e => by
    rw [e2, upd_ne nb]
    exact sG _ _ (c1 _ _ nb e)
  have hp2 : H2 p = some (.ins CK dx (putF "_served" (.ref D) (putF "round" (.int r) []))) := by rw [e2]; exact upd_same
  have kD2 : H2 D = some (.dK (S.map entI)) := by rw [e2, upd_ne Dp]; exact kD
  refine ⟨_, rfl, ln, _, rfl, .inl (sql_chgI hp c2 qL), fun l hl => ?_⟩
  have lp : l ≠ p := (ne_of_none hp2 hl).symm
  have lD : D ≠ l := ne_of_none kD2 hl
  refine ⟨_, rfl, p, CK, dx, _, rfl, (upd_ne lp.symm).trans hp2, T.cl, T.line, (by show 2 < 1000; decide), ?_⟩
  rw [keF_made0]
  have back : ∀ {x : Addr}, x ≠ p → H2 x = none → H x = none := fun n h => by
    cases z : H _ with
    | none => rfl
    | some o => rw [c2 _ _ n z] at h; cases h
  have D0 : H D = none := by
    cases z : H D with
    | none => rfl
    | some o => rw [c1 _ _ Dp z] at hD; cases hD
  refine q D l _ D0 (back lp hl) Dp lp lD (fun b o nb e => ?_) ⟨upd_same, ?_, ?_, nd, l60, l2⟩
  · rw [upd_ne nb, upd_ne (ne_of_none (c2 _ _ nb e) hl)]
    exact c2 _ _ nb e
  · rw [upd_ne Dp, upd_ne lD]; exact kD2
  · rw [upd_ne lp]; exact upd_same
/-! ### told -/
def toldD (r : Int) (S : List (Int × Int)) (ns : List Int) : PyData := .tuple [.int r, .tuple (S.map pairD), .tuple (ns.map PyData.int)]
def spTold (K : PySem.W.Frag) (CK : Addr) : Sp := fun vs H Q _ => ∃ (k dk : Addr) (r : Int) (d l : Addr) (S : List (Int × Int)) (ns : List Int), vs = [.ref k] ∧ KeyAt H CK k dk r d l S ns ∧
  ∀ (t : Addr) (S' : List (Int × Int)) H', Same H H' → S'.Perm S → (S'.map (·.1)).Pairwise (· ≤ ·) → Dp K H' (.ref t) (toldD r S' ns) → Q (.ref t) H'
def valI (S : List (Int × Int)) (m : Int) : Int := match valV (S.map entI) (Sum.inl m) with | some (.int v) => v | _ => 0
theorem back_perm {S : List (Int × Int)} (nd : (S.map (·.1)).Nodup) {ks : List Int} (pe : ks.Perm (S.map (·.1))) : (ks.map fun m => (m, valI S m)).Perm S := by
  have e : (S.map (·.1)).map (fun m => (m, valI S m)) = S := by
    rw [List.map_map]
    refine (List.map_congr_left (g := id) fun p hp => ?_).trans (List.map_id S)
    show (p.1, valI S p.1) = p
    unfold valI
    rw [ent_some nd hp]
  have := pe.map (fun m => (m, valI S m))
  rwa [e] at this
theorem lc_intsP {K : PySem.W.Frag} {H : Hp} : True := trivial
theorem sc_Key_told : FnScope ["self", "served", "member"] ["self"] (defScope s_Key_told) :=
  ⟨rfl, rfl, rfl, by decide +kernel, rfl, by decide +kernel, by decide +kernel⟩
theorem ok_told (F : Fun K "told" "Key.told" s_Key_told f fd) (T : BlK71 mg) (KT : KeyT K CK) : FnOk P w K mg base CX0 1 f fd ["self"] (spTold K CK) := by
  refine F.ok sc_Key_told (fun vs H Q E h => ?_) (fun cdv A outer s H vs Q E hr h => ?_)
  · obtain ⟨k, dk, r, d, l, S, ns, rfl, _⟩ := h
    rfl
  obtain ⟨k, dk, r, d, l, S, ns, rfl, A0, q⟩ := h
  refine ⟨_, (pss_cons (ps_set (i := 1) sc_Key_told.nd rfl (Or.inl rfl) (pe_callTy call_tuple_of (by rfl) T.tuple (by decide +kernel) (pa_cons (pe_lc (own := [("member", 2)]) (g := gName 2) (tt := tYes) (by rfl) sc_Key_told.nd (pi_list (pe_callB (call_sortedDI (by rfl)) (by rfl) T.sorted (by decide +kernel) (pa_cons (pe_fld (pv 0) (by rfl)) pa_nil))) (blkOk_by (N := ["self", "served", "member"]) (sc := defScope s_Key_told) (by decide +kernel)) (fun _ _ _ _ _ => pg_name (i := 2) sc_Key_told.nd rfl (Or.inl rfl)) (fun _ _ _ _ _ => pts_nil) (fun _ _ _ _ _ => (pe_tup (pa_cons (pv 2) (pa_cons (pe_dget (hu_of hr) (pe_fldK K (pv 0)) (pv 2) (fun _ _ => rfl)) pa_nil))))) pa_nil)))
    (pss_one (ps_ret (pe_tup (pa_cons (pe_fld (pv 0) (by rfl)) (pa_cons (pv 1) (pa_cons (pe_callTy call_tuple_of (by rfl) T.tuple (by decide +kernel) (pa_cons (pe_fld (pv 0) (by rfl)) pa_nil)) pa_nil))))))), ?_⟩
  refine ⟨_, rfl, k, CK, dk, _, _, rfl, A0.hp, KT.cl, KT.served, keF_srv _ _ _, d, _, S.map (·.1), rfl, .inl A0.hd, ?_, ?_, fun ks p pe up hp => ?_⟩
  · rw [List.map_map, List.map_map]
    rfl
  · rw [List.length_map]
    have := A0.few
    omega
  have s1 := same_upd (o := .lst (ks.map V.int)) hp
  have lk : ks.length ≤ 60 := by rw [pe.length_eq, List.length_map]; exact A0.few
  refine ⟨p, rfl, ⟨_, SqL.of upd_same⟩, fun D hD => ?_⟩
  refine lc_list (K := K) (a := p) (xs := ks.map V.int) (fun i G => Same (upd H p (.lst (ks.map V.int))) G ∧ ∃ zs, zs.length = i ∧ G D = some (.lst zs) ∧ DpAll K G zs (((ks.take i).map fun m => (m, valI S m)).map pairD)) ⟨same_upd hD, [], rfl, upd_same, .nil⟩ (fun i G _ h => SqL.of (h.1 _ _ upd_same)) ?_ ?_
  · rintro i x G hx ⟨sG, zs, lz, kD, dz⟩
    obtain ⟨m, em, rfl⟩ := ints_at hx
    have li := (List.getElem?_eq_some_iff.mp em).1
    have AG := (A0.same s1).same sG
    have ms : m ∈ S.map (·.1) := pe.mem_iff.mp (List.mem_of_getElem? em)
    obtain ⟨pr, hpr, rfl⟩ := List.mem_map.mp ms
    have ev := ent_some A0.nd hpr
    have ev2 : valI S pr.1 = pr.2 := by unfold valI; rw [ev]
    refine ⟨rfl, lc_yes ?_⟩
    refine ⟨_, rfl, _, rfl, k, CK, dk, _, _, rfl, AG.hp, KT.cl, KT.served, keF_srv _ _ _, _, rfl, d, _, rfl, (by rw [← ev]; exact DGet.k (k := Sum.inl pr.1) AG.hd), by show 2 ≤ sizeLine; decide, fun u hu => ?_⟩
    have s3 := same_upd (o := .tup [.int pr.1, .int pr.2]) hu
    have kD3 := s3 _ _ kD
    refine ⟨_, kD3, Nat.lt_of_lt_of_le (show zs.length < 100 by omega) (by decide), fun c o e => ?_, zs ++ [.ref u], by rw [List.length_append, lz]; rfl, upd_same, ?_⟩
    · rw [upd_ne (ne_of_none e hD)]
      exact s3 _ _ (sG _ _ e)
    · refine dps_chg ⟨_, kD3⟩ Chg.self _ _ (noLs_pairs _) ?_
      rw [List.take_succ, em, List.map_append, List.map_append]
      refine dps_app (dps_same s3 _ _ dz) (.cons (.tup (SqT.of upd_same) (.cons (.int _) (.cons ?_ .nil))) .nil)
      show Dp K _ (V.int pr.2) (PyData.int (valI S pr.1))
      rw [ev2]
      exact .int _
  rintro G ⟨sG, zs, lz, kD, dz⟩
  rw [List.length_map, List.take_length] at dz
  have AG := (A0.same s1).same sG
  refine ⟨D, zs, rfl, .inl ⟨SqL.of kD, fun u hu => ?_⟩⟩
  have s4 := same_upd (o := .tup zs) hu
  have A4 := AG.same s4
  refine ⟨_, rfl, k, CK, dk, _, _, rfl, A4.hp, KT.cl, KT.round, keF_rnd _ _ _, _, rfl, _, rfl, k, CK, dk, _, _, rfl, A4.hp, KT.cl, KT.line, keF_lin _ _ _, l, _, rfl, .inl ⟨SqL.of A4.hl, fun v hv => ?_⟩⟩
  have s5 := same_upd (o := .tup (ns.map V.int)) hv
  refine ⟨by show 3 ≤ sizeLine; decide, fun t ht => ?_⟩
  have s6 := same_upd (o := .tup [.int r, .ref u, .ref v]) ht
  refine q t (ks.map fun m => (m, valI S m)) _ ((((s1.trans sG).trans s4).trans s5).trans s6) (back_perm A0.nd pe) ?_ ?_
  · rw [List.map_map]
    have e : ((fun x : Int × Int => x.1) ∘ fun m => (m, valI S m)) = id := rfl
    rw [e, List.map_id]
    exact up
  · exact .tup (SqT.of upd_same) (.cons (.int _) (.cons (.tup (SqT.of (s6 _ _ (s5 _ _ upd_same))) (dps_same ((s4.trans s5).trans s6) _ _ dz)) (.cons (.tup (SqT.of (s6 _ _ upd_same)) (dps_ints _)) .nil)))
end

end G0
namespace G0
open PySem PySem.Spec PyProof.Rows L2 NdefX ClX
section
variable {P : Program} {w : World} {K : PySem.W.Frag} {mg : Str → Option Value} {base : Heap} {C CK f : Addr} {fd : FuncData}
/-! ### Seat.__init__, of an object of a class under it -/
def seatG (m : Int) : List (Str × V) := [("me", .int m), ("state", .str "out"), ("sits", .bl false)]
theorem seatG_made (m : Int) : putF "sits" (.bl false) (putF "state" (.str "out") (putF "me" (.int m) [])) = seatG m := by
  simp only [putF, seatG, n_caF_me_stt, n_caF_me_sits, n_caF_stt_sits, if_false, if_true]
def spSeat0 (C : Addr) : Sp := fun vs H Q _ => ∃ (p dx : Addr) (m : Int), vs = [.ref p, .int m] ∧ H p = some (.ins C dx []) ∧ Q .non (upd H p (.ins C dx (seatG m)))
theorem sc_Seat__init : FnScope ["self", "me"] ["self", "me"] (defScope s_Seat__init) :=
  ⟨rfl, rfl, rfl, by decide +kernel, rfl, by decide +kernel, by decide +kernel⟩
theorem ok_seat0 {f : Addr} {fd : FuncData} (F : Fun K "__init__" "Seat.__init__" s_Seat__init f fd) (c : Cls K C) (n1 : NoAttr K C "me") (n2 : NoAttr K C "state") (n3 : NoAttr K C "sits") : FnOk P w K mg base CX0 1 f fd ["self", "me"] (spSeat0 C) := by
  refine F.ok sc_Seat__init (fun vs H Q E h => ?_) (fun cdv A outer s H vs Q E hr h => ?_)
  · obtain ⟨p, dx, m, rfl, _⟩ := h
    rfl
  obtain ⟨p, dx, m, rfl, hp, q⟩ := h
  refine ⟨_, (pss_cons (ps_fld (pv 0) (pv 1) rfl)
    (pss_cons (ps_fld (pv 0) pe_str rfl)
    (pss_one (ps_fld (pv 0) pe_bl rfl)))), ?_⟩
  refine ⟨_, rfl, _, rfl, p, C, dx, _, rfl, hp, c, n1, (by show 0 < 1000; decide), ?_⟩
  refine ⟨_, rfl, p, C, dx, _, rfl, upd_same, c, n2, (by show 1 < 1000; decide), ?_⟩
  refine ⟨_, rfl, p, C, dx, _, rfl, upd_same, c, n3, (by show 2 < 1000; decide), ?_⟩
  rw [upd_upd, upd_upd, seatG_made]
  exact q
theorem fnR_of {k : Nat} {f : Addr} {fd : FuncData} {ps : List Str} {sp : Sp} (F : FnOk P w K mg base CX0 k f fd ps sp) (b : Binds K fd ps []) : FnR P w K mg base CX0 k f sp :=
  fun A outer s H us vs Q E hr e0 r h => by
    have hl : (us ++ []).length = ps.length := by rw [List.append_nil, ← r.length]; exact F.len _ _ _ _ h
    have KX : K.In s.heap := e0.mod.kin.keeps fun b o z => (e0.bs b o z).1
    have bt := b s us KX hl
    rw [List.append_nil] at bt
    exact F.run A outer s H ⟨us, []⟩ us vs Q E hr e0 bt r h
/-! ### a caller -/
structure BlC71 (mg : Str → Option Value) : Prop where
  len : mg "len" = none
  range : mg "range" = none
  list : mg "list" = none
  tuple : mg "tuple" = none
  sorted : mg "sorted" = none
  isinstance : mg "isinstance" = none
  int : mg "int" = none
  bool : mg "bool" = none
structure CalT (K : PySem.W.Frag) (C : Addr) : Prop where
  cl : Cls K C
  me : NoAttr K C "me"
  state : NoAttr K C "state"
  sits : NoAttr K C "sits"
  round : NoAttr K C "round"
  roster : NoAttr K C "_roster"
  numbers : NoAttr K C "_numbers"
  key : NoAttr K C "_key"
  begun : NoAttr K C "_begun"
  pledges : NoAttr K C "_pledges"
structure CalAt (H : Hp) (C q dx : Addr) (me : Int) (st : Str) (rnd : Int) (ro nu : Addr) (key bg : V) (pl : Addr) (rs ms : List Int) (ps : List (Key × V)) : Prop where
  hp : H q = some (.ins C dx (caF me st false rnd ro nu key bg pl))
  hr : H ro = some (.lst (rs.map V.int))
  hn : H nu = some (.lst (ms.map V.int))
  hpl : H pl = some (.dK ps)
theorem CalAt.same {H H' : Hp} {q dx : Addr} {me : Int} {st : Str} {rnd : Int} {ro nu : Addr} {key bg : V} {pl : Addr} {rs ms : List Int} {ps : List (Key × V)} (A : CalAt H C q dx me st rnd ro nu key bg pl rs ms ps) (s : Same H H') : CalAt H' C q dx me st rnd ro nu key bg pl rs ms ps :=
  ⟨s _ _ A.hp, s _ _ A.hr, s _ _ A.hn, s _ _ A.hpl⟩
def rangeI (n : Int) : List Int := (List.range n.toNat).map fun x : Nat => (x : Int)
def zeros (n : Int) : List Int := List.replicate n.toNat 0
def freshS (n : Int) : List (Int × Int) := (rangeI n).map fun m => (m, 0)
/-- the key of a new caller: none, or that of round 0 -/
def FreshKey (H : Hp) (CK : Addr) (n : Int) (key : V) (b : Bool) (Z : Addr → Prop) : Prop := if b = true then ∃ k dk d l, key = .ref k ∧ KeyAt H CK k dk 0 d l (freshS n) [] ∧ Z l ∧ Z k ∧ Z d else key = .non
theorem FreshKey.same {H H' : Hp} {n : Int} {key : V} {b : Bool} {Z : Addr → Prop} (h : FreshKey H CK n key b Z) (s : Same H H') : FreshKey H' CK n key b Z := by
  unfold FreshKey at h ⊢
  cases b with
  | true =>
    rw [if_pos rfl] at h ⊢
    obtain ⟨k, dk, d, l, e, A, z⟩ := h
    exact ⟨k, dk, d, l, e, A.same s, z⟩
  | false => exact h
theorem caF_end (m : Int) (ro nu : Addr) (key : V) (pl : Addr) : putF "_pledges" (.ref pl) (putF "_begun" .non (putF "_key" key (putF "_numbers" (.ref nu) (putF "_roster" (.ref ro) (putF "round" (.int 0) (seatG m)))))) = caF m "out" false 0 ro nu key .non pl :=
  caF_made m "out" false 0 ro nu key .non pl
theorem FreshKey.imp {H : Hp} {n : Int} {key : V} {b : Bool} {Z : Addr → Prop} (h : FreshKey H CK n key b Z) : FreshKey H CK n key b (fun _ => True) := by
  unfold FreshKey at h ⊢
  cases b with
  | true =>
    rw [if_pos rfl] at h ⊢
    obtain ⟨k, dk, d, l, e, A, z⟩ := h
    exact ⟨k, dk, d, l, e, A, trivial, trivial, trivial⟩
  | false => exact h
theorem putF_twice (x : Str) (a b : V) (fs : List (Str × V)) : putF x b (putF x a fs) = putF x b fs := by
  induction fs with
  | nil => simp [putF]
  | cons p fs ih =>
    obtain ⟨y, v⟩ := p
    by_cases c : y = x
    · simp [putF, c]
    · simp only [putF, c, if_false, ih]
theorem rgV_range {n : Int} : rgV 0 n = (rangeI n).map V.int := by
  unfold rgV rangeI
  rw [List.map_map, Int.sub_zero]
  refine List.map_congr_left fun i _ => ?_
  show V.int (0 + (i : Int)) = V.int (i : Int)
  rw [Int.zero_add]
theorem flat_zero : ∀ k : Nat, (List.replicate k [V.int 0]).flatten = (List.replicate k (0 : Int)).map V.int
  | 0 => rfl
  | k + 1 => by
    rw [List.replicate_succ, List.flatten_cons, flat_zero k, List.replicate_succ, List.map_cons]
    rfl
theorem rangeI_len {n : Int} : (rangeI n).length = n.toNat := by unfold rangeI; rw [List.length_map, List.length_range]
theorem freshS_fst (n : Int) : (freshS n).map (·.1) = rangeI n := by
  unfold freshS
  rw [List.map_map]
  exact List.map_id _
theorem rangeI_nd (n : Int) : (rangeI n).Nodup := List.pairwise_map.mpr (List.Pairwise.imp (fun h e => h (by omega)) List.nodup_range)
theorem KeyAt.chg {H H' : Hp} {k dk p D dx : Addr} {fs : List (Str × V)} {r : Int} {d l : Addr} {S : List (Int × Int)} {ns : List Int} (A : KeyAt H CK k dk r d l S ns) (hp : H p = some (.ins D dx fs)) (n : k ≠ p) (c : Chg p H H') : KeyAt H' CK k dk r d l S ns :=
  { A with hp := c _ _ n A.hp, hd := c _ _ (ne_of A.hd hp (by intro z; cases z)) A.hd, hl := c _ _ (ne_of A.hl hp (by intro z; cases z)) A.hl }
def spCInit (K : PySem.W.Frag) (C CK : Addr) : Sp := fun vs H Q _ => ∃ (p dx : Addr) (m n a : Int), vs = [.ref p, .int m, .int n, .int a] ∧ H p = some (.ins C dx []) ∧ 1 ≤ n ∧ n ≤ 60 ∧
  ∀ (ro nu pl : Addr) (key : V) H', Chg p H H' → H ro = none → H nu = none → H pl = none → CalAt H' C p dx m "out" 0 ro nu key .non pl (rangeI n) (zeros n) [] → FreshKey H' CK n key (decide (m = a)) (fun l => H l = none) → Q .non H'
/-- the last two fields -/
theorem cinit_end {H G : Hp} {p dx ro nu pl : Addr} {m n : Int} {key : V} {b : Bool} {Z : Addr → Prop} {Q : VK} {fs : List (Str × V)} (efs : fs = putF "_key" key (putF "_numbers" (.ref nu) (putF "_roster" (.ref ro) (putF "round" (.int 0) (seatG m)))))
    (c : Chg p H G) (kp : G p = some (.ins C dx fs)) (kr : G ro = some (.lst ((rangeI n).map V.int))) (kn : G nu = some (.lst ((zeros n).map V.int))) (fk : FreshKey G CK n key b Z) (nk : key ≠ .ref p)
    (hpl : upd G p (.ins C dx (putF "_begun" .non fs)) pl = none) (ro0 : H ro = none) (nu0 : H nu = none)
    (q : ∀ (pl : Addr) (key : V) H', Chg p H H' → H pl = none → CalAt H' C p dx m "out" 0 ro nu key .non pl (rangeI n) (zeros n) [] → FreshKey H' CK n key b Z → Q .non H') :
    Q .non (upd (upd (upd G p (.ins C dx (putF "_begun" .non fs))) pl (.dK [])) p (.ins C dx (putF "_pledges" (.ref pl) (putF "_begun" .non fs)))) := by
  have pp : pl ≠ p := fun z => by rw [z, upd_same] at hpl; cases hpl
  have hplG : G pl = none := by rw [upd_ne pp] at hpl; exact hpl
  have rp : ro ≠ p := ne_of kr kp (by intro z; cases z)
  have np : nu ≠ p := ne_of kn kp (by intro z; cases z)
  have rl : ro ≠ pl := ne_of_none kr hplG
  have nl : nu ≠ pl := ne_of_none kn hplG
  have cc : Chg p G (upd (upd (upd G p (.ins C dx (putF "_begun" .non fs))) pl (.dK [])) p (.ins C dx (putF "_pledges" (.ref pl) (putF "_begun" .non fs)))) := fun b o nb e => by
    rw [upd_ne nb, upd_ne (ne_of_none e hplG), upd_ne nb]; exact e
  refine q pl key _ (c.trans cc) (Chg.back c hplG pp) ⟨?_, cc _ _ rp kr, cc _ _ np kn, by rw [upd_ne pp, upd_same]⟩ ?_
  · rw [upd_same, efs, caF_end]
  · unfold FreshKey at fk ⊢
    cases b with
    | true =>
      rw [if_pos rfl] at fk ⊢
      obtain ⟨k, dk, d, l, e, A, z⟩ := fk
      exact ⟨k, dk, d, l, e, A.chg kp (fun z => nk (by rw [e, z])) cc, z⟩
    | false => exact fk
theorem ok_cinit {f cc cda D f2 fK : Addr} {fdK : FuncData} {dV kV doc pm ct oc cl : Value} {v : Option Value} {an od cld : Option Addr} {osl csl : Array (Option Value)} (T : BlC71 mg)
    (lk : K.lookup f = some ⟨oc, od, .func (PySem.W.ksFn "__init__" "Caller.__init__" (defArgs s_Caller__init) (defBody s_Caller__init) (defScope s_Caller__init) dV kV doc pm an (.ref cda) ct cc), osl⟩)
    (coded : PySem.W.codeIn K (.ref cda) "Caller.__init__" = true) (lc : K.lookup cc = some ⟨cl, cld, .cell v, csl⟩)
    (F : SupF P K ["self", "me", "seats", "first", "__class__", "seat"] f cc cda D (PySem.W.ksFn "__init__" "Caller.__init__" (defArgs s_Caller__init) (defBody s_Caller__init) (defScope s_Caller__init) dV kV doc pm an (.ref cda) ct cc) (defArgs s_Caller__init) (defScope s_Caller__init))
    (F2 : FnR P w K mg base CX0 1 f2 (spSeat0 C)) (S : CalT K C) (mro : PySem.W.mroIn K C (.ref D) = some true) (su : PySem.W.ks_superIn K C D "__init__" = some (some (.ref f2))) (ty : PySem.W.typeIn K (.ref f2) = some (.type "function")) (fi : PySem.W.fnIn K f2 = true)
    (KKm : Mk K CK fK) (GK : FnOk P w K mg base CX0 1 fK fdK ["self", "of_round", "served", "line"] (spKInit K CK)) (bK : Binds K fdK ["self", "of_round", "served", "line"] []) (gK : mg "Key" = some (.ref CK)) :
    FnOk P w K mg base CX0 3 f (PySem.W.ksFn "__init__" "Caller.__init__" (defArgs s_Caller__init) (defBody s_Caller__init) (defScope s_Caller__init) dV kV doc pm an (.ref cda) ct cc) ["self", "me", "seats", "first"] (spCInit K C CK) := by
  have NS : NScope ["self", "me", "seats", "first", "__class__", "seat"] ["self", "me", "seats", "first"] ["__class__"] (defScope s_Caller__init) := nscope_by (by decide +kernel)
  refine fnS_of lk coded lc NS ?_ fun A outer s H vs Q E hr h => ?_
  · rintro vs H Q E ⟨p, dx, m, n, a, rfl, _⟩
    rfl
  obtain ⟨p, dx, m, n, a, rfl, hp, n0, n1, q⟩ := h
  refine ⟨_, _, p1_supM F F2 (hr.mono (by decide)) (pa_cons (pv 1 (by rfl) (.inl (NS.par _ (by simp)))) pa_nil), (pss_cons (ps_fld (pv 0) pe_int rfl)
    (pss_cons (ps_fld (pv 0) (pe_listRg (by rfl) (by rfl) T.list (prg_1 (by rfl) T.range (pv 2))) rfl)
    (pss_cons (ps_fld (pv 0) (pe_op op_rep (pe_lst (pa_cons pe_int pa_nil)) (pv 2)) rfl)
    (pss_cons (ps_fld (pv 0) pe_non rfl)
    (pss_cons (ps_if (pt_cmpR op_eq (pv 1) (pv 3) (nomark _))
    (pss_one (ps_fld (pv 0) (pe_make KKm GK hr (by rfl) gK bK .nil pass0 (pa_cons pe_int (pa_cons (pe_lc (own := [("seat", 5)]) (g := gName 5) (tt := tYes) (by rfl) NS.nd (pi_range1 (by rfl) T.range (pa_cons (pv 2) pa_nil)) (blkOk_by (N := ["self", "me", "seats", "first", "__class__", "seat"]) (sc := defScope s_Caller__init) (by decide +kernel)) (fun _ _ _ _ _ => pg_name (i := 5) NS.nd rfl (Or.inl rfl)) (fun _ _ _ _ _ => pts_nil) (fun _ _ _ _ _ => (pe_tup (pa_cons (pv 5) (pa_cons pe_int pa_nil))))) (pa_cons (pe_lst pa_nil) pa_nil)))) rfl))
    pss_nil)
    (pss_cons (ps_fld (pv 0) pe_non rfl)
    (pss_one (ps_fld (pv 0) pe_dnewK rfl)))))))), ?_⟩
  have p0 : H p ≠ none := by rw [hp]; exact fun z => nomatch z
  refine ⟨p, C, dx, [], rfl, hp, mro, su, ty, fi, _, rfl, p, dx, m, rfl, hp, ?_⟩
  refine ⟨_, rfl, p, C, dx, _, rfl, upd_same, S.cl, S.round, (by show 3 < 1000; decide), ?_⟩
  rw [upd_upd]
  obtain ⟨H1, e1⟩ : ∃ H1, H1 = upd H p (.ins C dx (putF "round" (.int 0) (seatG m))) := ⟨_, rfl⟩
  have c1 : Chg p H H1 := by rw [e1]; exact Chg.self
  have k1 : H1 p = some (.ins C dx (putF "round" (.int 0) (seatG m))) := by rw [e1]; exact upd_same
  rw [← e1]
  clear e1
  refine ⟨_, rfl, n, rfl, RgOk.of_le (by decide) (by omega) (by decide) (by omega), fun ro hro => ?_⟩
  have rp : ro ≠ p := (ne_of_none k1 hro).symm
  have c2 : Chg p H (upd H1 ro (.lst (rgV 0 n))) := c1.trans (Chg.same (same_upd hro))
  refine ⟨_, rfl, p, C, dx, _, rfl, (upd_ne rp.symm).trans k1, S.cl, S.roster, (by show 4 < 1000; decide), ?_⟩
  obtain ⟨H2, e2⟩ : ∃ H2, H2 = upd (upd H1 ro (.lst (rgV 0 n))) p (.ins C dx (putF "_roster" (.ref ro) (putF "round" (.int 0) (seatG m)))) := ⟨_, rfl⟩
  have c3 : Chg p H H2 := by rw [e2]; exact c2.trans Chg.self
  have k2 : H2 p = some (.ins C dx (putF "_roster" (.ref ro) (putF "round" (.int 0) (seatG m)))) := by rw [e2]; exact upd_same
  have r2 : H2 ro = some (.lst ((rangeI n).map V.int)) := by rw [e2, upd_ne rp, upd_same, rgV_range]
  have ro0 : H ro = none := Chg.back c1 hro rp
  rw [← e2]
  clear e2 c2 c1 k1 hro
  refine ⟨by show 1 ≤ sizeLine; decide, fun z hz => ?_⟩
  refine ⟨_, rfl, z, n, _, rfl, rfl, upd_same, by omega, by omega, ?_, fun nu hnu => ?_⟩
  · rw [List.length_singleton, Nat.one_mul]
    exact Nat.le_trans (show n.toNat ≤ 60 by omega) (by decide)
  have sz := (same_upd (o := .lst [.int 0]) hz).trans (same_upd (o := .lst (List.replicate n.toNat [V.int 0]).flatten) hnu)
  have np : nu ≠ p := (ne_of_none (same_upd hz _ _ k2) hnu).symm
  have rn : ro ≠ nu := ne_of_none (same_upd hz _ _ r2) hnu
  have nu0 : H nu = none := Chg.back c3 ((same_upd hz).free hnu) np
  refine ⟨_, rfl, p, C, dx, _, rfl, sz _ _ k2, S.cl, S.numbers, (by show 5 < 1000; decide), ?_⟩
  obtain ⟨H3, e3⟩ : ∃ H3, H3 = upd (upd (upd H2 z (.lst [.int 0])) nu (.lst (List.replicate n.toNat [V.int 0]).flatten)) p (.ins C dx (putF "_numbers" (.ref nu) (putF "_roster" (.ref ro) (putF "round" (.int 0) (seatG m))))) := ⟨_, rfl⟩
  have c4 : Chg p H H3 := by rw [e3]; exact (c3.trans (Chg.same sz)).trans Chg.self
  have k3 : H3 p = some (.ins C dx (putF "_numbers" (.ref nu) (putF "_roster" (.ref ro) (putF "round" (.int 0) (seatG m))))) := by rw [e3]; exact upd_same
  have r3 : H3 ro = some (.lst ((rangeI n).map V.int)) := by rw [e3, upd_ne rp]; exact sz _ _ r2
  have n3 : H3 nu = some (.lst ((zeros n).map V.int)) := by rw [e3, upd_ne np, upd_same, flat_zero]; rfl
  rw [← e3]
  clear e3 c3 k2 r2 hnu hz sz
  refine ⟨_, rfl, p, C, dx, _, rfl, k3, S.cl, S.key, (by show 6 < 1000; decide), ?_⟩
  obtain ⟨H4, e4⟩ : ∃ H4, H4 = upd H3 p (.ins C dx (putF "_key" .non (putF "_numbers" (.ref nu) (putF "_roster" (.ref ro) (putF "round" (.int 0) (seatG m)))))) := ⟨_, rfl⟩
  have c5 : Chg p H H4 := by rw [e4]; exact c4.trans Chg.self
  have k4 : H4 p = some (.ins C dx (putF "_key" .non (putF "_numbers" (.ref nu) (putF "_roster" (.ref ro) (putF "round" (.int 0) (seatG m)))))) := by rw [e4]; exact upd_same
  have r4 : H4 ro = some (.lst ((rangeI n).map V.int)) := by rw [e4, upd_ne rp]; exact r3
  have n4 : H4 nu = some (.lst ((zeros n).map V.int)) := by rw [e4, upd_ne np]; exact n3
  rw [← e4]
  clear e4 c4 k3 r3 n3
  refine ⟨_, rfl, _, rfl, rfl, _, rfl, ?_⟩
  rw [dec_ii]
  refine ite2 (fun c => ?_) (fun c => ?_)
  · refine ⟨_, rfl, _, rfl, by omega, by omega, fun D hD => ?_⟩
    refine lc_range (lo := 0) (n := n.toNat) (fun i G => Same H4 G ∧ ∃ zs, zs.length = i ∧ G D = some (.lst zs) ∧ DpAll K G zs (((List.range i).map fun x : Nat => ((x : Int), (0 : Int))).map pairD)) ⟨same_upd hD, [], rfl, upd_same, .nil⟩ ?_ ?_
    · rintro i G hi ⟨sG, zs, lz, kD, dz⟩
      refine ⟨rfl, lc_yes ?_⟩
      refine ⟨_, rfl, by show 2 ≤ sizeLine; decide, fun u hu => ?_⟩
      have s3 := same_upd (o := .tup [.int (0 + (i : Int)), .int 0]) hu
      have kD3 := s3 _ _ kD
      refine ⟨_, kD3, Nat.lt_of_lt_of_le (show zs.length < 100 by omega) (by decide), fun c o e => ?_, zs ++ [.ref u], by rw [List.length_append, lz]; rfl, upd_same, ?_⟩
      · rw [upd_ne (ne_of_none e hD)]
        exact s3 _ _ (sG _ _ e)
      · refine dps_chg ⟨_, kD3⟩ Chg.self _ _ (noLs_pairs _) ?_
        rw [List.range_succ, List.map_append, List.map_append]
        exact dps_app (dps_same s3 _ _ dz) (.cons (.tup (SqT.of upd_same) (.cons (by rw [Int.zero_add]; exact .int _) (.cons (.int _) .nil))) .nil)
    rintro G ⟨sG, zs, lz, kD, dz⟩
    refine ⟨Nat.zero_le _, fun e he => ?_⟩
    have s5 := same_upd (o := .lst []) he
    refine fun x dx' hx hdx ne => ?_
    have kp5 := s5 _ _ (sG _ _ k4)
    obtain ⟨H6, e6⟩ : ∃ H6, H6 = upd (upd (upd G e (.lst [])) dx' (.own x)) x (.ins CK dx' []) := ⟨_, rfl⟩
    have s6 : Same H4 H6 := by
      rw [e6]
      exact (sG.trans s5).trans ((same_upd hdx).trans (same_upd (by rw [upd_ne ne.symm]; exact hx)))
    have s6' : Same (upd G e (.lst [])) H6 := by
      rw [e6]
      exact (same_upd hdx).trans (same_upd (by rw [upd_ne ne.symm]; exact hx))
    have kx6 : H6 x = some (.ins CK dx' []) := by rw [e6]; exact upd_same
    rw [← e6]
    clear e6
    have ds6 : DpAll K H6 zs ((freshS n).map pairD) := by
      have := dps_same s6' _ _ (dps_same s5 _ _ dz)
      unfold freshS rangeI
      rw [List.map_map (g := fun m : Int => (m, (0 : Int)))]
      exact this
    refine ⟨x, dx', D, e, 0, zs, freshS n, [], rfl, kx6, SqL.of (s6' _ _ (s5 _ _ kD)), ds6, SqL.of (s6' _ _ upd_same), ?_, ?_, by show 0 ≤ 1000; decide, fun d l H7 hd hl dne lne dl c7 KA => ⟨rfl, ?_⟩⟩
    · rw [freshS_fst]; exact rangeI_nd n
    · unfold freshS
      rw [List.length_map, rangeI_len]; omega
    have px : p ≠ x := ne_of_none kp5 hx
    have k7 := c7 _ _ px (s6 _ _ k4)
    refine ⟨_, rfl, p, C, dx, _, rfl, k7, S.cl, S.key, (by show 7 < 1000; decide), ?_⟩
    rw [putF_twice]
    refine ⟨_, rfl, p, C, dx, _, rfl, upd_same, S.cl, S.begun, (by show 7 < 1000; decide), ?_⟩
    have rx : ro ≠ p := rp
    have c9 : Chg p H7 (upd H7 p (.ins C dx (putF "_key" (.ref x) (putF "_numbers" (.ref nu) (putF "_roster" (.ref ro) (putF "round" (.int 0) (seatG m))))))) := Chg.self
    have rr : ro ≠ x := ne_of (s6 _ _ r4) kx6 (by intro z; cases z)
    have nr : nu ≠ x := ne_of (s6 _ _ n4) kx6 (by intro z; cases z)
    refine fun pl hpl => ?_
    have pp : pl ≠ p := fun z => by rw [z, upd_same] at hpl; cases hpl
    refine ⟨_, rfl, p, C, dx, _, rfl, (upd_ne pp.symm).trans upd_same, S.cl, S.pledges, (by show 8 < 1000; decide), ?_⟩
    have x4 : H4 x = none := (sG.trans s5).free hx
    have c7' : Chg p H H7 := fun b o nb e => c7 _ _ (ne_of_none (c5 _ _ nb e) x4) (s6 _ _ (c5 _ _ nb e))
    have ct : decide (m = a) = true := c
    refine cinit_end (b := decide (m = a)) (Z := fun l => H l = none) rfl (c7'.trans c9) upd_same ((upd_ne rp).trans (c7 _ _ rr (s6 _ _ r4))) ((upd_ne np).trans (c7 _ _ nr (s6 _ _ n4))) ?_ (fun z => px (V.ref.inj z).symm) hpl ro0 nu0 fun pl key H' a1 a2 a3 a4 => q ro nu pl key H' a1 ro0 nu0 a2 a3 a4
    · unfold FreshKey
      rw [ct, if_pos rfl]
      exact ⟨x, dx', d, l, rfl, KA.chg k7 px.symm c9, Chg.back c5 (s6.free hl) (ne_of_none (s6 _ _ k4) hl).symm, Chg.back c5 x4 px.symm, Chg.back c5 (s6.free hd) (ne_of_none (s6 _ _ k4) hd).symm⟩
  · refine ⟨_, rfl, p, C, dx, _, rfl, k4, S.cl, S.begun, (by show 7 < 1000; decide), ?_⟩
    refine fun pl hpl => ?_
    have pp : pl ≠ p := fun z => by rw [z, upd_same] at hpl; cases hpl
    refine ⟨_, rfl, p, C, dx, _, rfl, (upd_ne pp.symm).trans upd_same, S.cl, S.pledges, (by show 8 < 1000; decide), ?_⟩
    have cf : decide (m = a) = false := by simpa using c
    exact cinit_end (b := decide (m = a)) (Z := fun l => H l = none) rfl c5 k4 r4 n4 (by unfold FreshKey; rw [cf]; rfl) (fun z => nomatch z) hpl ro0 nu0 fun pl key H' a1 a2 a3 a4 => q ro nu pl key H' a1 ro0 nu0 a2 a3 a4
end

end G0
namespace G0
open PySem PySem.Spec PyProof.Rows L2 NdefX ClX
section
variable {P : Program} {w : World} {K : PySem.W.Frag} {mg : Str → Option Value} {base : Heap} {C CK f : Addr} {fd : FuncData}
/-! ### what a caller tells -/
def spBears (K : PySem.W.Frag) (C CK : Addr) : Sp := fun vs H Q _ => ∃ (q dx : Addr) (me : Int) (st : Str) (rnd : Int) (ro nu : Addr) (key bg : V) (pl : Addr) (rs ms : List Int) (ps : List (Key × V)), vs = [.ref q] ∧ CalAt H C q dx me st rnd ro nu key bg pl rs ms ps ∧
  ((key = .non ∧ Q .non H) ∨ ∃ k dk r d l S ns, key = .ref k ∧ KeyAt H CK k dk r d l S ns ∧ ∀ (t : Addr) (S' : List (Int × Int)) H', Same H H' → S'.Perm S → (S'.map (·.1)).Pairwise (· ≤ ·) → Dp K H' (.ref t) (toldD r S' ns) → Q (.ref t) H')
theorem sc_Caller_bears : FnScope ["self"] ["self"] (defScope s_Caller_bears) :=
  ⟨rfl, rfl, rfl, by decide +kernel, rfl, by decide +kernel, by decide +kernel⟩
theorem ok_bears (F : Fun K "bears" "Caller.bears" s_Caller_bears f fd) (S : CalT K C) (KT : KeyT K CK) (MT : Me P w K mg base CK "told" 1 ["self"] (spTold K CK)) : FnOk P w K mg base CX0 2 f fd ["self"] (spBears K C CK) := by
  obtain ⟨fT, fdT, GT, bT, mT⟩ := MT
  refine F.ok sc_Caller_bears (fun vs H Q E h => ?_) (fun cdv A outer s H vs Q E hr h => ?_)
  · obtain ⟨q, _, _, _, _, _, _, _, _, _, _, _, _, rfl, _⟩ := h
    rfl
  obtain ⟨q, dx, me, st, rnd, ro, nu, key, bg, pl, rs, ms, ps, rfl, A0, h⟩ := h
  refine ⟨_, (pss_cons (ps_if (pt_cmpR op_isN (pe_fld (pv 0) (by rfl)) pe_non (nomark _))
    (pss_one (ps_ret pe_non))
    pss_nil)
    (pss_one (ps_ret (pe_meth0 (pe_fld (pv 0) (by rfl)) KT.cl mT GT hr bT .nil pass0)))), ?_⟩
  refine ⟨_, rfl, q, C, dx, _, _, rfl, A0.hp, S.cl, S.key, caF_key _ _ _ _ _ _ _ _ _, rfl, _, rfl, ?_⟩
  rcases h with ⟨rfl, h⟩ | ⟨k, dk, r, d, l, SS, ns, rfl, KA, h⟩
  · exact iteT' rfl h
  · refine iteF' rfl ?_
    refine ⟨_, rfl, q, C, dx, _, _, rfl, A0.hp, S.cl, S.key, caF_key _ _ _ _ _ _ _ _ _, k, dk, _, rfl, KA.hp, keF_no _ _ _ (by decide +kernel) (by decide +kernel) (by decide +kernel), k, dk, r, d, l, SS, ns, rfl, KA, h⟩
def spRos (C : Addr) : Sp := fun vs H Q _ => ∃ (q dx : Addr) (me : Int) (st : Str) (rnd : Int) (ro nu : Addr) (key bg : V) (pl : Addr) (rs ms : List Int) (ps : List (Key × V)), vs = [.ref q] ∧ CalAt H C q dx me st rnd ro nu key bg pl rs ms ps ∧ ∀ l, H l = none → Q (.ref l) (upd H l (.lst (rs.map V.int)))
theorem sc_Caller_roster : FnScope ["self"] ["self"] (defScope s_Caller_roster) :=
  ⟨rfl, rfl, rfl, by decide +kernel, rfl, by decide +kernel, by decide +kernel⟩
theorem ok_roster (F : Fun K "roster" "Caller.roster" s_Caller_roster f fd) (T : BlC71 mg) (S : CalT K C) : FnOk P w K mg base CX0 1 f fd ["self"] (spRos C) := by
  refine F.ok sc_Caller_roster (fun vs H Q E h => ?_) (fun cdv A outer s H vs Q E hr h => ?_)
  · obtain ⟨q, _, _, _, _, _, _, _, _, _, _, _, _, rfl, _⟩ := h
    rfl
  obtain ⟨q, dx, me, st, rnd, ro, nu, key, bg, pl, rs, ms, ps, rfl, A0, h⟩ := h
  refine ⟨_, (pss_one (ps_ret (pe_callTy call_list_of (by rfl) T.list (by decide +kernel) (pa_cons (pe_fld (pv 0) (by rfl)) pa_nil)))), ?_⟩
  exact ⟨_, rfl, q, C, dx, _, _, rfl, A0.hp, S.cl, S.roster, caF_ros _ _ _ _ _ _ _ _ _, ro, _, rfl, .inl (SqL.of A0.hr), fun l hl => h l hl⟩
def spNum (C : Addr) : Sp := fun vs H Q _ => ∃ (q dx : Addr) (me : Int) (st : Str) (rnd : Int) (ro nu : Addr) (key bg : V) (pl : Addr) (rs ms : List Int) (ps : List (Key × V)), vs = [.ref q] ∧ CalAt H C q dx me st rnd ro nu key bg pl rs ms ps ∧ ∀ l, H l = none → Q (.ref l) (upd H l (.lst (ms.map V.int)))
theorem sc_Caller_numbers : FnScope ["self"] ["self"] (defScope s_Caller_numbers) :=
  ⟨rfl, rfl, rfl, by decide +kernel, rfl, by decide +kernel, by decide +kernel⟩
theorem ok_numbers (F : Fun K "numbers" "Caller.numbers" s_Caller_numbers f fd) (T : BlC71 mg) (S : CalT K C) : FnOk P w K mg base CX0 1 f fd ["self"] (spNum C) := by
  refine F.ok sc_Caller_numbers (fun vs H Q E h => ?_) (fun cdv A outer s H vs Q E hr h => ?_)
  · obtain ⟨q, _, _, _, _, _, _, _, _, _, _, _, _, rfl, _⟩ := h
    rfl
  obtain ⟨q, dx, me, st, rnd, ro, nu, key, bg, pl, rs, ms, ps, rfl, A0, h⟩ := h
  refine ⟨_, (pss_one (ps_ret (pe_callTy call_list_of (by rfl) T.list (by decide +kernel) (pa_cons (pe_fld (pv 0) (by rfl)) pa_nil)))), ?_⟩
  exact ⟨_, rfl, q, C, dx, _, _, rfl, A0.hp, S.cl, S.numbers, caF_nms _ _ _ _ _ _ _ _ _, nu, _, rfl, .inl (SqL.of A0.hn), fun l hl => h l hl⟩
end

end G0
namespace G0
open PySem PySem.Spec PyProof.Rows L2
/-! ### data that is the same -/
mutual
theorem eqv_self : ∀ d : PyData, PyData.canLay0 d = true → PyData.eqv d d = true
  | .none, _ => by simp [PyData.eqv]
  | .bool b, _ => by simp [PyData.eqv]
  | .int i, _ => by simp [PyData.eqv]
  | .str z, _ => by simp [PyData.eqv]
  | .dict _, h => by simp [PyData.canLay0] at h
  | .list ds, h => by
    simp only [PyData.eqv]
    exact eqvs_self ds (by simpa [PyData.canLay0] using h)
  | .tuple ds, h => by
    simp only [PyData.eqv]
    exact eqvs_self ds (by simpa [PyData.canLay0] using h)
theorem eqvs_self : ∀ ds : List PyData, PyData.canLayAll0 ds = true → PyData.eqvAll ds ds = true
  | [], _ => by simp [PyData.eqvAll]
  | d :: ds, h => by
    simp only [PyData.canLayAll0, Bool.and_eq_true] at h
    simp only [PyData.eqvAll, eqv_self d h.1, eqvs_self ds h.2, Bool.and_true]
end
theorem eqv_shaped {d : PyData} (h : SeqAt.shaped d = true) : PyData.eqv d d = true := eqv_self d (Bool.and_eq_true_iff.mp h).1
theorem shaped_pair {z : Str} (h : PyData.strOk z = true) (i : Int) : SeqAt.shaped (.tuple [.str z, .int i]) = true := by
  show ((PyData.tuple [.str z, .int i]).canLay0 && decide ((PyData.tuple [.str z, .int i]).depth ≤ 64)) = true
  simp [PyData.canLay0, PyData.canLayAll0, PyData.depth, PyData.depthAll, h]
end G0
namespace G0
open PySem PySem.Spec PyProof.Rows L2 NdefX ClX
section
variable {P : Program} {w : World} {K : PySem.W.Frag} {mg : Str → Option Value} {base : Heap} {C CK f : Addr} {fd : FuncData}
/-! ### Key: serve, take_first, line_up -/
theorem ent_val {S : List (Int × Int)} {m v : Int} (h : valV (S.map entI) (Sum.inl m) = some (.int v)) : (m, v) ∈ S := by
  induction S with
  | nil => cases h
  | cons q S ih =>
    rw [List.map_cons] at h
    by_cases c : q.1 = m
    · rw [show entI q = (Sum.inl m, V.int q.2) by unfold entI; rw [c], valV_pos rfl] at h
      have : q.2 = v := by cases h; rfl
      rw [← c, ← this]
      exact List.mem_cons_self ..
    · rw [show entI q = (Sum.inl q.1, V.int q.2) from rfl, valV_neg (fun e => c (Sum.inl.inj e))] at h
      exact List.mem_cons_of_mem _ (ih h)
theorem ent_is {S : List (Int × Int)} (m : Int) : valV (S.map entI) (Sum.inl m) = none ∨ ∃ v, valV (S.map entI) (Sum.inl m) = some (.int v) ∧ (m, v) ∈ S := by
  cases h : valV (S.map entI) (Sum.inl m) with
  | none => exact .inl rfl
  | some u =>
    refine .inr ?_
    have : ∃ v, u = V.int v := by
      induction S with
      | nil => cases h
      | cons q S ih =>
        rw [List.map_cons] at h
        by_cases c : q.1 = m
        · rw [show entI q = (Sum.inl m, V.int q.2) by unfold entI; rw [c], valV_pos rfl] at h
          cases h
          exact ⟨_, rfl⟩
        · rw [show entI q = (Sum.inl q.1, V.int q.2) from rfl, valV_neg (fun e => c (Sum.inl.inj e))] at h
          exact ih h
    obtain ⟨v, rfl⟩ := this
    exact ⟨v, rfl, ent_val h⟩
/-- the number of a member that is served, changed -/
def srvS (S : List (Int × Int)) (m v : Int) : List (Int × Int) := S.map fun p => if p.1 = m then (m, v) else p
theorem srvS_fst (S : List (Int × Int)) (m v : Int) : (srvS S m v).map (·.1) = S.map (·.1) := by
  unfold srvS
  rw [List.map_map]
  refine List.map_congr_left fun p _ => ?_
  show (if p.1 = m then (m, v) else p).1 = p.1
  split
  · next h => exact h.symm
  · rfl
theorem put_ent {S : List (Int × Int)} {m v : Int} (h : m ∈ S.map (·.1)) : putK (S.map entI) (Sum.inl m) (.int v) = (srvS S m v).map entI := by
  have any : (valV (S.map entI) (Sum.inl m)).isSome = true := by
    rcases ent_is (S := S) m with z | ⟨u, z, _⟩
    · exfalso
      clear v
      induction S with
      | nil => exact absurd h List.not_mem_nil
      | cons q S ih =>
        rw [List.map_cons] at z h
        by_cases c : q.1 = m
        · rw [show entI q = (Sum.inl m, V.int q.2) by unfold entI; rw [c], valV_pos rfl] at z
          cases z
        · rw [show entI q = (Sum.inl q.1, V.int q.2) from rfl, valV_neg (fun e => c (Sum.inl.inj e))] at z
          rcases List.mem_cons.mp h with e | h
          · exact c e.symm
          · exact ih h z
    · rw [z]; rfl
  unfold putK
  rw [valV_any, if_pos any]
  unfold srvS
  rw [List.map_map, List.map_map]
  refine List.map_congr_left fun p _ => ?_
  show (if (entI p).1 = Sum.inl m then ((entI p).1, V.int v) else entI p) = entI (if p.1 = m then (m, v) else p)
  by_cases c : p.1 = m
  · rw [if_pos c, if_pos (show (entI p).1 = Sum.inl m by unfold entI; rw [c])]
    unfold entI
    rw [c]
  · rw [if_neg c, if_neg (show ¬ (entI p).1 = Sum.inl m from fun e => c (Sum.inl.inj e))]
def spServe (CK : Addr) : Sp := fun vs H Q _ => ∃ (k dk : Addr) (r m v : Int) (d l : Addr) (S : List (Int × Int)) (ns : List Int), vs = [.ref k, .int m, .int v] ∧ KeyAt H CK k dk r d l S ns ∧ m ∈ S.map (·.1) ∧ Q .non (upd H d (.dK ((srvS S m v).map entI)))
theorem sc_Key_serve : FnScope ["self", "member", "number"] ["self", "member", "number"] (defScope s_Key_serve) :=
  ⟨rfl, rfl, rfl, by decide +kernel, rfl, by decide +kernel, by decide +kernel⟩
theorem ok_serve (F : Fun K "serve" "Key.serve" s_Key_serve f fd) (KT : KeyT K CK) : FnOk P w K mg base CX0 1 f fd ["self", "member", "number"] (spServe CK) := by
  refine F.ok sc_Key_serve (fun vs H Q E h => ?_) (fun cdv A outer s H vs Q E hr h => ?_)
  · obtain ⟨k, dk, r, m, v, d, l, S, ns, rfl, _⟩ := h
    rfl
  obtain ⟨k, dk, r, m, v, d, l, S, ns, rfl, A0, hm, q⟩ := h
  refine ⟨_, (pss_one (ps_asg (pv 2) (pg_sub (pe_fld (pv 0) (by rfl)) (pv 1) (set_dict (hu_of hr))))), ?_⟩
  refine ⟨_, rfl, _, rfl, k, CK, dk, _, _, rfl, A0.hp, KT.cl, KT.served, keF_srv _ _ _, _, rfl, d, _, rfl, .inl ⟨_, Sum.inl m, A0.hd, rfl, ?_, rfl⟩, ?_⟩
  · rw [List.length_map]
    exact Nat.lt_of_le_of_lt A0.few (by decide)
  · rw [put_ent hm]
    exact q
def spTake (CK : Addr) : Sp := fun vs H Q _ => ∃ (k dk : Addr) (r : Int) (d l : Addr) (S : List (Int × Int)) (ns : List Int), vs = [.ref k] ∧ KeyAt H CK k dk r d l S ns ∧
  ((ns = [] ∧ Q .non H) ∨ ∃ t rest, ns = t :: rest ∧ Q (.int t) (upd H l (.lst (rest.map V.int))))
structure BlL72 (mg : Str → Option Value) : Prop where
  len : mg "len" = none
theorem sc_Key_take_first : FnScope ["self"] ["self"] (defScope s_Key_take_first) :=
  ⟨rfl, rfl, rfl, by decide +kernel, rfl, by decide +kernel, by decide +kernel⟩
theorem ok_take (F : Fun K "take_first" "Key.take_first" s_Key_take_first f fd) (T : BlL72 mg) (KT : KeyT K CK) : FnOk P w K mg base CX0 1 f fd ["self"] (spTake CK) := by
  refine F.ok sc_Key_take_first (fun vs H Q E h => ?_) (fun cdv A outer s H vs Q E hr h => ?_)
  · obtain ⟨k, dk, r, d, l, S, ns, rfl, _⟩ := h
    rfl
  obtain ⟨k, dk, r, d, l, S, ns, rfl, A0, two⟩ := h
  refine ⟨_, (pss_cons (ps_if (pt_cmpR op_eq (pe_callB call_len_seq (by rfl) T.len (by decide +kernel) (pa_cons (pe_fld (pv 0) (by rfl)) pa_nil)) pe_int (nomark _))
    (pss_one (ps_ret pe_non))
    pss_nil)
    (pss_one (ps_ret (pe_bm PySem.F.plainAttrs_list PySem.F.slot_list_pop PySem.F.type_list_pop mt_popAt (pe_fld (pv 0) (by rfl)) (pa_cons pe_int pa_nil))))), ?_⟩
  refine ⟨_, rfl, k, CK, dk, _, _, rfl, A0.hp, KT.cl, KT.line, keF_lin _ _ _, l, _, rfl, .inl (SqL.of A0.hl), rfl, _, rfl, ?_⟩
  rcases two with ⟨rfl, q⟩ | ⟨t, rest, rfl, q⟩
  · refine iteT' (by simp) ?_
    exact q
  · refine iteF' (by simp; omega) ?_
    refine ⟨_, rfl, k, CK, dk, _, _, rfl, A0.hp, KT.cl, KT.line, keF_lin _ _ _, .inl ⟨rfl, _, SqL.of A0.hl⟩, l, _, 0, 0, _, rfl, rfl, A0.hl, by decide, by decide, ?_, rfl, ?_⟩
    · simp [seqIndex?]
    · exact q
/-- is a member due -/
def dueS (S : List (Int × Int)) (m v : Int) : Bool := match valV (S.map entI) (Sum.inl m) with | some (.int u) => decide (u < v) | _ => false
def spDue (CK : Addr) : Sp := fun vs H Q _ => ∃ (k dk : Addr) (r m v : Int) (d l : Addr) (S : List (Int × Int)) (ns : List Int), vs = [.ref k, .int m, .int v] ∧ KeyAt H CK k dk r d l S ns ∧ Q (.bl (dueS S m v)) H
theorem sc_Key_is_due : FnScope ["self", "member", "number"] ["self", "member", "number"] (defScope s_Key_is_due) :=
  ⟨rfl, rfl, rfl, by decide +kernel, rfl, by decide +kernel, by decide +kernel⟩
theorem ok_due (F : Fun K "_is_due" "Key._is_due" s_Key_is_due f fd) (KT : KeyT K CK) : FnOk P w K mg base CX0 1 f fd ["self", "member", "number"] (spDue CK) := by
  refine F.ok sc_Key_is_due (fun vs H Q E h => ?_) (fun cdv A outer s H vs Q E hr h => ?_)
  · obtain ⟨k, dk, r, m, v, d, l, S, ns, rfl, _⟩ := h
    rfl
  obtain ⟨k, dk, r, m, v, d, l, S, ns, rfl, A0, q⟩ := h
  refine ⟨_, (pss_one (ps_ret (pe_and (pe_cmp (pc_din (hu_of hr) (pv 1) (pe_fld (pv 0) (by rfl)))) (pe_one (pe_cmpR op_gt (pv 2) (pe_dget (hu_of hr) (pe_fld (pv 0) (by rfl)) (pv 1) (fun _ _ => rfl)) (nomark _)))))), ?_⟩
  refine ⟨_, rfl, _, rfl, k, CK, dk, _, _, rfl, A0.hp, KT.cl, KT.served, keF_srv _ _ _, d, _, rfl, .inl ⟨_, Sum.inl m, .inl A0.hd, rfl, rfl⟩, ?_⟩
  unfold dueS at q
  rcases ent_is (S := S) m with z | ⟨u, z, _⟩
  · rw [z] at q ⊢
    exact ⟨_, rfl, iteF q⟩
  · rw [z] at q ⊢
    refine ⟨_, rfl, iteT ?_⟩
    exact ⟨_, rfl, _, rfl, k, CK, dk, _, _, rfl, A0.hp, KT.cl, KT.served, keF_srv _ _ _, _, rfl, d, _, rfl, .inl ⟨_, Sum.inl m, .inl A0.hd, rfl, z.symm⟩, _, _, rfl, rfl, q⟩
end

end G0
namespace G0
open PySem PySem.Spec PyProof.Rows L2 NdefX ClX
section
variable {P : Program} {w : World} {K : PySem.W.Frag} {mg : Str → Option Value} {base : Heap} {C CK f : Addr} {fd : FuncData}
/-! ### Key.line_up -/
def ordR (rs : List Int) (b : Int) : List Int := (rs.filter fun m => decide (b < m)) ++ rs.filter fun m => decide (m ≤ b)
def keepL (ns rs : List Int) : List Int := ns.filter fun m => decide (m ∈ rs)
def lineUp (b : Int) (rs ms : List Int) (S : List (Int × Int)) (ns : List Int) : List Int := keepL ns rs ++ (ordR rs b).filter fun m => !decide (m ∈ keepL ns rs) && dueS S m (ms.getD m.toNat 0)
theorem ordR_nd {rs : List Int} {b : Int} (h : rs.Nodup) : (ordR rs b).Nodup := by
  unfold ordR
  rw [List.nodup_append]
  refine ⟨h.filter _, h.filter _, fun x hx y hy e => ?_⟩
  have h1 := (List.mem_filter.mp hx).2
  have h2 := (List.mem_filter.mp hy).2
  rw [e] at h1
  have := of_decide_eq_true h1
  have := of_decide_eq_true h2
  omega
theorem ordR_mem {rs : List Int} {b m : Int} : m ∈ ordR rs b ↔ m ∈ rs := by
  unfold ordR
  rw [List.mem_append, List.mem_filter, List.mem_filter]
  constructor
  · rintro (h | h) <;> exact h.1
  · intro h
    rcases Int.lt_or_le b m with c | c
    · exact .inl ⟨h, decide_eq_true c⟩
    · exact .inr ⟨h, decide_eq_true c⟩
theorem ordR_len {rs : List Int} {b : Int} : (ordR rs b).length ≤ 2 * rs.length := by
  unfold ordR
  rw [List.length_append]
  have h1 := List.length_filter_le (fun m => decide (b < m)) rs
  have h2 := List.length_filter_le (fun m => decide (m ≤ b)) rs
  omega
def spLineUp (CK : Addr) : Sp := fun vs H Q _ => ∃ (k dk ro nu : Addr) (r b : Int) (d l : Addr) (S : List (Int × Int)) (ns rs ms : List Int), vs = [.ref k, .int b, .ref ro, .ref nu] ∧ KeyAt H CK k dk r d l S ns ∧ H ro = some (.lst (rs.map V.int)) ∧ H nu = some (.lst (ms.map V.int)) ∧
  rs.Nodup ∧ (∀ m ∈ rs, 0 ≤ m ∧ m < ms.length) ∧ rs.length ≤ 60 ∧ ns.length ≤ 500 ∧ ∀ l' H', H l' = none → Chg k H H' → KeyAt H' CK k dk r d l' S (lineUp b rs ms S ns) → Q .non H'
theorem sc_Key_line_up : FnScope ["self", "behind", "roster", "numbers", "line", "member", "later", "sooner"] ["self", "behind", "roster", "numbers"] (defScope s_Key_line_up) :=
  ⟨rfl, rfl, rfl, by decide +kernel, rfl, by decide +kernel, by decide +kernel⟩
theorem ok_lineup (F : Fun K "line_up" "Key.line_up" s_Key_line_up f fd) (KT : KeyT K CK) (MD : Me P w K mg base CK "_is_due" 1 ["self", "member", "number"] (spDue CK)) : FnOk P w K mg base CX0 2 f fd ["self", "behind", "roster", "numbers"] (spLineUp CK) := by
  obtain ⟨fD, fdD, GD, bD, mD⟩ := MD
  refine F.ok sc_Key_line_up (fun vs H Q E h => ?_) (fun cdv A outer s H vs Q E hr h => ?_)
  · obtain ⟨k, dk, ro, nu, r, b, d, l, S, ns, rs, ms, rfl, _⟩ := h
    rfl
  obtain ⟨k, dk, ro, nu, r, b, d, l, S, ns, rs, ms, rfl, A0, hro, hnu, nd, bnd, l60, l500, q⟩ := h
  refine ⟨_, (pss_cons (ps_setLc (i := 4) (own := [("member", 5)]) (g := gName 5)  (by rfl) sc_Key_line_up.nd rfl rfl (sw_true rfl rfl rfl (by decide +kernel)) (pi_list (pe_fld (pv 0) (by rfl))) (blkOk_by (N := ["self", "behind", "roster", "numbers", "line", "member", "later", "sooner"]) (sc := defScope s_Key_line_up) (by decide +kernel)) (fun _ _ _ _ _ => pg_name (i := 5) sc_Key_line_up.nd rfl (Or.inl rfl)) (fun _ _ _ _ _ => pts_one (pt_cmpR (u_inK K) (pv 5) (pv 2) (by rfl))) (fun _ _ _ _ _ => (pv 5)))
    (pss_cons (ps_setLc (i := 6) (own := [("member", 5)]) (g := gName 5)  (by rfl) sc_Key_line_up.nd rfl rfl (sw_true rfl rfl rfl (by decide +kernel)) (pi_list (pv 2)) (blkOk_by (N := ["self", "behind", "roster", "numbers", "line", "member", "later", "sooner"]) (sc := defScope s_Key_line_up) (by decide +kernel)) (fun _ _ _ _ _ => pg_name (i := 5) sc_Key_line_up.nd rfl (Or.inl rfl)) (fun _ _ _ _ _ => pts_one (pt_cmpR op_gt (pv 5) (pv 1) (nomark _))) (fun _ _ _ _ _ => (pv 5)))
    (pss_cons (ps_setLc (i := 7) (own := [("member", 5)]) (g := gName 5)  (by rfl) sc_Key_line_up.nd rfl rfl (sw_true rfl rfl rfl (by decide +kernel)) (pi_list (pv 2)) (blkOk_by (N := ["self", "behind", "roster", "numbers", "line", "member", "later", "sooner"]) (sc := defScope s_Key_line_up) (by decide +kernel)) (fun _ _ _ _ _ => pg_name (i := 5) sc_Key_line_up.nd rfl (Or.inl rfl)) (fun _ _ _ _ _ => pts_one (pt_cmpR op_le (pv 5) (pv 1) (nomark _))) (fun _ _ _ _ _ => (pv 5)))
    (pss_cons (ps_for PassesOwn.never rfl (pi_list (pe_op op_cat (pv 6) (pv 7))) (pg_name (i := 5) sc_Key_line_up.nd rfl (Or.inl rfl))
    (pss_one (ps_if (PW.pt (pw_and (pt_cmpR u_notin (pv 5) (pv 4) (by rfl)) (pw_and1 (pt_val (pe_meth (pv 0) KT.cl mD GD hr bD .nil pass0 (pa_cons (pv 5) (pa_cons (pe_ix ix_list (pv 3) (pv 5) (fun _ _ => rfl)) pa_nil)))))))
    (pss_one (ps_expr (pe_bm PySem.F.plainAttrs_list PySem.F.slot_list_append PySem.F.type_list_append mt_append (pv 4) (pa_cons (pv 5) pa_nil))))
    pss_nil)))
    (pss_one (ps_fld (pv 0) (pv 4) rfl)))))), ?_⟩
  refine ⟨_, rfl, k, CK, dk, _, _, rfl, A0.hp, KT.cl, KT.line, keF_lin _ _ _, l, rfl, ⟨_, SqL.of A0.hl⟩, fun D hD => ?_⟩
  refine lc_filtI (K := K) (a := l) (ns := ns) (fun m => decide (m ∈ rs)) (by omega) hD (SqL.of A0.hl) (fun i x G Y B hx sG h => ?_) (fun G1 s1 kD => ?_)
  · refine ⟨rfl, _, rfl, _, rfl, .inl ⟨ro, _, rfl, .inl (SqL.of (sG _ _ hro)), rfl, flat_ints _, _, rfl, ?_⟩⟩
    exact tst (by rw [inV_ints]; rfl) (fun y => ⟨_, rfl, y⟩) h
  have kD : G1 D = some (.lst ((keepL ns rs).map V.int)) := kD
  have hro1 := s1 _ _ hro
  refine ⟨_, rfl, ro, rfl, ⟨_, SqL.of hro1⟩, fun D2 hD2 => ?_⟩
  refine lc_filtI (K := K) (a := ro) (ns := rs) (fun m => decide (b < m)) (by omega) hD2 (SqL.of hro1) (fun i x G Y B hx sG h => ?_) (fun G2 sG2 kD2 => ?_)
  · refine ⟨rfl, _, rfl, _, rfl, _, _, rfl, rfl, _, rfl, ?_⟩
    exact tst rfl (fun y => ⟨_, rfl, y⟩) h
  have s12 := s1.trans sG2
  have hro2 := s12 _ _ hro
  refine ⟨_, rfl, ro, rfl, ⟨_, SqL.of hro2⟩, fun D3 hD3 => ?_⟩
  refine lc_filtI (K := K) (a := ro) (ns := rs) (fun m => decide (m ≤ b)) (by omega) hD3 (SqL.of hro2) (fun i x G Y B hx sG h => ?_) (fun G3 sG3 kD3 => ?_)
  · refine ⟨rfl, _, rfl, _, rfl, _, _, rfl, rfl, _, rfl, ?_⟩
    exact tst rfl (fun y => ⟨_, rfl, y⟩) h
  have s13 := s12.trans sG3
  have kD2' := sG3 _ _ kD2
  have l1 := ordR_len (rs := rs) (b := b)
  have lkeep : (keepL ns rs).length ≤ ns.length := List.length_filter_le _ _
  refine ⟨_, rfl, _, rfl, D2, D3, _, _, rfl, rfl, kD2', kD3, ?_, fun E1 hE1 => ?_⟩
  · rw [List.length_map, List.length_map]
    have h1 := List.length_filter_le (fun m => decide (b < m)) rs
    have h2 := List.length_filter_le (fun m => decide (m ≤ b)) rs
    exact Nat.le_trans (show _ ≤ 1000 by omega) (by decide)
  have eO : (rs.filter fun m => decide (b < m)).map V.int ++ (rs.filter fun m => decide (m ≤ b)).map V.int = (ordR rs b).map V.int := by unfold ordR; rw [List.map_append]
  rw [eO]
  have sE := same_upd (o := .lst ((ordR rs b).map V.int)) hE1
  have s14 := s13.trans sE
  have kD4 := sE _ _ (sG3 _ _ (sG2 _ _ kD))
  obtain ⟨G4, e4⟩ : ∃ G4, G4 = upd G3 E1 (.lst ((ordR rs b).map V.int)) := ⟨_, rfl⟩
  have kE4 : G4 E1 = some (.lst ((ordR rs b).map V.int)) := by rw [e4]; exact upd_same
  rw [← e4] at s14 kD4
  rw [← e4]
  have D0 : H D = none := hD
  have DE : E1 ≠ D := by
    have := sG3 _ _ (sG2 _ _ kD)
    exact (ne_of_none this hE1).symm
  refine ⟨E1, rfl, ⟨_, SqL.of kE4⟩, ?_⟩
  obtain ⟨qf, eqf⟩ : ∃ qf : Int → Bool, qf = fun m => !decide (m ∈ keepL ns rs) && dueS S m (ms.getD m.toNat 0) := ⟨_, rfl⟩
  refine for_list (K := K) (a := E1) (xs := (ordR rs b).map V.int) (fun i σ G => (∃ z5 : Option V, σ = [some (V.ref k), some (V.int b), some (V.ref ro), some (V.ref nu), some (V.ref D), z5, some (V.ref D2), some (V.ref D3)]) ∧ Same H G ∧ G E1 = some (.lst ((ordR rs b).map V.int)) ∧ G D = some (.lst ((keepL ns rs ++ ((ordR rs b).take i).filter qf).map V.int))) ⟨⟨_, rfl⟩, s14, kE4, by simpa using kD4⟩ (fun i σ G _ h => SqL.of h.2.2.1) ?_ ?_
  · rintro i x σ G hx ⟨⟨z5, rfl⟩, sG, kE, kD⟩
    obtain ⟨m, hm, rfl⟩ := ints_at' hx
    have mO := List.mem_of_getElem? hm
    obtain ⟨m0, m1⟩ := bnd m (ordR_mem.mp mO)
    have li := (List.getElem?_eq_some_iff.mp hm).1
    have nin : m ∉ (ordR rs b).take i := fun z => by
      obtain ⟨j, lj, ej⟩ := List.mem_take_iff_getElem.mp z
      have h1 : (ordR rs b)[j]? = some m := by rw [List.getElem?_eq_getElem (by omega), ej]
      have := (List.getElem?_inj (by omega) (ordR_nd (b := b) nd)).mp (h1.trans hm.symm)
      omega
    have eM : decide (m ∈ keepL ns rs ++ ((ordR rs b).take i).filter qf) = decide (m ∈ keepL ns rs) := decide_eq_decide.mpr ⟨fun h => by
      rcases List.mem_append.mp h with z | z
      · exact z
      · exact absurd (List.mem_filter.mp z).1 nin, fun h => List.mem_append.mpr (.inl h)⟩
    have A1 := A0.same sG
    have hnuG := sG _ _ hnu
    have ln := (keepL ns rs ++ ((ordR rs b).take i).filter qf).length
    have llen : (keepL ns rs ++ ((ordR rs b).take i).filter qf).length < 1000 := by
      rw [List.length_append]
      have := Nat.le_trans (List.length_filter_le qf ((ordR rs b).take i)) (by rw [List.length_take]; exact Nat.min_le_right _ _)
      omega
    rw [filt_next qf hm]
    refine ⟨_, rfl, _, rfl, .inl ⟨D, _, rfl, .inl (SqL.of kD), rfl, flat_ints _, _, rfl, ?_⟩⟩
    rw [inV_ints, eM]
    by_cases cK : m ∈ keepL ns rs
    · have q0 : qf m = false := by rw [eqf]; simp [cK]
      refine iteF' (by simp [cK]) ?_
      rw [q0, if_neg (by decide), List.append_nil]
      exact ⟨⟨_, rfl⟩, sG, kE, kD⟩
    · refine iteT' (by simp [cK]) ?_
      obtain ⟨j, ej⟩ : ∃ j : Nat, m = (j : Int) := ⟨m.toNat, by omega⟩
      have jl : j < ms.length := by omega
      have atm : atI (ms.map V.int) m = some (.int (ms.getD m.toNat 0)) := by
        rw [ej]
        refine atI_nat ?_
        rw [List.getElem?_map, List.getElem?_eq_getElem jl, show ((j : Int)).toNat = j from rfl, List.getD_eq_getElem?_getD, List.getElem?_eq_getElem jl]
        rfl
      have q1 : qf m = dueS S m (ms.getD m.toNat 0) := by rw [eqf]; simp [cK]
      refine ⟨_, rfl, k, dk, _, rfl, A1.hp, keF_no _ _ _ (by decide +kernel) (by decide +kernel) (by decide +kernel), _, rfl, _, rfl, _, rfl, nu, _, _, _, rfl, rfl, SqL.of hnuG, atm, k, dk, r, m, _, d, l, S, ns, rfl, A1, _, rfl, ?_⟩
      rw [← q1]
      cases hq : qf m with
      | true =>
        refine iteT ?_
        rw [if_pos rfl]
        refine ⟨_, rfl, .inl ⟨rfl, _, SqL.of kD⟩, _, rfl, D, _, _, rfl, rfl, kD, by rw [List.length_map]; exact Nat.lt_of_lt_of_le llen (by decide), ?_⟩
        refine ⟨⟨_, rfl⟩, fun c o e => ?_, (upd_ne DE).trans kE, ?_⟩
        · rw [upd_ne (ne_of_none e D0)]
          exact sG _ _ e
        · rw [upd_same, ← List.append_assoc, List.map_append (l₂ := [m])]
          rfl
      | false =>
        refine iteF ?_
        rw [if_neg (by decide), List.append_nil]
        exact ⟨⟨_, rfl⟩, sG, kE, kD⟩
  · rintro σ G ⟨⟨z5, rfl⟩, sG, kE, kD⟩
    rw [List.length_map, List.take_length] at kD
    have A1 := A0.same sG
    have Dk : D ≠ k := (ne_of_none A0.hp D0).symm
    refine ⟨_, rfl, _, rfl, k, CK, dk, _, rfl, A1.hp, KT.cl, KT.line, (by show 3 < 1000; decide), ?_⟩
    rw [keF_put_lin]
    have eL : lineUp b rs ms S ns = keepL ns rs ++ (ordR rs b).filter qf := by rw [eqf]; rfl
    have cI : Chg k H (upd G k (.ins CK dk (keF r d D))) := (Chg.same sG).trans Chg.self
    refine q D _ D0 cI ⟨upd_same, cI _ _ (ne_of A0.hd A0.hp (by intro z; cases z)) A0.hd, by rw [upd_ne Dk, eL]; exact kD, A0.nd, A0.few, ?_⟩
    rw [eL, List.length_append]
    have := List.length_filter_le qf (ordR rs b)
    omega
end

end G0
namespace G0
open PySem PySem.Spec PyProof.Rows L2 NdefX ClX
section
variable {P : Program} {w : World} {K : PySem.W.Frag} {mg : Str → Option Value} {base : Heap} {C CK f : Addr} {fd : FuncData}
/-! ### a caller's letters to all others; what it learns -/
theorem cat_anyk {H : Hp} {a b : Addr} {xs ys : List V} {Q : VK} (h1 : SqT K H a xs) (h2 : SqT K H b ys) (l : xs.length + ys.length ≤ 10000)
    (q : ∀ r H', Same H H' → SqT K H' r (xs ++ ys) → Q (.ref r) H') : rCatA K (.ref a) (.ref b) H Q := by
  refine ⟨a, b, xs, ys, rfl, rfl, h1, h2, Nat.le_trans l (by decide), fun e => ?_, fun _ e => ?_, fun _ _ r hr => q r _ (same_upd hr) (SqT.of upd_same)⟩
  · subst e
    exact q b H (Same.refl H) h2
  · subst e
    exact q a H (Same.refl H) (by rw [List.append_nil]; exact h1)
theorem nin1 {H : Hp} {z a : Addr} {oa : HO} (ha : H a = some oa) (hz : H z = none) : z ∉ [a] := fun m => by
  rw [List.mem_singleton.mp m, ha] at hz
  cases hz
theorem nin2 {H : Hp} {z a b : Addr} {oa ob : HO} (ha : H a = some oa) (hb : H b = some ob) (hz : H z = none) : z ∉ [a, b] := fun m => by
  rcases List.mem_cons.mp m with e | m
  · rw [e, ha] at hz; cases hz
  · exact nin1 hb hz m
def toD (d : PyData) (s : Int) : PyData := .tuple [.int s, d]
theorem noL_to {d : PyData} (h : noL d = true) (s : Int) : noL (toD d s) = true := by simp [toD, noL, noLs, h]
def othR (rs : List Int) (me : Int) : List Int := rs.filter fun s => !decide (s = me)
structure BlM72 (mg : Str → Option Value) : Prop where
  len : mg "len" = none
  max : mg "max" = none
theorem CalAt.no {H : Hp} {q dx : Addr} {me : Int} {st : Str} {rnd : Int} {ro nu : Addr} {key bg : V} {pl : Addr} {rs ms : List Int} {ps : List (Key × V)} (A : CalAt H C q dx me st rnd ro nu key bg pl rs ms ps) (x : Str)
    (h1 : x ≠ "me" := by decide +kernel) (h2 : x ≠ "state" := by decide +kernel) (h3 : x ≠ "sits" := by decide +kernel) (h4 : x ≠ "round" := by decide +kernel) (h5 : x ≠ "_roster" := by decide +kernel) (h6 : x ≠ "_numbers" := by decide +kernel) (h7 : x ≠ "_key" := by decide +kernel) (h8 : x ≠ "_begun" := by decide +kernel) (h9 : x ≠ "_pledges" := by decide +kernel) :
    H q = some (.ins C dx (caF me st false rnd ro nu key bg pl)) ∧ (caF me st false rnd ro nu key bg pl).lookup x = none := ⟨A.hp, caF_no _ _ _ _ _ _ _ _ _ h1 h2 h3 h4 h5 h6 h7 h8 h9⟩
def spToO (K : PySem.W.Frag) (C : Addr) : Sp := fun vs H Q _ => ∃ (q dx lt ro nu pl : Addr) (me rnd : Int) (st : Str) (key bg : V) (rs ms : List Int) (ps : List (Key × V)) (dl : PyData), vs = [.ref q, .ref lt] ∧ CalAt H C q dx me st rnd ro nu key bg pl rs ms ps ∧ Dp K H (.ref lt) dl ∧ noL dl = true ∧ rs.length ≤ 60 ∧
  ∀ l zs H', Same H H' → H l = none → H' l = some (.lst zs) → DpAll K H' zs ((othR rs me).map (toD dl)) → Q (.ref l) H'
theorem sc_Caller_to_others : FnScope ["self", "letter", "seat"] ["self", "letter"] (defScope s_Caller_to_others) :=
  ⟨rfl, rfl, rfl, by decide +kernel, rfl, by decide +kernel, by decide +kernel⟩
theorem ok_tooth (F : Fun K "_to_others" "Caller._to_others" s_Caller_to_others f fd) (S : CalT K C) : FnOk P w K mg base CX0 1 f fd ["self", "letter"] (spToO K C) := by
  refine F.ok sc_Caller_to_others (fun vs H Q E h => ?_) (fun cdv A outer s H vs Q E hr h => ?_)
  · obtain ⟨q, dx, lt, _, _, _, _, _, _, _, _, _, _, _, _, rfl, _⟩ := h
    rfl
  obtain ⟨q, dx, lt, ro, nu, pl, me, rnd, st, key, bg, rs, ms, ps, dl, rfl, A0, hl, nl, l60, k⟩ := h
  refine ⟨_, (pss_one (ps_ret (pe_lc (own := [("seat", 2)]) (g := gName 2)  (by rfl) sc_Caller_to_others.nd (pi_list (pe_fld (pv 0) (by rfl))) (blkOk_by (N := ["self", "letter", "seat"]) (sc := defScope s_Caller_to_others) (by decide +kernel)) (fun _ _ _ _ _ => pg_name (i := 2) sc_Caller_to_others.nd rfl (Or.inl rfl)) (fun _ _ _ _ _ => pts_one (pt_cmpR op_ne (pv 2) (pe_fldK K (pv 0)) (nomark _))) (fun _ _ _ _ _ => (pe_tup (pa_cons (pv 2) (pa_cons (pv 1) pa_nil))))))), ?_⟩
  refine ⟨_, rfl, q, C, dx, _, _, rfl, A0.hp, S.cl, S.roster, caF_ros _ _ _ _ _ _ _ _ _, ro, rfl, ⟨_, SqL.of A0.hr⟩, fun D hD => ?_⟩
  refine lc_dataI (K := K) (a := ro) (ns := rs) (fun s => !decide (s = me)) (toD dl) (by omega) (fun x _ => noL_to nl x) hD (SqL.of A0.hr) (fun i x G Y B hx sG h1 h2 => ?_) (fun G zs sG kD dz => k D zs G sG hD kD dz)
  have A1 := A0.same sG
  refine ⟨rfl, _, rfl, _, rfl, q, C, dx, _, _, rfl, A1.hp, S.cl, S.me, caF_me _ _ _ _ _ _ _ _ _, rfl, _, rfl, ?_⟩
  rw [dec_ii]
  cases c : (!decide (x = me)) with
  | true =>
    refine iteT ?_
    refine ⟨_, rfl, _, rfl, by show 2 ≤ sizeLine; decide, fun t ht => h1 c (.ref t) _ (same_upd ht) (.tup (SqT.of upd_same) (.cons (.int x) (.cons (dp_same (sG.trans (same_upd ht)) _ _ hl) .nil)))⟩
  | false => exact iteF (h2 c)
def learn (ms : List Int) (s v : Int) : List Int := ms.set s.toNat (if v > ms.getD s.toNat 0 then v else ms.getD s.toNat 0)
theorem learn_len {ms : List Int} {s v : Int} : (learn ms s v).length = ms.length := List.length_set
theorem ix_n {j n : Nat} (h : j < n) : ixN n (j : Int) = some j := by
  unfold ixN
  rw [if_pos (by omega), if_pos (by omega)]
  simp
theorem at_ms {ms : List Int} {s : Int} (h0 : 0 ≤ s) (h1 : s < ms.length) : atI (ms.map V.int) s = some (.int (ms.getD s.toNat 0)) := by
  obtain ⟨j, ej⟩ : ∃ j : Nat, s = (j : Int) := ⟨s.toNat, by omega⟩
  rw [ej]
  refine atI_nat ?_
  rw [List.getElem?_map, List.getElem?_eq_getElem (show j < ms.length by omega), show ((j : Int)).toNat = j from rfl, List.getD_eq_getElem?_getD, List.getElem?_eq_getElem (show j < ms.length by omega)]
  rfl
def spLearn (C : Addr) : Sp := fun vs H Q _ => ∃ (q dx ro nu pl : Addr) (me rnd s v : Int) (st : Str) (key bg : V) (rs ms : List Int) (ps : List (Key × V)), vs = [.ref q, .int s, .int v] ∧ CalAt H C q dx me st rnd ro nu key bg pl rs ms ps ∧ 0 ≤ s ∧ s < ms.length ∧
  Q .non (upd H nu (.lst ((learn ms s v).map V.int)))
theorem sc_Caller_learn : FnScope ["self", "seat", "number"] ["self", "seat", "number"] (defScope s_Caller_learn) :=
  ⟨rfl, rfl, rfl, by decide +kernel, rfl, by decide +kernel, by decide +kernel⟩
theorem ok_learn (F : Fun K "_learn" "Caller._learn" s_Caller_learn f fd) (T : BlM72 mg) (S : CalT K C) : FnOk P w K mg base CX0 1 f fd ["self", "seat", "number"] (spLearn C) := by
  refine F.ok sc_Caller_learn (fun vs H Q E h => ?_) (fun cdv A outer s H vs Q E hr h => ?_)
  · obtain ⟨q, dx, _, _, _, _, _, _, _, _, _, _, _, _, _, rfl, _⟩ := h
    rfl
  obtain ⟨q, dx, ro, nu, pl, me, rnd, s', v, st, key, bg, rs, ms, ps, rfl, A0, h0, h1, k⟩ := h
  refine ⟨_, (pss_one (ps_asg (pe_callB (call_max2 rfl) (by rfl) T.max (by decide +kernel) (pa_cons (pe_ix ix_list (pe_fld (pv 0) (by rfl)) (pv 1) (fun _ _ => rfl)) (pa_cons (pv 2) pa_nil))) (pg_sub (pe_fld (pv 0) (by rfl)) (pv 1) set_list))), ?_⟩
  have att := at_ms h0 h1
  refine ⟨_, rfl, q, C, dx, _, _, rfl, A0.hp, S.cl, S.numbers, caF_nms _ _ _ _ _ _ _ _ _, _, rfl, nu, _, _, _, rfl, rfl, SqL.of A0.hn, att, _, rfl, _, _, rfl, ?_⟩
  obtain ⟨j, ej⟩ : ∃ j : Nat, s' = (j : Int) := ⟨s'.toNat, by omega⟩
  refine ⟨_, rfl, q, C, dx, _, _, rfl, A0.hp, S.cl, S.numbers, caF_nms _ _ _ _ _ _ _ _ _, _, rfl, nu, _, _, s'.toNat, rfl, rfl, A0.hn, (by rw [List.length_map, ej]; exact ix_n (by omega)), ?_⟩
  unfold learn at k
  rw [List.map_set] at k
  exact k
end

end G0
namespace G0
open PySem PySem.Spec PyProof.Rows L2 NdefX ClX
section
variable {P : Program} {w : World} {K : PySem.W.Frag} {mg : Str → Option Value} {base : Heap} {C CK f : Addr} {fd : FuncData}
/-! ### handing on -/
def keyD (r : Int) (S : List (Int × Int)) (ns : List Int) : PyData := .tuple [.str "key", .int r, .tuple (S.map pairD), .tuple (ns.map PyData.int)]
theorem ca_ne_ke {C CK q k dx dk : Addr} {H : Hp} {me : Int} {st : Str} {rnd : Int} {ro nu : Addr} {key bg : V} {pl : Addr} {r : Int} {d l : Addr} (h1 : H q = some (.ins C dx (caF me st false rnd ro nu key bg pl))) (h2 : H k = some (.ins CK dk (keF r d l))) : q ≠ k := fun e => by
  rw [e, h2] at h1
  have h3 := Option.some.inj h1
  injection h3 with _ _ h4
  have := congrArg List.length h4
  simp [caF, keF] at this
/-- what is handed on: by the line ln -/
structure HandK (K : PySem.W.Frag) (C CK : Addr) (H : Hp) (Q : VK) (A : List Addr) (q dx k dk ro nu pl d : Addr) (me rnd r : Int) (st : Str) (bg : V) (rs ms : List Int) (ps : List (Key × V)) (S : List (Int × Int)) (ln : List Int) : Prop where
  none : ln = [] → ∀ z l' H', ChgS A H H' → H l' = .none → H z = .none → z ≠ l' → CalAt H' C q dx me st rnd ro nu (.ref k) bg pl rs ms ps → KeyAt H' CK k dk r d l' S [] → H' z = some (.lst []) → Q (.ref z) H'
  self : ∀ rest, ln = me :: rest → ∀ z l' H', ChgS A H H' → H l' = .none → H z = .none → z ≠ l' → CalAt H' C q dx me "in" rnd ro nu (.ref k) bg pl rs ms ps → KeyAt H' CK k dk r d l' S rest → H' z = some (.lst []) → Q (.ref z) H'
  give : ∀ t rest, ln = t :: rest → t ≠ me → ∀ z zs S' H', ChgS A H H' → H z = .none → CalAt H' C q dx me st rnd ro nu .non bg pl rs ms ps → S'.Perm S → (S'.map (·.1)).Pairwise (· ≤ ·) → H' z = some (.lst zs) → DpAll K H' zs [toD (keyD r S' rest) t] → Q (.ref z) H'
def spHandOn (K : PySem.W.Frag) (C CK : Addr) : Sp := fun vs H Q _ => ∃ (q dx k dk ro nu pl d l : Addr) (me rnd r : Int) (st : Str) (bg : V) (rs ms ns : List Int) (ps : List (Key × V)) (S : List (Int × Int)), vs = [.ref q] ∧ CalAt H C q dx me st rnd ro nu (.ref k) bg pl rs ms ps ∧ KeyAt H CK k dk r d l S ns ∧
  rs.Nodup ∧ (∀ m ∈ rs, 0 ≤ m ∧ m < ms.length) ∧ rs.length ≤ 60 ∧ ns.length ≤ 500 ∧ HandK K C CK H Q [q, k] q dx k dk ro nu pl d me rnd r st bg rs ms ps S (lineUp me rs ms S ns)
theorem told_at {H : Hp} {t : Addr} {r : Int} {S : List (Int × Int)} {ns : List Int} (h : Dp K H (.ref t) (toldD r S ns)) : ∃ u v, SqT K H t [.int r, .ref u, .ref v] ∧ Dp K H (.ref u) (.tuple (S.map pairD)) ∧ Dp K H (.ref v) (.tuple (ns.map PyData.int)) := by
  cases h with
  | tup hs ha =>
    cases ha with
    | cons h1 h2 =>
      cases h1
      cases h2 with
      | cons h3 h4 =>
        cases h4 with
        | cons h5 h6 =>
          cases h6
          cases h3 with
          | tup a1 a2 =>
            cases h5 with
            | tup b1 b2 => exact ⟨_, _, hs, .tup a1 a2, .tup b1 b2⟩
theorem CalAt.chg1 {H H' : Hp} {q dx : Addr} {me : Int} {st : Str} {rnd : Int} {ro nu : Addr} {key bg : V} {pl : Addr} {rs ms : List Int} {ps : List (Key × V)} (A : CalAt H C q dx me st rnd ro nu key bg pl rs ms ps) {p D d : Addr} {fs : List (Str × V)} (hp : H p = some (.ins D d fs)) (n : q ≠ p) (c : Chg p H H') : CalAt H' C q dx me st rnd ro nu key bg pl rs ms ps :=
  ⟨c _ _ n A.hp, c _ _ (ne_of A.hr hp (by intro z; cases z)) A.hr, c _ _ (ne_of A.hn hp (by intro z; cases z)) A.hn, c _ _ (ne_of A.hpl hp (by intro z; cases z)) A.hpl⟩
theorem CalAt.lst {H : Hp} {q dx : Addr} {me : Int} {st : Str} {rnd : Int} {ro nu : Addr} {key bg : V} {pl : Addr} {rs ms : List Int} {ps : List (Key × V)} (A : CalAt H C q dx me st rnd ro nu key bg pl rs ms ps) {p : Addr} {xs : List V} {o : HO} (hp : H p = some (.lst xs)) (n1 : ro ≠ p) (n2 : nu ≠ p) : CalAt (upd H p o) C q dx me st rnd ro nu key bg pl rs ms ps :=
  ⟨(upd_ne (ne_of A.hp hp (by intro z; cases z))).trans A.hp, (upd_ne n1).trans A.hr, (upd_ne n2).trans A.hn, (upd_ne (ne_of A.hpl hp (by intro z; cases z))).trans A.hpl⟩
theorem noL_pairs (S : List (Int × Int)) : noL (.tuple (S.map pairD)) = true := noLs_pairs S
theorem noLs_intsD : ∀ ns : List Int, noLs (ns.map PyData.int) = true
  | [] => rfl
  | n :: ns => by simp [noLs, noL, noLs_intsD ns]
theorem noL_key (r : Int) (S : List (Int × Int)) (ns : List Int) : noL (keyD r S ns) = true := by
  simp [keyD, noL, noLs, noLs_pairs, noLs_intsD]
theorem sc_Caller_hand_on : FnScope ["self", "to", "letter"] ["self"] (defScope s_Caller_hand_on) :=
  ⟨rfl, rfl, rfl, by decide +kernel, rfl, by decide +kernel, by decide +kernel⟩
theorem ok_handon (F : Fun K "_hand_on" "Caller._hand_on" s_Caller_hand_on f fd) (S : CalT K C) (KT : KeyT K CK) (ML : Me P w K mg base CK "line_up" 2 ["self", "behind", "roster", "numbers"] (spLineUp CK)) (MK : Me P w K mg base CK "take_first" 1 ["self"] (spTake CK)) (MT : Me P w K mg base CK "told" 1 ["self"] (spTold K CK)) :
    FnOk P w K mg base CX0 3 f fd ["self"] (spHandOn K C CK) := by
  obtain ⟨fL, fdL, GL, bL, mL⟩ := ML
  obtain ⟨fK, fdK, GK, bK, mK⟩ := MK
  obtain ⟨fT, fdT, GT, bT, mT⟩ := MT
  refine F.ok sc_Caller_hand_on (fun vs H Q E h => ?_) (fun cdv A outer s H vs Q E hr h => ?_)
  · obtain ⟨q, _, _, _, _, _, _, _, _, _, _, _, _, _, _, _, _, _, _, rfl, _⟩ := h
    rfl
  obtain ⟨q, dx, k, dk, ro, nu, pl, d, l, me, rnd, r, st, bg, rs, ms, ns, ps, SS, rfl, A0, K0, nd, bnd, l60, l500, HK⟩ := h
  have hr1 : Room 1 _ := hr.mono (by decide)
  refine ⟨_, (pss_cons (ps_expr (pe_meth (pe_fld (pv 0) (by rfl)) KT.cl mL GL hr bL .nil pass0 (pa_cons (pe_fld (pv 0) (by rfl)) (pa_cons (pe_fld (pv 0) (by rfl)) (pa_cons (pe_fld (pv 0) (by rfl)) pa_nil)))))
    (pss_cons (ps_set (i := 1) sc_Caller_hand_on.nd rfl (Or.inl rfl) (pe_meth0 (pe_fld (pv 0) (by rfl)) KT.cl mK GK hr1 bK .nil pass0))
    (pss_cons (ps_if (pt_cmpR op_isN (pv 1) pe_non (nomark _))
    (pss_one (ps_ret (pe_lst pa_nil)))
    pss_nil)
    (pss_cons (ps_if (pt_cmpR op_eq (pv 1) (pe_fld (pv 0) (by rfl)) (nomark _))
    (pss_cons (ps_fld (pv 0) pe_str rfl)
    (pss_one (ps_ret (pe_lst pa_nil))))
    pss_nil)
    (pss_cons (ps_set (i := 2) sc_Caller_hand_on.nd rfl (Or.inl rfl) (pe_op op_catA (pe_tup (pa_cons pe_str pa_nil)) (pe_meth0 (pe_fld (pv 0) (by rfl)) KT.cl mT GT hr1 bT .nil pass0)))
    (pss_cons (ps_fld (pv 0) pe_non rfl)
    (pss_one (ps_ret (pe_lst (pa_cons (pe_tup (pa_cons (pv 1) (pa_cons (pv 2) pa_nil))) pa_nil)))))))))), ?_⟩
  have kno := fun (d l : Addr) (x : Str) (h1 : x ≠ "round") (h2 : x ≠ "_served") (h3 : x ≠ "_line") => keF_no r d l h1 h2 h3
  refine ⟨_, rfl, q, C, dx, _, _, rfl, A0.hp, S.cl, S.key, caF_key _ _ _ _ _ _ _ _ _, k, dk, _, rfl, K0.hp, kno _ _ _ (by decide +kernel) (by decide +kernel) (by decide +kernel), _, rfl, q, C, dx, _, _, rfl, A0.hp, S.cl, S.me, caF_me _ _ _ _ _ _ _ _ _, _, rfl, q, C, dx, _, _, rfl, A0.hp, S.cl, S.roster, caF_ros _ _ _ _ _ _ _ _ _, _, rfl, q, C, dx, _, _, rfl, A0.hp, S.cl, S.numbers, caF_nms _ _ _ _ _ _ _ _ _, k, dk, ro, nu, r, me, d, l, SS, ns, rs, ms, rfl, K0, A0.hr, A0.hn, nd, bnd, l60, l500, fun l' H1 hl' c1 K1 => ?_⟩
  have qk := ca_ne_ke A0.hp K0.hp
  have A1 := A0.chg1 K0.hp qk c1
  have cs1 : ChgS [q, k] H H1 := Chg.s c1 (by simp)
  obtain ⟨ln, eln⟩ : ∃ ln, ln = lineUp me rs ms SS ns := ⟨_, rfl⟩
  rw [← eln] at HK K1
  refine ⟨_, rfl, q, C, dx, _, _, rfl, A1.hp, S.cl, S.key, caF_key _ _ _ _ _ _ _ _ _, k, dk, _, rfl, K1.hp, kno _ _ _ (by decide +kernel) (by decide +kernel) (by decide +kernel), k, dk, r, d, l', SS, ln, rfl, K1, ?_⟩
  rcases ln with _ | ⟨t, rest⟩
  · refine .inl ⟨rfl, ?_⟩
    refine ⟨_, rfl, rfl, _, rfl, iteT' rfl ?_⟩
    refine ⟨Nat.zero_le _, fun z hz => ?_⟩
    have sz := same_upd (o := .lst []) hz
    exact HK.none rfl z l' _ (cs1.new hz) hl' (cs1.back hz (nin2 A1.hp K1.hp hz)) (ne_of_none K1.hl hz).symm (A1.same sz) (K1.same sz) upd_same
  · refine .inr ⟨t, rest, rfl, ?_⟩
    have nr : ro ≠ l' := ne_of_none A0.hr hl'
    have nn : nu ≠ l' := ne_of_none A0.hn hl'
    have A2 := A1.lst (o := .lst (rest.map V.int)) K1.hl nr nn
    have K2 : KeyAt (upd H1 l' (.lst (rest.map V.int))) CK k dk r d l' SS rest := ⟨(upd_ne (ne_of K1.hp K1.hl (by intro z; cases z))).trans K1.hp, (upd_ne (ne_of K1.hd K1.hl (by intro z; cases z))).trans K1.hd, upd_same, K1.nd, K1.few, by have := K1.few2; rw [List.length_cons] at this; omega⟩
    have cs2 : ChgS [q, k] H (upd H1 l' (.lst (rest.map V.int))) := cs1.mut hl'
    obtain ⟨H2, e2⟩ : ∃ H2, H2 = upd H1 l' (.lst (rest.map V.int)) := ⟨_, rfl⟩
    rw [← e2] at A2 K2 cs2
    rw [← e2]
    refine ⟨_, rfl, rfl, _, rfl, iteF' rfl ?_⟩
    refine ⟨_, rfl, _, rfl, q, C, dx, _, _, rfl, A2.hp, S.cl, S.me, caF_me _ _ _ _ _ _ _ _ _, rfl, _, rfl, ?_⟩
    rw [dec_ii]
    by_cases et : t = me
    · refine iteT' (decide_eq_true et) ?_
      subst et
      refine ⟨_, rfl, q, C, dx, _, rfl, A2.hp, S.cl, S.state, (by show 9 < 1000; decide), ?_⟩
      rw [caF_put_stt]
      have cq : Chg q H2 (upd H2 q (.ins C dx (caF t "in" false rnd ro nu (.ref k) bg pl))) := Chg.self
      have A3 : CalAt (upd H2 q (.ins C dx (caF t "in" false rnd ro nu (.ref k) bg pl))) C q dx t "in" rnd ro nu (.ref k) bg pl rs ms ps := ⟨upd_same, cq _ _ (ne_of A2.hr A2.hp (by intro z; cases z)) A2.hr, cq _ _ (ne_of A2.hn A2.hp (by intro z; cases z)) A2.hn, cq _ _ (ne_of A2.hpl A2.hp (by intro z; cases z)) A2.hpl⟩
      have K3 := K2.chg A2.hp qk.symm cq
      refine ⟨Nat.zero_le _, fun z hz => ?_⟩
      have sz := same_upd (o := .lst []) hz
      exact HK.self rest rfl z l' _ ((cs2.put (by simp)).new hz) hl' ((cs2.put (by simp)).back hz (nin2 A3.hp K3.hp hz)) (ne_of_none K3.hl hz).symm (A3.same sz) (K3.same sz) upd_same
    · refine iteF' (decide_eq_false et) ?_
      refine ⟨by show 1 ≤ sizeLine; decide, fun t1 ht1 => ?_⟩
      have s3 := same_upd (o := .tup [.str "key"]) ht1
      have A3 := A2.same s3
      have K3 := K2.same s3
      refine ⟨_, rfl, q, C, dx, _, _, rfl, A3.hp, S.cl, S.key, caF_key _ _ _ _ _ _ _ _ _, k, dk, _, rfl, K3.hp, kno _ _ _ (by decide +kernel) (by decide +kernel) (by decide +kernel), k, dk, r, d, l', SS, rest, rfl, K3, fun t2 S' H4 s4 pS uS dT => ?_⟩
      obtain ⟨u, v, q2, du, dv⟩ := told_at dT
      refine cat_anyk (sqt_same s4 (SqT.of upd_same)) q2 (by show 1 + 3 ≤ 10000; decide) fun t3 H5 s5 q3 => ?_
      have A5 := (A3.same s4).same s5
      have s25 := (s3.trans s4).trans s5
      have cs5 : ChgS [q, k] H H5 := cs2.trans (Same.s s25)
      refine ⟨_, rfl, q, C, dx, _, rfl, A5.hp, S.cl, S.key, (by show 9 < 1000; decide), ?_⟩
      rw [caF_put_key]
      have cq : Chg q H5 (upd H5 q (.ins C dx (caF me st false rnd ro nu .non bg pl))) := Chg.self
      have A6 : CalAt (upd H5 q (.ins C dx (caF me st false rnd ro nu .non bg pl))) C q dx me st rnd ro nu .non bg pl rs ms ps := ⟨upd_same, cq _ _ (ne_of A5.hr A5.hp (by intro z; cases z)) A5.hr, cq _ _ (ne_of A5.hn A5.hp (by intro z; cases z)) A5.hn, cq _ _ (ne_of A5.hpl A5.hp (by intro z; cases z)) A5.hpl⟩
      have d5 : Dp K H5 (.ref t3) (keyD r S' rest) := .tup q3 (.cons (.str _) (.cons (.int _) (.cons (dp_same s5 _ _ du) (.cons (dp_same s5 _ _ dv) .nil))))
      have d6 := dp_chgI A5.hp cq _ _ d5
      refine ⟨_, rfl, _, rfl, by show 2 ≤ sizeLine; decide, fun t6 ht6 => ?_⟩
      have s7 := same_upd (o := .tup [.int t, .ref t3]) ht6
      refine ⟨by show 1 ≤ sizeLine; decide, fun z hz => ?_⟩
      have s8 := same_upd (o := .lst [.ref t6]) hz
      exact HK.give t rest rfl et z [.ref t6] S' _ (((cs5.put (by simp)).new ht6).new hz) (((cs5.put (by simp)).new ht6).back hz (nin2 (A6.same s7).hp ((K3.same (s4.trans s5)).chg A5.hp qk.symm cq |>.same s7).hp hz)) ((A6.same s7).same s8) pS uS upd_same (.cons (.tup (SqT.of (s8 _ _ upd_same)) (.cons (.int t) (.cons (dp_same (s7.trans s8) _ _ d6) .nil))) .nil)
end

end G0
namespace G0
open PySem PySem.Spec PyProof.Rows L2 NdefX ClX
/-! ### xs[j] += e -/
def rGetL0 (K : PySem.W.Frag) : V → V → Hp → VK → Prop := fun o i H Q => ∃ (p : Addr) (xs : List V) (j : Nat) (z : V), o = .ref p ∧ i = .int (j : Nat) ∧ SqL K H p xs ∧ xs[j]? = some z ∧ j < 1000000 ∧ Q z H
theorem pget_list {X : Cx} : PGet X (rGetL0 X.K) := by
  rintro pins s σ H o i ov iv Q I ro ri ⟨p, xs, j, z, rfl, rfl, hq, hz, lj, q⟩
  cases ro
  obtain ⟨t, rfl⟩ := ri
  obtain ⟨its, r, pl, _⟩ := I.list hq
  obtain ⟨u, eu, ru⟩ := r.get hz
  exact wpAny_getItem_list pl.isList (by omega) (by omega) (by simpa using eu) ⟨z, H, I, ru, q⟩
section
variable {P : Program} {w : World} {K : PySem.W.Frag} {mg : Str → Option Value} {base : Heap} {C CK f : Addr} {fd : FuncData}
theorem HandK.from {H H1 : Hp} {Q : VK} {A B A' : List Addr} {q dx k dk ro nu pl d : Addr} {me rnd r : Int} {st : Str} {bg : V} {rs ms : List Int} {ps : List (Key × V)} {S : List (Int × Int)} {ln : List Int} (h : HandK K C CK H Q A q dx k dk ro nu pl d me rnd r st bg rs ms ps S ln)
    (c : ChgS A' H H1) (s1 : ∀ a ∈ A', a ∈ A) (s2 : ∀ a ∈ B, a ∈ A) (al : ∀ a ∈ A', H1 a ≠ .none) : HandK K C CK H1 Q B q dx k dk ro nu pl d me rnd r st bg rs ms ps S ln := by
  have go : ∀ {H' : Hp}, ChgS B H1 H' → ChgS A H H' := fun c2 => (c.mono s1).trans (c2.mono s2)
  have bk : ∀ {x : Addr}, H1 x = .none → H x = .none := fun {x} e => c.back e fun m => al x m e
  exact ⟨fun e z l' H' c2 hl hz zl => h.none e z l' H' (go c2) (bk hl) (bk hz) zl, fun rest e z l' H' c2 hl hz zl => h.self rest e z l' H' (go c2) (bk hl) (bk hz) zl, fun t rest e n z zs S' H' c2 hz => h.give t rest e n z zs S' H' (go c2) (bk hz)⟩
theorem dec_refn {a : Addr} : decide (V.ref a = V.non) = false := decide_eq_false fun h => nomatch h
theorem dec_str {a b : Str} : decide (V.str a = V.str b) = decide (a = b) := decide_eq_decide.mpr ⟨fun h => by cases h; rfl, fun h => by rw [h]⟩
/-! ### an ask is heard -/
def spHearAsk (K : PySem.W.Frag) (C CK : Addr) : Sp := fun vs H Q _ => ∃ (q dx ro nu pl : Addr) (me rnd s v : Int) (st : Str) (key bg : V) (rs ms : List Int) (ps : List (Key × V)), vs = [.ref q, .int s, .int v] ∧ CalAt H C q dx me st rnd ro nu key bg pl rs ms ps ∧ 0 ≤ s ∧ s < ms.length ∧ ro ≠ nu ∧
  (((key = .non ∨ (st = "in" ∧ ∃ a, key = .ref a)) ∧ ∀ z H', ChgS [nu] H H' → H z = none → CalAt H' C q dx me st rnd ro nu key bg pl rs (learn ms s v) ps → H' z = some (.lst []) → Q (.ref z) H') ∨
    ∃ (k dk d l : Addr) (r : Int) (S : List (Int × Int)) (ns : List Int), key = .ref k ∧ st ≠ "in" ∧ KeyAt H CK k dk r d l S ns ∧ l ≠ nu ∧ rs.Nodup ∧ (∀ m ∈ rs, 0 ≤ m ∧ m < ms.length) ∧ rs.length ≤ 60 ∧ ns.length ≤ 500 ∧
      HandK K C CK H Q [q, k, nu] q dx k dk ro nu pl d me rnd r st bg rs (learn ms s v) ps S (lineUp me rs (learn ms s v) S ns))
theorem sc_Caller_hear_ask : FnScope ["self", "sender", "number"] ["self", "sender", "number"] (defScope s_Caller_hear_ask) :=
  ⟨rfl, rfl, rfl, by decide +kernel, rfl, by decide +kernel, by decide +kernel⟩
theorem ok_hearask (F : Fun K "_hear_ask" "Caller._hear_ask" s_Caller_hear_ask f fd) (S : CalT K C) (ML : Me P w K mg base C "_learn" 1 ["self", "seat", "number"] (spLearn C)) (MH : Me P w K mg base C "_hand_on" 3 ["self"] (spHandOn K C CK)) :
    FnOk P w K mg base CX0 4 f fd ["self", "sender", "number"] (spHearAsk K C CK) := by
  obtain ⟨fL, fdL, GL, bL, mL⟩ := ML
  obtain ⟨fH, fdH, GH, bH, mH⟩ := MH
  refine F.ok sc_Caller_hear_ask (fun vs H Q E h => ?_) (fun cdv A outer s H vs Q E hr h => ?_)
  · obtain ⟨q, _, _, _, _, _, _, _, _, _, _, _, _, _, _, rfl, _⟩ := h
    rfl
  obtain ⟨q, dx, ro, nu, pl, me, rnd, s', v, st, key, bg, rs, ms, ps, rfl, A0, h0, h1, rn, two⟩ := h
  have hr1 : Room 1 _ := hr.mono (by decide)
  refine ⟨_, (pss_cons (ps_expr (pe_meth (pv 0) S.cl mL GL hr1 bL .nil pass0 (pa_cons (pv 1) (pa_cons (pv 2) pa_nil))))
    (pss_cons (ps_if (PW.pt (pw_or (pt_cmpR op_isN (pe_fld (pv 0) (by rfl)) pe_non (nomark _)) (pw_or1 (pt_cmpR op_eq (pe_fld (pv 0) (by rfl)) pe_str (nomark _)))))
    (pss_one (ps_ret (pe_lst pa_nil)))
    pss_nil)
    (pss_one (ps_ret (pe_meth0 (pv 0) S.cl mH GH hr bH .nil pass0))))), ?_⟩
  refine ⟨_, rfl, q, dx, _, rfl, A0.hp, (A0.no "_learn").2, _, rfl, _, rfl, q, dx, ro, nu, pl, me, rnd, s', v, st, key, bg, rs, ms, ps, rfl, A0, h0, h1, ?_⟩
  have c1 : ChgS [nu] H (upd H nu (.lst ((learn ms s' v).map V.int))) := ChgS.refl.put (by simp)
  have A1 : CalAt (upd H nu (.lst ((learn ms s' v).map V.int))) C q dx me st rnd ro nu key bg pl rs (learn ms s' v) ps := ⟨(upd_ne (ne_of A0.hp A0.hn (by intro z; cases z))).trans A0.hp, (upd_ne rn).trans A0.hr, upd_same, (upd_ne (ne_of A0.hpl A0.hn (by intro z; cases z))).trans A0.hpl⟩
  have kk : ∀ {a : Addr} {o : HO}, H a = some o → a ≠ nu → upd H nu (.lst ((learn ms s' v).map V.int)) a = some o := fun e n => (upd_ne n).trans e
  have al : upd H nu (.lst ((learn ms s' v).map V.int)) nu ≠ none := by rw [upd_same]; exact fun z => nomatch z
  obtain ⟨H1, e1⟩ : ∃ H1, H1 = upd H nu (.lst ((learn ms s' v).map V.int)) := ⟨_, rfl⟩
  rw [← e1] at c1 A1 al
  rw [← e1]
  rcases two with ⟨hk, k⟩ | ⟨ka, dk, d, l, r, SS, ns, rfl, nin, K0, lnu, nd, bnd, l60, l500, HK⟩
  · refine ⟨_, rfl, q, C, dx, _, _, rfl, A1.hp, S.cl, S.key, caF_key _ _ _ _ _ _ _ _ _, rfl, _, rfl, ?_⟩
    have fin : ∀ z, H1 z = none → Q (.ref z) (upd H1 z (.lst [])) := fun z hz => k z _ (c1.new hz) (c1.back hz (nin1 A1.hn hz)) (A1.same (same_upd hz)) upd_same
    rcases hk with rfl | ⟨rfl, a, rfl⟩
    · exact iteT' rfl ⟨Nat.zero_le _, fin⟩
    · refine iteF' dec_refn ?_
      refine ⟨_, rfl, q, C, dx, _, _, rfl, A1.hp, S.cl, S.state, caF_stt _ _ _ _ _ _ _ _ _, rfl, _, rfl, iteT' (by decide +kernel) ?_⟩
      exact ⟨Nat.zero_le _, fin⟩
  · refine ⟨_, rfl, q, C, dx, _, _, rfl, A1.hp, S.cl, S.key, caF_key _ _ _ _ _ _ _ _ _, rfl, _, rfl, iteF' dec_refn ?_⟩
    refine ⟨_, rfl, q, C, dx, _, _, rfl, A1.hp, S.cl, S.state, caF_stt _ _ _ _ _ _ _ _ _, rfl, _, rfl, iteF' (by rw [dec_str]; exact decide_eq_false nin) ?_⟩
    have K1 : KeyAt H1 CK ka dk r d l SS ns := by
      rw [e1]
      exact { K0 with hp := kk K0.hp (ne_of K0.hp A0.hn (by intro z; cases z)), hd := kk K0.hd (ne_of K0.hd A0.hn (by intro z; cases z)), hl := kk K0.hl lnu }
    exact ⟨_, rfl, q, dx, _, rfl, A1.hp, (A1.no "_hand_on").2, q, dx, ka, dk, ro, nu, pl, d, l, me, rnd, r, st, bg, rs, learn ms s' v, ns, ps, SS, rfl, A1, K1, nd, by rw [learn_len]; exact bnd, l60, l500, HK.from c1 (by simp) (by simp) (fun a ha => by rw [List.mem_singleton.mp ha]; exact al)⟩
/-! ### it asks -/
def inc (ms : List Int) (m : Int) : List Int := ms.set m.toNat (ms.getD m.toNat 0 + 1)
def askD (n : Int) : PyData := .tuple [.str "ask", .int n]
def spAskC (K : PySem.W.Frag) (C : Addr) : Sp := fun vs H Q _ => ∃ (q dx ro nu pl : Addr) (me rnd : Int) (st : Str) (key bg : V) (rs ms : List Int) (ps : List (Key × V)), vs = [.ref q] ∧ CalAt H C q dx me st rnd ro nu key bg pl rs ms ps ∧ 0 ≤ me ∧ me < ms.length ∧ ms.length ≤ 60 ∧ ro ≠ nu ∧ rs.length ≤ 60 ∧
  (((∃ a, key = .ref a) ∧ ∀ z H', ChgS [q, nu] H H' → H z = none → CalAt H' C q dx me "in" rnd ro nu key bg pl rs (inc ms me) ps → H' z = some (.lst []) → Q (.ref z) H') ∨
    (key = .non ∧ ∀ z zs H', ChgS [q, nu] H H' → H z = none → CalAt H' C q dx me "asking" rnd ro nu key bg pl rs (inc ms me) ps → H' z = some (.lst zs) → DpAll K H' zs ((othR rs me).map (toD (askD (ms.getD me.toNat 0 + 1)))) → Q (.ref z) H'))
theorem sc_Caller_ask : FnScope ["self"] ["self"] (defScope s_Caller_ask) :=
  ⟨rfl, rfl, rfl, by decide +kernel, rfl, by decide +kernel, by decide +kernel⟩
theorem ok_askC (F : Fun K "ask" "Caller.ask" s_Caller_ask f fd) (S : CalT K C) (MO : Me P w K mg base C "_to_others" 1 ["self", "letter"] (spToO K C)) : FnOk P w K mg base CX0 2 f fd ["self"] (spAskC K C) := by
  obtain ⟨fO, fdO, GO, bO, mO⟩ := MO
  refine F.ok sc_Caller_ask (fun vs H Q E h => ?_) (fun cdv A outer s H vs Q E hr h => ?_)
  · obtain ⟨q, _, _, _, _, _, _, _, _, _, _, _, _, rfl, _⟩ := h
    rfl
  obtain ⟨q, dx, ro, nu, pl, me, rnd, st, key, bg, rs, ms, ps, rfl, A0, h0, h1, m60, rn, l60, two⟩ := h
  refine ⟨_, (pss_cons (ps_augS (pe_fld (pv 0) (by rfl)) (pe_fld (pv 0) (by rfl)) pget_list pe_int ip_add set_list)
    (pss_cons (ps_if (pt_cmpR op_notN (pe_fld (pv 0) (by rfl)) pe_non (nomark _))
    (pss_cons (ps_fld (pv 0) pe_str rfl)
    (pss_one (ps_ret (pe_lst pa_nil))))
    pss_nil)
    (pss_cons (ps_fld (pv 0) pe_str rfl)
    (pss_one (ps_ret (pe_meth (pv 0) S.cl mO GO hr bO .nil pass0 (pa_cons (pe_tup (pa_cons pe_str (pa_cons (pe_ix ix_list (pe_fld (pv 0) (by rfl)) (pe_fld (pv 0) (by rfl)) (fun _ _ => rfl)) pa_nil))) pa_nil))))))), ?_⟩
  obtain ⟨j, ej⟩ : ∃ j : Nat, me = (j : Int) := ⟨me.toNat, by omega⟩
  have jl : j < ms.length := by omega
  have eg : ms.getD me.toNat 0 = ms[j] := by rw [ej, show ((j : Int)).toNat = j from rfl, List.getD_eq_getElem?_getD, List.getElem?_eq_getElem jl]; rfl
  refine ⟨_, rfl, q, C, dx, _, _, rfl, A0.hp, S.cl, S.numbers, caF_nms _ _ _ _ _ _ _ _ _, _, rfl, q, C, dx, _, _, rfl, A0.hp, S.cl, S.me, caF_me _ _ _ _ _ _ _ _ _, nu, _, j, _, rfl, by rw [ej], SqL.of A0.hn, (by rw [List.getElem?_map, List.getElem?_eq_getElem jl]; rfl), by omega, _, _, rfl, rfl, nu, _, _, j, rfl, rfl, A0.hn, (by rw [List.length_map, ej]; exact ix_n jl), ?_⟩
  have ei : (ms.map V.int).set j (.int (ms[j] + 1)) = (inc ms me).map V.int := by
    unfold inc
    rw [eg, ej, List.map_set]
    rfl
  rw [ei]
  have c1 : ChgS [q, nu] H (upd H nu (.lst ((inc ms me).map V.int))) := ChgS.refl.put (by simp)
  have A1 : CalAt (upd H nu (.lst ((inc ms me).map V.int))) C q dx me st rnd ro nu key bg pl rs (inc ms me) ps := ⟨(upd_ne (ne_of A0.hp A0.hn (by intro z; cases z))).trans A0.hp, (upd_ne rn).trans A0.hr, upd_same, (upd_ne (ne_of A0.hpl A0.hn (by intro z; cases z))).trans A0.hpl⟩
  obtain ⟨H1, e1⟩ : ∃ H1, H1 = upd H nu (.lst ((inc ms me).map V.int)) := ⟨_, rfl⟩
  rw [← e1] at c1 A1
  rw [← e1]
  refine ⟨_, rfl, q, C, dx, _, _, rfl, A1.hp, S.cl, S.key, caF_key _ _ _ _ _ _ _ _ _, rfl, _, rfl, ?_⟩
  rcases two with ⟨⟨a, rfl⟩, k⟩ | ⟨rfl, k⟩
  · refine iteT' (by rw [dec_refn]; rfl) ?_
    refine ⟨_, rfl, q, C, dx, _, rfl, A1.hp, S.cl, S.state, (by show 9 < 1000; decide), ?_⟩
    rw [caF_put_stt]
    have cq : Chg q H1 (upd H1 q (.ins C dx (caF me "in" false rnd ro nu (.ref a) bg pl))) := Chg.self
    have A2 : CalAt (upd H1 q (.ins C dx (caF me "in" false rnd ro nu (.ref a) bg pl))) C q dx me "in" rnd ro nu (.ref a) bg pl rs (inc ms me) ps := ⟨upd_same, cq _ _ (ne_of A1.hr A1.hp (by intro z; cases z)) A1.hr, cq _ _ (ne_of A1.hn A1.hp (by intro z; cases z)) A1.hn, cq _ _ (ne_of A1.hpl A1.hp (by intro z; cases z)) A1.hpl⟩
    have c2 : ChgS [q, nu] H (upd H1 q (.ins C dx (caF me "in" false rnd ro nu (.ref a) bg pl))) := c1.put (by simp)
    obtain ⟨H2, e2⟩ : ∃ H2, H2 = upd H1 q (.ins C dx (caF me "in" false rnd ro nu (.ref a) bg pl)) := ⟨_, rfl⟩
    rw [← e2] at c2 A2
    rw [← e2]
    exact ⟨Nat.zero_le _, fun z hz => k z _ (c2.new hz) (c2.back hz (nin2 A2.hp A2.hn hz)) (A2.same (same_upd hz)) upd_same⟩
  · refine iteF' rfl ?_
    refine ⟨_, rfl, q, C, dx, _, rfl, A1.hp, S.cl, S.state, (by show 9 < 1000; decide), ?_⟩
    rw [caF_put_stt]
    have cq : Chg q H1 (upd H1 q (.ins C dx (caF me "asking" false rnd ro nu (.non) bg pl))) := Chg.self
    have A2 : CalAt (upd H1 q (.ins C dx (caF me "asking" false rnd ro nu (.non) bg pl))) C q dx me "asking" rnd ro nu (.non) bg pl rs (inc ms me) ps := ⟨upd_same, cq _ _ (ne_of A1.hr A1.hp (by intro z; cases z)) A1.hr, cq _ _ (ne_of A1.hn A1.hp (by intro z; cases z)) A1.hn, cq _ _ (ne_of A1.hpl A1.hp (by intro z; cases z)) A1.hpl⟩
    have c2 : ChgS [q, nu] H (upd H1 q (.ins C dx (caF me "asking" false rnd ro nu (.non) bg pl))) := c1.put (by simp)
    obtain ⟨H2, e2⟩ : ∃ H2, H2 = upd H1 q (.ins C dx (caF me "asking" false rnd ro nu (.non) bg pl)) := ⟨_, rfl⟩
    rw [← e2] at c2 A2
    rw [← e2]
    refine ⟨_, rfl, q, dx, _, rfl, A2.hp, (A2.no "_to_others").2, _, rfl, q, C, dx, _, _, rfl, A2.hp, S.cl, S.numbers, caF_nms _ _ _ _ _ _ _ _ _, _, rfl, q, C, dx, _, _, rfl, A2.hp, S.cl, S.me, caF_me _ _ _ _ _ _ _ _ _, nu, _, _, .int (ms.getD me.toNat 0 + 1), rfl, rfl, SqL.of A2.hn, ?_, ?_⟩
    · rw [at_ms h0 (by unfold inc; rw [List.length_set]; exact h1)]
      unfold inc
      rw [eg, ej, show ((j : Int)).toNat = j from rfl, List.getD_eq_getElem?_getD, List.getElem?_set_self jl]
      rfl
    refine ⟨by show 2 ≤ sizeLine; decide, fun t ht => ?_⟩
    have s3 := same_upd (o := .tup [.str "ask", .int (ms.getD me.toNat 0 + 1)]) ht
    exact ⟨q, dx, t, ro, nu, pl, me, rnd, "asking", .non, bg, rs, inc ms me, ps, askD (ms.getD me.toNat 0 + 1), rfl, A2.same s3, .tup (SqT.of upd_same) (.cons (.str _) (.cons (.int _) .nil)), by simp [askD, noL, noLs], l60, fun l zs H' s' hl kl dz => k l zs H' (c2.trans (Same.s (s3.trans s'))) (c2.back (s3.free hl) (nin2 A2.hp A2.hn (s3.free hl))) ((A2.same s3).same s') kl dz⟩
end

end G0
namespace G0
open PySem PySem.Spec PyProof.Rows L2 NdefX ClX
section
variable {P : Program} {w : World} {K : PySem.W.Frag} {mg : Str → Option Value} {base : Heap} {C CK f : Addr} {fd : FuncData}
/-! ### a key out of a letter -/
/-- {k: v for .. in xs}, xs a tuple -/
theorem dc_tup {K : PySem.W.Frag} {a : Addr} {xs : List V} {g : TG} {tt : TT} {tk tv : TE} {vs : List Nat} {σ : L2.St} {H1 : Hp} {D : Addr} {Qd : Hp → Prop} (Pv : Nat → Hp → Prop) (start : Pv 0 (upd H1 D (.dK []))) (stays : ∀ i G, Pv i G → SqT K G a xs)
    (step : ∀ i x G, xs[i]? = some x → Pv i G → g x (wipe σ vs) G fun σ2 H2 => wipe σ2 vs = wipe σ vs ∧ tt σ2 H2 fun b H3 =>
      if b = true then tk σ2 H3 fun y H4 => tv σ2 H4 fun z H5 => ∃ kvs k, y = kV k ∧ H5 D = some (.dK kvs) ∧ kvs.length < sizeLine ∧ Pv (i + 1) (upd H5 D (.dK (putK kvs k z))) else Pv (i + 1) H3) (fin : ∀ G, Pv xs.length G → Qd G) :
    ∃ W : Nat → Nat → Hp → Prop, (∃ m, W 0 m (upd H1 D (.dK []))) ∧ ∀ i m G, W i m G →
      ((Itt K a).stop i G ∧ Qd G) ∨ ((Itt K a).go i G ∧ ∃ Nx : Hp → Prop, (∀ G', Nx G' → ∃ m', m' < m ∧ W (i + 1) m' G') ∧ ∀ x G', (Itt K a).yld i G x G' → g x (wipe σ vs) G' fun σ2 H2 => wipe σ2 vs = wipe σ vs ∧ tt σ2 H2 fun b H3 =>
        if b = true then tk σ2 H3 fun y H4 => tv σ2 H4 fun z H5 => ∃ kvs k, y = kV k ∧ H5 D = some (.dK kvs) ∧ kvs.length < sizeLine ∧ Nx (upd H5 D (.dK (putK kvs k z))) else Nx H3) := by
  refine ⟨fun i m G => m + i = xs.length ∧ Pv i G, ⟨xs.length, rfl, start⟩, ?_⟩
  rintro i m G ⟨e, p⟩
  have sq := stays i G p
  rcases Nat.lt_or_ge i xs.length with lt | ge
  · refine .inr ⟨⟨xs, xs[i], sq, List.getElem?_eq_getElem lt⟩, Pv (i + 1), fun G' p' => ⟨m - 1, by omega, by omega, p'⟩, fun x G' told => ?_⟩
    obtain ⟨rfl, y⟩ := told
    exact step i x G' (y xs sq) p
  · have e' : i = xs.length := by omega
    subst e'
    exact .inl ⟨⟨xs, sq, Nat.le_refl _⟩, fin G p⟩
def spKInitT (K : PySem.W.Frag) (CK : Addr) : Sp := fun vs H Q _ => ∃ (p dx sv ln : Addr) (r : Int) (ys : List V) (S : List (Int × Int)) (ns : List Int), vs = [.ref p, .int r, .ref sv, .ref ln] ∧ H p = some (.ins CK dx []) ∧ SqT K H sv ys ∧ DpAll K H ys (S.map pairD) ∧ SqT K H ln (ns.map V.int) ∧
  (S.map (·.1)).Nodup ∧ S.length ≤ 60 ∧ ns.length ≤ 1000 ∧ ∀ d l H', H d = none → H l = none → d ≠ p → l ≠ p → d ≠ l → Chg p H H' → KeyAt H' CK p dx r d l S ns → Q .non H'
theorem ok_kinitT (F : Fun K "__init__" "Key.__init__" s_Key__init f fd) (hL : mg "list" = none) (T : KeyT K CK) : FnOk P w K mg base CX0 1 f fd ["self", "of_round", "served", "line"] (spKInitT K CK) := by
  refine F.ok sc_Key__init (fun vs H Q E h => ?_) (fun cdv A outer s H vs Q E hr h => ?_)
  · obtain ⟨p, dx, sv, ln, r, ys, S, ns, rfl, _⟩ := h
    rfl
  obtain ⟨p, dx, sv, ln, r, ys, S, ns, rfl, hp, qS, dS, qL, nd, l60, l2, q⟩ := h
  refine ⟨_, (pss_cons (ps_fld (pv 0) (pv 1) rfl)
    (pss_cons (ps_fld (pv 0) (pe_dc (own := [("member", 4), ("number", 5)]) (g := gTup K 2 (gCons (gName 4) (gCons (gName 5) gNil))) (tt := tYes) (by rfl) sc_Key__init.nd (pi_tup (pv 2)) (blkOk_by (N := ["self", "of_round", "served", "line", "member", "number"]) (sc := defScope s_Key__init) (by decide +kernel)) (fun _ _ _ _ _ => pg_tup (by rfl) (pgs_cons (pg_name (i := 4) sc_Key__init.nd rfl (Or.inl rfl)) (pgs_cons (pg_name (i := 5) sc_Key__init.nd rfl (Or.inl rfl)) pgs_nil))) (fun _ _ _ _ _ => pts_nil) (fun _ _ _ _ _ => (pv 4)) (fun _ _ _ _ _ => (pv 5))) rfl)
    (pss_one (ps_fld (pv 0) (pe_callTy call_list_of (by rfl) hL (by decide +kernel) (pa_cons (pv 3) pa_nil)) rfl)))), ?_⟩
  refine ⟨_, rfl, _, rfl, p, CK, dx, _, rfl, hp, T.cl, T.round, (by show 0 < 1000; decide), ?_⟩
  obtain ⟨H1, e1⟩ : ∃ H1, H1 = upd H p (.ins CK dx (putF "round" (.int r) [])) := ⟨_, rfl⟩
  have c1 : Chg p H H1 := by rw [e1]; exact Chg.self
  have hp1 : H1 p = some (.ins CK dx (putF "round" (.int r) [])) := by rw [e1]; exact upd_same
  rw [← e1]
  have qS1 := sqt_chgI hp c1 qS
  have dS1 := dps_chgI hp c1 _ _ dS
  have lS : ys.length = S.length := by rw [dps_len dS, List.length_map]
  refine ⟨_, rfl, sv, rfl, ⟨_, qS1⟩, fun D hD => ?_⟩
  refine dc_tup (K := K) (a := sv) (xs := ys) (fun i G => Same H1 G ∧ G D = some (.dK ((S.take i).map entI))) ⟨same_upd hD, upd_same⟩ (fun i G h => sqt_same h.1 qS1) ?_ ?_
  · rintro i x G hx ⟨sG, kD⟩
    obtain ⟨pr, er, dp⟩ := dps_at' dS1 hx
    have li := (List.getElem?_eq_some_iff.mp er).1
    obtain ⟨t, v1, v2, rfl, qt, d1, d2⟩ := two_dp dp
    cases d1
    cases d2
    refine ⟨t, _, rfl, sqt_same sG qt, rfl, _, _, rfl, _, _, rfl, rfl, rfl, yes_ite ?_⟩
    refine ⟨_, rfl, _, rfl, _, Sum.inl pr.1, rfl, kD, ?_, fun b o e => ?_, ?_⟩
    · rw [List.length_map]
      refine Nat.lt_of_le_of_lt (List.length_take_le _ _) (Nat.lt_of_lt_of_le (show i < 100 by omega) (by decide))
    · rw [upd_ne (ne_of_none e hD)]
      exact sG _ _ e
    · have nin : pr.1 ∉ (S.take i).map (·.1) := fun z => by
        rw [List.map_take] at z
        obtain ⟨j, lj, ej⟩ := List.mem_take_iff_getElem.mp z
        have lj' : j < i := by omega
        have h2 : (S.map (·.1))[i]? = some pr.1 := by rw [List.getElem?_map, er]; rfl
        have h1 : (S.map (·.1))[j]? = some pr.1 := by rw [List.getElem?_eq_getElem (by omega), ej]
        have := (List.getElem?_inj (by rw [List.length_map]; omega) nd).mp (h1.trans h2.symm)
        omega
      rw [putK_new _ (ent_none nin), List.take_succ, er, List.map_append]
      exact upd_same
  rintro G ⟨sG, kD⟩
  rw [lS, List.take_length] at kD
  have hpG := sG _ _ hp1
  have Dp : D ≠ p := (ne_of_none hp1 hD).symm
  refine ⟨_, rfl, p, CK, dx, _, rfl, hpG, T.cl, T.served, (by show 1 < 1000; decide), ?_⟩
  obtain ⟨H2, e2⟩ : ∃ H2, H2 = upd G p (.ins CK dx (putF "_served" (.ref D) (putF "round" (.int r) []))) := ⟨_, rfl⟩
  rw [← e2]
  have c2 : Chg p H H2 := fun b o nb e => by
    rw [e2, upd_ne nb]
    exact sG _ _ (c1 _ _ nb e)
  have hp2 : H2 p = some (.ins CK dx (putF "_served" (.ref D) (putF "round" (.int r) []))) := by rw [e2]; exact upd_same
  have kD2 : H2 D = some (.dK (S.map entI)) := by rw [e2, upd_ne Dp]; exact kD
  refine ⟨_, rfl, ln, _, rfl, .inr (sqt_chgI hp c2 qL), fun l hl => ?_⟩
  have lp : l ≠ p := (ne_of_none hp2 hl).symm
  have lD : D ≠ l := ne_of_none kD2 hl
  refine ⟨_, rfl, p, CK, dx, _, rfl, (upd_ne lp.symm).trans hp2, T.cl, T.line, (by show 2 < 1000; decide), ?_⟩
  rw [keF_made0]
  have back : ∀ {x : Addr}, x ≠ p → H2 x = none → H x = none := fun n h => by
    cases z : H _ with
    | none => rfl
    | some o => rw [c2 _ _ n z] at h; cases h
  have D0 : H D = none := by
    cases z : H D with
    | none => rfl
    | some o => rw [c1 _ _ Dp z] at hD; cases hD
  refine q D l _ D0 (back lp hl) Dp lp lD (fun b o nb e => ?_) ⟨upd_same, ?_, ?_, nd, l60, l2⟩
  · rw [upd_ne nb, upd_ne (ne_of_none (c2 _ _ nb e) hl)]
    exact c2 _ _ nb e
  · rw [upd_ne Dp, upd_ne lD]; exact kD2
  · rw [upd_ne lp]; exact upd_same
/-! ### a key is heard -/
def spHearKey (K : PySem.W.Frag) (C CK : Addr) : Sp := fun vs H Q _ => ∃ (q dx lt ro nu pl u v : Addr) (me rnd r : Int) (st : Str) (key bg : V) (rs ms ns : List Int) (ps : List (Key × V)) (S : List (Int × Int)) (ys : List V), vs = [.ref q, .ref lt] ∧ CalAt H C q dx me st rnd ro nu key bg pl rs ms ps ∧
  SqT K H lt [.str "key", .int r, .ref u, .ref v] ∧ SqT K H u ys ∧ DpAll K H ys (S.map pairD) ∧ SqT K H v (ns.map V.int) ∧ rnd ≤ r ∧ (S.map (·.1)).Nodup ∧ S.length ≤ 60 ∧ ns.length ≤ 1000 ∧
  ∀ k dk d l z H', ChgS [q] H H' → H k = none → H d = none → H l = none → H z = none → k ≠ d → k ≠ l → d ≠ l → z ≠ l → CalAt H' C q dx me "in" rnd ro nu (.ref k) bg pl rs ms ps → KeyAt H' CK k dk r d l S ns → H' z = some (.lst []) → Q (.ref z) H'
theorem sc_Caller_hear_key : FnScope ["self", "letter"] ["self", "letter"] (defScope s_Caller_hear_key) :=
  ⟨rfl, rfl, rfl, by decide +kernel, rfl, by decide +kernel, by decide +kernel⟩
theorem ok_hearkey {fK : Addr} {fdK : FuncData} (F : Fun K "_hear_key" "Caller._hear_key" s_Caller_hear_key f fd) (S : CalT K C) (KKm : Mk K CK fK) (GK : FnOk P w K mg base CX0 1 fK fdK ["self", "of_round", "served", "line"] (spKInitT K CK)) (bK : Binds K fdK ["self", "of_round", "served", "line"] []) (gK : mg "Key" = some (.ref CK)) :
    FnOk P w K mg base CX0 3 f fd ["self", "letter"] (spHearKey K C CK) := by
  refine F.ok sc_Caller_hear_key (fun vs H Q E h => ?_) (fun cdv A outer s H vs Q E hr h => ?_)
  · obtain ⟨q, _, _, _, _, _, _, _, _, _, _, _, _, _, _, _, _, _, _, _, rfl, _⟩ := h
    rfl
  obtain ⟨q, dx, lt, ro, nu, pl, u, v, me, rnd, r, st, key, bg, rs, ms, ns, ps, SS, ys, rfl, A0, hl, hu, du, hv, le, nd, l60, l1, k⟩ := h
  refine ⟨_, (pss_cons (ps_if (pt_cmpR op_ge (pe_ix ix_tup (pv 1) pe_int (fun _ _ => rfl)) (pe_fld (pv 0) (by rfl)) (nomark _))
    (pss_cons (ps_fld (pv 0) (pe_make KKm GK hr (by rfl) gK bK .nil pass0 (pa_cons (pe_ix ix_tup (pv 1) pe_int (fun _ _ => rfl)) (pa_cons (pe_ix ix_tup (pv 1) pe_int (fun _ _ => rfl)) (pa_cons (pe_ix ix_tup (pv 1) pe_int (fun _ _ => rfl)) pa_nil)))) rfl)
    (pss_one (ps_fld (pv 0) pe_str rfl)))
    pss_nil)
    (pss_one (ps_ret (pe_lst pa_nil)))), ?_⟩
  refine ⟨_, rfl, lt, _, _, _, rfl, rfl, hl, atI_nat (j := 1) rfl, _, rfl, q, C, dx, _, _, rfl, A0.hp, S.cl, S.round, caF_rnd _ _ _ _ _ _ _ _ _, _, _, rfl, rfl, _, rfl, iteT' (decide_eq_true le) ?_⟩
  refine ⟨_, rfl, lt, _, _, _, rfl, rfl, hl, atI_nat (j := 1) rfl, _, rfl, lt, _, _, _, rfl, rfl, hl, atI_nat (j := 2) rfl, _, rfl, lt, _, _, _, rfl, rfl, hl, atI_nat (j := 3) rfl, fun y dy hy hdy ne => ?_⟩
  have sy := (same_upd (o := .own y) hdy).trans (same_upd (o := .ins CK dy []) (by rw [upd_ne ne.symm]; exact hy))
  refine ⟨y, dy, u, v, r, ys, SS, ns, rfl, upd_same, sqt_same sy hu, dps_same sy _ _ du, sqt_same sy hv, nd, l60, l1, fun d l H1 hd hl1 n1 n2 n3 c1 K1 => ⟨rfl, ?_⟩⟩
  have s1 : Same H H1 := fun b o e => c1 _ _ (ne_of_none e hy) (sy _ _ e)
  have A1 := A0.same s1
  have d0 := sy.free hd
  have l0 := sy.free hl1
  have qy : q ≠ y := ne_of_none A0.hp hy
  refine ⟨_, rfl, q, C, dx, _, rfl, A1.hp, S.cl, S.key, (by show 9 < 1000; decide), ?_⟩
  rw [caF_put_key]
  refine ⟨_, rfl, q, C, dx, _, rfl, upd_same, S.cl, S.state, (by show 9 < 1000; decide), ?_⟩
  rw [upd_upd, caF_put_stt]
  have cq : Chg q H1 (upd H1 q (.ins C dx (caF me "in" false rnd ro nu (.ref y) bg pl))) := Chg.self
  have A2 : CalAt (upd H1 q (.ins C dx (caF me "in" false rnd ro nu (.ref y) bg pl))) C q dx me "in" rnd ro nu (.ref y) bg pl rs ms ps := ⟨upd_same, cq _ _ (ne_of A1.hr A1.hp (by intro z; cases z)) A1.hr, cq _ _ (ne_of A1.hn A1.hp (by intro z; cases z)) A1.hn, cq _ _ (ne_of A1.hpl A1.hp (by intro z; cases z)) A1.hpl⟩
  have K2 := K1.chg A1.hp qy.symm cq
  have c2 : ChgS [q] H (upd H1 q (.ins C dx (caF me "in" false rnd ro nu (.ref y) bg pl))) := (Same.s s1).put (by simp)
  refine ⟨Nat.zero_le _, fun z hz => ?_⟩
  exact k y dy d l z _ (c2.new hz) hy d0 l0 (c2.back hz (nin1 A2.hp hz)) n1.symm n2.symm n3 (ne_of_none K2.hl hz).symm (A2.same (same_upd hz)) (K2.same (same_upd hz)) upd_same
/-! ### it leaves -/
def spLeaveC (K : PySem.W.Frag) (C CK : Addr) : Sp := fun vs H Q _ => ∃ (q dx k dk ro nu pl d l : Addr) (me rnd r : Int) (st : Str) (bg : V) (rs ms ns : List Int) (ps : List (Key × V)) (S : List (Int × Int)), vs = [.ref q] ∧ CalAt H C q dx me st rnd ro nu (.ref k) bg pl rs ms ps ∧ KeyAt H CK k dk r d l S ns ∧ d ≠ pl ∧
  me ∈ S.map (·.1) ∧ 0 ≤ me ∧ me < ms.length ∧ rs.Nodup ∧ (∀ m ∈ rs, 0 ≤ m ∧ m < ms.length) ∧ rs.length ≤ 60 ∧ ns.length ≤ 500 ∧
  HandK K C CK H Q [q, k, d] q dx k dk ro nu pl d me rnd r "out" bg rs ms ps (srvS S me (ms.getD me.toNat 0)) (lineUp me rs ms (srvS S me (ms.getD me.toNat 0)) ns)
theorem sc_Caller_leave : FnScope ["self"] ["self"] (defScope s_Caller_leave) :=
  ⟨rfl, rfl, rfl, by decide +kernel, rfl, by decide +kernel, by decide +kernel⟩
theorem ok_leaveC (F : Fun K "leave" "Caller.leave" s_Caller_leave f fd) (S : CalT K C) (KT : KeyT K CK) (MS : Me P w K mg base CK "serve" 1 ["self", "member", "number"] (spServe CK)) (MH : Me P w K mg base C "_hand_on" 3 ["self"] (spHandOn K C CK)) :
    FnOk P w K mg base CX0 4 f fd ["self"] (spLeaveC K C CK) := by
  obtain ⟨fS, fdS, GS, bS, mS⟩ := MS
  obtain ⟨fH, fdH, GH, bH, mH⟩ := MH
  refine F.ok sc_Caller_leave (fun vs H Q E h => ?_) (fun cdv A outer s H vs Q E hr h => ?_)
  · obtain ⟨q, _, _, _, _, _, _, _, _, _, _, _, _, _, _, _, _, _, _, rfl, _⟩ := h
    rfl
  obtain ⟨q, dx, k, dk, ro, nu, pl, d, l, me, rnd, r, st, bg, rs, ms, ns, ps, SS, rfl, A0, K0, dpl, mS', h0, h1, nd, bnd, l60, l500, HK⟩ := h
  have hr1 : Room 1 _ := hr.mono (by decide)
  refine ⟨_, (pss_cons (ps_fld (pv 0) pe_str rfl)
    (pss_cons (ps_expr (pe_meth (pe_fld (pv 0) (by rfl)) KT.cl mS GS hr1 bS .nil pass0 (pa_cons (pe_fld (pv 0) (by rfl)) (pa_cons (pe_ix ix_list (pe_fld (pv 0) (by rfl)) (pe_fld (pv 0) (by rfl)) (fun _ _ => rfl)) pa_nil))))
    (pss_one (ps_ret (pe_meth0 (pv 0) S.cl mH GH hr bH .nil pass0))))), ?_⟩
  have qk := ca_ne_ke A0.hp K0.hp
  refine ⟨_, rfl, q, C, dx, _, rfl, A0.hp, S.cl, S.state, (by show 9 < 1000; decide), ?_⟩
  rw [caF_put_stt]
  have cq : Chg q H (upd H q (.ins C dx (caF me "out" false rnd ro nu (.ref k) bg pl))) := Chg.self
  have A1 : CalAt (upd H q (.ins C dx (caF me "out" false rnd ro nu (.ref k) bg pl))) C q dx me "out" rnd ro nu (.ref k) bg pl rs ms ps := ⟨upd_same, cq _ _ (ne_of A0.hr A0.hp (by intro z; cases z)) A0.hr, cq _ _ (ne_of A0.hn A0.hp (by intro z; cases z)) A0.hn, cq _ _ (ne_of A0.hpl A0.hp (by intro z; cases z)) A0.hpl⟩
  have K1 := K0.chg A0.hp qk.symm cq
  have c1 : ChgS [q, d] H (upd H q (.ins C dx (caF me "out" false rnd ro nu (.ref k) bg pl))) := ChgS.refl.put (by simp)
  obtain ⟨H1, e1⟩ : ∃ H1, H1 = upd H q (.ins C dx (caF me "out" false rnd ro nu (.ref k) bg pl)) := ⟨_, rfl⟩
  rw [← e1] at A1 K1 c1
  rw [← e1]
  obtain ⟨nv, env⟩ : ∃ nv, nv = ms.getD me.toNat 0 := ⟨_, rfl⟩
  have att := at_ms h0 h1
  rw [← env] at att HK
  refine ⟨_, rfl, q, C, dx, _, _, rfl, A1.hp, S.cl, S.key, caF_key _ _ _ _ _ _ _ _ _, k, dk, _, rfl, K1.hp, keF_no _ _ _ (by decide +kernel) (by decide +kernel) (by decide +kernel), _, rfl, q, C, dx, _, _, rfl, A1.hp, S.cl, S.me, caF_me _ _ _ _ _ _ _ _ _, _, rfl, q, C, dx, _, _, rfl, A1.hp, S.cl, S.numbers, caF_nms _ _ _ _ _ _ _ _ _, _, rfl, q, C, dx, _, _, rfl, A1.hp, S.cl, S.me, caF_me _ _ _ _ _ _ _ _ _, nu, _, _, _, rfl, rfl, SqL.of A1.hn, att, k, dk, r, me, nv, d, l, SS, ns, rfl, K1, mS', ?_⟩
  have kk : ∀ {a : Addr} {o : HO}, H1 a = some o → (∀ kvs, o ≠ .dK kvs) → upd H1 d (.dK ((srvS SS me nv).map entI)) a = some o := fun e n => (upd_ne (fun z => by rw [z, K1.hd] at e; exact n _ (Option.some.inj e).symm)).trans e
  have A2 : CalAt (upd H1 d (.dK ((srvS SS me nv).map entI))) C q dx me "out" rnd ro nu (.ref k) bg pl rs ms ps := ⟨kk A1.hp (fun _ z => nomatch z), kk A1.hr (fun _ z => nomatch z), kk A1.hn (fun _ z => nomatch z), (upd_ne dpl.symm).trans A1.hpl⟩
  have K2 : KeyAt (upd H1 d (.dK ((srvS SS me nv).map entI))) CK k dk r d l (srvS SS me nv) ns := ⟨kk K1.hp (fun _ z => nomatch z), upd_same, kk K1.hl (fun _ z => nomatch z), by rw [srvS_fst]; exact K1.nd, by unfold srvS; rw [List.length_map]; exact K1.few, K1.few2⟩
  have c2 : ChgS [q, d] H (upd H1 d (.dK ((srvS SS me nv).map entI))) := c1.put (by simp)
  obtain ⟨H2, e2⟩ : ∃ H2, H2 = upd H1 d (.dK ((srvS SS me nv).map entI)) := ⟨_, rfl⟩
  rw [← e2] at A2 K2 c2
  rw [← e2]
  exact ⟨_, rfl, q, dx, _, rfl, A2.hp, (A2.no "_hand_on").2, q, dx, k, dk, ro, nu, pl, d, l, me, rnd, r, "out", bg, rs, ms, ns, ps, srvS SS me nv, rfl, A2, K2, nd, bnd, l60, l500, HK.from c2 (by simp) (by simp) (fun a ha => by
    rcases List.mem_cons.mp ha with z | z
    · rw [z, A2.hp]; exact fun z => nomatch z
    · rw [List.mem_singleton.mp z, K2.hd]; exact fun z => nomatch z)⟩
end

end G0
namespace G0
open PySem PySem.Spec PyProof.Rows L2 NdefX ClX
/-! ### numbers by seat -/
def msF (n : Int) (f : Int → Int) : List Int := (rangeI n).map f
def sF (n : Int) (g : Int → Int) : List (Int × Int) := (rangeI n).map fun m => (m, g m)
theorem rangeI_at {n : Int} {j : Nat} (h : (j : Int) < n) : (rangeI n)[j]? = some (j : Int) := by
  unfold rangeI
  rw [List.getElem?_map, List.getElem?_range (by omega)]
  rfl
theorem rangeI_mem {n m : Int} : m ∈ rangeI n ↔ 0 ≤ m ∧ m < n := by
  unfold rangeI
  rw [List.mem_map]
  constructor
  · rintro ⟨x, hx, rfl⟩
    have := List.mem_range.mp hx
    omega
  · rintro ⟨h0, h1⟩
    exact ⟨m.toNat, List.mem_range.mpr (by omega), by omega⟩
theorem msF_len {n : Int} {f : Int → Int} : (msF n f).length = n.toNat := by unfold msF; rw [List.length_map, rangeI_len]
theorem msF_get {n : Int} {f : Int → Int} {m : Int} (h0 : 0 ≤ m) (h1 : m < n) : (msF n f).getD m.toNat 0 = f m := by
  unfold msF
  rw [List.getD_eq_getElem?_getD, List.getElem?_map, rangeI_at (by omega)]
  show f ((m.toNat : Nat) : Int) = f m
  rw [show ((m.toNat : Nat) : Int) = m by omega]
def updI (f : Int → Int) (s v : Int) : Int → Int := fun m => if m = s then v else f m
theorem msF_set {n : Int} {f : Int → Int} {s v : Int} (h0 : 0 ≤ s) : (msF n f).set s.toNat v = msF n (updI f s v) := by
  unfold msF
  refine List.ext_getElem? fun i => ?_
  rw [List.getElem?_set, List.getElem?_map, List.getElem?_map, List.length_map]
  by_cases c : s.toNat = i
  · rw [if_pos c]
    by_cases l : s.toNat < (rangeI n).length
    · rw [if_pos l]
      rw [rangeI_len] at l
      rw [rangeI_at (by omega)]
      show some v = some (updI f s v (i : Int))
      unfold updI
      rw [if_pos (by omega)]
    · rw [if_neg l, List.getElem?_eq_none (by omega)]
      rfl
  · rw [if_neg c]
    cases e : (rangeI n)[i]? with
    | none => rfl
    | some x =>
      have li := (List.getElem?_eq_some_iff.mp e).1
      rw [rangeI_len] at li
      rw [rangeI_at (by omega)] at e
      cases e
      show some (f (i : Int)) = some (updI f s v (i : Int))
      unfold updI
      rw [if_neg (by omega)]
theorem learn_F {n : Int} {f : Int → Int} {s v : Int} (h0 : 0 ≤ s) (h1 : s < n) : learn (msF n f) s v = msF n (updI f s (if v > f s then v else f s)) := by
  unfold learn
  rw [msF_get h0 h1, msF_set h0]
theorem inc_F {n : Int} {f : Int → Int} {s : Int} (h0 : 0 ≤ s) (h1 : s < n) : inc (msF n f) s = msF n (updI f s (f s + 1)) := by
  unfold inc
  rw [msF_get h0 h1, msF_set h0]
theorem zeros_F {n : Int} : zeros n = msF n fun _ => 0 := by
  unfold zeros msF
  refine List.ext_getElem? fun i => ?_
  rw [List.getElem?_replicate, List.getElem?_map]
  by_cases c : i < n.toNat
  · rw [if_pos c, rangeI_at (by omega)]
    rfl
  · rw [if_neg c, List.getElem?_eq_none (by rw [rangeI_len]; omega)]
    rfl
theorem fresh_F {n : Int} : freshS n = sF n fun _ => 0 := rfl
theorem sF_fst {n : Int} {g : Int → Int} : (sF n g).map (·.1) = rangeI n := by
  unfold sF
  rw [List.map_map]
  exact List.map_id _
theorem sF_nd {n : Int} {g : Int → Int} : ((sF n g).map (·.1)).Nodup := by rw [sF_fst]; exact rangeI_nd n
theorem sF_len {n : Int} {g : Int → Int} : (sF n g).length = n.toNat := by unfold sF; rw [List.length_map, rangeI_len]
theorem srv_F {n : Int} {g : Int → Int} {s v : Int} : srvS (sF n g) s v = sF n (updI g s v) := by
  unfold srvS sF
  rw [List.map_map]
  refine List.map_congr_left fun m _ => ?_
  show (if m = s then (s, v) else (m, g m)) = (m, updI g s v m)
  unfold updI
  by_cases c : m = s
  · rw [if_pos c, if_pos c, c]
  · rw [if_neg c, if_neg c]
theorem due_F {n : Int} {g : Int → Int} {m v : Int} (h0 : 0 ≤ m) (h1 : m < n) : dueS (sF n g) m v = decide (g m < v) := by
  unfold dueS
  rw [ent_some (p := (m, g m)) sF_nd (by unfold sF; exact List.mem_map.mpr ⟨m, rangeI_mem.mpr ⟨h0, h1⟩, rfl⟩)]
theorem pair_eq {n : Int} {g : Int → Int} {S' : List (Int × Int)} (p : S'.Perm (sF n g)) (u : (S'.map (·.1)).Pairwise (· ≤ ·)) : S' = sF n g := by
  have p1 : (S'.map (·.1)).Perm (rangeI n) := by
    have := p.map (·.1)
    rw [sF_fst] at this
    exact this
  have r : (rangeI n).Pairwise (· ≤ ·) := by
    unfold rangeI
    exact List.pairwise_map.mpr (List.Pairwise.imp (fun h => by omega) List.pairwise_lt_range)
  have e : S'.map (·.1) = rangeI n := List.Perm.eq_of_pairwise (fun _ _ _ _ h1 h2 => Int.le_antisymm h1 h2) u r p1
  have each : ∀ q ∈ S', q = (q.1, g q.1) := fun q hq => by
    have := p.mem_iff.mp hq
    unfold sF at this
    obtain ⟨m, _, rfl⟩ := List.mem_map.mp this
    rfl
  unfold sF
  rw [← e, List.map_map]
  refine (List.map_id S').symm.trans (List.map_congr_left fun q hq => ?_)
  exact each q hq
/-! ### the order of a line -/
def rgI (a b : Int) : List Int := (List.range (b - a).toNat).map fun x : Nat => a + (x : Int)
theorem rgV_I {a b : Int} : rgV a b = (rgI a b).map V.int := by
  unfold rgV rgI
  rw [List.map_map]
  rfl
theorem rgI_mem {a b m : Int} : m ∈ rgI a b ↔ a ≤ m ∧ m < b := by
  unfold rgI
  rw [List.mem_map]
  constructor
  · rintro ⟨x, hx, rfl⟩
    have := List.mem_range.mp hx
    omega
  · rintro ⟨h0, h1⟩
    exact ⟨(m - a).toNat, List.mem_range.mpr (by omega), by omega⟩
theorem rgI_up {a b : Int} : (rgI a b).Pairwise (· < ·) := by
  unfold rgI
  exact List.pairwise_map.mpr (List.Pairwise.imp (fun h => by omega) List.pairwise_lt_range)
theorem rangeI_up {n : Int} : (rangeI n).Pairwise (· < ·) := by
  unfold rangeI
  exact List.pairwise_map.mpr (List.Pairwise.imp (fun h => by omega) List.pairwise_lt_range)
theorem up_ext {l m : List Int} (hl : l.Pairwise (· < ·)) (hm : m.Pairwise (· < ·)) (h : ∀ x, x ∈ l ↔ x ∈ m) : l = m := by
  have p : l.Perm m := (List.perm_ext_iff_of_nodup (hl.imp fun h => by omega) (hm.imp fun h => by omega)).mpr h
  exact List.Perm.eq_of_pairwise (fun a b _ _ (h1 : a ≤ b) h2 => Int.le_antisymm h1 h2) (hl.imp fun h => by omega) (hm.imp fun h => by omega) p
theorem ordR_range {n b : Int} (h0 : 0 ≤ b) (h1 : b < n) : ordR (rangeI n) b = rgI (b + 1) n ++ rgI 0 (b + 1) := by
  unfold ordR
  rw [up_ext (rangeI_up.filter _) rgI_up (m := rgI (b + 1) n) (fun x => by rw [List.mem_filter, rangeI_mem, rgI_mem, decide_eq_true_eq]; omega), up_ext (rangeI_up.filter _) rgI_up (m := rgI 0 (b + 1)) (fun x => by rw [List.mem_filter, rangeI_mem, rgI_mem, decide_eq_true_eq]; omega)]
/-- who is in `some`, from the one behind b on -/
def rndF (n b : Int) (p : Int → Bool) : List Int := (rgI (b + 1) n ++ rgI 0 (b + 1)).filter p
theorem rndF_mem {n b m : Int} {p : Int → Bool} (h0 : 0 ≤ b) (h1 : b < n) : m ∈ rndF n b p ↔ (0 ≤ m ∧ m < n) ∧ p m = true := by
  unfold rndF
  rw [List.mem_filter, List.mem_append, rgI_mem, rgI_mem]
  constructor
  · rintro ⟨h, hp⟩
    exact ⟨by omega, hp⟩
  · rintro ⟨h, hp⟩
    exact ⟨by omega, hp⟩
theorem lineUp_F {n b : Int} {f g : Int → Int} {ns : List Int} (h0 : 0 ≤ b) (h1 : b < n) (hn : ∀ m ∈ ns, 0 ≤ m ∧ m < n) : lineUp b (rangeI n) (msF n f) (sF n g) ns = ns ++ rndF n b fun m => !decide (m ∈ ns) && decide (g m < f m) := by
  have ek : keepL ns (rangeI n) = ns := by
    unfold keepL
    exact List.filter_eq_self.mpr fun m hm => decide_eq_true (rangeI_mem.mpr (hn m hm))
  unfold lineUp rndF
  rw [ek, ordR_range h0 h1]
  refine congrArg _ (List.filter_congr fun m hm => ?_)
  have mb : 0 ≤ m ∧ m < n := by
    rcases List.mem_append.mp hm with z | z <;> have := rgI_mem.mp z <;> omega
  rw [due_F mb.1 mb.2, msF_get mb.1 mb.2]
theorem lineUp_len {n b : Int} {p : Int → Bool} (h0 : 0 ≤ b) (h1 : b < n) (h2 : n ≤ 60) : (rndF n b p).length ≤ 60 := by
  unfold rndF
  refine Nat.le_trans (List.length_filter_le _ _) ?_
  rw [List.length_append]
  unfold rgI
  rw [List.length_map, List.length_map, List.length_range, List.length_range]
  omega

end G0
namespace G0
open PySem PySem.Spec PyProof.Rows L2 NdefX ClX
/-! data without lists stay where tuples do -/
mutual
theorem dp_kt {K : PySem.W.Frag} {H H' : Hp} (c : ∀ a xs, SqT K H a xs → SqT K H' a xs) : ∀ (d : PyData) (v : V), noL d = true → Dp K H v d → Dp K H' v d
  | .none, _, _, h => by cases h; exact .non
  | .bool _, _, _, h => by cases h; exact .bl _
  | .int _, _, _, h => by cases h; exact .int _
  | .str _, _, _, h => by cases h; exact .str _
  | .list _, _, n, _ => by simp [noL] at n
  | .dict _, _, n, _ => by simp [noL] at n
  | .tuple ds, _, n, h => by
    cases h with
    | tup hs ha => exact .tup (c _ _ hs) (dps_kt c ds _ (by simpa [noL] using n) ha)
theorem dps_kt {K : PySem.W.Frag} {H H' : Hp} (c : ∀ a xs, SqT K H a xs → SqT K H' a xs) : ∀ (ds : List PyData) (vs : List V), noLs ds = true → DpAll K H vs ds → DpAll K H' vs ds
  | [], _, _, h => by cases h; exact .nil
  | d :: ds, _, n, h => by
    simp only [noLs, Bool.and_eq_true] at n
    cases h with
    | cons h1 h2 => exact .cons (dp_kt c d _ n.1 h1) (dps_kt c ds _ n.2 h2)
end
theorem sqt_chgs {K : PySem.W.Frag} {S : List Addr} {H H' : Hp} (c : ChgS S H H') (w : ∀ a ∈ S, (∃ xs, H a = some (.lst xs)) ∨ (∃ kvs, H a = some (.dK kvs)) ∨ ∃ C d fs, H a = some (.ins C d fs)) : ∀ a xs, SqT K H a xs → SqT K H' a xs := fun a xs q => by
  have no : ∀ o, H a = some o → (∀ xs, o ≠ .lst xs) → (∀ kvs, o ≠ .dK kvs) → (∀ C d fs, o ≠ .ins C d fs) → a ∉ S := fun o e n1 n2 n3 m => by
    rcases w a m with ⟨xs, z⟩ | ⟨kvs, z⟩ | ⟨C, d, fs, z⟩
    · rw [z] at e; exact n1 _ (Option.some.inj e).symm
    · rw [z] at e; exact n2 _ (Option.some.inj e).symm
    · rw [z] at e; exact n3 _ _ _ (Option.some.inj e).symm
  rcases q with (z | ⟨o', z⟩) | z
  · exact .inl (.inl (c _ _ (no _ z (fun _ e => nomatch e) (fun _ e => nomatch e) (fun _ _ _ e => nomatch e)) z))
  · exact .inl (.inr ⟨o', c _ _ (no _ z (fun _ e => nomatch e) (fun _ e => nomatch e) (fun _ _ _ e => nomatch e)) z⟩)
  · exact .inr z
theorem eq_bl {b : Bool} (h : b = true) : (!b) = false := by rw [h]; rfl
theorem shaped_by {d : PyData} (h1 : d.canLay0 = true) (h2 : d.depth ≤ 64) : SeqAt.shaped d = true := by
  show (d.canLay0 && decide (d.depth ≤ 64)) = true
  simp [h1, h2]
theorem lay_tos {d : PyData} (h : d.canLay0 = true) : ∀ l : List Int, PyData.canLayAll0 (l.map (toD d)) = true
  | [] => by simp [PyData.canLayAll0]
  | x :: l => by simp [PyData.canLayAll0, PyData.canLay0, toD, h, lay_tos h l]
theorem deep_tos {d : PyData} : ∀ l : List Int, PyData.depthAll (l.map (toD d)) ≤ d.depth + 1
  | [] => by simp [PyData.depthAll]
  | x :: l => by
    have := deep_tos (d := d) l
    simp [PyData.depthAll, PyData.depth, toD]
    omega
theorem shaped_tos {d : PyData} (h : d.canLay0 = true) (h2 : d.depth ≤ 60) (l : List Int) : SeqAt.shaped (.list (l.map (toD d))) = true := by
  refine shaped_by (by simp [PyData.canLay0, lay_tos h l]) ?_
  have := deep_tos (d := d) l
  simp [PyData.depth]
  omega
theorem lay_ask (n : Int) : (askD n).canLay0 = true := by
  simp [askD, PyData.canLay0, PyData.canLayAll0]
  decide +kernel
theorem deep_ask (n : Int) : (askD n).depth ≤ 60 := by simp [askD, PyData.depth, PyData.depthAll]
theorem lay_prs : ∀ S : List (Int × Int), PyData.canLayAll0 (S.map pairD) = true
  | [] => by simp [PyData.canLayAll0]
  | p :: S => by simp [PyData.canLayAll0, PyData.canLay0, pairD, lay_prs S]
theorem deep_prs : ∀ S : List (Int × Int), PyData.depthAll (S.map pairD) ≤ 1
  | [] => by simp [PyData.depthAll]
  | p :: S => by
    have := deep_prs S
    simp [PyData.depthAll, PyData.depth, pairD]
    omega
theorem lay_key (r : Int) (S : List (Int × Int)) (ns : List Int) : (keyD r S ns).canLay0 = true := by
  simp [keyD, PyData.canLay0, PyData.canLayAll0, lay_prs, lay_ints]
  decide +kernel
theorem deep_key (r : Int) (S : List (Int × Int)) (ns : List Int) : (keyD r S ns).depth ≤ 60 := by
  have := deep_prs S
  simp [keyD, PyData.depth, PyData.depthAll, deep_ints]
  omega
theorem shaped_told (r : Int) (S : List (Int × Int)) (ns : List Int) : SeqAt.shaped (toldD r S ns) = true := by
  have := deep_prs S
  refine shaped_by (by simp [toldD, PyData.canLay0, PyData.canLayAll0, lay_prs, lay_ints]) ?_
  simp [toldD, PyData.depth, PyData.depthAll, deep_ints]
  omega
theorem perm_up {S S' : List (Int × Int)} (p : S'.Perm S) (u : (S'.map (·.1)).Pairwise (· ≤ ·)) (v : (S.map (·.1)).Pairwise (· < ·)) : S' = S := by
  have nd : (S.map (·.1)).Nodup := v.imp fun h => by omega
  refine List.Perm.eq_of_pairwise (le := fun a b => a.1 ≤ b.1) (fun a b ha hb h1 h2 => ?_) (List.pairwise_map.mp u) ((List.pairwise_map.mp v).imp fun h => by omega) p
  have ha' := p.mem_iff.mp ha
  obtain ⟨i, hi⟩ := List.mem_iff_getElem?.mp ha'
  obtain ⟨j, hj⟩ := List.mem_iff_getElem?.mp hb
  have e : a.1 = b.1 := by omega
  have k1 : (S.map (·.1))[i]? = some a.1 := by rw [List.getElem?_map, hi]; rfl
  have k2 : (S.map (·.1))[j]? = some a.1 := by rw [List.getElem?_map, hj, e]; rfl
  have ij := (List.getElem?_inj (List.getElem?_eq_some_iff.mp k1).1 nd).mp (k1.trans k2.symm)
  rw [ij, hj] at hi
  exact (Option.some.inj hi).symm
section
variable {P : Program} {w : World} {K : PySem.W.Frag} {mg : Str → Option Value} {base : Heap} {C CK f : Addr} {fd : FuncData}
theorem keys_is {s : Int} : ∀ {kvs : List (Key × V)} {ps : List (Int × Int)}, kvs.map (·.1) = ps.map (fun p => Sum.inl p.1) → (valV kvs (Sum.inl s)).isSome = decide (s ∈ ps.map (·.1))
  | [], [], _ => rfl
  | [], _ :: _, e => by simp at e
  | _ :: _, [], e => by simp at e
  | (k, v) :: kvs, p :: ps, e => by
    rw [List.map_cons, List.map_cons] at e
    injection e with e1 e2
    have e1 : k = Sum.inl p.1 := e1
    subst e1
    by_cases c : p.1 = s
    · subst c
      rw [valV_pos rfl]
      simp
    · rw [valV_neg (fun e => c (Sum.inl.inj e)), keys_is e2]
      refine decide_eq_decide.mpr ?_
      rw [List.map_cons, List.mem_cons]
      exact ⟨.inr, fun h => h.resolve_left (fun z => c z.symm)⟩
/-! ### a caller in any state -/
structure KP where
  r : Int
  S : List (Int × Int)
  ns : List Int
structure Ad where
  o : Addr
  dx : Addr
  ro : Addr
  nu : Addr
  pl : Addr
  k : Addr
  dk : Addr
  d : Addr
  l : Addr
structure Cp where
  st : Str
  rnd : Int
  rs : List Int
  f : Int → Int
  key : Option KP
  bg : V
  ps : List (Int × Int × Int)
inductive PlG (K : PySem.W.Frag) (H : Hp) : List (Key × V) → List (Int × Int × Int) → Prop
  | nil : PlG K H [] []
  | cons {s v h : Int} {t : Addr} {kvs : List (Key × V)} {ps : List (Int × Int × Int)} : SqT K H t [.int v, .int h] → PlG K H kvs ps → PlG K H ((Sum.inl s, .ref t) :: kvs) ((s, v, h) :: ps)
theorem PlG.kt {H H' : Hp} (c : ∀ a xs, SqT K H a xs → SqT K H' a xs) : ∀ {kvs : List (Key × V)} {ps : List (Int × Int × Int)}, PlG K H kvs ps → PlG K H' kvs ps
  | _, _, .nil => .nil
  | _, _, .cons h t => .cons (c _ _ h) (t.kt c)
theorem PlG.same {H H' : Hp} {kvs : List (Key × V)} {ps : List (Int × Int × Int)} (h : PlG K H kvs ps) (s : Same H H') : PlG K H' kvs ps := h.kt fun _ _ q => sqt_same s q
theorem PlG.keys {H : Hp} : ∀ {kvs : List (Key × V)} {ps : List (Int × Int × Int)}, PlG K H kvs ps → kvs.map (·.1) = (ps.map fun p => (p.1, p.2.1)).map fun p => Sum.inl p.1
  | _, _, .nil => rfl
  | _, _, .cons _ t => by rw [List.map_cons, t.keys]; rfl
theorem PlG.len {H : Hp} {kvs : List (Key × V)} {ps : List (Int × Int × Int)} (h : PlG K H kvs ps) : kvs.length = ps.length := by
  have := congrArg List.length h.keys
  rwa [List.length_map, List.length_map, List.length_map] at this
theorem PlG.at_ {H : Hp} : ∀ {kvs : List (Key × V)} {ps : List (Int × Int × Int)}, PlG K H kvs ps → ∀ {i : Nat} {k : Key} {x : V}, kvs[i]? = some (k, x) → ∃ p t, ps[i]? = some p ∧ x = .ref t ∧ SqT K H t [.int p.2.1, .int p.2.2]
  | _, _, .nil, i, k, x, e => by simp at e
  | _, _, .cons q r, 0, k, x, e => by
    simp at e
    exact ⟨_, _, rfl, e.2.symm, q⟩
  | _, _, .cons q r, i + 1, k, x, e => r.at_ (by simpa using e)
/-- a pledge is put down -/
def putP (ps : List (Int × Int × Int)) (s v h : Int) : List (Int × Int × Int) := if s ∈ ps.map (·.1) then ps.map fun p => if p.1 = s then (s, v, h) else p else ps ++ [(s, v, h)]
theorem PlG.rep {H : Hp} {s v h : Int} {t : Addr} (q : SqT K H t [.int v, .int h]) : ∀ {kvs : List (Key × V)} {ps : List (Int × Int × Int)}, PlG K H kvs ps → PlG K H (kvs.map fun e => if e.1 = Sum.inl s then (e.1, V.ref t) else e) (ps.map fun p => if p.1 = s then (s, v, h) else p)
  | _, _, .nil => .nil
  | _, _, .cons (s := s') (kvs := kvs) (ps := ps) z r => by
    rw [List.map_cons, List.map_cons]
    by_cases c : s' = s
    · subst c
      rw [if_pos rfl, if_pos rfl]
      exact .cons q (r.rep q)
    · rw [if_neg (fun e => c (Sum.inl.inj e)), if_neg c]
      exact .cons z (r.rep q)
theorem PlG.snoc {H : Hp} {s v h : Int} {t : Addr} (q : SqT K H t [.int v, .int h]) : ∀ {kvs : List (Key × V)} {ps : List (Int × Int × Int)}, PlG K H kvs ps → PlG K H (kvs ++ [(Sum.inl s, .ref t)]) (ps ++ [(s, v, h)])
  | _, _, .nil => .cons q .nil
  | _, _, .cons h r => .cons h (r.snoc q)
theorem PlG.put {H : Hp} {s v h : Int} {t : Addr} (q : SqT K H t [.int v, .int h]) {kvs : List (Key × V)} {ps : List (Int × Int × Int)} (A : PlG K H kvs ps) : PlG K H (putK kvs (Sum.inl s) (.ref t)) (putP ps s v h) := by
  have is : (valV kvs (Sum.inl s)).isSome = decide (s ∈ (ps.map fun p => (p.1, p.2.1)).map (·.1)) := keys_is A.keys
  have em : (ps.map fun p => (p.1, p.2.1)).map (·.1) = ps.map (·.1) := by rw [List.map_map]; rfl
  rw [em] at is
  unfold putK putP
  rw [valV_any, is]
  by_cases c : s ∈ ps.map (·.1)
  · rw [if_pos (decide_eq_true c), if_pos c]
    exact A.rep q
  · rw [if_neg (by simpa using c), if_neg c]
    exact A.snoc q
theorem putP_len {ps : List (Int × Int × Int)} {s v h : Int} : (putP ps s v h).length ≤ ps.length + 1 := by
  unfold putP
  split
  · rw [List.length_map]; omega
  · rw [List.length_append]; exact Nat.le_refl _
def keyG (a : Ad) (p : Cp) : V := match p.key with | none => .non | some _ => .ref a.k
structure CgAt (K : PySem.W.Frag) (H : Hp) (C CK : Addr) (n i : Int) (a : Ad) (p : Cp) : Prop where
  at_ : ∃ kvs, CalAt H C a.o a.dx i p.st p.rnd a.ro a.nu (keyG a p) p.bg a.pl p.rs (msF n p.f) kvs ∧ PlG K H kvs p.ps
  key : ∀ y, p.key = some y → KeyAt H CK a.k a.dk y.r a.d a.l y.S y.ns ∧ a.d ≠ a.pl ∧ a.l ≠ a.nu ∧ a.l ≠ a.ro ∧ (y.S.map (·.1)).Pairwise (· < ·)
  rn : a.ro ≠ a.nu
def fpK (a : Ad) : Option KP → List Addr
  | none => []
  | some _ => [a.k, a.d, a.l]
def fpG (a : Ad) (p : Cp) : List Addr := [a.o, a.ro, a.nu, a.pl] ++ fpK a p.key
def MutO (H : Hp) (x : Addr) : Prop := (∃ xs, H x = some (.lst xs)) ∨ (∃ kvs, H x = some (.dK kvs)) ∨ ∃ C d fs, H x = some (.ins C d fs)
theorem CgAt.mut {H : Hp} {n i : Int} {a : Ad} {p : Cp} (A : CgAt K H C CK n i a p) : ∀ x ∈ fpG a p, MutO H x := fun x hx => by
  obtain ⟨kvs, B, _⟩ := A.at_
  unfold fpG at hx
  rcases List.mem_append.mp hx with hx | hx
  · simp only [List.mem_cons, List.not_mem_nil, or_false] at hx
    rcases hx with rfl | rfl | rfl | rfl
    · exact .inr (.inr ⟨_, _, _, B.hp⟩)
    · exact .inl ⟨_, B.hr⟩
    · exact .inl ⟨_, B.hn⟩
    · exact .inr (.inl ⟨_, B.hpl⟩)
  · cases e : p.key with
    | none => rw [e] at hx; exact absurd hx List.not_mem_nil
    | some y =>
      rw [e] at hx
      have KA := (A.key y e).1
      unfold fpK at hx
      simp only [List.mem_cons, List.not_mem_nil, or_false] at hx
      rcases hx with rfl | rfl | rfl
      · exact .inr (.inr ⟨_, _, _, KA.hp⟩)
      · exact .inr (.inl ⟨_, KA.hd⟩)
      · exact .inl ⟨_, KA.hl⟩
theorem CgAt.keep {H H' : Hp} {n i : Int} {a : Ad} {p : Cp} (A : CgAt K H C CK n i a p) (h : ∀ x ∈ fpG a p, ∀ o, H x = some o → H' x = some o) (t : ∀ x xs, SqT K H x xs → SqT K H' x xs) : CgAt K H' C CK n i a p := by
  obtain ⟨kvs, B, PL⟩ := A.at_
  refine ⟨⟨kvs, ⟨h _ (by simp [fpG]) _ B.hp, h _ (by simp [fpG]) _ B.hr, h _ (by simp [fpG]) _ B.hn, h _ (by simp [fpG]) _ B.hpl⟩, PL.kt t⟩, fun y e => ?_, A.rn⟩
  obtain ⟨KA, r⟩ := A.key y e
  exact ⟨{ KA with hp := h _ (by simp [fpG, e, fpK]) _ KA.hp, hd := h _ (by simp [fpG, e, fpK]) _ KA.hd, hl := h _ (by simp [fpG, e, fpK]) _ KA.hl }, r⟩
theorem CgAt.same {H H' : Hp} {n i : Int} {a : Ad} {p : Cp} (A : CgAt K H C CK n i a p) (s : Same H H') : CgAt K H' C CK n i a p := A.keep (fun x _ o e => s x o e) fun _ _ q => sqt_same s q
/-! ### a row of them -/
structure RowG (K : PySem.W.Frag) (H : Hp) (C CK L : Addr) (n : Int) (cs : List (Ad × Cp)) : Prop where
  at_ : H L = some (.lst ((cs.map (·.1.o)).map V.ref))
  len : cs.length = n.toNat
  all : ∀ (i : Nat) c, cs[i]? = some c → CgAt K H C CK n (i : Int) c.1 c.2
  dj : ∀ (i j : Nat) c c', cs[i]? = some c → cs[j]? = some c' → i ≠ j → ∀ x ∈ fpG c.1 c.2, x ∉ fpG c'.1 c'.2
  lf : ∀ c ∈ cs, L ∉ fpG c.1 c.2
/-- what stands outside of all stays, and stays outside -/
def StG (cs : List (Ad × Cp)) (H : Hp) (cs' : List (Ad × Cp)) (H' : Hp) : Prop := ∀ x o, H x = some o → (∀ c ∈ cs, x ∉ fpG c.1 c.2) → H' x = some o ∧ ∀ c ∈ cs', x ∉ fpG c.1 c.2
theorem StG.trans {cs cs1 cs2 : List (Ad × Cp)} {H H1 H2 : Hp} (a : StG cs H cs1 H1) (b : StG cs1 H1 cs2 H2) : StG cs H cs2 H2 := fun x o e n => by
  obtain ⟨e1, n1⟩ := a x o e n
  exact b x o e1 n1
theorem StG.refl {cs : List (Ad × Cp)} {H : Hp} : StG cs H cs H := fun _ _ e n => ⟨e, n⟩
theorem StG.ofSame {cs : List (Ad × Cp)} {H H' : Hp} (s : Same H H') : StG cs H cs H' := fun _ _ e n => ⟨s _ _ e, n⟩
theorem notMut {H : Hp} {x : Addr} {o : HO} (e : H x = some o) (n1 : ∀ xs, o ≠ .lst xs) (n2 : ∀ kvs, o ≠ .dK kvs) (n3 : ∀ C d fs, o ≠ .ins C d fs) : ¬ MutO H x := fun m => by
  rcases m with ⟨xs, z⟩ | ⟨kvs, z⟩ | ⟨C, d, fs, z⟩
  · rw [z] at e; exact n1 _ (Option.some.inj e).symm
  · rw [z] at e; exact n2 _ (Option.some.inj e).symm
  · rw [z] at e; exact n3 _ _ _ (Option.some.inj e).symm
section
variable {H H' : Hp} {L : Addr} {n : Int} {cs cs' : List (Ad × Cp)}
theorem RowG.mut (W : RowG K H C CK L n cs) : ∀ c ∈ cs, ∀ x ∈ fpG c.1 c.2, MutO H x := fun c hc x hx => by
  obtain ⟨i, hi⟩ := List.mem_iff_getElem?.mp hc
  exact (W.all i c hi).mut x hx
theorem RowG.free (W : RowG K H C CK L n cs) {x : Addr} (h : H x = none) : ∀ c ∈ cs, x ∉ fpG c.1 c.2 := fun c hc hx => by
  rcases W.mut c hc x hx with ⟨xs, z⟩ | ⟨kvs, z⟩ | ⟨C, d, fs, z⟩ <;> rw [z] at h <;> cases h
theorem StG.sqt (W : RowG K H C CK L n cs) (s : StG cs H cs' H') : ∀ a xs, SqT K H a xs → SqT K H' a xs := fun a xs q => by
  rcases q with (z | ⟨o', z⟩) | z
  · exact .inl (.inl (s _ _ z fun c hc hx => notMut z (fun _ e => nomatch e) (fun _ e => nomatch e) (fun _ _ _ e => nomatch e) (W.mut c hc _ hx)).1)
  · exact .inl (.inr ⟨o', (s _ _ z fun c hc hx => notMut z (fun _ e => nomatch e) (fun _ e => nomatch e) (fun _ _ _ e => nomatch e) (W.mut c hc _ hx)).1⟩)
  · exact .inr z
theorem RowG.same (W : RowG K H C CK L n cs) (s : Same H H') : RowG K H' C CK L n cs := { W with at_ := s _ _ W.at_, all := fun i c e => (W.all i c e).same s }
theorem RowG.set (W : RowG K H C CK L n cs) {i : Nat} {a a' : Ad} {p p' : Cp} (hi : cs[i]? = some (a, p)) (ch : ChgS (fpG a p) H H') (hc : CgAt K H' C CK n (i : Int) a' p') (eo : a'.o = a.o) (nw : ∀ x ∈ fpG a' p', x ∈ fpG a p ∨ H x = none) :
    RowG K H' C CK L n (cs.set i (a', p')) ∧ StG cs H (cs.set i (a', p')) H' := by
  have il := (List.getElem?_eq_some_iff.mp hi).1
  have mi := List.mem_of_getElem? hi
  have sq : ∀ x xs, SqT K H x xs → SqT K H' x xs := sqt_chgs ch fun x hx => W.mut _ mi x hx
  have outI : ∀ {x : Addr} {o : HO}, H x = some o → x ∉ fpG a p → x ∉ fpG a' p' := fun {x o} e n m => by
    rcases nw x m with z | z
    · exact n z
    · rw [z] at e; cases e
  have oth : ∀ {j : Nat} {c : Ad × Cp}, cs[j]? = some c → i ≠ j → ∀ x ∈ fpG c.1 c.2, x ∉ fpG a p := fun {j c} hj ne x hx => W.dj j i c (a, p) hj hi (fun e => ne e.symm) x hx
  have get : ∀ {j : Nat} {c : Ad × Cp}, (cs.set i (a', p'))[j]? = some c → (i = j ∧ c = (a', p')) ∨ (i ≠ j ∧ cs[j]? = some c) := fun {j c} h => by
    rw [List.getElem?_set] at h
    by_cases e : i = j
    · rw [if_pos e, if_pos (by omega)] at h
      exact .inl ⟨e, (Option.some.inj h).symm⟩
    · rw [if_neg e] at h
      exact .inr ⟨e, h⟩
  have alc : ∀ {j : Nat} {c : Ad × Cp}, cs[j]? = some c → ∀ x ∈ fpG c.1 c.2, ∃ o, H x = some o := fun {j c} hj x hx => by
    rcases W.mut c (List.mem_of_getElem? hj) x hx with ⟨xs, z⟩ | ⟨kvs, z⟩ | ⟨C, d, fs, z⟩ <;> exact ⟨_, z⟩
  have emo : (cs.set i (a', p')).map (·.1.o) = cs.map (·.1.o) := by
    rw [List.map_set]
    refine List.ext_getElem? fun j => ?_
    rw [List.getElem?_set]
    by_cases cj : i = j
    · subst cj
      rw [if_pos rfl, List.length_map, if_pos il, List.getElem?_map, hi]
      show some a'.o = some a.o
      rw [eo]
    · rw [if_neg cj]
  refine ⟨⟨?_, by rw [List.length_set]; exact W.len, fun j c hj => ?_, fun j k c c' hj hk ne x hx => ?_, fun c hc => ?_⟩, fun x o e n => ⟨ch x o (n _ mi) e, fun c hc => ?_⟩⟩
  · rw [emo]
    exact ch _ _ (W.lf _ mi) W.at_
  · rcases get hj with ⟨rfl, rfl⟩ | ⟨ne, hj⟩
    · exact hc
    · exact (W.all j c hj).keep (fun x hx o e => ch x o (oth hj ne x hx) e) sq
  · rcases get hj with ⟨e1, rfl⟩ | ⟨n1, hj⟩ <;> rcases get hk with ⟨e2, rfl⟩ | ⟨n2, hk⟩
    · omega
    · intro hx'
      rcases nw x hx with z | z
      · exact oth hk n2 x hx' z
      · obtain ⟨o, e⟩ := alc hk x hx'
        rw [z] at e; cases e
    · obtain ⟨o, e⟩ := alc hj x hx
      exact outI e (oth hj n1 x hx)
    · exact W.dj j k c c' hj hk ne x hx
  · rcases List.mem_or_eq_of_mem_set hc with z | z
    · exact W.lf c z
    · rw [z]
      exact outI W.at_ (W.lf _ mi)
  · rcases List.mem_or_eq_of_mem_set hc with z | z
    · exact n c z
    · rw [z]
      exact outI e (n _ mi)
theorem RowG.get (W : RowG K H C CK L n cs) {m : Int} (h0 : 0 ≤ m) (h1 : m < n) : ∃ c, cs[m.toNat]? = some c ∧ CgAt K H C CK n m c.1 c.2 ∧ atI ((cs.map (·.1.o)).map V.ref) m = some (.ref c.1.o) := by
  have l := W.len
  have lt : m.toNat < cs.length := by omega
  refine ⟨cs[m.toNat], List.getElem?_eq_getElem lt, ?_, ?_⟩
  · have := W.all m.toNat _ (List.getElem?_eq_getElem lt)
    rw [show ((m.toNat : Nat) : Int) = m by omega] at this
    exact this
  · have : atI ((cs.map (·.1.o)).map V.ref) ((m.toNat : Nat) : Int) = some (.ref cs[m.toNat].1.o) := atI_nat (by rw [List.getElem?_map, List.getElem?_map, List.getElem?_eq_getElem lt]; rfl)
    rw [show ((m.toNat : Nat) : Int) = m by omega] at this
    exact this
end
/-! ### what a caller's deed tells and leaves -/
def RetG (K : PySem.W.Frag) (C CK : Addr) (n i : Int) (H : Hp) (a : Ad) (p : Cp) (Q : VK) (R : Cp × List PyData) : Prop := ∀ z zs a' H', ChgS (fpG a p) H H' → CgAt K H' C CK n i a' R.1 → a'.o = a.o → (∀ x ∈ fpG a' R.1, x ∈ fpG a p ∨ H x = none) → (z ∈ fpG a p ∨ H z = none) → z ∉ fpG a' R.1 → H' z = some (.lst zs) → DpAll K H' zs R.2 → Q (.ref z) H'
theorem bkF {S : List Addr} {H H1 : Hp} (c : ChgS S H H1) {x : Addr} (e : H1 x = none) : x ∈ S ∨ H x = none := by
  by_cases m : x ∈ S
  · exact .inl m
  · exact .inr (c.back e m)
structure GoodG (n i : Int) (p : Cp) : Prop where
  i0 : 0 ≤ i
  i1 : i < n
  n60 : n ≤ 60
  nd : p.rs.Nodup
  bnd : ∀ m ∈ p.rs, 0 ≤ m ∧ m < n
  ns : ∀ y, p.key = some y → y.ns.length ≤ 500
  ps : p.ps.length ≤ 500
  bg : p.bg = .non ∨ ∃ g, p.bg = .int g
theorem nd_len {l : List Int} {n : Int} (nd : l.Nodup) (b : ∀ m ∈ l, 0 ≤ m ∧ m < n) : l.length ≤ n.toNat := by
  have p : l.Perm ((rangeI n).filter fun m => decide (m ∈ l)) := (List.perm_ext_iff_of_nodup nd ((rangeI_nd n).filter _)).mpr fun m => by
    rw [List.mem_filter, rangeI_mem, decide_eq_true_eq]
    exact ⟨fun hm => ⟨b m hm, hm⟩, fun hm => hm.2⟩
  have l1 := List.length_filter_le (fun m => decide (m ∈ l)) (rangeI n)
  rw [← p.length_eq, rangeI_len] at l1
  exact l1
theorem GoodG.l60 {n i : Int} {p : Cp} (G : GoodG n i p) : p.rs.length ≤ 60 := by
  have := nd_len G.nd G.bnd
  have := G.n60
  omega
theorem GoodG.bm {n i : Int} {p : Cp} (G : GoodG n i p) {f : Int → Int} : ∀ m ∈ p.rs, 0 ≤ m ∧ m < ((msF n f).length : Int) := fun m hm => by
  have := G.bnd m hm
  have := G.i0
  have := G.i1
  rw [msF_len]
  omega
end

end G0
namespace G0
open PySem PySem.Spec PyProof.Rows L2 NdefX ClX
set_option maxHeartbeats 4000000
section
variable {P : Program} {w : World} {K : PySem.W.Frag} {mg : Str → Option Value} {base : Heap} {C CK f : Addr} {fd : FuncData}
/-! ### handing on -/
def handG (n i : Int) (p : Cp) (y : KP) : Cp × List PyData := match lineUp i p.rs (msF n p.f) y.S y.ns with
  | [] => ({ p with key := some { y with ns := [] } }, [])
  | t :: rest => if t = i then ({ p with st := "in", key := some { y with ns := rest } }, []) else ({ p with key := none }, [toD (keyD y.r y.S rest) t])
theorem handG_nil {n i : Int} {p : Cp} {y : KP} (e : lineUp i p.rs (msF n p.f) y.S y.ns = []) : handG n i p y = ({ p with key := some { y with ns := [] } }, []) := by
  unfold handG
  rw [e]
theorem handG_self {n i : Int} {p : Cp} {y : KP} {rest : List Int} (e : lineUp i p.rs (msF n p.f) y.S y.ns = i :: rest) : handG n i p y = ({ p with st := "in", key := some { y with ns := rest } }, []) := by
  unfold handG
  rw [e]
  exact if_pos rfl
theorem handG_give {n i t : Int} {p : Cp} {y : KP} {rest : List Int} (e : lineUp i p.rs (msF n p.f) y.S y.ns = t :: rest) (ne : t ≠ i) : handG n i p y = ({ p with key := none }, [toD (keyD y.r y.S rest) t]) := by
  unfold handG
  rw [e]
  exact if_neg ne
/-- what stays under a caller's own deed -/
theorem plg_chg {H H' : Hp} {S : List Addr} (m : ∀ x ∈ S, MutO H x) (c : ChgS S H H') {kvs : List (Key × V)} {ps : List (Int × Int × Int)} (h : PlG K H kvs ps) : PlG K H' kvs ps := h.kt (sqt_chgs c m)
theorem RetG.from {n i : Int} {H H1 : Hp} {a a1 : Ad} {p p1 : Cp} {Q : VK} {R : Cp × List PyData} (h : RetG K C CK n i H a p Q R) (ch : ChgS (fpG a p) H H1) (eo : a1.o = a.o) (sub : ∀ x ∈ fpG a1 p1, x ∈ fpG a p ∨ H x = none) : RetG K C CK n i H1 a1 p1 Q R := fun z zs a' H' c A e nw hz nz kz dz => by
  refine h z zs a' H' (fun b o nb e => ?_) A (e.trans eo) (fun x hx => ?_) ?_ nz kz dz
  · refine c b o (fun m => ?_) (ch b o nb e)
    rcases sub b m with z | z
    · exact nb z
    · rw [z] at e; cases e
  · rcases nw x hx with z | z
    · exact sub x z
    · exact bkF ch z
  · rcases hz with z | z
    · exact sub _ z
    · exact bkF ch z
theorem hand_of {n i : Int} {H : Hp} {a : Ad} {p0 p : Cp} {y0 y : KP} {Q : VK} {kvs : List (Key × V)} {A : List Addr} (ek : p0.key = some y0) (B : CgAt K H C CK n i a p0) (up : (y.S.map (·.1)).Pairwise (· < ·)) (PL : PlG K H kvs p.ps) (sA : ∀ x ∈ A, x ∈ fpG a p0) (h : RetG K C CK n i H a p0 Q (handG n i p y)) :
    HandK K C CK H Q A a.o a.dx a.k a.dk a.ro a.nu a.pl a.d i p.rnd y.r p.st p.bg p.rs (msF n p.f) kvs y.S (lineUp i p.rs (msF n p.f) y.S y.ns) := by
  obtain ⟨KA, dpl, lnu, lro, _⟩ := B.key y0 ek
  obtain ⟨kv0, A0, _⟩ := B.at_
  have kp : ∀ {H' : Hp}, ChgS A H H' → PlG K H' kvs p.ps := fun c => plg_chg (fun x hx => B.mut x (sA x hx)) c PL
  have cm : ∀ {H' : Hp}, ChgS A H H' → ChgS (fpG a p0) H H' := fun c => c.mono sA
  have nfp : ∀ {z l' : Addr}, H z = none → z ≠ l' → z ∉ [a.o, a.ro, a.nu, a.pl] ++ [a.k, a.d, l'] := fun {z l'} hz zl m => by
    have no : ∀ x ∈ fpG a p0, z ≠ x := fun x hx e => by
      rcases B.mut x hx with ⟨_, w⟩ | ⟨_, w⟩ | ⟨_, _, _, w⟩ <;> rw [← e, hz] at w <;> cases w
    simp only [List.mem_append, List.mem_cons, List.not_mem_nil, or_false] at m
    rcases m with (e | e | e | e) | e | e | e
    · exact no a.o (by simp [fpG]) e
    · exact no a.ro (by simp [fpG]) e
    · exact no a.nu (by simp [fpG]) e
    · exact no a.pl (by simp [fpG]) e
    · exact no a.k (by simp [fpG, ek, fpK]) e
    · exact no a.d (by simp [fpG, ek, fpK]) e
    · exact zl e
  have sfp : ∀ {l' : Addr}, H l' = none → ∀ x ∈ [a.o, a.ro, a.nu, a.pl] ++ [a.k, a.d, l'], x ∈ fpG a p0 ∨ H x = none := fun {l'} hl x hx => by
    simp only [List.mem_append, List.mem_cons, List.not_mem_nil, or_false] at hx
    rcases hx with (e | e | e | e) | e | e | e
    · exact .inl (by rw [e]; simp [fpG])
    · exact .inl (by rw [e]; simp [fpG])
    · exact .inl (by rw [e]; simp [fpG])
    · exact .inl (by rw [e]; simp [fpG])
    · exact .inl (by rw [e]; simp [fpG, ek, fpK])
    · exact .inl (by rw [e]; simp [fpG, ek, fpK])
    · exact .inr (by rw [e]; exact hl)
  refine ⟨fun e z l' H' c hl hz zl A' K' kz => ?_, fun rest e z l' H' c hl hz zl A' K' kz => ?_, fun t rest e ne z zs S' H' c hz A' pm u kz dz => ?_⟩
  · rw [handG_nil e] at h
    exact h z [] { a with l := l' } H' (cm c) ⟨⟨kvs, A', kp c⟩, fun y2 e2 => by cases e2; exact ⟨K', dpl, (ne_of_none A0.hn hl).symm, (ne_of_none A0.hr hl).symm, up⟩, B.rn⟩ rfl (sfp hl) (.inr hz) (nfp hz zl) kz .nil
  · rw [handG_self e] at h
    exact h z [] { a with l := l' } H' (cm c) ⟨⟨kvs, A', kp c⟩, fun y2 e2 => by cases e2; exact ⟨K', dpl, (ne_of_none A0.hn hl).symm, (ne_of_none A0.hr hl).symm, up⟩, B.rn⟩ rfl (sfp hl) (.inr hz) (nfp hz zl) kz .nil
  · rw [handG_give e ne] at h
    have eS := perm_up pm u up
    subst eS
    have nz : z ∉ [a.o, a.ro, a.nu, a.pl] ++ [a.k, a.d, a.l] := fun m => by
      rcases B.mut z (by unfold fpG; rw [ek]; exact m) with ⟨_, w⟩ | ⟨_, w⟩ | ⟨_, _, _, w⟩ <;> rw [hz] at w <;> cases w
    refine h z zs a H' (cm c) ⟨⟨kvs, A', kp c⟩, fun y2 e2 => (by cases e2), B.rn⟩ rfl (fun x hx => .inl ?_) (.inr hz) (fun m => nz ?_) kz dz
    · have hx : x ∈ [a.o, a.ro, a.nu, a.pl] ++ [] := hx
      rw [List.append_nil] at hx
      exact List.mem_append.mpr (.inl hx)
    · have m : z ∈ [a.o, a.ro, a.nu, a.pl] ++ [] := m
      rw [List.append_nil] at m
      exact List.mem_append.mpr (.inl m)
end

end G0
namespace G0
open PySem PySem.Spec PyProof.Rows L2 NdefX ClX
set_option maxHeartbeats 4000000
section
variable {P : Program} {w : World} {K : PySem.W.Frag} {mg : Str → Option Value} {base : Heap} {C CK f : Addr} {fd : FuncData}
section
variable {n i : Int} {H : Hp} {a : Ad} {p : Cp} {Q : VK} {E : XK}
theorem GoodG.lms {f : Int → Int} (G : GoodG n i p) : i < ((msF n f).length : Int) := by have := G.i0; have := G.i1; rw [msF_len]; omega
theorem fp_mem {x : Addr} {a : Ad} {p : Cp} (h : x ∈ [a.o, a.ro, a.nu, a.pl]) : x ∈ fpG a p := List.mem_append.mpr (.inl h)
theorem fp_free (B : CgAt K H C CK n i a p) {z : Addr} (h : H z = none) : z ∉ fpG a p := fun m => by
  rcases B.mut z m with ⟨_, w⟩ | ⟨_, w⟩ | ⟨_, _, _, w⟩ <;> rw [h] at w <;> cases w
theorem fpG_eq {a : Ad} {p p' : Cp} (e : p'.key.isSome = p.key.isSome) : fpG a p' = fpG a p := by
  unfold fpG
  cases h : p.key with
  | none =>
    rw [h] at e
    cases h2 : p'.key with
    | none => rfl
    | some y => rw [h2] at e; cases e
  | some y =>
    rw [h] at e
    cases h2 : p'.key with
    | none => rw [h2] at e; cases e
    | some y => rfl
/-- the same addresses stand for it -/
theorem RetG.as {R : Cp × List PyData} (h : RetG K C CK n i H a p Q R) (B : CgAt K H C CK n i a p) (e : R.1.key.isSome = p.key.isSome) {z : Addr} {zs : List V} {H' : Hp} (c : ChgS (fpG a p) H H') (A' : CgAt K H' C CK n i a R.1) (hz : H z = none) (kz : H' z = some (.lst zs)) (dz : DpAll K H' zs R.2) : Q (.ref z) H' :=
  h z zs a H' c A' rfl (fun x hx => .inl (by rw [fpG_eq e] at hx; exact hx)) (.inr hz) (by rw [fpG_eq e]; exact fp_free B hz) kz dz
/-! ### it asks -/
def askG (i : Int) (p : Cp) : Cp × List PyData := match p.key with
  | some _ => ({ p with st := "in", f := updI p.f i (p.f i + 1) }, [])
  | none => ({ p with st := "asking", f := updI p.f i (p.f i + 1) }, (othR p.rs i).map (toD (askD (p.f i + 1))))
theorem askG_none (ek : p.key = none) : askG i p = ({ p with st := "asking", f := updI p.f i (p.f i + 1) }, (othR p.rs i).map (toD (askD (p.f i + 1)))) := by
  unfold askG
  rw [ek]
theorem askG_some {y : KP} (ek : p.key = some y) : askG i p = ({ p with st := "in", f := updI p.f i (p.f i + 1) }, []) := by
  unfold askG
  rw [ek]
theorem askC_of (B : CgAt K H C CK n i a p) (G : GoodG n i p) (h : RetG K C CK n i H a p Q (askG i p)) : spAskC K C [.ref a.o] H Q E := by
  obtain ⟨kvs, A0, PL⟩ := B.at_
  have i0 := G.i0
  have i1 := G.i1
  have n60 := G.n60
  have mu : ∀ x ∈ [a.o, a.nu], MutO H x := fun x hx => B.mut x (fp_mem (by simp only [List.mem_cons, List.not_mem_nil, or_false] at hx ⊢; rcases hx with e | e <;> simp [e]))
  have sub : ∀ x ∈ [a.o, a.nu], x ∈ fpG a p := fun x hx => fp_mem (by simp only [List.mem_cons, List.not_mem_nil, or_false] at hx ⊢; rcases hx with e | e <;> simp [e])
  refine ⟨a.o, a.dx, a.ro, a.nu, a.pl, i, p.rnd, p.st, keyG a p, p.bg, p.rs, msF n p.f, kvs, rfl, A0, i0, G.lms, by rw [msF_len]; omega, B.rn, G.l60, ?_⟩
  rw [inc_F i0 i1, msF_get i0 i1]
  cases ek : p.key with
  | none =>
    rw [askG_none ek] at h
    have ekv : keyG a p = .non := by unfold keyG; rw [ek]
    rw [ekv]
    refine .inr ⟨rfl, fun z zs H' c hz A' kz dz => ?_⟩
    refine h.as B rfl (c.mono sub) ⟨⟨kvs, by show CalAt H' C a.o a.dx i "asking" p.rnd a.ro a.nu (keyG a { p with st := "asking", f := updI p.f i (p.f i + 1) }) p.bg a.pl p.rs _ kvs; rw [show keyG a { p with st := "asking", f := updI p.f i (p.f i + 1) } = .non by unfold keyG; show (match p.key with | none => V.non | some _ => .ref a.k) = _; rw [ek]]; exact A', plg_chg mu c PL⟩, fun y e => ?_, B.rn⟩ hz kz dz
    have e : p.key = some y := e
    rw [ek] at e
    cases e
  | some y0 =>
    rw [askG_some ek] at h
    have ekv : keyG a p = .ref a.k := by unfold keyG; rw [ek]
    rw [ekv]
    obtain ⟨KA, dpl, lnu, lro, up⟩ := B.key y0 ek
    refine .inl ⟨⟨_, rfl⟩, fun z H' c hz A' kz => ?_⟩
    refine h.as B rfl (c.mono sub) ⟨⟨kvs, by show CalAt H' C a.o a.dx i "in" p.rnd a.ro a.nu (keyG a { p with st := "in", f := updI p.f i (p.f i + 1) }) p.bg a.pl p.rs _ kvs; rw [show keyG a { p with st := "in", f := updI p.f i (p.f i + 1) } = .ref a.k by unfold keyG; show (match p.key with | none => V.non | some _ => .ref a.k) = _; rw [ek]]; exact A', plg_chg mu c PL⟩, fun y e => ?_, B.rn⟩ hz kz .nil
    have e : p.key = some y := e
    rw [ek] at e
    cases e
    have no : ∀ {x : Addr} {o : HO}, H x = some o → x ≠ a.o → x ≠ a.nu → H' x = some o := fun e1 e2 e3 => c _ _ (by simp [e2, e3]) e1
    exact ⟨{ KA with hp := no KA.hp (ca_ne_ke A0.hp KA.hp).symm (ne_of KA.hp A0.hn (by intro z; cases z)), hd := no KA.hd (ne_of KA.hd A0.hp (by intro z; cases z)) (ne_of KA.hd A0.hn (by intro z; cases z)), hl := no KA.hl (ne_of KA.hl A0.hp (by intro z; cases z)) lnu }, dpl, lnu, lro, up⟩
/-! ### it leaves -/
theorem leaveC_of {y : KP} (B : CgAt K H C CK n i a p) (G : GoodG n i p) (ek : p.key = some y) (hm : i ∈ y.S.map (·.1)) (h : RetG K C CK n i H a p Q (handG n i { p with st := "out" } { y with S := srvS y.S i (p.f i) })) : spLeaveC K C CK [.ref a.o] H Q E := by
  obtain ⟨kvs, A0, PL⟩ := B.at_
  obtain ⟨KA, dpl, lnu, lro, up⟩ := B.key y ek
  have ekv : keyG a p = .ref a.k := by unfold keyG; rw [ek]
  rw [ekv] at A0
  refine ⟨a.o, a.dx, a.k, a.dk, a.ro, a.nu, a.pl, a.d, a.l, i, p.rnd, y.r, p.st, p.bg, p.rs, msF n p.f, y.ns, kvs, y.S, rfl, A0, KA, dpl, hm, G.i0, G.lms, G.nd, G.bm, G.l60, G.ns y ek, ?_⟩
  rw [msF_get G.i0 G.i1]
  refine hand_of (p := { p with st := "out" }) (y := { y with S := srvS y.S i (p.f i) }) ek B (by show ((srvS y.S i (p.f i)).map (·.1)).Pairwise (· < ·); rw [srvS_fst]; exact up) PL (fun x hx => ?_) h
  simp only [List.mem_cons, List.not_mem_nil, or_false] at hx
  rcases hx with e | e | e <;> simp [e, fpG, fpK, ek]
/-! ### it hears an ask -/
def learnF (f : Int → Int) (s v : Int) : Int → Int := updI f s (if v > f s then v else f s)
def hearAskG (n i : Int) (p : Cp) (s v : Int) : Cp × List PyData := match p.key with
  | none => ({ p with f := learnF p.f s v }, [])
  | some y => if p.st = "in" then ({ p with f := learnF p.f s v }, []) else handG n i { p with f := learnF p.f s v } y
theorem hearAskG_none {s v : Int} (ek : p.key = none) : hearAskG n i p s v = ({ p with f := learnF p.f s v }, []) := by
  unfold hearAskG
  rw [ek]
theorem hearAskG_in {s v : Int} (e : p.st = "in") : hearAskG n i p s v = ({ p with f := learnF p.f s v }, []) := by
  unfold hearAskG
  cases ek : p.key with
  | none => rfl
  | some y => exact if_pos e
theorem hearAskG_some {s v : Int} {y : KP} (ek : p.key = some y) (e : p.st ≠ "in") : hearAskG n i p s v = handG n i { p with f := learnF p.f s v } y := by
  unfold hearAskG
  rw [ek]
  dsimp only
  rw [if_neg e]
theorem hearAsk_of {s v : Int} (B : CgAt K H C CK n i a p) (G : GoodG n i p) (s0 : 0 ≤ s) (s1 : s < n) (h : RetG K C CK n i H a p Q (hearAskG n i p s v)) : spHearAsk K C CK [.ref a.o, .int s, .int v] H Q E := by
  obtain ⟨kvs, A0, PL⟩ := B.at_
  refine ⟨a.o, a.dx, a.ro, a.nu, a.pl, i, p.rnd, s, v, p.st, keyG a p, p.bg, p.rs, msF n p.f, kvs, rfl, A0, s0, by rw [msF_len]; omega, B.rn, ?_⟩
  rw [learn_F s0 s1]
  have mu : ∀ x ∈ [a.nu], MutO H x := fun x hx => B.mut x (fp_mem (by simp only [List.mem_cons, List.not_mem_nil, or_false] at hx ⊢; simp [hx]))
  have sub : ∀ x ∈ [a.nu], x ∈ fpG a p := fun x hx => fp_mem (by simp only [List.mem_cons, List.not_mem_nil, or_false] at hx ⊢; simp [hx])
  have plain : RetG K C CK n i H a p Q ({ p with f := learnF p.f s v }, []) → ∀ z H', ChgS [a.nu] H H' → H z = none → CalAt H' C a.o a.dx i p.st p.rnd a.ro a.nu (keyG a p) p.bg a.pl p.rs (msF n (updI p.f s (if v > p.f s then v else p.f s))) kvs → H' z = some (.lst []) → Q (.ref z) H' := fun h z H' c hz A' kz => by
    refine h.as B rfl (c.mono sub) ⟨⟨kvs, A', plg_chg mu c PL⟩, fun y e => ?_, B.rn⟩ hz kz .nil
    obtain ⟨KA, dpl, lnu, lro, up⟩ := B.key y e
    have no : ∀ {x : Addr} {o : HO}, H x = some o → x ≠ a.nu → H' x = some o := fun e1 e3 => c _ _ (by simp [e3]) e1
    exact ⟨{ KA with hp := no KA.hp (ne_of KA.hp A0.hn (by intro z; cases z)), hd := no KA.hd (ne_of KA.hd A0.hn (by intro z; cases z)), hl := no KA.hl lnu }, dpl, lnu, lro, up⟩
  cases ek : p.key with
  | none =>
    rw [hearAskG_none ek] at h
    exact .inl ⟨.inl (by unfold keyG; rw [ek]), plain h⟩
  | some y =>
    have ekv : keyG a p = .ref a.k := by unfold keyG; rw [ek]
    by_cases c : p.st = "in"
    · exact .inl ⟨.inr ⟨c, a.k, ekv⟩, plain (by rw [hearAskG_in c] at h; exact h)⟩
    · rw [hearAskG_some ek c] at h
      obtain ⟨KA, dpl, lnu, lro, up⟩ := B.key y ek
      refine .inr ⟨a.k, a.dk, a.d, a.l, y.r, y.S, y.ns, ekv, c, KA, lnu, G.nd, fun m hm => ?_, G.l60, G.ns y ek, ?_⟩
      · exact G.bm m hm
      · refine hand_of (p := { p with f := learnF p.f s v }) (y := y) ek B up PL (fun x hx => ?_) h
        simp only [List.mem_cons, List.not_mem_nil, or_false] at hx
        rcases hx with e | e | e <;> simp [e, fpG, fpK, ek]
/-! ### it hears a key -/
theorem hearKey_of {lt u v : Addr} {r : Int} {S : List (Int × Int)} {ns : List Int} {ys : List V} (B : CgAt K H C CK n i a p) (G : GoodG n i p) (hl : SqT K H lt [.str "key", .int r, .ref u, .ref v]) (hu : SqT K H u ys) (du : DpAll K H ys (S.map pairD)) (hv : SqT K H v (ns.map V.int)) (le : p.rnd ≤ r)
    (up : (S.map (·.1)).Pairwise (· < ·)) (l60 : S.length ≤ 60) (l1 : ns.length ≤ 500) (h : RetG K C CK n i H a p Q ({ p with st := "in", key := some ⟨r, S, ns⟩ }, [])) : spHearKey K C CK [.ref a.o, .ref lt] H Q E := by
  obtain ⟨kvs, A0, PL⟩ := B.at_
  have mu : ∀ x ∈ [a.o], MutO H x := fun x hx => B.mut x (fp_mem (by simp only [List.mem_cons, List.not_mem_nil, or_false] at hx ⊢; simp [hx]))
  have sub : ∀ x ∈ [a.o], x ∈ fpG a p := fun x hx => fp_mem (by simp only [List.mem_cons, List.not_mem_nil, or_false] at hx ⊢; simp [hx])
  refine ⟨a.o, a.dx, lt, a.ro, a.nu, a.pl, u, v, i, p.rnd, r, p.st, keyG a p, p.bg, p.rs, msF n p.f, ns, kvs, S, ys, rfl, A0, hl, hu, du, hv, le, up.imp fun h => by omega, l60, by omega, fun k dk d l z H' c hk hd hl2 hz kd kl dl zl A' K' kz => ?_⟩
  have zo : ∀ x ∈ [a.o, a.ro, a.nu, a.pl], z ≠ x := fun x hx e => fp_free B hz (by rw [e]; exact fp_mem hx)
  refine h z [] { a with k := k, dk := dk, d := d, l := l } H' (c.mono sub) ⟨⟨kvs, A', plg_chg mu c PL⟩, fun y e => ?_, B.rn⟩ rfl (fun x hx => ?_) (.inr hz) (fun m => ?_) kz .nil
  · cases e
    exact ⟨K', (ne_of_none A0.hpl hd).symm, (ne_of_none A0.hn hl2).symm, (ne_of_none A0.hr hl2).symm, up⟩
  · have hx : x ∈ [a.o, a.ro, a.nu, a.pl] ++ [k, d, l] := hx
    rcases List.mem_append.mp hx with hx | hx
    · exact .inl (fp_mem hx)
    · simp only [List.mem_cons, List.not_mem_nil, or_false] at hx
      rcases hx with e | e | e <;> rw [e] <;> exact .inr (by assumption)
  · have m : z ∈ [a.o, a.ro, a.nu, a.pl] ++ [k, d, l] := m
    rcases List.mem_append.mp m with m | m
    · exact zo z m rfl
    · simp only [List.mem_cons, List.not_mem_nil, or_false] at m
      rcases m with e | e | e
      · rw [e, K'.hp] at kz; cases kz
      · rw [e, K'.hd] at kz; cases kz
      · exact zl e
end
end

end G0
namespace G0
open PySem PySem.Spec PyProof.Rows L2 NdefX ClX
set_option maxHeartbeats 4000000
theorem goJ {A : Prop} {D : L2.Ends} (R : L2.St → Hp → Prop) (h1 : (∀ σ H, R σ H → D.nx σ H) → A) (h : ∀ σ H, R σ H → D.nx σ H) : A := h1 h
theorem dc_keys {K : PySem.W.Frag} {d : Addr} {o : Obj} {kvs : List (Key × V)} {g : TG} {tt : TT} {tk tv : TE} {vs : List Nat} {σ : L2.St} {H1 : Hp} {D : Addr} {Qd : Hp → Prop} (Pv : Nat → Hp → Prop) (h0 : Pv 0 (upd H1 D (.dK []))) (hl : ∀ i H, i ≤ kvs.length → Pv i H → H d = some (.frz o (.dK kvs)))
    (hs : ∀ i k x H, kvs[i]? = some (k, x) → Pv i H → g (kV k) (wipe σ vs) H fun σ2 H2 => wipe σ2 vs = wipe σ vs ∧ tt σ2 H2 fun b H3 =>
      if b = true then tk σ2 H3 fun y H4 => tv σ2 H4 fun z H5 => ∃ kvs2 k2, y = kV k2 ∧ H5 D = some (.dK kvs2) ∧ kvs2.length < sizeLine ∧ Pv (i + 1) (upd H5 D (.dK (putK kvs2 k2 z))) else Pv (i + 1) H3) (hd : ∀ H, Pv kvs.length H → Qd H) :
    ∃ W : Nat → Nat → Hp → Prop, (∃ m, W 0 m (upd H1 D (.dK []))) ∧ ∀ i m H, W i m H →
      ((Itk d o kvs).stop i H ∧ Qd H) ∨ ((Itk d o kvs).go i H ∧ ∃ Nx : Hp → Prop, (∀ H', Nx H' → ∃ m', m' < m ∧ W (i + 1) m' H') ∧ ∀ x H', (Itk d o kvs).yld i H x H' → g x (wipe σ vs) H' fun σ2 H2 => wipe σ2 vs = wipe σ vs ∧ tt σ2 H2 fun b H3 =>
        if b = true then tk σ2 H3 fun y H4 => tv σ2 H4 fun z H5 => ∃ kvs2 k2, y = kV k2 ∧ H5 D = some (.dK kvs2) ∧ kvs2.length < sizeLine ∧ Nx (upd H5 D (.dK (putK kvs2 k2 z))) else Nx H3) := by
  refine ⟨fun i m H => m = kvs.length - i ∧ i ≤ kvs.length ∧ Pv i H, ⟨kvs.length, by simp, Nat.zero_le _, h0⟩, ?_⟩
  rintro i m H ⟨rfl, hi, p⟩
  have q := hl i H hi p
  by_cases hlt : i < kvs.length
  · refine .inr ⟨⟨q, hlt⟩, Pv (i + 1), fun H' p' => ⟨kvs.length - (i + 1), by omega, rfl, hlt, p'⟩, fun x H' y => ?_⟩
    obtain ⟨e, k, v, hk, ex⟩ := y
    subst e
    subst ex
    exact hs i k v _ hk p
  · have e : i = kvs.length := by omega
    subst e
    exact .inl ⟨⟨q, Nat.le_refl _⟩, hd H p⟩
section
variable {P : Program} {w : World} {K : PySem.W.Frag} {mg : Str → Option Value} {base : Heap} {C CK f : Addr} {fd : FuncData}
theorem val_ent {m : Int} : ∀ {S : List (Int × Int)} {v : Int}, (S.map (·.1)).Nodup → (m, v) ∈ S → valV (S.map entI) (Sum.inl m) = some (.int v)
  | [], _, _, h => absurd h List.not_mem_nil
  | q :: S, v, nd, h => by
    rw [List.map_cons, List.nodup_cons] at nd
    rw [List.map_cons]
    rcases List.mem_cons.mp h with e | h
    · rw [← e, show entI (m, v) = (Sum.inl m, V.int v) from rfl, valV_pos rfl]
    · have ne : q.1 ≠ m := fun e => nd.1 (by rw [e]; exact List.mem_map.mpr ⟨_, h, rfl⟩)
      rw [show entI q = (Sum.inl q.1, V.int q.2) from rfl, valV_neg (fun e => ne (Sum.inl.inj e))]
      exact val_ent nd.2 h
/-! ### Key.renew -/
def spRenew (K : PySem.W.Frag) (CK : Addr) : Sp := fun vs H Q _ => ∃ (k dk mt : Addr) (r r2 : Int) (d l : Addr) (S : List (Int × Int)) (ns ms : List Int), vs = [.ref k, .int r2, .ref mt] ∧ KeyAt H CK k dk r d l S ns ∧ SqT K H mt (ms.map V.int) ∧
  ∀ d' l' H', H d' = none → H l' = none → d' ≠ l' → Chg k H H' → KeyAt H' CK k dk r2 d' l' (S.filter fun p => decide (p.1 ∈ ms)) (ns.filter fun m => decide (m ∈ ms)) → Q .non H'
theorem sc_Key_renew : FnScope ["self", "of_round", "members", "member"] ["self", "of_round", "members"] (defScope s_Key_renew) :=
  ⟨rfl, rfl, rfl, by decide +kernel, rfl, by decide +kernel, by decide +kernel⟩
theorem ok_renew (F : Fun K "renew" "Key.renew" s_Key_renew f fd) (KT : KeyT K CK) : FnOk P w K mg base CX0 1 f fd ["self", "of_round", "members"] (spRenew K CK) := by
  refine F.ok sc_Key_renew (fun vs H Q E h => ?_) (fun cdv A outer s H vs Q E hr h => ?_)
  · obtain ⟨k, _, _, _, _, _, _, _, _, _, rfl, _⟩ := h
    rfl
  obtain ⟨k, dk, mt, r, r2, d, l, S, ns, ms, rfl, A0, hm, q⟩ := h
  refine ⟨_, (pss_cons (ps_fld (pv 0) (pv 1) rfl)
    (pss_cons (ps_fld (pv 0) (pe_lock (pe_dc (own := [("member", 3)]) (g := gName 3)  (by rfl) sc_Key_renew.nd (pi_keys (pe_fld (pv 0) (by rfl))) (blkOk_by (N := ["self", "of_round", "members", "member"]) (sc := defScope s_Key_renew) (by decide +kernel)) (fun _ _ _ _ _ => pg_name (i := 3) sc_Key_renew.nd rfl (Or.inl rfl)) (fun _ _ _ _ _ => pts_one (pt_cmpR (u_inK K) (pv 3) (pv 2) (by rfl))) (fun _ _ _ _ _ => (pv 3)) (fun _ _ _ _ _ => (pe_dget (hu_of hr) (pe_fldK K (pv 0)) (pv 3) (fun _ _ => rfl))))) rfl)
    (pss_one (ps_fld (pv 0) (pe_lc (own := [("member", 3)]) (g := gName 3)  (by rfl) sc_Key_renew.nd (pi_list (pe_fld (pv 0) (by rfl))) (blkOk_by (N := ["self", "of_round", "members", "member"]) (sc := defScope s_Key_renew) (by decide +kernel)) (fun _ _ _ _ _ => pg_name (i := 3) sc_Key_renew.nd rfl (Or.inl rfl)) (fun _ _ _ _ _ => pts_one (pt_cmpR (u_inK K) (pv 3) (pv 2) (by rfl))) (fun _ _ _ _ _ => (pv 3))) rfl)))), ?_⟩
  refine ⟨_, rfl, _, rfl, k, CK, dk, _, rfl, A0.hp, KT.cl, KT.round, (by show 3 < 1000; decide), ?_⟩
  rw [keF_put_rnd]
  have c1 : Chg k H (upd H k (.ins CK dk (keF r2 d l))) := Chg.self
  have hm1 := sqt_chgI A0.hp c1 hm
  have hd1 := c1 _ _ (ne_of A0.hd A0.hp (by intro z; cases z)) A0.hd
  have hl1 := c1 _ _ (ne_of A0.hl A0.hp (by intro z; cases z)) A0.hl
  have hp1 : upd H k (.ins CK dk (keF r2 d l)) k = some (.ins CK dk (keF r2 d l)) := upd_same
  obtain ⟨H1, e1⟩ : ∃ H1, H1 = upd H k (.ins CK dk (keF r2 d l)) := ⟨_, rfl⟩
  rw [← e1] at c1 hm1 hd1 hl1 hp1
  rw [← e1]
  clear e1
  refine ⟨d, _, hd1, trivial, fun od => ?_⟩
  have fz : upd H1 d (.frz od (.dK (S.map entI))) d = some (.frz od (.dK (S.map entI))) := upd_same
  have kd : k ≠ d := ne_of hp1 hd1 (by intro z; cases z)
  have hpz : upd H1 d (.frz od (.dK (S.map entI))) k = some (.ins CK dk (keF r2 d l)) := (upd_ne kd).trans hp1
  have hmz : SqT K (upd H1 d (.frz od (.dK (S.map entI)))) mt (ms.map V.int) := by
    rcases hm1 with (z | ⟨o', z⟩) | z
    · exact .inl (.inl ((upd_ne (ne_of z hd1 (by intro z; cases z))).trans z))
    · exact .inl (.inr ⟨o', (upd_ne (ne_of z hd1 (by intro z; cases z))).trans z⟩)
    · exact .inr z
  refine ⟨_, rfl, k, CK, dk, _, _, rfl, hpz, KT.cl, KT.served, keF_srv _ _ _, d, od, rfl, .inl ⟨_, fz, fun D hD => ?_⟩⟩
  refine dc_keys (K := K) (fun i G => Same (upd H1 d (.frz od (.dK (S.map entI)))) G ∧ G D = some (.dK (((S.take i).filter fun p => decide (p.1 ∈ ms)).map entI))) ⟨same_upd hD, upd_same⟩ (fun i G _ h => h.1 _ _ fz) ?_ ?_
  · rintro i kk x G hx ⟨sG, kD⟩
    rw [List.getElem?_map] at hx
    obtain ⟨pr, hpr⟩ : ∃ pr, S[i]? = some pr := by
      cases h : S[i]? with
      | none => rw [h] at hx; cases hx
      | some pr => exact ⟨pr, rfl⟩
    rw [hpr] at hx
    cases hx
    have li := (List.getElem?_eq_some_iff.mp hpr).1
    refine ⟨rfl, _, rfl, _, rfl, .inl ⟨mt, _, rfl, .inr (sqt_same sG hmz), rfl, flat_ints _, _, rfl, ?_⟩⟩
    rw [filt_next _ hpr]
    refine ite2 (fun c4 => ?_) (fun c4 => ?_)
    · have c4 : inV (V.int pr.1) (ms.map V.int) = true := c4
      rw [inV_ints] at c4
      rw [if_pos c4]
      refine ⟨_, rfl, _, rfl, k, CK, dk, _, _, rfl, sG _ _ hpz, KT.cl, KT.served, keF_srv _ _ _, _, rfl, d, _, rfl, .inl ⟨_, Sum.inl pr.1, .inr ⟨od, sG _ _ fz⟩, rfl, (val_ent (v := pr.2) A0.nd (List.mem_of_getElem? hpr)).symm⟩, ?_⟩
      refine ⟨_, Sum.inl pr.1, rfl, kD, ?_, fun b o e => ?_, ?_⟩
      · rw [List.length_map]
        have := List.length_filter_le (fun p : Int × Int => decide (p.1 ∈ ms)) (S.take i)
        rw [List.length_take] at this
        have := A0.few
        exact Nat.lt_of_lt_of_le (show _ < 100 by omega) (by decide)
      · rw [upd_ne (ne_of_none e hD)]
        exact sG _ _ e
      · have nin : pr.1 ∉ ((S.take i).filter fun p => decide (p.1 ∈ ms)).map (·.1) := fun z => by
          obtain ⟨p2, hp2, e2⟩ := List.mem_map.mp z
          have hp3 := (List.mem_filter.mp hp2).1
          obtain ⟨j, lj, ej⟩ := List.mem_take_iff_getElem.mp hp3
          have h2 : (S.map (·.1))[i]? = some pr.1 := by rw [List.getElem?_map, hpr]; rfl
          have h1 : (S.map (·.1))[j]? = some pr.1 := by rw [List.getElem?_map, List.getElem?_eq_getElem (by omega), ej]; exact congrArg some e2
          have := (List.getElem?_inj (by rw [List.length_map]; omega) A0.nd).mp (h1.trans h2.symm)
          omega
        rw [putK_new _ (ent_none nin), List.map_append]
        exact upd_same
    · have c4 : ¬ inV (V.int pr.1) (ms.map V.int) = true := c4
      rw [inV_ints] at c4
      rw [if_neg c4, List.append_nil]
      exact ⟨sG, kD⟩
  rintro G ⟨sG, kD⟩
  rw [List.length_map, List.take_length] at kD
  have Dd : D ≠ d := (ne_of_none fz hD).symm
  have sH : Same H1 (upd G d (.dK (S.map entI))) := fun b o e => by
    by_cases c : b = d
    · rw [c] at e ⊢
      rw [upd_same, ← hd1]
      exact e
    · rw [upd_ne c]
      exact sG _ _ ((upd_ne c).trans e)
  have D0 : H1 D = none := by rw [upd_ne Dd] at hD; exact hD
  have kD2 : upd G d (.dK (S.map entI)) D = some (.dK ((S.filter fun p => decide (p.1 ∈ ms)).map entI)) := (upd_ne Dd).trans kD
  refine ⟨sG _ _ fz, ?_⟩
  obtain ⟨H2, e2⟩ : ∃ H2, H2 = upd G d (.dK (S.map entI)) := ⟨_, rfl⟩
  rw [← e2] at sH kD2
  rw [← e2]
  clear e2
  have Dk : D ≠ k := (ne_of_none hp1 D0).symm
  refine ⟨_, rfl, k, CK, dk, _, rfl, sH _ _ hp1, KT.cl, KT.served, (by show 3 < 1000; decide), ?_⟩
  rw [keF_put_srv]
  have c3 : Chg k H2 (upd H2 k (.ins CK dk (keF r2 D l))) := Chg.self
  have hp3 : upd H2 k (.ins CK dk (keF r2 D l)) k = some (.ins CK dk (keF r2 D l)) := upd_same
  have hl3 := c3 _ _ (ne_of (sH _ _ hl1) (sH _ _ hp1) (by intro z; cases z)) (sH _ _ hl1)
  have hm3 := sqt_chgI (sH _ _ hp1) c3 (sqt_same sH hm1)
  have kD3 := c3 _ _ Dk kD2
  have c13 : Chg k H (upd H2 k (.ins CK dk (keF r2 D l))) := (c1.trans fun b o _ e => sH b o e).trans c3
  obtain ⟨H3, e3⟩ : ∃ H3, H3 = upd H2 k (.ins CK dk (keF r2 D l)) := ⟨_, rfl⟩
  rw [← e3] at c13 hp3 hl3 hm3 kD3
  rw [← e3]
  clear e3 c3
  refine ⟨_, rfl, k, CK, dk, _, _, rfl, hp3, KT.cl, KT.line, keF_lin _ _ _, l, rfl, ⟨_, SqL.of hl3⟩, fun L hL => ?_⟩
  refine lc_filtI (K := K) (a := l) (ns := ns) (fun m => decide (m ∈ ms)) (by have := A0.few2; omega) hL (SqL.of hl3) (fun i x G Y B hx sG h => ?_) (fun H4 s4 kL => ?_)
  · refine ⟨rfl, _, rfl, _, rfl, .inl ⟨mt, _, rfl, .inr (sqt_same sG hm3), rfl, flat_ints _, _, rfl, ?_⟩⟩
    exact tst (by rw [inV_ints]; rfl) (fun y => ⟨_, rfl, y⟩) h
  have Lk : L ≠ k := (ne_of_none hp3 hL).symm
  refine ⟨_, rfl, k, CK, dk, _, rfl, s4 _ _ hp3, KT.cl, KT.line, (by show 3 < 1000; decide), ?_⟩
  rw [keF_put_lin]
  have c5 : Chg k H4 (upd H4 k (.ins CK dk (keF r2 D L))) := Chg.self
  have back : ∀ {x : Addr}, x ≠ k → H3 x = none → H x = none := fun n h => by
    cases z : H _ with
    | none => rfl
    | some o => rw [c13 _ _ n z] at h; cases h
  have D00 : H D = none := by
    cases z : H D with
    | none => rfl
    | some o => rw [c1 _ _ Dk z] at D0; cases D0
  refine q D L _ D00 (back Lk hL) (ne_of_none kD3 hL) ((c13.trans fun b o _ e => s4 b o e).trans c5) ⟨upd_same, c5 _ _ Dk (s4 _ _ kD3), c5 _ _ Lk kL, ?_, ?_, ?_⟩
  · exact (A0.nd.sublist ((List.filter_sublist).map _))
  · exact Nat.le_trans (List.length_filter_le _ _) A0.few
  · exact Nat.le_trans (List.length_filter_le _ _) A0.few2
end

end G0
namespace G0
open PySem PySem.Spec PyProof.Rows L2 NdefX ClX
set_option maxHeartbeats 4000000
section
variable {P : Program} {w : World} {K : PySem.W.Frag} {mg : Str → Option Value} {base : Heap} {C CK f : Addr} {fd : FuncData}
/-- whose pledge is awaited -/
def awF (rs : List Int) (ps : List (Int × Int)) : List Int := rs.filter fun s => !decide (s ∈ ps.map (·.1))
def spAw (K : PySem.W.Frag) (C : Addr) : Sp := fun vs H Q _ => ∃ (q dx : Addr) (me : Int) (st : Str) (rnd : Int) (ro nu : Addr) (key bg : V) (pl : Addr) (rs ms : List Int) (kvs : List (Key × V)) (ps : List (Int × Int)), vs = [.ref q] ∧ CalAt H C q dx me st rnd ro nu key bg pl rs ms kvs ∧ kvs.map (·.1) = ps.map (fun p => Sum.inl p.1) ∧ rs.length ≤ 60 ∧
  ((bg = .non ∧ ∀ l, H l = none → Q (.ref l) (upd H l (.lst []))) ∨ ((∃ g, bg = .int g) ∧ ∀ l H', Same H H' → H l = none → H' l = some (.lst ((awF rs ps).map V.int)) → Q (.ref l) H'))
theorem sc_Caller_awaits : FnScope ["self", "seat"] ["self"] (defScope s_Caller_awaits) :=
  ⟨rfl, rfl, rfl, by decide +kernel, rfl, by decide +kernel, by decide +kernel⟩
theorem ok_awaits (F : Fun K "awaits" "Caller.awaits" s_Caller_awaits f fd) (S : CalT K C) : FnOk P w K mg base CX0 1 f fd ["self"] (spAw K C) := by
  refine F.ok sc_Caller_awaits (fun vs H Q E h => ?_) (fun cdv A outer s H vs Q E hr h => ?_)
  · obtain ⟨q, _, _, _, _, _, _, _, _, _, _, _, _, _, rfl, _⟩ := h
    rfl
  obtain ⟨q, dx, me, st, rnd, ro, nu, key, bg, pl, rs, ms, kvs, ps, rfl, A0, PD, l60, h⟩ := h
  refine ⟨_, (pss_cons (ps_if (pt_cmpR op_isN (pe_fld (pv 0) (by rfl)) pe_non (nomark _))
    (pss_one (ps_ret (pe_lst pa_nil)))
    pss_nil)
    (pss_one (ps_ret (pe_lc (own := [("seat", 1)]) (g := gName 1)  (by rfl) sc_Caller_awaits.nd (pi_list (pe_fld (pv 0) (by rfl))) (blkOk_by (N := ["self", "seat"]) (sc := defScope s_Caller_awaits) (by decide +kernel)) (fun _ _ _ _ _ => pg_name (i := 1) sc_Caller_awaits.nd rfl (Or.inl rfl)) (fun _ _ _ _ _ => pts_one (pt_cmp (pc_dnotin (hu_of hr) (pv 1) (pe_fldK K (pv 0))))) (fun _ _ _ _ _ => (pv 1)))))), ?_⟩
  refine ⟨_, rfl, q, C, dx, _, _, rfl, A0.hp, S.cl, S.begun, caF_bgn _ _ _ _ _ _ _ _ _, rfl, _, rfl, ?_⟩
  rcases h with ⟨rfl, h⟩ | ⟨⟨g, rfl⟩, h⟩
  · exact iteT' rfl ⟨Nat.zero_le _, fun l hl => h l hl⟩
  refine iteF' rfl ?_
  refine ⟨_, rfl, q, C, dx, _, _, rfl, A0.hp, S.cl, S.roster, caF_ros _ _ _ _ _ _ _ _ _, ro, rfl, ⟨_, SqL.of A0.hr⟩, fun D hD => ?_⟩
  refine lc_filtI (K := K) (a := ro) (ns := rs) (fun s => !decide (s ∈ ps.map (·.1))) (by omega) hD (SqL.of A0.hr) (fun i x G Y B hx sG h => ?_) (fun G sG kD => h D G sG hD (by unfold awF; exact kD))
  have A1 := A0.same sG
  refine ⟨rfl, _, rfl, _, rfl, q, C, dx, _, _, rfl, A1.hp, S.cl, S.pledges, caF_plg _ _ _ _ _ _ _ _ _, pl, _, rfl, .inl ⟨kvs, Sum.inl x, .inl A1.hpl, rfl, rfl⟩, _, rfl, ?_⟩
  exact tst (by rw [keys_is PD]) (fun y => ⟨_, rfl, y⟩) h
/-! ### a pledge, in any state -/
def askN (st : Str) : Int := if st = "asking" then 1 else 0
def hasN (p : Cp) : Int := if p.key.isSome then 1 else 0
def plgV (r n a h : Int) : List V := [.str "pledge", .int r, .int n, .int a, .int h]
def plgD (r n a h : Int) : PyData := .tuple [.str "pledge", .int r, .int n, .int a, .int h]
def renK (r : Int) (ms : List Int) (y : KP) : KP := if y.r < r then ⟨r, y.S.filter fun p => decide (p.1 ∈ ms), y.ns.filter fun m => decide (m ∈ ms)⟩ else y
def renP (r : Int) (ms : List Int) (p : Cp) : Cp := { p with key := p.key.map (renK r ms) }
def spPlgG (K : PySem.W.Frag) (C CK : Addr) : Sp := fun vs H Q _ => ∃ (n i : Int) (a : Ad) (p : Cp) (r : Int) (mt : Addr) (ms : List Int), vs = [.ref a.o, .int r, .ref mt] ∧ CgAt K H C CK n i a p ∧ GoodG n i p ∧ SqT K H mt (ms.map V.int) ∧
  ∀ t a' H', ChgS (fpG a p) H H' → CgAt K H' C CK n i a' (renP r ms p) → a'.o = a.o → (∀ x ∈ fpG a' (renP r ms p), x ∈ fpG a p ∨ H x = none) → (∀ x ∈ fpG a p, H' x ≠ none) → SqT K H' t (plgV r (p.f i) (askN p.st) (hasN p)) → Q (.ref t) H'
theorem CgAt.al {H : Hp} {n i : Int} {a : Ad} {p : Cp} (A : CgAt K H C CK n i a p) : ∀ x ∈ fpG a p, H x ≠ none := fun x hx e => fp_free A e hx
theorem sc_Caller_pledge : FnScope ["self", "of_round", "members", "asks", "has"] ["self", "of_round", "members"] (defScope s_Caller_pledge) :=
  ⟨rfl, rfl, rfl, by decide +kernel, rfl, by decide +kernel, by decide +kernel⟩
theorem ok_plgG (F : Fun K "_pledge" "Caller._pledge" s_Caller_pledge f fd) (S : CalT K C) (KT : KeyT K CK) (MR : Me P w K mg base CK "renew" 1 ["self", "of_round", "members"] (spRenew K CK)) : FnOk P w K mg base CX0 2 f fd ["self", "of_round", "members"] (spPlgG K C CK) := by
  obtain ⟨fR, fdR, GR, bR, mR⟩ := MR
  refine F.ok sc_Caller_pledge (fun vs H Q E h => ?_) (fun cdv A outer s H vs Q E hr h => ?_)
  · obtain ⟨_, _, _, _, _, _, _, rfl, _⟩ := h
    rfl
  obtain ⟨n, i, a, p, r, mt, ms, rfl, B, G, hm, q⟩ := h
  have hr1 : Room 1 _ := hr.mono (by decide)
  refine ⟨_, (pss_cons (ps_if (PW.pt (pw_and (pt_cmpR op_notN (pe_fld (pv 0) (by rfl)) pe_non (nomark _)) (pw_and1 (pt_cmpR op_lt (pe_fld (pe_fld (pv 0) (by rfl)) (by rfl)) (pv 1) (nomark _)))))
    (pss_one (ps_expr (pe_meth (pe_fld (pv 0) (by rfl)) KT.cl mR GR hr1 bR .nil pass0 (pa_cons (pv 1) (pa_cons (pv 2) pa_nil)))))
    pss_nil)
    (pss_cons (ps_set (i := 3) sc_Caller_pledge.nd rfl (Or.inl rfl) (pe_ifExp (pt_cmpR op_eq (pe_fld (pv 0) (by rfl)) pe_str (nomark _)) pe_int pe_int))
    (pss_cons (ps_set (i := 4) sc_Caller_pledge.nd rfl (Or.inl rfl) (pe_ifExp (pt_cmpR op_isN (pe_fld (pv 0) (by rfl)) pe_non (nomark _)) pe_int pe_int))
    (pss_one (ps_ret (pe_tup (pa_cons pe_str (pa_cons (pv 1) (pa_cons (pe_ix ix_list (pe_fld (pv 0) (by rfl)) (pe_fld (pv 0) (by rfl)) (fun _ _ => rfl)) (pa_cons (pv 3) (pa_cons (pv 4) pa_nil))))))))))), ?_⟩
  have kno := fun (r : Int) (d l : Addr) (x : Str) (h1 : x ≠ "round") (h2 : x ≠ "_served") (h3 : x ≠ "_line") => keF_no r d l h1 h2 h3
  apply goJ (fun σ G' => σ = [some (V.ref a.o), some (V.int r), some (V.ref mt), none, none] ∧ ∃ a', ChgS (fpG a p) H G' ∧ CgAt K G' C CK n i a' (renP r ms p) ∧ a'.o = a.o ∧ (∀ x ∈ fpG a' (renP r ms p), x ∈ fpG a p ∨ H x = none) ∧ (∀ x ∈ fpG a p, G' x ≠ none))
  · intro J
    obtain ⟨kvs, A0, PL⟩ := B.at_
    cases ek : p.key with
    | none =>
      have ekv : keyG a p = .non := by unfold keyG; rw [ek]
      have eR : renP r ms p = p := by unfold renP; rw [ek]; show { p with key := none } = p; rw [← ek]
      rw [ekv] at A0
      refine ⟨_, rfl, a.o, C, a.dx, _, _, rfl, A0.hp, S.cl, S.key, caF_key _ _ _ _ _ _ _ _ _, rfl, _, rfl, iteF' rfl (iteF ?_)⟩
      refine J _ _ ⟨rfl, a, ChgS.refl, by rw [eR]; exact B, rfl, fun x hx => .inl (by rw [eR] at hx; exact hx), B.al⟩
    | some y =>
      have ekv : keyG a p = .ref a.k := by unfold keyG; rw [ek]
      obtain ⟨KA, dpl, lnu, lro, up⟩ := B.key y ek
      rw [ekv] at A0
      refine ⟨_, rfl, a.o, C, a.dx, _, _, rfl, A0.hp, S.cl, S.key, caF_key _ _ _ _ _ _ _ _ _, rfl, _, rfl, iteT' (by rw [dec_refn]; rfl) ?_⟩
      refine ⟨_, rfl, a.o, C, a.dx, _, _, rfl, A0.hp, S.cl, S.key, caF_key _ _ _ _ _ _ _ _ _, a.k, CK, a.dk, _, _, rfl, KA.hp, KT.cl, KT.round, keF_rnd _ _ _, _, rfl, _, _, rfl, rfl, _, rfl, ?_⟩
      by_cases lt : y.r < r
      · refine iteT' (decide_eq_true lt) ?_
        refine ⟨_, rfl, a.o, C, a.dx, _, _, rfl, A0.hp, S.cl, S.key, caF_key _ _ _ _ _ _ _ _ _, a.k, a.dk, _, rfl, KA.hp, kno _ _ _ _ (by decide +kernel) (by decide +kernel) (by decide +kernel), _, rfl, _, rfl, a.k, a.dk, mt, y.r, r, a.d, a.l, y.S, y.ns, ms, rfl, KA, hm, fun d' l' H1 hd hl dl c1 K1 => ?_⟩
        have eR : renP r ms p = { p with key := some ⟨r, y.S.filter fun p => decide (p.1 ∈ ms), y.ns.filter fun m => decide (m ∈ ms)⟩ } := by unfold renP; rw [ek]; show { p with key := some (renK r ms y) } = _; unfold renK; rw [if_pos lt]
        have cs : ChgS (fpG a p) H H1 := Chg.s c1 (by simp [fpG, ek, fpK])
        have qk := ca_ne_ke A0.hp KA.hp
        have A1 := A0.chg1 KA.hp qk c1
        have PL1 := plg_chg (fun x hx => B.mut x hx) cs PL
        refine J _ _ ⟨rfl, { a with d := d', l := l' }, cs, ?_, rfl, ?_, fun x hx => ?_⟩
        · rw [eR]
          exact ⟨⟨kvs, A1, PL1⟩, fun y2 e2 => by cases e2; exact ⟨K1, (ne_of_none A0.hpl hd).symm, (ne_of_none A0.hn hl).symm, (ne_of_none A0.hr hl).symm, up.sublist (List.filter_sublist.map _)⟩, B.rn⟩
        · rw [eR]
          intro x hx
          have hx : x ∈ [a.o, a.ro, a.nu, a.pl] ++ [a.k, d', l'] := hx
          rcases List.mem_append.mp hx with hx | hx
          · exact .inl (fp_mem hx)
          · simp only [List.mem_cons, List.not_mem_nil, or_false] at hx
            rcases hx with e | e | e
            · exact .inl (by rw [e]; simp [fpG, ek, fpK])
            · exact .inr (by rw [e]; exact hd)
            · exact .inr (by rw [e]; exact hl)
        · by_cases e : x = a.k
          · rw [e, K1.hp]; exact fun z => nomatch z
          · have := B.al x hx
            cases z : H x with
            | none => exact absurd z this
            | some o => rw [c1 _ _ e z]; exact fun z => nomatch z
      · refine iteF' (decide_eq_false lt) ?_
        have eR : renP r ms p = p := by unfold renP; rw [ek]; show { p with key := some (renK r ms y) } = p; unfold renK; rw [if_neg lt, ← ek]
        refine J _ _ ⟨rfl, a, ChgS.refl, by rw [eR]; exact B, rfl, fun x hx => .inl (by rw [eR] at hx; exact hx), B.al⟩
  rintro σ H1 ⟨rfl, a1, c1, B1, eo, sub, al⟩
  obtain ⟨kvs, A1, PL1⟩ := B1.at_
  have ekv : (keyG a1 (renP r ms p) = .non ∧ p.key = none) ∨ ∃ k, keyG a1 (renP r ms p) = .ref k ∧ p.key.isSome = true := by
    unfold keyG renP
    cases ek : p.key with
    | none => exact .inl ⟨rfl, rfl⟩
    | some y => exact .inr ⟨_, rfl, rfl⟩
  obtain ⟨kv, ekv2⟩ : ∃ kv, kv = keyG a1 (renP r ms p) := ⟨_, rfl⟩
  rw [← ekv2] at A1 ekv
  have A1 : CalAt H1 C a1.o a1.dx i p.st p.rnd a1.ro a1.nu kv p.bg a1.pl p.rs (msF n p.f) kvs := A1
  rw [← eo]
  refine ⟨_, rfl, a1.o, C, a1.dx, _, _, rfl, A1.hp, S.cl, S.state, caF_stt _ _ _ _ _ _ _ _ _, rfl, _, rfl, ?_⟩
  rw [dec_str]
  have fin : ∀ (z3 : Int), z3 = askN p.st → ∀ z4 : Int, z4 = hasN p → ∀ t, H1 t = none → Q (.ref t) (upd H1 t (.tup [.str "pledge", .int r, .int (p.f i), .int z3, .int z4])) := fun z3 e3 z4 e4 t ht => by
    have s := same_upd (o := .tup [.str "pledge", .int r, .int (p.f i), .int z3, .int z4]) ht
    refine q t a1 _ (c1.trans (Same.s s)) (B1.same s) eo sub (fun x hx e => al x hx (s.free e)) ?_
    unfold plgV
    rw [← e3, ← e4]
    exact SqT.of upd_same
  by_cases c : p.st = "asking"
  · refine iteT' (decide_eq_true c) ?_
    refine ⟨_, rfl, a1.o, C, a1.dx, _, _, rfl, A1.hp, S.cl, S.key, caF_key _ _ _ _ _ _ _ _ _, rfl, _, rfl, ?_⟩
    have num := at_ms (s := i) G.i0 (G.lms (f := p.f))
    rw [msF_get G.i0 G.i1] at num
    rcases ekv with ⟨ek, ep⟩ | ⟨k, ek, ep⟩
    · refine iteT' (by rw [ek]; rfl) ?_
      refine ⟨_, rfl, _, rfl, a1.o, C, a1.dx, _, _, rfl, A1.hp, S.cl, S.numbers, caF_nms _ _ _ _ _ _ _ _ _, _, rfl, a1.o, C, a1.dx, _, _, rfl, A1.hp, S.cl, S.me, caF_me _ _ _ _ _ _ _ _ _, a1.nu, _, _, _, rfl, rfl, SqL.of A1.hn, num, _, rfl, _, rfl, by show 5 ≤ sizeLine; decide, fun t ht => fin _ (by unfold askN; rw [if_pos c]) _ (by unfold hasN; rw [ep]; rfl) t ht⟩
    · refine iteF' (by rw [ek]; exact dec_refn) ?_
      refine ⟨_, rfl, _, rfl, a1.o, C, a1.dx, _, _, rfl, A1.hp, S.cl, S.numbers, caF_nms _ _ _ _ _ _ _ _ _, _, rfl, a1.o, C, a1.dx, _, _, rfl, A1.hp, S.cl, S.me, caF_me _ _ _ _ _ _ _ _ _, a1.nu, _, _, _, rfl, rfl, SqL.of A1.hn, num, _, rfl, _, rfl, by show 5 ≤ sizeLine; decide, fun t ht => fin _ (by unfold askN; rw [if_pos c]) _ (by unfold hasN; rw [ep]; rfl) t ht⟩
  · refine iteF' (decide_eq_false c) ?_
    refine ⟨_, rfl, a1.o, C, a1.dx, _, _, rfl, A1.hp, S.cl, S.key, caF_key _ _ _ _ _ _ _ _ _, rfl, _, rfl, ?_⟩
    have num := at_ms (s := i) G.i0 (G.lms (f := p.f))
    rw [msF_get G.i0 G.i1] at num
    rcases ekv with ⟨ek, ep⟩ | ⟨k, ek, ep⟩
    · refine iteT' (by rw [ek]; rfl) ?_
      refine ⟨_, rfl, _, rfl, a1.o, C, a1.dx, _, _, rfl, A1.hp, S.cl, S.numbers, caF_nms _ _ _ _ _ _ _ _ _, _, rfl, a1.o, C, a1.dx, _, _, rfl, A1.hp, S.cl, S.me, caF_me _ _ _ _ _ _ _ _ _, a1.nu, _, _, _, rfl, rfl, SqL.of A1.hn, num, _, rfl, _, rfl, by show 5 ≤ sizeLine; decide, fun t ht => fin _ (by unfold askN; rw [if_neg c]) _ (by unfold hasN; rw [ep]; rfl) t ht⟩
    · refine iteF' (by rw [ek]; exact dec_refn) ?_
      refine ⟨_, rfl, _, rfl, a1.o, C, a1.dx, _, _, rfl, A1.hp, S.cl, S.numbers, caF_nms _ _ _ _ _ _ _ _ _, _, rfl, a1.o, C, a1.dx, _, _, rfl, A1.hp, S.cl, S.me, caF_me _ _ _ _ _ _ _ _ _, a1.nu, _, _, _, rfl, rfl, SqL.of A1.hn, num, _, rfl, _, rfl, by show 5 ≤ sizeLine; decide, fun t ht => fin _ (by unfold askN; rw [if_neg c]) _ (by unfold hasN; rw [ep]; rfl) t ht⟩
/-! ### a round is heard -/
def hearRndG (i : Int) (p : Cp) (s r : Int) (ms : List Int) : Cp × List PyData := if r ≤ p.rnd then (p, []) else (renP r ms { p with rnd := r }, [toD (plgD r (p.f i) (askN p.st) (hasN p)) s])
def spRndG (K : PySem.W.Frag) (C CK : Addr) : Sp := fun vs H Q _ => ∃ (n i : Int) (a : Ad) (p : Cp) (s r : Int) (mt : Addr) (ms : List Int), vs = [.ref a.o, .int s, .int r, .ref mt] ∧ CgAt K H C CK n i a p ∧ GoodG n i p ∧ SqT K H mt (ms.map V.int) ∧ RetG K C CK n i H a p Q (hearRndG i p s r ms)
theorem sc_Caller_hear_round : FnScope ["self", "sender", "of_round", "members"] ["self", "sender", "of_round", "members"] (defScope s_Caller_hear_round) :=
  ⟨rfl, rfl, rfl, by decide +kernel, rfl, by decide +kernel, by decide +kernel⟩
theorem ok_rndG (F : Fun K "_hear_round" "Caller._hear_round" s_Caller_hear_round f fd) (S : CalT K C) (MP : Me P w K mg base C "_pledge" 2 ["self", "of_round", "members"] (spPlgG K C CK)) : FnOk P w K mg base CX0 3 f fd ["self", "sender", "of_round", "members"] (spRndG K C CK) := by
  obtain ⟨fP, fdP, GP, bP, mP⟩ := MP
  refine F.ok sc_Caller_hear_round (fun vs H Q E h => ?_) (fun cdv A outer s H vs Q E hr h => ?_)
  · obtain ⟨_, _, _, _, _, _, _, _, rfl, _⟩ := h
    rfl
  obtain ⟨n, i, a, p, s', r, mt, ms, rfl, B, G, hm, q⟩ := h
  refine ⟨_, (pss_cons (ps_if (pt_cmpR op_le (pv 2) (pe_fld (pv 0) (by rfl)) (nomark _))
    (pss_one (ps_ret (pe_lst pa_nil)))
    pss_nil)
    (pss_cons (ps_fld (pv 0) (pv 2) rfl)
    (pss_one (ps_ret (pe_lst (pa_cons (pe_tup (pa_cons (pv 1) (pa_cons (pe_meth (pv 0) S.cl mP GP hr bP .nil pass0 (pa_cons (pv 2) (pa_cons (pv 3) pa_nil))) pa_nil))) pa_nil)))))), ?_⟩
  obtain ⟨kvs, A0, PL⟩ := B.at_
  refine ⟨_, rfl, _, rfl, a.o, C, a.dx, _, _, rfl, A0.hp, S.cl, S.round, caF_rnd _ _ _ _ _ _ _ _ _, _, _, rfl, rfl, _, rfl, ?_⟩
  unfold hearRndG at q
  by_cases le : r ≤ p.rnd
  · rw [if_pos le] at q
    refine iteT' (decide_eq_true le) ?_
    exact ⟨Nat.zero_le _, fun z hz => q z [] a _ (Same.s (same_upd hz)) (B.same (same_upd hz)) rfl (fun x hx => .inl hx) (.inr hz) (fp_free B hz) upd_same .nil⟩
  · rw [if_neg le] at q
    refine iteF' (decide_eq_false le) ?_
    refine ⟨_, rfl, _, rfl, a.o, C, a.dx, _, rfl, A0.hp, S.cl, S.round, (by show 9 < 1000; decide), ?_⟩
    rw [caF_put_rnd]
    have cq : Chg a.o H (upd H a.o (.ins C a.dx (caF i p.st false r a.ro a.nu (keyG a p) p.bg a.pl))) := Chg.self
    have cs : ChgS (fpG a p) H (upd H a.o (.ins C a.dx (caF i p.st false r a.ro a.nu (keyG a p) p.bg a.pl))) := Chg.s cq (by simp [fpG])
    have B1 : CgAt K (upd H a.o (.ins C a.dx (caF i p.st false r a.ro a.nu (keyG a p) p.bg a.pl))) C CK n i a { p with rnd := r } := by
      refine ⟨⟨kvs, ⟨upd_same, cq _ _ (ne_of A0.hr A0.hp (by intro z; cases z)) A0.hr, cq _ _ (ne_of A0.hn A0.hp (by intro z; cases z)) A0.hn, cq _ _ (ne_of A0.hpl A0.hp (by intro z; cases z)) A0.hpl⟩, plg_chg (fun x hx => B.mut x hx) cs PL⟩, fun y e => ?_, B.rn⟩
      obtain ⟨KA, o⟩ := B.key y e
      exact ⟨KA.chg A0.hp (ca_ne_ke A0.hp KA.hp).symm cq, o⟩
    have hm1 := sqt_chgI A0.hp cq hm
    have efp : fpG a { p with rnd := r } = fpG a p := rfl
    have al1 : ∀ x ∈ fpG a p, upd H a.o (.ins C a.dx (caF i p.st false r a.ro a.nu (keyG a p) p.bg a.pl)) x ≠ none := B1.al
    obtain ⟨A1kv, A1, _⟩ := B1.at_
    have A1 : CalAt (upd H a.o (.ins C a.dx (caF i p.st false r a.ro a.nu (keyG a p) p.bg a.pl))) C a.o a.dx i p.st r a.ro a.nu (keyG a p) p.bg a.pl p.rs (msF n p.f) A1kv := A1
    refine ⟨_, rfl, _, rfl, a.o, a.dx, _, rfl, A1.hp, (A1.no "_pledge").2, _, rfl, _, rfl, n, i, a, { p with rnd := r }, r, mt, ms, rfl, B1, { G with }, hm1, fun t a' H2 c2 B2 eo sub al qt => ?_⟩
    have c2 : ChgS (fpG a p) _ H2 := c2
    have c02 := cs.trans c2
    refine ⟨by show 2 ≤ sizeLine; decide, fun t2 ht2 => ?_⟩
    have s3 := same_upd (o := .tup [.int s', .ref t]) ht2
    refine ⟨by show 1 ≤ sizeLine; decide, fun z hz => ?_⟩
    have s4 := same_upd (o := .lst [.ref t2]) hz
    have s34 := s3.trans s4
    have bk : ∀ {x : Addr}, H2 x = none → H x = none := fun e => c02.back e fun m => al _ m e
    have hz2 := s3.free hz
    refine q z [.ref t2] a' _ (c02.trans (Same.s s34)) (B2.same s34) eo (fun x hx => ?_) (.inr (bk hz2)) (fp_free B2 hz2) upd_same (.cons (.tup (SqT.of (s4 _ _ upd_same)) (.cons (.int _) (.cons (.tup (sqt_same s34 qt) (.cons (.str _) (.cons (.int _) (.cons (.int _) (.cons (.int _) (.cons (.int _) .nil)))))) .nil))) .nil)
    rcases sub x hx with z | z
    · exact .inl z
    · exact .inr (cs.back z fun m => al1 x m z)
end

end G0
namespace G0
open PySem PySem.Spec PyProof.Rows L2 NdefX ClX
set_option maxHeartbeats 4000000
theorem lc_vals {K : PySem.W.Frag} {d : Addr} {o : Obj} {kvs : List (Key × V)} {g : TG} {tt : TT} {te : TE} {vs : List Nat} {σ : L2.St} {H1 : Hp} {D : Addr} {Qd : Hp → Prop} (Pv : Nat → Hp → Prop) (h0 : Pv 0 (upd H1 D (.lst []))) (hl : ∀ i H, i ≤ kvs.length → Pv i H → H d = some (.frz o (.dK kvs)))
    (hs : ∀ i k x H, kvs[i]? = some (k, x) → Pv i H → g x (wipe σ vs) H fun σ2 H2 => wipe σ2 vs = wipe σ vs ∧ tt σ2 H2 fun b H3 =>
      if b = true then te σ2 H3 fun y H4 => ∃ acc, H4 D = some (.lst acc) ∧ acc.length < sizeLine ∧ Pv (i + 1) (upd H4 D (.lst (acc ++ [y]))) else Pv (i + 1) H3) (hd : ∀ H, Pv kvs.length H → Qd H) :
    ∃ W : Nat → Nat → Hp → Prop, (∃ m, W 0 m (upd H1 D (.lst []))) ∧ ∀ i m H, W i m H →
      ((Itd d o kvs).stop i H ∧ Qd H) ∨ ((Itd d o kvs).go i H ∧ ∃ Nx : Hp → Prop, (∀ H', Nx H' → ∃ m', m' < m ∧ W (i + 1) m' H') ∧ ∀ x H', (Itd d o kvs).yld i H x H' → g x (wipe σ vs) H' fun σ2 H2 => wipe σ2 vs = wipe σ vs ∧ tt σ2 H2 fun b H3 =>
        if b = true then te σ2 H3 fun y H4 => ∃ acc, H4 D = some (.lst acc) ∧ acc.length < sizeLine ∧ Nx (upd H4 D (.lst (acc ++ [y]))) else Nx H3) := by
  refine ⟨fun i m H => m = kvs.length - i ∧ i ≤ kvs.length ∧ Pv i H, ⟨kvs.length, by simp, Nat.zero_le _, h0⟩, ?_⟩
  rintro i m H ⟨rfl, hi, p⟩
  have q := hl i H hi p
  by_cases hlt : i < kvs.length
  · refine .inr ⟨⟨q, hlt⟩, Pv (i + 1), fun H' p' => ⟨kvs.length - (i + 1), by omega, rfl, hlt, p'⟩, fun x H' y => ?_⟩
    obtain ⟨e, k, hk⟩ := y
    subst e
    exact hs i k x _ hk p
  · have e : i = kvs.length := by omega
    subst e
    exact .inl ⟨⟨q, Nat.le_refl _⟩, hd H p⟩
section
variable {P : Program} {w : World} {K : PySem.W.Frag} {mg : Str → Option Value} {base : Heap} {C CK f : Addr} {fd : FuncData}
/-! ### a pledge is heard; no key comes to be by it -/
def two1 (ps : List (Int × Int × Int)) : List (Int × Int) := ps.map fun p => (p.1, p.2.1)
def putPl (p : Cp) (s num ask h : Int) : Cp := { p with f := learnF p.f s num, ps := putP p.ps s (num - ask) h }
def waitsG (p : Cp) : Prop := awF p.rs (two1 p.ps) ≠ [] ∨ ∃ q ∈ p.ps, q.2.2 = 1
def spPdG (K : PySem.W.Frag) (C CK : Addr) : Sp := fun vs H Q _ => ∃ (n i : Int) (a : Ad) (p : Cp) (s : Int) (lt : Addr) (r num ask h : Int), vs = [.ref a.o, .int s, .ref lt] ∧ CgAt K H C CK n i a p ∧ GoodG n i p ∧ SqT K H lt (plgV r num ask h) ∧ 0 ≤ s ∧ s < n ∧
  ((p.bg ≠ .int r ∧ RetG K C CK n i H a p Q (p, [])) ∨ (p.bg = .int r ∧ waitsG (putPl p s num ask h) ∧ RetG K C CK n i H a p Q (putPl p s num ask h, [])))
structure BlP0 (mg : Str → Option Value) : Prop where
  len : mg "len" = none
  any : mg "any" = none
theorem sc_Caller_hear_pledge : FnScope ["self", "sender", "pledge", "_", "of_round", "number", "asks", "has", "told"] ["self", "sender", "pledge"] (defScope s_Caller_hear_pledge) :=
  ⟨rfl, rfl, rfl, by decide +kernel, rfl, by decide +kernel, by decide +kernel⟩
theorem ok_pdG (F : Fun K "_hear_pledge" "Caller._hear_pledge" s_Caller_hear_pledge f fd) (T : BlP0 mg) (S : CalT K C) (ML : Me P w K mg base C "_learn" 1 ["self", "seat", "number"] (spLearn C)) (MW : Me P w K mg base C "awaits" 1 ["self"] (spAw K C)) :
    FnOk P w K mg base CX0 2 f fd ["self", "sender", "pledge"] (spPdG K C CK) := by
  obtain ⟨fL, fdL, GL, bL, mL⟩ := ML
  obtain ⟨fW, fdW, GW, bW, mW⟩ := MW
  refine F.ok sc_Caller_hear_pledge (fun vs H Q E h => ?_) (fun cdv A outer s H vs Q E hr h => ?_)
  · obtain ⟨_, _, _, _, _, _, _, _, _, _, rfl, _⟩ := h
    rfl
  obtain ⟨n, i, a, p, s', lt, r, num, ask, hh, rfl, B, G, hl, h0, h1, two⟩ := h
  have hr1 : Room 1 _ := hr.mono (by decide)
  refine ⟨_, (pss_cons (ps_asg (pv 2) (pg_tup (by rfl) (pgs_cons (pg_name (i := 3) sc_Caller_hear_pledge.nd rfl (Or.inl rfl)) (pgs_cons (pg_name (i := 4) sc_Caller_hear_pledge.nd rfl (Or.inl rfl)) (pgs_cons (pg_name (i := 5) sc_Caller_hear_pledge.nd rfl (Or.inl rfl)) (pgs_cons (pg_name (i := 6) sc_Caller_hear_pledge.nd rfl (Or.inl rfl)) (pgs_cons (pg_name (i := 7) sc_Caller_hear_pledge.nd rfl (Or.inl rfl)) pgs_nil)))))))
    (pss_cons (ps_if (pt_cmpR op_ne (pv 4) (pe_fld (pv 0) (by rfl)) (nomark _))
    (pss_one (ps_ret (pe_lst pa_nil)))
    pss_nil)
    (pss_cons (ps_expr (pe_meth (pv 0) S.cl mL GL hr1 bL .nil pass0 (pa_cons (pv 1) (pa_cons (pv 5) pa_nil))))
    (pss_cons (ps_asg (pe_tup (pa_cons (pe_op op_sub (pv 5) (pv 6)) (pa_cons (pv 7) pa_nil))) (pg_sub (pe_fld (pv 0) (by rfl)) (pv 1) (set_dict (hu_of hr))))
    (pss_cons (ps_if (PW.pt (pw_or (pt_cmpR op_gt (pe_callB call_len_seq (by rfl) T.len (by decide +kernel) (pa_cons (pe_meth0 (pv 0) S.cl mW GW hr1 bW .nil pass0) pa_nil)) pe_int (nomark _)) (pw_or1 (pt_val (pe_callB (cr_any (by rfl)) (by rfl) T.any (by decide +kernel) (pa_cons (pe_lock (pe_lc (own := [("told", 8)]) (g := gName 8) (tt := tYes) (by rfl) sc_Caller_hear_pledge.nd (pi_values (pe_fld (pv 0) (by rfl))) (blkOk_by (N := ["self", "sender", "pledge", "_", "of_round", "number", "asks", "has", "told"]) (sc := defScope s_Caller_hear_pledge) (by decide +kernel)) (fun _ _ _ _ _ => pg_name (i := 8) sc_Caller_hear_pledge.nd rfl (Or.inl rfl)) (fun _ _ _ _ _ => pts_nil) (fun _ _ _ _ _ => (pe_cmpR op_eq (pe_ix (ix_tupK K) (pv 8) pe_int (fun _ _ => rfl)) pe_int (nomark _))))) pa_nil))))))
    (pss_one (ps_ret (pe_lst pa_nil)))
    pss_nil)
    (pss_one ps_dead)))))), ?_⟩
  obtain ⟨kvs, A0, PL⟩ := B.at_
  refine ⟨_, rfl, lt, _, rfl, hl, rfl, _, _, rfl, _, _, rfl, _, _, rfl, _, _, rfl, _, _, rfl, rfl, ?_⟩
  refine ⟨_, rfl, _, rfl, a.o, C, a.dx, _, _, rfl, A0.hp, S.cl, S.begun, caF_bgn _ _ _ _ _ _ _ _ _, by rcases G.bg with e | ⟨g, e⟩ <;> rw [e] <;> rfl, _, rfl, ?_⟩
  rcases two with ⟨ne, q⟩ | ⟨eb, wt, q⟩
  · refine iteT' (by rw [decide_eq_false (fun e => ne e.symm)]; rfl) ?_
    exact ⟨Nat.zero_le _, fun z hz => q z [] a _ (Same.s (same_upd hz)) (B.same (same_upd hz)) rfl (fun x hx => .inl hx) (.inr hz) (fp_free B hz) upd_same .nil⟩
  refine iteF' (by rw [decide_eq_true eb.symm]; rfl) ?_
  refine ⟨_, rfl, a.o, a.dx, _, rfl, A0.hp, (A0.no "_learn").2, _, rfl, _, rfl, a.o, a.dx, a.ro, a.nu, a.pl, i, p.rnd, s', num, p.st, keyG a p, p.bg, p.rs, msF n p.f, kvs, rfl, A0, h0, by rw [msF_len]; omega, ?_⟩
  rw [learn_F h0 h1]
  have efp : ∀ f ps, fpG a { p with f := f, ps := ps } = fpG a p := fun _ _ => rfl
  have nuF : a.nu ∈ fpG a p := by simp [fpG]
  have plF : a.pl ∈ fpG a p := by simp [fpG]
  have c1 : ChgS (fpG a p) H (upd H a.nu (.lst ((msF n (learnF p.f s' num)).map V.int))) := ChgS.refl.put nuF
  have PL1 := plg_chg (fun x hx => B.mut x hx) c1 PL
  have A1 : CalAt (upd H a.nu (.lst ((msF n (learnF p.f s' num)).map V.int))) C a.o a.dx i p.st p.rnd a.ro a.nu (keyG a p) p.bg a.pl p.rs (msF n (learnF p.f s' num)) kvs := ⟨(upd_ne (ne_of A0.hp A0.hn (by intro z; cases z))).trans A0.hp, (upd_ne B.rn).trans A0.hr, upd_same, (upd_ne (ne_of A0.hpl A0.hn (by intro z; cases z))).trans A0.hpl⟩
  have K1 : ∀ y, p.key = some y → KeyAt (upd H a.nu (.lst ((msF n (learnF p.f s' num)).map V.int))) CK a.k a.dk y.r a.d a.l y.S y.ns := fun y ey => by
    obtain ⟨KA, dpl, lnu, lro, up⟩ := B.key y ey
    exact { KA with hp := (upd_ne (ne_of KA.hp A0.hn (by intro z; cases z))).trans KA.hp, hd := (upd_ne (ne_of KA.hd A0.hn (by intro z; cases z))).trans KA.hd, hl := (upd_ne lnu).trans KA.hl }
  show tSeq _ _ _ _ (upd H a.nu (.lst ((msF n (learnF p.f s' num)).map V.int)))
  obtain ⟨H1, e1⟩ : ∃ H1, H1 = upd H a.nu (.lst ((msF n (learnF p.f s' num)).map V.int)) := ⟨_, rfl⟩
  rw [← e1] at c1 A1 PL1 K1
  rw [← e1]
  clear e1
  refine ⟨_, rfl, _, rfl, _, _, rfl, rfl, _, rfl, by show 2 ≤ sizeLine; decide, fun t ht => ?_⟩
  have s2 := same_upd (o := .tup [.int (num - ask), .int hh]) ht
  have A2 := A1.same s2
  refine ⟨_, rfl, a.o, C, a.dx, _, _, rfl, A2.hp, S.cl, S.pledges, caF_plg _ _ _ _ _ _ _ _ _, _, rfl, a.pl, _, rfl, .inl ⟨_, Sum.inl s', A2.hpl, rfl, ?_, rfl⟩, ?_⟩
  · rw [PL.len]
    have := G.ps
    exact Nat.lt_of_le_of_lt this (by decide)
  obtain ⟨kv2, ekv⟩ : ∃ kv2, kv2 = putK kvs (Sum.inl s') (V.ref t) := ⟨_, rfl⟩
  obtain ⟨ps2, ep2⟩ : ∃ ps2, ps2 = putP p.ps s' (num - ask) hh := ⟨_, rfl⟩
  have qt : SqT K (upd H1 t (.tup [.int (num - ask), .int hh])) t [.int (num - ask), .int hh] := SqT.of upd_same
  have PL3 : PlG K (upd (upd H1 t (.tup [.int (num - ask), .int hh])) a.pl (.dK kv2)) kv2 ps2 := by
    rw [ekv, ep2]
    refine ((PL1.same s2).put qt).kt fun x xs q => ?_
    rcases q with (z | ⟨o', z⟩) | z
    · exact .inl (.inl ((upd_ne (ne_of z A2.hpl (by intro z; cases z))).trans z))
    · exact .inl (.inr ⟨o', (upd_ne (ne_of z A2.hpl (by intro z; cases z))).trans z⟩)
    · exact .inr z
  rw [← ekv]
  have A3 : CalAt (upd (upd H1 t (.tup [.int (num - ask), .int hh])) a.pl (.dK kv2)) C a.o a.dx i p.st p.rnd a.ro a.nu (keyG a p) p.bg a.pl p.rs (msF n (learnF p.f s' num)) kv2 := ⟨(upd_ne (ne_of A2.hp A2.hpl (by intro z; cases z))).trans A2.hp, (upd_ne (ne_of A2.hr A2.hpl (by intro z; cases z))).trans A2.hr, (upd_ne (ne_of A2.hn A2.hpl (by intro z; cases z))).trans A2.hn, upd_same⟩
  have c3 : ChgS (fpG a p) H (upd (upd H1 t (.tup [.int (num - ask), .int hh])) a.pl (.dK kv2)) := (c1.trans (Same.s s2)).put plF
  have K3 : ∀ y, p.key = some y → KeyAt (upd (upd H1 t (.tup [.int (num - ask), .int hh])) a.pl (.dK kv2)) CK a.k a.dk y.r a.d a.l y.S y.ns := fun y ey => by
    have KA := (K1 y ey).same s2
    obtain ⟨_, dpl, _⟩ := B.key y ey
    exact { KA with hp := (upd_ne (ne_of KA.hp A2.hpl (by intro z; cases z))).trans KA.hp, hd := (upd_ne dpl).trans KA.hd, hl := (upd_ne (ne_of KA.hl A2.hpl (by intro z; cases z))).trans KA.hl }
  obtain ⟨H3, e3⟩ : ∃ H3, H3 = upd (upd H1 t (.tup [.int (num - ask), .int hh])) a.pl (.dK kv2) := ⟨_, rfl⟩
  rw [← e3] at PL3 A3 c3 K3
  rw [← e3]
  clear e3
  have B3 : CgAt K H3 C CK n i a (putPl p s' num ask hh) := by
    unfold putPl
    rw [← ep2]
    exact ⟨⟨kv2, A3, PL3⟩, fun y e => ⟨K3 y e, (B.key y e).2⟩, B.rn⟩
  refine ⟨_, rfl, a.o, a.dx, _, rfl, A3.hp, (A3.no "awaits").2, a.o, a.dx, i, p.st, p.rnd, a.ro, a.nu, keyG a p, p.bg, a.pl, p.rs, msF n (learnF p.f s' num), kv2, two1 ps2, rfl, A3, PL3.keys, G.l60, .inr ⟨⟨r, eb⟩, fun l H4 s4 hl4 kl4 => ?_⟩⟩
  refine ⟨l, _, rfl, .inl (SqL.of kl4), _, _, rfl, rfl, _, rfl, ?_⟩
  have fin : ∀ (H5 : Hp), Same H3 H5 → ∀ z, H5 z = none → Q (.ref z) (upd H5 z (.lst [])) := fun H5 s5 z hz => by
    have B5 := B3.same s5
    have bk : H z = none := c3.back (s5.free hz) fun m => fp_free B3 (s5.free hz) m
    exact q z [] a _ ((c3.trans (Same.s s5)).new hz) (B5.same (same_upd hz)) rfl (fun x hx => .inl hx) (.inr bk) (fp_free B5 hz) upd_same .nil
  by_cases az : awF p.rs (two1 ps2) = []
  rotate_left
  · refine iteT' (by
      rw [List.length_map]
      have := List.length_pos_iff.mpr az
      simp
      omega) (iteT ?_)
    exact ⟨Nat.zero_le _, fin H4 s4⟩
  refine iteF' (by rw [az]; rfl) ?_
  have A4 := A3.same s4
  have PL4 := PL3.same s4
  refine ⟨a.pl, _, A4.hpl, trivial, fun od => ?_⟩
  have fz : upd H4 a.pl (.frz od (.dK kv2)) a.pl = some (.frz od (.dK kv2)) := upd_same
  have qpl : a.o ≠ a.pl := ne_of A4.hp A4.hpl (by intro z; cases z)
  refine ⟨_, rfl, a.o, C, a.dx, _, _, rfl, (upd_ne qpl).trans A4.hp, S.cl, S.pledges, caF_plg _ _ _ _ _ _ _ _ _, a.pl, od, kv2, rfl, fz, fun D hD => ?_⟩
  have PDz : PlG K (upd H4 a.pl (.frz od (.dK kv2))) kv2 ps2 := PL4.kt fun a xs q => by
    rcases q with (z | ⟨o', z⟩) | z
    · exact .inl (.inl ((upd_ne (ne_of z A4.hpl (by intro z; cases z))).trans z))
    · exact .inl (.inr ⟨o', (upd_ne (ne_of z A4.hpl (by intro z; cases z))).trans z⟩)
    · exact .inr z
  have lk : kv2.length ≤ 501 := by
    have h1 := @putP_len p.ps s' (num - ask) hh
    rw [← ep2] at h1
    have h2 := G.ps
    rw [PL4.len]; omega
  refine lc_vals (K := K) (fun i G => Same (upd H4 a.pl (.frz od (.dK kv2))) G ∧ G D = some (.lst (((ps2.take i).map fun q => decide (q.2.2 = 1)).map V.bl))) ⟨same_upd hD, upd_same⟩ (fun i G _ h => h.1 _ _ fz) ?_ ?_
  · rintro j kk x G5 hx ⟨sG, kD⟩
    obtain ⟨q5, t2, hq5, rfl, q2⟩ := (PDz.same sG).at_ hx
    refine ⟨rfl, lc_yes ?_⟩
    refine ⟨_, rfl, t2, _, _, _, rfl, rfl, q2, atI_nat (j := 1) rfl, rfl, _, kD, ?_, fun a o e => ?_, ?_⟩
    · rw [List.length_map, List.length_map]
      have := (List.getElem?_eq_some_iff.mp hx).1
      have h2 := List.length_take_le j ps2
      exact Nat.lt_of_lt_of_le (show _ < 1000 by omega) (by decide)
    · rw [upd_ne (ne_of_none e hD)]
      exact sG _ _ e
    · rw [dec_ii, List.take_succ, hq5, List.map_append, List.map_append]
      exact upd_same
  rintro G5 ⟨sG, kD⟩
  rw [PL4.len, List.take_length] at kD
  have Dpl : D ≠ a.pl := (ne_of_none fz hD).symm
  have s5 : Same H4 (upd G5 a.pl (.dK kv2)) := fun b o e => by
    by_cases c : b = a.pl
    · rw [c] at e ⊢
      rw [upd_same, ← A4.hpl]
      exact e
    · rw [upd_ne c]
      exact sG _ _ ((upd_ne c).trans e)
  refine ⟨sG _ _ fz, D, _, rfl, SqL.of ((upd_ne Dpl).trans kD), ?_⟩
  refine ⟨_, rfl, ?_⟩
  refine iteT' ?_ ?_
  · rcases wt with z | ⟨q5, m5, e5⟩
    · exact absurd (by unfold putPl; rw [← ep2]; exact az) z
    · have m5 : q5 ∈ ps2 := by rw [ep2]; exact m5
      refine List.any_eq_true.mpr ⟨true, ?_, rfl⟩
      exact List.mem_map.mpr ⟨q5, m5, decide_eq_true e5⟩
  · exact ⟨Nat.zero_le _, fin _ (s4.trans s5)⟩
end

end G0
namespace G0
open PySem PySem.Spec PyProof.Rows L2 NdefX ClX
set_option maxHeartbeats 4000000
section
variable {P : Program} {w : World} {K : PySem.W.Frag} {mg : Str → Option Value} {base : Heap} {C CK f : Addr} {fd : FuncData}
/-! ### a round is begun; no key comes to be by it -/
theorem learnF_self {f : Int → Int} {s : Int} : learnF f s (f s) = f := by
  unfold learnF
  rw [ite_self]
  funext m
  unfold updI
  split
  · next e => rw [e]
  · rfl
def roundD (n : Int) (rs : List Int) : PyData := .tuple [.str "round", .int n, .tuple (rs.map PyData.int)]
def newR (p : Cp) : Cp := { p with rnd := p.rnd + 1, bg := .int (p.rnd + 1), ps := [] }
def begP (i : Int) (p : Cp) : Cp := putPl (renP (p.rnd + 1) p.rs (newR p)) i (p.f i) (askN p.st) (hasN p)
def beginG (i : Int) (p : Cp) : Cp × List PyData := (begP i p, (othR p.rs i).map (toD (roundD (p.rnd + 1) p.rs)))
def spBeginG (K : PySem.W.Frag) (C CK : Addr) : Sp := fun vs H Q _ => ∃ (n i : Int) (a : Ad) (p : Cp), vs = [.ref a.o] ∧ CgAt K H C CK n i a p ∧ GoodG n i p ∧ waitsG (begP i p) ∧ RetG K C CK n i H a p Q (beginG i p)
theorem sc_Caller_begin : FnScope ["self", "members", "sends"] ["self"] (defScope s_Caller_begin) :=
  ⟨rfl, rfl, rfl, by decide +kernel, rfl, by decide +kernel, by decide +kernel⟩
theorem ok_beginG (F : Fun K "_begin" "Caller._begin" s_Caller_begin f fd) (T : BlC71 mg) (S : CalT K C) (MO : Me P w K mg base C "_to_others" 1 ["self", "letter"] (spToO K C)) (MP : Me P w K mg base C "_pledge" 2 ["self", "of_round", "members"] (spPlgG K C CK)) (MH : Me P w K mg base C "_hear_pledge" 2 ["self", "sender", "pledge"] (spPdG K C CK)) :
    FnOk P w K mg base CX0 3 f fd ["self"] (spBeginG K C CK) := by
  obtain ⟨fO, fdO, GO, bO, mO⟩ := MO
  obtain ⟨fP, fdP, GP, bP, mP⟩ := MP
  obtain ⟨fH, fdH, GH, bH, mH⟩ := MH
  refine F.ok sc_Caller_begin (fun vs H Q E h => ?_) (fun cdv A outer s H vs Q E hr h => ?_)
  · obtain ⟨_, _, _, _, rfl, _⟩ := h
    rfl
  obtain ⟨n, i, a, p, rfl, B, G, wt, q⟩ := h
  have hr1 : Room 1 _ := hr.mono (by decide)
  have hr2 : Room 2 _ := hr.mono (by decide)
  refine ⟨_, (pss_cons (ps_fldaug (pv 0) pe_int in_add)
    (pss_cons (ps_fld (pv 0) (pe_fld (pv 0) (by rfl)) rfl)
    (pss_cons (ps_fld (pv 0) pe_dnewK rfl)
    (pss_cons (ps_set (i := 1) sc_Caller_begin.nd rfl (Or.inl rfl) (pe_callTy call_tuple_of (by rfl) T.tuple (by decide +kernel) (pa_cons (pe_fld (pv 0) (by rfl)) pa_nil)))
    (pss_cons (ps_set (i := 2) sc_Caller_begin.nd rfl (Or.inl rfl) (pe_meth (pv 0) S.cl mO GO hr1 bO .nil pass0 (pa_cons (pe_tup (pa_cons pe_str (pa_cons (pe_fld (pv 0) (by rfl)) (pa_cons (pv 1) pa_nil)))) pa_nil)))
    (pss_one (ps_ret (pe_op op_cat (pv 2) (pe_meth (pv 0) S.cl mH GH hr bH .nil pass0 (pa_cons (pe_fld (pv 0) (by rfl)) (pa_cons (pe_meth (pv 0) S.cl mP GP hr bP .nil pass0 (pa_cons (pe_fld (pv 0) (by rfl)) (pa_cons (pv 1) pa_nil))) pa_nil))))))))))), ?_⟩
  obtain ⟨kvs, A0, PL⟩ := B.at_
  refine ⟨_, rfl, a.o, C, a.dx, _, _, rfl, A0.hp, S.cl, S.round, caF_rnd _ _ _ _ _ _ _ _ _, ?_⟩
  refine ⟨_, _, rfl, rfl, ?_⟩
  refine ⟨a.dx, _, A0.hp, (by show 9 < 1000; decide), ?_⟩
  rw [caF_put_rnd]
  refine ⟨_, rfl, a.o, C, a.dx, _, _, rfl, upd_same, S.cl, S.round, caF_rnd _ _ _ _ _ _ _ _ _, _, rfl, a.o, C, a.dx, _, rfl, upd_same, S.cl, S.begun, (by show 9 < 1000; decide), ?_⟩
  rw [upd_upd, caF_put_bgn]
  obtain ⟨H1, e1⟩ : ∃ H1, H1 = upd H a.o (.ins C a.dx (caF i p.st false (p.rnd + 1) a.ro a.nu (keyG a p) (.int (p.rnd + 1)) a.pl)) := ⟨_, rfl⟩
  have k1 : H1 a.o = some (.ins C a.dx (caF i p.st false (p.rnd + 1) a.ro a.nu (keyG a p) (.int (p.rnd + 1)) a.pl)) := by rw [e1]; exact upd_same
  have c1 : Chg a.o H H1 := by rw [e1]; exact Chg.self
  rw [← e1]
  clear e1
  refine fun p2 hp2 => ?_
  have qp : a.o ≠ p2 := ne_of_none k1 hp2
  refine ⟨_, rfl, a.o, C, a.dx, _, rfl, (upd_ne qp).trans k1, S.cl, S.pledges, (by show 9 < 1000; decide), ?_⟩
  rw [caF_put_plg]
  have s2 := same_upd (o := .dK []) hp2
  have c2 : Chg a.o H1 (upd (upd H1 p2 (.dK [])) a.o (.ins C a.dx (caF i p.st false (p.rnd + 1) a.ro a.nu (keyG a p) (.int (p.rnd + 1)) p2))) := (Chg.same s2).trans Chg.self
  have c3 := c1.trans c2
  have p20 : H p2 = none := by
    cases z : H p2 with
    | none => rfl
    | some o => rw [c1 _ _ qp.symm z] at hp2; cases hp2
  have B2 : CgAt K (upd (upd H1 p2 (.dK [])) a.o (.ins C a.dx (caF i p.st false (p.rnd + 1) a.ro a.nu (keyG a p) (.int (p.rnd + 1)) p2))) C CK n i { a with pl := p2 } (newR p) := by
    refine ⟨⟨[], ⟨upd_same, c3 _ _ (ne_of A0.hr A0.hp (by intro z; cases z)) A0.hr, c3 _ _ (ne_of A0.hn A0.hp (by intro z; cases z)) A0.hn, (upd_ne qp.symm).trans upd_same⟩, .nil⟩, fun y e => ?_, B.rn⟩
    obtain ⟨KA, dpl, o⟩ := B.key y e
    exact ⟨KA.chg A0.hp (ca_ne_ke A0.hp KA.hp).symm c3, ne_of_none KA.hd p20, o⟩
  have cs : ChgS (fpG a p) H (upd (upd H1 p2 (.dK [])) a.o (.ins C a.dx (caF i p.st false (p.rnd + 1) a.ro a.nu (keyG a p) (.int (p.rnd + 1)) p2))) := Chg.s c3 (by simp [fpG])
  have al2 : ∀ x ∈ fpG a p, (upd (upd H1 p2 (.dK [])) a.o (.ins C a.dx (caF i p.st false (p.rnd + 1) a.ro a.nu (keyG a p) (.int (p.rnd + 1)) p2))) x ≠ none := fun x hx => by
    by_cases e : x = a.o
    · rw [e, upd_same]; exact fun z => nomatch z
    · have := B.al x hx
      cases z : H x with
      | none => exact absurd z this
      | some o => rw [c3 _ _ e z]; exact fun z => nomatch z
  obtain ⟨H2, e2⟩ : ∃ H2, H2 = upd (upd H1 p2 (.dK [])) a.o (.ins C a.dx (caF i p.st false (p.rnd + 1) a.ro a.nu (keyG a p) (.int (p.rnd + 1)) p2)) := ⟨_, rfl⟩
  rw [← e2] at B2 cs al2
  rw [← e2]
  clear e2 c2 s2 c3
  have sub2 : ∀ x ∈ fpG { a with pl := p2 } (newR p), x ∈ fpG a p ∨ H x = none := fun x hx => by
    have hx : x ∈ [a.o, a.ro, a.nu, p2] ++ fpK a p.key := hx
    rcases List.mem_append.mp hx with hx | hx
    · simp only [List.mem_cons, List.not_mem_nil, or_false] at hx
      rcases hx with e | e | e | e
      · exact .inl (by simp [e, fpG])
      · exact .inl (by simp [e, fpG])
      · exact .inl (by simp [e, fpG])
      · exact .inr (by rw [e]; exact p20)
    · exact .inl (List.mem_append.mpr (.inr hx))
  obtain ⟨kv2, A2, PL2⟩ := B2.at_
  have A2 : CalAt H2 C a.o a.dx i p.st (p.rnd + 1) a.ro a.nu (keyG a p) (.int (p.rnd + 1)) p2 p.rs (msF n p.f) kv2 := A2
  refine ⟨_, rfl, a.o, C, a.dx, _, _, rfl, A2.hp, S.cl, S.roster, caF_ros _ _ _ _ _ _ _ _ _, a.ro, _, rfl, .inl ⟨SqL.of A2.hr, fun tm htm => ?_⟩⟩
  have s3 := same_upd (o := .tup (p.rs.map V.int)) htm
  have A3 := A2.same s3
  refine ⟨_, rfl, a.o, a.dx, _, rfl, A3.hp, (A3.no "_to_others").2, _, rfl, a.o, C, a.dx, _, _, rfl, A3.hp, S.cl, S.round, caF_rnd _ _ _ _ _ _ _ _ _, _, rfl, by show 3 ≤ sizeLine; decide, fun t ht => ?_⟩
  have s4 := same_upd (o := .tup [.str "round", .int (p.rnd + 1), .ref tm]) ht
  have A4 := A3.same s4
  have d4 : Dp K (upd (upd H2 tm (.tup (p.rs.map V.int))) t (.tup [.str "round", .int (p.rnd + 1), .ref tm])) (.ref t) (roundD (p.rnd + 1) p.rs) := .tup (SqT.of upd_same) (.cons (.str _) (.cons (.int _) (.cons (.tup (SqT.of (s4 _ _ upd_same)) (dps_ints p.rs)) .nil)))
  refine ⟨a.o, a.dx, t, a.ro, a.nu, p2, i, p.rnd + 1, p.st, keyG a p, .int (p.rnd + 1), p.rs, msF n p.f, kv2, roundD (p.rnd + 1) p.rs, rfl, A4, d4, by simp [roundD, noL, noLs, noLs_intsD], G.l60, fun sl zs H5 s5 sl0 ksl dsl => ?_⟩
  have A5 := A4.same s5
  have s25 := (s3.trans s4).trans s5
  have B5 := B2.same s25
  have qtm : SqT K H5 tm (p.rs.map V.int) := SqT.of ((s4.trans s5) _ _ upd_same)
  have slF : sl ∉ fpG { a with pl := p2 } (newR p) := fun m => fp_free (B2.same (s3.trans s4)) sl0 m
  have GN : GoodG n i (newR p) := ⟨G.i0, G.i1, G.n60, G.nd, G.bnd, G.ns, Nat.zero_le _, .inr ⟨_, rfl⟩⟩
  refine ⟨_, rfl, _, rfl, a.o, a.dx, _, rfl, A5.hp, (A5.no "_hear_pledge").2, _, rfl, a.o, C, a.dx, _, _, rfl, A5.hp, S.cl, S.me, caF_me _ _ _ _ _ _ _ _ _, _, rfl, a.o, a.dx, _, rfl, A5.hp, (A5.no "_pledge").2, _, rfl, a.o, C, a.dx, _, _, rfl, A5.hp, S.cl, S.round, caF_rnd _ _ _ _ _ _ _ _ _, _, rfl, n, i, { a with pl := p2 }, newR p, p.rnd + 1, tm, p.rs, rfl, B5, GN, qtm, fun pt a6 H6 c6 B6 eo6 sub6 al6 qp6 => ?_⟩
  have ksl6 := c6 _ _ slF ksl
  have nls : noLs ((othR p.rs i).map (toD (roundD (p.rnd + 1) p.rs))) = true := noLs_of fun d hd => by
    obtain ⟨y, _, rfl⟩ := List.mem_map.mp hd
    exact noL_to (by simp [roundD, noL, noLs, noLs_intsD]) y
  have dsl6 := dps_kt (sqt_chgs c6 fun x hx => B5.mut x hx) _ _ nls dsl
  have sl6 : sl ∉ fpG a6 (renP (p.rnd + 1) p.rs (newR p)) := fun m => by
    rcases sub6 sl m with z | z
    · exact slF z
    · rw [z] at ksl; cases ksl
  have al25 : ∀ {x : Addr}, H2 x ≠ none → H5 x ≠ none := fun {x} h e => h (s25.free e)
  have c05 : ChgS (fpG a p) H H5 := cs.trans (Same.s s25)
  have bk5 : ∀ {x : Addr}, H5 x = none → H x = none := fun e => c05.back e fun m => al25 (al2 _ m) e
  have c06 : ChgS (fpG a p) H H6 := fun b o nb e => c6 b o (fun m => by
    rcases sub2 b m with z | z
    · exact nb z
    · rw [z] at e; cases e) (c05 b o nb e)
  have al06 : ∀ x ∈ fpG a p, H6 x ≠ none := fun x hx => by
    by_cases m : x ∈ fpG { a with pl := p2 } (newR p)
    · exact al6 x m
    · have := al25 (al2 x hx)
      cases z : H5 x with
      | none => exact absurd z this
      | some o => rw [c6 x o m z]; exact fun z => nomatch z
  have bk6 : ∀ {x : Addr}, H6 x = none → H x = none := fun e => c06.back e fun m => al06 _ m e
  have sub06 : ∀ x ∈ fpG a6 (renP (p.rnd + 1) p.rs (newR p)), x ∈ fpG a p ∨ H x = none := fun x hx => by
    rcases sub6 x hx with z | z
    · exact sub2 x z
    · exact .inr (bk5 z)
  have G6 : GoodG n i (renP (p.rnd + 1) p.rs (newR p)) := ⟨G.i0, G.i1, G.n60, G.nd, G.bnd, fun y e => by
    unfold renP at e
    have e : p.key.map (renK (p.rnd + 1) p.rs) = some y := e
    cases ek : p.key with
    | none => rw [ek] at e; cases e
    | some y0 =>
      rw [ek] at e
      have e : renK (p.rnd + 1) p.rs y0 = y := Option.some.inj e
      have := G.ns y0 ek
      unfold renK at e
      split at e
      · rw [← e]
        exact Nat.le_trans (List.length_filter_le _ _) this
      · rw [← e]; exact this, Nat.zero_le _, .inr ⟨_, rfl⟩⟩
  have eo6 : a6.o = a.o := eo6
  have lz : zs.length ≤ 60 := by
    have l1 := dps_len dsl
    rw [List.length_map] at l1
    have l2 := List.length_filter_le (fun s => !decide (s = i)) p.rs
    have l3 := G.l60
    unfold othR at l1
    omega
  rw [← eo6]
  refine ⟨n, i, a6, renP (p.rnd + 1) p.rs (newR p), i, pt, p.rnd + 1, p.f i, askN p.st, hasN p, rfl, B6, G6, qp6, G.i0, G.i1, .inr ⟨rfl, wt, fun z zs7 a7 H7 c7 B7 eo7 sub7 hz nz kz dz => ?_⟩⟩
  cases dz
  have ksl7 := c7 _ _ sl6 ksl6
  have dsl7 := dps_kt (sqt_chgs c7 fun x hx => B6.mut x hx) _ _ nls dsl6
  refine ⟨sl, z, _, _, rfl, rfl, ksl7, kz, Nat.le_trans (show zs.length + 0 ≤ 1000 by omega) (by decide), fun r hr => ?_⟩
  rw [List.append_nil]
  have s8 := same_upd (o := .lst zs) hr
  have c07 : ChgS (fpG a p) H H7 := fun b o nb e => c7 b o (fun m => by
    rcases sub06 b m with z | z
    · exact nb z
    · rw [z] at e; cases e) (c06 b o nb e)
  refine q r zs a7 _ (c07.trans (Same.s s8)) (B7.same s8) (eo7.trans eo6) (fun x hx => ?_) (bkF c07 hr) (fp_free B7 hr) upd_same (dps_same s8 _ _ dsl7)
  rcases sub7 x hx with z | z
  · exact sub06 x z
  · exact .inr (bk6 z)
end

end G0
namespace G0
open PySem PySem.Spec PyProof.Rows L2 NdefX ClX
set_option maxHeartbeats 4000000
section
variable {P : Program} {w : World} {K : PySem.W.Frag} {mg : Str → Option Value} {base : Heap} {C CK f : Addr} {fd : FuncData}
/-! ### one is gone -/
def goneP (p : Cp) (x : Int) : Cp := { p with rs := othR p.rs x }
def spGoneG (K : PySem.W.Frag) (C CK : Addr) : Sp := fun vs H Q _ => ∃ (n i : Int) (a : Ad) (p : Cp) (x y : Int) (ys : List Int), vs = [.ref a.o, .int x] ∧ CgAt K H C CK n i a p ∧ GoodG n i p ∧ othR p.rs x = y :: ys ∧
  ((y ≠ i ∧ RetG K C CK n i H a p Q (goneP p x, [])) ∨ (y = i ∧ waitsG (begP i (goneP p x)) ∧ RetG K C CK n i H a p Q (beginG i (goneP p x))))
theorem sc_Caller_gone : FnScope ["self", "seat", "other"] ["self", "seat"] (defScope s_Caller_gone) :=
  ⟨rfl, rfl, rfl, by decide +kernel, rfl, by decide +kernel, by decide +kernel⟩
theorem ok_goneG (F : Fun K "gone" "Caller.gone" s_Caller_gone f fd) (S : CalT K C) (MB : Me P w K mg base C "_begin" 3 ["self"] (spBeginG K C CK)) : FnOk P w K mg base CX0 4 f fd ["self", "seat"] (spGoneG K C CK) := by
  obtain ⟨fB, fdB, GB, bB, mB⟩ := MB
  refine F.ok sc_Caller_gone (fun vs H Q E h => ?_) (fun cdv A outer s H vs Q E hr h => ?_)
  · obtain ⟨_, _, _, _, _, _, _, rfl, _⟩ := h
    rfl
  obtain ⟨n, i, a, p, x, y, ys, rfl, B, G, ey, two⟩ := h
  refine ⟨_, (pss_cons (ps_fld (pv 0) (pe_lc (own := [("other", 2)]) (g := gName 2)  (by rfl) sc_Caller_gone.nd (pi_list (pe_fld (pv 0) (by rfl))) (blkOk_by (N := ["self", "seat", "other"]) (sc := defScope s_Caller_gone) (by decide +kernel)) (fun _ _ _ _ _ => pg_name (i := 2) sc_Caller_gone.nd rfl (Or.inl rfl)) (fun _ _ _ _ _ => pts_one (pt_cmpR op_ne (pv 2) (pv 1) (nomark _))) (fun _ _ _ _ _ => (pv 2))) rfl)
    (pss_cons (ps_if (pt_cmpR op_ne (pe_ix ix_list (pe_fld (pv 0) (by rfl)) pe_int (fun _ _ => rfl)) (pe_fld (pv 0) (by rfl)) (nomark _))
    (pss_one (ps_ret (pe_lst pa_nil)))
    pss_nil)
    (pss_one (ps_ret (pe_meth0 (pv 0) S.cl mB GB hr bB .nil pass0))))), ?_⟩
  obtain ⟨kvs, A0, PL⟩ := B.at_
  have l60 := G.l60
  refine ⟨_, rfl, a.o, C, a.dx, _, _, rfl, A0.hp, S.cl, S.roster, caF_ros _ _ _ _ _ _ _ _ _, a.ro, rfl, ⟨_, SqL.of A0.hr⟩, fun D hD => ?_⟩
  refine lc_filtI (K := K) (a := a.ro) (ns := p.rs) (fun s => !decide (s = x)) (by omega) hD (SqL.of A0.hr) (fun i z G Y B hx sG h => ?_) (fun G1 sG kD => ?_)
  · refine ⟨rfl, _, rfl, _, rfl, rfl, _, rfl, ?_⟩
    exact tst (by rw [dec_ii]) (fun y => ⟨_, rfl, y⟩) h
  have kD : G1 D = some (.lst ((othR p.rs x).map V.int)) := kD
  have A1 := A0.same sG
  have Dq : D ≠ a.o := (ne_of_none A0.hp hD).symm
  refine ⟨_, rfl, a.o, C, a.dx, _, rfl, A1.hp, S.cl, S.roster, (by show 9 < 1000; decide), ?_⟩
  rw [caF_put_ros]
  have cq : Chg a.o G1 (upd G1 a.o (.ins C a.dx (caF i p.st false p.rnd D a.nu (keyG a p) p.bg a.pl))) := Chg.self
  have cH : Chg a.o H (upd G1 a.o (.ins C a.dx (caF i p.st false p.rnd D a.nu (keyG a p) p.bg a.pl))) := (Chg.same sG).trans cq
  have cs : ChgS (fpG a p) H (upd G1 a.o (.ins C a.dx (caF i p.st false p.rnd D a.nu (keyG a p) p.bg a.pl))) := Chg.s cH (by simp [fpG])
  have B2 : CgAt K (upd G1 a.o (.ins C a.dx (caF i p.st false p.rnd D a.nu (keyG a p) p.bg a.pl))) C CK n i { a with ro := D } (goneP p x) := by
    refine ⟨⟨kvs, ⟨upd_same, (upd_ne Dq).trans kD, cq _ _ (ne_of A1.hn A1.hp (by intro z; cases z)) A1.hn, cq _ _ (ne_of A1.hpl A1.hp (by intro z; cases z)) A1.hpl⟩, plg_chg (fun x hx => B.mut x hx) cs PL⟩, fun y e => ?_, (ne_of_none A0.hn hD).symm⟩
    obtain ⟨KA, dpl, lnu, lro, up⟩ := B.key y e
    exact ⟨KA.chg A0.hp (ca_ne_ke A0.hp KA.hp).symm cH, dpl, lnu, ne_of_none KA.hl hD, up⟩
  have sub : ∀ z ∈ fpG { a with ro := D } (goneP p x), z ∈ fpG a p ∨ H z = none := fun z hz => by
    have hz : z ∈ [a.o, D, a.nu, a.pl] ++ fpK a p.key := hz
    rcases List.mem_append.mp hz with hz | hz
    · simp only [List.mem_cons, List.not_mem_nil, or_false] at hz
      rcases hz with e | e | e | e
      · exact .inl (by simp [e, fpG])
      · exact .inr (by rw [e]; exact hD)
      · exact .inl (by simp [e, fpG])
      · exact .inl (by simp [e, fpG])
    · exact .inl (List.mem_append.mpr (.inr hz))
  have G2 : GoodG n i (goneP p x) := ⟨G.i0, G.i1, G.n60, G.nd.filter _, fun m hm => G.bnd m (List.mem_filter.mp hm).1, G.ns, G.ps, G.bg⟩
  obtain ⟨H2, e2⟩ : ∃ H2, H2 = upd G1 a.o (.ins C a.dx (caF i p.st false p.rnd D a.nu (keyG a p) p.bg a.pl)) := ⟨_, rfl⟩
  rw [← e2] at B2 cs
  rw [← e2]
  clear e2 cq cH
  obtain ⟨kv2, A2, PL2⟩ := B2.at_
  have A2 : CalAt H2 C a.o a.dx i p.st p.rnd D a.nu (keyG a p) p.bg a.pl (othR p.rs x) (msF n p.f) kv2 := A2
  have kD2 := A2.hr
  rw [ey] at kD2
  refine ⟨_, rfl, a.o, C, a.dx, _, _, rfl, A2.hp, S.cl, S.roster, caF_ros _ _ _ _ _ _ _ _ _, D, _, _, .int y, rfl, rfl, SqL.of kD2, atI_nat (j := 0) rfl, _, rfl, a.o, C, a.dx, _, _, rfl, A2.hp, S.cl, S.me, caF_me _ _ _ _ _ _ _ _ _, rfl, _, rfl, ?_⟩
  rw [dec_ii]
  rcases two with ⟨ne, q⟩ | ⟨e, wt, q⟩
  · refine iteT' (by rw [decide_eq_false ne]; rfl) ?_
    refine ⟨Nat.zero_le _, fun z hz => ?_⟩
    exact q z [] { a with ro := D } _ (cs.trans (Same.s (same_upd hz))) (B2.same (same_upd hz)) rfl sub (bkF cs hz) (fp_free B2 hz) upd_same .nil
  · refine iteF' (by rw [decide_eq_true e]; rfl) ?_
    exact ⟨_, rfl, a.o, a.dx, _, rfl, A2.hp, (A2.no "_begin").2, n, i, { a with ro := D }, goneP p x, rfl, B2, G2, wt, q.from cs rfl sub⟩
/-! ### hear -/
def spHearG (K : PySem.W.Frag) (C CK : Addr) : Sp := fun vs H Q E => ∃ (q dx lt : Addr) (s : Int) (fs : List (Str × V)), vs = [.ref q, .int s, .ref lt] ∧ H q = some (.ins C dx fs) ∧ fs.lookup ("_hear_ask" : Str) = none ∧ fs.lookup ("_hear_key" : Str) = none ∧ fs.lookup ("_hear_round" : Str) = none ∧ fs.lookup ("_hear_pledge" : Str) = none ∧
  ((∃ v, SqT K H lt [.str "ask", .int v] ∧ spHearAsk K C CK [.ref q, .int s, .int v] H Q E0) ∨ (∃ xs, SqT K H lt (.str "key" :: xs) ∧ spHearKey K C CK [.ref q, .ref lt] H Q E0) ∨
    (∃ r mt, SqT K H lt [.str "round", .int r, .ref mt] ∧ spRndG K C CK [.ref q, .int s, .int r, .ref mt] H Q E0) ∨ ∃ xs, SqT K H lt (.str "pledge" :: xs) ∧ spPdG K C CK [.ref q, .int s, .ref lt] H Q E0)
theorem sc_Caller_hear : FnScope ["self", "sender", "letter", "word"] ["self", "sender", "letter"] (defScope s_Caller_hear) :=
  ⟨rfl, rfl, rfl, by decide +kernel, rfl, by decide +kernel, by decide +kernel⟩
theorem ok_hearG (F : Fun K "hear" "Caller.hear" s_Caller_hear f fd) (S : CalT K C) (MA : Me P w K mg base C "_hear_ask" 4 ["self", "sender", "number"] (spHearAsk K C CK)) (MK : Me P w K mg base C "_hear_key" 3 ["self", "letter"] (spHearKey K C CK))
    (MR : Me P w K mg base C "_hear_round" 3 ["self", "sender", "of_round", "members"] (spRndG K C CK)) (MP : Me P w K mg base C "_hear_pledge" 2 ["self", "sender", "pledge"] (spPdG K C CK)) : FnOk P w K mg base CX0 5 f fd ["self", "sender", "letter"] (spHearG K C CK) := by
  obtain ⟨fA, fdA, GA, bA, mA⟩ := MA
  obtain ⟨fK, fdK, GK, bK, mK⟩ := MK
  obtain ⟨fR, fdR, GR, bR, mR⟩ := MR
  obtain ⟨fP, fdP, GP, bP, mP⟩ := MP
  refine F.ok sc_Caller_hear (fun vs H Q E h => ?_) (fun cdv A outer s H vs Q E hr h => ?_)
  · obtain ⟨q, _, _, _, _, rfl, _⟩ := h
    rfl
  obtain ⟨q, dx, lt, s', fs, rfl, hp, n1, n2, n3, n4, four⟩ := h
  have hr4 : Room 4 _ := hr.mono (by decide)
  have hr3 : Room 3 _ := hr.mono (by decide)
  have hr2 : Room 2 _ := hr.mono (by decide)
  refine ⟨_, (pss_cons (ps_set (i := 3) sc_Caller_hear.nd rfl (Or.inl rfl) (pe_ix ix_tup (pv 2) pe_int (fun _ _ => rfl)))
    (pss_cons (ps_if (pt_cmpR op_eq (pv 3) pe_str (nomark _))
    (pss_one (ps_ret (pe_meth (pv 0) S.cl mA GA hr4 bA .nil pass0 (pa_cons (pv 1) (pa_cons (pe_ix ix_tup (pv 2) pe_int (fun _ _ => rfl)) pa_nil)))))
    pss_nil)
    (pss_cons (ps_if (pt_cmpR op_eq (pv 3) pe_str (nomark _))
    (pss_one (ps_ret (pe_meth (pv 0) S.cl mK GK hr3 bK .nil pass0 (pa_cons (pv 2) pa_nil))))
    pss_nil)
    (pss_cons (ps_if (pt_cmpR op_eq (pv 3) pe_str (nomark _))
    (pss_one (ps_ret (pe_meth (pv 0) S.cl mR GR hr3 bR .nil pass0 (pa_cons (pv 1) (pa_cons (pe_ix ix_tup (pv 2) pe_int (fun _ _ => rfl)) (pa_cons (pe_ix ix_tup (pv 2) pe_int (fun _ _ => rfl)) pa_nil))))))
    pss_nil)
    (pss_one (ps_ret (pe_meth (pv 0) S.cl mP GP hr2 bP .nil pass0 (pa_cons (pv 1) (pa_cons (pv 2) pa_nil))))))))), ?_⟩
  rcases four with ⟨v, hl, h⟩ | ⟨xs, hl, h⟩ | ⟨r, mt, hl, h⟩ | ⟨xs, hl, h⟩
  · refine ⟨_, rfl, lt, _, _, _, rfl, rfl, hl, atI_nat (j := 0) rfl, ?_⟩
    refine ⟨_, rfl, rfl, _, rfl, iteT' (by decide +kernel) ?_⟩
    exact ⟨_, rfl, q, dx, _, rfl, hp, n1, _, rfl, _, rfl, lt, _, _, _, rfl, rfl, hl, atI_nat (j := 1) rfl, h⟩
  · refine ⟨_, rfl, lt, _, _, _, rfl, rfl, hl, atI_nat (j := 0) rfl, ?_⟩
    refine ⟨_, rfl, rfl, _, rfl, iteF' (by decide +kernel) ?_⟩
    refine ⟨_, rfl, rfl, _, rfl, iteT' (by decide +kernel) ?_⟩
    exact ⟨_, rfl, q, dx, _, rfl, hp, n2, _, rfl, h⟩
  · refine ⟨_, rfl, lt, _, _, _, rfl, rfl, hl, atI_nat (j := 0) rfl, ?_⟩
    refine ⟨_, rfl, rfl, _, rfl, iteF' (by decide +kernel) ?_⟩
    refine ⟨_, rfl, rfl, _, rfl, iteF' (by decide +kernel) ?_⟩
    refine ⟨_, rfl, rfl, _, rfl, iteT' (by decide +kernel) ?_⟩
    exact ⟨_, rfl, q, dx, _, rfl, hp, n3, _, rfl, _, rfl, lt, _, _, _, rfl, rfl, hl, atI_nat (j := 1) rfl, _, rfl, lt, _, _, _, rfl, rfl, hl, atI_nat (j := 2) rfl, h⟩
  · refine ⟨_, rfl, lt, _, _, _, rfl, rfl, hl, atI_nat (j := 0) rfl, ?_⟩
    refine ⟨_, rfl, rfl, _, rfl, iteF' (by decide +kernel) ?_⟩
    refine ⟨_, rfl, rfl, _, rfl, iteF' (by decide +kernel) ?_⟩
    refine ⟨_, rfl, rfl, _, rfl, iteF' (by decide +kernel) ?_⟩
    exact ⟨_, rfl, q, dx, _, rfl, hp, n4, _, rfl, _, rfl, h⟩
/-- a caller, made ready for hear -/
theorem hearG_of {H : Hp} {n i s : Int} {a : Ad} {p : Cp} {lt : Addr} {Q : VK} {E : XK} (B : CgAt K H C CK n i a p) (h : (∃ v, SqT K H lt [.str "ask", .int v] ∧ spHearAsk K C CK [.ref a.o, .int s, .int v] H Q E0) ∨ (∃ xs, SqT K H lt (.str "key" :: xs) ∧ spHearKey K C CK [.ref a.o, .ref lt] H Q E0) ∨
    (∃ r mt, SqT K H lt [.str "round", .int r, .ref mt] ∧ spRndG K C CK [.ref a.o, .int s, .int r, .ref mt] H Q E0) ∨ ∃ xs, SqT K H lt (.str "pledge" :: xs) ∧ spPdG K C CK [.ref a.o, .int s, .ref lt] H Q E0) : spHearG K C CK [.ref a.o, .int s, .ref lt] H Q E := by
  obtain ⟨kvs, A0, _⟩ := B.at_
  exact ⟨a.o, a.dx, lt, s, _, rfl, A0.hp, (A0.no "_hear_ask").2, (A0.no "_hear_key").2, (A0.no "_hear_round").2, (A0.no "_hear_pledge").2, h⟩
theorem hearG_at {H : Hp} {n i s : Int} {a : Ad} {p : Cp} {lt q : Addr} {Q : VK} (eo : a.o = q) (B : CgAt K H C CK n i a p) (h : (∃ v, SqT K H lt [.str "ask", .int v] ∧ spHearAsk K C CK [.ref a.o, .int s, .int v] H Q E0) ∨ (∃ xs, SqT K H lt (.str "key" :: xs) ∧ spHearKey K C CK [.ref a.o, .ref lt] H Q E0) ∨
    (∃ r mt, SqT K H lt [.str "round", .int r, .ref mt] ∧ spRndG K C CK [.ref a.o, .int s, .int r, .ref mt] H Q E0) ∨ ∃ xs, SqT K H lt (.str "pledge" :: xs) ∧ spPdG K C CK [.ref a.o, .int s, .ref lt] H Q E0) : spHearG K C CK [.ref q, .int s, .ref lt] H Q E0 := by
  subst eo
  exact hearG_of B h
/-! ### what it bears, its numbers, whom it awaits -/
theorem bears_of {H : Hp} {n i : Int} {a : Ad} {p : Cp} {Q : VK} {E : XK} (B : CgAt K H C CK n i a p) (h : (p.key = none → Q .non H) ∧ ∀ y, p.key = some y → ∀ t H', Same H H' → Dp K H' (.ref t) (toldD y.r y.S y.ns) → Q (.ref t) H') : spBears K C CK [.ref a.o] H Q E := by
  obtain ⟨kvs, A0, _⟩ := B.at_
  refine ⟨a.o, a.dx, i, p.st, p.rnd, a.ro, a.nu, keyG a p, p.bg, a.pl, p.rs, msF n p.f, kvs, rfl, A0, ?_⟩
  cases ek : p.key with
  | none => exact .inl ⟨by unfold keyG; rw [ek], h.1 ek⟩
  | some y =>
    obtain ⟨KA, _, _, _, up⟩ := B.key y ek
    refine .inr ⟨a.k, a.dk, y.r, a.d, a.l, y.S, y.ns, by unfold keyG; rw [ek], KA, fun t S' H' s pm u dT => ?_⟩
    have := perm_up pm u up
    subst this
    exact h.2 y ek t H' s dT
theorem awaits_of {H : Hp} {n i g : Int} {a : Ad} {p : Cp} {Q : VK} {E : XK} (B : CgAt K H C CK n i a p) (G : GoodG n i p) (eb : p.bg = .int g) (h : ∀ l H', Same H H' → H l = none → H' l = some (.lst ((awF p.rs (two1 p.ps)).map V.int)) → Q (.ref l) H') : spAw K C [.ref a.o] H Q E := by
  obtain ⟨kvs, A0, PL⟩ := B.at_
  exact ⟨a.o, a.dx, i, p.st, p.rnd, a.ro, a.nu, keyG a p, p.bg, a.pl, p.rs, msF n p.f, kvs, two1 p.ps, rfl, A0, PL.keys, G.l60, .inr ⟨⟨g, eb⟩, h⟩⟩
end

end G0
namespace G0
open PySem PySem.Spec PyProof.Rows L2 NdefX ClX
section
variable {P : Program} {w : World} {K : PySem.W.Frag} {mg : Str → Option Value} {base : Heap} {C CK : Addr}
/-! ### the law's small defs -/
structure BlT0 (mg : Str → Option Value) : Prop extends BlL72 mg where
  tuple : mg "tuple" = none
  range : mg "range" = none
  int : mg "int" = none
def spCell (K : PySem.W.Frag) : Sp := fun vs H Q _ => ∃ (a : Addr) (ns : List Int) (k : Int), vs = [.ref a, .int k] ∧ SqL K H a (ns.map V.int) ∧ 0 ≤ k ∧ (∀ z ∈ ns, Builtin.Int.intBits z ≤ 1048576) ∧ ∀ c : Int, Builtin.Int.intBits c ≤ 1048576 → Q (.int c) H
theorem sc_law_cell_at : FnScope ["script", "k"] ["script", "k"] (defScope s_law_cell_at) :=
  ⟨rfl, rfl, rfl, by decide +kernel, rfl, by decide +kernel, by decide +kernel⟩
theorem ok_cell (F : Fn K mg "_law_cell_at" s_law_cell_at) (T : BlL72 mg) : Cal P w K mg base "_law_cell_at" 1 ["script", "k"] (spCell K) := by
  refine cal_of F sc_law_cell_at
    (fun _ _ _ _ _ _ us hl => match us, hl with | [_, _], _ => rfl) ?_ ?_
  · rintro vs H Q E ⟨a, ns, k, rfl, _⟩
    rfl
  rintro f cdv A outer s H vs Q E free hr ⟨a, ns, k, rfl, hS, k0, bits, q⟩
  refine ⟨_, (pss_cons (ps_if (pt_cmpR op_lt (pv 1) (pe_callB call_len_seq (by rfl) T.len (by decide +kernel) (pa_cons (pv 0) pa_nil)) (nomark _))
    (pss_one (ps_ret (pe_ix ix_list (pv 0) (pv 1) (fun _ _ => rfl))))
    pss_nil)
    (pss_one (ps_ret pe_int))), ?_⟩
  refine ⟨_, rfl, _, rfl, a, _, rfl, .inl hS, _, _, rfl, rfl, _, rfl, ?_⟩
  refine ite2 (fun c => ?_) (fun c => ?_)
  · have c' : k < (((ns.map V.int).length : Nat) : Int) := of_decide_eq_true c
    rw [List.length_map] at c'
    have hk : k.toNat < ns.length := by omega
    have at_ : atI (ns.map V.int) k = some (.int ns[k.toNat]) := by
      have := atI_nat (xs := ns.map V.int) (j := k.toNat) (v := .int ns[k.toNat]) (by rw [List.getElem?_map, List.getElem?_eq_getElem hk]; rfl)
      rwa [show ((k.toNat : Nat) : Int) = k by omega] at this
    exact ⟨_, rfl, _, rfl, a, _, _, _, rfl, rfl, hS, at_, q _ (bits _ (List.getElem_mem hk))⟩
  · exact q _ (by decide)
/-! ### _law_cells -/
def bitB (bits x : Int) : Bool := decide (Builtin.bitAnd (bits / 2 ^ x.toNat) 1 = 1)
def spAmong (K : PySem.W.Frag) : Sp := fun vs H Q _ => ∃ (bits : Int) (sl : Addr) (xs : List Int), vs = [.int bits, .ref sl] ∧ H sl = some (.lst (xs.map V.int)) ∧ xs.length ≤ 1000 ∧ (∀ x ∈ xs, 0 ≤ x ∧ x < 64) ∧
  ∀ l H', Same H H' → H l = none → H' l = some (.lst ((xs.filter (bitB bits)).map V.int)) → Q (.ref l) H'
theorem sc_law_among : FnScope ["bits", "seats", "seat"] ["bits", "seats"] (defScope s_law_among) :=
  ⟨rfl, rfl, rfl, by decide +kernel, rfl, by decide +kernel, by decide +kernel⟩
theorem ok_among (F : Fn K mg "_law_among" s_law_among) : Cal P w K mg base "_law_among" 1 ["bits", "seats"] (spAmong K) := by
  refine cal_of F sc_law_among
    (fun _ _ _ _ _ _ us hl => match us, hl with | [_, _], _ => rfl) ?_ ?_
  · rintro vs H Q E ⟨_, _, _, rfl, _⟩
    rfl
  rintro f cdv A outer s H vs Q E free hr ⟨bits, sl, xs, rfl, hs, l1, bx, q⟩
  refine ⟨_, (pss_one (ps_ret (pe_lc (own := [("seat", 2)]) (g := gName 2)  (by rfl) sc_law_among.nd (pi_list (pv 1)) (blkOk_by (N := ["bits", "seats", "seat"]) (sc := defScope s_law_among) (by decide +kernel)) (fun _ _ _ _ _ => pg_name (i := 2) sc_law_among.nd rfl (Or.inl rfl)) (fun _ _ _ _ _ => pts_one (pt_cmpR op_eq (pe_op op_and (pe_op op_shr (pv 0) (pv 2)) pe_int) pe_int (nomark _))) (fun _ _ _ _ _ => (pv 2))))), ?_⟩
  refine ⟨_, rfl, sl, rfl, ⟨_, SqL.of hs⟩, fun D hD => ?_⟩
  refine lc_filtI (K := K) (a := sl) (ns := xs) (bitB bits) (by omega) hD (SqL.of hs) (fun i x G Y B hx sG h => ?_) (fun G sG kD => q D G sG hD kD)
  have b := bx x (List.mem_of_getElem? hx)
  refine ⟨rfl, _, rfl, _, rfl, _, _, rfl, rfl, b.1, _, _, rfl, rfl, rfl, _, rfl, ?_⟩
  exact tst (by rw [dec_ii]; rfl) (fun y => ⟨_, rfl, y⟩) h
def spRound (K : PySem.W.Frag) : Sp := fun vs H Q _ => ∃ (n b : Int) (sm : Addr) (xs : List Int), vs = [.int n, .int b, .ref sm] ∧ H sm = some (.lst (xs.map V.int)) ∧ 0 ≤ b ∧ b < n ∧ n ≤ 60 ∧
  ∀ l H', Same H H' → H l = none → H' l = some (.lst ((rndF n b fun m => decide (m ∈ xs)).map V.int)) → Q (.ref l) H'
theorem sc_law_round_from : FnScope ["seats", "me", "some", "seat"] ["seats", "me", "some"] (defScope s_law_round_from) :=
  ⟨rfl, rfl, rfl, by decide +kernel, rfl, by decide +kernel, by decide +kernel⟩
theorem ok_round (F : Fn K mg "_law_round_from" s_law_round_from) (hR : mg "range" = none) (hL : mg "list" = none) : Cal P w K mg base "_law_round_from" 1 ["seats", "me", "some"] (spRound K) := by
  refine cal_of F sc_law_round_from
    (fun _ _ _ _ _ _ us hl => match us, hl with | [_, _, _], _ => rfl) ?_ ?_
  · rintro vs H Q E ⟨_, _, _, _, rfl, _⟩
    rfl
  rintro f cdv A outer s H vs Q E free hr ⟨n, b, sm, xs, rfl, hs, b0, b1, n60, q⟩
  refine ⟨_, (pss_one (ps_ret (pe_lc (own := [("seat", 3)]) (g := gName 3)  (by rfl) sc_law_round_from.nd (pi_list (pe_op op_cat (pe_listRg (by rfl) (by rfl) hL (prg_2 (by rfl) hR (pe_op op_add (pv 1) pe_int) (pv 0))) (pe_listRg (by rfl) (by rfl) hL (prg_1 (by rfl) hR (pe_op op_add (pv 1) pe_int))))) (blkOk_by (N := ["seats", "me", "some", "seat"]) (sc := defScope s_law_round_from) (by decide +kernel)) (fun _ _ _ _ _ => pg_name (i := 3) sc_law_round_from.nd rfl (Or.inl rfl)) (fun _ _ _ _ _ => pts_one (pt_cmpR (u_inK K) (pv 3) (pv 2) (by rfl))) (fun _ _ _ _ _ => (pv 3))))), ?_⟩
  refine ⟨_, rfl, _, _, rfl, rfl, _, rfl, _, _, rfl, rfl, RgOk.of_le (by omega) (by omega) (by omega) (by omega), fun l1 h1 => ?_⟩
  rw [rgV_I]
  have s1 := same_upd (o := .lst ((rgI (b + 1) n).map V.int)) h1
  refine ⟨_, rfl, _, _, rfl, rfl, _, rfl, RgOk.of_le (by omega) (by omega) (by omega) (by omega), fun l2 h2 => ?_⟩
  rw [rgV_I]
  have s2 := same_upd (o := .lst ((rgI 0 (b + 1)).map V.int)) h2
  have len : (rgI (b + 1) n ++ rgI 0 (b + 1)).length ≤ 100 := by
    rw [List.length_append]
    unfold rgI
    rw [List.length_map, List.length_map, List.length_range, List.length_range]
    omega
  refine ⟨l1, l2, _, _, rfl, rfl, s2 _ _ upd_same, upd_same, by rw [← List.length_append, ← List.map_append, List.length_map]; exact Nat.le_trans len (by decide), fun l3 h3 => ?_⟩
  rw [← List.map_append]
  have s3 := same_upd (o := .lst ((rgI (b + 1) n ++ rgI 0 (b + 1)).map V.int)) h3
  have s13 := (s1.trans s2).trans s3
  refine ⟨l3, rfl, ⟨_, SqL.of upd_same⟩, fun D hD => ?_⟩
  refine lc_filtI (K := K) (a := l3) (ns := rgI (b + 1) n ++ rgI 0 (b + 1)) (fun m => decide (m ∈ xs)) (by omega) hD (SqL.of upd_same) (fun i x G Y B hx sG h => ?_) (fun G sG kD => q D G (s13.trans sG) (s13.free hD) kD)
  refine ⟨rfl, _, rfl, _, rfl, .inl ⟨sm, _, rfl, .inl (SqL.of ((s13.trans sG) _ _ hs)), rfl, flat_ints _, _, rfl, ?_⟩⟩
  exact tst (by rw [inV_ints]; rfl) (fun y => ⟨_, rfl, y⟩) h
end
section
variable {P : Program} {w : World} {K : PySem.W.Frag} {mg : Str → Option Value} {base : Heap} {C CK : Addr}
structure MkC (P : Program) (w : World) (K : PySem.W.Frag) (mg : Str → Option Value) (base : Heap) (C CK : Addr) : Prop where
  made : ∃ f fd ds, FnOk P w K mg base CX0 3 f fd ["self", "me", "seats", "first"] (spCInit K C CK) ∧ Vals [.int 0] ds ∧ Binds K fd ["self", "me", "seats", "first"] ds ∧
    KBn K fd ["self", "me", "seats", "first"] 3 ["first"] (fun us ws => us ++ ws) (fun vs zs => vs ++ zs) ∧ Mk K C f
  mg : mg "Caller" = some (.ref C)
/-! ### the bits of a cell -/
def spBits : Sp := fun vs H Q _ => ∃ c : Int, vs = [.int c] ∧ ∀ b : Int, Q (.int b) H
theorem sc_law_bits : FnScope ["cell", "number", "other"] ["cell"] (defScope s_law_bits) :=
  ⟨rfl, rfl, rfl, by decide +kernel, rfl, by decide +kernel, by decide +kernel⟩
theorem ok_bits (F : Fn K mg "_law_bits" s_law_bits) : Cal P w K mg base "_law_bits" 1 ["cell"] spBits := by
  refine cal_of F sc_law_bits
    (fun _ _ _ _ _ _ us hl => match us, hl with | [_], _ => rfl) ?_ ?_
  · rintro vs H Q E ⟨_, rfl, _⟩
    rfl
  rintro f cdv A outer s H vs Q E free hr ⟨c, rfl, q⟩
  refine ⟨_, (pss_cons (ps_if (pt_cmpR op_ge (pv 0) (pe_op op_pow pe_int pe_int) (nomark _))
    (pss_one (ps_ret (pe_op op_mod (pv 0) (pe_op op_pow pe_int pe_int))))
    pss_nil)
    (pss_cons (ps_set (i := 1) sc_law_bits.nd rfl (Or.inl rfl) (pe_op op_mod (pe_op op_add (pe_op op_mul (pe_op op_mod (pv 0) pe_int) pe_int) pe_int) pe_int))
    (pss_cons (ps_set (i := 1) sc_law_bits.nd rfl (Or.inl rfl) (pe_op op_mod (pe_op op_mul (pv 1) (pv 1)) pe_int))
    (pss_cons (ps_set (i := 2) sc_law_bits.nd rfl (Or.inl rfl) (pe_op op_mod (pe_op op_add (pe_op op_mul (pv 1) pe_int) pe_int) pe_int))
    (pss_cons (ps_set (i := 2) sc_law_bits.nd rfl (Or.inl rfl) (pe_op op_mod (pe_op op_mul (pv 2) (pv 2)) pe_int))
    (pss_one (ps_ret (pe_op op_add (pe_op op_mul (pe_op op_fdivW (pv 1) pe_int) (pe_op op_pow pe_int pe_int)) (pe_op op_fdivW (pv 2) pe_int))))))))), ?_⟩
  refine ⟨_, rfl, _, _, rfl, rfl, ⟨by decide, by decide, by decide⟩, _, _, rfl, rfl, _, rfl, ?_⟩
  refine ite2 (fun _ => ?_) (fun _ => ?_)
  · exact ⟨_, rfl, _, _, rfl, rfl, ⟨by decide, by decide, by decide⟩, _, _, rfl, rfl, (by show (0 : Int) < 2 ^ 60; decide), q _⟩
  refine ⟨_, rfl, _, _, rfl, rfl, (by show (0 : Int) < 2147483647; decide), _, _, rfl, rfl, .inr ⟨by decide, by decide⟩, _, _, rfl, rfl, _, _, rfl, rfl, (by show (0 : Int) < 2147483647; decide), ?_⟩
  generalize h1 : (c % 2147483647 * 48271 + 11) % 2147483647 = x
  have x0 : 0 ≤ x := by rw [← h1]; exact Int.emod_nonneg _ (by decide)
  have x1 : x < 2147483647 := by rw [← h1]; exact Int.emod_lt_of_pos _ (by decide)
  refine ⟨_, rfl, _, rfl, _, _, rfl, rfl, .inl ⟨by omega, by omega⟩, _, _, rfl, rfl, (by show (0 : Int) < 2147483629; decide), ?_⟩
  generalize h2 : x * x % 2147483629 = y
  have y0 : 0 ≤ y := by rw [← h2]; exact Int.emod_nonneg _ (by decide)
  have y1 : y < 2147483629 := by rw [← h2]; exact Int.emod_lt_of_pos _ (by decide)
  refine ⟨_, rfl, _, _, rfl, rfl, .inr ⟨by decide, by decide⟩, _, _, rfl, rfl, _, _, rfl, rfl, (by show (0 : Int) < 2147483579; decide), ?_⟩
  generalize h3 : (y * 69621 + 40692) % 2147483579 = z
  have z0 : 0 ≤ z := by rw [← h3]; exact Int.emod_nonneg _ (by decide)
  have z1 : z < 2147483579 := by rw [← h3]; exact Int.emod_lt_of_pos _ (by decide)
  refine ⟨_, rfl, _, rfl, _, _, rfl, rfl, .inl ⟨by omega, by omega⟩, _, _, rfl, rfl, (by show (0 : Int) < 2147483563; decide), ?_⟩
  refine ⟨_, rfl, _, _, rfl, rfl, ⟨by decide, by decide⟩, _, _, rfl, rfl, ⟨by decide, by decide, by decide⟩, _, _, rfl, rfl, .inr ⟨by decide, by decide⟩, _, rfl, _, _, rfl, rfl, ⟨by decide, by decide⟩, _, _, rfl, rfl, q _⟩
theorem eqv_nilI (S : List Int) : PyData.eqv (.list (S.map PyData.int)) (.list []) = decide (S = []) := by
  cases S with
  | nil => simp [PyData.eqv, PyData.eqvAll]
  | cons a S => simp [PyData.eqv, PyData.eqvAll]
/-- both ways go on alike -/
theorem iteJ {c : Prop} [Decidable c] {D : L2.Ends} {σ : L2.St} {G : Hp} {A : Prop} (R : Hp → Prop) (h1 : c → (∀ H, R H → D.nx σ H) → A) (h2 : ¬ c → R G) (h : ∀ H, R H → D.nx σ H) : if c then A else tNext D σ G :=
  ite2 (fun c => h1 c h) fun c => h G (h2 c)
def wantsI (mo : List Int) (s : Int) : Int := if s ∈ mo then 1 else 0
theorem wantsI_if {mo : List Int} {s : Int} : (if decide (s ∈ mo) = true then (1 : Int) else 0) = wantsI mo s := by unfold wantsI; simp
def pairsOf (ms gs : List Int) : List (Int × Int) := ms.map fun m => (m, wantsI gs m)
def spPairs0 (K : PySem.W.Frag) : Sp := fun vs H Q _ => ∃ (sm sg : Addr) (ms gs : List Int), vs = [.ref sm, .ref sg] ∧ H sm = some (.lst (ms.map V.int)) ∧ H sg = some (.lst (gs.map V.int)) ∧ ms.length ≤ 1000 ∧ ∀ t H', Same H H' → Dp K H' (.ref t) (.tuple ((pairsOf ms gs).map pairD)) → Q (.ref t) H'
theorem sc_law_pairs : FnScope ["members", "gone_in", "seat"] ["members", "gone_in"] (defScope s_law_pairs) :=
  ⟨rfl, rfl, rfl, by decide +kernel, rfl, by decide +kernel, by decide +kernel⟩
theorem ok_pairs0 (F : Fn K mg "_law_pairs" s_law_pairs) (T : BlT0 mg) : Cal P w K mg base "_law_pairs" 1 ["members", "gone_in"] (spPairs0 K) := by
  refine cal_of F sc_law_pairs
    (fun _ _ _ _ _ _ us hl => match us, hl with | [_, _], _ => rfl) ?_ ?_
  · rintro vs H Q E ⟨_, _, _, _, rfl, _⟩
    rfl
  rintro f cdv A outer s H vs Q E free hr ⟨sm, sg, ms, gs, rfl, hs, hg, l1, q⟩
  refine ⟨_, (pss_one (ps_ret (pe_callTy call_tuple_of (by rfl) T.tuple (by decide +kernel) (pa_cons (pe_lc (own := [("seat", 2)]) (g := gName 2) (tt := tYes) (by rfl) sc_law_pairs.nd (pi_list (pv 0)) (blkOk_by (N := ["members", "gone_in", "seat"]) (sc := defScope s_law_pairs) (by decide +kernel)) (fun _ _ _ _ _ => pg_name (i := 2) sc_law_pairs.nd rfl (Or.inl rfl)) (fun _ _ _ _ _ => pts_nil) (fun _ _ _ _ _ => (pe_tup (pa_cons (pv 2) (pa_cons (pe_callTy call_int1 (by rfl) T.int (by decide +kernel) (pa_cons (pe_cmpR (u_inK K) (pv 2) (pv 1) (by rfl)) pa_nil)) pa_nil))))) pa_nil)))), ?_⟩
  refine ⟨_, rfl, sm, rfl, ⟨_, SqL.of hs⟩, fun D hD => ?_⟩
  refine lc_dataI (K := K) (a := sm) (ns := ms) (fun _ => true) (fun m => pairD (m, wantsI gs m)) (by omega) (fun x _ => by simp [pairD, noL, noLs]) hD (SqL.of hs) (fun i x G Y B hx sG h1 h2 => ?_) (fun G zs sG kD dz => ?_)
  · refine ⟨rfl, lc_yes ?_⟩
    refine ⟨_, rfl, _, rfl, _, rfl, .inl ⟨sg, _, rfl, .inl (SqL.of (sG _ _ hg)), rfl, flat_ints _, ?_⟩⟩
    rw [inV_ints]
    refine .inr ⟨decide (x ∈ gs), rfl, ?_⟩
    rw [wantsI_if]
    exact ⟨by show 2 ≤ sizeLine; decide, fun t ht => h1 rfl (.ref t) _ (same_upd ht) (.tup (SqT.of upd_same) (.cons (.int x) (.cons (.int _) .nil)))⟩
  have e1 : ms.filter (fun _ => true) = ms := List.filter_eq_self.mpr fun _ _ => rfl
  have e2 : (ms.map fun m => pairD (m, wantsI gs m)) = (pairsOf ms gs).map pairD := by unfold pairsOf; rw [List.map_map]; rfl
  rw [e1, e2] at dz
  refine ⟨D, zs, rfl, .inl ⟨SqL.of kD, fun t ht => ?_⟩⟩
  have st := same_upd (o := .tup zs) ht
  exact q t _ (sG.trans st) (.tup (SqT.of upd_same) (dps_same st _ _ dz))
theorem cut_takeN {xs : List V} {k : Nat} : cutV xs none (some (k : Int)) = xs.take k := by
  unfold cutV
  rw [HT.sIx_nat, HT.sIx_none]
  simp only [List.drop_zero]
  rcases Nat.le_total k xs.length with h | h
  · rw [Nat.min_eq_left h]; rfl
  · rw [Nat.min_eq_right h, List.take_of_length_le h]
    exact List.take_of_length_le (by simp)
theorem rgI_at {a b : Int} {j : Nat} (h : a + (j : Int) < b) : (rgI a b)[j]? = some (a + (j : Int)) := by
  unfold rgI
  rw [List.getElem?_map, List.getElem?_range (by omega)]
  rfl
theorem rgI_len {a b : Int} : (rgI a b).length = (b - a).toNat := by unfold rgI; rw [List.length_map, List.length_range]
theorem rgI_nd {a b : Int} : (rgI a b).Nodup := rgI_up.imp fun h => by omega
def spDead (K : PySem.W.Frag) : Sp := fun vs H Q _ => ∃ (n k bits : Int) (tb : Bool), vs = [.int n, .int k, .int bits, .bl tb] ∧ 5 ≤ n ∧ n ≤ 60 ∧ ∀ l od H', Same H H' → H l = none → od.Nodup → od ≠ [] → (∀ m ∈ od, 1 ≤ m ∧ m < n ∧ m ≠ k) → od.length ≤ 6 → H' l = some (.lst (od.map V.int)) → Q (.ref l) H'
theorem sc_law_dead : FnScope ["seats", "keep", "bits", "turned", "some", "seat", "order"] ["seats", "keep", "bits", "turned"] (defScope s_law_dead) :=
  ⟨rfl, rfl, rfl, by decide +kernel, rfl, by decide +kernel, by decide +kernel⟩
theorem ok_dead (F : Fn K mg "_law_dead" s_law_dead) (T : BlT0 mg) (C_among : Cal P w K mg base "_law_among" 1 ["bits", "seats"] (spAmong K)) : Cal P w K mg base "_law_dead" 2 ["seats", "keep", "bits", "turned"] (spDead K) := by
  refine cal_of F sc_law_dead
    (fun _ _ _ _ _ _ us hl => match us, hl with | [_, _, _, _], _ => rfl) ?_ ?_
  · rintro vs H Q E ⟨_, _, _, _, rfl, _⟩
    rfl
  rintro f cdv A outer s H vs Q E free hr ⟨n, k, bits, tb, rfl, n5, n60, q⟩
  refine ⟨_, (pss_cons (ps_setLc (i := 4) (own := [("seat", 5)]) (g := gName 5)  (by rfl) sc_law_dead.nd rfl rfl (sw_true rfl rfl rfl (by decide +kernel)) (pi_range2 (by rfl) T.range (pa_cons pe_int (pa_cons (pv 0) pa_nil))) (blkOk_by (N := ["seats", "keep", "bits", "turned", "some", "seat", "order"]) (sc := defScope s_law_dead) (by decide +kernel)) (fun _ _ _ _ _ => pg_name (i := 5) sc_law_dead.nd rfl (Or.inl rfl)) (fun _ _ _ _ _ => pts_one (pt_cmpR op_ne (pv 5) (pv 1) (nomark _))) (fun _ _ _ _ _ => (pv 5)))
    (pss_cons (ps_set (i := 6) sc_law_dead.nd rfl (Or.inl rfl) (pe_slice sl_list (pe_cal C_among free (hr.mono (by decide)) (pa_cons (pv 2) (pa_cons (pv 4) pa_nil))) po_none (po_some pe_int)))
    (pss_cons (ps_if (pt_cmpR (op_eqD (u64 hr)) (pv 6) (pe_lst pa_nil) (nomark _))
    (pss_one (ps_set (i := 6) sc_law_dead.nd rfl (Or.inl rfl) (pe_slice sl_list (pv 4) po_none (po_some pe_int))))
    pss_nil)
    (pss_cons (ps_if (pt_val (pv 3))
    (pss_one (ps_expr (pe_bm0 PySem.F.plainAttrs_list PySem.F.slot_list_reverse PySem.F.type_list_reverse mt_reverse (pv 6))))
    pss_nil)
    (pss_one (ps_ret (pv 6))))))), ?_⟩
  refine ⟨_, rfl, 1, _, rfl, ⟨by decide, by decide, by omega, by omega⟩, fun D hD => ?_⟩
  refine lc_range (lo := 1) (n := (n - 1).toNat) (fun i G => Same H G ∧ G D = some (.lst ((othR ((rgI 1 n).take i) k).map V.int))) ⟨same_upd hD, upd_same⟩ ?_ ?_
  · rintro i G hi ⟨sG, kD⟩
    have er := rgI_at (a := 1) (b := n) (j := i) (by omega)
    refine ⟨rfl, _, rfl, _, rfl, rfl, _, rfl, ?_⟩
    rw [dec_ii]
    have nx : othR ((rgI 1 n).take (i + 1)) k = othR ((rgI 1 n).take i) k ++ (if (!decide (1 + (i : Int) = k)) = true then [1 + (i : Int)] else []) := filt_next _ er
    rw [nx]
    refine ite2 (fun c4 => ?_) (fun c4 => ?_)
    · rw [if_pos c4]
      refine ⟨_, rfl, _, kD, ?_, fun a o e => ?_, ?_⟩
      · rw [List.length_map]
        refine Nat.lt_of_le_of_lt (List.length_filter_le _ _) ?_
        rw [List.length_take]
        exact Nat.lt_of_lt_of_le (show _ < 100 by omega) (by decide)
      · rw [upd_ne (ne_of_none e hD)]
        exact sG _ _ e
      · rw [List.map_append]
        exact upd_same
    · rw [if_neg c4, List.append_nil]
      exact ⟨sG, kD⟩
  rintro G1 ⟨s1, kD⟩
  rw [List.take_of_length_le (by rw [rgI_len]; first | exact Nat.le_refl _ | omega)] at kD
  obtain ⟨sm, esm⟩ : ∃ sm, sm = othR (rgI 1 n) k := ⟨_, rfl⟩
  rw [← esm] at kD
  have bS : ∀ m ∈ sm, 1 ≤ m ∧ m < n ∧ m ≠ k := fun m hm => by
    rw [esm] at hm
    have h1 := List.mem_filter.mp hm
    have h2 := rgI_mem.mp h1.1
    exact ⟨h2.1, h2.2, by simpa using h1.2⟩
  have ndS : sm.Nodup := by rw [esm]; exact rgI_nd.filter _
  have lS : sm.length ≤ 60 := by
    have := List.length_filter_le (fun s => !decide (s = k)) (rgI 1 n)
    rw [rgI_len] at this
    rw [esm]
    unfold othR
    omega
  have neS : sm ≠ [] := fun e => by
    have h1 : (if k = 1 then 2 else 1) ∈ sm := by
      rw [esm]
      refine List.mem_filter.mpr ⟨rgI_mem.mpr (by split <;> omega), ?_⟩
      split
      · next h => simp [h]
      · next h => simp; exact fun z => h z.symm
    rw [e] at h1
    exact absurd h1 List.not_mem_nil
  refine ⟨_, rfl, _, rfl, bits, D, sm, rfl, kD, by omega, fun x hx => by have := bS x hx; omega, fun l H2 s2 hl kl => ?_⟩
  obtain ⟨am, eam⟩ : ∃ am, am = sm.filter (bitB bits) := ⟨_, rfl⟩
  rw [← eam] at kl
  refine ⟨_, rfl, l, _, rfl, SqL.of kl, fun o6 ho6 => ?_⟩
  rw [show ((6 : Int)) = ((6 : Nat) : Int) from rfl, cut_takeN, ← List.map_take]
  have s3 := same_upd (o := .lst ((am.take 6).map V.int)) ho6
  have k6 : upd H2 o6 (.lst ((am.take 6).map V.int)) o6 = some (.lst ((am.take 6).map V.int)) := upd_same
  obtain ⟨H3, e3⟩ : ∃ H3, H3 = upd H2 o6 (.lst ((am.take 6).map V.int)) := ⟨_, rfl⟩
  rw [← e3] at s3 k6
  rw [← e3]
  clear e3
  have s03 := (s1.trans s2).trans s3
  have kD3 := s3 _ _ (s2 _ _ kD)
  have o60 : H o6 = none := (s1.trans s2).free ho6
  have good : ∀ l : List Int, (l = am.take 6 ∨ l = sm.take 1) → l.Nodup ∧ (∀ m ∈ l, 1 ≤ m ∧ m < n ∧ m ≠ k) ∧ l.length ≤ 6 := fun l h => by
    rcases h with e | e
    · rw [e]
      refine ⟨((ndS.filter _).sublist (by rw [eam]; exact List.take_sublist _ _)), fun m hm => bS m ?_, by rw [List.length_take]; omega⟩
      have := List.mem_of_mem_take hm
      rw [eam] at this
      exact (List.mem_filter.mp this).1
    · rw [e]
      exact ⟨ndS.sublist (List.take_sublist _ _), fun m hm => bS m (List.mem_of_mem_take hm), by rw [List.length_take]; omega⟩
  apply goJ (fun σ G => ∃ (a : Addr) (od : List Int), σ = [some (V.int n), some (V.int k), some (V.int bits), some (V.bl tb), some (V.ref D), none, some (V.ref a)] ∧ Same H G ∧ H a = none ∧ G a = some (.lst (od.map V.int)) ∧ od ≠ [] ∧ od.Nodup ∧ (∀ m ∈ od, 1 ≤ m ∧ m < n ∧ m ≠ k) ∧ od.length ≤ 6)
  · intro J
    refine ⟨_, rfl, Nat.zero_le _, fun e he => ?_⟩
    have se := same_upd (o := .lst []) he
    refine ⟨.list ((am.take 6).map PyData.int), .list [], dp_ints (se _ _ k6), .lst (SqL.of upd_same) .nil, shaped_ints _, by decide, _, rfl, ?_⟩
    rw [eqv_nilI]
    by_cases c : am.take 6 = []
    · refine iteT' (decide_eq_true c) ?_
      refine ⟨_, rfl, _, rfl, D, _, rfl, SqL.of (se _ _ kD3), fun o7 ho7 => ?_⟩
      rw [show ((1 : Int)) = ((1 : Nat) : Int) from rfl, cut_takeN, ← List.map_take]
      have g := good (sm.take 1) (.inr rfl)
      refine J _ _ ⟨o7, sm.take 1, rfl, (s03.trans se).trans (same_upd ho7), (s03.trans se).free ho7, upd_same, fun z => ?_, g.1, g.2.1, g.2.2⟩
      obtain ⟨x, xs, ex⟩ : ∃ x xs, sm = x :: xs := by
        cases h : sm with
        | nil => exact absurd h neS
        | cons x xs => exact ⟨x, xs, rfl⟩
      rw [ex] at z
      cases z
    · refine iteF' (decide_eq_false c) ?_
      have g := good (am.take 6) (.inl rfl)
      exact J _ _ ⟨o6, am.take 6, rfl, s03.trans se, o60, se _ _ k6, c, g.1, g.2.1, g.2.2⟩
  rintro σ G ⟨a, od, rfl, sG, ha, ka, ne, nd, bd, l6⟩
  cases tb with
  | true =>
    refine ⟨_, rfl, _, rfl, iteT ?_⟩
    refine ⟨_, rfl, .inl ⟨rfl, _, SqL.of ka⟩, a, _, rfl, rfl, ka, ?_⟩
    refine ⟨_, rfl, q a od.reverse _ (fun b o e => (upd_ne (ne_of_none e ha)).trans (sG _ _ e)) ha ((List.reverse_perm od).nodup_iff.mpr nd) (fun z => ne (by simpa using z)) (fun m hm => bd m (List.mem_reverse.mp hm)) (by rw [List.length_reverse]; exact l6) ?_⟩
    rw [List.map_reverse]
    exact upd_same
  | false =>
    refine ⟨_, rfl, _, rfl, iteF ?_⟩
    exact ⟨_, rfl, q a od G sG ha nd ne bd l6 ka⟩
end

end G0
namespace G0
open PySem PySem.Spec PyProof.Rows L2 NdefX ClX
set_option maxHeartbeats 8000000
theorem call_tuple_ofK {X : Cx} (K : PySem.W.Frag) (hK : X.K = K) : CallR X (.type "tuple") (fun xs H Q => ∃ p ys, xs = [.ref p] ∧ ((SqL K H p ys ∧ ∀ l, H l = none → Q (.ref l) (upd H l (.tup ys))) ∨ (SqT K H p ys ∧ Q (.ref p) H))) := by
  subst hK
  exact call_tuple_of
section
variable {P : Program} {w : World} {K : PySem.W.Frag} {mg : Str → Option Value} {base : Heap} {C CK : Addr}
/-! ### what stands outside of a row -/
def OutL (H : Hp) (cs : List (Ad × Cp)) (x : Addr) (ns : List Int) : Prop := H x = some (.lst (ns.map V.int)) ∧ ∀ c ∈ cs, x ∉ fpG c.1 c.2
theorem OutL.step {H H' : Hp} {cs cs' : List (Ad × Cp)} {x : Addr} {ns : List Int} (o : OutL H cs x ns) (s : StG cs H cs' H') : OutL H' cs' x ns := s x _ o.1 o.2
theorem OutL.same {H H' : Hp} {cs : List (Ad × Cp)} {x : Addr} {ns : List Int} (o : OutL H cs x ns) (s : Same H H') : OutL H' cs x ns := ⟨s _ _ o.1, o.2⟩
theorem OutL.ofNew {H H' : Hp} {L : Addr} {n : Int} {cs : List (Ad × Cp)} {x : Addr} {ns : List Int} (W : RowG K H C CK L n cs) (h : H x = none) (k : H' x = some (.lst (ns.map V.int))) : OutL H' cs x ns := ⟨k, W.free h⟩
theorem RowG.ret {H : Hp} {L : Addr} {n : Int} {cs : List (Ad × Cp)} {i : Nat} {a : Ad} {p : Cp} {Q : VK} {R : Cp × List PyData} (W : RowG K H C CK L n cs) (hi : cs[i]? = some (a, p))
    (h : ∀ z zs a' H', RowG K H' C CK L n (cs.set i (a', R.1)) → StG cs H (cs.set i (a', R.1)) H' → a'.o = a.o → (∀ c ∈ cs.set i (a', R.1), z ∉ fpG c.1 c.2) → H' z = some (.lst zs) → DpAll K H' zs R.2 → Q (.ref z) H') : RetG K C CK n (i : Int) H a p Q R := fun z zs a' H' ch hc eo nw hz nz kz dz => by
  obtain ⟨W', S'⟩ := W.set hi ch hc eo nw
  refine h z zs a' H' W' S' eo (fun c hc' => ?_) kz dz
  obtain ⟨j, hj⟩ := List.mem_iff_getElem?.mp hc'
  rw [List.getElem?_set] at hj
  by_cases e : i = j
  · rw [if_pos e] at hj
    split at hj
    · rw [← Option.some.inj hj]; exact nz
    · cases hj
  · rw [if_neg e] at hj
    rcases hz with z1 | z1
    · exact fun m => W.dj i j (a, p) c hi hj e z z1 m
    · exact W.free z1 c (List.mem_of_getElem? hj)
theorem set_same {α : Type} {cs : List α} {i : Nat} {c : α} (h : cs[i]? = some c) : cs.set i c = cs := by
  refine List.ext_getElem? fun j => ?_
  rw [List.getElem?_set]
  split
  · next e => subst e; rw [if_pos (List.getElem?_eq_some_iff.mp h).1, h]
  · rfl
theorem get_set {α : Type} {cs : List α} {i : Nat} {c c' : α} (h : cs[i]? = some c) : (cs.set i c')[i]? = some c' := List.getElem?_set_self (List.getElem?_eq_some_iff.mp h).1
/-! ### asks are heard -/
def heardF (me : Int) (f : Int → Int) (l : List Int) : Int → Int := l.foldl (fun f s => if s = me then f else learnF f s 1) f
theorem heardF_snoc {me : Int} {f : Int → Int} {l : List Int} {s : Int} : heardF me f (l ++ [s]) = if s = me then heardF me f l else learnF (heardF me f l) s 1 := by
  unfold heardF
  rw [List.foldl_append]
  rfl
def spHeard0 (K : PySem.W.Frag) (C CK : Addr) : Sp := fun vs H Q _ => ∃ (L : Addr) (n : Int) (i : Nat) (a : Ad) (p : Cp) (cs : List (Ad × Cp)) (sa : Addr) (xs : List Int), vs = [.ref a.o, .ref sa, .str p.st] ∧ RowG K H C CK L n cs ∧ cs[i]? = some (a, p) ∧ GoodG n (i : Int) p ∧ OutL H cs sa xs ∧ (∀ s ∈ xs, 0 ≤ s ∧ s < n) ∧ (p.key = none ∨ p.st = "in") ∧
  ∀ a' H', RowG K H' C CK L n (cs.set i (a', { p with f := heardF (i : Int) p.f xs })) → a'.o = a.o → StG cs H (cs.set i (a', { p with f := heardF (i : Int) p.f xs })) H' → Q (.bl true) H'
theorem GoodG.f {n i : Int} {p : Cp} (G : GoodG n i p) (f : Int → Int) : GoodG n i { p with f := f } := ⟨G.i0, G.i1, G.n60, G.nd, G.bnd, G.ns, G.ps, G.bg⟩
theorem hearAskG_plain {n i s v : Int} {p : Cp} (h : p.key = none ∨ p.st = "in") : hearAskG n i p s v = ({ p with f := learnF p.f s v }, []) := by
  rcases h with e | e
  · exact hearAskG_none e
  · exact hearAskG_in e
theorem sc_law_heard : FnScope ["one", "some", "state", "seat"] ["one", "some", "state"] (defScope s_law_heard) :=
  ⟨rfl, rfl, rfl, by decide +kernel, rfl, by decide +kernel, by decide +kernel⟩
theorem ok_heard0 (F : Fn K mg "_law_heard" s_law_heard) (S : CalT K C) (MH : Me P w K mg base C "hear" 5 ["self", "sender", "letter"] (spHearG K C CK)) : Cal P w K mg base "_law_heard" 6 ["one", "some", "state"] (spHeard0 K C CK) := by
  obtain ⟨fH, fdH, GH, bH, mH⟩ := MH
  refine cal_of F sc_law_heard
    (fun _ _ _ _ _ _ us hl => match us, hl with | [_, _, _], _ => rfl) ?_ ?_
  · rintro vs H Q E ⟨_, _, _, _, _, _, _, _, rfl, _⟩
    rfl
  rintro f cdv A outer s H vs Q E free hr ⟨L, n, i, a, p, cs, sa, xs, rfl, W, hi, G, O, bx, pk, q⟩
  refine ⟨_, (pss_cons (ps_for PassesOwn.never rfl (pi_list (pv 1)) (pg_name (i := 3) sc_law_heard.nd rfl (Or.inl rfl))
    (pss_one (ps_if (PW.pt (pw_and (pt_cmpR op_ne (pv 3) (pe_fld (pv 0) (by rfl)) (nomark _)) (pw_and1 (pt_cmpR (op_neD (u64 hr)) (pe_meth (pv 0) S.cl mH GH hr bH .nil pass0 (pa_cons (pv 3) (pa_cons (pe_tup (pa_cons pe_str (pa_cons pe_int pa_nil))) pa_nil))) (pe_lst pa_nil) (nomark _)))))
    (pss_one (ps_ret pe_bl))
    pss_nil)))
    (pss_one (ps_ret (pe_cmpR op_eq (pe_fld (pv 0) (by rfl)) (pv 2) (nomark _))))), ?_⟩
  refine ⟨_, rfl, sa, rfl, ⟨_, SqL.of O.1⟩, ?_⟩
  refine for_list (K := K) (a := sa) (xs := xs.map V.int) (fun j σ G1 => (∃ z3 : Option V, σ = [some (V.ref a.o), some (V.ref sa), some (V.str p.st), z3]) ∧ ∃ a', a'.o = a.o ∧ RowG K G1 C CK L n (cs.set i (a', { p with f := heardF (i : Int) p.f (xs.take j) })) ∧ StG cs H (cs.set i (a', { p with f := heardF (i : Int) p.f (xs.take j) })) G1) ⟨⟨_, rfl⟩, a, rfl, ?_, ?_⟩ (fun j σ G1 _ h => by obtain ⟨_, a', _, _, S1⟩ := h; exact SqL.of (O.step S1).1) ?_ ?_
  · have e : cs.set i (a, { p with f := heardF (i : Int) p.f (xs.take 0) }) = cs := set_same hi
    rw [e]; exact W
  · have e : cs.set i (a, { p with f := heardF (i : Int) p.f (xs.take 0) }) = cs := set_same hi
    rw [e]; exact StG.refl
  · rintro j x σ G1 hx ⟨⟨z3, rfl⟩, a1, eo, W1, S1⟩
    obtain ⟨m, hm, rfl⟩ := ints_at' hx
    have bm := bx m (List.mem_of_getElem? hm)
    obtain ⟨p1, ep1⟩ : ∃ p1 : Cp, p1 = { p with f := heardF (i : Int) p.f (xs.take j) } := ⟨_, rfl⟩
    rw [← ep1] at W1 S1
    have h1 := get_set (c' := (a1, p1)) hi
    have B1 := W1.all i _ h1
    have G1' : GoodG n (i : Int) p1 := by rw [ep1]; exact G.f _
    obtain ⟨kv, A1, _⟩ := B1.at_
    have tk : xs.take (j + 1) = xs.take j ++ [m] := by rw [List.take_succ, hm]; rfl
    rw [← eo]
    refine ⟨_, rfl, _, rfl, a1.o, C, a1.dx, _, _, rfl, A1.hp, S.cl, S.me, caF_me _ _ _ _ _ _ _ _ _, rfl, _, rfl, ?_⟩
    rw [dec_ii]
    by_cases e : m = (i : Int)
    · refine iteF' (by rw [decide_eq_true e]; rfl) (iteF ?_)
      refine ⟨⟨_, rfl⟩, a1, rfl, ?_⟩
      rw [tk, heardF_snoc, if_pos e, ← ep1]
      exact ⟨W1, S1⟩
    · refine iteT' (by rw [decide_eq_false e]; rfl) ?_
      refine ⟨_, rfl, a1.o, a1.dx, _, rfl, A1.hp, (A1.no "hear").2, _, rfl, by show 2 ≤ sizeLine; decide, fun lt hlt => ?_⟩
      have s2 := same_upd (o := .tup [.str "ask", .int 1]) hlt
      have W2 := W1.same s2
      have B2 := W2.all i _ h1
      refine hearG_of (E := E0) B2 (.inl ⟨1, SqT.of upd_same, hearAsk_of B2 G1' bm.1 bm.2 ?_⟩)
      rw [hearAskG_plain (by rw [ep1]; exact pk)]
      refine W2.ret h1 fun z zs a2 H3 W3 S3 eo3 nz kz dz => ?_
      cases dz
      refine ⟨Nat.zero_le _, fun e1 he1 => ?_⟩
      have s4 := same_upd (o := .lst []) he1
      refine ⟨.list [], .list [], .lst (SqL.of (s4 _ _ kz)) .nil, .lst (SqL.of upd_same) .nil, by decide, by decide, _, rfl, iteF' (by decide +kernel) ?_⟩
      have e2 : (a2, ({ p1 with f := learnF p1.f m 1 }, ([] : List PyData)).1) = (a2, { p with f := heardF (i : Int) p.f (xs.take (j + 1)) }) := by
        rw [tk, heardF_snoc, if_neg e, ep1]
      rw [e2, List.set_set] at W3 S3
      exact ⟨⟨_, rfl⟩, a2, eo3, W3.same s4, (S1.trans (StG.ofSame s2)).trans (S3.trans (StG.ofSame s4))⟩
  rintro σ G1 ⟨⟨z3, rfl⟩, a1, eo, W1, S1⟩
  rw [List.length_map, List.take_length] at W1 S1
  have B1 := W1.all i _ (get_set hi)
  obtain ⟨kv, A1, _⟩ := B1.at_
  refine ⟨_, rfl, a1.o, C, a1.dx, _, _, by rw [eo], A1.hp, S.cl, S.state, caF_stt _ _ _ _ _ _ _ _ _, _, rfl, rfl, ?_⟩
  rw [dec_str, decide_eq_true rfl]
  exact q a1 G1 W1 eo S1
/-! ### rounds are begun -/
def rsJ (n : Int) (od : List Int) (j : Nat) : List Int := (rangeI n).filter fun m => !decide (m ∈ od.take j)
theorem rsJ_mem {n : Int} {od : List Int} {j : Nat} {m : Int} : m ∈ rsJ n od j ↔ (0 ≤ m ∧ m < n) ∧ m ∉ od.take j := by
  unfold rsJ
  rw [List.mem_filter, rangeI_mem]
  simp
theorem rsJ_nd {n : Int} {od : List Int} {j : Nat} : (rsJ n od j).Nodup := (rangeI_nd n).filter _
theorem rsJ_len {n : Int} {od : List Int} {j : Nat} : (rsJ n od j).length ≤ n.toNat := by
  have := List.length_filter_le (fun m => !decide (m ∈ od.take j)) (rangeI n)
  rw [rangeI_len] at this
  exact this
theorem rsJ_up {n : Int} {od : List Int} {j : Nat} : (rsJ n od j).Pairwise (· < ·) := rangeI_up.filter _
theorem rsJ_next {n : Int} {od : List Int} {j : Nat} {s : Int} (h : od[j]? = some s) : rsJ n od (j + 1) = othR (rsJ n od j) s := by
  unfold rsJ othR
  rw [List.filter_filter]
  refine List.filter_congr fun m _ => ?_
  rw [List.take_succ, h]
  by_cases e : m = s
  · subst e; simp
  · simp [e]
theorem lay_round (r : Int) (rs : List Int) : (roundD r rs).canLay0 = true := by
  simp [roundD, PyData.canLay0, PyData.canLayAll0, lay_ints]
  decide +kernel
theorem deep_round (r : Int) (rs : List Int) : (roundD r rs).depth ≤ 60 := by
  simp [roundD, PyData.depth, PyData.depthAll, deep_ints]

end

end G0
namespace G0
open PySem PySem.Spec PyProof.Rows L2 NdefX ClX
set_option maxHeartbeats 8000000
section
variable {P : Program} {w : World} {K : PySem.W.Frag} {mg : Str → Option Value} {base : Heap} {C CK : Addr}
section
variable {H H' : Hp} {L x : Addr} {n : Int} {cs cs' : List (Ad × Cp)} {xs ys : List V}
theorem RowG.out (W : RowG K H C CK L n cs) (hx : H x = some (.lst xs)) (nf : ∀ c ∈ cs, x ∉ fpG c.1 c.2) (nL : L ≠ x) : RowG K (upd H x (.lst ys)) C CK L n cs := by
  refine ⟨(upd_ne nL).trans W.at_, W.len, fun i c e => ?_, W.dj, W.lf⟩
  refine (W.all i c e).keep (fun y hy o e2 => (upd_ne (fun z => nf c (List.mem_of_getElem? e) (by rw [← z]; exact hy))).trans e2) fun a zs q => ?_
  rcases q with (z | ⟨o', z⟩) | z
  · exact .inl (.inl ((upd_ne (ne_of z hx (by intro z; cases z))).trans z))
  · exact .inl (.inr ⟨o', (upd_ne (ne_of z hx (by intro z; cases z))).trans z⟩)
  · exact .inr z
theorem StG.mut {o : HO} (s : StG cs H cs' H') (h : H x = none) : StG cs H cs' (upd H' x o) := fun y o' e n => by
  obtain ⟨e1, n1⟩ := s y o' e n
  exact ⟨(upd_ne (ne_of_none e h)).trans e1, n1⟩
end
/-! ### the members of each round -/
structure OutM (H : Hp) (cs : List (Ad × Cp)) (ma : Addr) (as : List Addr) (M : Nat → List Int) (k : Nat) : Prop where
  at_ : H ma = some (.lst (as.map V.ref))
  nf : ∀ c ∈ cs, ma ∉ fpG c.1 c.2
  len : as.length = k
  all : ∀ (j : Nat) y, as[j]? = some y → OutL H cs y (M j)
  no : ma ∉ as
theorem OutM.step {H H' : Hp} {cs cs' : List (Ad × Cp)} {ma : Addr} {as : List Addr} {M : Nat → List Int} {k : Nat} (o : OutM H cs ma as M k) (s : StG cs H cs' H') : OutM H' cs' ma as M k :=
  ⟨(s _ _ o.at_ o.nf).1, (s _ _ o.at_ o.nf).2, o.len, fun j y e => (o.all j y e).step s, o.no⟩
theorem OutM.same {H H' : Hp} {cs : List (Ad × Cp)} {ma : Addr} {as : List Addr} {M : Nat → List Int} {k : Nat} (o : OutM H cs ma as M k) (s : Same H H') : OutM H' cs ma as M k := o.step (StG.ofSame s)
theorem OutM.at {H : Hp} {cs : List (Ad × Cp)} {ma : Addr} {as : List Addr} {M : Nat → List Int} {k j : Nat} (o : OutM H cs ma as M k) (h : j < k) : ∃ y, (as.map V.ref)[j]? = some (.ref y) ∧ OutL H cs y (M j) := by
  have l := o.len
  refine ⟨as[j], by rw [List.getElem?_map, List.getElem?_eq_getElem (by omega)]; rfl, o.all j _ (List.getElem?_eq_getElem (by omega))⟩
theorem atI_last {xs : List V} {x : V} {j : Nat} (l : xs.length = j + 1) (h : xs[j]? = some x) : atI xs (-1) = some x := by
  unfold atI ixN
  rw [l]
  simp
  have e : ((-1 : Int) + ((j : Int) + 1)).toNat = j := by omega
  first
    | (rw [if_pos (by omega)]; simpa [e] using h)
    | simpa [e] using h
theorem rgI_range {n : Int} : rgI 0 n = rangeI n := by
  unfold rgI rangeI
  rw [Int.sub_zero]
  exact List.map_congr_left fun x _ => by omega
def bF (f : Int → Int) (aks l : List Int) : Int → Int := l.foldl (fun f s => if s ∈ aks then learnF f s 1 else f) f
theorem bF_snoc {f : Int → Int} {aks l : List Int} {s : Int} : bF f aks (l ++ [s]) = if s ∈ aks then learnF (bF f aks l) s 1 else bF f aks l := by
  unfold bF
  rw [List.foldl_append]
  rfl
theorem bF_not {aks : List Int} {m : Int} : ∀ {l : List Int} {f : Int → Int}, m ∉ l → bF f aks l m = f m
  | [], _, _ => rfl
  | s :: l, f, h => by
    rw [List.mem_cons, not_or] at h
    show bF (if s ∈ aks then learnF f s 1 else f) aks l m = f m
    rw [bF_not h.2]
    split
    · unfold learnF updI
      rw [if_neg h.1]
    · rfl
/-- ones[0] behind j rounds -/
def BPj (p : Cp) (n : Int) (od aks : List Int) (j : Nat) : Cp := { p with rnd := j, rs := rsJ n od j, f := bF p.f aks (od.take j), bg := if j = 0 then p.bg else .int j, ps := if j = 0 then p.ps else [(0, 0, 0)] }
theorem BPj_zero {p : Cp} {n : Int} {od aks : List Int} (h1 : p.rnd = 0) (h2 : p.rs = rangeI n) : BPj p n od aks 0 = p := by
  cases p
  unfold BPj
  have rs0 : rsJ n od 0 = rangeI n := List.filter_eq_self.mpr fun m _ => by simp
  simp at h1 h2
  subst h1
  subst h2
  simp [rs0, bF]
theorem begP_eq {q : Cp} {x : Int} (ek : q.key = none) (f0 : q.f 0 = 0) (st : q.st = "out") : begP 0 (goneP q x) = { q with rnd := q.rnd + 1, rs := othR q.rs x, bg := .int (q.rnd + 1), ps := [(0, 0, 0)] } := by
  cases q
  simp only at ek f0 st
  subst ek
  subst st
  unfold begP goneP putPl renP newR
  have a0 : askN "out" = 0 := by unfold askN; rw [if_neg (by decide +kernel)]
  simp only [f0, a0, hasN, Option.map_none, Option.isSome_none]
  congr
  · have := @learnF_self (f := by assumption) (s := 0)
    rw [f0] at this
    exact this
def spBegun (K : PySem.W.Frag) (C CK : Addr) : Sp := fun vs H Q _ => ∃ (L : Addr) (n k : Int) (a : Ad) (p : Cp) (cs : List (Ad × Cp)) (oa ak : Addr) (od aks : List Int), vs = [.ref a.o, .ref oa, .int n, .ref ak] ∧ RowG K H C CK L n cs ∧ cs[0]? = some (a, p) ∧ p.key = none ∧ p.rs = rangeI n ∧ p.rnd = 0 ∧ p.bg = .non ∧ p.ps = [] ∧ p.st = "out" ∧ p.f 0 = 0 ∧ 5 ≤ n ∧ n ≤ 60 ∧
  OutL H cs oa od ∧ OutL H cs ak aks ∧ od.Nodup ∧ (∀ m ∈ od, 1 ≤ m ∧ m < n) ∧ 1 ≤ k ∧ k < n ∧ k ∉ od ∧
  ∀ ma as a' H', RowG K H' C CK L n (cs.set 0 (a', BPj p n od aks od.length)) → a'.o = a.o → StG cs H (cs.set 0 (a', BPj p n od aks od.length)) H' → OutM H' (cs.set 0 (a', BPj p n od aks od.length)) ma as (rsJ n od) (od.length + 1) → Q (.ref ma) H'
theorem sc_law_begun : FnScope ["one", "order", "seats", "askers", "members", "seat", "roster", "other", "due", "to"] ["one", "order", "seats", "askers"] (defScope s_law_begun) :=
  ⟨rfl, rfl, rfl, by decide +kernel, rfl, by decide +kernel, by decide +kernel⟩
theorem ok_begun (F : Fn K mg "_law_begun" s_law_begun) (T : BlT0 mg) (hL : mg "list" = none) (S : CalT K C) (MH : Me P w K mg base C "hear" 5 ["self", "sender", "letter"] (spHearG K C CK)) (MG : Me P w K mg base C "gone" 4 ["self", "seat"] (spGoneG K C CK)) (MB : Me P w K mg base C "bears" 2 ["self"] (spBears K C CK)) :
    Cal P w K mg base "_law_begun" 6 ["one", "order", "seats", "askers"] (spBegun K C CK) := by
  obtain ⟨fH, fdH, GH, bH, mH⟩ := MH
  obtain ⟨fG, fdG, GG, bG, mG⟩ := MG
  obtain ⟨fB, fdB, GB, bB, mB⟩ := MB
  refine cal_of F sc_law_begun
    (fun _ _ _ _ _ _ us hl => match us, hl with | [_, _, _, _], _ => rfl) ?_ ?_
  · rintro vs H Q E ⟨_, _, _, _, _, _, _, _, _, _, rfl, _⟩
    rfl
  rintro f cdv A outer s H vs Q E free hr ⟨L, n, k, a, p, cs, oa, ak, od, aks, rfl, W, hi, pk, prs, prnd, pbg, pps, pst, pf0, n5, n60, Oo, Oa, ndo, bo, k1, k2, ko, q⟩
  have hr4 : Room 4 _ := hr.mono (by decide)
  have hr2 : Room 2 _ := hr.mono (by decide)
-- [(0, 'one'), (1, 'order'), (2, 'seats'), (3, 'askers'), (4, 'members'), (5, 'seat'), (6, 'roster'), (7, 'other'), (8, 'due'), (9, 'to')]
  refine ⟨_, (pss_cons (ps_set (i := 4) sc_law_begun.nd rfl (Or.inr rfl) (pe_lst (pa_cons (pe_listRg (by rfl) (by rfl) hL (prg_1 (by rfl) T.range (pv 2))) pa_nil)))
    (pss_cons (ps_for PassesOwn.never rfl (pi_list (pv 1)) (pg_name (i := 5) sc_law_begun.nd rfl (Or.inr rfl))
    (pss_cons (ps_if (PW.pt (pw_and (pt_cmpR u_in (pv 5) (pv 3) (by rfl)) (pw_and1 (pt_cmpR (op_neD (u64 hr)) (pe_meth (pv 0) S.cl mH GH hr bH .nil pass0 (pa_cons (pv 5) (pa_cons (pe_tup (pa_cons pe_str (pa_cons pe_int pa_nil))) pa_nil))) (pe_lst pa_nil) (nomark _)))))
    (pss_one (ps_ret pe_non))
    pss_nil)
    (pss_cons (ps_set (i := 6) sc_law_begun.nd rfl (Or.inr rfl) (pe_lc (own := [("other", 7)]) (g := gName 7)  (by rfl) sc_law_begun.nd (pi_list (pe_ix ix_list (pv 4) (pe_un un_neg pe_int) (fun _ _ => rfl))) (blkOk_by (N := ["one", "order", "seats", "askers", "members", "seat", "roster", "other", "due", "to"]) (sc := defScope s_law_begun) (by decide +kernel)) (fun _ _ _ _ _ => pg_name (i := 7) sc_law_begun.nd rfl (Or.inl rfl)) (fun _ _ _ _ _ => pts_one (pt_cmpR op_ne (pv 7) (pv 5) (nomark _))) (fun _ _ _ _ _ => (pv 7))))
    (pss_cons (ps_expr (pe_bm PySem.F.plainAttrs_list PySem.F.slot_list_append PySem.F.type_list_append mt_append (pv 4) (pa_cons (pv 6) pa_nil)))
    (pss_cons (ps_setLc (i := 8) (own := [("to", 9)]) (g := gName 9)  (by rfl) sc_law_begun.nd rfl rfl (sw_true rfl rfl rfl (by decide +kernel)) (pi_list (pv 6)) (blkOk_by (N := ["one", "order", "seats", "askers", "members", "seat", "roster", "other", "due", "to"]) (sc := defScope s_law_begun) (by decide +kernel)) (fun _ _ _ _ _ => pg_name (i := 9) sc_law_begun.nd rfl (Or.inl rfl)) (fun _ _ _ _ _ => pts_one (pt_cmpR op_ne (pv 9) pe_int (nomark _))) (fun _ _ _ _ _ => (pe_tup (pa_cons (pv 9) (pa_cons (pe_tup (pa_cons pe_str (pa_cons (pe_op op_sub (pe_callB (call_len_seqK K) (by rfl) T.len (by decide +kernel) (pa_cons (pv 4) pa_nil)) pe_int) (pa_cons (pe_callTy (T := "tuple") (call_tuple_ofK K rfl) (by rfl) T.tuple (by decide +kernel) (pa_cons (pv 6) pa_nil)) pa_nil)))) pa_nil)))))
    (pss_one (ps_if (PW.pt (pw_or (pt_cmpR (op_neD (u64 hr)) (pe_meth (pv 0) S.cl mG GG hr4 bG .nil pass0 (pa_cons (pv 5) pa_nil)) (pv 8) (nomark _)) (pw_or (pt_cmpR op_ne (pe_fld (pv 0) (by rfl)) (pe_op op_sub (pe_callB call_len_seq (by rfl) T.len (by decide +kernel) (pa_cons (pv 4) pa_nil)) pe_int) (nomark _)) (pw_or1 (pt_cmpR op_notN (pe_meth0 (pv 0) S.cl mB GB hr2 bB .nil pass0) pe_non (nomark _))))))
    (pss_one (ps_ret pe_non))
    pss_nil)))))))
    (pss_one (ps_ret (pv 4))))), ?_⟩
  refine ⟨_, rfl, _, rfl, RgOk.of_le (by omega) (by omega) (by omega) (by omega), fun l1 h1 => ?_⟩
  rw [rgV_I, rgI_range]
  have rs0 : rsJ n od 0 = rangeI n := List.filter_eq_self.mpr fun m _ => by simp
  have s1 := same_upd (o := .lst ((rangeI n).map V.int)) h1
  refine ⟨by show 1 ≤ sizeLine; decide, fun ma hma => ?_⟩
  have s2 := same_upd (o := .lst [V.ref l1]) hma
  have s12 := s1.trans s2
  have hma0 : H ma = none := s1.free hma
  have Lma : L ≠ ma := ne_of_none W.at_ hma0
  have OM0 : OutM (upd (upd H l1 (.lst ((rangeI n).map V.int))) ma (.lst [V.ref l1])) cs ma [l1] (rsJ n od) 1 := ⟨upd_same, W.free hma0, rfl, fun j y e => by
    cases j with
    | zero =>
      have e : l1 = y := by simpa using e
      subst e
      rw [rs0]
      exact ⟨s2 _ _ upd_same, W.free h1⟩
    | succ j => simp at e, by simp; exact fun z => by rw [z, upd_same] at hma; cases hma⟩
  have W2 := W.same s12
  obtain ⟨H2, e2⟩ : ∃ H2, H2 = upd (upd H l1 (.lst ((rangeI n).map V.int))) ma (.lst [V.ref l1]) := ⟨_, rfl⟩
  rw [← e2] at s12 OM0 W2
  rw [← e2]
  clear e2 s2
  have lod : od.length ≤ 60 := by
    have := nd_len ndo (fun m hm => by have := bo m hm; omega : ∀ m ∈ od, 0 ≤ m ∧ m < n)
    omega
  refine ⟨_, rfl, oa, rfl, ⟨_, SqL.of (Oo.same s12).1⟩, ?_⟩
  refine for_list (K := K) (a := oa) (xs := od.map V.int) (fun j σ G => (∃ z5 z6 z8 : Option V, σ = [some (V.ref a.o), some (V.ref oa), some (V.int n), some (V.ref ak), some (V.ref ma), z5, z6, none, z8, none]) ∧ ∃ a1 as, a1.o = a.o ∧ RowG K G C CK L n (cs.set 0 (a1, BPj p n od aks j)) ∧ StG cs H (cs.set 0 (a1, BPj p n od aks j)) G ∧ OutM G (cs.set 0 (a1, BPj p n od aks j)) ma as (rsJ n od) (j + 1)) ⟨⟨_, _, _, rfl⟩, a, [l1], rfl, ?_⟩ (fun j σ G _ h => by obtain ⟨_, a1, as, _, _, S1, _⟩ := h; exact SqL.of (Oo.step S1).1) ?_ ?_
  · rw [BPj_zero prnd prs, set_same hi]
    exact ⟨W2, StG.ofSame s12, OM0⟩
  · rintro j x σ G hx ⟨⟨z5, z6, z8, rfl⟩, a1, as, eo, W1, S1, OM⟩
    obtain ⟨m, hm, rfl⟩ := ints_at' hx
    have lj := (List.getElem?_eq_some_iff.mp hm).1
    have bm := bo m (List.mem_of_getElem? hm)
    have tk : od.take (j + 1) = od.take j ++ [m] := by rw [List.take_succ, hm]; rfl
    obtain ⟨p1, ep1⟩ : ∃ p1, p1 = BPj p n od aks j := ⟨_, rfl⟩
    obtain ⟨p2, ep2⟩ : ∃ p2 : Cp, p2 = { p1 with f := bF p.f aks (od.take (j + 1)) } := ⟨_, rfl⟩
    rw [← ep1] at W1 S1 OM
    have hi1 := get_set (c' := (a1, p1)) hi
    have pk1 : p1.key = none := by rw [ep1]; exact pk
    have good : GoodG n 0 p1 := by
      rw [ep1]
      refine ⟨by omega, by omega, n60, rsJ_nd, fun m hm => (rsJ_mem.mp hm).1, fun y e => ?_, ?_, ?_⟩
      · have e : p.key = some y := e
        rw [pk] at e; cases e
      · show (if j = 0 then p.ps else [(0, 0, 0)]).length ≤ 500
        split
        · rw [pps]; simp
        · simp
      · show (if j = 0 then p.bg else .int j) = .non ∨ ∃ g, (if j = 0 then p.bg else .int j) = .int g
        split
        · exact .inl pbg
        · exact .inr ⟨_, rfl⟩
    have pk2 : p2.key = none := by rw [ep2]; exact pk1
    have good2 : GoodG n 0 p2 := by rw [ep2]; exact good.f _
    apply goJ (fun σ G' => σ = [some (V.ref a.o), some (V.ref oa), some (V.int n), some (V.ref ak), some (V.ref ma), some (V.int m), z6, none, z8, none] ∧ ∃ a2, a2.o = a.o ∧ RowG K G' C CK L n (cs.set 0 (a2, p2)) ∧ StG cs H (cs.set 0 (a2, p2)) G' ∧ OutM G' (cs.set 0 (a2, p2)) ma as (rsJ n od) (j + 1))
    · intro J
      have Oa1 := Oa.step S1
      refine ⟨_, rfl, _, rfl, .inl ⟨ak, _, rfl, .inl (SqL.of Oa1.1), rfl, flat_ints _, _, rfl, ?_⟩⟩
      rw [inV_ints]
      by_cases c : m ∈ aks
      · refine iteT' (decide_eq_true c) ?_
        have B1 := W1.all 0 _ hi1
        obtain ⟨kv, A1, _⟩ := B1.at_
        rw [eo] at A1
        refine ⟨_, rfl, a.o, a1.dx, _, rfl, A1.hp, (A1.no "hear").2, _, rfl, by show 2 ≤ sizeLine; decide, fun lt hlt => ?_⟩
        have s2 := same_upd (o := .tup [.str "ask", .int 1]) hlt
        have W2 := W1.same s2
        have B2 := W2.all 0 _ hi1
        refine hearG_at eo B2 (.inl ⟨1, SqT.of upd_same, hearAsk_of B2 good (by omega) (by omega) ?_⟩)
        rw [hearAskG_none pk1]
        refine W2.ret hi1 fun z zs a2 H3 W3 S3 eo3 nz kz dz => ?_
        cases dz
        refine ⟨Nat.zero_le _, fun e1 he1 => ?_⟩
        have s4 := same_upd (o := .lst []) he1
        refine ⟨.list [], .list [], .lst (SqL.of (s4 _ _ kz)) .nil, .lst (SqL.of upd_same) .nil, by decide, by decide, _, rfl, iteF' (by decide +kernel) ?_⟩
        have ef : learnF p1.f m 1 = bF p.f aks (od.take (j + 1)) := by rw [tk, bF_snoc, if_pos c, ep1]; rfl
        have e2 : (a2, ({ p1 with f := learnF p1.f m 1 }, ([] : List PyData)).1) = (a2, p2) := by rw [ep2, ← ef]
        rw [e2, List.set_set] at W3 S3
        have S3' := (StG.ofSame s2).trans (S3.trans (StG.ofSame s4))
        exact J _ _ ⟨rfl, a2, eo3.trans eo, W3.same s4, S1.trans S3', OM.step S3'⟩
      · refine iteF' (decide_eq_false c) (iteF ?_)
        have e2 : p2 = p1 := by rw [ep2, tk, bF_snoc, if_neg c, ep1]; rfl
        refine J _ _ ⟨rfl, a1, eo, ?_⟩
        rw [e2]
        exact ⟨W1, S1, OM⟩
    rintro σ G2 ⟨rfl, a2, eo2, W2, S2, OM2⟩
    have hi2 := get_set (c' := (a2, p2)) hi
    obtain ⟨y, hy, Oy⟩ := OM2.at (j := j) (by omega)
    have lst := atI_last (by rw [List.length_map]; exact OM2.len) hy
    refine ⟨_, rfl, _, rfl, ma, _, _, _, rfl, rfl, SqL.of OM2.at_, lst, y, rfl, ⟨_, SqL.of Oy.1⟩, fun ra hra => ?_⟩
    have lJ := rsJ_len (n := n) (od := od) (j := j)
    have nx := rsJ_next (n := n) hm
    refine lc_filtI (K := K) (a := y) (ns := rsJ n od j) (fun x => !decide (x = m)) (by omega) hra (SqL.of Oy.1) (fun i x G Y B hx sG h => ?_) (fun H3 s3 kra => ?_)
    · refine ⟨rfl, _, rfl, _, rfl, rfl, _, rfl, ?_⟩
      exact tst (by rw [dec_ii]) (fun y => ⟨_, rfl, y⟩) h
    have kra : H3 ra = some (.lst ((rsJ n od (j + 1)).map V.int)) := by rw [nx]; exact kra
    have W3 := W2.same s3
    have OM3 := OM2.same s3
    have Ora : OutL H3 (cs.set 0 (a2, p2)) ra (rsJ n od (j + 1)) := OutL.ofNew W2 hra kra
    have rma : ra ≠ ma := (ne_of_none OM2.at_ hra).symm
    refine ⟨_, rfl, .inl ⟨rfl, _, SqL.of OM3.at_⟩, _, rfl, ma, _, _, rfl, rfl, OM3.at_, ?_, ?_⟩
    · rw [List.length_map, OM3.len]
      exact Nat.lt_of_lt_of_le (show _ < 100 by omega) (by decide)
    have W4 := W3.out (ys := (as ++ [ra]).map V.ref) OM3.at_ OM3.nf Lma
    have S4 : StG cs H (cs.set 0 (a2, p2)) (upd H3 ma (.lst ((as ++ [ra]).map V.ref))) := (S2.trans (StG.ofSame s3)).mut hma0
    have keepL : ∀ {z : Addr} {ns : List Int}, OutL H3 (cs.set 0 (a2, p2)) z ns → z ≠ ma → OutL (upd H3 ma (.lst ((as ++ [ra]).map V.ref))) (cs.set 0 (a2, p2)) z ns := fun o ne => ⟨(upd_ne ne).trans o.1, o.2⟩
    have OM4 : OutM (upd H3 ma (.lst ((as ++ [ra]).map V.ref))) (cs.set 0 (a2, p2)) ma (as ++ [ra]) (rsJ n od) (j + 2) := by
      refine ⟨upd_same, OM3.nf, by rw [List.length_append, OM3.len]; rfl, fun k z e => ?_, fun h => ?_⟩
      · rcases Nat.lt_or_ge k as.length with l | l
        · rw [List.getElem?_append_left l] at e
          exact keepL (OM3.all k z e) (fun w => OM3.no (by rw [← w]; exact List.mem_of_getElem? e))
        · rw [List.getElem?_append_right l, OM3.len] at e
          have hk : k = j + 1 := by
            have := (List.getElem?_eq_some_iff.mp e).1
            have l2 := OM3.len
            simp at this
            omega
          subst hk
          have e : ra = z := by simpa using e
          rw [← e]
          exact keepL Ora rma
      · rcases List.mem_append.mp h with z | z
        · exact OM3.no z
        · exact rma (List.mem_singleton.mp z).symm
    have Ora4 := keepL Ora rma
    rw [show (as.map V.ref) ++ [V.ref ra] = (as ++ [ra]).map V.ref by rw [List.map_append]; rfl]
    obtain ⟨H4, e4⟩ : ∃ H4, H4 = upd H3 ma (.lst ((as ++ [ra]).map V.ref)) := ⟨_, rfl⟩
    rw [← e4] at W4 S4 OM4 Ora4
    rw [← e4]
    clear e4 keepL W3 OM3 Ora S2 W2 OM2
    have lJ1 := rsJ_len (n := n) (od := od) (j := j + 1)
    refine ⟨_, rfl, ra, rfl, ⟨_, SqL.of Ora4.1⟩, fun D hD => ?_⟩
    refine lc_dataI (K := K) (a := ra) (ns := rsJ n od (j + 1)) (fun x => !decide (x = 0)) (toD (roundD ((j : Int) + 1) (rsJ n od (j + 1)))) (by omega) (fun x _ => noL_to (by simp [roundD, noL, noLs, noLs_intsD]) x) hD (SqL.of Ora4.1) (fun i x G5 Y B hx sG h1 h2 => ?_) (fun G5 zs5 s5 kD5 d5 => ?_)
    · refine ⟨rfl, _, rfl, rfl, _, rfl, ?_⟩
      rw [dec_ii]
      cases c : (!decide (x = 0)) with
      | false => exact iteF (h2 c)
      | true =>
        refine iteT ?_
        have kmG := sG _ _ OM4.at_
        have krG := sG _ _ Ora4.1
        have el : (((as ++ [ra]).map V.ref).length : Int) - 1 = (j : Int) + 1 := by
          have := OM4.len
          rw [List.length_map]
          omega
        have dI : ∀ H', Dp K H' (V.int ((((as ++ [ra]).map V.ref).length : Int) - 1)) (.int ((j : Int) + 1)) := fun H' => by rw [el]; exact .int _
        refine ⟨_, rfl, _, rfl, ma, _, rfl, .inl (SqL.of kmG), _, _, rfl, rfl, _, rfl, ra, _, rfl, .inl ⟨SqL.of krG, fun tm htm => ?_⟩⟩
        have u1 := same_upd (o := .tup ((rsJ n od (j + 1)).map V.int)) htm
        refine ⟨by show 3 ≤ sizeLine; decide, fun t ht => ?_⟩
        have u2 := same_upd (o := .tup [.str "round", .int ((((as ++ [ra]).map V.ref).length : Int) - 1), .ref tm]) ht
        refine ⟨by show 2 ≤ sizeLine; decide, fun t2 ht2 => ?_⟩
        have u3 := same_upd (o := .tup [.int x, .ref t]) ht2
        refine h1 c (.ref t2) _ ((u1.trans u2).trans u3) ?_
        exact .tup (SqT.of upd_same) (.cons (.int x) (.cons (.tup (SqT.of (u3 _ _ upd_same)) (.cons (.str _) (.cons (dI _) (.cons (.tup (SqT.of ((u2.trans u3) _ _ upd_same)) (dps_ints _)) .nil)))) .nil))
    have W5 := W4.same s5
    have B5 := W5.all 0 _ hi2
    obtain ⟨kv5, A5, _⟩ := B5.at_
    rw [eo2] at A5
    have Dn : ∀ c ∈ cs.set 0 (a2, p2), D ∉ fpG c.1 c.2 := W4.free hD
    have zero : ∃ ys, rsJ n od (j + 1) = 0 :: ys := by
      have z0 : (0 : Int) ∈ rsJ n od (j + 1) := rsJ_mem.mpr ⟨⟨by omega, by omega⟩, fun z => by have := bo 0 (List.mem_of_mem_take z); omega⟩
      have up := rsJ_up (n := n) (od := od) (j := j + 1)
      cases h : rsJ n od (j + 1) with
      | nil => rw [h] at z0; exact absurd z0 List.not_mem_nil
      | cons x xs =>
        rw [h] at z0 up
        have hx : x ∈ rsJ n od (j + 1) := by rw [h]; simp
        have hx0 := (rsJ_mem.mp hx).1.1
        rcases List.mem_cons.mp z0 with e | e
        · exact ⟨xs, by rw [e]⟩
        · have := (List.pairwise_cons.mp up).1 0 e
          omega
    obtain ⟨ys, eys⟩ := zero
    have prs2 : p2.rs = rsJ n od j := by rw [ep2, ep1]; rfl
    have prnd2 : p2.rnd = (j : Int) := by rw [ep2, ep1]; rfl
    have pst2 : p2.st = "out" := by rw [ep2, ep1]; exact pst
    have pf2 : p2.f 0 = 0 := by
      rw [ep2]
      show bF p.f aks (od.take (j + 1)) 0 = 0
      rw [bF_not (fun z => by have := bo 0 (List.mem_of_mem_take z); omega)]
      exact pf0
    have eoth : othR p2.rs m = rsJ n od (j + 1) := by rw [prs2, nx]
    have ebg := begP_eq (x := m) pk2 pf2 pst2
    have ebj : begP 0 (goneP p2 m) = BPj p n od aks (j + 1) := by
      rw [ebg, eoth, prnd2, ep2, ep1]
      unfold BPj
      rw [if_neg (Nat.succ_ne_zero j), if_neg (Nat.succ_ne_zero j)]
      rfl
    have nls : noLs (((rsJ n od (j + 1)).filter fun x => !decide (x = 0)).map (toD (roundD ((j : Int) + 1) (rsJ n od (j + 1))))) = true := noLs_of fun d hd => by
      obtain ⟨y, _, rfl⟩ := List.mem_map.mp hd
      exact noL_to (by simp [roundD, noL, noLs, noLs_intsD]) y
    refine ⟨_, rfl, a.o, a2.dx, _, rfl, A5.hp, (A5.no "gone").2, _, rfl, n, 0, a2, p2, m, 0, ys, by rw [eo2]; rfl, B5, good2, by rw [eoth]; exact eys, .inr ⟨rfl, ?_, ?_⟩⟩
    · rw [ebj]
      refine .inl fun z => ?_
      have hk : k ∈ awF (BPj p n od aks (j + 1)).rs (two1 (BPj p n od aks (j + 1)).ps) := by
        unfold awF BPj two1
        rw [if_neg (by omega)]
        refine List.mem_filter.mpr ⟨(rsJ_mem (m := k)).mpr ⟨⟨by omega, by omega⟩, fun w => ko (List.mem_of_mem_take w)⟩, ?_⟩
        simp
        omega
      rw [z] at hk
      exact absurd hk List.not_mem_nil
    have eR : beginG 0 (goneP p2 m) = (BPj p n od aks (j + 1), (othR (rsJ n od (j + 1)) 0).map (toD (roundD ((j : Int) + 1) (rsJ n od (j + 1))))) := by
      unfold beginG
      rw [ebj]
      show (_, (othR (othR p2.rs m) 0).map (toD (roundD (p2.rnd + 1) (othR p2.rs m)))) = _
      rw [eoth, prnd2]
    rw [eR]
    refine W5.ret hi2 fun z zs a6 H6 W6 S6 eo6 nz kz dz => ?_
    have W6 : RowG K H6 C CK L n (cs.set 0 (a6, BPj p n od aks (j + 1))) := by rw [List.set_set] at W6; exact W6
    have S6 : StG (cs.set 0 (a2, p2)) G5 (cs.set 0 (a6, BPj p n od aks (j + 1))) H6 := by rw [List.set_set] at S6; exact S6
    have hi6 := get_set (c' := (a6, BPj p n od aks (j + 1))) hi
    have kD6 := (S6 _ _ kD5 Dn).1
    have d6 := dps_kt (S6.sqt W5) _ _ nls d5
    have shp : SeqAt.shaped (.list ((othR (rsJ n od (j + 1)) 0).map (toD (roundD ((j : Int) + 1) (rsJ n od (j + 1)))))) = true := shaped_tos (lay_round _ _) (deep_round _ _) _
    refine ⟨_, rfl, _, _, .lst (SqL.of kz) dz, .lst (SqL.of kD6) d6, shp, shp, _, rfl, iteF' (eq_bl (eqv_shaped shp)) ?_⟩
    have OM6 := (OM4.same s5).step S6
    have B6 := W6.all 0 _ hi6
    obtain ⟨kv6, A6, _⟩ := B6.at_
    have eo7 : a6.o = a.o := eo6.trans eo2
    rw [eo7] at A6
    have A6 : CalAt H6 C a.o a6.dx 0 p.st ((j + 1 : Nat) : Int) a6.ro a6.nu (keyG a6 (BPj p n od aks (j + 1))) (BPj p n od aks (j + 1)).bg a6.pl (rsJ n od (j + 1)) _ kv6 := A6
    refine ⟨_, rfl, a.o, C, a6.dx, _, _, rfl, A6.hp, S.cl, S.round, caF_rnd _ _ _ _ _ _ _ _ _, _, rfl, ma, _, rfl, .inl (SqL.of OM6.at_), _, _, rfl, rfl, rfl, _, rfl, iteF' ?_ ?_⟩
    · have := OM6.len
      rw [dec_ii, List.length_map, decide_eq_true (by omega)]
      rfl
    refine ⟨_, rfl, a.o, a6.dx, _, rfl, A6.hp, (A6.no "bears").2, ?_⟩
    rw [← eo7]
    unfold tNil
    change spBears K C CK [.ref a6.o] H6 _ E0
    refine bears_of (E := E0) B6 ⟨fun _ => ?_, fun y e => ?_⟩
    · refine ⟨rfl, _, rfl, iteF' rfl ?_⟩
      rw [eo7]
      exact ⟨⟨_, _, _, rfl⟩, a6, as ++ [ra], eo7, W6, (S4.trans (StG.ofSame s5)).trans S6, OM6⟩
    · have e : p.key = some y := e
      rw [pk] at e
      cases e
  rintro σ G ⟨⟨z5, z6, z8, rfl⟩, a1, as, eo, W1, S1, OM⟩
  rw [List.length_map] at W1 S1 OM
  exact ⟨_, rfl, q ma as a1 G W1 eo S1 OM⟩
end

end G0
namespace G0
open PySem PySem.Spec PyProof.Rows L2 NdefX ClX
set_option maxHeartbeats 8000000
section
variable {P : Program} {w : World} {K : PySem.W.Frag} {mg : Str → Option Value} {base : Heap} {C CK : Addr}
theorem lay_plg (r n a h : Int) : (plgD r n a h).canLay0 = true := by
  simp [plgD, PyData.canLay0, PyData.canLayAll0]
  decide +kernel
theorem deep_plg (r n a h : Int) : (plgD r n a h).depth ≤ 60 := by simp [plgD, PyData.depth, PyData.depthAll]
theorem askN_in : askN "in" = 0 := by unfold askN; rw [if_neg (by decide +kernel)]
/-! ### rounds are held -/
def lineJ (M : Nat → List Int) (ls : List Int) : Nat → List Int
  | 0 => ls
  | j + 1 => (lineJ M ls j).filter fun m => decide (m ∈ M (j + 1))
theorem lineJ_len {M : Nat → List Int} {ls : List Int} : ∀ j, (lineJ M ls j).length ≤ ls.length
  | 0 => Nat.le_refl _
  | j + 1 => Nat.le_trans (List.length_filter_le _ _) (lineJ_len j)
def heldP (p : Cp) (M : Nat → List Int) (gs ls : List Int) (j : Nat) : Cp := { p with rnd := j, key := some ⟨j, pairsOf (M j) gs, lineJ M ls j⟩ }
theorem pairs_filt {ms ms' gs : List Int} (h : (ms.filter fun m => decide (m ∈ ms')) = ms') : (pairsOf ms gs).filter (fun p => decide (p.1 ∈ ms')) = pairsOf ms' gs := by
  unfold pairsOf
  rw [List.filter_map]
  exact congrArg _ h
theorem hear_held {p : Cp} {M : Nat → List Int} {gs ls : List Int} {j : Nat} {i : Int} (h : ((M j).filter fun m => decide (m ∈ M (j + 1))) = M (j + 1)) (st : p.st = "in") (fi : p.f i = 1) : hearRndG i (heldP p M gs ls j) 0 ((j + 1 : Nat) : Int) (M (j + 1)) = (heldP p M gs ls (j + 1), [toD (plgD ((j + 1 : Nat) : Int) 1 0 1) 0]) := by
  unfold hearRndG
  rw [if_neg (show ¬ ((j + 1 : Nat) : Int) ≤ (heldP p M gs ls j).rnd by show ¬ ((j + 1 : Nat) : Int) ≤ (j : Int); omega)]
  have e1 : renP ((j + 1 : Nat) : Int) (M (j + 1)) { heldP p M gs ls j with rnd := ((j + 1 : Nat) : Int) } = heldP p M gs ls (j + 1) := by
    unfold renP heldP
    simp only [Option.map_some]
    unfold renK
    rw [if_pos (show (j : Int) < ((j + 1 : Nat) : Int) by omega), pairs_filt h]
    rfl
  rw [e1]
  have e2 : (heldP p M gs ls j).f i = 1 := fi
  have e3 : (heldP p M gs ls j).st = "in" := st
  rw [e2, e3, askN_in]
  rfl
def spHeld (K : PySem.W.Frag) (C CK : Addr) : Sp := fun vs H Q _ => ∃ (L : Addr) (n : Int) (i : Nat) (a : Ad) (p : Cp) (cs : List (Ad × Cp)) (ma ga la : Addr) (as : List Addr) (M : Nat → List Int) (k : Nat) (gs ls : List Int), vs = [.ref a.o, .ref ma, .ref ga, .ref la] ∧ RowG K H C CK L n cs ∧ cs[i]? = some (a, p) ∧ GoodG n (i : Int) p ∧ OutM H cs ma as M k ∧ 1 ≤ k ∧ k ≤ 100 ∧
  OutL H cs ga gs ∧ OutL H cs la ls ∧ p = heldP p M gs ls 0 ∧ p.st = "in" ∧ p.f (i : Int) = 1 ∧ (∀ j, j + 1 < k → ((M j).filter fun m => decide (m ∈ M (j + 1))) = M (j + 1)) ∧ (∀ j, (M j).length ≤ 60) ∧ ls.length ≤ 60 ∧
  ∀ a' H', RowG K H' C CK L n (cs.set i (a', heldP p M gs ls (k - 1))) → a'.o = a.o → StG cs H (cs.set i (a', heldP p M gs ls (k - 1))) H' → Q (.bl true) H'
theorem sc_law_held : FnScope ["one", "members", "gone_in", "line", "number", "seat"] ["one", "members", "gone_in", "line"] (defScope s_law_held) :=
  ⟨rfl, rfl, rfl, by decide +kernel, rfl, by decide +kernel, by decide +kernel⟩
theorem ok_held (F : Fn K mg "_law_held" s_law_held) (T : BlT0 mg) (S : CalT K C) (C_pairs : Cal P w K mg base "_law_pairs" 1 ["members", "gone_in"] (spPairs0 K)) (MH : Me P w K mg base C "hear" 5 ["self", "sender", "letter"] (spHearG K C CK)) (MB : Me P w K mg base C "bears" 2 ["self"] (spBears K C CK)) :
    Cal P w K mg base "_law_held" 6 ["one", "members", "gone_in", "line"] (spHeld K C CK) := by
  obtain ⟨fH, fdH, GH, bH, mH⟩ := MH
  obtain ⟨fB, fdB, GB, bB, mB⟩ := MB
  refine cal_of F sc_law_held
    (fun _ _ _ _ _ _ us hl => match us, hl with | [_, _, _, _], _ => rfl) ?_ ?_
  · rintro vs H Q E ⟨_, _, _, _, _, _, _, _, _, _, _, _, _, _, rfl, _⟩
    rfl
  rintro f cdv A outer s H vs Q E free hr ⟨L, n, i, a, p, cs, ma, ga, la, as, M, k, gs, ls, rfl, W, hi, G, OM, k1, k2, Og, Ol, p0, pst, pfi, ch, lM, lls, q⟩
  have hr2 : Room 2 _ := hr.mono (by decide)
  refine ⟨_, (pss_cons (ps_for PassesOwn.never rfl (pi_range2 (by rfl) T.range (pa_cons pe_int (pa_cons (pe_callB call_len_seq (by rfl) T.len (by decide +kernel) (pa_cons (pv 1) pa_nil)) pa_nil))) (pg_name (i := 4) sc_law_held.nd rfl (Or.inr rfl))
    (pss_cons (ps_setLc (i := 3) (own := [("seat", 5)]) (g := gName 5)  (by rfl) sc_law_held.nd rfl rfl (sw_true rfl rfl rfl (by decide +kernel)) (pi_list (pv 3)) (blkOk_by (N := ["one", "members", "gone_in", "line", "number", "seat"]) (sc := defScope s_law_held) (by decide +kernel)) (fun _ _ _ _ _ => pg_name (i := 5) sc_law_held.nd rfl (Or.inl rfl)) (fun _ _ _ _ _ => pts_one (pt_cmpR (u_inK K) (pv 5) (pe_ix (ix_listK K) (pv 1) (pv 4) (fun _ _ => rfl)) (by rfl))) (fun _ _ _ _ _ => (pv 5)))
    (pss_cons (ps_if (pt_cmpR (op_neD (u64 hr)) (pe_meth (pv 0) S.cl mH GH hr bH .nil pass0 (pa_cons pe_int (pa_cons (pe_tup (pa_cons pe_str (pa_cons (pv 4) (pa_cons (pe_callTy call_tuple_of (by rfl) T.tuple (by decide +kernel) (pa_cons (pe_ix ix_list (pv 1) (pv 4) (fun _ _ => rfl)) pa_nil)) pa_nil)))) pa_nil))) (pe_lst (pa_cons (pe_tup (pa_cons pe_int (pa_cons (pe_tup (pa_cons pe_str (pa_cons (pv 4) (pa_cons pe_int (pa_cons pe_int (pa_cons pe_int pa_nil)))))) pa_nil))) pa_nil)) (nomark _))
    (pss_one (ps_ret pe_bl))
    pss_nil)
    (pss_cons (ps_if (pt_cmpR (op_neD (u64 hr)) (pe_meth0 (pv 0) S.cl mB GB hr2 bB .nil pass0) (pe_tup (pa_cons (pv 4) (pa_cons (pe_cal C_pairs free (hr.mono (by decide)) (pa_cons (pe_ix ix_list (pv 1) (pv 4) (fun _ _ => rfl)) (pa_cons (pv 2) pa_nil))) (pa_cons (pe_callTy call_tuple_of (by rfl) T.tuple (by decide +kernel) (pa_cons (pv 3) pa_nil)) pa_nil)))) (nomark _))
    (pss_one (ps_ret pe_bl))
    pss_nil)
    (pss_one (ps_if (PW.pt (pw_or (pt_cmpR op_ne (pe_fld (pv 0) (by rfl)) (pv 4) (nomark _)) (pw_or1 (pt_cmpR op_ne (pe_fld (pv 0) (by rfl)) pe_str (nomark _)))))
    (pss_one (ps_ret pe_bl))
    pss_nil))))))
    (pss_one (ps_ret pe_bl))), ?_⟩
  refine ⟨_, rfl, ma, _, rfl, .inl (SqL.of OM.at_), 1, _, rfl, ?_⟩
  rw [List.length_map, OM.len]
  refine ⟨⟨by decide, by decide, by omega, by omega⟩, ?_⟩
  refine for_range (lo := 1) (n := _) (fun j σ G1 => (∃ (z4 : Option V) (lj : Addr), σ = [some (V.ref a.o), some (V.ref ma), some (V.ref ga), some (V.ref lj), z4, none] ∧ ∃ a1, a1.o = a.o ∧ OutL G1 (cs.set i (a1, heldP p M gs ls j)) lj (lineJ M ls j) ∧ RowG K G1 C CK L n (cs.set i (a1, heldP p M gs ls j)) ∧ StG cs H (cs.set i (a1, heldP p M gs ls j)) G1)) ⟨_, la, rfl, a, rfl, ?_⟩ ?_ ?_
  · rw [← p0, set_same hi]
    exact ⟨Ol, W, StG.refl⟩
  · rintro j σ G1 hj ⟨z4, lj, rfl, a1, eo, Ol1, W1, S1⟩
    have hj : j + 1 < k := by omega
    have hi1 := get_set (c' := (a1, heldP p M gs ls j)) hi
    have OM1 := OM.step S1
    obtain ⟨y, hy, Oy⟩ := OM1.at (j := j + 1) hj
    have en : (1 : Int) + (j : Int) = ((j + 1 : Nat) : Int) := by omega
    have aty : atI (as.map V.ref) (1 + (j : Int)) = some (.ref y) := by rw [en]; exact atI_nat hy
    have lj0 : (lineJ M ls j).length ≤ 60 := Nat.le_trans (lineJ_len j) lls
    refine ⟨_, rfl, lj, rfl, ⟨_, SqL.of Ol1.1⟩, fun l2 hl2 => ?_⟩
    refine lc_filtI (K := K) (a := lj) (ns := lineJ M ls j) (fun m => decide (m ∈ M (j + 1))) (by omega) hl2 (SqL.of Ol1.1) (fun i x G Y B hx sG h => ?_) (fun G2 s2 kl2 => ?_)
    · refine ⟨rfl, _, rfl, _, rfl, _, rfl, ma, _, _, _, rfl, rfl, SqL.of (sG _ _ OM1.at_), aty, .inl ⟨y, _, rfl, .inl (SqL.of (sG _ _ Oy.1)), rfl, flat_ints _, _, rfl, ?_⟩⟩
      exact tst (by rw [inV_ints]; rfl) (fun y => ⟨_, rfl, y⟩) h
    have Ol2 : OutL G2 (cs.set i (a1, heldP p M gs ls j)) l2 (lineJ M ls (j + 1)) := OutL.ofNew W1 hl2 kl2
    have W2 := W1.same s2
    have OM2 := OM1.same s2
    have Oy2 := Oy.same s2
    have B2 := W2.all i _ hi1
    obtain ⟨kv2, A2, _⟩ := B2.at_
    rw [eo] at A2
    have gd : ∀ j, GoodG n (i : Int) (heldP p M gs ls j) := fun j => ⟨G.i0, G.i1, G.n60, G.nd, G.bnd, fun y e => by cases e; have := lineJ_len (M := M) (ls := ls) j; show (lineJ M ls j).length ≤ 500; omega, G.ps, G.bg⟩
    refine ⟨_, rfl, a.o, a1.dx, _, rfl, A2.hp, (A2.no "hear").2, _, rfl, _, rfl, _, rfl, ma, _, _, _, rfl, rfl, SqL.of OM2.at_, aty, y, _, rfl, .inl ⟨SqL.of Oy2.1, fun tm htm => ?_⟩⟩
    have u1 := same_upd (o := .tup ((M (j + 1)).map V.int)) htm
    refine ⟨by show 3 ≤ sizeLine; decide, fun lt hlt => ?_⟩
    have u2 := same_upd (o := .tup [.str "round", .int (1 + (j : Int)), .ref tm]) hlt
    have W3 := W2.same (u1.trans u2)
    have B3 := W3.all i _ hi1
    have qtm : SqT K (upd (upd G2 tm (.tup ((M (j + 1)).map V.int))) lt (.tup [.str "round", .int (1 + (j : Int)), .ref tm])) tm ((M (j + 1)).map V.int) := SqT.of (u2 _ _ upd_same)
    refine hearG_at eo B3 (.inr (.inr (.inl ⟨((j + 1 : Nat) : Int), tm, by rw [← en]; exact SqT.of upd_same, n, (i : Int), a1, heldP p M gs ls j, 0, ((j + 1 : Nat) : Int), tm, M (j + 1), rfl, B3, gd j, qtm, ?_⟩)))
    rw [hear_held (ch j hj) pst pfi]
    refine W3.ret hi1 fun z zs a4 H4 W4 S4 eo4 nz kz dz => ?_
    have W4 : RowG K H4 C CK L n (cs.set i (a4, heldP p M gs ls (j + 1))) := by rw [List.set_set] at W4; exact W4
    rw [List.set_set] at S4
    have hi4 := get_set (c' := (a4, heldP p M gs ls (j + 1))) hi
    have eo5 : a4.o = a.o := eo4.trans eo
    refine ⟨_, rfl, by show 5 ≤ sizeLine; decide, fun x1 hx1 => ?_⟩
    have v1 := same_upd (o := .tup [.str "pledge", .int (1 + (j : Int)), .int 1, .int 0, .int 1]) hx1
    refine ⟨by show 2 ≤ sizeLine; decide, fun x2 hx2 => ?_⟩
    have v2 := same_upd (o := .tup [.int 0, .ref x1]) hx2
    refine ⟨by show 1 ≤ sizeLine; decide, fun x3 hx3 => ?_⟩
    have v3 := same_upd (o := .lst [.ref x2]) hx3
    have v13 := (v1.trans v2).trans v3
    have shp : SeqAt.shaped (.list [toD (plgD ((j + 1 : Nat) : Int) 1 0 1) 0]) = true := shaped_tos (lay_plg _ _ _ _) (deep_plg _ _ _ _) [0]
    have due : Dp K (upd (upd (upd H4 x1 (.tup [.str "pledge", .int (1 + (j : Int)), .int 1, .int 0, .int 1])) x2 (.tup [.int 0, .ref x1])) x3 (.lst [.ref x2])) (.ref x2) (toD (plgD ((j + 1 : Nat) : Int) 1 0 1) 0) := by
      rw [← en]
      exact .tup (SqT.of (v3 _ _ upd_same)) (.cons (.int 0) (.cons (.tup (SqT.of ((v2.trans v3) _ _ upd_same)) (.cons (.str _) (.cons (.int _) (.cons (.int _) (.cons (.int _) (.cons (.int _) .nil)))))) .nil))
    refine ⟨_, _, .lst (SqL.of (v13 _ _ kz)) (dps_same v13 _ _ dz), .lst (SqL.of upd_same) (.cons due .nil), shp, shp, _, rfl, iteF' (eq_bl (eqv_shaped shp)) ?_⟩
    have W5 := W4.same v13
    have B5 := W5.all i _ hi4
    obtain ⟨kv5, A5, _⟩ := B5.at_
    rw [eo5] at A5
    have S5 : StG cs H (cs.set i (a4, heldP p M gs ls (j + 1))) _ := ((((S1.trans (StG.ofSame s2)).trans (StG.ofSame (u1.trans u2))).trans S4).trans (StG.ofSame v13))
    have Ol5 : OutL _ (cs.set i (a4, heldP p M gs ls (j + 1))) l2 (lineJ M ls (j + 1)) := (((Ol2.same (u1.trans u2)).step S4).same v13)
    have OM5 := OM.step S5
    have Og5 := Og.step S5
    obtain ⟨y5, hy5, Oy5⟩ := OM5.at (j := j + 1) hj
    have aty5 : atI (as.map V.ref) (1 + (j : Int)) = some (.ref y5) := by rw [en]; exact atI_nat hy5
    obtain ⟨H5, e5⟩ : ∃ H5, H5 = (upd (upd (upd H4 x1 (.tup [.str "pledge", .int (1 + (j : Int)), .int 1, .int 0, .int 1])) x2 (.tup [.int 0, .ref x1])) x3 (.lst [.ref x2])) := ⟨_, rfl⟩
    rw [← e5] at W5 B5 A5 S5 Ol5 OM5 Og5 Oy5
    rw [← e5]
    clear e5 due
    refine ⟨_, rfl, a.o, a4.dx, _, rfl, A5.hp, (A5.no "bears").2, ?_⟩
    unfold tNil
    rw [← eo5]
    refine bears_of (E := E0) B5 ⟨fun e => ?_, fun y e t H6 s6 dT => ?_⟩
    · have e : (some _ : Option KP) = none := e
      cases e
    cases e
    rw [eo5]
    refine ⟨_, rfl, _, rfl, _, rfl, ma, _, _, _, rfl, rfl, SqL.of (s6 _ _ OM5.at_), aty5, _, rfl, y5, ga, M (j + 1), gs, rfl, s6 _ _ Oy5.1, s6 _ _ Og5.1, by have := lM (j + 1); omega, fun tp H7 s7 dp => ?_⟩
    have s57 := s6.trans s7
    refine ⟨_, rfl, l2, _, rfl, .inl ⟨SqL.of (s57 _ _ Ol5.1), fun tl htl => ?_⟩⟩
    have w1 := same_upd (o := .tup ((lineJ M ls (j + 1)).map V.int)) htl
    refine ⟨by show 3 ≤ sizeLine; decide, fun tt htt => ?_⟩
    have w2 := same_upd (o := .tup [.int (1 + (j : Int)), .ref tp, .ref tl]) htt
    have w12 := w1.trans w2
    have shp2 := shaped_told ((j + 1 : Nat) : Int) (pairsOf (M (j + 1)) gs) (lineJ M ls (j + 1))
    have due2 : Dp K (upd (upd H7 tl (.tup ((lineJ M ls (j + 1)).map V.int))) tt (.tup [.int (1 + (j : Int)), .ref tp, .ref tl])) (.ref tt) (toldD ((j + 1 : Nat) : Int) (pairsOf (M (j + 1)) gs) (lineJ M ls (j + 1))) := by
      rw [← en]
      exact .tup (SqT.of upd_same) (.cons (.int _) (.cons (dp_same w12 _ _ dp) (.cons (.tup (SqT.of (w2 _ _ upd_same)) (dps_ints _)) .nil)))
    refine ⟨_, _, dp_same (s7.trans w12) _ _ dT, due2, shp2, shp2, _, rfl, iteF' (eq_bl (eqv_shaped shp2)) ?_⟩
    have s8 := s57.trans w12
    have A8 := A5.same s8
    have A8 : CalAt _ C a.o a4.dx (i : Int) p.st ((j + 1 : Nat) : Int) a4.ro a4.nu (keyG a4 (heldP p M gs ls (j + 1))) p.bg a4.pl p.rs _ kv5 := A8
    refine ⟨_, rfl, a.o, C, a4.dx, _, _, rfl, A8.hp, S.cl, S.round, caF_rnd _ _ _ _ _ _ _ _ _, _, rfl, rfl, _, rfl, iteF' (by rw [dec_ii, decide_eq_true (by omega)]; rfl) ?_⟩
    refine ⟨_, rfl, a.o, C, a4.dx, _, _, rfl, A8.hp, S.cl, S.state, caF_stt _ _ _ _ _ _ _ _ _, rfl, _, rfl, iteF' (by rw [dec_str, decide_eq_true pst]; rfl) ?_⟩
    exact ⟨_, l2, rfl, a4, eo5, Ol5.same s8, W5.same s8, S5.trans (StG.ofSame s8)⟩
  rintro σ G1 ⟨z4, lj, rfl, a1, eo, Ol1, W1, S1⟩
  rw [show ((k : Int) - 1).toNat = k - 1 by omega] at W1 S1
  exact q a1 G1 W1 eo S1
end

end G0
namespace G0
open PySem PySem.Spec PyProof.Rows L2 NdefX ClX
set_option maxHeartbeats 8000000
section
variable {P : Program} {w : World} {K : PySem.W.Frag} {mg : Str → Option Value} {base : Heap} {C CK : Addr}
theorem ints_back {H : Hp} : ∀ {vs : List V} {ns : List Int}, DpAll K H vs (ns.map PyData.int) → vs = ns.map V.int
  | [], [], _ => rfl
  | [], n :: ns, h => by cases h
  | v :: vs, [], h => by cases h
  | v :: vs, n :: ns, h => by
    cases h with
    | cons h1 h2 =>
      cases h1
      rw [ints_back h2]
      rfl
/-! ### a key is taken -/
def takenP (p : Cp) (r : Int) (S : List (Int × Int)) (ns : List Int) (j : Nat) : Cp := { p with st := "in", rnd := j, key := some ⟨r, S, ns⟩ }
theorem hear_taken {p : Cp} {r : Int} {S : List (Int × Int)} {ns ms : List Int} {j : Nat} {i : Int} (le : ((j + 1 : Nat) : Int) ≤ r) (fi : p.f i = 1) : hearRndG i (takenP p r S ns j) 0 ((j + 1 : Nat) : Int) ms = (takenP p r S ns (j + 1), [toD (plgD ((j + 1 : Nat) : Int) 1 0 1) 0]) := by
  unfold hearRndG
  rw [if_neg (show ¬ ((j + 1 : Nat) : Int) ≤ (takenP p r S ns j).rnd by show ¬ ((j + 1 : Nat) : Int) ≤ (j : Int); omega)]
  have e1 : renP ((j + 1 : Nat) : Int) ms { takenP p r S ns j with rnd := ((j + 1 : Nat) : Int) } = takenP p r S ns (j + 1) := by
    unfold renP takenP
    simp only [Option.map_some]
    unfold renK
    rw [if_neg (show ¬ r < ((j + 1 : Nat) : Int) by omega)]
  rw [e1]
  have e2 : (takenP p r S ns j).f i = 1 := fi
  have e3 : (takenP p r S ns j).st = "in" := rfl
  rw [e2, e3, askN_in]
  rfl
def spTaken (K : PySem.W.Frag) (C CK : Addr) : Sp := fun vs H Q _ => ∃ (L : Addr) (n : Int) (i : Nat) (a : Ad) (p : Cp) (cs : List (Ad × Cp)) (s r : Int) (ma kt : Addr) (as : List Addr) (M : Nat → List Int) (k : Nat) (SS : List (Int × Int)) (ns : List Int), vs = [.ref a.o, .int s, .ref ma, .ref kt] ∧ RowG K H C CK L n cs ∧ cs[i]? = some (a, p) ∧ GoodG n (i : Int) p ∧ OutM H cs ma as M k ∧ 1 ≤ k ∧ k ≤ 100 ∧
  Dp K H (.ref kt) (toldD r SS ns) ∧ p.rnd = 0 ∧ r = (k : Int) - 1 ∧ p.f (i : Int) = 1 ∧ (SS.map (·.1)).Pairwise (· < ·) ∧ SS.length ≤ 60 ∧ ns.length ≤ 60 ∧
  ∀ a' H', RowG K H' C CK L n (cs.set i (a', takenP p r SS ns (k - 1))) → a'.o = a.o → StG cs H (cs.set i (a', takenP p r SS ns (k - 1))) H' → Q (.bl true) H'
theorem noL_told (r : Int) (S : List (Int × Int)) (ns : List Int) : noL (toldD r S ns) = true := by
  simp [toldD, noL, noLs, noLs_pairs, noLs_intsD]
theorem sc_law_taken : FnScope ["one", "sender", "members", "key", "number"] ["one", "sender", "members", "key"] (defScope s_law_taken) :=
  ⟨rfl, rfl, rfl, by decide +kernel, rfl, by decide +kernel, by decide +kernel⟩
theorem ok_taken (F : Fn K mg "_law_taken" s_law_taken) (T : BlT0 mg) (S : CalT K C) (MH : Me P w K mg base C "hear" 5 ["self", "sender", "letter"] (spHearG K C CK)) (MB : Me P w K mg base C "bears" 2 ["self"] (spBears K C CK)) :
    Cal P w K mg base "_law_taken" 6 ["one", "sender", "members", "key"] (spTaken K C CK) := by
  obtain ⟨fH, fdH, GH, bH, mH⟩ := MH
  obtain ⟨fB, fdB, GB, bB, mB⟩ := MB
  refine cal_of F sc_law_taken
    (fun _ _ _ _ _ _ us hl => match us, hl with | [_, _, _, _], _ => rfl) ?_ ?_
  · rintro vs H Q E ⟨_, _, _, _, _, _, _, _, _, _, _, _, _, _, _, rfl, _⟩
    rfl
  rintro f cdv A outer s H vs Q E free hr ⟨L, n, i, a, p, cs, s', r, ma, kt, as, M, k, SS, ns, rfl, W, hi, G, OM, k1, k2, dk, prnd, er, pfi, up, l60, lns, q⟩
  have hr2 : Room 2 _ := hr.mono (by decide)
  refine ⟨_, (pss_cons (ps_if (PW.pt (pw_or (pt_cmpR (op_neD (u64 hr)) (pe_meth (pv 0) S.cl mH GH hr bH .nil pass0 (pa_cons (pv 1) (pa_cons (pe_op op_catA (pe_tup (pa_cons pe_str pa_nil)) (pv 3)) pa_nil))) (pe_lst pa_nil) (nomark _)) (pw_or (pt_cmpR (op_neD (u64 hr)) (pe_meth0 (pv 0) S.cl mB GB hr2 bB .nil pass0) (pv 3) (nomark _)) (pw_or (pt_cmpR op_ne (pe_fld (pv 0) (by rfl)) pe_str (nomark _)) (pw_or1 (pt_cmpR op_ne (pe_fld (pv 0) (by rfl)) pe_int (nomark _)))))))
    (pss_one (ps_ret pe_bl))
    pss_nil)
    (pss_cons (ps_for PassesOwn.never rfl (pi_range2 (by rfl) T.range (pa_cons pe_int (pa_cons (pe_callB call_len_seq (by rfl) T.len (by decide +kernel) (pa_cons (pv 2) pa_nil)) pa_nil))) (pg_name (i := 4) sc_law_taken.nd rfl (Or.inl rfl))
    (pss_cons (ps_if (pt_cmpR (op_neD (u64 hr)) (pe_meth (pv 0) S.cl mH GH hr bH .nil pass0 (pa_cons pe_int (pa_cons (pe_tup (pa_cons pe_str (pa_cons (pv 4) (pa_cons (pe_callTy call_tuple_of (by rfl) T.tuple (by decide +kernel) (pa_cons (pe_ix ix_list (pv 2) (pv 4) (fun _ _ => rfl)) pa_nil)) pa_nil)))) pa_nil))) (pe_lst (pa_cons (pe_tup (pa_cons pe_int (pa_cons (pe_tup (pa_cons pe_str (pa_cons (pv 4) (pa_cons pe_int (pa_cons pe_int (pa_cons pe_int pa_nil)))))) pa_nil))) pa_nil)) (nomark _))
    (pss_one (ps_ret pe_bl))
    pss_nil)
    (pss_one (ps_if (PW.pt (pw_or (pt_cmpR op_ne (pe_fld (pv 0) (by rfl)) (pv 4) (nomark _)) (pw_or (pt_cmpR (op_neD (u64 hr)) (pe_meth0 (pv 0) S.cl mB GB hr2 bB .nil pass0) (pv 3) (nomark _)) (pw_or1 (pt_cmpR op_ne (pe_fld (pv 0) (by rfl)) pe_str (nomark _))))))
    (pss_one (ps_ret pe_bl))
    pss_nil))))
    (pss_one (ps_ret pe_bl)))), ?_⟩
  have B0 := W.all i _ hi
  obtain ⟨kv0, A0, _⟩ := B0.at_
  refine ⟨_, rfl, a.o, a.dx, _, rfl, A0.hp, (A0.no "hear").2, _, rfl, by show 1 ≤ sizeLine; decide, fun t1 ht1 => ?_⟩
  have s1 := same_upd (o := .tup [.str "key"]) ht1
  obtain ⟨u, v, qk, du, dv⟩ := told_at (dp_same s1 _ _ dk)
  refine ⟨_, rfl, cat_anyk (SqT.of upd_same) qk (by show 1 + 3 ≤ 10000; decide) fun t3 H3 s3 q3 => ?_⟩
  have s13 := s1.trans s3
  have W3 := W.same s13
  have B3 := W3.all i _ hi
  obtain ⟨ys, uu, dys⟩ : ∃ ys, SqT K H3 u ys ∧ DpAll K H3 ys (SS.map pairD) := by
    cases dp_same s3 _ _ du with
    | tup h1 h2 => exact ⟨_, h1, h2⟩
  have vv : SqT K H3 v (ns.map V.int) := by
    cases dp_same s3 _ _ dv with
    | tup h1 h2 => rw [← ints_back h2]; exact h1
  refine hearG_at rfl B3 (.inr (.inl ⟨_, q3, hearKey_of B3 G q3 uu dys vv (by rw [prnd, er]; omega) up l60 (by omega) ?_⟩))
  refine W3.ret hi fun z zs a4 H4 W4 S4 eo nz kz dz => ?_
  cases dz
  have e0 : (a4, (({ p with st := "in", key := some ⟨r, SS, ns⟩ } : Cp), ([] : List PyData)).1) = (a4, takenP p r SS ns 0) := by
    unfold takenP
    rw [show ((0 : Nat) : Int) = p.rnd by rw [prnd]; rfl]
  rw [e0] at W4 S4
  have hi4 := get_set (c' := (a4, takenP p r SS ns 0)) hi
  refine ⟨Nat.zero_le _, fun e1 he1 => ?_⟩
  have s4 := same_upd (o := .lst []) he1
  refine ⟨.list [], .list [], .lst (SqL.of (s4 _ _ kz)) .nil, .lst (SqL.of upd_same) .nil, by decide, by decide, _, rfl, iteF' (by decide +kernel) ?_⟩
  have W5 := W4.same s4
  have S05 := ((StG.ofSame s13).trans S4).trans (StG.ofSame s4)
  have dk5 := dp_kt (S05.sqt W) _ _ (noL_told _ _ _) dk
  have B5 := W5.all i _ hi4
  have shp := shaped_told r SS ns
  have bears : ∀ {j : Nat} {a1 : Ad} {H1 : Hp} {Q' : VK}, CgAt K H1 C CK n (i : Int) a1 (takenP p r SS ns j) → a1.o = a.o → (∀ t H2, Same H1 H2 → Dp K H2 (.ref t) (toldD r SS ns) → Q' (.ref t) H2) → spBears K C CK (V.ref a.o :: ([] ++ [])) H1 Q' E0 := fun {j a1 H1 Q'} B e h => by
    rw [← e]
    refine bears_of (E := E0) B ⟨fun e => ?_, fun y e t H6 s6 dT => ?_⟩
    · have e : (some _ : Option KP) = none := e
      cases e
    · cases e
      exact h t H6 s6 dT
  have chk : ∀ {j : Nat} {a1 : Ad} {H1 : Hp}, CgAt K H1 C CK n (i : Int) a1 (takenP p r SS ns j) → a1.o = a.o → ∃ kv, CalAt H1 C a.o a1.dx (i : Int) "in" (j : Int) a1.ro a1.nu (keyG a1 (takenP p r SS ns j)) p.bg a1.pl p.rs (msF n p.f) kv := fun {j a1 H1} B e => by
    obtain ⟨kv, A, _⟩ := B.at_
    rw [e] at A
    exact ⟨kv, A⟩
  obtain ⟨kv5, A5⟩ := chk B5 eo
  refine ⟨_, rfl, a.o, a4.dx, _, rfl, A5.hp, (A5.no "bears").2, ?_⟩
  unfold tNil
  refine bears B5 eo fun t H6 s6 dT => ?_
  refine ⟨_, rfl, _, _, dT, dp_same s6 _ _ dk5, shp, shp, _, rfl, iteF' (eq_bl (eqv_shaped shp)) ?_⟩
  have A6 := A5.same s6
  refine ⟨_, rfl, a.o, C, a4.dx, _, _, rfl, A6.hp, S.cl, S.state, caF_stt _ _ _ _ _ _ _ _ _, rfl, _, rfl, iteF' (by rw [dec_str]; rfl) ?_⟩
  refine ⟨_, rfl, a.o, C, a4.dx, _, _, rfl, A6.hp, S.cl, S.round, caF_rnd _ _ _ _ _ _ _ _ _, rfl, _, rfl, iteF' (by rw [dec_ii]; rfl) ?_⟩
  have W6 := W5.same s6
  have S06 := S05.trans (StG.ofSame s6)
  have OM6 := OM.step S06
  refine ⟨_, rfl, ma, _, rfl, .inl (SqL.of OM6.at_), 1, _, rfl, ?_⟩
  rw [List.length_map, OM.len]
  refine ⟨⟨by decide, by decide, by omega, by omega⟩, ?_⟩
  refine for_range (lo := 1) (n := _) (fun j σ G1 => (∃ (z4 : Option V), σ = [some (V.ref a.o), some (V.int s'), some (V.ref ma), some (V.ref kt), z4]) ∧ ∃ a1, a1.o = a.o ∧ RowG K G1 C CK L n (cs.set i (a1, takenP p r SS ns j)) ∧ StG cs H (cs.set i (a1, takenP p r SS ns j)) G1) ⟨⟨_, rfl⟩, a4, eo, W6, S06⟩ ?_ ?_
  · rintro j σ G1 hj ⟨⟨z4, rfl⟩, a1, eo1, W1, S1⟩
    have hj : j + 1 < k := by omega
    have hi1 := get_set (c' := (a1, takenP p r SS ns j)) hi
    have OM1 := OM.step S1
    obtain ⟨y, hy, Oy⟩ := OM1.at (j := j + 1) hj
    have en : (1 : Int) + (j : Int) = ((j + 1 : Nat) : Int) := by omega
    have aty : atI (as.map V.ref) (1 + (j : Int)) = some (.ref y) := by rw [en]; exact atI_nat hy
    have B1 := W1.all i _ hi1
    obtain ⟨kv1, A1⟩ := chk B1 eo1
    have gd : ∀ j, GoodG n (i : Int) (takenP p r SS ns j) := fun j => ⟨G.i0, G.i1, G.n60, G.nd, G.bnd, fun y e => by cases e; show ns.length ≤ 500; omega, G.ps, G.bg⟩
    refine ⟨_, rfl, a.o, a1.dx, _, rfl, A1.hp, (A1.no "hear").2, _, rfl, _, rfl, _, rfl, ma, _, _, _, rfl, rfl, SqL.of OM1.at_, aty, y, _, rfl, .inl ⟨SqL.of Oy.1, fun tm htm => ?_⟩⟩
    have u1 := same_upd (o := .tup ((M (j + 1)).map V.int)) htm
    refine ⟨by show 3 ≤ sizeLine; decide, fun lt hlt => ?_⟩
    have u2 := same_upd (o := .tup [.str "round", .int (1 + (j : Int)), .ref tm]) hlt
    have W3 := W1.same (u1.trans u2)
    have B3 := W3.all i _ hi1
    have qtm : SqT K (upd (upd G1 tm (.tup ((M (j + 1)).map V.int))) lt (.tup [.str "round", .int (1 + (j : Int)), .ref tm])) tm ((M (j + 1)).map V.int) := SqT.of (u2 _ _ upd_same)
    refine hearG_at eo1 B3 (.inr (.inr (.inl ⟨((j + 1 : Nat) : Int), tm, by rw [← en]; exact SqT.of upd_same, n, (i : Int), a1, takenP p r SS ns j, 0, ((j + 1 : Nat) : Int), tm, M (j + 1), rfl, B3, gd j, qtm, ?_⟩)))
    rw [hear_taken (by rw [er]; omega) pfi]
    refine W3.ret hi1 fun z zs a4 H4 W4 S4 eo4 nz kz dz => ?_
    have W4 : RowG K H4 C CK L n (cs.set i (a4, takenP p r SS ns (j + 1))) := by rw [List.set_set] at W4; exact W4
    rw [List.set_set] at S4
    have hi4 := get_set (c' := (a4, takenP p r SS ns (j + 1))) hi
    have eo5 : a4.o = a.o := eo4.trans eo1
    refine ⟨_, rfl, by show 5 ≤ sizeLine; decide, fun x1 hx1 => ?_⟩
    have v1 := same_upd (o := .tup [.str "pledge", .int (1 + (j : Int)), .int 1, .int 0, .int 1]) hx1
    refine ⟨by show 2 ≤ sizeLine; decide, fun x2 hx2 => ?_⟩
    have v2 := same_upd (o := .tup [.int 0, .ref x1]) hx2
    refine ⟨by show 1 ≤ sizeLine; decide, fun x3 hx3 => ?_⟩
    have v3 := same_upd (o := .lst [.ref x2]) hx3
    have v13 := (v1.trans v2).trans v3
    have shp3 : SeqAt.shaped (.list [toD (plgD ((j + 1 : Nat) : Int) 1 0 1) 0]) = true := shaped_tos (lay_plg _ _ _ _) (deep_plg _ _ _ _) [0]
    have due : Dp K (upd (upd (upd H4 x1 (.tup [.str "pledge", .int (1 + (j : Int)), .int 1, .int 0, .int 1])) x2 (.tup [.int 0, .ref x1])) x3 (.lst [.ref x2])) (.ref x2) (toD (plgD ((j + 1 : Nat) : Int) 1 0 1) 0) := by
      rw [← en]
      exact .tup (SqT.of (v3 _ _ upd_same)) (.cons (.int 0) (.cons (.tup (SqT.of ((v2.trans v3) _ _ upd_same)) (.cons (.str _) (.cons (.int _) (.cons (.int _) (.cons (.int _) (.cons (.int _) .nil)))))) .nil))
    refine ⟨_, _, .lst (SqL.of (v13 _ _ kz)) (dps_same v13 _ _ dz), .lst (SqL.of upd_same) (.cons due .nil), shp3, shp3, _, rfl, iteF' (eq_bl (eqv_shaped shp3)) ?_⟩
    have W5 := W4.same v13
    have B5 := W5.all i _ hi4
    obtain ⟨kv5, A5⟩ := chk B5 eo5
    have S5 : StG cs H (cs.set i (a4, takenP p r SS ns (j + 1))) _ := ((S1.trans (StG.ofSame (u1.trans u2))).trans S4).trans (StG.ofSame v13)
    have dk5 := dp_kt (S5.sqt W) _ _ (noL_told _ _ _) dk
    refine ⟨_, rfl, a.o, C, a4.dx, _, _, rfl, A5.hp, S.cl, S.round, caF_rnd _ _ _ _ _ _ _ _ _, _, rfl, rfl, _, rfl, iteF' (by rw [dec_ii, decide_eq_true (by omega)]; rfl) ?_⟩
    refine ⟨_, rfl, a.o, a4.dx, _, rfl, A5.hp, (A5.no "bears").2, ?_⟩
    refine bears B5 eo5 fun t H6 s6 dT => ?_
    refine ⟨_, rfl, _, _, dT, dp_same s6 _ _ dk5, shp, shp, _, rfl, iteF' (eq_bl (eqv_shaped shp)) ?_⟩
    have A6 := A5.same s6
    refine ⟨_, rfl, a.o, C, a4.dx, _, _, rfl, A6.hp, S.cl, S.state, caF_stt _ _ _ _ _ _ _ _ _, rfl, _, rfl, iteF' (by rw [dec_str]; rfl) ?_⟩
    exact ⟨⟨_, rfl⟩, a4, eo5, W5.same s6, S5.trans (StG.ofSame s6)⟩
  rintro σ G1 ⟨⟨z4, rfl⟩, a1, eo1, W1, S1⟩
  rw [show ((k : Int) - 1).toNat = k - 1 by omega] at W1 S1
  exact q a1 G1 W1 eo1 S1
end

end G0
namespace G0
open PySem PySem.Spec PyProof.Rows L2 NdefX ClX
set_option maxHeartbeats 8000000
section
variable {P : Program} {w : World} {K : PySem.W.Frag} {mg : Str → Option Value} {base : Heap} {C CK : Addr}
theorem cut1v (x : V) (r : List V) : cutV (x :: r) (some 1) none = r := by
  unfold cutV HT.sIx
  simp
theorem bears_at {H : Hp} {n i : Int} {a : Ad} {p : Cp} {q : Addr} {Q : VK} (eo : a.o = q) (B : CgAt K H C CK n i a p) (ek : p.key = none) (h : Q .non H) : spBears K C CK (V.ref q :: ([] ++ [])) H Q E0 := by
  subst eo
  exact bears_of (E := E0) B ⟨fun _ => h, fun y e => by rw [ek] at e; cases e⟩
theorem awaits_at {H : Hp} {n i g : Int} {a : Ad} {p : Cp} {q : Addr} {Q : VK} (eo : a.o = q) (B : CgAt K H C CK n i a p) (G : GoodG n i p) (eb : p.bg = .int g) (h : ∀ l H', Same H H' → H l = none → H' l = some (.lst ((awF p.rs (two1 p.ps)).map V.int)) → Q (.ref l) H') : spAw K C (V.ref q :: ([] ++ [])) H Q E0 := by
  subst eo
  exact awaits_of (E := E0) B G eb h
/-! ### no key is made -/
theorem putP_keys {ps : List (Int × Int × Int)} {s v h m : Int} : m ∈ (putP ps s v h).map (·.1) ↔ m = s ∨ m ∈ ps.map (·.1) := by
  unfold putP
  split
  · next c =>
    have e : (ps.map fun p => if p.1 = s then (s, v, h) else p).map (·.1) = ps.map (·.1) := by
      rw [List.map_map]
      refine List.map_congr_left fun p _ => ?_
      show (if p.1 = s then (s, v, h) else p).1 = p.1
      split
      · next e => exact e.symm
      · rfl
    rw [e]
    exact ⟨.inr, fun h => h.elim (fun e => by rw [e]; exact c) id⟩
  · rw [List.map_append, List.mem_append]
    constructor
    · rintro (h | h)
      · exact .inr h
      · exact .inl (by simpa using h)
    · rintro (h | h)
      · exact .inr (by simp [h])
      · exact .inl h
theorem putP_new {ps : List (Int × Int × Int)} {s v h : Int} : (s, v, h) ∈ putP ps s v h := by
  unfold putP
  split
  · next c =>
    obtain ⟨p, hp, e⟩ := List.mem_map.mp c
    refine List.mem_map.mpr ⟨p, hp, ?_⟩
    have e : p.1 = s := e
    rw [if_pos e]
  · simp
theorem putP_old {ps : List (Int × Int × Int)} {s v h : Int} {q : Int × Int × Int} (m : q ∈ ps) (ne : q.1 ≠ s) : q ∈ putP ps s v h := by
  unfold putP
  split
  · exact List.mem_map.mpr ⟨q, m, if_neg ne⟩
  · exact List.mem_append.mpr (.inl m)
structure NP (xs hs : List Int) (j : Nat) (ps : List (Int × Int × Int)) : Prop where
  keys : ∀ m, m ∈ ps.map (·.1) ↔ m = 0 ∨ m ∈ xs.take j
  has : ∀ m ∈ xs.take j, m ∈ hs → ∃ q ∈ ps, q.1 = m ∧ q.2.2 = 1
  len : ps.length ≤ 1 + j
def nonP (p : Cp) (f : Int → Int) (ps : List (Int × Int × Int)) : Cp := { p with f := f, ps := ps }
def spNone (K : PySem.W.Frag) (C CK : Addr) : Sp := fun vs H Q _ => ∃ (L : Addr) (n m0 h0 : Int) (a : Ad) (p : Cp) (cs : List (Ad × Cp)) (ma aa ha oa : Addr) (as : List Addr) (M : Nat → List Int) (k : Nat) (aks ht xs : List Int), vs = [.ref a.o, .ref ma, .ref aa, .ref ha, .ref oa] ∧ RowG K H C CK L n cs ∧ cs[0]? = some (a, p) ∧ GoodG n 0 p ∧ OutM H cs ma as M k ∧ 2 ≤ k ∧ k ≤ 100 ∧
  OutL H cs aa aks ∧ OutL H cs ha (h0 :: ht) ∧ OutL H cs oa xs ∧ p.key = none ∧ p.st = "out" ∧ p.rnd = (k : Int) - 1 ∧ p.bg = .int ((k : Int) - 1) ∧ p.ps = [(0, 0, 0)] ∧ xs.Nodup ∧ xs.length ≤ 60 ∧ (∀ m ∈ xs, 0 < m ∧ m < n) ∧ (∀ m, m ∈ p.rs ↔ m = 0 ∨ m ∈ xs) ∧ m0 ∈ xs ∧ m0 ∈ ht ∧ ∀ H', Q (.bl true) H'
theorem sc_law_none_made : FnScope ["one", "members", "askers", "holders", "order", "seat", "number", "has", "told", "k"] ["one", "members", "askers", "holders", "order"] (defScope s_law_none_made) :=
  ⟨rfl, rfl, rfl, by decide +kernel, rfl, by decide +kernel, by decide +kernel⟩
theorem ok_none (F : Fn K mg "_law_none_made" s_law_none_made) (T : BlT0 mg) (S : CalT K C) (MH : Me P w K mg base C "hear" 5 ["self", "sender", "letter"] (spHearG K C CK)) (MB : Me P w K mg base C "bears" 2 ["self"] (spBears K C CK)) (MW : Me P w K mg base C "awaits" 1 ["self"] (spAw K C)) :
    Cal P w K mg base "_law_none_made" 6 ["one", "members", "askers", "holders", "order"] (spNone K C CK) := by
  obtain ⟨fH, fdH, GH, bH, mH⟩ := MH
  obtain ⟨fB, fdB, GB, bB, mB⟩ := MB
  obtain ⟨fW, fdW, GW, bW, mW⟩ := MW
  refine cal_of F sc_law_none_made
    (fun _ _ _ _ _ _ us hl => match us, hl with | [_, _, _, _, _], _ => rfl) ?_ ?_
  · rintro vs H Q E ⟨_, _, _, _, _, _, _, _, _, _, _, _, _, _, _, _, _, rfl, _⟩
    rfl
  rintro f cdv A outer s H vs Q E free hr ⟨L, n, m0, h0, a, p, cs, ma, aa, ha, oa, as, M, k, aks, ht, xs, rfl, W, hi, G, OM, k1, k2, Oa, Oh, Oo, pk, pst, prnd, pbg, pps, ndx, lx, bx, mrs, m0x, m0h, q⟩
  have hr2 : Room 2 _ := hr.mono (by decide)
  have hr1 : Room 1 _ := hr.mono (by decide)
-- [(0, 'one'), (1, 'members'), (2, 'askers'), (3, 'holders'), (4, 'order'), (5, 'seat'), (6, 'number'), (7, 'has'), (8, 'told'), (9, 'k')]
  refine ⟨_, (pss_cons (ps_for PassesOwn.never rfl (pi_list (pv 4)) (pg_name (i := 5) sc_law_none_made.nd rfl (Or.inl rfl))
    (pss_cons (ps_if (PW.pt (pw_and (pt_cmpR u_in (pv 5) (pv 2) (by rfl)) (pw_and1 (pt_cmpR (op_neD (u64 hr)) (pe_meth (pv 0) S.cl mH GH hr bH .nil pass0 (pa_cons (pv 5) (pa_cons (pe_tup (pa_cons pe_str (pa_cons pe_int pa_nil))) pa_nil))) (pe_lst pa_nil) (nomark _)))))
    (pss_one (ps_ret pe_bl))
    pss_nil)
    (pss_cons (ps_set (i := 6) sc_law_none_made.nd rfl (Or.inl rfl) (pe_callTy call_int1 (by rfl) T.int (by decide +kernel) (pa_cons (pe_or (pe_cmpR u_in (pv 5) (pv 2) (by rfl)) (pe_one (pe_cmpR u_in (pv 5) (pv 3) (by rfl)))) pa_nil)))
    (pss_cons (ps_set (i := 7) sc_law_none_made.nd rfl (Or.inl rfl) (pe_callTy call_int1 (by rfl) T.int (by decide +kernel) (pa_cons (pe_cmpR u_in (pv 5) (pe_slice sl_list (pv 3) (po_some pe_int) po_none) (by rfl)) pa_nil)))
    (pss_cons (ps_set (i := 8) sc_law_none_made.nd rfl (Or.inl rfl) (pe_tup (pa_cons (pv 6) (pa_cons (pe_callTy call_int1 (by rfl) T.int (by decide +kernel) (pa_cons (pe_and (pe_cmpR u_in (pv 5) (pv 2) (by rfl)) (pe_one (pe_cmpR op_eq (pv 7) pe_int (nomark _)))) pa_nil)) (pa_cons (pv 7) pa_nil)))))
    (pss_one (ps_for PassesOwn.never rfl (pi_range2 (by rfl) T.range (pa_cons pe_int (pa_cons (pe_callB call_len_seq (by rfl) T.len (by decide +kernel) (pa_cons (pv 1) pa_nil)) pa_nil))) (pg_name (i := 9) sc_law_none_made.nd rfl (Or.inl rfl))
    (pss_one (ps_if (PW.pt (pw_or (pt_cmpR (op_neD (u64 hr)) (pe_meth (pv 0) S.cl mH GH hr bH .nil pass0 (pa_cons (pv 5) (pa_cons (pe_op op_catA (pe_tup (pa_cons pe_str (pa_cons (pv 9) pa_nil))) (pv 8)) pa_nil))) (pe_lst pa_nil) (nomark _)) (pw_or1 (pt_cmpR op_notN (pe_meth0 (pv 0) S.cl mB GB hr2 bB .nil pass0) pe_non (nomark _)))))
    (pss_one (ps_ret pe_bl))
    pss_nil)))))))))
    (pss_one (ps_ret (pe_and (pe_cmpR (op_eqD (u64 hr)) (pe_meth0 (pv 0) S.cl mW GW hr1 bW .nil pass0) (pe_lst pa_nil) (nomark _)) (pe_and (pe_cmpR op_eq (pe_fld (pv 0) (by rfl)) pe_str (nomark _)) (pe_one (pe_cmpR op_eq (pe_fld (pv 0) (by rfl)) (pe_op op_sub (pe_callB call_len_seq (by rfl) T.len (by decide +kernel) (pa_cons (pv 1) pa_nil)) pe_int) (nomark _)))))))), ?_⟩
  have np : p = nonP p p.f [(0, 0, 0)] := by unfold nonP; rw [← pps]
  have gd : ∀ f ps, ps.length ≤ 500 → GoodG n 0 (nonP p f ps) := fun f ps h => ⟨G.i0, G.i1, G.n60, G.nd, G.bnd, fun y e => (by have e : p.key = some y := e; rw [pk] at e; cases e), h, G.bg⟩
  have chk : ∀ {f : Int → Int} {ps : List (Int × Int × Int)} {a1 : Ad} {H1 : Hp}, CgAt K H1 C CK n 0 a1 (nonP p f ps) → a1.o = a.o → ∃ kv, CalAt H1 C a.o a1.dx 0 "out" ((k : Int) - 1) a1.ro a1.nu (keyG a1 (nonP p f ps)) p.bg a1.pl p.rs (msF n f) kv := fun {f ps a1 H1} B e => by
    obtain ⟨kv, A, _⟩ := B.at_
    rw [e] at A
    have A : CalAt H1 C a.o a1.dx 0 p.st p.rnd a1.ro a1.nu (keyG a1 (nonP p f ps)) p.bg a1.pl p.rs (msF n f) kv := A
    rw [pst, prnd] at A
    exact ⟨kv, A⟩
  refine ⟨_, rfl, oa, rfl, ⟨_, SqL.of Oo.1⟩, ?_⟩
  refine for_list (K := K) (a := oa) (xs := xs.map V.int) (fun j σ G1 => (∃ z5 z6 z7 z8 z9 : Option V, σ = [some (V.ref a.o), some (V.ref ma), some (V.ref aa), some (V.ref ha), some (V.ref oa), z5, z6, z7, z8, z9]) ∧ ∃ a1 f ps, a1.o = a.o ∧ NP xs ht j ps ∧ RowG K G1 C CK L n (cs.set 0 (a1, nonP p f ps)) ∧ StG cs H (cs.set 0 (a1, nonP p f ps)) G1) ⟨⟨_, _, _, _, _, rfl⟩, a, p.f, [(0, 0, 0)], rfl, ⟨fun m => by simp, fun m h => absurd h (by simp), by simp⟩, ?_⟩ (fun j σ G1 _ h => by obtain ⟨_, a1, f, ps, _, _, _, S1⟩ := h; exact SqL.of (Oo.step S1).1) ?_ ?_
  · rw [← np, set_same hi]
    exact ⟨W, StG.refl⟩
  · rintro j x σ G1 hx ⟨⟨z5, z6, z7, z8, z9, rfl⟩, a1, f1, ps1, eo, N1, W1, S1⟩
    obtain ⟨m, hm, rfl⟩ := ints_at' hx
    have lj := (List.getElem?_eq_some_iff.mp hm).1
    have bm := bx m (List.mem_of_getElem? hm)
    have hi1 := get_set (c' := (a1, nonP p f1 ps1)) hi
    have lps : ps1.length ≤ 400 := by have := N1.len; omega
    apply goJ (fun σ G' => σ = [some (V.ref a.o), some (V.ref ma), some (V.ref aa), some (V.ref ha), some (V.ref oa), some (V.int m), z6, z7, z8, z9] ∧ ∃ a2 f2, a2.o = a.o ∧ RowG K G' C CK L n (cs.set 0 (a2, nonP p f2 ps1)) ∧ StG cs H (cs.set 0 (a2, nonP p f2 ps1)) G')
    · intro J
      have Oa1 := Oa.step S1
      refine ⟨_, rfl, _, rfl, .inl ⟨aa, _, rfl, .inl (SqL.of Oa1.1), rfl, flat_ints _, _, rfl, ?_⟩⟩
      rw [inV_ints]
      by_cases c : m ∈ aks
      · refine iteT' (decide_eq_true c) ?_
        have B1 := W1.all 0 _ hi1
        obtain ⟨kv, A1⟩ := chk B1 eo
        refine ⟨_, rfl, a.o, a1.dx, _, rfl, A1.hp, (A1.no "hear").2, _, rfl, by show 2 ≤ sizeLine; decide, fun lt hlt => ?_⟩
        have s2 := same_upd (o := .tup [.str "ask", .int 1]) hlt
        have W2 := W1.same s2
        have B2 := W2.all 0 _ hi1
        refine hearG_at eo B2 (.inl ⟨1, SqT.of upd_same, hearAsk_of B2 (gd _ _ (by omega)) (by omega) (by omega) ?_⟩)
        rw [hearAskG_none (show (nonP p f1 ps1).key = none from pk)]
        refine W2.ret hi1 fun z zs a2 H3 W3 S3 eo3 nz kz dz => ?_
        cases dz
        refine ⟨Nat.zero_le _, fun e1 he1 => ?_⟩
        have s4 := same_upd (o := .lst []) he1
        refine ⟨.list [], .list [], .lst (SqL.of (s4 _ _ kz)) .nil, .lst (SqL.of upd_same) .nil, by decide, by decide, _, rfl, iteF' (by decide +kernel) ?_⟩
        rw [List.set_set] at W3 S3
        exact J _ _ ⟨rfl, a2, learnF f1 m 1, eo3.trans eo, W3.same s4, S1.trans ((StG.ofSame s2).trans (S3.trans (StG.ofSame s4)))⟩
      · refine iteF' (decide_eq_false c) (iteF ?_)
        exact J _ _ ⟨rfl, a1, f1, eo, W1, S1⟩
    rintro σ G2 ⟨rfl, a2, f2, eo2, W2, S2⟩
    have Oa2 := Oa.step S2
    have Oh2 := Oh.step S2
    apply goJ (fun σ G' => ∃ num : Int, σ = [some (V.ref a.o), some (V.ref ma), some (V.ref aa), some (V.ref ha), some (V.ref oa), some (V.int m), some (V.int num), z7, z8, z9] ∧ Same G2 G')
    · intro J
      refine ⟨_, rfl, _, rfl, .inl ⟨aa, _, rfl, .inl (SqL.of Oa2.1), rfl, flat_ints _, ?_⟩⟩
      rw [inV_ints]
      refine ⟨_, rfl, ?_⟩
      refine ite2 (fun _ => ?_) (fun _ => ?_)
      · exact .inr ⟨true, rfl, J _ _ ⟨_, rfl, Same.refl _⟩⟩
      · refine ⟨_, rfl, _, rfl, .inl ⟨ha, _, rfl, .inl (SqL.of Oh2.1), rfl, flat_ints _, ?_⟩⟩
        exact .inr ⟨_, rfl, J _ _ ⟨_, rfl, Same.refl _⟩⟩
    rintro σ G3 ⟨num, rfl, s3⟩
    have Oh3 := Oh2.same s3
    have Oa3 := Oa2.same s3
    refine ⟨_, rfl, _, rfl, _, rfl, ha, _, rfl, SqL.of Oh3.1, fun tl htl => ?_⟩
    have sl := same_upd (o := .lst (cutV ((h0 :: ht).map V.int) (some 1) none)) htl
    refine .inl ⟨tl, ht.map V.int, rfl, .inl (SqL.of (by rw [show cutV ((h0 :: ht).map V.int) (some 1) none = ht.map V.int from cut1v _ _]; exact upd_same)), rfl, flat_ints _, ?_⟩
    rw [inV_ints]
    refine .inr ⟨decide (m ∈ ht), rfl, ?_⟩
    rw [wantsI_if]
    have s23 := s3.trans sl
    obtain ⟨hh, ehh⟩ : ∃ hh, hh = wantsI ht m := ⟨_, rfl⟩
    rw [← ehh]
    have Oa4 := Oa3.same sl
    obtain ⟨G4, e4⟩ : ∃ G4, G4 = upd G3 tl (.lst (cutV ((h0 :: ht).map V.int) (some 1) none)) := ⟨_, rfl⟩
    rw [← e4] at s23 Oa4
    rw [← e4]
    clear e4 sl Oh3 Oa3
    apply goJ (fun σ G' => ∃ (ask : Int) (tt : Addr), σ = [some (V.ref a.o), some (V.ref ma), some (V.ref aa), some (V.ref ha), some (V.ref oa), some (V.int m), some (V.int num), some (V.int hh), some (V.ref tt), z9] ∧ Same G2 G' ∧ SqT K G' tt [.int num, .int ask, .int hh])
    · intro J
      refine ⟨_, rfl, _, rfl, _, rfl, .inl ⟨aa, _, rfl, .inl (SqL.of Oa4.1), rfl, flat_ints _, ?_⟩⟩
      rw [inV_ints]
      refine ⟨_, rfl, ?_⟩
      refine ite2 (fun _ => ?_) (fun _ => ?_)
      · refine ⟨_, rfl, rfl, .inr ⟨_, rfl, _, rfl, by show 3 ≤ sizeLine; decide, fun tt htt => ?_⟩⟩
        exact J _ _ ⟨_, tt, rfl, s23.trans (same_upd htt), SqT.of upd_same⟩
      · refine .inr ⟨_, rfl, _, rfl, by show 3 ≤ sizeLine; decide, fun tt htt => ?_⟩
        exact J _ _ ⟨_, tt, rfl, s23.trans (same_upd htt), SqT.of upd_same⟩
    rintro σ G5 ⟨ask, tt, rfl, s25, qtt⟩
    have W5 := W2.same s25
    have S5 := S2.trans (StG.ofSame s25)
    have OM5 := OM.step S5
    refine ⟨_, rfl, ma, _, rfl, .inl (SqL.of OM5.at_), 1, _, rfl, ?_⟩
    rw [List.length_map, OM.len]
    refine ⟨⟨by decide, by decide, by omega, by omega⟩, ?_⟩
    have tk : xs.take (j + 1) = xs.take j ++ [m] := by rw [List.take_succ, hm]; rfl
    have N2 : NP xs ht (j + 1) (putP ps1 m (num - ask) hh) := by
      refine ⟨fun m2 => ?_, fun m2 h1 h2 => ?_, ?_⟩
      · rw [putP_keys, N1.keys, tk, List.mem_append, List.mem_singleton]
        constructor
        · rintro (h | h | h)
          · exact .inr (.inr h)
          · exact .inl h
          · exact .inr (.inl h)
        · rintro (h | h | h)
          · exact .inr (.inl h)
          · exact .inr (.inr h)
          · exact .inl h
      · by_cases e : m2 = m
        · subst e
          refine ⟨_, putP_new, rfl, ?_⟩
          rw [ehh]
          unfold wantsI
          exact if_pos h2
        · rw [tk] at h1
          rcases List.mem_append.mp h1 with h1 | h1
          · obtain ⟨q2, m3, e3, e4⟩ := N1.has m2 h1 h2
            exact ⟨q2, putP_old m3 (by rw [e3]; exact e), e3, e4⟩
          · exact absurd (List.mem_singleton.mp h1) e
      · have := N1.len
        have := @putP_len ps1 m (num - ask) hh
        omega
    have wt : ∀ f, waitsG (nonP p f (putP ps1 m (num - ask) hh)) := fun f => by
      by_cases c : m0 ∈ xs.take (j + 1)
      · obtain ⟨q2, m3, _, e4⟩ := N2.has m0 c m0h
        exact .inr ⟨q2, m3, e4⟩
      · refine .inl fun z => ?_
        have hk : m0 ∈ awF (nonP p f (putP ps1 m (num - ask) hh)).rs (two1 (nonP p f (putP ps1 m (num - ask) hh)).ps) := by
          refine List.mem_filter.mpr ⟨(mrs m0).mpr (.inr m0x), ?_⟩
          have e : (two1 (putP ps1 m (num - ask) hh)).map (·.1) = (putP ps1 m (num - ask) hh).map (·.1) := by unfold two1; rw [List.map_map]; rfl
          show (!decide (m0 ∈ (two1 (putP ps1 m (num - ask) hh)).map (·.1))) = true
          rw [e]
          have := (N2.keys m0)
          have b0 := bx m0 m0x
          simp only [Bool.not_eq_true', decide_eq_false_iff_not]
          intro z
          rcases this.mp z with h | h
          · omega
          · exact c h
        rw [z] at hk
        exact absurd hk List.not_mem_nil
    refine for_range (lo := 1) (n := _) (fun i σ G' => (∃ (z9 : Option V), σ = [some (V.ref a.o), some (V.ref ma), some (V.ref aa), some (V.ref ha), some (V.ref oa), some (V.int m), some (V.int num), some (V.int hh), some (V.ref tt), z9]) ∧ SqT K G' tt [.int num, .int ask, .int hh] ∧ ∃ a3 f3 ps3, a3.o = a.o ∧ ((i + 1 < k ∧ ps3 = ps1) ∨ (i + 1 = k ∧ ps3 = putP ps1 m (num - ask) hh)) ∧ RowG K G' C CK L n (cs.set 0 (a3, nonP p f3 ps3)) ∧ StG cs H (cs.set 0 (a3, nonP p f3 ps3)) G') ⟨⟨_, rfl⟩, qtt, a2, f2, ps1, eo2, .inl ⟨by omega, rfl⟩, W5, S5⟩ ?_ ?_
    · rintro i σ G6 hik ⟨⟨z9, rfl⟩, qt6, a3, f3, ps3, eo3, st3, W6, S6⟩
      have hik : i + 1 < k := by omega
      have ep : ps3 = ps1 := by
        rcases st3 with ⟨_, e⟩ | ⟨e, _⟩
        · exact e
        · omega
      subst ep
      have hi3 := get_set (c' := (a3, nonP p f3 ps3)) hi
      have B6 := W6.all 0 _ hi3
      obtain ⟨kv6, A6⟩ := chk B6 eo3
      refine ⟨_, rfl, a.o, a3.dx, _, rfl, A6.hp, (A6.no "hear").2, _, rfl, _, rfl, by show 2 ≤ sizeLine; decide, fun t1 ht1 => ?_⟩
      have v1 := same_upd (o := .tup [.str "pledge", .int (1 + (i : Int))]) ht1
      refine ⟨_, rfl, cat_anyk (SqT.of upd_same) (sqt_same v1 qt6) (by show 2 + 3 ≤ 10000; decide) fun t3 H7 s7 q7 => ?_⟩
      have s67 := v1.trans s7
      have W7 := W6.same s67
      have B7 := W7.all 0 _ hi3
      unfold tNil
      have G7 := gd f3 ps3 (by omega)
      by_cases last : i + 2 = k
      · refine hearG_at eo3 B7 (.inr (.inr (.inr ⟨_, q7, n, 0, a3, nonP p f3 ps3, m, t3, 1 + (i : Int), num, ask, hh, rfl, B7, G7, q7, by omega, by omega, .inr ⟨by show p.bg = _; rw [pbg]; congr 1; omega, wt _, ?_⟩⟩)))
        refine W7.ret hi3 fun z zs a4 H8 W8 S8 eo8 nz kz dz => ?_
        cases dz
        rw [List.set_set] at W8 S8
        have eo9 : a4.o = a.o := eo8.trans eo3
        refine ⟨Nat.zero_le _, fun e1 he1 => ?_⟩
        have s4 := same_upd (o := .lst []) he1
        refine ⟨.list [], .list [], .lst (SqL.of (s4 _ _ kz)) .nil, .lst (SqL.of upd_same) .nil, by decide, by decide, _, rfl, iteF' (by decide +kernel) ?_⟩
        have W9 : RowG K (upd H8 e1 (.lst [])) C CK L n (cs.set 0 (a4, nonP p (learnF f3 m num) (putP ps3 m (num - ask) hh))) := W8.same s4
        have S9 := ((S6.trans (StG.ofSame s67)).trans S8).trans (StG.ofSame s4)
        have qt9 := sqt_same s4 (S8.sqt W7 _ _ (sqt_same s67 qt6))
        have B9 := W9.all 0 _ (get_set hi)
        obtain ⟨kv9, A9⟩ := chk B9 eo9
        refine ⟨_, rfl, a.o, a4.dx, _, rfl, A9.hp, (A9.no "bears").2, ?_⟩
        refine bears_at eo9 B9 pk ?_
        refine ⟨rfl, _, rfl, iteF' rfl ?_⟩
        exact ⟨⟨_, rfl⟩, qt9, a4, learnF f3 m num, putP ps3 m (num - ask) hh, eo9, .inr ⟨by omega, rfl⟩, W9, S9⟩
      · refine hearG_at eo3 B7 (.inr (.inr (.inr ⟨_, q7, n, 0, a3, nonP p f3 ps3, m, t3, 1 + (i : Int), num, ask, hh, rfl, B7, G7, q7, by omega, by omega, .inl ⟨by show p.bg ≠ _; rw [pbg]; intro z; injection z with z; omega, ?_⟩⟩)))
        refine W7.ret hi3 fun z zs a4 H8 W8 S8 eo8 nz kz dz => ?_
        cases dz
        rw [List.set_set] at W8 S8
        have eo9 : a4.o = a.o := eo8.trans eo3
        refine ⟨Nat.zero_le _, fun e1 he1 => ?_⟩
        have s4 := same_upd (o := .lst []) he1
        refine ⟨.list [], .list [], .lst (SqL.of (s4 _ _ kz)) .nil, .lst (SqL.of upd_same) .nil, by decide, by decide, _, rfl, iteF' (by decide +kernel) ?_⟩
        have W9 : RowG K (upd H8 e1 (.lst [])) C CK L n (cs.set 0 (a4, nonP p (f3) (ps3))) := W8.same s4
        have S9 := ((S6.trans (StG.ofSame s67)).trans S8).trans (StG.ofSame s4)
        have qt9 := sqt_same s4 (S8.sqt W7 _ _ (sqt_same s67 qt6))
        have B9 := W9.all 0 _ (get_set hi)
        obtain ⟨kv9, A9⟩ := chk B9 eo9
        refine ⟨_, rfl, a.o, a4.dx, _, rfl, A9.hp, (A9.no "bears").2, ?_⟩
        refine bears_at eo9 B9 pk ?_
        refine ⟨rfl, _, rfl, iteF' rfl ?_⟩
        exact ⟨⟨_, rfl⟩, qt9, a4, f3, ps3, eo9, .inl ⟨by omega, rfl⟩, W9, S9⟩
    rintro σ G6 ⟨⟨z9, rfl⟩, qt6, a3, f3, ps3, eo3, st3, W6, S6⟩
    have ep : ps3 = putP ps1 m (num - ask) hh := by
      rcases st3 with ⟨e, _⟩ | ⟨_, e⟩
      · omega
      · exact e
    subst ep
    exact ⟨⟨_, _, _, _, _, rfl⟩, a3, f3, _, eo3, N2, W6, S6⟩
  rintro σ G1 ⟨⟨z5, z6, z7, z8, z9, rfl⟩, a1, f1, ps1, eo, N1, W1, S1⟩
  rw [List.length_map] at N1
  have B1 := W1.all 0 _ (get_set hi)
  obtain ⟨kv1, A1⟩ := chk B1 eo
  have OM1 := OM.step S1
  have aw : awF p.rs (two1 ps1) = [] := by
    refine List.filter_eq_nil_iff.mpr fun m hm h => ?_
    have e : (two1 ps1).map (·.1) = ps1.map (·.1) := by unfold two1; rw [List.map_map]; rfl
    have h : m ∉ (two1 ps1).map (·.1) := by simpa using h
    rw [e] at h
    have := (N1.keys m).mpr (by rw [List.take_length]; exact (mrs m).mp hm)
    exact h this
  refine ⟨_, rfl, a.o, a1.dx, _, rfl, A1.hp, (A1.no "awaits").2, ?_⟩
  have lps : ps1.length ≤ 500 := by have := N1.len; omega
  unfold tNil
  refine awaits_at eo B1 (gd f1 ps1 lps) pbg fun l H2 s2 hl kl => ?_
  have kl : H2 l = some (.lst []) := by
    rw [show awF (nonP p f1 ps1).rs (two1 (nonP p f1 ps1).ps) = [] from aw] at kl
    exact kl
  refine ⟨Nat.zero_le _, fun e1 he1 => ?_⟩
  have s4 := same_upd (o := .lst []) he1
  have A2 := A1.same (s2.trans s4)
  have OM2 := OM1.same (s2.trans s4)
  refine ⟨.list [], .list [], .lst (SqL.of (s4 _ _ kl)) .nil, .lst (SqL.of upd_same) .nil, by decide, by decide, _, rfl, iteT' (by decide +kernel) ?_⟩
  refine ⟨_, rfl, a.o, C, a1.dx, _, _, rfl, A2.hp, S.cl, S.state, caF_stt _ _ _ _ _ _ _ _ _, rfl, _, rfl, iteT' (by rw [dec_str]; rfl) ?_⟩
  refine ⟨_, rfl, a.o, C, a1.dx, _, _, rfl, A2.hp, S.cl, S.round, caF_rnd _ _ _ _ _ _ _ _ _, _, rfl, ma, _, rfl, .inl (SqL.of OM2.at_), _, _, rfl, rfl, rfl, ?_⟩
  rw [dec_ii, List.length_map, OM.len, decide_eq_true rfl]
  exact q _
end

end G0
namespace G0
open PySem PySem.Spec PyProof.Rows L2 NdefX ClX
set_option maxHeartbeats 8000000
section
variable {P : Program} {w : World} {K : PySem.W.Frag} {mg : Str → Option Value} {base : Heap} {C CK : Addr}
theorem RowG.at1 {H : Hp} {L : Addr} {n : Int} {cs : List (Ad × Cp)} {i : Nat} {a : Ad} {p : Cp} (W : RowG K H C CK L n cs) (hi : cs[i]? = some (a, p)) : atI ((cs.map (·.1.o)).map V.ref) (i : Int) = some (.ref a.o) := by
  refine atI_nat ?_
  rw [List.getElem?_map, List.getElem?_map, hi]
  rfl
theorem gone_at {H : Hp} {n i x y : Int} {a : Ad} {p : Cp} {q : Addr} {ys : List Int} {Q : VK} (eo : a.o = q) (B : CgAt K H C CK n i a p) (G : GoodG n i p) (ey : othR p.rs x = y :: ys) (ne : y ≠ i) (h : RetG K C CK n i H a p Q (goneP p x, [])) : spGoneG K C CK [.ref q, .int x] H Q E0 := by
  subst eo
  exact ⟨n, i, a, p, x, y, ys, rfl, B, G, ey, .inl ⟨ne, h⟩⟩
/-! ### the second one hears -/
def secP (p : Cp) (i n : Int) (hd od : List Int) (b : Bool) : Cp := { p with f := heardF i p.f hd, rs := if b then rsJ n od od.length else p.rs }
def spSecond0 (K : PySem.W.Frag) (C CK : Addr) : Sp := fun vs H Q _ => ∃ (L : Addr) (n : Int) (i : Nat) (a : Ad) (p : Cp) (cs : List (Ad × Cp)) (la oa ma aa ca : Addr) (as : List Addr) (M : Nat → List Int) (k : Nat) (ls od aks : List Int) (c0 c1 : Int), vs = [.ref L, .int (i : Int), .ref la, .ref oa, .ref ma, .ref aa, .ref ca] ∧ RowG K H C CK L n cs ∧ cs[i]? = some (a, p) ∧ GoodG n (i : Int) p ∧
  OutL H cs la ls ∧ OutL H cs oa od ∧ OutM H cs ma as M (k + 1) ∧ OutL H cs aa aks ∧ OutL H cs ca [c0, c1] ∧ p.st = "in" ∧ p.rs = rangeI n ∧ 0 < i ∧ od.Nodup ∧ (∀ m ∈ od, 1 ≤ m ∧ m < n ∧ m ≠ (i : Int)) ∧ (∀ m ∈ aks, 0 ≤ m ∧ m < n) ∧ aks.length ≤ 60 ∧ ls.length ≤ 60 ∧
  ∀ (l : Addr) (a' : Ad) (hd : List Int) (b : Bool) (H' : Hp), (∀ m ∈ hd, m ∈ aks ∧ m ≠ (i : Int)) → RowG K H' C CK L n (cs.set i (a', secP p i n hd od b)) → a'.o = a.o → StG cs H (cs.set i (a', secP p i n hd od b)) H' → OutL H' (cs.set i (a', secP p i n hd od b)) l ((ls ++ (rndF n i fun m => decide (m ∈ hd)).filter fun m => !decide (m ∈ ls)).filter fun m => decide (m ∈ M k)) → Q (.ref l) H'
theorem sc_law_second : FnScope ["ones", "me", "line", "order", "members", "askers", "cells", "heard", "seat", "last", "more"] ["ones", "me", "line", "order", "members", "askers", "cells"] (defScope s_law_second) :=
  ⟨rfl, rfl, rfl, by decide +kernel, rfl, by decide +kernel, by decide +kernel⟩
theorem ok_second0 (F : Fn K mg "_law_second" s_law_second) (T : BlT0 mg) (S : CalT K C) (C_bits : Cal P w K mg base "_law_bits" 1 ["cell"] spBits) (C_among : Cal P w K mg base "_law_among" 1 ["bits", "seats"] (spAmong K)) (C_heard : Cal P w K mg base "_law_heard" 6 ["one", "some", "state"] (spHeard0 K C CK)) (C_round_from : Cal P w K mg base "_law_round_from" 1 ["seats", "me", "some"] (spRound K))
    (MG : Me P w K mg base C "gone" 4 ["self", "seat"] (spGoneG K C CK)) : Cal P w K mg base "_law_second" 7 ["ones", "me", "line", "order", "members", "askers", "cells"] (spSecond0 K C CK) := by
  obtain ⟨fG, fdG, GG, bG, mG⟩ := MG
  refine cal_of F sc_law_second
    (fun _ _ _ _ _ _ us hl => match us, hl with | [_, _, _, _, _, _, _], _ => rfl) ?_ ?_
  · rintro vs H Q E ⟨_, _, _, _, _, _, _, _, _, _, _, _, _, _, _, _, _, _, _, rfl, _⟩
    rfl
  rintro f cdv A outer s H vs Q E free hr ⟨L, n, i, a, p, cs, la, oa, ma, aa, ca, as, M, k, ls, od, aks, c0, c1, rfl, W, hi, G, Ol, Oo, OM, Oa, Oc, pst, prs, i0, ndo, bo, ba, laks, lls, q⟩
  have hr4 : Room 4 _ := hr.mono (by decide)
-- [(0, 'ones'), (1, 'me'), (2, 'line'), (3, 'order'), (4, 'members'), (5, 'askers'), (6, 'cells'), (7, 'heard'), (8, 'seat'), (9, 'last'), (10, 'more')]
  refine ⟨_, (pss_cons (ps_set (i := 7) sc_law_second.nd rfl (Or.inr rfl) (pe_cal C_among free (hr.mono (by decide)) (pa_cons (pe_cal C_bits free (hr.mono (by decide)) (pa_cons (pe_ix ix_list (pv 6) pe_int (fun _ _ => rfl)) pa_nil)) (pa_cons (pe_lc (own := [("seat", 8)]) (g := gName 8)  (by rfl) sc_law_second.nd (pi_list (pv 5)) (blkOk_by (N := ["ones", "me", "line", "order", "members", "askers", "cells", "heard", "seat", "last", "more"]) (sc := defScope s_law_second) (by decide +kernel)) (fun _ _ _ _ _ => pg_name (i := 8) sc_law_second.nd rfl (Or.inl rfl)) (fun _ _ _ _ _ => pts_one (pt_cmpR op_ne (pv 8) (pv 1) (nomark _))) (fun _ _ _ _ _ => (pv 8))) pa_nil))))
    (pss_cons (ps_if (pt_cmpR op_eq (pe_op op_mod (pe_ix ix_list (pv 6) pe_int (fun _ _ => rfl)) pe_int) pe_int (nomark _))
    (pss_one (ps_set (i := 7) sc_law_second.nd rfl (Or.inr rfl) (pe_op op_cat (pv 7) (pe_lc (own := [("seat", 8)]) (g := gName 8)  (by rfl) sc_law_second.nd (pi_list (pv 3)) (blkOk_by (N := ["ones", "me", "line", "order", "members", "askers", "cells", "heard", "seat", "last", "more"]) (sc := defScope s_law_second) (by decide +kernel)) (fun _ _ _ _ _ => pg_name (i := 8) sc_law_second.nd rfl (Or.inl rfl)) (fun _ _ _ _ _ => pts_one (PW.pt (pw_and (pt_cmpR (u_inK K) (pv 8) (pv 5) (by rfl)) (pw_and1 (pt_cmpR (u_notinK K) (pv 8) (pv 7) (by rfl)))))) (fun _ _ _ _ _ => (pv 8))))))
    pss_nil)
    (pss_cons (ps_if (pt_not (pt_val (pe_cal C_heard free (hr.mono (by decide)) (pa_cons (pe_ix ix_list (pv 0) (pv 1) (fun _ _ => rfl)) (pa_cons (pv 7) (pa_cons pe_str pa_nil))))))
    (pss_one (ps_ret pe_non))
    pss_nil)
    (pss_cons (ps_for PassesOwn.never rfl (pi_list (pv 3)) (pg_name (i := 8) sc_law_second.nd rfl (Or.inl rfl))
    (pss_one (ps_if (PW.pt (pw_and (pt_cmpR op_eq (pe_op op_mod (pe_ix ix_list (pv 6) pe_int (fun _ _ => rfl)) pe_int) pe_int (nomark _)) (pw_and1 (pt_cmpR (op_neD (u64 hr)) (pe_meth (pe_ix ix_list (pv 0) (pv 1) (fun _ _ => rfl)) S.cl mG GG hr4 bG .nil pass0 (pa_cons (pv 8) pa_nil)) (pe_lst pa_nil) (nomark _)))))
    (pss_one (ps_ret pe_non))
    pss_nil)))
    (pss_cons (ps_set (i := 9) sc_law_second.nd rfl (Or.inr rfl) (pe_ix ix_list (pv 4) (pe_un un_neg pe_int) (fun _ _ => rfl)))
    (pss_cons (ps_setLc (i := 10) (own := [("seat", 8)]) (g := gName 8)  (by rfl) sc_law_second.nd rfl rfl (sw_true rfl rfl rfl (by decide +kernel)) (pi_list (pe_cal C_round_from free (hr.mono (by decide)) (pa_cons (pe_callB call_len_seq (by rfl) T.len (by decide +kernel) (pa_cons (pv 0) pa_nil)) (pa_cons (pv 1) (pa_cons (pv 7) pa_nil))))) (blkOk_by (N := ["ones", "me", "line", "order", "members", "askers", "cells", "heard", "seat", "last", "more"]) (sc := defScope s_law_second) (by decide +kernel)) (fun _ _ _ _ _ => pg_name (i := 8) sc_law_second.nd rfl (Or.inl rfl)) (fun _ _ _ _ _ => pts_one (pt_cmpR (u_notinK K) (pv 8) (pv 2) (by rfl))) (fun _ _ _ _ _ => (pv 8)))
    (pss_one (ps_ret (pe_lc (own := [("seat", 8)]) (g := gName 8)  (by rfl) sc_law_second.nd (pi_list (pe_op op_cat (pv 2) (pv 10))) (blkOk_by (N := ["ones", "me", "line", "order", "members", "askers", "cells", "heard", "seat", "last", "more"]) (sc := defScope s_law_second) (by decide +kernel)) (fun _ _ _ _ _ => pg_name (i := 8) sc_law_second.nd rfl (Or.inl rfl)) (fun _ _ _ _ _ => pts_one (pt_cmpR (u_inK K) (pv 8) (pv 9) (by rfl))) (fun _ _ _ _ _ => (pv 8))))))))))), ?_⟩
  refine ⟨_, rfl, ca, _, _, .int c0, rfl, rfl, SqL.of Oc.1, atI_nat (j := 0) rfl, c0, rfl, fun b0 => ?_⟩
  have n60 := G.n60
  refine ⟨_, rfl, aa, rfl, ⟨_, SqL.of Oa.1⟩, fun D hD => ?_⟩
  refine lc_filtI (K := K) (a := aa) (ns := aks) (fun m => !decide (m = (i : Int))) (by omega) hD (SqL.of Oa.1) (fun j x G1 Y B hx sG h => ?_) (fun G1 s1 kD => ?_)
  · refine ⟨rfl, _, rfl, _, rfl, rfl, _, rfl, ?_⟩
    exact tst (by rw [dec_ii]) (fun y => ⟨_, rfl, y⟩) h
  have kD : G1 D = some (.lst ((othR aks (i : Int)).map V.int)) := kD
  have lO : (othR aks (i : Int)).length ≤ 60 := Nat.le_trans (List.length_filter_le _ _) laks
  refine ⟨b0, D, othR aks (i : Int), rfl, kD, by omega, fun x hx => by have := ba x (List.mem_filter.mp hx).1; omega, fun hl G2 s2 hhl khl => ?_⟩
  obtain ⟨h0, eh0⟩ : ∃ h0, h0 = (othR aks (i : Int)).filter (bitB b0) := ⟨_, rfl⟩
  rw [← eh0] at khl
  have lh0 : h0.length ≤ 60 := by rw [eh0]; exact Nat.le_trans (List.length_filter_le _ _) lO
  have bh0 : ∀ m ∈ h0, m ∈ aks ∧ m ≠ (i : Int) := fun m hm => by
    rw [eh0] at hm
    have h1 := List.mem_filter.mp (List.mem_filter.mp hm).1
    exact ⟨h1.1, by simpa using h1.2⟩
  have s12 := s1.trans s2
  have hhl0 : H hl = none := s1.free hhl
  clear eh0 kD lO
  have Oh0 : OutL G2 cs hl h0 := OutL.ofNew W hhl0 khl
  apply goJ (fun σ G' => ∃ (h2 : Addr) (hd : List Int), σ = [some (V.ref L), some (V.int (i : Int)), some (V.ref la), some (V.ref oa), some (V.ref ma), some (V.ref aa), some (V.ref ca), some (V.ref h2), none, none, none] ∧ Same H G' ∧ OutL G' cs h2 hd ∧ (∀ m ∈ hd, m ∈ aks ∧ m ≠ (i : Int)))
  · intro J
    refine ⟨_, rfl, ca, _, _, .int c1, rfl, rfl, SqL.of (Oc.same s12).1, atI_nat (j := 1) rfl, _, _, rfl, rfl, (by show (0 : Int) < 2; decide), rfl, _, rfl, ?_⟩
    rw [dec_ii]
    refine ite2 (fun _ => ?_) (fun _ => ?_)
    · refine ⟨_, rfl, ?_⟩
      have Oo2 := Oo.same s12
      have Oa2 := Oa.same s12
      have lod : od.length ≤ 60 := by
        have := nd_len ndo (fun m hm => by have := bo m hm; omega : ∀ m ∈ od, 0 ≤ m ∧ m < n)
        omega
      refine ⟨_, rfl, oa, rfl, ⟨_, SqL.of Oo2.1⟩, fun D2 hD2 => ?_⟩
      refine lc_filtI (K := K) (a := oa) (ns := od) (fun m => decide (m ∈ aks) && !decide (m ∈ h0)) (by omega) hD2 (SqL.of Oo2.1) (fun j x G3 Y B hx sG h => ?_) (fun G3 s3 kD2 => ?_)
      · refine ⟨rfl, _, rfl, _, rfl, .inl ⟨aa, _, rfl, .inl (SqL.of (Oa2.same sG).1), rfl, flat_ints _, _, rfl, ?_⟩⟩
        rw [inV_ints]
        cases c1 : decide (x ∈ aks) with
        | false =>
          rw [c1, Bool.false_and, if_neg (by decide)] at h
          exact iteF (iteF h)
        | true =>
          rw [c1, Bool.true_and] at h
          refine iteT ?_
          refine ⟨_, rfl, _, rfl, .inl ⟨hl, _, rfl, .inl (SqL.of (Oh0.same sG).1), rfl, flat_ints _, _, rfl, ?_⟩⟩
          exact tst (by rw [inV_ints]; rfl) (fun y => ⟨_, rfl, y⟩) h
      have kh3 := s3 _ _ khl
      obtain ⟨h1, eh1⟩ : ∃ h1, h1 = od.filter fun m => decide (m ∈ aks) && !decide (m ∈ h0) := ⟨_, rfl⟩
      rw [← eh1] at kD2
      have lh1 : h1.length ≤ 60 := by rw [eh1]; exact Nat.le_trans (List.length_filter_le _ _) lod
      refine ⟨hl, D2, _, _, rfl, rfl, kh3, kD2, by rw [List.length_map, List.length_map]; exact Nat.le_trans (show _ ≤ 200 by omega) (by decide), fun l3 hl3 => ?_⟩
      rw [← List.map_append]
      have s123 := s12.trans s3
      refine J _ _ ⟨l3, h0 ++ h1, rfl, s123.trans (same_upd hl3), OutL.ofNew W (s123.free hl3) upd_same, fun m hm => ?_⟩
      rcases List.mem_append.mp hm with hm | hm
      · exact bh0 m hm
      · rw [eh1] at hm
        have h2 := List.mem_filter.mp hm
        exact ⟨by have := h2.2; simp at this; exact this.1, (bo m h2.1).2.2⟩
    · exact J _ _ ⟨hl, h0, rfl, s12, Oh0, bh0⟩
  rintro σ G3 ⟨h2, hd, rfl, s3, Ohd, bhd⟩
  have W3 := W.same s3
  refine ⟨_, rfl, _, rfl, L, _, _, _, rfl, rfl, SqL.of W3.at_, W3.at1 hi, _, rfl, L, n, i, a, p, cs, h2, hd, by rw [pst]; rfl, W3, hi, G, Ohd, fun m hm => ba m (bhd m hm).1, .inr pst, fun a4 H4 W4 eo4 S4 => ?_⟩
  refine ⟨_, rfl, iteF' rfl ?_⟩
  obtain ⟨F, eF⟩ : ∃ F, F = heardF (i : Int) p.f hd := ⟨_, rfl⟩
  rw [← eF] at W4 S4
  have S04 := (StG.ofSame (cs := cs) s3).trans S4
  obtain ⟨bo2, ebo⟩ : ∃ b : Bool, b = decide (c1 % 2 = 1) := ⟨_, rfl⟩
  have rs0 : rsJ n od 0 = rangeI n := List.filter_eq_self.mpr fun m _ => by simp
  obtain ⟨PJ, ePJ⟩ : ∃ PJ : Nat → Cp, PJ = fun j => { p with f := F, rs := if bo2 = true then rsJ n od j else p.rs } := ⟨_, rfl⟩
  have pj0 : ({ p with f := F } : Cp) = PJ 0 := by
    rw [ePJ]
    show _ = ({ p with f := F, rs := if bo2 = true then rsJ n od 0 else p.rs } : Cp)
    rw [rs0, ← prs, ite_self]
  rw [pj0] at W4 S4 S04
  have gd : ∀ j, GoodG n (i : Int) (PJ j) := fun j => by
    rw [ePJ]
    refine ⟨G.i0, G.i1, G.n60, ?_, ?_, G.ns, G.ps, G.bg⟩
    · show (if bo2 = true then rsJ n od j else p.rs).Nodup
      split
      · exact rsJ_nd
      · exact G.nd
    · show ∀ m ∈ (if bo2 = true then rsJ n od j else p.rs), 0 ≤ m ∧ m < n
      split
      · exact fun m hm => (rsJ_mem.mp hm).1
      · exact G.bnd
  refine ⟨_, rfl, oa, rfl, ⟨_, SqL.of (Oo.step S04).1⟩, ?_⟩
  refine for_list (K := K) (a := oa) (xs := od.map V.int) (fun j σ G' => (∃ z8 : Option V, σ = [some (V.ref L), some (V.int (i : Int)), some (V.ref la), some (V.ref oa), some (V.ref ma), some (V.ref aa), some (V.ref ca), some (V.ref h2), z8, none, none]) ∧ ∃ a5, a5.o = a.o ∧ RowG K G' C CK L n (cs.set i (a5, PJ j)) ∧ StG cs H (cs.set i (a5, PJ j)) G' ∧ OutL G' (cs.set i (a5, PJ j)) h2 hd) ⟨⟨_, rfl⟩, a4, eo4, W4, S04, Ohd.step S4⟩ (fun j σ G' _ h => by obtain ⟨_, a5, _, _, S5, _⟩ := h; exact SqL.of (Oo.step S5).1) ?_ ?_
  · rintro j x σ G5 hx ⟨⟨z8, rfl⟩, a5, eo5, W5, S5, Oh5⟩
    obtain ⟨m, hm, rfl⟩ := ints_at' hx
    have lj := (List.getElem?_eq_some_iff.mp hm).1
    have bm := bo m (List.mem_of_getElem? hm)
    refine ⟨_, rfl, ca, _, _, .int c1, rfl, rfl, SqL.of (Oc.step S5).1, atI_nat (j := 1) rfl, _, _, rfl, rfl, (by show (0 : Int) < 2; decide), rfl, _, rfl, ?_⟩
    rw [dec_ii, ← ebo]
    cases hb : bo2 with
    | false =>
      refine iteF' rfl (iteF ?_)
      have e : PJ j = PJ (j + 1) := by rw [ePJ, hb]; rfl
      refine ⟨⟨_, rfl⟩, a5, eo5, ?_⟩
      rw [← e]
      exact ⟨W5, S5, Oh5⟩
    | true =>
      refine iteT' rfl ?_
      have hi5 := get_set (c' := (a5, PJ j)) hi
      have B5 := W5.all i _ hi5
      obtain ⟨kv5, A5, _⟩ := B5.at_
      rw [eo5] at A5
      have at5 := W5.at1 hi5
      rw [eo5] at at5
      have ers : othR (PJ j).rs m = rsJ n od (j + 1) := by rw [ePJ, hb]; exact (rsJ_next hm).symm
      obtain ⟨ys, eys⟩ : ∃ ys, rsJ n od (j + 1) = 0 :: ys := by
        have z0 : (0 : Int) ∈ rsJ n od (j + 1) := rsJ_mem.mpr ⟨⟨by omega, by omega⟩, fun z => by have := bo 0 (List.mem_of_mem_take z); omega⟩
        have up := rsJ_up (n := n) (od := od) (j := j + 1)
        cases h : rsJ n od (j + 1) with
        | nil => rw [h] at z0; exact absurd z0 List.not_mem_nil
        | cons x xs =>
          rw [h] at z0 up
          have hx : x ∈ rsJ n od (j + 1) := by rw [h]; simp
          have hx0 := (rsJ_mem.mp hx).1.1
          rcases List.mem_cons.mp z0 with e | e
          · exact ⟨xs, by rw [e]⟩
          · have := (List.pairwise_cons.mp up).1 0 e
            omega
      refine ⟨_, rfl, _, rfl, L, _, _, _, rfl, rfl, SqL.of W5.at_, at5, a.o, a5.dx, _, rfl, A5.hp, (A5.no "gone").2, _, rfl, gone_at eo5 B5 (gd j) (ers.trans eys) (by omega) ?_⟩
      refine W5.ret hi5 fun z zs a6 H6 W6 S6 eo6 nz kz dz => ?_
      cases dz
      have e2 : (a6, (goneP (PJ j) m, ([] : List PyData)).1) = (a6, PJ (j + 1)) := by
        unfold goneP
        show (a6, ({ PJ j with rs := othR (PJ j).rs m } : Cp)) = _
        rw [ers, ePJ, hb]
        rfl
      rw [e2, List.set_set] at W6 S6
      refine ⟨Nat.zero_le _, fun e1 he1 => ?_⟩
      have s4 := same_upd (o := .lst []) he1
      refine ⟨.list [], .list [], .lst (SqL.of (s4 _ _ kz)) .nil, .lst (SqL.of upd_same) .nil, by decide, by decide, _, rfl, iteF' (by decide +kernel) ?_⟩
      exact ⟨⟨_, rfl⟩, a6, eo6.trans eo5, W6.same s4, S5.trans (S6.trans (StG.ofSame s4)), (Oh5.step S6).same s4⟩
  rintro σ G5 ⟨⟨z8, rfl⟩, a5, eo5, W5, S5, Oh5⟩
  rw [List.length_map] at W5 S5 Oh5
  have ePe : PJ od.length = secP p (i : Int) n hd od bo2 := by rw [ePJ, eF]; rfl
  rw [ePe] at W5 S5 Oh5
  have OM5 := OM.step S5
  obtain ⟨y, hy, Oy⟩ := OM5.at (j := k) (by omega)
  have lst := atI_last (by rw [List.length_map]; exact OM5.len) hy
  refine ⟨_, rfl, _, rfl, ma, _, _, _, rfl, rfl, SqL.of OM5.at_, lst, ?_⟩
  refine ⟨_, rfl, L, _, rfl, .inl (SqL.of W5.at_), _, rfl, _, rfl, n, (i : Int), h2, hd, ?_, Oh5.1, by omega, G.i1, n60, fun r1 G6 s6 hr1 kr1 => ?_⟩
  · rw [List.length_map, List.length_map, W5.len]
    have := G.i0
    have := G.i1
    rw [show ((n.toNat : Nat) : Int) = n by omega]
    rfl
  have Ol5 := Ol.step S5
  have lr1 : (rndF n (i : Int) fun m => decide (m ∈ hd)).length ≤ 60 := lineUp_len (by omega) G.i1 n60
  refine ⟨r1, rfl, ⟨_, SqL.of kr1⟩, fun D hD => ?_⟩
  refine lc_filtI (K := K) (a := r1) (ns := rndF n (i : Int) fun m => decide (m ∈ hd)) (fun m => !decide (m ∈ ls)) (by omega) hD (SqL.of kr1) (fun j x G7 Y B hx sG h => ?_) (fun G7 s7 kD => ?_)
  · refine ⟨rfl, _, rfl, _, rfl, .inl ⟨la, _, rfl, .inl (SqL.of ((Ol5.same s6).same sG).1), rfl, flat_ints _, _, rfl, ?_⟩⟩
    exact tst (by rw [inV_ints]; rfl) (fun y => ⟨_, rfl, y⟩) h
  obtain ⟨mr, emr⟩ : ∃ mr, mr = (rndF n (i : Int) fun m => decide (m ∈ hd)).filter fun m => !decide (m ∈ ls) := ⟨_, rfl⟩
  rw [← emr] at kD
  have lmr : mr.length ≤ 60 := by rw [emr]; exact Nat.le_trans (List.length_filter_le _ _) lr1
  have s67 := s6.trans s7
  refine ⟨_, rfl, _, rfl, la, D, _, _, rfl, rfl, (Ol5.same s67).1, kD, by rw [List.length_map, List.length_map]; exact Nat.le_trans (show _ ≤ 200 by omega) (by decide), fun l4 hl4 => ?_⟩
  rw [← List.map_append]
  have s8 := same_upd (o := .lst ((ls ++ mr).map V.int)) hl4
  have s68 := s67.trans s8
  refine ⟨l4, rfl, ⟨_, SqL.of upd_same⟩, fun D2 hD2 => ?_⟩
  refine lc_filtI (K := K) (a := l4) (ns := ls ++ mr) (fun m => decide (m ∈ M k)) (by rw [List.length_append]; omega) hD2 (SqL.of upd_same) (fun j x G9 Y B hx sG h => ?_) (fun G9 s9 kD2 => ?_)
  · refine ⟨rfl, _, rfl, _, rfl, .inl ⟨y, _, rfl, .inl (SqL.of ((Oy.same s68).same sG).1), rfl, flat_ints _, _, rfl, ?_⟩⟩
    exact tst (by rw [inV_ints]; rfl) (fun y => ⟨_, rfl, y⟩) h
  have s69 := s68.trans s9
  refine q D2 a5 hd bo2 G9 bhd (W5.same s69) eo5 (S5.trans (StG.ofSame s69)) ?_
  rw [← emr]
  exact OutL.ofNew W5 (s68.free hD2) kD2
end

end G0
namespace G0
open PySem PySem.Spec PyProof.Rows L2 NdefX ClX
set_option maxHeartbeats 4000000
section
/-! ### the line of the second one -/
theorem rndF_nd {n b : Int} {p : Int → Bool} (h0 : 0 ≤ b) (h1 : b < n) : (rndF n b p).Nodup := by
  unfold rndF
  rw [← ordR_range h0 h1]
  exact (ordR_nd (rangeI_nd n)).filter _
theorem rndF_congr {n b : Int} {p p' : Int → Bool} (h0 : 0 ≤ b) (h1 : b < n) (h : ∀ m, 0 ≤ m → m < n → p m = p' m) : rndF n b p = rndF n b p' := by
  unfold rndF
  refine List.filter_congr fun m hm => ?_
  have : 0 ≤ m ∧ m < n := by
    rcases List.mem_append.mp hm with z | z <;> have := rgI_mem.mp z <;> omega
  exact h m this.1 this.2
theorem heardF_at {me m : Int} : ∀ {l : List Int} {f : Int → Int}, heardF me f l m = if m ≠ me ∧ m ∈ l then (if 1 > f m then 1 else f m) else f m
  | [], f => by simp [heardF]
  | s :: l, f => by
    show heardF me (if s = me then f else learnF f s 1) l m = _
    rw [heardF_at]
    by_cases e : s = me
    · rw [if_pos e]
      by_cases c : m ≠ me ∧ m ∈ l
      · rw [if_pos c, if_pos (show m ≠ me ∧ m ∈ s :: l from ⟨c.1, List.mem_cons_of_mem _ c.2⟩)]
      · rw [if_neg c, if_neg]
        rintro ⟨h1, h2⟩
        rcases List.mem_cons.mp h2 with z | z
        · exact h1 (z.trans e)
        · exact c ⟨h1, z⟩
    · rw [if_neg e]
      by_cases em : m = s
      · have v : learnF f s 1 m = if 1 > f m then 1 else f m := by unfold learnF updI; rw [if_pos em, em]
        rw [v, if_pos (show m ≠ me ∧ m ∈ s :: l from ⟨by rw [em]; exact e, by simp [em]⟩)]
        by_cases c : m ≠ me ∧ m ∈ l
        · rw [if_pos c]
          by_cases d : 1 > f m
          · rw [if_pos d]; rfl
          · rw [if_neg d, if_neg d]
        · rw [if_neg c]
      · have v : learnF f s 1 m = f m := by unfold learnF updI; rw [if_neg em]
        rw [v]
        by_cases c : m ≠ me ∧ m ∈ l
        · rw [if_pos c, if_pos (show m ≠ me ∧ m ∈ s :: l from ⟨c.1, List.mem_cons_of_mem _ c.2⟩)]
        · rw [if_neg c, if_neg]
          rintro ⟨h1, h2⟩
          rcases List.mem_cons.mp h2 with z | z
          · exact em z
          · exact c ⟨h1, z⟩
theorem pairs_fst {ms gs : List Int} : (pairsOf ms gs).map (·.1) = ms := by
  unfold pairsOf
  rw [List.map_map]
  exact List.map_id ms
theorem due_pairs {ms gs : List Int} {m v : Int} (nd : ms.Nodup) : dueS (pairsOf ms gs) m v = (decide (m ∈ ms) && decide (wantsI gs m < v)) := by
  unfold dueS
  by_cases c : m ∈ ms
  · have h1 : (m, wantsI gs m) ∈ pairsOf ms gs := by unfold pairsOf; exact List.mem_map.mpr ⟨m, c, rfl⟩
    have h2 : ((pairsOf ms gs).map (·.1)).Nodup := by rw [pairs_fst]; exact nd
    rw [val_ent h2 h1, decide_eq_true c, Bool.true_and]
  · have : valV ((pairsOf ms gs).map entI) (Sum.inl m) = none := ent_none (by rw [pairs_fst]; exact c)
    rw [this, decide_eq_false c]
    rfl
theorem srv_pairs {ms : List Int} {b i : Int} : srvS (pairsOf ms [b]) i 1 = pairsOf ms [b, i] := by
  unfold srvS pairsOf
  rw [List.map_map]
  refine List.map_congr_left fun m _ => ?_
  show (if (m, wantsI [b] m).1 = i then (i, 1) else (m, wantsI [b] m)) = (m, wantsI [b, i] m)
  unfold wantsI
  by_cases c : m = i
  · rw [if_pos c, c, if_pos (by simp)]
  · rw [if_neg c]
    by_cases d : m = b
    · rw [if_pos (by simp [d]), if_pos (by simp [d])]
    · rw [if_neg (by simp [d]), if_neg (by simp [c, d])]
theorem ordR_filt {l : List Int} {q : Int → Bool} {b : Int} : ordR (l.filter q) b = (ordR l b).filter q := by
  unfold ordR
  rw [List.filter_append, List.filter_filter, List.filter_filter, List.filter_filter, List.filter_filter]
  congr 1 <;> refine List.filter_congr fun m _ => Bool.and_comm _ _
theorem rsJ_sub {n : Int} {od : List Int} {j : Nat} : ((rsJ n od j).filter fun m => decide (m ∈ rsJ n od (j + 1))) = rsJ n od (j + 1) := by
  unfold rsJ
  rw [List.filter_filter]
  refine List.filter_congr fun m hm => ?_
  rw [Bool.eq_iff_iff]
  simp only [Bool.and_eq_true, decide_eq_true_eq, List.mem_filter, Bool.not_eq_true', decide_eq_false_iff_not]
  constructor
  · exact fun h => h.1.2
  · exact fun h => ⟨⟨hm, h⟩, fun z => h ((List.take_sublist_take_left (by omega)).subset z)⟩
theorem lineJ_eq {n : Int} {od ls : List Int} (h : ∀ m ∈ ls, 0 ≤ m ∧ m < n) : ∀ j, lineJ (rsJ n od) ls j = ls.filter fun m => decide (m ∈ rsJ n od j)
  | 0 => by
    refine (List.filter_eq_self.mpr fun m hm => decide_eq_true (rsJ_mem.mpr ⟨h m hm, by simp⟩)).symm
  | j + 1 => by
    show (lineJ (rsJ n od) ls j).filter _ = _
    rw [lineJ_eq h j, List.filter_filter]
    refine List.filter_congr fun m hm => ?_
    rw [Bool.eq_iff_iff]
    simp only [Bool.and_eq_true, decide_eq_true_eq]
    refine ⟨fun h => h.1, fun h2 => ⟨h2, ?_⟩⟩
    have := rsJ_mem.mp h2
    exact rsJ_mem.mpr ⟨this.1, fun z => this.2 ((List.take_sublist_take_left (by omega)).subset z)⟩
theorem line_eq {n b i : Int} {od ls hd rs : List Int} {f : Int → Int} {k : Nat} (i0 : 0 ≤ i) (i1 : i < n) (hrs : rs = rangeI n ∨ rs = rsJ n od k) (bl : ∀ m ∈ ls, 0 ≤ m ∧ m < n) (f0 : ∀ m, m ≠ i → f m = 0) (fi : f i = 1) (bh : b ∉ hd) (ih : i ∉ hd) :
    lineUp i rs (msF n (heardF i f hd)) (pairsOf (rsJ n od k) [b, i]) (lineJ (rsJ n od) ls k) = (ls ++ (rndF n i fun m => decide (m ∈ hd)).filter fun m => !decide (m ∈ ls)).filter fun m => decide (m ∈ rsJ n od k) := by
  rw [lineJ_eq bl]
  obtain ⟨MK, eM⟩ : ∃ MK, MK = rsJ n od k := ⟨_, rfl⟩
  have ndM : MK.Nodup := by rw [eM]; exact rsJ_nd
  have subM : ∀ m ∈ MK, m ∈ rs := fun m hm => by
    rcases hrs with e | e
    · rw [e]; rw [eM] at hm; exact rangeI_mem.mpr (rsJ_mem.mp hm).1
    · rw [e, ← eM]; exact hm
  have bM : ∀ m ∈ MK, 0 ≤ m ∧ m < n := fun m hm => by rw [eM] at hm; exact (rsJ_mem.mp hm).1
  obtain ⟨q, eq⟩ : ∃ q : Int → Bool, rs = (rangeI n).filter q := by
    rcases hrs with e | e
    · exact ⟨fun _ => true, by rw [e]; exact (List.filter_eq_self.mpr fun _ _ => rfl).symm⟩
    · exact ⟨_, e⟩
  rw [← eM]
  have kp : keepL (ls.filter fun m => decide (m ∈ MK)) rs = ls.filter fun m => decide (m ∈ MK) := List.filter_eq_self.mpr fun m hm => decide_eq_true (subM m (of_decide_eq_true (List.mem_filter.mp hm).2))
  unfold lineUp
  rw [kp, List.filter_append]
  congr 1
  rw [eq, ordR_filt, ordR_range i0 i1]
  unfold rndF
  rw [List.filter_filter, List.filter_filter, List.filter_filter]
  refine List.filter_congr fun m hm => ?_
  rw [Bool.eq_iff_iff]
  rw [due_pairs ndM]
  simp only [Bool.and_eq_true, decide_eq_true_eq, List.mem_filter, Bool.not_eq_true', decide_eq_false_iff_not]
  have due : m ∈ MK → (wantsI [b, i] m < (msF n (heardF i f hd)).getD m.toNat 0 ↔ m ∈ hd) := fun hM => by
    rw [msF_get (bM m hM).1 (bM m hM).2, heardF_at]
    by_cases c : m ∈ hd
    · have mi : m ≠ i := fun e => ih (by rw [← e]; exact c)
      have mb : m ≠ b := fun e => bh (by rw [← e]; exact c)
      have w1 : wantsI [b, i] m = 0 := by unfold wantsI; rw [if_neg (by simp [mi, mb])]
      rw [w1, if_pos ⟨mi, c⟩, f0 m mi]
      simp [c]
    · rw [if_neg (fun z => c z.2)]
      by_cases e : m = i
      · have w1 : wantsI [b, i] m = 1 := by unfold wantsI; rw [if_pos (by simp [e])]
        rw [w1, e, fi]
        constructor
        · intro z; omega
        · intro z; exact absurd (by rw [e]; exact z) c
      · have w1 : 0 ≤ wantsI [b, i] m := by unfold wantsI; split <;> omega
        rw [f0 m e]
        constructor
        · intro z; omega
        · exact fun z => absurd z c
  have mq : m ∈ MK → q m = true := fun hM => by
    have := subM m hM
    rw [eq] at this
    exact (List.mem_filter.mp this).2
  constructor
  · rintro ⟨⟨h1, hM, h2⟩, _⟩
    exact ⟨⟨hM, fun z => h1 ⟨z, hM⟩⟩, (due hM).mp h2⟩
  · rintro ⟨⟨hM, h1⟩, h2⟩
    exact ⟨⟨fun z => h1 z.1, hM, (due hM).mpr h2⟩, mq hM⟩
end

end G0
namespace G0
open PySem PySem.Spec PyProof.Rows L2 NdefX ClX
set_option maxHeartbeats 8000000
theorem cut_drop {xs : List V} {c : Int} (h0 : 0 ≤ c) (h1 : c ≤ xs.length) : cutV xs (some c) none = xs.drop c.toNat := by
  unfold cutV
  obtain ⟨k, rfl⟩ : ∃ k : Nat, c = (k : Int) := ⟨c.toNat, by omega⟩
  rw [HT.sIx_nat, HT.sIx_none, Int.toNat_natCast, Nat.min_eq_left (by omega)]
  exact List.take_of_length_le (by rw [List.length_drop]; exact Nat.le_refl _)
theorem cut_take {xs : List V} {c : Int} (h0 : 0 ≤ c) (h1 : c ≤ xs.length) : cutV xs none (some c) = xs.take c.toNat := by
  unfold cutV
  obtain ⟨k, rfl⟩ : ∃ k : Nat, c = (k : Int) := ⟨c.toNat, by omega⟩
  rw [HT.sIx_nat, HT.sIx_none, Int.toNat_natCast, Nat.min_eq_left (by omega)]
  simp
section
variable {P : Program} {w : World} {K : PySem.W.Frag} {mg : Str → Option Value} {base : Heap} {C CK : Addr}
def OutS (K : PySem.W.Frag) (H : Hp) (cs : List (Ad × Cp)) (x : Addr) (ns : List Int) : Prop := (SqL K H x (ns.map V.int) ∧ ∀ c ∈ cs, x ∉ fpG c.1 c.2) ∨ ∀ H' : Hp, SqL K H' x (ns.map V.int)
theorem OutS.step {H H' : Hp} {cs cs' : List (Ad × Cp)} {x : Addr} {ns : List Int} (o : OutS K H cs x ns) (s : StG cs H cs' H') : OutS K H' cs' x ns := by
  rcases o with ⟨(z | ⟨o', z⟩) | z, n⟩ | o
  · exact .inl ⟨.inl (.inl (s _ _ z n).1), (s _ _ z n).2⟩
  · exact .inl ⟨.inl (.inr ⟨o', (s _ _ z n).1⟩), (s _ _ z n).2⟩
  · exact .inr fun _ => .inr z
  · exact .inr o
theorem OutS.sq {H : Hp} {cs : List (Ad × Cp)} {x : Addr} {ns : List Int} (o : OutS K H cs x ns) : SqL K H x (ns.map V.int) := by
  rcases o with o | o
  · exact o.1
  · exact o H
theorem leave_at {H : Hp} {n i : Int} {a : Ad} {p : Cp} {y : KP} {q : Addr} {Q : VK} (eo : a.o = q) (B : CgAt K H C CK n i a p) (G : GoodG n i p) (ek : p.key = some y) (hm : i ∈ y.S.map (·.1)) (h : RetG K C CK n i H a p Q (handG n i { p with st := "out" } { y with S := srvS y.S i (p.f i) })) : spLeaveC K C CK (V.ref q :: ([] ++ [])) H Q E0 := by
  subst eo
  exact leaveC_of (E := E0) B G ek hm h
theorem bears_key {H : Hp} {n i : Int} {a : Ad} {p : Cp} {y : KP} {q : Addr} {Q : VK} (eo : a.o = q) (B : CgAt K H C CK n i a p) (ek : p.key = some y) (h : ∀ t H', Same H H' → Dp K H' (.ref t) (toldD y.r y.S y.ns) → Q (.ref t) H') : spBears K C CK (V.ref q :: ([] ++ [])) H Q E0 := by
  subst eo
  exact bears_of (E := E0) B ⟨fun e => (by rw [ek] at e; cases e), fun y2 e t H' s d => by rw [ek] at e; cases e; exact h t H' s d⟩
theorem RetG.eq {n i : Int} {H : Hp} {a : Ad} {p : Cp} {Q : VK} {R R' : Cp × List PyData} (h : RetG K C CK n i H a p Q R) (e : R' = R) : RetG K C CK n i H a p Q R' := by rw [e]; exact h
theorem rt_len {n : Int} {od : List Int} {j : Nat} (n60 : n ≤ 60) : (rsJ n od j).length ≤ 60 := by
  have := rsJ_len (n := n) (od := od) (j := j)
  omega
/-! ### the end of the law -/
structure EndK (n b : Int) (i : Nat) (cs : List (Ad × Cp)) (a0 a1 : Ad) (p0 p1 : Cp) (od ls aks : List Int) : Prop where
  n5 : 5 ≤ n
  n60 : n ≤ 60
  i0 : 0 < i
  i1 : (i : Int) < n
  bi : b ≠ (i : Int)
  ba : b ∉ aks
  bk : ∀ m ∈ aks, 1 ≤ m ∧ m < n
  laks : aks.length ≤ 60
  bl : ∀ m ∈ ls, m ∈ aks ∧ m ≠ (i : Int)
  lls : ls.length ≤ 60
  ndl : ls.Nodup
  ndo : od.Nodup
  bo : ∀ m ∈ od, 1 ≤ m ∧ m < n ∧ m ≠ (i : Int)
  ne : od ≠ []
  h0 : cs[0]? = some (a0, p0)
  h1 : cs[i]? = some (a1, p1)
  g0 : GoodG n 0 p0
  k0 : p0.key = none
  s0 : p0.st = "out"
  r0 : p0.rnd = (od.length : Int)
  b0 : p0.bg = .int (od.length : Int)
  ps0 : p0.ps = [(0, 0, 0)]
  rs0 : p0.rs = rsJ n od od.length
  g1 : GoodG n (i : Int) p1
  k1 : p1.key = some ⟨(od.length : Int), pairsOf (rsJ n od od.length) [b], lineJ (rsJ n od) ls od.length⟩
  s1 : p1.st = "in"
  rs1 : p1.rs = rangeI n
  f1 : p1.f (i : Int) = 1
  f2 : ∀ m, m ≠ (i : Int) → p1.f m = 0
  oth : ∀ t ∈ aks, t ≠ (i : Int) → ∃ a p, cs[t.toNat]? = some (a, p) ∧ p.rnd = 0 ∧ p.f t = 1 ∧ GoodG n t p
def spEnd (K : PySem.W.Frag) (C CK : Addr) : Sp := fun vs H Q _ => ∃ (L : Addr) (n b : Int) (i : Nat) (cs : List (Ad × Cp)) (a0 a1 : Ad) (p0 p1 : Cp) (ha la oa ma aa sa : Addr) (as : List Addr) (od ls aks ns : List Int), vs = [.ref L, .ref ha, .ref la, .ref oa, .ref ma, .ref aa, .ref sa] ∧ RowG K H C CK L n cs ∧ EndK n b i cs a0 a1 p0 p1 od ls aks ∧
  OutL H cs ha [b, (i : Int)] ∧ OutL H cs la ls ∧ OutL H cs oa od ∧ OutM H cs ma as (rsJ n od) (od.length + 1) ∧ OutL H cs aa aks ∧ OutS K H cs sa ns ∧ (∀ z ∈ ns, Builtin.Int.intBits z ≤ 1048576) ∧ ∀ H', Q (.bl true) H'
theorem sc_law_end : FnScope ["ones", "holders", "line", "order", "members", "askers", "script", "me", "cells", "key", "living", "seat", "cut"] ["ones", "holders", "line", "order", "members", "askers", "script"] (defScope s_law_end) :=
  ⟨rfl, rfl, rfl, by decide +kernel, rfl, by decide +kernel, by decide +kernel⟩
theorem ok_end (F : Fn K mg "_law_end" s_law_end) (T : BlT0 mg) (S : CalT K C) (C_cell_at : Cal P w K mg base "_law_cell_at" 1 ["script", "k"] (spCell K)) (C_second : Cal P w K mg base "_law_second" 7 ["ones", "me", "line", "order", "members", "askers", "cells"] (spSecond0 K C CK)) (C_pairs : Cal P w K mg base "_law_pairs" 1 ["members", "gone_in"] (spPairs0 K))
    (C_taken : Cal P w K mg base "_law_taken" 6 ["one", "sender", "members", "key"] (spTaken K C CK)) (C_none_made : Cal P w K mg base "_law_none_made" 6 ["one", "members", "askers", "holders", "order"] (spNone K C CK))
    (ML : Me P w K mg base C "leave" 4 ["self"] (spLeaveC K C CK)) (MB : Me P w K mg base C "bears" 2 ["self"] (spBears K C CK)) : Cal P w K mg base "_law_end" 8 ["ones", "holders", "line", "order", "members", "askers", "script"] (spEnd K C CK) := by
  obtain ⟨fL, fdL, GL, bL, mL⟩ := ML
  obtain ⟨fB, fdB, GB, bB, mB⟩ := MB
  refine cal_of F sc_law_end
    (fun _ _ _ _ _ _ us hl => match us, hl with | [_, _, _, _, _, _, _], _ => rfl) ?_ ?_
  · rintro vs H Q E ⟨_, _, _, _, _, _, _, _, _, _, _, _, _, _, _, _, _, _, _, _, rfl, _⟩
    rfl
  rintro f cdv A outer s H vs Q E free hr ⟨L, n, b, i, cs, a0, a1, p0, p1, ha, la, oa, ma, aa, sa, as, od, ls, aks, ns, rfl, W, X, Oh, Ol, Oo, OM, Oa, OS, bits, q⟩
  have hr4 : Room 4 _ := hr.mono (by decide)
  have hr2 : Room 2 _ := hr.mono (by decide)
-- [(0, 'ones'), (1, 'holders'), (2, 'line'), (3, 'order'), (4, 'members'), (5, 'askers'), (6, 'script'), (7, 'me'), (8, 'cells'), (9, 'key'), (10, 'living'), (11, 'seat'), (12, 'cut')]
  refine ⟨_, (pss_cons (ps_set (i := 7) sc_law_end.nd rfl (Or.inl rfl) (pe_ix ix_list (pv 1) pe_int (fun _ _ => rfl)))
    (pss_cons (ps_set (i := 8) sc_law_end.nd rfl (Or.inl rfl) (pe_lst (pa_cons (pe_cal C_cell_at free (hr.mono (by decide)) (pa_cons (pv 6) (pa_cons pe_int pa_nil))) (pa_cons (pe_op op_mod (pe_op op_fdivW (pe_cal C_cell_at free (hr.mono (by decide)) (pa_cons (pv 6) (pa_cons pe_int pa_nil))) pe_int) pe_int) pa_nil))))
    (pss_cons (ps_set (i := 2) sc_law_end.nd rfl (Or.inl rfl) (pe_cal C_second free (hr.mono (by decide)) (pa_cons (pv 0) (pa_cons (pv 7) (pa_cons (pv 2) (pa_cons (pv 3) (pa_cons (pv 4) (pa_cons (pv 5) (pa_cons (pv 8) pa_nil)))))))))
    (pss_cons (ps_if (pt_cmpR op_isN (pv 2) pe_non (nomark _))
    (pss_one (ps_ret pe_bl))
    pss_nil)
    (pss_cons (ps_set (i := 9) sc_law_end.nd rfl (Or.inl rfl) (pe_tup (pa_cons (pe_op op_sub (pe_callB call_len_seq (by rfl) T.len (by decide +kernel) (pa_cons (pv 4) pa_nil)) pe_int) (pa_cons (pe_cal C_pairs free (hr.mono (by decide)) (pa_cons (pe_ix ix_list (pv 4) (pe_un un_neg pe_int) (fun _ _ => rfl)) (pa_cons (pv 1) pa_nil))) (pa_cons (pe_callTy call_tuple_of (by rfl) T.tuple (by decide +kernel) (pa_cons (pe_slice sl_list (pv 2) (po_some pe_int) po_none) pa_nil)) pa_nil)))))
    (pss_cons (ps_if (pt_cmpR (op_eqD (u64 hr)) (pv 2) (pe_lst pa_nil) (nomark _))
    (pss_one (ps_if (PW.pt (pw_or (pt_cmpR (op_neD (u64 hr)) (pe_meth0 (pe_ix ix_list (pv 0) (pv 7) (fun _ _ => rfl)) S.cl mL GL hr4 bL .nil pass0) (pe_lst pa_nil) (nomark _)) (pw_or (pt_cmpR (op_neD (u64 hr)) (pe_meth0 (pe_ix ix_list (pv 0) (pv 7) (fun _ _ => rfl)) S.cl mB GB hr2 bB .nil pass0) (pv 9) (nomark _)) (pw_or1 (pt_cmpR op_ne (pe_fld (pe_ix ix_list (pv 0) (pv 7) (fun _ _ => rfl)) (by rfl)) pe_str (nomark _))))))
    (pss_one (ps_ret pe_bl))
    pss_nil))
    (pss_cons (ps_if (PW.pt (pw_or (pt_cmpR (op_neD (u64 hr)) (pe_meth0 (pe_ix ix_list (pv 0) (pv 7) (fun _ _ => rfl)) S.cl mL GL hr4 bL .nil pass0) (pe_lst (pa_cons (pe_tup (pa_cons (pe_ix ix_list (pv 2) pe_int (fun _ _ => rfl)) (pa_cons (pe_op op_catA (pe_tup (pa_cons pe_str pa_nil)) (pv 9)) pa_nil))) pa_nil)) (nomark _)) (pw_or1 (pt_cmpR op_notN (pe_meth0 (pe_ix ix_list (pv 0) (pv 7) (fun _ _ => rfl)) S.cl mB GB hr2 bB .nil pass0) pe_non (nomark _)))))
    (pss_one (ps_ret pe_bl))
    pss_nil)
    (pss_cons (ps_if (pt_not (pt_val (pe_cal C_taken free (hr.mono (by decide)) (pa_cons (pe_ix ix_list (pv 0) (pe_ix ix_list (pv 2) pe_int (fun _ _ => rfl)) (fun _ _ => rfl)) (pa_cons (pv 7) (pa_cons (pv 4) (pa_cons (pv 9) pa_nil)))))))
    (pss_one (ps_ret pe_bl))
    pss_nil)
    (pss_one (ps_set (i := 1) sc_law_end.nd rfl (Or.inl rfl) (pe_op op_cat (pv 1) (pe_slice sl_list (pv 2) po_none (po_some pe_int))))))))
    (pss_cons (ps_setLc (i := 10) (own := [("seat", 11)]) (g := gName 11)  (by rfl) sc_law_end.nd rfl rfl (sw_true rfl rfl rfl (by decide +kernel)) (pi_list (pe_ix ix_list (pv 4) (pe_un un_neg pe_int) (fun _ _ => rfl))) (blkOk_by (N := ["ones", "holders", "line", "order", "members", "askers", "script", "me", "cells", "key", "living", "seat", "cut"]) (sc := defScope s_law_end) (by decide +kernel)) (fun _ _ _ _ _ => pg_name (i := 11) sc_law_end.nd rfl (Or.inl rfl)) (fun _ _ _ _ _ => pts_one (pt_cmpR op_ne (pv 11) pe_int (nomark _))) (fun _ _ _ _ _ => (pv 11)))
    (pss_cons (ps_set (i := 12) sc_law_end.nd rfl (Or.inl rfl) (pe_op op_mod (pe_op op_fdivW (pe_cal C_cell_at free (hr.mono (by decide)) (pa_cons (pv 6) (pa_cons pe_int pa_nil))) pe_int) (pe_callB call_len_seq (by rfl) T.len (by decide +kernel) (pa_cons (pv 10) pa_nil))))
    (pss_one (ps_ret (pe_cal C_none_made free (hr.mono (by decide)) (pa_cons (pe_ix ix_list (pv 0) pe_int (fun _ _ => rfl)) (pa_cons (pv 4) (pa_cons (pv 5) (pa_cons (pv 1) (pa_cons (pe_op op_cat (pe_slice sl_list (pv 10) (po_some (pv 12)) po_none) (pe_slice sl_list (pv 10) po_none (po_some (pv 12)))) pa_nil)))))))))))))))), ?_⟩
  have n60 := X.n60
  have hS := OS.sq
  obtain ⟨M, eM⟩ : ∃ M, M = rsJ n od := ⟨_, rfl⟩
  rw [← eM] at OM
  refine ⟨_, rfl, ha, _, _, .int (i : Int), rfl, rfl, SqL.of Oh.1, atI_nat (j := 1) rfl, ?_⟩
  refine ⟨_, rfl, sa, ns, 6, rfl, hS, by decide, bits, fun c6 _ => ⟨_, rfl, sa, ns, 5, rfl, hS, by decide, bits, fun c5 _ => ⟨_, _, rfl, rfl, ⟨by decide, by decide⟩, _, _, rfl, rfl, (by show (0 : Int) < 2; decide), by show 2 ≤ sizeLine; decide, fun ca hca => ?_⟩⟩⟩
  have t1 := same_upd (o := .lst [V.int c6, V.int (c5 / 2 % 2)]) hca
  have Oc : OutL (upd H ca (.lst [V.int c6, V.int (c5 / 2 % 2)])) cs ca [c6, c5 / 2 % 2] := OutL.ofNew W hca upd_same
  obtain ⟨H1, e1⟩ : ∃ H1, H1 = upd H ca (.lst [V.int c6, V.int (c5 / 2 % 2)]) := ⟨_, rfl⟩
  rw [← e1] at t1 Oc
  rw [← e1]
  clear e1
  have W1 := W.same t1
  refine ⟨_, rfl, _, rfl, _, rfl, _, rfl, _, rfl, _, rfl, _, rfl, L, n, i, a1, p1, cs, la, oa, ma, aa, ca, as, M, od.length, ls, od, aks, c6, c5 / 2 % 2, rfl, W1, X.h1, X.g1, Ol.same t1, Oo.same t1, OM.same t1, Oa.same t1, Oc, X.s1, X.rs1, X.i0, X.ndo, X.bo, fun m hm => by have := X.bk m hm; omega, X.laks, X.lls, fun l2 a5 hd bb H5 bhd W5 eo5 S5 Ol5 => ?_⟩
  have S05 := (StG.ofSame (cs := cs) t1).trans S5
  obtain ⟨P5, eP5⟩ : ∃ P5, P5 = secP p1 (i : Int) n hd od bb := ⟨_, rfl⟩
  rw [← eP5] at W5 S5 Ol5 S05
  obtain ⟨cs5, ecs5⟩ : ∃ cs5, cs5 = cs.set i (a5, P5) := ⟨_, rfl⟩
  rw [← ecs5] at W5 S5 Ol5 S05
  have hi5 : cs5[i]? = some (a5, P5) := by rw [ecs5]; exact get_set X.h1
  have g5 : GoodG n (i : Int) P5 := by
    rw [eP5]
    have G := X.g1
    refine ⟨G.i0, G.i1, G.n60, ?_, ?_, G.ns, G.ps, G.bg⟩
    · show (if bb = true then rsJ n od od.length else p1.rs).Nodup
      split
      · exact rsJ_nd
      · exact G.nd
    · show ∀ m ∈ (if bb = true then rsJ n od od.length else p1.rs), 0 ≤ m ∧ m < n
      split
      · exact fun m hm => (rsJ_mem.mp hm).1
      · exact G.bnd
  have k5 : P5.key = some ⟨(od.length : Int), pairsOf (rsJ n od od.length) [b], lineJ (rsJ n od) ls od.length⟩ := by rw [eP5]; exact X.k1
  have iM : (i : Int) ∈ rsJ n od od.length := rsJ_mem.mpr ⟨⟨by have := X.i0; omega, X.i1⟩, fun z => (X.bo _ (List.mem_of_mem_take z)).2.2 rfl⟩
  have f5 : P5.f (i : Int) = 1 := by
    rw [eP5]
    show heardF (i : Int) p1.f hd (i : Int) = 1
    rw [heardF_at, if_neg (by simp), X.f1]
  obtain ⟨l2s, el2⟩ : ∃ l2s, l2s = (ls ++ (rndF n (i : Int) fun m => decide (m ∈ hd)).filter fun m => !decide (m ∈ ls)).filter fun m => decide (m ∈ M od.length) := ⟨_, rfl⟩
  rw [← el2] at Ol5
  have bl2 : ∀ m ∈ l2s, m ∈ aks ∧ m ≠ (i : Int) := fun m hm => by
    rw [el2] at hm
    rcases List.mem_append.mp (List.mem_filter.mp hm).1 with h | h
    · exact X.bl m h
    · have := (rndF_mem (by omega) X.i1).mp (List.mem_filter.mp h).1
      exact bhd m (of_decide_eq_true this.2)
  have ndr : (rndF n (i : Int) fun m => decide (m ∈ hd)).Nodup := rndF_nd (by omega) X.i1
  have nd2 : l2s.Nodup := by
    rw [el2]
    refine List.Nodup.sublist List.filter_sublist ?_
    rw [List.nodup_append]
    refine ⟨X.ndl, ndr.filter _, fun x hx y hy e => ?_⟩
    have := (List.mem_filter.mp hy).2
    rw [← e] at this
    simp at this
    exact this hx
  have ll2 : l2s.length ≤ 60 := by
    have := nd_len nd2 (fun m hm => by have := X.bk m (bl2 m hm).1; omega : ∀ m ∈ l2s, 0 ≤ m ∧ m < n)
    omega
  have eline : lineUp (i : Int) P5.rs (msF n P5.f) (pairsOf (rsJ n od od.length) [b, (i : Int)]) (lineJ (rsJ n od) ls od.length) = l2s := by
    rw [el2, eM, eP5]
    refine line_eq (by omega) X.i1 ?_ (fun m hm => by have := X.bk m (X.bl m hm).1; omega) X.f2 X.f1 (fun z => X.ba (bhd _ z).1) (fun z => (bhd _ z).2 rfl)
    clear eP5 W5 S5 S05 ecs5 hi5 g5 k5 f5 Ol5
    cases bb with
    | true => exact .inr rfl
    | false => exact .inl X.rs1
  have at5 := W5.at1 hi5
  have eY : srvS (pairsOf (rsJ n od od.length) [b]) (i : Int) (P5.f (i : Int)) = pairsOf (rsJ n od od.length) [b, (i : Int)] := by rw [f5]; exact srv_pairs
  have elY : lineUp (i : Int) P5.rs (msF n P5.f) (srvS (pairsOf (rsJ n od od.length) [b]) (i : Int) (P5.f (i : Int))) (lineJ (rsJ n od) ls od.length) = l2s := by rw [eY]; exact eline
  have eo5' : a5.o = a1.o := eo5
  refine ⟨_, rfl, rfl, _, rfl, iteF' rfl ?_⟩
  have OM5 := OM.step S05
  have Oh5 := Oh.step S05
  obtain ⟨y, hy, Oy⟩ := OM5.at (j := od.length) (by omega)
  have lst := atI_last (by rw [List.length_map]; exact OM5.len) hy
  have lMk : (M od.length).length ≤ 60 := by rw [eM]; exact rt_len n60
  have olen : (((as.map V.ref).length : Nat) : Int) - 1 = (od.length : Int) := by
    have := OM.len
    rw [List.length_map]
    omega
  refine ⟨_, rfl, ma, _, rfl, .inl (SqL.of OM5.at_), _, _, rfl, rfl, _, rfl, _, rfl, ma, _, _, _, rfl, rfl, SqL.of OM5.at_, lst, _, rfl, y, ha, M od.length, [b, (i : Int)], rfl, Oy.1, Oh5.1, by omega, fun tp H6 s6 dp => ?_⟩
  refine ⟨_, rfl, _, rfl, l2, _, rfl, SqL.of (Ol5.same s6).1, fun l7 hl7 => ?_⟩
  have u1 := same_upd (o := .lst (cutV (l2s.map V.int) (some 1) none)) hl7
  have ecut : cutV (l2s.map V.int) (some 1) none = l2s.tail.map V.int := by
    cases l2s with
    | nil => rfl
    | cons x xs => exact cut1v _ _
  refine ⟨l7, _, rfl, .inl ⟨SqL.of upd_same, fun tl htl => ?_⟩⟩
  have u2 := same_upd (o := .tup (cutV (l2s.map V.int) (some 1) none)) htl
  refine ⟨by show 3 ≤ sizeLine; decide, fun kt hkt => ?_⟩
  have u3 := same_upd (o := .tup [.int ((((as.map V.ref).length : Nat) : Int) - 1), .ref tp, .ref tl]) hkt
  have s69 := ((s6.trans u1).trans u2).trans u3
  have dkt : Dp K (upd (upd (upd H6 l7 (.lst (cutV (l2s.map V.int) (some 1) none))) tl (.tup (cutV (l2s.map V.int) (some 1) none))) kt (.tup [.int ((((as.map V.ref).length : Nat) : Int) - 1), .ref tp, .ref tl])) (.ref kt) (toldD (od.length : Int) (pairsOf (M od.length) [b, (i : Int)]) l2s.tail) := by
    refine .tup (SqT.of upd_same) (.cons (by rw [olen]; exact .int _) (.cons (dp_same ((u1.trans u2).trans u3) _ _ dp) (.cons (.tup (SqT.of (u3 _ _ upd_same)) ?_) .nil)))
    rw [ecut]
    exact dps_ints _
  have W9 := W5.same s69
  have Ol9 := Ol5.same s69
  have S09 := S05.trans (StG.ofSame s69)
  obtain ⟨H9, e9⟩ : ∃ H9, H9 = upd (upd (upd H6 l7 (.lst (cutV (l2s.map V.int) (some 1) none))) tl (.tup (cutV (l2s.map V.int) (some 1) none))) kt (.tup [.int ((((as.map V.ref).length : Nat) : Int) - 1), .ref tp, .ref tl]) := ⟨_, rfl⟩
  rw [← e9] at dkt W9 Ol9 S09
  rw [show (upd (upd (upd H6 l7 (.lst (cutV (l2s.map V.int) (some 1) none))) tl (.tup (cutV (l2s.map V.int) (some 1) none))) kt (.tup [.int ((((as.map V.ref).length : Nat) : Int) - 1), .ref tp, .ref tl])) = H9 from e9.symm]
  clear e9 u1 u2 u3 s69
  have B9 := W9.all i _ hi5
  have at9 := W9.at1 hi5
  have iS : (i : Int) ∈ (pairsOf (rsJ n od od.length) [b]).map (·.1) := by rw [pairs_fst]; exact iM
  have get9 : ∀ j : Nat, j ≠ i → cs5[j]? = cs[j]? := fun j h => by rw [ecs5, List.getElem?_set_ne (fun z => h z.symm)]
  apply goJ (fun σ G => ∃ (hx : Addr) (ht : List Int) (cs' : List (Ad × Cp)), σ = [some (V.ref L), some (V.ref hx), some (V.ref l2), some (V.ref oa), some (V.ref ma), some (V.ref aa), some (V.ref sa), some (V.int (i : Int)), some (V.ref ca), some (V.ref kt), none, none, none] ∧ RowG K G C CK L n cs' ∧ StG cs H cs' G ∧ cs'[0]? = some (a0, p0) ∧ OutL G cs' hx (b :: (i : Int) :: ht))
  · intro J
    refine ⟨_, rfl, Nat.zero_le _, fun e he => ?_⟩
    have se := same_upd (o := .lst []) he
    refine ⟨.list (l2s.map PyData.int), .list [], dp_ints (se _ _ Ol9.1), .lst (SqL.of upd_same) .nil, shaped_ints _, by decide, _, rfl, ?_⟩
    rw [eqv_nilI]
    have WA := W9.same se
    have BA := WA.all i _ hi5
    have dkA := dp_same se _ _ dkt
    have OlA := Ol9.same se
    have SA := S09.trans (StG.ofSame se)
    obtain ⟨kvA, AA, _⟩ := BA.at_
    rw [eo5] at AA
    have atA := WA.at1 hi5
    rw [eo5] at atA
    obtain ⟨HA, eHA⟩ : ∃ HA, HA = upd H9 e (.lst []) := ⟨_, rfl⟩
    rw [← eHA] at WA BA dkA OlA SA AA
    rw [← eHA]
    clear eHA
    refine ite2 (fun c => ?_) (fun c => ?_)
    · have c : l2s = [] := of_decide_eq_true c
      refine ⟨_, rfl, _, rfl, L, _, _, _, rfl, rfl, SqL.of WA.at_, atA, a1.o, a5.dx, _, rfl, AA.hp, (AA.no "leave").2, ?_⟩
      refine leave_at eo5 BA g5 k5 iS (RetG.eq ?_ (handG_nil (elY.trans c)))
      refine WA.ret hi5 fun z zs a6 H6 W6 S6 eo6 nz kz dz => ?_
      cases dz
      obtain ⟨P6, eP6⟩ : ∃ P6 : Cp, P6 = { P5 with st := "out", key := some ⟨(od.length : Int), srvS (pairsOf (rsJ n od od.length) [b]) (i : Int) (P5.f (i : Int)), []⟩ } := ⟨_, rfl⟩
      have W6 : RowG K H6 C CK L n (cs5.set i (a6, P6)) := by rw [eP6]; exact W6
      have S6 : StG cs5 HA (cs5.set i (a6, P6)) H6 := by rw [eP6]; exact S6
      have hi6 : (cs5.set i (a6, P6))[i]? = some (a6, P6) := get_set hi5
      have eo61 : a6.o = a1.o := eo6.trans eo5
      have k6 : P6.key = some ⟨(od.length : Int), srvS (pairsOf (rsJ n od od.length) [b]) (i : Int) (P5.f (i : Int)), []⟩ := by rw [eP6]
      have st6 : P6.st = "out" := by rw [eP6]
      clear eP6
      refine ⟨Nat.zero_le _, fun e1 he1 => ?_⟩
      have s4 := same_upd (o := .lst []) he1
      refine ⟨.list [], .list [], .lst (SqL.of (s4 _ _ kz)) .nil, .lst (SqL.of upd_same) .nil, by decide, by decide, _, rfl, iteF' (by decide +kernel) ?_⟩
      have W7 := W6.same s4
      have S7 := (SA.trans S6).trans (StG.ofSame s4)
      have B7 := W7.all i _ hi6
      obtain ⟨kv7, A7, _⟩ := B7.at_
      rw [eo61] at A7
      have at7 := W7.at1 hi6
      rw [eo61] at at7
      have dk7 := dp_same s4 _ _ (dp_kt (S6.sqt WA) _ _ (noL_told _ _ _) dkA)
      refine ⟨_, rfl, _, rfl, L, _, _, _, rfl, rfl, SqL.of W7.at_, at7, a1.o, a6.dx, _, rfl, A7.hp, (A7.no "bears").2, ?_⟩
      unfold tNil
      refine bears_key eo61 B7 k6 fun t H8 s8 dT => ?_
      have shp := shaped_told (od.length : Int) (pairsOf (M od.length) [b, (i : Int)]) l2s.tail
      have dT : Dp K H8 (.ref t) (toldD (od.length : Int) (pairsOf (M od.length) [b, (i : Int)]) l2s.tail) := by
        rw [c, eM, ← eY]
        exact dT
      refine ⟨_, rfl, _, _, dT, dp_same s8 _ _ dk7, shp, shp, _, rfl, iteF' (eq_bl (eqv_shaped shp)) ?_⟩
      have W8 := W7.same s8
      have A8 := A7.same s8
      refine ⟨_, rfl, _, rfl, L, _, _, _, rfl, rfl, SqL.of W8.at_, at7, a1.o, C, a6.dx, _, _, rfl, A8.hp, S.cl, S.state, caF_stt _ _ _ _ _ _ _ _ _, rfl, _, rfl, iteF' (by rw [dec_str, decide_eq_true st6]; rfl) ?_⟩
      have S8 := S7.trans (StG.ofSame s8)
      refine J _ _ ⟨ha, [], cs5.set i (a6, P6), rfl, W8, S8, ?_, Oh.step S8⟩
      rw [List.getElem?_set_ne (by have := X.i0; omega), get9 0 (by have := X.i0; omega)]
      exact X.h0
    · have c : l2s ≠ [] := fun z => c (decide_eq_true z)
      obtain ⟨t, rest, etr⟩ : ∃ t rest, l2s = t :: rest := by
        cases h : l2s with
        | nil => exact absurd h c
        | cons x xs => exact ⟨x, xs, rfl⟩
      have tb := bl2 t (by rw [etr]; simp)
      have tk := X.bk t tb.1
      refine ⟨_, rfl, _, rfl, L, _, _, _, rfl, rfl, SqL.of WA.at_, atA, a1.o, a5.dx, _, rfl, AA.hp, (AA.no "leave").2, ?_⟩
      refine leave_at eo5 BA g5 k5 iS (RetG.eq ?_ (handG_give (elY.trans etr) tb.2))
      refine WA.ret hi5 fun z zs a6 H6 W6 S6 eo6 nz kz dz => ?_
      obtain ⟨P6, eP6⟩ : ∃ P6 : Cp, P6 = { P5 with st := "out", key := none } := ⟨_, rfl⟩
      have W6 : RowG K H6 C CK L n (cs5.set i (a6, P6)) := by rw [eP6]; exact W6
      have S6 : StG cs5 HA (cs5.set i (a6, P6)) H6 := by rw [eP6]; exact S6
      have hi6 : (cs5.set i (a6, P6))[i]? = some (a6, P6) := get_set hi5
      have eo61 : a6.o = a1.o := eo6.trans eo5
      have k6 : P6.key = none := by rw [eP6]
      clear eP6
      have dz : DpAll K H6 zs [toD (keyD (od.length : Int) (pairsOf (M od.length) [b, (i : Int)]) rest) t] := by rw [eM, ← eY]; exact dz
      have Ol6 := OlA.step S6
      have at0 : atI (l2s.map V.int) 0 = some (.int t) := by rw [etr]; exact atI_nat (j := 0) rfl
      refine ⟨_, rfl, l2, _, _, .int t, rfl, rfl, SqL.of Ol6.1, at0, by show 1 ≤ sizeLine; decide, fun t1 ht1 => ?_⟩
      have v1 := same_upd (o := .tup [.str "key"]) ht1
      have dk6 := dp_kt (S6.sqt WA) _ _ (noL_told _ _ _) dkA
      obtain ⟨u, v, qk, du, dv⟩ := told_at (dp_same v1 _ _ dk6)
      refine ⟨_, rfl, cat_anyk (SqT.of upd_same) qk (by show 1 + 3 ≤ 10000; decide) fun t3 H7 s7 q3 => ?_⟩
      refine ⟨by show 2 ≤ sizeLine; decide, fun x2 hx2 => ?_⟩
      have v2 := same_upd (o := .tup [.int t, .ref t3]) hx2
      refine ⟨by show 1 ≤ sizeLine; decide, fun x3 hx3 => ?_⟩
      have v3 := same_upd (o := .lst [.ref x2]) hx3
      have v23 := v2.trans v3
      have s68 := (v1.trans s7).trans v23
      have etl : l2s.tail = rest := by rw [etr]; rfl
      rw [etl] at dv
      have due : Dp K (upd (upd H7 x2 (.tup [.int t, .ref t3])) x3 (.lst [.ref x2])) (.ref x2) (toD (keyD (od.length : Int) (pairsOf (M od.length) [b, (i : Int)]) rest) t) :=
        .tup (SqT.of (v3 _ _ upd_same)) (.cons (.int t) (.cons (.tup (sqt_same v23 q3) (.cons (.str _) (.cons (.int _) (.cons (dp_same (s7.trans v23) _ _ du) (.cons (dp_same (s7.trans v23) _ _ dv) .nil))))) .nil))
      have shp : SeqAt.shaped (.list [toD (keyD (od.length : Int) (pairsOf (M od.length) [b, (i : Int)]) rest) t]) = true := shaped_tos (lay_key _ _ _) (deep_key _ _ _) [t]
      refine ⟨_, _, .lst (SqL.of (s68 _ _ kz)) (dps_same s68 _ _ dz), .lst (SqL.of upd_same) (.cons due .nil), shp, shp, _, rfl, iteF' (eq_bl (eqv_shaped shp)) ?_⟩
      have W8 := W6.same s68
      have S8 := (SA.trans S6).trans (StG.ofSame s68)
      have B8 := W8.all i _ hi6
      obtain ⟨kv8, A8, _⟩ := B8.at_
      rw [eo61] at A8
      have at8 := W8.at1 hi6
      rw [eo61] at at8
      have dk8 := dp_same s68 _ _ dk6
      have Ol8 := Ol6.same s68
      obtain ⟨H8, e8⟩ : ∃ H8, H8 = upd (upd H7 x2 (.tup [.int t, .ref t3])) x3 (.lst [.ref x2]) := ⟨_, rfl⟩
      rw [← e8] at W8 S8 B8 A8 dk8 Ol8
      rw [← e8]
      clear e8 due
      refine ⟨_, rfl, _, rfl, L, _, _, _, rfl, rfl, SqL.of W8.at_, at8, a1.o, a6.dx, _, rfl, A8.hp, (A8.no "bears").2, ?_⟩
      unfold tNil
      refine bears_at eo61 B8 k6 ?_
      refine ⟨rfl, _, rfl, iteF' rfl ?_⟩
      obtain ⟨at_, pt, ht, rt, ft, gt⟩ := X.oth t tb.1 tb.2
      have tne : t.toNat ≠ i := fun z => tb.2 (by omega)
      have ht6 : (cs5.set i (a6, P6))[t.toNat]? = some (at_, pt) := by
        rw [List.getElem?_set_ne (fun z => tne z.symm), get9 _ tne]
        exact ht
      have att := W8.at1 ht6
      have etn : ((t.toNat : Nat) : Int) = t := by omega
      rw [etn] at att
      rw [etl] at dk8
      have OM8 := OM.step S8
      refine ⟨_, rfl, _, rfl, l2, _, _, .int t, rfl, rfl, SqL.of Ol8.1, at0, L, _, _, _, rfl, rfl, SqL.of W8.at_, att, _, rfl, _, rfl, _, rfl, L, n, t.toNat, at_, pt, cs5.set i (a6, P6), (i : Int), (od.length : Int), ma, kt, as, M, od.length + 1, pairsOf (M od.length) [b, (i : Int)], rest, rfl, W8, ht6, by rw [etn]; exact gt, OM8, by omega, by have := nd_len X.ndo (fun m hm => by have := X.bo m hm; omega : ∀ m ∈ od, 0 ≤ m ∧ m < n); omega, dk8, rt, by omega, by rw [etn]; exact ft, by rw [pairs_fst, eM]; exact rsJ_up, by unfold pairsOf; rw [List.length_map]; omega, by rw [etr, List.length_cons] at ll2; omega, fun a7 H9b W9b eo9 S9b => ?_⟩
      refine ⟨_, rfl, iteF' rfl ?_⟩
      have S9 := S8.trans S9b
      have Ol9b := Ol8.step S9b
      have Oh9 := Oh.step S9
      refine ⟨_, rfl, _, rfl, _, rfl, l2, _, rfl, SqL.of Ol9b.1, fun l8 hl8 => ?_⟩
      rw [show (1 : Int) = ((1 : Nat) : Int) from rfl, cut_takeN, ← List.map_take, etr]
      have w1 := same_upd (o := .lst (((t :: rest).take 1).map V.int)) hl8
      refine ⟨ha, l8, _, _, rfl, rfl, w1 _ _ Oh9.1, upd_same, by simp; decide, fun hx hhx => ?_⟩
      have w2 := same_upd (o := .lst ([b, (i : Int)].map V.int ++ ((t :: rest).take 1).map V.int)) hhx
      have w12 := w1.trans w2
      have S10 := S9.trans (StG.ofSame w12)
      refine J _ _ ⟨hx, [t], _, rfl, W9b.same w12, S10, ?_, OutL.ofNew W9b (w1.free hhx) upd_same⟩
      rw [List.getElem?_set_ne (by omega), List.getElem?_set_ne (by have := X.i0; omega), get9 0 (by have := X.i0; omega)]
      exact X.h0
  rintro σ G ⟨hx, ht, cs', rfl, W', S', h0', Oh'⟩
  have OM' := OM.step S'
  have hS' := (OS.step S').sq
  obtain ⟨y2, hy2, Oy2⟩ := OM'.at (j := od.length) (by omega)
  have lst2 := atI_last (by rw [List.length_map]; exact OM'.len) hy2
  refine ⟨_, rfl, _, rfl, ma, _, _, _, rfl, rfl, SqL.of OM'.at_, lst2, y2, rfl, ⟨_, SqL.of Oy2.1⟩, fun lv hlv => ?_⟩
  refine lc_filtI (K := K) (a := y2) (ns := M od.length) (fun m => !decide (m = 0)) (by omega) hlv (SqL.of Oy2.1) (fun j x G1 Y B hx sG h => ?_) (fun G1 s1 klv => ?_)
  · refine ⟨rfl, _, rfl, rfl, _, rfl, ?_⟩
    exact tst (by rw [dec_ii]) (fun y => ⟨_, rfl, y⟩) h
  obtain ⟨lv2, elv⟩ : ∃ lv2, lv2 = (M od.length).filter fun m => !decide (m = 0) := ⟨_, rfl⟩
  rw [← elv] at klv
  have mlv : ∀ m, m ∈ lv2 ↔ m ∈ rsJ n od od.length ∧ m ≠ 0 := fun m => by rw [elv, eM, List.mem_filter]; simp
  have ndl : lv2.Nodup := by rw [elv, eM]; exact rsJ_nd.filter _
  have llv : lv2.length ≤ 60 := by rw [elv]; exact Nat.le_trans (List.length_filter_le _ _) lMk
  have ilv : (i : Int) ∈ lv2 := (mlv _).mpr ⟨iM, by have := X.i0; omega⟩
  have lp : 0 < lv2.length := List.length_pos_iff.mpr fun z => by rw [z] at ilv; exact absurd ilv List.not_mem_nil
  refine ⟨_, rfl, sa, ns, 5, rfl, s1.seq hS', by decide, bits, fun c5 _ => ⟨_, _, rfl, rfl, ⟨by decide, by decide⟩, _, rfl, lv, _, rfl, .inl (SqL.of klv), _, _, rfl, rfl, (by show (0 : Int) < (((lv2.map V.int).length : Nat) : Int); rw [List.length_map]; omega), ?_⟩⟩
  obtain ⟨k, ek⟩ : ∃ k : Int, k = c5 / 4 % (((lv2.map V.int).length : Nat) : Int) := ⟨_, rfl⟩
  have k0 : 0 ≤ k := by rw [ek]; exact Int.emod_nonneg _ (by rw [List.length_map]; omega)
  have k1 : k < (((lv2.map V.int).length : Nat) : Int) := by rw [ek]; exact Int.emod_lt_of_pos _ (by rw [List.length_map]; omega)
  show gName 12 (V.int (c5 / 4 % (((lv2.map V.int).length : Nat) : Int))) _ _ _
  rw [← ek]
  have W1' := W'.same s1
  have at0' := W1'.at1 h0'
  refine ⟨_, rfl, L, _, _, _, rfl, rfl, SqL.of W1'.at_, at0', _, rfl, _, rfl, _, rfl, _, rfl, _, rfl, _, rfl, lv, _, rfl, SqL.of klv, fun x1 hx1 => ?_⟩
  rw [cut_drop k0 (by omega)]
  have v1 := same_upd (o := .lst ((lv2.map V.int).drop k.toNat)) hx1
  refine ⟨_, rfl, _, rfl, _, rfl, lv, _, rfl, SqL.of (v1 _ _ klv), fun x2 hx2 => ?_⟩
  rw [cut_take k0 (by omega)]
  have v2 := same_upd (o := .lst ((lv2.map V.int).take k.toNat)) hx2
  refine ⟨x1, x2, _, _, rfl, rfl, v2 _ _ upd_same, upd_same, ?_, fun x3 hx3 => ?_⟩
  · rw [List.length_drop, List.length_take, List.length_map]
    exact Nat.le_trans (show _ ≤ 2000 by omega) (by decide)
  have eP : (lv2.map V.int).drop k.toNat ++ (lv2.map V.int).take k.toNat = (lv2.drop k.toNat ++ lv2.take k.toNat).map V.int := by rw [List.map_append, List.map_drop, List.map_take]
  rw [eP]
  have pP : (lv2.drop k.toNat ++ lv2.take k.toNat).Perm lv2 := by
    refine List.perm_append_comm.trans ?_
    rw [List.take_append_drop]
  obtain ⟨ys, ey⟩ : ∃ ys, ys = lv2.drop k.toNat ++ lv2.take k.toNat := ⟨_, rfl⟩
  rw [← ey] at pP
  rw [← ey]
  have v3 := same_upd (o := .lst (ys.map V.int)) hx3
  have s14 := ((s1.trans v1).trans v2).trans v3
  have S14 := S'.trans (StG.ofSame s14)
  have lod := nd_len X.ndo (fun m hm => by have := X.bo m hm; omega : ∀ m ∈ od, 0 ≤ m ∧ m < n)
  have lop := List.length_pos_iff.mpr X.ne
  refine ⟨L, n, (i : Int), b, a0, p0, cs', ma, aa, hx, x3, as, M, od.length + 1, aks, (i : Int) :: ht, ys, rfl, W'.same s14, h0', X.g0, OM.step S14, by omega, by omega, Oa.step S14, Oh'.same s14, OutL.ofNew W' (((s1.trans v1).trans v2).free hx3) upd_same, X.k0, X.s0, by rw [X.r0]; omega, by rw [X.b0]; congr 1; omega, X.ps0, pP.nodup_iff.mpr ndl, by rw [pP.length_eq]; exact llv, fun m hm => ?_, fun m => ?_, pP.mem_iff.mpr ilv, List.mem_cons_self .., q⟩
  · have h1 := (mlv m).mp (pP.mem_iff.mp hm)
    have h2 := (rsJ_mem.mp h1.1).1
    omega
  · rw [X.rs0, pP.mem_iff, mlv]
    constructor
    · intro h
      by_cases e : m = 0
      · exact .inl e
      · exact .inr ⟨h, e⟩
    · rintro (e | h)
      · rw [e]
        exact rsJ_mem.mpr ⟨⟨by omega, by have := X.n5; omega⟩, fun z => by have := X.bo 0 (List.mem_of_mem_take z); omega⟩
      · exact h.1
end

end G0
namespace G0
open PySem PySem.Spec PyProof.Rows L2 NdefX ClX
set_option maxHeartbeats 8000000
section
variable {P : Program} {w : World} {K : PySem.W.Frag} {mg : Str → Option Value} {base : Heap} {C CK : Addr}
/-! ### a row of new callers -/
def newP (n b m : Int) : Cp := ⟨"out", 0, rangeI n, fun _ => 0, if m = b then some ⟨0, freshS n, []⟩ else none, .non, []⟩
structure RowP (K : PySem.W.Frag) (H0 H : Hp) (C CK D : Addr) (n b : Int) (cs : List (Ad × Cp)) : Prop where
  at_ : H D = some (.lst ((cs.map (·.1.o)).map V.ref))
  all : ∀ (i : Nat) c, cs[i]? = some c → CgAt K H C CK n (i : Int) c.1 c.2 ∧ c.2 = newP n b (i : Int)
  dj : ∀ (i j : Nat) c c', cs[i]? = some c → cs[j]? = some c' → i ≠ j → ∀ x ∈ fpG c.1 c.2, x ∉ fpG c'.1 c'.2
  lf : ∀ c ∈ cs, D ∉ fpG c.1 c.2
  nf : ∀ c ∈ cs, ∀ x ∈ fpG c.1 c.2, H0 x = none
theorem RowP.row {H0 H : Hp} {D : Addr} {n b : Int} {cs : List (Ad × Cp)} (R : RowP K H0 H C CK D n b cs) (l : cs.length = n.toNat) : RowG K H C CK D n cs := ⟨R.at_, l, fun i c e => (R.all i c e).1, R.dj, R.lf⟩
theorem RowP.snoc {H0 G H' : Hp} {D y dy ro nu pl : Addr} {key : V} {n b : Int} {cs : List (Ad × Cp)} (n2 : 2 ≤ n) (R : RowP K H0 G C CK D n b cs) (s0 : Same H0 G) (s : Same G H') (y0 : G y = none) (ro0 : G ro = none) (nu0 : G nu = none) (pl0 : G pl = none)
    (A : CalAt H' C y dy (cs.length : Int) "out" 0 ro nu key .non pl (rangeI n) (zeros n) []) (F : FreshKey H' CK n key (decide ((cs.length : Int) = b)) (fun l => G l = none)) :
    ∃ a : Ad, a.o = y ∧ RowP K H0 (upd H' D (.lst (((cs ++ [(a, newP n b (cs.length : Int))]).map (·.1.o)).map V.ref))) C CK D n b (cs ++ [(a, newP n b (cs.length : Int))]) := by
  have rn : ro ≠ nu := fun e => by
    have h1 := A.hn
    rw [← e, A.hr, zeros_F] at h1
    have h2 := Option.some.inj h1
    injection h2 with h3
    have h4 := congrArg (fun z : List V => z[1]?) h3
    unfold msF at h4
    simp only [List.getElem?_map] at h4
    rw [rangeI_at (n := n) (j := 1) (by omega)] at h4
    simp at h4
  rw [zeros_F] at A
  obtain ⟨a, eo, CA, fr⟩ : ∃ a : Ad, a.o = y ∧ CgAt K H' C CK n (cs.length : Int) a (newP n b (cs.length : Int)) ∧ ∀ x ∈ fpG a (newP n b (cs.length : Int)), G x = none := by
    unfold FreshKey at F
    by_cases c : (cs.length : Int) = b
    · rw [decide_eq_true c, if_pos rfl] at F
      obtain ⟨k, dk, d, l, rfl, KA, zl, zk, zd⟩ := F
      have ek : (newP n b (cs.length : Int)).key = some ⟨0, freshS n, []⟩ := if_pos c
      refine ⟨⟨y, dy, ro, nu, pl, k, dk, d, l⟩, rfl, ⟨⟨[], ?_, .nil⟩, fun y2 e2 => ?_, rn⟩, fun x hx => ?_⟩
      · have : keyG ⟨y, dy, ro, nu, pl, k, dk, d, l⟩ (newP n b (cs.length : Int)) = .ref k := by unfold keyG; rw [ek]
        rw [this]
        exact A
      · rw [ek] at e2
        cases e2
        refine ⟨KA, fun z => ?_, fun z => ?_, fun z => ?_, by rw [freshS_fst]; exact rangeI_up⟩
        · have h1 := KA.hd
          rw [show d = pl from z, A.hpl] at h1
          have h2 := Option.some.inj h1
          injection h2 with h3
          have h4 := congrArg List.length h3
          unfold freshS at h4
          rw [List.length_map, List.length_map, rangeI_len, List.length_nil] at h4
          omega
        · have h1 := KA.hl
          rw [show l = nu from z, A.hn] at h1
          have h2 := Option.some.inj h1
          injection h2 with h3
          have h4 := congrArg List.length h3
          rw [List.length_map, msF_len, List.length_map, List.length_nil] at h4
          omega
        · have h1 := KA.hl
          rw [show l = ro from z, A.hr] at h1
          have h2 := Option.some.inj h1
          injection h2 with h3
          have h4 := congrArg List.length h3
          rw [List.length_map, rangeI_len, List.length_map, List.length_nil] at h4
          omega
      · unfold fpG fpK at hx
        rw [ek] at hx
        simp only [List.mem_append, List.mem_cons, List.not_mem_nil, or_false] at hx
        rcases hx with (e | e | e | e) | e | e | e <;> rw [e] <;> assumption
    · rw [decide_eq_false c, if_neg (by decide)] at F
      subst F
      have ek : (newP n b (cs.length : Int)).key = none := if_neg c
      refine ⟨⟨y, dy, ro, nu, pl, y, y, y, y⟩, rfl, ⟨⟨[], ?_, .nil⟩, fun y2 e2 => ?_, rn⟩, fun x hx => ?_⟩
      · have : keyG ⟨y, dy, ro, nu, pl, y, y, y, y⟩ (newP n b (cs.length : Int)) = .non := by unfold keyG; rw [ek]
        rw [this]
        exact A
      · rw [ek] at e2; cases e2
      · unfold fpG fpK at hx
        rw [ek] at hx
        simp only [List.mem_append, List.mem_cons, List.not_mem_nil, or_false] at hx
        rcases hx with e | e | e | e <;> rw [e] <;> assumption
  have kD := s _ _ R.at_
  have nD : D ∉ fpG a (newP n b (cs.length : Int)) := fun h => by have h1 := R.at_; rw [fr D h] at h1; cases h1
  have alc : ∀ {j : Nat} {c : Ad × Cp}, cs[j]? = some c → ∀ x ∈ fpG c.1 c.2, G x ≠ none := fun hj x hx => (R.all _ _ hj).1.al x hx
  have ix : ∀ {i : Nat} {c : Ad × Cp}, (cs ++ [(a, newP n b (cs.length : Int))])[i]? = some c → (cs[i]? = some c ∧ i < cs.length) ∨ (i = cs.length ∧ c = (a, newP n b (cs.length : Int))) := fun {i c} e => by
    rcases Nat.lt_or_ge i cs.length with l | l
    · rw [List.getElem?_append_left l] at e
      exact .inl ⟨e, l⟩
    · rw [List.getElem?_append_right l] at e
      cases z : i - cs.length with
      | zero => rw [z] at e; simp at e; exact .inr ⟨by omega, e.symm⟩
      | succ u => rw [z] at e; simp at e
  have put : ∀ {i : Int} {c : Ad} {p : Cp}, CgAt K H' C CK n i c p → D ∉ fpG c p → CgAt K (upd H' D (.lst (((cs ++ [(a, newP n b (cs.length : Int))]).map (·.1.o)).map V.ref))) C CK n i c p := fun B nd => B.keep (fun x hx o e => (upd_ne (fun z => nd (by rw [← z]; exact hx))).trans e) fun x xs q => by
    rcases q with (z | ⟨o', z⟩) | z
    · exact .inl (.inl ((upd_ne (ne_of z kD (by intro z; cases z))).trans z))
    · exact .inl (.inr ⟨o', (upd_ne (ne_of z kD (by intro z; cases z))).trans z⟩)
    · exact .inr z
  refine ⟨a, eo, upd_same, fun i c e => ?_, fun i j c c' hi hj ne x hx => ?_, fun c hc => ?_, fun c hc x hx => ?_⟩
  · rcases ix e with ⟨e, l⟩ | ⟨rfl, rfl⟩
    · obtain ⟨B, ep⟩ := R.all i c e
      exact ⟨put (B.same s) (R.lf c (List.mem_of_getElem? e)), ep⟩
    · exact ⟨put CA nD, rfl⟩
  · rcases ix hi with ⟨hi, l⟩ | ⟨rfl, rfl⟩ <;> rcases ix hj with ⟨hj, l2⟩ | ⟨rfl, rfl⟩
    · exact R.dj i j c c' hi hj ne x hx
    · exact fun z => alc hi x hx (fr x z)
    · exact fun z => alc hj x z (fr x hx)
    · omega
  · rcases List.mem_append.mp hc with z | z
    · exact R.lf c z
    · rw [List.mem_singleton.mp z]; exact nD
  · rcases List.mem_append.mp hc with z | z
    · exact R.nf c z x hx
    · rw [List.mem_singleton.mp z] at hx
      exact s0.free (fr x hx)
end

end G0
namespace G0
open PySem PySem.Spec PyProof.Rows L2 NdefX ClX
set_option maxHeartbeats 8000000
theorem FreshKey.mono {H : Hp} {CK : Addr} {n : Int} {key : V} {b : Bool} {Z Z' : Addr → Prop} (h : FreshKey H CK n key b Z) (z : ∀ l, Z l → Z' l) : FreshKey H CK n key b Z' := by
  unfold FreshKey at h ⊢
  cases b with
  | true =>
    rw [if_pos rfl] at h ⊢
    obtain ⟨k, dk, d, l, e, A, zl, zk, zd⟩ := h
    exact ⟨k, dk, d, l, e, A, z l zl, z k zk, z d zd⟩
  | false => exact h
section
variable {P : Program} {w : World} {K : PySem.W.Frag} {mg : Str → Option Value} {base : Heap} {C CK : Addr}
theorem ask_at {H : Hp} {n i : Int} {a : Ad} {p : Cp} {q : Addr} {Q : VK} (eo : a.o = q) (B : CgAt K H C CK n i a p) (G : GoodG n i p) (h : RetG K C CK n i H a p Q (askG i p)) : spAskC K C (V.ref q :: ([] ++ [])) H Q E0 := by
  subst eo
  exact askC_of (E := E0) B G h
theorem RowG.retI {H : Hp} {L : Addr} {n m : Int} {cs : List (Ad × Cp)} {a : Ad} {p : Cp} {Q : VK} {R : Cp × List PyData} (W : RowG K H C CK L n cs) (m0 : 0 ≤ m) (hi : cs[m.toNat]? = some (a, p))
    (h : ∀ z zs a' H', RowG K H' C CK L n (cs.set m.toNat (a', R.1)) → StG cs H (cs.set m.toNat (a', R.1)) H' → a'.o = a.o → (∀ c ∈ cs.set m.toNat (a', R.1), z ∉ fpG c.1 c.2) → H' z = some (.lst zs) → DpAll K H' zs R.2 → Q (.ref z) H') : RetG K C CK n m H a p Q R := by
  have := W.ret hi h
  rwa [show ((m.toNat : Nat) : Int) = m by omega] at this
theorem RowG.allI {H : Hp} {L : Addr} {n m : Int} {cs : List (Ad × Cp)} {c : Ad × Cp} (W : RowG K H C CK L n cs) (m0 : 0 ≤ m) (hi : cs[m.toNat]? = some c) : CgAt K H C CK n m c.1 c.2 := by
  have := W.all m.toNat c hi
  rwa [show ((m.toNat : Nat) : Int) = m by omega] at this
theorem RowG.atm {H : Hp} {L : Addr} {n m : Int} {cs : List (Ad × Cp)} {a : Ad} {p : Cp} (W : RowG K H C CK L n cs) (m0 : 0 ≤ m) (hi : cs[m.toNat]? = some (a, p)) : atI ((cs.map (·.1.o)).map V.ref) m = some (.ref a.o) := by
  have := W.at1 hi
  rwa [show ((m.toNat : Nat) : Int) = m by omega] at this
theorem srv_pairs1 {ms : List Int} {b : Int} : srvS (pairsOf ms []) b 1 = pairsOf ms [b] := by
  unfold srvS pairsOf
  rw [List.map_map]
  refine List.map_congr_left fun m _ => ?_
  show (if (m, wantsI [] m).1 = b then (b, 1) else (m, wantsI [] m)) = (m, wantsI [b] m)
  unfold wantsI
  by_cases c : m = b
  · rw [if_pos c, c, if_pos (by simp)]
  · rw [if_neg c, if_neg (by simp), if_neg (by simp [c])]
theorem pairs_bb {ms : List Int} {b : Int} : pairsOf ms [b, b] = pairsOf ms [b] := by
  unfold pairsOf
  refine List.map_congr_left fun m _ => ?_
  unfold wantsI
  simp
theorem fresh_pairs {n : Int} : freshS n = pairsOf (rangeI n) [] := by
  unfold freshS pairsOf wantsI
  simp
theorem line_first {n b : Int} {el : List Int} {f : Int → Int} (b0 : 0 ≤ b) (b1 : b < n) (be : b ∉ el) (f0 : ∀ m, m ≠ b → f m = 0) (fb : f b = 1) :
    lineUp b (rangeI n) (msF n (heardF b f el)) (pairsOf (rangeI n) [b]) [] = rndF n b fun m => decide (m ∈ el) := by
  have r0 : rsJ n [] 0 = rangeI n := List.filter_eq_self.mpr fun m _ => by simp
  have h := line_eq (n := n) (b := b) (i := b) (od := []) (ls := []) (hd := el) (rs := rangeI n) (f := f) (k := 0) b0 b1 (.inl rfl) (fun m hm => absurd hm List.not_mem_nil) f0 fb be be
  rw [r0, pairs_bb] at h
  refine h.trans ?_
  rw [List.nil_append, List.filter_filter]
  refine List.filter_eq_self.mpr fun m hm => ?_
  have := (rndF_mem b0 b1).mp hm
  simp
  exact rangeI_mem.mpr this.1
structure BlL0 (mg : Str → Option Value) : Prop extends BlT0 mg where
  list : mg "list" = none
def spLaw (K : PySem.W.Frag) : Sp := fun vs H Q _ => ∃ (a : Addr) (ns : List Int), vs = [.ref a] ∧ SqL K H a (ns.map V.int) ∧ (∀ z ∈ ns, Builtin.Int.intBits z ≤ 1048576) ∧ ∀ H', Q (.bl true) H'
def askP (n b m : Int) : Cp := { newP n b m with st := "asking", f := updI (fun _ => 0) m 1 }
theorem sc_law : FnScope ["script", "seats", "begins", "others", "seat", "early", "late", "askers", "ones", "me", "to", "ahead", "key", "order", "members"] ["script"] (defScope s_law) :=
  ⟨rfl, rfl, rfl, by decide +kernel, rfl, by decide +kernel, by decide +kernel⟩
theorem ok_law (F : Fn K mg "law" s_law) (T : BlL0 mg) (S : CalT K C) (MC : MkC P w K mg base C CK) (C_cell_at : Cal P w K mg base "_law_cell_at" 1 ["script", "k"] (spCell K)) (C_bits : Cal P w K mg base "_law_bits" 1 ["cell"] spBits) (C_among : Cal P w K mg base "_law_among" 1 ["bits", "seats"] (spAmong K))
    (C_round_from : Cal P w K mg base "_law_round_from" 1 ["seats", "me", "some"] (spRound K)) (C_pairs : Cal P w K mg base "_law_pairs" 1 ["members", "gone_in"] (spPairs0 K)) (C_heard : Cal P w K mg base "_law_heard" 6 ["one", "some", "state"] (spHeard0 K C CK)) (C_begun : Cal P w K mg base "_law_begun" 6 ["one", "order", "seats", "askers"] (spBegun K C CK))
    (C_held : Cal P w K mg base "_law_held" 6 ["one", "members", "gone_in", "line"] (spHeld K C CK)) (C_dead : Cal P w K mg base "_law_dead" 2 ["seats", "keep", "bits", "turned"] (spDead K)) (C_end : Cal P w K mg base "_law_end" 8 ["ones", "holders", "line", "order", "members", "askers", "script"] (spEnd K C CK))
    (MA : Me P w K mg base C "ask" 2 ["self"] (spAskC K C)) (ML : Me P w K mg base C "leave" 4 ["self"] (spLeaveC K C CK)) (MH : Me P w K mg base C "hear" 5 ["self", "sender", "letter"] (spHearG K C CK)) : Cal P w K mg base "law" 9 ["script"] (spLaw K) := by
  obtain ⟨fA, fdA, GA, bA, mA⟩ := MA
  obtain ⟨fL, fdL, GL, bL, mL⟩ := ML
  obtain ⟨fH, fdH, GH, bH, mH⟩ := MH
  obtain ⟨fC, fdC, dsC, GC, rC, bC, kC, MI⟩ := MC.made
  have gC := MC.mg
  refine cal_of F sc_law
    (fun _ _ _ _ _ _ us hl => match us, hl with | [_], _ => rfl) ?_ ?_
  · rintro vs H Q E ⟨a, ns, rfl, _⟩
    rfl
  rintro f cdv A outer s H vs Q E free hr ⟨sa, ns, rfl, hS, bits, q⟩
  have hr5 : Room 5 _ := hr.mono (by decide)
  have hr4 : Room 4 _ := hr.mono (by decide)
  have hr2 : Room 2 _ := hr.mono (by decide)
-- [(0, 'script'), (1, 'seats'), (2, 'begins'), (3, 'others'), (4, 'seat'), (5, 'early'), (6, 'late'), (7, 'askers'), (8, 'ones'), (9, 'me'), (10, 'to'), (11, 'ahead'), (12, 'key'), (13, 'order'), (14, 'members')]
  refine ⟨_, (pss_cons (ps_set (i := 1) sc_law.nd rfl (Or.inr rfl) (pe_op op_add pe_int (pe_op op_mod (pe_cal C_cell_at free (hr.mono (by decide)) (pa_cons (pv 0) (pa_cons pe_int pa_nil))) pe_int)))
    (pss_cons (ps_set (i := 2) sc_law.nd rfl (Or.inr rfl) (pe_op op_add pe_int (pe_op op_mod (pe_cal C_cell_at free (hr.mono (by decide)) (pa_cons (pv 0) (pa_cons pe_int pa_nil))) (pe_op op_sub (pv 1) pe_int))))
    (pss_cons (ps_setLc (i := 3) (own := [("seat", 4)]) (g := gName 4)  (by rfl) sc_law.nd rfl rfl (sw_true rfl rfl rfl (by decide +kernel)) (pi_range2 (by rfl) T.range (pa_cons pe_int (pa_cons (pv 1) pa_nil))) (blkOk_by (N := ["script", "seats", "begins", "others", "seat", "early", "late", "askers", "ones", "me", "to", "ahead", "key", "order", "members"]) (sc := defScope s_law) (by decide +kernel)) (fun _ _ _ _ _ => pg_name (i := 4) sc_law.nd rfl (Or.inl rfl)) (fun _ _ _ _ _ => pts_one (pt_cmpR op_ne (pv 4) (pv 2) (nomark _))) (fun _ _ _ _ _ => (pv 4)))
    (pss_cons (ps_set (i := 5) sc_law.nd rfl (Or.inr rfl) (pe_cal C_among free (hr.mono (by decide)) (pa_cons (pe_cal C_bits free (hr.mono (by decide)) (pa_cons (pe_cal C_cell_at free (hr.mono (by decide)) (pa_cons (pv 0) (pa_cons pe_int pa_nil))) pa_nil)) (pa_cons (pv 3) pa_nil))))
    (pss_cons (ps_if (pt_cmpR (op_eqD (u64 hr)) (pv 5) (pe_lst pa_nil) (nomark _))
    (pss_one (ps_set (i := 5) sc_law.nd rfl (Or.inr rfl) (pe_lst (pa_cons (pe_op op_add pe_int (pe_op op_mod (pv 2) (pe_op op_sub (pv 1) pe_int))) pa_nil))))
    pss_nil)
    (pss_cons (ps_set (i := 6) sc_law.nd rfl (Or.inl rfl) (pe_cal C_among free (hr.mono (by decide)) (pa_cons (pe_cal C_bits free (hr.mono (by decide)) (pa_cons (pe_cal C_cell_at free (hr.mono (by decide)) (pa_cons (pv 0) (pa_cons pe_int pa_nil))) pa_nil)) (pa_cons (pv 3) pa_nil))))
    (pss_cons (ps_set (i := 7) sc_law.nd rfl (Or.inl rfl) (pe_op op_cat (pv 5) (pe_lc (own := [("seat", 4)]) (g := gName 4)  (by rfl) sc_law.nd (pi_list (pv 6)) (blkOk_by (N := ["script", "seats", "begins", "others", "seat", "early", "late", "askers", "ones", "me", "to", "ahead", "key", "order", "members"]) (sc := defScope s_law) (by decide +kernel)) (fun _ _ _ _ _ => pg_name (i := 4) sc_law.nd rfl (Or.inl rfl)) (fun _ _ _ _ _ => pts_one (pt_cmpR (u_notinK K) (pv 4) (pv 5) (by rfl))) (fun _ _ _ _ _ => (pv 4)))))
    (pss_cons (ps_setLc (i := 8) (own := [("me", 9)]) (g := gName 9) (tt := tYes) (by rfl) sc_law.nd rfl rfl (sw_true rfl rfl rfl (by decide +kernel)) (pi_range1 (by rfl) T.range (pa_cons (pv 1) pa_nil)) (blkOk_by (N := ["script", "seats", "begins", "others", "seat", "early", "late", "askers", "ones", "me", "to", "ahead", "key", "order", "members"]) (sc := defScope s_law) (by decide +kernel)) (fun _ _ _ _ _ => pg_name (i := 9) sc_law.nd rfl (Or.inl rfl)) (fun _ _ _ _ _ => pts_nil) (fun _ _ _ _ _ => (pe_makeK MI GC hr4 (by rfl) gC kC pass0 (pa_cons (pv 9) (pa_cons (pv 1) pa_nil)) (pk_cons (pv 2) pk_nil))))
    (pss_cons (ps_if (PW.pt (pw_or (pt_cmpR (op_neD (u64 hr)) (pe_meth0 (pe_ix ix_list (pv 8) (pv 2) (fun _ _ => rfl)) S.cl mA GA hr2 bA .nil pass0) (pe_lst pa_nil) (nomark _)) (pw_or1 (pt_not (pt_val (pe_cal C_heard free (hr.mono (by decide)) (pa_cons (pe_ix ix_list (pv 8) (pv 2) (fun _ _ => rfl)) (pa_cons (pv 5) (pa_cons pe_str pa_nil)))))))))
    (pss_one (ps_ret pe_bl))
    pss_nil)
    (pss_cons (ps_for PassesOwn.never rfl (pi_list (pv 7)) (pg_name (i := 4) sc_law.nd rfl (Or.inr rfl))
    (pss_one (ps_if (pt_cmpR (op_neD (u64 hr)) (pe_meth0 (pe_ix ix_list (pv 8) (pv 4) (fun _ _ => rfl)) S.cl mA GA hr2 bA .nil pass0) (pe_lc (own := [("to", 10)]) (g := gName 10)  (by rfl) sc_law.nd (pi_range1 (by rfl) T.range (pa_cons (pv 1) pa_nil)) (blkOk_by (N := ["script", "seats", "begins", "others", "seat", "early", "late", "askers", "ones", "me", "to", "ahead", "key", "order", "members"]) (sc := defScope s_law) (by decide +kernel)) (fun _ _ _ _ _ => pg_name (i := 10) sc_law.nd rfl (Or.inl rfl)) (fun _ _ _ _ _ => pts_one (pt_cmpR op_ne (pv 10) (pv 4) (nomark _))) (fun _ _ _ _ _ => (pe_tup (pa_cons (pv 10) (pa_cons (pe_tup (pa_cons pe_str (pa_cons pe_int pa_nil))) pa_nil))))) (nomark _))
    (pss_one (ps_ret pe_bl))
    pss_nil)))
    (pss_cons (ps_set (i := 11) sc_law.nd rfl (Or.inl rfl) (pe_cal C_round_from free (hr.mono (by decide)) (pa_cons (pv 1) (pa_cons (pv 2) (pa_cons (pv 5) pa_nil)))))
    (pss_cons (ps_set (i := 9) sc_law.nd rfl (Or.inl rfl) (pe_ix ix_list (pv 11) pe_int (fun _ _ => rfl)))
    (pss_cons (ps_set (i := 12) sc_law.nd rfl (Or.inl rfl) (pe_tup (pa_cons pe_int (pa_cons (pe_cal C_pairs free (hr.mono (by decide)) (pa_cons (pe_listRg (by rfl) (by rfl) T.list (prg_1 (by rfl) T.range (pv 1))) (pa_cons (pe_lst (pa_cons (pv 2) pa_nil)) pa_nil))) (pa_cons (pe_callTy call_tuple_of (by rfl) T.tuple (by decide +kernel) (pa_cons (pe_slice sl_list (pv 11) (po_some pe_int) po_none) pa_nil)) pa_nil)))))
    (pss_cons (ps_if (PW.pt (pw_or (pt_cmpR (op_neD (u64 hr)) (pe_meth0 (pe_ix ix_list (pv 8) (pv 2) (fun _ _ => rfl)) S.cl mL GL hr4 bL .nil pass0) (pe_lst (pa_cons (pe_tup (pa_cons (pv 9) (pa_cons (pe_op op_catA (pe_tup (pa_cons pe_str pa_nil)) (pv 12)) pa_nil))) pa_nil)) (nomark _)) (pw_or1 (pt_cmpR (op_neD (u64 hr)) (pe_meth (pe_ix ix_list (pv 8) (pv 9) (fun _ _ => rfl)) S.cl mH GH hr5 bH .nil pass0 (pa_cons (pv 2) (pa_cons (pe_op op_catA (pe_tup (pa_cons pe_str pa_nil)) (pv 12)) pa_nil))) (pe_lst pa_nil) (nomark _)))))
    (pss_one (ps_ret pe_bl))
    pss_nil)
    (pss_cons (ps_set (i := 13) sc_law.nd rfl (Or.inl rfl) (pe_cal C_dead free (hr.mono (by decide)) (pa_cons (pv 1) (pa_cons (pv 9) (pa_cons (pe_cal C_bits free (hr.mono (by decide)) (pa_cons (pe_cal C_cell_at free (hr.mono (by decide)) (pa_cons (pv 0) (pa_cons pe_int pa_nil))) pa_nil)) (pa_cons (pe_cmpR op_eq (pe_op op_mod (pe_cal C_cell_at free (hr.mono (by decide)) (pa_cons (pv 0) (pa_cons pe_int pa_nil))) pe_int) pe_int (nomark _)) pa_nil))))))
    (pss_cons (ps_set (i := 14) sc_law.nd rfl (Or.inl rfl) (pe_cal C_begun free (hr.mono (by decide)) (pa_cons (pe_ix ix_list (pv 8) pe_int (fun _ _ => rfl)) (pa_cons (pv 13) (pa_cons (pv 1) (pa_cons (pv 7) pa_nil))))))
    (pss_cons (ps_if (PW.pt (pw_or (pt_cmpR op_isN (pv 14) pe_non (nomark _)) (pw_or1 (pt_not (pt_val (pe_cal C_held free (hr.mono (by decide)) (pa_cons (pe_ix ix_list (pv 8) (pv 9) (fun _ _ => rfl)) (pa_cons (pv 14) (pa_cons (pe_lst (pa_cons (pv 2) pa_nil)) (pa_cons (pe_slice sl_list (pv 11) (po_some pe_int) po_none) pa_nil))))))))))
    (pss_one (ps_ret pe_bl))
    pss_nil)
    (pss_one (ps_ret (pe_cal C_end free (hr.mono (by decide)) (pa_cons (pv 8) (pa_cons (pe_lst (pa_cons (pv 2) (pa_cons (pv 9) pa_nil))) (pa_cons (pe_slice sl_list (pv 11) (po_some pe_int) po_none) (pa_cons (pv 13) (pa_cons (pv 14) (pa_cons (pv 7) (pa_cons (pv 0) pa_nil))))))))))))))))))))))))))), ?_⟩
  refine ⟨_, rfl, sa, ns, 0, rfl, hS, by decide, bits, fun c0 _ => ⟨_, _, rfl, rfl, (by show (0 : Int) < 56; decide), _, _, rfl, rfl, ?_⟩⟩
  show gName 1 (V.int (5 + c0 % 56)) _ H _
  obtain ⟨n, hn⟩ : ∃ n : Int, n = 5 + c0 % 56 := ⟨_, rfl⟩
  have n5 : 5 ≤ n := by have := Int.emod_nonneg c0 (show (56 : Int) ≠ 0 by decide); omega
  have n60 : n ≤ 60 := by have := Int.emod_lt_of_pos c0 (show (0 : Int) < 56 by decide); omega
  rw [← hn]
  clear hn
  refine ⟨_, rfl, sa, ns, 1, rfl, hS, by decide, bits, fun c1 _ => ⟨_, rfl, _, _, rfl, rfl, _, _, rfl, rfl, (by show (0 : Int) < n - 1; omega), _, _, rfl, rfl, ?_⟩⟩
  show gName 2 (V.int (1 + c1 % (n - 1))) _ H _
  obtain ⟨b, hb⟩ : ∃ b : Int, b = 1 + c1 % (n - 1) := ⟨_, rfl⟩
  have b1 : 1 ≤ b := by have := Int.emod_nonneg c1 (show n - 1 ≠ 0 by omega); omega
  have bn : b < n := by have := Int.emod_lt_of_pos c1 (show 0 < n - 1 by omega); omega
  rw [← hb]
  clear hb
  refine ⟨_, rfl, 1, _, rfl, ⟨by decide, by decide, by omega, by omega⟩, fun D hD => ?_⟩
  refine lc_range (lo := 1) (n := (n - 1).toNat) (fun i G => Same H G ∧ G D = some (.lst ((othR ((rgI 1 n).take i) b).map V.int))) ⟨same_upd hD, upd_same⟩ ?_ ?_
  · rintro i G hi ⟨sG, kD⟩
    have er := rgI_at (a := 1) (b := n) (j := i) (by omega)
    refine ⟨rfl, _, rfl, _, rfl, rfl, _, rfl, ?_⟩
    rw [dec_ii]
    have nx : othR ((rgI 1 n).take (i + 1)) b = othR ((rgI 1 n).take i) b ++ (if (!decide (1 + (i : Int) = b)) = true then [1 + (i : Int)] else []) := filt_next _ er
    rw [nx]
    refine ite2 (fun c4 => ?_) (fun c4 => ?_)
    · rw [if_pos c4]
      refine ⟨_, rfl, _, kD, ?_, fun a o e => ?_, ?_⟩
      · rw [List.length_map]
        refine Nat.lt_of_le_of_lt (List.length_filter_le _ _) ?_
        rw [List.length_take]
        exact Nat.lt_of_lt_of_le (show _ < 100 by omega) (by decide)
      · rw [upd_ne (ne_of_none e hD)]
        exact sG _ _ e
      · rw [List.map_append]
        exact upd_same
    · rw [if_neg c4, List.append_nil]
      exact ⟨sG, kD⟩
  rintro G1 ⟨s1, kD⟩
  rw [List.take_of_length_le (by rw [rgI_len]; first | exact Nat.le_refl _ | omega)] at kD
  obtain ⟨ot, eot⟩ : ∃ ot, ot = othR (rgI 1 n) b := ⟨_, rfl⟩
  rw [← eot] at kD
  have bO : ∀ m ∈ ot, 1 ≤ m ∧ m < n ∧ m ≠ b := fun m hm => by
    rw [eot] at hm
    have h1 := List.mem_filter.mp hm
    have h2 := rgI_mem.mp h1.1
    exact ⟨h2.1, h2.2, by simpa using h1.2⟩
  have ndO : ot.Nodup := by rw [eot]; exact rgI_nd.filter _
  have lO : ot.length ≤ 60 := by
    have := nd_len ndO (fun m hm => by have := bO m hm; omega : ∀ m ∈ ot, 0 ≤ m ∧ m < n)
    omega
  refine ⟨_, rfl, sa, ns, 2, rfl, s1.seq hS, by decide, bits, fun c2 _ => ⟨c2, rfl, fun b2 => ⟨_, rfl, b2, D, ot, rfl, kD, by omega, fun x hx => by have := bO x hx; omega, fun e0 G2 s2 he0 ke0 => ?_⟩⟩⟩
  have s02 := s1.trans s2
  have kD2 := s2 _ _ kD
  apply goJ (fun σ G => ∃ (ea : Addr) (el : List Int), σ = [some (V.ref sa), some (V.int n), some (V.int b), some (V.ref D), none, some (V.ref ea), none, none, none, none, none, none, none, none, none] ∧ Same G2 G ∧ H ea = none ∧ G ea = some (.lst (el.map V.int)) ∧ el ≠ [] ∧ el.Nodup ∧ ∀ m ∈ el, 1 ≤ m ∧ m < n ∧ m ≠ b)
  · intro J
    refine ⟨_, rfl, Nat.zero_le _, fun e he => ?_⟩
    have se := same_upd (o := .lst []) he
    refine ⟨.list ((ot.filter (bitB b2)).map PyData.int), .list [], dp_ints (se _ _ ke0), .lst (SqL.of upd_same) .nil, shaped_ints _, by decide, _, rfl, ?_⟩
    rw [eqv_nilI]
    refine ite2 (fun c => ?_) (fun c => ?_)
    · have hm : 0 ≤ b % (n - 1) := Int.emod_nonneg _ (by omega)
      have hl : b % (n - 1) < n - 1 := Int.emod_lt_of_pos _ (by omega)
      have hne : 1 + b % (n - 1) ≠ b := by
        by_cases h : b < n - 1
        · rw [Int.emod_eq_of_lt (by omega) h]; omega
        · have e : b = n - 1 := by omega
          rw [e, Int.emod_self]; omega
      refine ⟨_, rfl, _, rfl, _, _, rfl, rfl, _, _, rfl, rfl, (by show (0 : Int) < n - 1; omega), _, _, rfl, rfl, by show 1 ≤ sizeLine; decide, fun x hx => ?_⟩
      exact J _ _ ⟨x, [1 + b % (n - 1)], rfl, se.trans (same_upd hx), (s02.trans se).free hx, upd_same, by simp, by simp, fun m hm => by rw [List.mem_singleton.mp hm]; omega⟩
    · have c : ot.filter (bitB b2) ≠ [] := fun z => c (decide_eq_true z)
      exact J _ _ ⟨e0, _, rfl, se, s1.free he0, se _ _ ke0, c, ndO.filter _, fun m hm => bO m (List.mem_filter.mp hm).1⟩
  rintro σ G3 ⟨ea, el, rfl, s3, hea, kea, neE, ndE, bE⟩
  have lE : el.length ≤ 60 := by
    have := nd_len ndE (fun m hm => by have := bE m hm; omega : ∀ m ∈ el, 0 ≤ m ∧ m < n)
    omega
  have s03 := s02.trans s3
  refine ⟨_, rfl, sa, ns, 3, rfl, s03.seq hS, by decide, bits, fun c3 _ => ⟨c3, rfl, fun b3 => ⟨_, rfl, b3, D, ot, rfl, s3 _ _ kD2, by omega, fun x hx => by have := bO x hx; omega, fun lt G4 s4 hlt klt => ?_⟩⟩⟩
  have kea4 := s4 _ _ kea
  have s04 := s03.trans s4
  refine ⟨_, rfl, ?_⟩
  obtain ⟨lts, elt⟩ : ∃ lts, lts = ot.filter (bitB b3) := ⟨_, rfl⟩
  rw [← elt] at klt
  have lL : lts.length ≤ 60 := by rw [elt]; exact Nat.le_trans (List.length_filter_le _ _) lO
  refine ⟨_, rfl, lt, rfl, ⟨_, SqL.of klt⟩, fun D2 hD2 => ?_⟩
  refine lc_filtI (K := K) (a := lt) (ns := lts) (fun m => !decide (m ∈ el)) (by omega) hD2 (SqL.of klt) (fun j x G5 Y B hx sG h => ?_) (fun G5 s5 kD5 => ?_)
  · refine ⟨rfl, _, rfl, _, rfl, .inl ⟨ea, _, rfl, .inl (SqL.of (sG _ _ kea4)), rfl, flat_ints _, _, rfl, ?_⟩⟩
    exact tst (by rw [inV_ints]; rfl) (fun y => ⟨_, rfl, y⟩) h
  obtain ⟨l2, el2⟩ : ∃ l2, l2 = lts.filter fun m => !decide (m ∈ el) := ⟨_, rfl⟩
  rw [← el2] at kD5
  have lL2 : l2.length ≤ 60 := by rw [el2]; exact Nat.le_trans (List.length_filter_le _ _) lL
  have kea5 := s5 _ _ kea4
  refine ⟨ea, D2, _, _, rfl, rfl, kea5, kD5, by rw [List.length_map, List.length_map]; exact Nat.le_trans (show _ ≤ 200 by omega) (by decide), fun ak hak => ?_⟩
  rw [← List.map_append]
  obtain ⟨aks, eak⟩ : ∃ aks, aks = el ++ l2 := ⟨_, rfl⟩
  rw [← eak]
  have bA : ∀ m ∈ aks, 1 ≤ m ∧ m < n ∧ m ≠ b := fun m hm => by
    rw [eak] at hm
    rcases List.mem_append.mp hm with h | h
    · exact bE m h
    · rw [el2, elt] at h
      exact bO m (List.mem_filter.mp (List.mem_filter.mp h).1).1
  have ndA : aks.Nodup := by
    rw [eak, List.nodup_append]
    refine ⟨ndE, by rw [el2, elt]; exact (ndO.filter _).filter _, fun x hx y hy e => ?_⟩
    rw [el2] at hy
    have := (List.mem_filter.mp hy).2
    rw [← e] at this
    simp at this
    exact this hx
  have lA : aks.length ≤ 60 := by
    have := nd_len ndA (fun m hm => by have := bA m hm; omega : ∀ m ∈ aks, 0 ≤ m ∧ m < n)
    omega
  have eA : ∀ m ∈ el, m ∈ aks := fun m hm => by rw [eak]; exact List.mem_append.mpr (.inl hm)
  have s45 := s4.trans s5
  have s6 := same_upd (o := .lst (aks.map V.int)) hak
  have kak : upd G5 ak (.lst (aks.map V.int)) ak = some (.lst (aks.map V.int)) := upd_same
  have kea6 := s6 _ _ kea5
  have s06 := (s04.trans s5).trans s6
  have hS6 := s06.seq hS
  obtain ⟨G6, e6⟩ : ∃ G6, G6 = upd G5 ak (.lst (aks.map V.int)) := ⟨_, rfl⟩
  rw [← e6] at kak kea6 s06 hS6
  rw [← e6]
  clear e6 eak el2 elt kD5 kea5 kea4 klt s6 s45 s5 s4 s04 s3 kD2 kea
  refine ⟨_, rfl, _, rfl, by omega, by omega, fun L hL => ?_⟩
  refine lc_range (lo := 0) (n := n.toNat) (fun i G => Same G6 G ∧ ∃ cs : List (Ad × Cp), cs.length = i ∧ RowP K G6 G C CK L n b cs) ⟨same_upd hL, [], rfl, upd_same, fun i c e => by simp at e, fun i j c c' e => by simp at e, fun c h => absurd h List.not_mem_nil, fun c h => absurd h List.not_mem_nil⟩ ?_ ?_
  · rintro i G hi ⟨sG, cs, lcs, R⟩
    refine ⟨rfl, lc_yes ?_⟩
    refine ⟨_, rfl, _, rfl, _, rfl, rfl, rfl, fun y dy hy hdy ne => ?_⟩
    have s1 : Same G (upd (upd G dy (.own y)) y (.ins C dy [])) := (same_upd hdy).trans (same_upd (by rw [upd_ne ne.symm]; exact hy))
    refine ⟨y, dy, 0 + (i : Int), n, b, rfl, upd_same, by omega, n60, fun ro nu pl key H' cg r0 u0 l0 A0 FK => ⟨rfl, ?_⟩⟩
    have s2 : Same G H' := fun b o e => cg _ _ (ne_of_none e hy) (s1 _ _ e)
    have kD2 := s2 _ _ R.at_
    rw [Int.zero_add, ← lcs] at A0 FK
    have z0 : ∀ {a : Addr}, upd (upd G dy (.own y)) y (.ins C dy []) a = none → G a = none := fun h => s1.free h
    obtain ⟨a, ea, R2⟩ := R.snoc (by omega) sG s2 hy (z0 r0) (z0 u0) (z0 l0) A0 (FK.mono fun l h => z0 h)
    refine ⟨_, kD2, ?_, fun x o e => ?_, cs ++ [(a, newP n b (cs.length : Int))], by rw [List.length_append, lcs]; rfl, ?_⟩
    · rw [List.length_map, List.length_map]
      exact Nat.lt_of_lt_of_le (show cs.length < 100 by omega) (by decide)
    · rw [upd_ne (ne_of_none e hL)]
      exact s2 _ _ (sG _ _ e)
    · rw [List.map_append, List.map_append] at R2
      rw [← ea]
      exact R2
  rintro G7 ⟨s7, cs, lcs, R⟩
  have W := R.row (lcs.trans (by first | rfl | omega))
  have out : ∀ {x : Addr} {o : HO}, G6 x = some o → ∀ c ∈ cs, x ∉ fpG c.1 c.2 := fun e c hc hx => by rw [R.nf c hc _ hx] at e; cases e
  have Oe : OutL G7 cs ea el := ⟨s7 _ _ kea6, out kea6⟩
  have Oa : OutL G7 cs ak aks := ⟨s7 _ _ kak, out kak⟩
  have newp : ∀ m : Int, 0 ≤ m → m < n → ∃ a, cs[m.toNat]? = some (a, newP n b m) := fun m m0 m1 => by
    obtain ⟨c, hc, _⟩ := W.get m0 m1
    have := (R.all m.toNat c hc).2
    rw [show ((m.toNat : Nat) : Int) = m by omega] at this
    exact ⟨c.1, by rw [← this]; exact hc⟩
  have OSc : OutS K G7 cs sa ns := by
    rcases hS6 with (z | ⟨o', z⟩) | z
    · exact .inl ⟨.inl (.inl (s7 _ _ z)), out z⟩
    · exact .inl ⟨.inl (.inr ⟨o', s7 _ _ z⟩), out z⟩
    · exact .inr fun _ => .inr z
  have gnew : ∀ m : Int, 0 ≤ m → m < n → ∀ st f, GoodG n m { newP n b m with st := st, f := f } := fun m m0 m1 st f => ⟨m0, m1, n60, rangeI_nd n, fun x hx => rangeI_mem.mp hx, fun y e => (by
    have e : (if m = b then some (⟨0, freshS n, []⟩ : KP) else none) = some y := e
    split at e
    · cases e
      exact Nat.zero_le _
    · cases e), Nat.zero_le _, .inl rfl⟩
  obtain ⟨ab, hab⟩ := newp b (by omega) bn
  have b0 : 0 ≤ b := by omega
  have Bb := W.allI b0 hab
  obtain ⟨kvb, Ab, _⟩ := Bb.at_
  have atb := W.atm b0 hab
  have kb : (newP n b b).key = some ⟨0, freshS n, []⟩ := if_pos rfl
  refine ⟨_, rfl, _, rfl, L, _, _, _, rfl, rfl, SqL.of W.at_, atb, ab.o, ab.dx, _, rfl, Ab.hp, (Ab.no "ask").2, ?_⟩
  unfold tNil
  refine ask_at rfl Bb (gnew b b0 bn _ _) ?_
  rw [askG_some kb]
  refine W.retI b0 hab fun z zs a1 H8 W8 S8 eo8 nz kz dz => ?_
  cases dz
  obtain ⟨P1, eP1⟩ : ∃ P1 : Cp, P1 = { newP n b b with st := "in", f := updI (fun _ => 0) b 1 } := ⟨_, rfl⟩
  have W8 : RowG K H8 C CK L n (cs.set b.toNat (a1, P1)) := by rw [eP1]; exact W8
  have S8 : StG cs G7 (cs.set b.toNat (a1, P1)) H8 := by rw [eP1]; exact S8
  have hb8 : (cs.set b.toNat (a1, P1))[b.toNat]? = some (a1, P1) := get_set hab
  refine ⟨Nat.zero_le _, fun e1 he1 => ?_⟩
  have s9 := same_upd (o := .lst []) he1
  refine ⟨.list [], .list [], .lst (SqL.of (s9 _ _ kz)) .nil, .lst (SqL.of upd_same) .nil, by decide, by decide, _, rfl, iteF' (by decide +kernel) ?_⟩
  have W9 := W8.same s9
  have S9 := S8.trans (StG.ofSame s9)
  have at9 := W9.atm b0 hb8
  have gP1 : GoodG n ((b.toNat : Nat) : Int) P1 := by rw [eP1, show ((b.toNat : Nat) : Int) = b by omega]; exact gnew b b0 bn _ _
  refine ⟨_, rfl, _, rfl, L, _, _, _, rfl, rfl, SqL.of W9.at_, at9, _, rfl, L, n, b.toNat, a1, P1, cs.set b.toNat (a1, P1), ea, el, by rw [eP1]; rfl, W9, hb8, gP1, Oe.step S9, fun x hx => by have := bE x hx; omega, .inr (by rw [eP1]), fun a2 H10 W10 eo10 S10 => ?_⟩
  refine ⟨_, rfl, iteF' rfl ?_⟩
  rw [List.set_set, show ((b.toNat : Nat) : Int) = b by omega] at W10 S10
  obtain ⟨PB, ePB⟩ : ∃ PB : Cp, PB = { P1 with f := heardF b P1.f el } := ⟨_, rfl⟩
  rw [← ePB] at W10 S10
  have S710 := S9.trans S10
  have aob : a2.o = ab.o := eo10.trans eo8
  clear W8 S8 S9 S10 W9
  have lif : ∀ {x : Addr} {ns : List Int} {cs' : List (Ad × Cp)} {G : Hp}, OutL G7 cs x ns → StG cs G7 cs' G → OutL G cs' x ns := fun o s => o.step s
  refine ⟨_, rfl, ak, rfl, ⟨_, SqL.of (Oa.step S710).1⟩, ?_⟩
  refine for_list (K := K) (a := ak) (xs := aks.map V.int) (fun j σ G => (∃ z4 : Option V, σ = [some (V.ref sa), some (V.int n), some (V.int b), some (V.ref D), z4, some (V.ref ea), some (V.ref lt), some (V.ref ak), some (V.ref L), none, none, none, none, none, none]) ∧ ∃ cs', RowG K G C CK L n cs' ∧ StG cs G7 cs' G ∧ cs'[b.toNat]? = some (a2, PB) ∧ ∀ m, 0 ≤ m → m < n → m ≠ b → ∃ a, cs'[m.toNat]? = some (a, if m ∈ aks.take j then askP n b m else newP n b m)) ⟨⟨_, rfl⟩, _, W10, S710, get_set hab, fun m m0 m1 mb => ?_⟩ (fun j σ G _ h => by obtain ⟨_, cs', _, S', _⟩ := h; exact SqL.of (Oa.step S').1) ?_ ?_
  · obtain ⟨a, ha⟩ := newp m m0 m1
    exact ⟨a, by rw [List.getElem?_set_ne (by omega), ha]; rfl⟩
  · rintro j x σ G hx ⟨⟨z4, rfl⟩, cs', W', S', hb', oth⟩
    obtain ⟨m, hm, rfl⟩ := ints_at' hx
    have lj := (List.getElem?_eq_some_iff.mp hm).1
    have bm := bA m (List.mem_of_getElem? hm)
    have m0 : 0 ≤ m := by omega
    obtain ⟨am, ham⟩ := oth m m0 bm.2.1 bm.2.2
    have nin : m ∉ aks.take j := fun z => by
      obtain ⟨j2, lj2, ej⟩ := List.mem_take_iff_getElem.mp z
      have h1 : aks[j2]? = some m := by rw [List.getElem?_eq_getElem (by omega), ej]
      have := (List.getElem?_inj (by omega) ndA).mp (h1.trans hm.symm)
      omega
    rw [if_neg nin] at ham
    have Bm := W'.allI m0 ham
    obtain ⟨kvm, Am, _⟩ := Bm.at_
    have atm := W'.atm m0 ham
    have km : (newP n b m).key = none := if_neg bm.2.2
    refine ⟨_, rfl, _, rfl, L, _, _, _, rfl, rfl, SqL.of W'.at_, atm, am.o, am.dx, _, rfl, Am.hp, (Am.no "ask").2, ?_⟩
    refine ask_at rfl Bm (gnew m m0 bm.2.1 _ _) ?_
    rw [askG_none km]
    refine W'.retI m0 ham fun z zs a3 H11 W11 S11 eo11 nz kz dz => ?_
    have W11 : RowG K H11 C CK L n (cs'.set m.toNat (a3, askP n b m)) := W11
    have S11 : StG cs' G (cs'.set m.toNat (a3, askP n b m)) H11 := S11
    have dz : DpAll K H11 zs ((othR (rangeI n) m).map (toD (askD 1))) := dz
    refine ⟨_, rfl, _, rfl, by omega, by omega, fun D3 hD3 => ?_⟩
    refine lc_range (lo := 0) (n := n.toNat) (fun i G => Same H11 G ∧ ∃ zs, zs.length ≤ i ∧ G D3 = some (.lst zs) ∧ DpAll K G zs ((othR ((rangeI n).take i) m).map (toD (askD 1)))) ⟨same_upd hD3, [], Nat.le_refl _, upd_same, .nil⟩ ?_ ?_
    · rintro i G hi ⟨sG, zs, lz, kD, dz⟩
      have er := rangeI_at (n := n) (j := i) (by omega)
      have nls : noLs ((othR ((rangeI n).take i) m).map (toD (askD 1))) = true := noLs_of fun d hd => by
        obtain ⟨y, _, rfl⟩ := List.mem_map.mp hd
        exact noL_to (by simp [askD, noL, noLs]) y
      refine ⟨rfl, _, rfl, _, rfl, rfl, _, rfl, ?_⟩
      rw [dec_ii, Int.zero_add]
      have nx : othR ((rangeI n).take (i + 1)) m = othR ((rangeI n).take i) m ++ (if (!decide ((i : Int) = m)) = true then [(i : Int)] else []) := filt_next _ er
      refine ite2 (fun c4 => ?_) (fun c4 => ?_)
      · rw [nx, if_pos c4]
        refine ⟨_, rfl, by show 2 ≤ sizeLine; decide, fun t ht => ?_⟩
        have s3 := same_upd (o := .tup [.str "ask", .int 1]) ht
        refine ⟨by show 2 ≤ sizeLine; decide, fun t2 ht2 => ?_⟩
        have s4 := same_upd (o := .tup [.int (i : Int), .ref t]) ht2
        have kD4 := s4 _ _ (s3 _ _ kD)
        refine ⟨_, kD4, Nat.lt_of_lt_of_le (show zs.length < 100 by omega) (by decide), fun a o e => ?_, zs ++ [.ref t2], by rw [List.length_append, List.length_singleton]; omega, upd_same, ?_⟩
        · rw [upd_ne (ne_of_none e hD3)]
          exact s4 _ _ (s3 _ _ (sG _ _ e))
        · rw [List.map_append]
          refine dps_app (dps_chg ⟨_, kD4⟩ Chg.self _ _ nls (dps_same (s3.trans s4) _ _ dz)) (dps_chg ⟨_, kD4⟩ Chg.self _ _ (by simp [toD, askD, noL, noLs]) (.cons (.tup (SqT.of upd_same) (.cons (.int _) (.cons (.tup (SqT.of (s4 _ _ upd_same)) (.cons (.str _) (.cons (.int _) .nil))) .nil))) .nil))
      · rw [nx, if_neg c4, List.append_nil]
        exact ⟨sG, zs, by omega, kD, dz⟩
    rintro H12 ⟨s12, zs12, lz12, kD12, dz12⟩
    rw [List.take_of_length_le (by rw [rangeI_len]; first | exact Nat.le_refl _ | omega)] at dz12
    have shp : SeqAt.shaped (.list ((othR (rangeI n) m).map (toD (askD 1)))) = true := shaped_tos (lay_ask 1) (deep_ask 1) _
    refine ⟨_, _, .lst (SqL.of (s12 _ _ kz)) (dps_same s12 _ _ dz), .lst (SqL.of kD12) dz12, shp, shp, _, rfl, iteF' (eq_bl (eqv_shaped shp)) ?_⟩
    refine ⟨⟨_, rfl⟩, _, W11.same s12, S'.trans (S11.trans (StG.ofSame s12)), by rw [List.getElem?_set_ne (by omega)]; exact hb', fun m2 m20 m21 mb2 => ?_⟩
    have tk : aks.take (j + 1) = aks.take j ++ [m] := by rw [List.take_succ, hm]; rfl
    by_cases e : m2 = m
    · subst e
      exact ⟨a3, by rw [if_pos (by rw [tk]; simp)]; exact get_set ham⟩
    · obtain ⟨a4, h4⟩ := oth m2 m20 m21 mb2
      refine ⟨a4, ?_⟩
      rw [List.getElem?_set_ne (by omega), h4]
      have : (m2 ∈ aks.take (j + 1)) = (m2 ∈ aks.take j) := by rw [tk]; simp [e]
      simp only [this]
  rintro σ G ⟨⟨z4, rfl⟩, cs1, W1, S1, hb1, oth⟩
  rw [List.length_map, List.take_length] at oth
  have lO1 := Oe.step S1
  refine ⟨_, rfl, _, rfl, _, rfl, n, b, ea, el, rfl, lO1.1, b0, bn, n60, fun ha G20 s20 hha kha => ?_⟩
  obtain ⟨ahd, eah⟩ : ∃ ahd, ahd = rndF n b fun m => decide (m ∈ el) := ⟨_, rfl⟩
  rw [← eah] at kha
  have mah : ∀ m, m ∈ ahd ↔ m ∈ el := fun m => by
    rw [eah, rndF_mem b0 bn]
    simp
    intro h
    have := bE m h
    omega
  have nda : ahd.Nodup := by rw [eah]; exact rndF_nd b0 bn
  obtain ⟨i0, tl, eit⟩ : ∃ i0 tl, ahd = i0 :: tl := by
    cases h : ahd with
    | nil =>
      obtain ⟨x, xs, ex⟩ : ∃ x xs, el = x :: xs := by
        cases h2 : el with
        | nil => exact absurd h2 neE
        | cons x xs => exact ⟨x, xs, rfl⟩
      have : x ∈ ahd := (mah x).mpr (by rw [ex]; simp)
      rw [h] at this
      exact absurd this List.not_mem_nil
    | cons x xs => exact ⟨x, xs, rfl⟩
  have iel : i0 ∈ el := (mah i0).mp (by rw [eit]; simp)
  have bi := bE i0 iel
  have ia := eA i0 iel
  have ii0 : 0 ≤ i0 := by omega
  have itl : i0 ∉ tl := by rw [eit] at nda; exact (List.nodup_cons.mp nda).1
  have ndt : tl.Nodup := by rw [eit] at nda; exact (List.nodup_cons.mp nda).2
  have tlel : ∀ m ∈ tl, m ∈ el := fun m hm => (mah m).mp (by rw [eit]; exact List.mem_cons_of_mem _ hm)
  have ltl : tl.length ≤ 60 := by
    have := nd_len ndt (fun m hm => by have := bE m (tlel m hm); omega : ∀ m ∈ tl, 0 ≤ m ∧ m < n)
    omega
  have W20 := W1.same s20
  have S20 := S1.trans (StG.ofSame s20)
  have Oh20 : OutL G20 cs1 ha ahd := OutL.ofNew W1 hha kha
  have at0 : atI (ahd.map V.int) 0 = some (.int i0) := by rw [eit]; exact atI_nat (j := 0) rfl
  refine ⟨_, rfl, ha, _, _, .int i0, rfl, rfl, SqL.of kha, at0, ?_⟩
  refine ⟨_, rfl, _, rfl, RgOk.of_le (by omega) (by omega) (by omega) (by omega), fun l1 hl1 => ?_⟩
  rw [rgV_I, rgI_range]
  have u1 := same_upd (o := .lst ((rangeI n).map V.int)) hl1
  refine ⟨_, rfl, by show 1 ≤ sizeLine; decide, fun lb hlb => ?_⟩
  have u2 := same_upd (o := .lst [V.int b]) hlb
  refine ⟨l1, lb, rangeI n, [b], rfl, u2 _ _ upd_same, upd_same, by rw [rangeI_len]; omega, fun tp G21 s21 dp => ?_⟩
  have s2021 := (u1.trans u2).trans s21
  refine ⟨_, rfl, _, rfl, ha, _, rfl, SqL.of (s2021 _ _ kha), fun l7 hl7 => ?_⟩
  have ecut : cutV (ahd.map V.int) (some 1) none = tl.map V.int := by rw [eit]; exact cut1v _ _
  rw [ecut]
  have u3 := same_upd (o := .lst (tl.map V.int)) hl7
  refine ⟨l7, _, rfl, .inl ⟨SqL.of upd_same, fun tt htt => ?_⟩⟩
  have u4 := same_upd (o := .tup (tl.map V.int)) htt
  refine ⟨by show 3 ≤ sizeLine; decide, fun kt hkt => ?_⟩
  have u5 := same_upd (o := .tup [.int 0, .ref tp, .ref tt]) hkt
  have u35 := (u3.trans u4).trans u5
  have s22 := s2021.trans u35
  have dkt : Dp K (upd (upd (upd G21 l7 (.lst (tl.map V.int))) tt (.tup (tl.map V.int))) kt (.tup [.int 0, .ref tp, .ref tt])) (.ref kt) (toldD 0 (pairsOf (rangeI n) [b]) tl) :=
    .tup (SqT.of upd_same) (.cons (.int _) (.cons (dp_same u35 _ _ dp) (.cons (.tup (SqT.of (u5 _ _ upd_same)) (dps_ints _)) .nil)))
  have W22 := W20.same s22
  have S22 := S20.trans (StG.ofSame s22)
  have Oh22 := Oh20.same s22
  obtain ⟨G22, e22⟩ : ∃ G22, G22 = (upd (upd (upd G21 l7 (.lst (tl.map V.int))) tt (.tup (tl.map V.int))) kt (.tup [.int 0, .ref tp, .ref tt])) := ⟨_, rfl⟩
  rw [← e22] at dkt W22 S22 Oh22
  rw [← e22]
  clear e22 u1 u2 u3 u4 u5 u35 s22 s2021 dp S20 W20 S1 W1
  have B22 := W22.allI b0 hb1
  obtain ⟨kv22, A22, _⟩ := B22.at_
  have at22 := W22.atm b0 hb1
  have kPB : PB.key = some ⟨0, freshS n, []⟩ := by rw [ePB, eP1]; exact kb
  have fP1 : ∀ m, m ≠ b → P1.f m = 0 := fun m hm => by rw [eP1]; show updI (fun _ => 0) b 1 m = 0; unfold updI; rw [if_neg hm]
  have fP1b : P1.f b = 1 := by rw [eP1]; show updI (fun _ => 0) b 1 b = 1; unfold updI; rw [if_pos rfl]
  have bel : b ∉ el := fun z => (bE b z).2.2 rfl
  have fPB : PB.f b = 1 := by
    rw [ePB]
    show heardF b P1.f el b = 1
    rw [heardF_at, if_neg (by simp), fP1b]
  have rsPB : PB.rs = rangeI n := by rw [ePB, eP1]; rfl
  have gPB : GoodG n b PB := by rw [ePB, eP1]; exact gnew b b0 bn _ _
  have eS : srvS (freshS n) b (PB.f b) = pairsOf (rangeI n) [b] := by rw [fPB, fresh_pairs]; exact srv_pairs1
  have eline : lineUp b PB.rs (msF n PB.f) (srvS (freshS n) b (PB.f b)) [] = i0 :: tl := by
    rw [eS, rsPB, ← eit, eah, ePB]
    exact line_first b0 bn bel fP1 fP1b
  refine ⟨_, rfl, _, rfl, L, _, _, _, rfl, rfl, SqL.of W22.at_, at22, a2.o, a2.dx, _, rfl, A22.hp, (A22.no "leave").2, ?_⟩
  refine leave_at rfl B22 gPB kPB (by rw [freshS_fst]; exact rangeI_mem.mpr ⟨b0, bn⟩) (RetG.eq ?_ (handG_give eline bi.2.2))
  refine W22.retI b0 hb1 fun z zs a5 H23 W23 S23 eo23 nz kz dz => ?_
  obtain ⟨PE, ePE⟩ : ∃ PE : Cp, PE = { PB with st := "out", key := none } := ⟨_, rfl⟩
  have W23 : RowG K H23 C CK L n (cs1.set b.toNat (a5, PE)) := by rw [ePE]; exact W23
  have S23 : StG cs1 G22 (cs1.set b.toNat (a5, PE)) H23 := by rw [ePE]; exact S23
  have dz : DpAll K H23 zs [toD (keyD 0 (pairsOf (rangeI n) [b]) tl) i0] := by rw [← eS]; exact dz
  have dk23 := dp_kt (S23.sqt W22) _ _ (noL_told _ _ _) dkt
  refine ⟨_, rfl, by show 1 ≤ sizeLine; decide, fun t1 ht1 => ?_⟩
  have v1 := same_upd (o := .tup [.str "key"]) ht1
  obtain ⟨u, v, qk, du, dv⟩ := told_at (dp_same v1 _ _ dk23)
  refine ⟨_, rfl, cat_anyk (SqT.of upd_same) qk (by show 1 + 3 ≤ 10000; decide) fun t3 G24 s24 q3 => ?_⟩
  refine ⟨by show 2 ≤ sizeLine; decide, fun x2 hx2 => ?_⟩
  have v2 := same_upd (o := .tup [.int i0, .ref t3]) hx2
  refine ⟨by show 1 ≤ sizeLine; decide, fun x3 hx3 => ?_⟩
  have v3 := same_upd (o := .lst [.ref x2]) hx3
  have v23 := v2.trans v3
  have s25 := (v1.trans s24).trans v23
  have due : Dp K (upd (upd G24 x2 (.tup [.int i0, .ref t3])) x3 (.lst [.ref x2])) (.ref x2) (toD (keyD 0 (pairsOf (rangeI n) [b]) tl) i0) :=
    .tup (SqT.of (v3 _ _ upd_same)) (.cons (.int i0) (.cons (.tup (sqt_same v23 q3) (.cons (.str _) (.cons (.int _) (.cons (dp_same (s24.trans v23) _ _ du) (.cons (dp_same (s24.trans v23) _ _ dv) .nil))))) .nil))
  have shp : SeqAt.shaped (.list [toD (keyD 0 (pairsOf (rangeI n) [b]) tl) i0]) = true := shaped_tos (lay_key _ _ _) (deep_key _ _ _) [i0]
  refine ⟨_, _, .lst (SqL.of (s25 _ _ kz)) (dps_same s25 _ _ dz), .lst (SqL.of upd_same) (.cons due .nil), shp, shp, _, rfl, iteF' (eq_bl (eqv_shaped shp)) ?_⟩
  have W25 := W23.same s25
  have S25 := (S22.trans S23).trans (StG.ofSame s25)
  have dk25 := dp_same s25 _ _ dk23
  obtain ⟨G25, e25⟩ : ∃ G25, G25 = upd (upd G24 x2 (.tup [.int i0, .ref t3])) x3 (.lst [.ref x2]) := ⟨_, rfl⟩
  rw [← e25] at W25 S25 dk25 s25
  rw [← e25]
  clear e25 due v2 v3 v23 q3 qk du dv
  obtain ⟨ai, hai1⟩ := oth i0 ii0 bi.2.1 bi.2.2
  rw [if_pos ia] at hai1
  have hai : (cs1.set b.toNat (a5, PE))[i0.toNat]? = some (ai, askP n b i0) := by rw [List.getElem?_set_ne (by omega)]; exact hai1
  have Bi := W25.allI ii0 hai
  obtain ⟨kvi, Ai, _⟩ := Bi.at_
  have ati := W25.atm ii0 hai
  refine ⟨_, rfl, _, rfl, L, _, _, _, rfl, rfl, SqL.of W25.at_, ati, ai.o, ai.dx, _, rfl, Ai.hp, (Ai.no "hear").2, _, rfl, by show 1 ≤ sizeLine; decide, fun t4 ht4 => ?_⟩
  have w1 := same_upd (o := .tup [.str "key"]) ht4
  obtain ⟨u2, v2, qk2, du2, dv2⟩ := told_at (dp_same w1 _ _ dk25)
  refine ⟨_, rfl, cat_anyk (SqT.of upd_same) qk2 (by show 1 + 3 ≤ 10000; decide) fun t5 G26 s26 q5 => ?_⟩
  have s256 := w1.trans s26
  have W26 := W25.same s256
  have B26 := W26.allI ii0 hai
  obtain ⟨ys, uu, dys⟩ : ∃ ys, SqT K G26 u2 ys ∧ DpAll K G26 ys ((pairsOf (rangeI n) [b]).map pairD) := by
    cases dp_same s26 _ _ du2 with
    | tup h1 h2 => exact ⟨_, h1, h2⟩
  have vv : SqT K G26 v2 (tl.map V.int) := by
    cases dp_same s26 _ _ dv2 with
    | tup h1 h2 => rw [← ints_back h2]; exact h1
  have gi : GoodG n i0 (askP n b i0) := gnew i0 ii0 bi.2.1 _ _
  refine hearG_at rfl B26 (.inr (.inl ⟨_, q5, hearKey_of B26 gi q5 uu dys vv (by show (0 : Int) ≤ 0; decide) (by rw [pairs_fst]; exact rangeI_up) (by unfold pairsOf; rw [List.length_map, rangeI_len]; omega) (by omega) ?_⟩))
  refine W26.retI ii0 hai fun z2 zs2 a6 H27 W27 S27 eo27 nz2 kz2 dz2 => ?_
  cases dz2
  obtain ⟨PF, ePF⟩ : ∃ PF : Cp, PF = { askP n b i0 with st := "in", key := some ⟨0, pairsOf (rangeI n) [b], tl⟩ } := ⟨_, rfl⟩
  obtain ⟨cs3, ecs3⟩ : ∃ cs3, cs3 = (cs1.set b.toNat (a5, PE)).set i0.toNat (a6, PF) := ⟨_, rfl⟩
  have W27 : RowG K H27 C CK L n cs3 := by rw [ecs3, ePF]; exact W27
  have S27 : StG (cs1.set b.toNat (a5, PE)) G26 cs3 H27 := by rw [ecs3, ePF]; exact S27
  refine ⟨Nat.zero_le _, fun e1 he1 => ?_⟩
  have s28 := same_upd (o := .lst []) he1
  refine ⟨.list [], .list [], .lst (SqL.of (s28 _ _ kz2)) .nil, .lst (SqL.of upd_same) .nil, by decide, by decide, _, rfl, iteF' (by decide +kernel) ?_⟩
  have W28 := W27.same s28
  have S28 : StG cs G7 cs3 _ := ((S25.trans (StG.ofSame s256)).trans S27).trans (StG.ofSame s28)
  have Oh28 : OutL _ cs3 ha ahd := ((((Oh22.step S23).same s25).same s256).step S27).same s28
  obtain ⟨H28, e28⟩ : ∃ H28, H28 = upd H27 e1 (.lst []) := ⟨_, rfl⟩
  rw [← e28] at W28 S28 Oh28
  rw [← e28]
  have hS28 := (OSc.step S28).sq
  refine ⟨_, rfl, _, rfl, _, rfl, sa, ns, 4, rfl, hS28, by decide, bits, fun c4 _ => ⟨c4, rfl, fun b4 => ⟨_, rfl, sa, ns, 5, rfl, hS28, by decide, bits, fun c5 _ => ⟨_, _, rfl, rfl, (by show (0 : Int) < 2; decide), rfl, ?_⟩⟩⟩⟩
  refine ⟨n, i0, b4, _, rfl, n5, n60, fun oa od G30 s30 hoa ndo neo bo lod koa => ?_⟩
  have W30 := W28.same s30
  have S30 := S28.trans (StG.ofSame s30)
  have Oo30 : OutL G30 cs3 oa od := OutL.ofNew W28 hoa koa
  have Oa30 := Oa.step S30
  have z0a : (0 : Int) ∉ aks := fun z => by have := bA 0 z; omega
  obtain ⟨a0, ha0⟩ := oth 0 (by omega) (by omega) (by omega)
  rw [if_neg z0a] at ha0
  have h30 : cs3[0]? = some (a0, newP n b 0) := by
    rw [ecs3, List.getElem?_set_ne (by omega), List.getElem?_set_ne (by omega)]
    exact ha0
  have at30 := W30.at1 h30
  have k0n : (newP n b 0).key = none := if_neg (by omega)
  refine ⟨_, rfl, L, _, _, _, rfl, rfl, SqL.of W30.at_, at30, _, rfl, _, rfl, _, rfl, L, n, i0, a0, newP n b 0, cs3, oa, ak, od, aks, rfl, W30, h30, k0n, rfl, rfl, rfl, rfl, rfl, rfl, n5, n60, Oo30, Oa30, ndo, fun m hm => by have := bo m hm; omega, bi.1, bi.2.1, fun z => (bo i0 z).2.2 rfl, fun ma as a7 G31 W31 eo31 S31 OM31 => ?_⟩
  refine ⟨_, rfl, rfl, _, rfl, iteF' rfl ?_⟩
  obtain ⟨P0, eP0⟩ : ∃ P0, P0 = BPj (newP n b 0) n od aks od.length := ⟨_, rfl⟩
  rw [← eP0] at W31 S31 OM31
  obtain ⟨cs4, ecs4⟩ : ∃ cs4, cs4 = cs3.set 0 (a7, P0) := ⟨_, rfl⟩
  rw [← ecs4] at W31 S31 OM31
  have h3i : cs3[i0.toNat]? = some (a6, PF) := by rw [ecs3]; exact get_set hai
  have h4i : cs4[i0.toNat]? = some (a6, PF) := by rw [ecs4, List.getElem?_set_ne (by omega)]; exact h3i
  have at31 := W31.atm ii0 h4i
  have Oh31 := (Oh28.same s30).step S31
  refine ⟨_, rfl, _, rfl, L, _, _, _, rfl, rfl, SqL.of W31.at_, at31, _, rfl, _, rfl, by show 1 ≤ sizeLine; decide, fun lb hlb => ?_⟩
  have x1 := same_upd (o := .lst [V.int b]) hlb
  refine ⟨_, rfl, _, rfl, ha, _, rfl, SqL.of (Oh31.same x1).1, fun l8 hl8 => ?_⟩
  rw [ecut]
  have x2s := same_upd (o := .lst (tl.map V.int)) hl8
  have x12 := x1.trans x2s
  have W32 := W31.same x12
  have kl8 : upd (upd G31 lb (.lst [V.int b])) l8 (.lst (tl.map V.int)) l8 = some (.lst (tl.map V.int)) := upd_same
  have klb : upd (upd G31 lb (.lst [V.int b])) l8 (.lst (tl.map V.int)) lb = some (.lst [V.int b]) := x2s _ _ upd_same
  obtain ⟨G32, e32⟩ : ∃ G32, G32 = upd (upd G31 lb (.lst [V.int b])) l8 (.lst (tl.map V.int)) := ⟨_, rfl⟩
  rw [← e32] at x12 W32 kl8 klb
  rw [← e32]
  clear e32
  have Ob32 : OutL G32 cs4 lb [b] := ⟨klb, W31.free hlb⟩
  have Ot32 : OutL G32 cs4 l8 tl := OutL.ofNew W31 (x1.free hl8) kl8
  have t0 : ((i0.toNat : Nat) : Int) = i0 := by omega
  have rs0 : rsJ n od 0 = rangeI n := List.filter_eq_self.mpr fun m _ => by simp
  have gF : GoodG n ((i0.toNat : Nat) : Int) PF := by
    rw [t0, ePF]
    exact ⟨gi.i0, gi.i1, gi.n60, gi.nd, gi.bnd, fun y e => by cases e; show tl.length ≤ 500; omega, gi.ps, gi.bg⟩
  have eF0 : PF = heldP PF (rsJ n od) [b] tl 0 := by
    rw [ePF]
    unfold heldP
    rw [rs0]
    rfl
  refine ⟨L, n, i0.toNat, a6, PF, cs4, ma, lb, l8, as, rsJ n od, od.length + 1, [b], tl, rfl, W32, h4i, gF, OM31.same x12, by omega, by omega, Ob32, Ot32, eF0, by rw [ePF], by rw [ePF, t0]; show updI (fun _ => 0) i0 1 i0 = 1; unfold updI; rw [if_pos rfl], fun j _ => rsJ_sub, fun j => rt_len n60, ltl, fun a8 G33 W33 eo33 S33 => ?_⟩
  refine ⟨_, rfl, iteF' rfl ?_⟩
  rw [show od.length + 1 - 1 = od.length by omega] at W33 S33
  obtain ⟨P1b, eP1b⟩ : ∃ P, P = heldP PF (rsJ n od) [b] tl od.length := ⟨_, rfl⟩
  rw [← eP1b] at W33 S33
  obtain ⟨cs5, ecs5⟩ : ∃ cs5, cs5 = cs4.set i0.toNat (a8, P1b) := ⟨_, rfl⟩
  rw [← ecs5] at W33 S33
  have S3133 : StG cs3 G30 cs5 G33 := (S31.trans (StG.ofSame x12)).trans S33
  have S733 : StG cs G7 cs5 G33 := S30.trans S3133
  have Oh33 := (Oh31.same x12).step S33
  refine ⟨_, rfl, _, rfl, _, rfl, by show 2 ≤ sizeLine; decide, fun hx hhx => ?_⟩
  have y1 := same_upd (o := .lst [V.int b, V.int i0]) hhx
  refine ⟨_, rfl, _, rfl, ha, _, rfl, SqL.of (Oh33.same y1).1, fun l9 hl9 => ?_⟩
  rw [ecut]
  have y2 := same_upd (o := .lst (tl.map V.int)) hl9
  have y12 := y1.trans y2
  have W34 := W33.same y12
  have kl9 : upd (upd G33 hx (.lst [V.int b, V.int i0])) l9 (.lst (tl.map V.int)) l9 = some (.lst (tl.map V.int)) := upd_same
  have khx : upd (upd G33 hx (.lst [V.int b, V.int i0])) l9 (.lst (tl.map V.int)) hx = some (.lst [V.int b, V.int i0]) := y2 _ _ upd_same
  obtain ⟨G34, e34⟩ : ∃ G34, G34 = upd (upd G33 hx (.lst [V.int b, V.int i0])) l9 (.lst (tl.map V.int)) := ⟨_, rfl⟩
  rw [← e34] at y12 W34 kl9 khx
  rw [← e34]
  clear e34
  have S734 := S733.trans (StG.ofSame y12)
  have S3034 := S3133.trans (StG.ofSame y12)
  have EK : EndK n b i0.toNat cs5 a7 a8 P0 P1b od tl aks := {
    n5 := n5
    n60 := n60
    i0 := by omega
    i1 := by omega
    bi := by omega
    ba := fun z => (bA b z).2.2 rfl
    bk := fun m hm => ⟨(bA m hm).1, (bA m hm).2.1⟩
    laks := lA
    bl := fun m hm => ⟨eA m (tlel m hm), fun e => itl (by rw [t0] at e; rw [← e]; exact hm)⟩
    lls := ltl
    ndl := ndt
    ndo := ndo
    bo := fun m hm => by rw [t0]; exact bo m hm
    ne := neo
    h0 := by rw [ecs5, List.getElem?_set_ne (by omega), ecs4]; exact get_set h30
    h1 := by rw [ecs5]; exact get_set h4i
    g0 := by
      rw [eP0]
      refine ⟨by omega, by omega, n60, rsJ_nd, fun m hm => (rsJ_mem.mp hm).1, fun y e => ?_, ?_, ?_⟩
      · have e : (newP n b 0).key = some y := e
        rw [k0n] at e; cases e
      · show (if od.length = 0 then [] else [(0, 0, 0)]).length ≤ 500
        split <;> simp
      · show (if od.length = 0 then V.non else .int (od.length : Int)) = .non ∨ ∃ g, (if od.length = 0 then V.non else .int (od.length : Int)) = .int g
        split
        · exact .inl rfl
        · exact .inr ⟨_, rfl⟩
    k0 := by rw [eP0]; exact k0n
    s0 := by rw [eP0]; rfl
    r0 := by rw [eP0]; rfl
    b0 := by rw [eP0]; exact if_neg (fun z => neo (List.length_eq_zero_iff.mp z))
    ps0 := by rw [eP0]; exact if_neg (fun z => neo (List.length_eq_zero_iff.mp z))
    rs0 := by rw [eP0]; rfl
    g1 := by
      rw [eP1b]
      refine ⟨gF.i0, gF.i1, gF.n60, gF.nd, gF.bnd, fun y e => ?_, gF.ps, gF.bg⟩
      cases e
      have := lineJ_len (M := rsJ n od) (ls := tl) od.length
      show (lineJ (rsJ n od) tl od.length).length ≤ 500
      omega
    k1 := by rw [eP1b]; rfl
    s1 := by rw [eP1b, ePF]; rfl
    rs1 := by rw [eP1b, ePF]; rfl
    f1 := by rw [eP1b, ePF, t0]; show updI (fun _ => 0) i0 1 i0 = 1; unfold updI; rw [if_pos rfl]
    f2 := fun m hm => by rw [eP1b, ePF]; rw [t0] at hm; show updI (fun _ => 0) i0 1 m = 0; unfold updI; rw [if_neg hm]
    oth := fun t ht tne => by
      rw [t0] at tne
      have bt := bA t ht
      obtain ⟨at_, hat⟩ := oth t (by omega) bt.2.1 bt.2.2
      rw [if_pos ht] at hat
      refine ⟨at_, askP n b t, ?_, rfl, ?_, gnew t (by omega) bt.2.1 _ _⟩
      · rw [ecs5, List.getElem?_set_ne (by omega), ecs4, List.getElem?_set_ne (by omega), ecs3, List.getElem?_set_ne (by omega), List.getElem?_set_ne (by omega)]
        exact hat
      · show updI (fun _ => 0) t 1 t = 1
        unfold updI
        rw [if_pos rfl] }
  have OMe : OutM G34 cs5 ma as (rsJ n od) (od.length + 1) := ((OM31.same x12).step S33).same y12
  refine ⟨_, rfl, _, rfl, _, rfl, _, rfl, L, n, b, i0.toNat, cs5, a7, a8, P0, P1b, hx, l9, oa, ma, ak, sa, as, od, tl, aks, ns, rfl, W34, EK, ⟨by rw [t0]; exact khx, W33.free hhx⟩, OutL.ofNew W33 (y1.free hl9) kl9, Oo30.step S3034, OMe, Oa.step S734, OSc.step S734, bits, q⟩
end

end G0
namespace G0
open PySem PySem.Spec PyProof.Rows L2 NdefX ClX
/-! ### the whole -/
theorem made_of {P : Program} {w : World} {K : PySem.W.Frag} {mg : Str → Option Value} {base : Heap} {C CK fI cc cda Dk fS fK : Addr} {ocI dcI pmI ctI clI ccl : Value} {odI anI cldI cdd : Option Addr} {oslI csl ccs : Array (Option Value)} {vs : Array Value} {file : Str} {tf td : Tok} {cdD : ClassData} {fd2 fdK : FuncData}
    (T : BlC71 mg) (S : CalT K C) (mgC : mg "Caller" = some (.ref C)) (mk : PySem.W.makesIn K C = true) (kc : PySem.W.keepIn K (.ref C) = true)
    (FS : Fun K "__init__" "Seat.__init__" s_Seat__init fS fd2)
    (i1 : PySem.W.findIn K (.ref C) "__init__" = some (some (.ref fI))) (i2 : PySem.W.isFn K (.ref fI) = true)
    (i3 : K.lookup fI = some ⟨ocI, odI, .func (PySem.W.ksFn "__init__" "Caller.__init__" (defArgs s_Caller__init) (defBody s_Caller__init) (defScope s_Caller__init) .none (.ref Dk) dcI pmI anI (.ref cda) ctI cc), oslI⟩)
    (i4 : PySem.W.codeIn K (.ref cda) "Caller.__init__" = true) (i5 : K.lookup cc = some ⟨clI, cldI, .cell (some (.ref C)), csl⟩) (i6 : K.lookup cda = some ⟨ccl, cdd, .fields vs, ccs⟩)
    (w7 : vs[2]? = some (.str file tf)) (w8 : ((P.main.file : Str) == file) = true) (w9 : PySem.W.clsIn K C = some cdD) (i10 : PySem.W.nsIn K mainGlobals "super" = some none)
    (w11 : (P.main.scope.names.lookup ("super" : Str)).isSome = false) (i12 : PySem.W.nsIn K cStatics "thirdparty.any" = some none) (w13 : PySem.W.mroIn K C (.ref C) = some true)
    (w14 : PySem.W.ks_superIn K C C "__init__" = some (some (.ref fS))) (i15 : PySem.W.typeIn K (.ref fS) = some (.type "function")) (w16 : PySem.W.fnIn K fS = true)
    (i17 : PySem.W.nsIn K Dk "first" = some (some (.int 0 td)))
    (KT : KeyT K CK) (KKm : Mk K CK fK) (FK : Fun K "__init__" "Key.__init__" s_Key__init fK fdK) (gK : mg "Key" = some (.ref CK)) : MkC P w K mg base C CK := by
  have F2 : FnR P w K mg base CX0 1 fS (spSeat0 C) := fnR_of (ps := ["self", "me"]) (ok_seat0 FS S.cl S.me S.state S.sits) (FS.binds (fun _ _ _ _ _ _ us hl => match us, hl with | [_, _], _ => rfl) )
  have F : SupF P K ["self", "me", "seats", "first", "__class__", "seat"] fI cc cda C (PySem.W.ksFn "__init__" "Caller.__init__" (defArgs s_Caller__init) (defBody s_Caller__init) (defScope s_Caller__init) .none (.ref Dk) dcI pmI anI (.ref cda) ctI cc) (defArgs s_Caller__init) (defScope s_Caller__init) := {
    fun_ := ⟨_, _, _, i3, rfl⟩
    arg := ⟨_, rfl, rfl, by decide +kernel⟩
    code := ⟨_, _, _, _, _, _, i6, w7, w8⟩
    cell := ⟨_, _, _, i5⟩
    cls := ⟨_, w9⟩
    miss := i10
    sup := by decide +kernel
    own := by decide +kernel
    kind := rfl
    top := w11
    any_ := i12 }
  have GK := ok_kinit (P := P) (w := w) (base := base) FK T.list KT
  have bK : Binds K fdK ["self", "of_round", "served", "line"] [] := FK.binds (fun _ _ _ _ _ _ us hl => match us, hl with | [_, _, _, _], _ => rfl) 
  refine ⟨⟨fI, _, [.int 0 td], ok_cinit T i3 i4 i5 F F2 S w13 w14 i15 w16 KKm GK bK gK, .cons ⟨td, rfl⟩ .nil, fun s us X hl => ?_, ⟨fun s us ws X l1 l2 => ?_, fun r1 r2 => r1.append r2⟩, ⟨mk, i1, i2, kc⟩⟩, mgC⟩
  · have l3 : us.length = 3 := by
      rw [List.length_append] at hl
      exact Nat.succ.inj hl
    refine BindsTo.of_looks fun M => KwChain.looks (l := [("first", .int 0 td)]) X (fun q hq => by
      rw [List.mem_singleton.mp hq]
      exact i17) ?_
    match us, l3 with
    | [_, _, _], _ => exact ⟨_, _, _, _, _, _, rfl, rfl, rfl⟩
  · match us, ws, l1, l2 with
    | [_, _, _], [_], _, _ => exact .of_eq rfl
theorem me_of {P : Program} {w : World} {K : PySem.W.Frag} {mg : Str → Option Value} {base : Heap} {C : Addr} {x qual : Str} {st : Stmt} {k : Nat} {ps : List Str} {sp : Sp}
    (F : Fm K C x qual st) (ok : ∀ f fd, Fun K x qual st f fd → FnOk P w K mg base CX0 k f fd ps sp)
    (bd : ∀ (kV doc pm : Value) (an : Option Addr) (cdv ct : Value) (us : List Value), us.length = ps.length →
      bindArgs (PySem.W.fnOf x qual (defArgs st) (defBody st) (defScope st) .none kV doc pm an cdv ct) ⟨us, []⟩ = pure (ps.zip us)) :
    Me P w K mg base C x k ps sp := by
  obtain ⟨f, fd, F, m⟩ := F
  exact ⟨f, fd, ok f fd F, F.binds bd, m⟩
theorem whole {P : Program} {w : World} {K : PySem.W.Frag} {mg : Str → Option Value} {base : Heap} {C CK fK : Addr} (T : BlC71 mg) (MX : mg "max" = none) (MA : mg "any" = none) (S : CalT K C) (KT : KeyT K CK) (MC : MkC P w K mg base C CK)
    (KKm : Mk K CK fK) {fdK : FuncData} (FK : Fun K "__init__" "Key.__init__" s_Key__init fK fdK) (gK : mg "Key" = some (.ref CK))
    (F_law_cell_at : Fn K mg "_law_cell_at" s_law_cell_at) (F_law_bits : Fn K mg "_law_bits" s_law_bits) (F_law_among : Fn K mg "_law_among" s_law_among) (F_law_round_from : Fn K mg "_law_round_from" s_law_round_from) (F_law_pairs : Fn K mg "_law_pairs" s_law_pairs) (F_law_heard : Fn K mg "_law_heard" s_law_heard) (F_law_begun : Fn K mg "_law_begun" s_law_begun) (F_law_held : Fn K mg "_law_held" s_law_held) (F_law_taken : Fn K mg "_law_taken" s_law_taken) (F_law_none_made : Fn K mg "_law_none_made" s_law_none_made) (F_law_dead : Fn K mg "_law_dead" s_law_dead) (F_law_second : Fn K mg "_law_second" s_law_second) (F_law_end : Fn K mg "_law_end" s_law_end) (F_law : Fn K mg "law" s_law)
    (K_told : Fm K CK "told" "Key.told" s_Key_told) (K_serve : Fm K CK "serve" "Key.serve" s_Key_serve) (K_renew : Fm K CK "renew" "Key.renew" s_Key_renew) (K_line_up : Fm K CK "line_up" "Key.line_up" s_Key_line_up) (K_take_first : Fm K CK "take_first" "Key.take_first" s_Key_take_first) (K_is_due : Fm K CK "_is_due" "Key._is_due" s_Key_is_due) (V_ask : Fm K C "ask" "Caller.ask" s_Caller_ask) (V_leave : Fm K C "leave" "Caller.leave" s_Caller_leave) (V_hear : Fm K C "hear" "Caller.hear" s_Caller_hear) (V_gone : Fm K C "gone" "Caller.gone" s_Caller_gone) (V_bears : Fm K C "bears" "Caller.bears" s_Caller_bears) (V_awaits : Fm K C "awaits" "Caller.awaits" s_Caller_awaits) (V_to_others : Fm K C "_to_others" "Caller._to_others" s_Caller_to_others) (V_learn : Fm K C "_learn" "Caller._learn" s_Caller_learn) (V_hear_ask : Fm K C "_hear_ask" "Caller._hear_ask" s_Caller_hear_ask) (V_hear_key : Fm K C "_hear_key" "Caller._hear_key" s_Caller_hear_key) (V_hear_round : Fm K C "_hear_round" "Caller._hear_round" s_Caller_hear_round) (V_hear_pledge : Fm K C "_hear_pledge" "Caller._hear_pledge" s_Caller_hear_pledge) (V_begin : Fm K C "_begin" "Caller._begin" s_Caller_begin) (V_pledge : Fm K C "_pledge" "Caller._pledge" s_Caller_pledge) (V_hand_on : Fm K C "_hand_on" "Caller._hand_on" s_Caller_hand_on) : Cal P w K mg base "law" 9 ["script"] (spLaw K) := by
  have T1 : BlL72 mg := ⟨T.len⟩
  have T2 : BlT0 mg := ⟨T1, T.tuple, T.range, T.int⟩
  have TL : BlL0 mg := ⟨T2, T.list⟩
  have T3 : BlM72 mg := ⟨T.len, MX⟩
  have To := me_of (P := P) (w := w) (mg := mg) (base := base) (ps := ["self"]) K_told (fun f fd F => ok_told F ⟨T.sorted, T.tuple⟩ KT) (fun _ _ _ _ _ _ us hl => match us, hl with | [_], _ => rfl) 
  have Sv := me_of (P := P) (w := w) (mg := mg) (base := base) (ps := ["self", "member", "number"]) K_serve (fun f fd F => ok_serve F KT) (fun _ _ _ _ _ _ us hl => match us, hl with | [_, _, _], _ => rfl) 
  have Rn := me_of (P := P) (w := w) (mg := mg) (base := base) (ps := ["self", "of_round", "members"]) K_renew (fun f fd F => ok_renew F KT) (fun _ _ _ _ _ _ us hl => match us, hl with | [_, _, _], _ => rfl) 
  have Du := me_of (P := P) (w := w) (mg := mg) (base := base) (ps := ["self", "member", "number"]) K_is_due (fun f fd F => ok_due F KT) (fun _ _ _ _ _ _ us hl => match us, hl with | [_, _, _], _ => rfl) 
  have Lu := me_of (P := P) (w := w) (mg := mg) (base := base) (ps := ["self", "behind", "roster", "numbers"]) K_line_up (fun f fd F => ok_lineup F KT Du) (fun _ _ _ _ _ _ us hl => match us, hl with | [_, _, _, _], _ => rfl) 
  have Tf := me_of (P := P) (w := w) (mg := mg) (base := base) (ps := ["self"]) K_take_first (fun f fd F => ok_take F T1 KT) (fun _ _ _ _ _ _ us hl => match us, hl with | [_], _ => rfl) 
  have Ot := me_of (P := P) (w := w) (mg := mg) (base := base) (ps := ["self", "letter"]) V_to_others (fun f fd F => ok_tooth F S) (fun _ _ _ _ _ _ us hl => match us, hl with | [_, _], _ => rfl) 
  have Le := me_of (P := P) (w := w) (mg := mg) (base := base) (ps := ["self", "seat", "number"]) V_learn (fun f fd F => ok_learn F T3 S) (fun _ _ _ _ _ _ us hl => match us, hl with | [_, _, _], _ => rfl) 
  have Ho := me_of (P := P) (w := w) (mg := mg) (base := base) (ps := ["self"]) V_hand_on (fun f fd F => ok_handon F S KT Lu Tf To) (fun _ _ _ _ _ _ us hl => match us, hl with | [_], _ => rfl) 
  have As := me_of (P := P) (w := w) (mg := mg) (base := base) (ps := ["self"]) V_ask (fun f fd F => ok_askC F S Ot) (fun _ _ _ _ _ _ us hl => match us, hl with | [_], _ => rfl) 
  have Ha := me_of (P := P) (w := w) (mg := mg) (base := base) (ps := ["self", "sender", "number"]) V_hear_ask (fun f fd F => ok_hearask F S Le Ho) (fun _ _ _ _ _ _ us hl => match us, hl with | [_, _, _], _ => rfl) 
  have GK := ok_kinitT (P := P) (w := w) (mg := mg) (base := base) FK T.list KT
  have bK : Binds K fdK ["self", "of_round", "served", "line"] [] := FK.binds (fun _ _ _ _ _ _ us hl => match us, hl with | [_, _, _, _], _ => rfl) 
  have Hk := me_of (P := P) (w := w) (mg := mg) (base := base) (ps := ["self", "letter"]) V_hear_key (fun f fd F => ok_hearkey F S KKm GK bK gK) (fun _ _ _ _ _ _ us hl => match us, hl with | [_, _], _ => rfl) 
  have Lv := me_of (P := P) (w := w) (mg := mg) (base := base) (ps := ["self"]) V_leave (fun f fd F => ok_leaveC F S KT Sv Ho) (fun _ _ _ _ _ _ us hl => match us, hl with | [_], _ => rfl) 
  have Aw := me_of (P := P) (w := w) (mg := mg) (base := base) (ps := ["self"]) V_awaits (fun f fd F => ok_awaits F S) (fun _ _ _ _ _ _ us hl => match us, hl with | [_], _ => rfl) 
  have Pl := me_of (P := P) (w := w) (mg := mg) (base := base) (ps := ["self", "of_round", "members"]) V_pledge (fun f fd F => ok_plgG F S KT Rn) (fun _ _ _ _ _ _ us hl => match us, hl with | [_, _, _], _ => rfl) 
  have Hr := me_of (P := P) (w := w) (mg := mg) (base := base) (ps := ["self", "sender", "of_round", "members"]) V_hear_round (fun f fd F => ok_rndG F S Pl) (fun _ _ _ _ _ _ us hl => match us, hl with | [_, _, _, _], _ => rfl) 
  have Hp := me_of (P := P) (w := w) (mg := mg) (base := base) (ps := ["self", "sender", "pledge"]) V_hear_pledge (fun f fd F => ok_pdG (CK := CK) F ⟨T.len, MA⟩ S Le Aw) (fun _ _ _ _ _ _ us hl => match us, hl with | [_, _, _], _ => rfl) 
  have Bg := me_of (P := P) (w := w) (mg := mg) (base := base) (ps := ["self"]) V_begin (fun f fd F => ok_beginG F T S Ot Pl Hp) (fun _ _ _ _ _ _ us hl => match us, hl with | [_], _ => rfl) 
  have Go := me_of (P := P) (w := w) (mg := mg) (base := base) (ps := ["self", "seat"]) V_gone (fun f fd F => ok_goneG F S Bg) (fun _ _ _ _ _ _ us hl => match us, hl with | [_, _], _ => rfl) 
  have He := me_of (P := P) (w := w) (mg := mg) (base := base) (ps := ["self", "sender", "letter"]) V_hear (fun f fd F => ok_hearG F S Ha Hk Hr Hp) (fun _ _ _ _ _ _ us hl => match us, hl with | [_, _, _], _ => rfl) 
  have Be := me_of (P := P) (w := w) (mg := mg) (base := base) (ps := ["self"]) V_bears (fun f fd F => ok_bears F S KT To) (fun _ _ _ _ _ _ us hl => match us, hl with | [_], _ => rfl) 
  have Ce := ok_cell (P := P) (w := w) (base := base) F_law_cell_at T1
  have Bi := ok_bits (P := P) (w := w) (base := base) F_law_bits
  have Am := ok_among (P := P) (w := w) (base := base) F_law_among
  have Rf := ok_round (P := P) (w := w) (base := base) F_law_round_from T.range T.list
  have Pa := ok_pairs0 (P := P) (w := w) (base := base) F_law_pairs T2
  have Hd := ok_heard0 (CK := CK) F_law_heard S He
  have Bn := ok_begun (CK := CK) F_law_begun T2 T.list S He Go Be
  have Hl := ok_held (CK := CK) F_law_held T2 S Pa He Be
  have Tk := ok_taken (CK := CK) F_law_taken T2 S He Be
  have Nm := ok_none (CK := CK) F_law_none_made T2 S He Be Aw
  have Dd := ok_dead (P := P) (w := w) (base := base) F_law_dead T2 Am
  have Sc := ok_second0 (CK := CK) F_law_second T2 S Bi Am Hd Rf Go
  have En := ok_end (CK := CK) F_law_end T2 S Ce Sc Pa Tk Nm Lv Be
  exact ok_law F_law TL S MC Ce Bi Am Rf Pa Hd Bn Hl Dd En As Lv He
theorem all_mk {P : Program} {w : World} {K : PySem.W.Frag} {h : Heap} {mg : Str → Option Value} {fa : Addr}
    {C_Caller : Addr} {C_Seat : Addr} {C_Key : Addr} {f1 : Addr} {od1 an1 : Option Addr} {sl1 : Array (Option Value)} {oc1 kV1 dc1 pm1 cd1 ct1 : Value} {f2 : Addr} {od2 an2 : Option Addr} {sl2 : Array (Option Value)} {oc2 kV2 dc2 pm2 cd2 ct2 : Value} {f3 : Addr} {od3 an3 : Option Addr} {sl3 : Array (Option Value)} {oc3 kV3 dc3 pm3 cd3 ct3 : Value} {f4 : Addr} {od4 an4 : Option Addr} {sl4 : Array (Option Value)} {oc4 kV4 dc4 pm4 cd4 ct4 : Value} {f5 : Addr} {od5 an5 : Option Addr} {sl5 : Array (Option Value)} {oc5 kV5 dc5 pm5 cd5 ct5 : Value} {f6 : Addr} {od6 an6 : Option Addr} {sl6 : Array (Option Value)} {oc6 kV6 dc6 pm6 cd6 ct6 : Value} {f7 : Addr} {od7 an7 : Option Addr} {sl7 : Array (Option Value)} {oc7 kV7 dc7 pm7 cd7 ct7 : Value} {f8 : Addr} {od8 an8 : Option Addr} {sl8 : Array (Option Value)} {oc8 kV8 dc8 pm8 cd8 ct8 : Value} {f9 : Addr} {od9 an9 : Option Addr} {sl9 : Array (Option Value)} {oc9 kV9 dc9 pm9 cd9 ct9 : Value} {f10 : Addr} {od10 an10 : Option Addr} {sl10 : Array (Option Value)} {oc10 kV10 dc10 pm10 cd10 ct10 : Value} {f11 : Addr} {od11 an11 : Option Addr} {sl11 : Array (Option Value)} {oc11 kV11 dc11 pm11 cd11 ct11 : Value} {f12 : Addr} {od12 an12 : Option Addr} {sl12 : Array (Option Value)} {oc12 kV12 dc12 pm12 cd12 ct12 : Value} {f13 : Addr} {od13 an13 : Option Addr} {sl13 : Array (Option Value)} {oc13 kV13 dc13 pm13 cd13 ct13 : Value} {f14 : Addr} {od14 an14 : Option Addr} {sl14 : Array (Option Value)} {oc14 kV14 dc14 pm14 cd14 ct14 : Value} {f15 : Addr} {od15 an15 : Option Addr} {sl15 : Array (Option Value)} {oc15 kV15 dc15 pm15 cd15 ct15 : Value} {f16 : Addr} {od16 an16 : Option Addr} {sl16 : Array (Option Value)} {oc16 kV16 dc16 pm16 cd16 ct16 : Value} {f17 : Addr} {od17 an17 : Option Addr} {sl17 : Array (Option Value)} {oc17 kV17 dc17 pm17 cd17 ct17 : Value} {f18 : Addr} {od18 an18 : Option Addr} {sl18 : Array (Option Value)} {oc18 kV18 dc18 pm18 cd18 ct18 : Value} {f19 : Addr} {od19 an19 : Option Addr} {sl19 : Array (Option Value)} {oc19 kV19 dc19 pm19 cd19 ct19 : Value} {f20 : Addr} {od20 an20 : Option Addr} {sl20 : Array (Option Value)} {oc20 kV20 dc20 pm20 cd20 ct20 : Value} {f21 : Addr} {od21 an21 : Option Addr} {sl21 : Array (Option Value)} {oc21 kV21 dc21 pm21 cd21 ct21 : Value} {f22 : Addr} {od22 an22 : Option Addr} {sl22 : Array (Option Value)} {oc22 kV22 dc22 pm22 cd22 ct22 : Value} {f23 : Addr} {od23 an23 : Option Addr} {sl23 : Array (Option Value)} {oc23 kV23 dc23 pm23 cd23 ct23 : Value} {f24 : Addr} {od24 an24 : Option Addr} {sl24 : Array (Option Value)} {oc24 kV24 dc24 pm24 cd24 ct24 : Value} {f25 : Addr} {od25 an25 : Option Addr} {sl25 : Array (Option Value)} {oc25 kV25 dc25 pm25 cd25 ct25 : Value} {f26 : Addr} {od26 an26 : Option Addr} {sl26 : Array (Option Value)} {oc26 kV26 dc26 pm26 cd26 ct26 : Value} {f27 : Addr} {od27 an27 : Option Addr} {sl27 : Array (Option Value)} {oc27 kV27 dc27 pm27 cd27 ct27 : Value} {f28 : Addr} {od28 an28 : Option Addr} {sl28 : Array (Option Value)} {oc28 kV28 dc28 pm28 cd28 ct28 : Value} {f29 : Addr} {od29 an29 : Option Addr} {sl29 : Array (Option Value)} {oc29 kV29 dc29 pm29 cd29 ct29 : Value} {f30 : Addr} {od30 an30 : Option Addr} {sl30 : Array (Option Value)} {oc30 kV30 dc30 pm30 cd30 ct30 : Value} {f31 : Addr} {od31 an31 : Option Addr} {sl31 : Array (Option Value)} {oc31 kV31 dc31 pm31 cd31 ct31 : Value} {f32 : Addr} {od32 an32 : Option Addr} {sl32 : Array (Option Value)} {oc32 kV32 dc32 pm32 cd32 ct32 : Value} {f33 : Addr} {od33 an33 : Option Addr} {sl33 : Array (Option Value)} {oc33 kV33 dc33 pm33 cd33 ct33 : Value} {f34 : Addr} {od34 an34 : Option Addr} {sl34 : Array (Option Value)} {oc34 kV34 dc34 pm34 cd34 ct34 : Value} {f35 : Addr} {od35 an35 : Option Addr} {sl35 : Array (Option Value)} {oc35 kV35 dc35 pm35 cd35 ct35 : Value} {f36 : Addr} {od36 an36 : Option Addr} {sl36 : Array (Option Value)} {oc36 kV36 dc36 pm36 cd36 ct36 : Value} {f37 : Addr} {od37 an37 : Option Addr} {sl37 : Array (Option Value)} {oc37 kV37 dc37 pm37 cd37 ct37 : Value} {fI cc cda Dk : Addr} {ocI dcI pmI ctI clI ccl : Value} {odI anI cldI cdd : Option Addr} {oslI csl ccs : Array (Option Value)} {vs : Array Value} {file : Str} {tf td : Tok} {cdD : ClassData}
    (X : K.In h) (G : h.Ns mainGlobals mg) (hfa : mg "law" = some (.ref fa))
    (aC_Caller : PySem.W.nsIn K mainGlobals "Caller" = some (some (.ref C_Caller)))
    (pg_Caller : PySem.W.plainGet K C_Caller Str.empty = true)
    (hd_Caller : PySem.W.hasDictIn K C_Caller = true)
    (po_Caller : PySem.W.plainOver K C_Caller = true)
    (sa_Caller : PySem.W.findIn K (.ref C_Caller) "__setattr__" = some (some (.builtin "object.__setattr__")))
    (mk_Caller : PySem.W.makesIn K C_Caller = true)
    (kc_Caller : PySem.W.keepIn K (.ref C_Caller) = true)
    (aC_Seat : PySem.W.nsIn K mainGlobals "Seat" = some (some (.ref C_Seat)))
    (pg_Seat : PySem.W.plainGet K C_Seat Str.empty = true)
    (hd_Seat : PySem.W.hasDictIn K C_Seat = true)
    (po_Seat : PySem.W.plainOver K C_Seat = true)
    (sa_Seat : PySem.W.findIn K (.ref C_Seat) "__setattr__" = some (some (.builtin "object.__setattr__")))
    (mk_Seat : PySem.W.makesIn K C_Seat = true)
    (kc_Seat : PySem.W.keepIn K (.ref C_Seat) = true)
    (aC_Key : PySem.W.nsIn K mainGlobals "Key" = some (some (.ref C_Key)))
    (pg_Key : PySem.W.plainGet K C_Key Str.empty = true)
    (hd_Key : PySem.W.hasDictIn K C_Key = true)
    (po_Key : PySem.W.plainOver K C_Key = true)
    (sa_Key : PySem.W.findIn K (.ref C_Key) "__setattr__" = some (some (.builtin "object.__setattr__")))
    (mk_Key : PySem.W.makesIn K C_Key = true)
    (kc_Key : PySem.W.keepIn K (.ref C_Key) = true)
    (a1 : PySem.W.nsIn K mainGlobals "_law_cell_at" = some (some (.ref f1)))
    (l1 : K.lookup f1 = some ⟨oc1, od1, .func (PySem.W.fnOf "_law_cell_at" "_law_cell_at" (defArgs s_law_cell_at) (defBody s_law_cell_at) (defScope s_law_cell_at) .none kV1 dc1 pm1 an1 cd1 ct1), sl1⟩)
    (c1 : PySem.W.codeIn K cd1 "_law_cell_at" = true)
    (k1 : PySem.W.keepIn K (.ref f1) = true)
    (a2 : PySem.W.nsIn K mainGlobals "_law_bits" = some (some (.ref f2)))
    (l2 : K.lookup f2 = some ⟨oc2, od2, .func (PySem.W.fnOf "_law_bits" "_law_bits" (defArgs s_law_bits) (defBody s_law_bits) (defScope s_law_bits) .none kV2 dc2 pm2 an2 cd2 ct2), sl2⟩)
    (c2 : PySem.W.codeIn K cd2 "_law_bits" = true)
    (k2 : PySem.W.keepIn K (.ref f2) = true)
    (a3 : PySem.W.nsIn K mainGlobals "_law_among" = some (some (.ref f3)))
    (l3 : K.lookup f3 = some ⟨oc3, od3, .func (PySem.W.fnOf "_law_among" "_law_among" (defArgs s_law_among) (defBody s_law_among) (defScope s_law_among) .none kV3 dc3 pm3 an3 cd3 ct3), sl3⟩)
    (c3 : PySem.W.codeIn K cd3 "_law_among" = true)
    (k3 : PySem.W.keepIn K (.ref f3) = true)
    (a4 : PySem.W.nsIn K mainGlobals "_law_round_from" = some (some (.ref f4)))
    (l4 : K.lookup f4 = some ⟨oc4, od4, .func (PySem.W.fnOf "_law_round_from" "_law_round_from" (defArgs s_law_round_from) (defBody s_law_round_from) (defScope s_law_round_from) .none kV4 dc4 pm4 an4 cd4 ct4), sl4⟩)
    (c4 : PySem.W.codeIn K cd4 "_law_round_from" = true)
    (k4 : PySem.W.keepIn K (.ref f4) = true)
    (a5 : PySem.W.nsIn K mainGlobals "_law_pairs" = some (some (.ref f5)))
    (l5 : K.lookup f5 = some ⟨oc5, od5, .func (PySem.W.fnOf "_law_pairs" "_law_pairs" (defArgs s_law_pairs) (defBody s_law_pairs) (defScope s_law_pairs) .none kV5 dc5 pm5 an5 cd5 ct5), sl5⟩)
    (c5 : PySem.W.codeIn K cd5 "_law_pairs" = true)
    (k5 : PySem.W.keepIn K (.ref f5) = true)
    (a6 : PySem.W.nsIn K mainGlobals "_law_heard" = some (some (.ref f6)))
    (l6 : K.lookup f6 = some ⟨oc6, od6, .func (PySem.W.fnOf "_law_heard" "_law_heard" (defArgs s_law_heard) (defBody s_law_heard) (defScope s_law_heard) .none kV6 dc6 pm6 an6 cd6 ct6), sl6⟩)
    (c6 : PySem.W.codeIn K cd6 "_law_heard" = true)
    (k6 : PySem.W.keepIn K (.ref f6) = true)
    (a7 : PySem.W.nsIn K mainGlobals "_law_begun" = some (some (.ref f7)))
    (l7 : K.lookup f7 = some ⟨oc7, od7, .func (PySem.W.fnOf "_law_begun" "_law_begun" (defArgs s_law_begun) (defBody s_law_begun) (defScope s_law_begun) .none kV7 dc7 pm7 an7 cd7 ct7), sl7⟩)
    (c7 : PySem.W.codeIn K cd7 "_law_begun" = true)
    (k7 : PySem.W.keepIn K (.ref f7) = true)
    (a8 : PySem.W.nsIn K mainGlobals "_law_held" = some (some (.ref f8)))
    (l8 : K.lookup f8 = some ⟨oc8, od8, .func (PySem.W.fnOf "_law_held" "_law_held" (defArgs s_law_held) (defBody s_law_held) (defScope s_law_held) .none kV8 dc8 pm8 an8 cd8 ct8), sl8⟩)
    (c8 : PySem.W.codeIn K cd8 "_law_held" = true)
    (k8 : PySem.W.keepIn K (.ref f8) = true)
    (a9 : PySem.W.nsIn K mainGlobals "_law_taken" = some (some (.ref f9)))
    (l9 : K.lookup f9 = some ⟨oc9, od9, .func (PySem.W.fnOf "_law_taken" "_law_taken" (defArgs s_law_taken) (defBody s_law_taken) (defScope s_law_taken) .none kV9 dc9 pm9 an9 cd9 ct9), sl9⟩)
    (c9 : PySem.W.codeIn K cd9 "_law_taken" = true)
    (k9 : PySem.W.keepIn K (.ref f9) = true)
    (a10 : PySem.W.nsIn K mainGlobals "_law_none_made" = some (some (.ref f10)))
    (l10 : K.lookup f10 = some ⟨oc10, od10, .func (PySem.W.fnOf "_law_none_made" "_law_none_made" (defArgs s_law_none_made) (defBody s_law_none_made) (defScope s_law_none_made) .none kV10 dc10 pm10 an10 cd10 ct10), sl10⟩)
    (c10 : PySem.W.codeIn K cd10 "_law_none_made" = true)
    (k10 : PySem.W.keepIn K (.ref f10) = true)
    (a11 : PySem.W.nsIn K mainGlobals "_law_dead" = some (some (.ref f11)))
    (l11 : K.lookup f11 = some ⟨oc11, od11, .func (PySem.W.fnOf "_law_dead" "_law_dead" (defArgs s_law_dead) (defBody s_law_dead) (defScope s_law_dead) .none kV11 dc11 pm11 an11 cd11 ct11), sl11⟩)
    (c11 : PySem.W.codeIn K cd11 "_law_dead" = true)
    (k11 : PySem.W.keepIn K (.ref f11) = true)
    (a12 : PySem.W.nsIn K mainGlobals "_law_second" = some (some (.ref f12)))
    (l12 : K.lookup f12 = some ⟨oc12, od12, .func (PySem.W.fnOf "_law_second" "_law_second" (defArgs s_law_second) (defBody s_law_second) (defScope s_law_second) .none kV12 dc12 pm12 an12 cd12 ct12), sl12⟩)
    (c12 : PySem.W.codeIn K cd12 "_law_second" = true)
    (k12 : PySem.W.keepIn K (.ref f12) = true)
    (a13 : PySem.W.nsIn K mainGlobals "_law_end" = some (some (.ref f13)))
    (l13 : K.lookup f13 = some ⟨oc13, od13, .func (PySem.W.fnOf "_law_end" "_law_end" (defArgs s_law_end) (defBody s_law_end) (defScope s_law_end) .none kV13 dc13 pm13 an13 cd13 ct13), sl13⟩)
    (c13 : PySem.W.codeIn K cd13 "_law_end" = true)
    (k13 : PySem.W.keepIn K (.ref f13) = true)
    (a14 : PySem.W.nsIn K mainGlobals "law" = some (some (.ref f14)))
    (l14 : K.lookup f14 = some ⟨oc14, od14, .func (PySem.W.fnOf "law" "law" (defArgs s_law) (defBody s_law) (defScope s_law) .none kV14 dc14 pm14 an14 cd14 ct14), sl14⟩)
    (c14 : PySem.W.codeIn K cd14 "law" = true)
    (k14 : PySem.W.keepIn K (.ref f14) = true)
    (a15 : PySem.W.findIn K (.ref C_Seat) "__init__" = some (some (.ref f15)))
    (i15 : PySem.W.isFn K (.ref f15) = true)
    (l15 : K.lookup f15 = some ⟨oc15, od15, .func (PySem.W.fnOf "__init__" "Seat.__init__" (defArgs s_Seat__init) (defBody s_Seat__init) (defScope s_Seat__init) .none kV15 dc15 pm15 an15 cd15 ct15), sl15⟩)
    (c15 : PySem.W.codeIn K cd15 "Seat.__init__" = true)
    (k15 : PySem.W.keepIn K (.ref f15) = true)
    (a16 : PySem.W.findIn K (.ref C_Key) "__init__" = some (some (.ref f16)))
    (i16 : PySem.W.isFn K (.ref f16) = true)
    (l16 : K.lookup f16 = some ⟨oc16, od16, .func (PySem.W.fnOf "__init__" "Key.__init__" (defArgs s_Key__init) (defBody s_Key__init) (defScope s_Key__init) .none kV16 dc16 pm16 an16 cd16 ct16), sl16⟩)
    (c16 : PySem.W.codeIn K cd16 "Key.__init__" = true)
    (k16 : PySem.W.keepIn K (.ref f16) = true)
    (a17 : PySem.W.findIn K (.ref C_Key) "told" = some (some (.ref f17)))
    (i17 : PySem.W.isFn K (.ref f17) = true)
    (l17 : K.lookup f17 = some ⟨oc17, od17, .func (PySem.W.fnOf "told" "Key.told" (defArgs s_Key_told) (defBody s_Key_told) (defScope s_Key_told) .none kV17 dc17 pm17 an17 cd17 ct17), sl17⟩)
    (c17 : PySem.W.codeIn K cd17 "Key.told" = true)
    (k17 : PySem.W.keepIn K (.ref f17) = true)
    (a18 : PySem.W.findIn K (.ref C_Key) "serve" = some (some (.ref f18)))
    (i18 : PySem.W.isFn K (.ref f18) = true)
    (l18 : K.lookup f18 = some ⟨oc18, od18, .func (PySem.W.fnOf "serve" "Key.serve" (defArgs s_Key_serve) (defBody s_Key_serve) (defScope s_Key_serve) .none kV18 dc18 pm18 an18 cd18 ct18), sl18⟩)
    (c18 : PySem.W.codeIn K cd18 "Key.serve" = true)
    (k18 : PySem.W.keepIn K (.ref f18) = true)
    (a19 : PySem.W.findIn K (.ref C_Key) "renew" = some (some (.ref f19)))
    (i19 : PySem.W.isFn K (.ref f19) = true)
    (l19 : K.lookup f19 = some ⟨oc19, od19, .func (PySem.W.fnOf "renew" "Key.renew" (defArgs s_Key_renew) (defBody s_Key_renew) (defScope s_Key_renew) .none kV19 dc19 pm19 an19 cd19 ct19), sl19⟩)
    (c19 : PySem.W.codeIn K cd19 "Key.renew" = true)
    (k19 : PySem.W.keepIn K (.ref f19) = true)
    (a20 : PySem.W.findIn K (.ref C_Key) "line_up" = some (some (.ref f20)))
    (i20 : PySem.W.isFn K (.ref f20) = true)
    (l20 : K.lookup f20 = some ⟨oc20, od20, .func (PySem.W.fnOf "line_up" "Key.line_up" (defArgs s_Key_line_up) (defBody s_Key_line_up) (defScope s_Key_line_up) .none kV20 dc20 pm20 an20 cd20 ct20), sl20⟩)
    (c20 : PySem.W.codeIn K cd20 "Key.line_up" = true)
    (k20 : PySem.W.keepIn K (.ref f20) = true)
    (a21 : PySem.W.findIn K (.ref C_Key) "take_first" = some (some (.ref f21)))
    (i21 : PySem.W.isFn K (.ref f21) = true)
    (l21 : K.lookup f21 = some ⟨oc21, od21, .func (PySem.W.fnOf "take_first" "Key.take_first" (defArgs s_Key_take_first) (defBody s_Key_take_first) (defScope s_Key_take_first) .none kV21 dc21 pm21 an21 cd21 ct21), sl21⟩)
    (c21 : PySem.W.codeIn K cd21 "Key.take_first" = true)
    (k21 : PySem.W.keepIn K (.ref f21) = true)
    (a22 : PySem.W.findIn K (.ref C_Key) "_is_due" = some (some (.ref f22)))
    (i22 : PySem.W.isFn K (.ref f22) = true)
    (l22 : K.lookup f22 = some ⟨oc22, od22, .func (PySem.W.fnOf "_is_due" "Key._is_due" (defArgs s_Key_is_due) (defBody s_Key_is_due) (defScope s_Key_is_due) .none kV22 dc22 pm22 an22 cd22 ct22), sl22⟩)
    (c22 : PySem.W.codeIn K cd22 "Key._is_due" = true)
    (k22 : PySem.W.keepIn K (.ref f22) = true)
    (a23 : PySem.W.findIn K (.ref C_Caller) "ask" = some (some (.ref f23)))
    (i23 : PySem.W.isFn K (.ref f23) = true)
    (l23 : K.lookup f23 = some ⟨oc23, od23, .func (PySem.W.fnOf "ask" "Caller.ask" (defArgs s_Caller_ask) (defBody s_Caller_ask) (defScope s_Caller_ask) .none kV23 dc23 pm23 an23 cd23 ct23), sl23⟩)
    (c23 : PySem.W.codeIn K cd23 "Caller.ask" = true)
    (k23 : PySem.W.keepIn K (.ref f23) = true)
    (a24 : PySem.W.findIn K (.ref C_Caller) "leave" = some (some (.ref f24)))
    (i24 : PySem.W.isFn K (.ref f24) = true)
    (l24 : K.lookup f24 = some ⟨oc24, od24, .func (PySem.W.fnOf "leave" "Caller.leave" (defArgs s_Caller_leave) (defBody s_Caller_leave) (defScope s_Caller_leave) .none kV24 dc24 pm24 an24 cd24 ct24), sl24⟩)
    (c24 : PySem.W.codeIn K cd24 "Caller.leave" = true)
    (k24 : PySem.W.keepIn K (.ref f24) = true)
    (a25 : PySem.W.findIn K (.ref C_Caller) "hear" = some (some (.ref f25)))
    (i25 : PySem.W.isFn K (.ref f25) = true)
    (l25 : K.lookup f25 = some ⟨oc25, od25, .func (PySem.W.fnOf "hear" "Caller.hear" (defArgs s_Caller_hear) (defBody s_Caller_hear) (defScope s_Caller_hear) .none kV25 dc25 pm25 an25 cd25 ct25), sl25⟩)
    (c25 : PySem.W.codeIn K cd25 "Caller.hear" = true)
    (k25 : PySem.W.keepIn K (.ref f25) = true)
    (a26 : PySem.W.findIn K (.ref C_Caller) "gone" = some (some (.ref f26)))
    (i26 : PySem.W.isFn K (.ref f26) = true)
    (l26 : K.lookup f26 = some ⟨oc26, od26, .func (PySem.W.fnOf "gone" "Caller.gone" (defArgs s_Caller_gone) (defBody s_Caller_gone) (defScope s_Caller_gone) .none kV26 dc26 pm26 an26 cd26 ct26), sl26⟩)
    (c26 : PySem.W.codeIn K cd26 "Caller.gone" = true)
    (k26 : PySem.W.keepIn K (.ref f26) = true)
    (a27 : PySem.W.findIn K (.ref C_Caller) "bears" = some (some (.ref f27)))
    (i27 : PySem.W.isFn K (.ref f27) = true)
    (l27 : K.lookup f27 = some ⟨oc27, od27, .func (PySem.W.fnOf "bears" "Caller.bears" (defArgs s_Caller_bears) (defBody s_Caller_bears) (defScope s_Caller_bears) .none kV27 dc27 pm27 an27 cd27 ct27), sl27⟩)
    (c27 : PySem.W.codeIn K cd27 "Caller.bears" = true)
    (k27 : PySem.W.keepIn K (.ref f27) = true)
    (a28 : PySem.W.findIn K (.ref C_Caller) "awaits" = some (some (.ref f28)))
    (i28 : PySem.W.isFn K (.ref f28) = true)
    (l28 : K.lookup f28 = some ⟨oc28, od28, .func (PySem.W.fnOf "awaits" "Caller.awaits" (defArgs s_Caller_awaits) (defBody s_Caller_awaits) (defScope s_Caller_awaits) .none kV28 dc28 pm28 an28 cd28 ct28), sl28⟩)
    (c28 : PySem.W.codeIn K cd28 "Caller.awaits" = true)
    (k28 : PySem.W.keepIn K (.ref f28) = true)
    (a29 : PySem.W.findIn K (.ref C_Caller) "_to_others" = some (some (.ref f29)))
    (i29 : PySem.W.isFn K (.ref f29) = true)
    (l29 : K.lookup f29 = some ⟨oc29, od29, .func (PySem.W.fnOf "_to_others" "Caller._to_others" (defArgs s_Caller_to_others) (defBody s_Caller_to_others) (defScope s_Caller_to_others) .none kV29 dc29 pm29 an29 cd29 ct29), sl29⟩)
    (c29 : PySem.W.codeIn K cd29 "Caller._to_others" = true)
    (k29 : PySem.W.keepIn K (.ref f29) = true)
    (a30 : PySem.W.findIn K (.ref C_Caller) "_learn" = some (some (.ref f30)))
    (i30 : PySem.W.isFn K (.ref f30) = true)
    (l30 : K.lookup f30 = some ⟨oc30, od30, .func (PySem.W.fnOf "_learn" "Caller._learn" (defArgs s_Caller_learn) (defBody s_Caller_learn) (defScope s_Caller_learn) .none kV30 dc30 pm30 an30 cd30 ct30), sl30⟩)
    (c30 : PySem.W.codeIn K cd30 "Caller._learn" = true)
    (k30 : PySem.W.keepIn K (.ref f30) = true)
    (a31 : PySem.W.findIn K (.ref C_Caller) "_hear_ask" = some (some (.ref f31)))
    (i31 : PySem.W.isFn K (.ref f31) = true)
    (l31 : K.lookup f31 = some ⟨oc31, od31, .func (PySem.W.fnOf "_hear_ask" "Caller._hear_ask" (defArgs s_Caller_hear_ask) (defBody s_Caller_hear_ask) (defScope s_Caller_hear_ask) .none kV31 dc31 pm31 an31 cd31 ct31), sl31⟩)
    (c31 : PySem.W.codeIn K cd31 "Caller._hear_ask" = true)
    (k31 : PySem.W.keepIn K (.ref f31) = true)
    (a32 : PySem.W.findIn K (.ref C_Caller) "_hear_key" = some (some (.ref f32)))
    (i32 : PySem.W.isFn K (.ref f32) = true)
    (l32 : K.lookup f32 = some ⟨oc32, od32, .func (PySem.W.fnOf "_hear_key" "Caller._hear_key" (defArgs s_Caller_hear_key) (defBody s_Caller_hear_key) (defScope s_Caller_hear_key) .none kV32 dc32 pm32 an32 cd32 ct32), sl32⟩)
    (c32 : PySem.W.codeIn K cd32 "Caller._hear_key" = true)
    (k32 : PySem.W.keepIn K (.ref f32) = true)
    (a33 : PySem.W.findIn K (.ref C_Caller) "_hear_round" = some (some (.ref f33)))
    (i33 : PySem.W.isFn K (.ref f33) = true)
    (l33 : K.lookup f33 = some ⟨oc33, od33, .func (PySem.W.fnOf "_hear_round" "Caller._hear_round" (defArgs s_Caller_hear_round) (defBody s_Caller_hear_round) (defScope s_Caller_hear_round) .none kV33 dc33 pm33 an33 cd33 ct33), sl33⟩)
    (c33 : PySem.W.codeIn K cd33 "Caller._hear_round" = true)
    (k33 : PySem.W.keepIn K (.ref f33) = true)
    (a34 : PySem.W.findIn K (.ref C_Caller) "_hear_pledge" = some (some (.ref f34)))
    (i34 : PySem.W.isFn K (.ref f34) = true)
    (l34 : K.lookup f34 = some ⟨oc34, od34, .func (PySem.W.fnOf "_hear_pledge" "Caller._hear_pledge" (defArgs s_Caller_hear_pledge) (defBody s_Caller_hear_pledge) (defScope s_Caller_hear_pledge) .none kV34 dc34 pm34 an34 cd34 ct34), sl34⟩)
    (c34 : PySem.W.codeIn K cd34 "Caller._hear_pledge" = true)
    (k34 : PySem.W.keepIn K (.ref f34) = true)
    (a35 : PySem.W.findIn K (.ref C_Caller) "_begin" = some (some (.ref f35)))
    (i35 : PySem.W.isFn K (.ref f35) = true)
    (l35 : K.lookup f35 = some ⟨oc35, od35, .func (PySem.W.fnOf "_begin" "Caller._begin" (defArgs s_Caller_begin) (defBody s_Caller_begin) (defScope s_Caller_begin) .none kV35 dc35 pm35 an35 cd35 ct35), sl35⟩)
    (c35 : PySem.W.codeIn K cd35 "Caller._begin" = true)
    (k35 : PySem.W.keepIn K (.ref f35) = true)
    (a36 : PySem.W.findIn K (.ref C_Caller) "_pledge" = some (some (.ref f36)))
    (i36 : PySem.W.isFn K (.ref f36) = true)
    (l36 : K.lookup f36 = some ⟨oc36, od36, .func (PySem.W.fnOf "_pledge" "Caller._pledge" (defArgs s_Caller_pledge) (defBody s_Caller_pledge) (defScope s_Caller_pledge) .none kV36 dc36 pm36 an36 cd36 ct36), sl36⟩)
    (c36 : PySem.W.codeIn K cd36 "Caller._pledge" = true)
    (k36 : PySem.W.keepIn K (.ref f36) = true)
    (a37 : PySem.W.findIn K (.ref C_Caller) "_hand_on" = some (some (.ref f37)))
    (i37 : PySem.W.isFn K (.ref f37) = true)
    (l37 : K.lookup f37 = some ⟨oc37, od37, .func (PySem.W.fnOf "_hand_on" "Caller._hand_on" (defArgs s_Caller_hand_on) (defBody s_Caller_hand_on) (defScope s_Caller_hand_on) .none kV37 dc37 pm37 an37 cd37 ct37), sl37⟩)
    (c37 : PySem.W.codeIn K cd37 "Caller._hand_on" = true)
    (k37 : PySem.W.keepIn K (.ref f37) = true)
    (n_Caller_me : PySem.W.findIn K (.ref C_Caller) "me" = some none)
    (n_Caller_state : PySem.W.findIn K (.ref C_Caller) "state" = some none)
    (n_Caller_sits : PySem.W.findIn K (.ref C_Caller) "sits" = some none)
    (n_Caller_round : PySem.W.findIn K (.ref C_Caller) "round" = some none)
    (n_Caller__roster : PySem.W.findIn K (.ref C_Caller) "_roster" = some none)
    (n_Caller__numbers : PySem.W.findIn K (.ref C_Caller) "_numbers" = some none)
    (n_Caller__key : PySem.W.findIn K (.ref C_Caller) "_key" = some none)
    (n_Caller__begun : PySem.W.findIn K (.ref C_Caller) "_begun" = some none)
    (n_Caller__pledges : PySem.W.findIn K (.ref C_Caller) "_pledges" = some none)
    (n_Key_round : PySem.W.findIn K (.ref C_Key) "round" = some none)
    (n_Key__served : PySem.W.findIn K (.ref C_Key) "_served" = some none)
    (n_Key__line : PySem.W.findIn K (.ref C_Key) "_line" = some none)
    (i1 : PySem.W.findIn K (.ref C_Caller) "__init__" = some (some (.ref fI)))
    (i2 : PySem.W.isFn K (.ref fI) = true)
    (i3 : K.lookup fI = some ⟨ocI, odI, .func (PySem.W.ksFn "__init__" "Caller.__init__" (defArgs s_Caller__init) (defBody s_Caller__init) (defScope s_Caller__init) .none (.ref Dk) dcI pmI anI (.ref cda) ctI cc), oslI⟩)
    (ii4 : PySem.W.codeIn K (.ref cda) "Caller.__init__" = true)
    (ii5 : K.lookup cc = some ⟨clI, cldI, .cell (some (.ref C_Caller)), csl⟩)
    (ii6 : K.lookup cda = some ⟨ccl, cdd, .fields vs, ccs⟩)
    (w7 : vs[2]? = some (.str file tf))
    (w8 : ((P.main.file : Str) == file) = true)
    (w9 : PySem.W.clsIn K C_Caller = some cdD)
    (ii10 : PySem.W.nsIn K mainGlobals "super" = some none)
    (w11 : (P.main.scope.names.lookup ("super" : Str)).isSome = false)
    (ii12 : PySem.W.nsIn K cStatics "thirdparty.any" = some none)
    (w13 : PySem.W.mroIn K C_Caller (.ref C_Caller) = some true)
    (w14 : PySem.W.ks_superIn K C_Caller C_Caller "__init__" = some (some (.ref f15)))
    (ii15 : PySem.W.typeIn K (.ref f15) = some (.type "function"))
    (w16 : PySem.W.fnIn K f15 = true)
    (ii17 : PySem.W.nsIn K Dk "first" = some (some (.int 0 td)))
    (ik1 : PySem.W.findIn K (.ref C_Key) "__init__" = some (some (.ref f16)))
    (ik2 : PySem.W.isFn K (.ref f16) = true)
    (b_len : PySem.W.nsIn K mainGlobals "len" = some none)
    (b_range : PySem.W.nsIn K mainGlobals "range" = some none)
    (b_tuple : PySem.W.nsIn K mainGlobals "tuple" = some none)
    (b_list : PySem.W.nsIn K mainGlobals "list" = some none)
    (b_isinstance : PySem.W.nsIn K mainGlobals "isinstance" = some none)
    (b_bool : PySem.W.nsIn K mainGlobals "bool" = some none)
    (b_sorted : PySem.W.nsIn K mainGlobals "sorted" = some none)
    (b_int : PySem.W.nsIn K mainGlobals "int" = some none)
    (b_max : PySem.W.nsIn K mainGlobals "max" = some none)
    (b_any : PySem.W.nsIn K mainGlobals "any" = some none) :
    ∃ fd : FuncData, (∀ (s : Shared) (v : Value), BindsTo s fd ⟨[v], []⟩ [("script", v)]) ∧
      ∀ base : Heap, K.In base → base.Ns mainGlobals mg → FnG P w K mg base CX0 9 fa fd ["script"] (spLaw K) := by
  have F_law_cell_at : Fn K mg "_law_cell_at" s_law_cell_at := fn_top X G a1 l1 c1 k1
  have F_law_bits : Fn K mg "_law_bits" s_law_bits := fn_top X G a2 l2 c2 k2
  have F_law_among : Fn K mg "_law_among" s_law_among := fn_top X G a3 l3 c3 k3
  have F_law_round_from : Fn K mg "_law_round_from" s_law_round_from := fn_top X G a4 l4 c4 k4
  have F_law_pairs : Fn K mg "_law_pairs" s_law_pairs := fn_top X G a5 l5 c5 k5
  have F_law_heard : Fn K mg "_law_heard" s_law_heard := fn_top X G a6 l6 c6 k6
  have F_law_begun : Fn K mg "_law_begun" s_law_begun := fn_top X G a7 l7 c7 k7
  have F_law_held : Fn K mg "_law_held" s_law_held := fn_top X G a8 l8 c8 k8
  have F_law_taken : Fn K mg "_law_taken" s_law_taken := fn_top X G a9 l9 c9 k9
  have F_law_none_made : Fn K mg "_law_none_made" s_law_none_made := fn_top X G a10 l10 c10 k10
  have F_law_dead : Fn K mg "_law_dead" s_law_dead := fn_top X G a11 l11 c11 k11
  have F_law_second : Fn K mg "_law_second" s_law_second := fn_top X G a12 l12 c12 k12
  have F_law_end : Fn K mg "_law_end" s_law_end := fn_top X G a13 l13 c13 k13
  have F_law : Fn K mg "law" s_law := fn_top X G a14 l14 c14 k14
  have M_Seat__init : Fm K C_Seat "__init__" "Seat.__init__" s_Seat__init := fm_top a15 i15 l15 c15 k15
  have M_Key__init : Fm K C_Key "__init__" "Key.__init__" s_Key__init := fm_top a16 i16 l16 c16 k16
  have M_Key_told : Fm K C_Key "told" "Key.told" s_Key_told := fm_top a17 i17 l17 c17 k17
  have M_Key_serve : Fm K C_Key "serve" "Key.serve" s_Key_serve := fm_top a18 i18 l18 c18 k18
  have M_Key_renew : Fm K C_Key "renew" "Key.renew" s_Key_renew := fm_top a19 i19 l19 c19 k19
  have M_Key_line_up : Fm K C_Key "line_up" "Key.line_up" s_Key_line_up := fm_top a20 i20 l20 c20 k20
  have M_Key_take_first : Fm K C_Key "take_first" "Key.take_first" s_Key_take_first := fm_top a21 i21 l21 c21 k21
  have M_Key_is_due : Fm K C_Key "_is_due" "Key._is_due" s_Key_is_due := fm_top a22 i22 l22 c22 k22
  have M_Caller_ask : Fm K C_Caller "ask" "Caller.ask" s_Caller_ask := fm_top a23 i23 l23 c23 k23
  have M_Caller_leave : Fm K C_Caller "leave" "Caller.leave" s_Caller_leave := fm_top a24 i24 l24 c24 k24
  have M_Caller_hear : Fm K C_Caller "hear" "Caller.hear" s_Caller_hear := fm_top a25 i25 l25 c25 k25
  have M_Caller_gone : Fm K C_Caller "gone" "Caller.gone" s_Caller_gone := fm_top a26 i26 l26 c26 k26
  have M_Caller_bears : Fm K C_Caller "bears" "Caller.bears" s_Caller_bears := fm_top a27 i27 l27 c27 k27
  have M_Caller_awaits : Fm K C_Caller "awaits" "Caller.awaits" s_Caller_awaits := fm_top a28 i28 l28 c28 k28
  have M_Caller_to_others : Fm K C_Caller "_to_others" "Caller._to_others" s_Caller_to_others := fm_top a29 i29 l29 c29 k29
  have M_Caller_learn : Fm K C_Caller "_learn" "Caller._learn" s_Caller_learn := fm_top a30 i30 l30 c30 k30
  have M_Caller_hear_ask : Fm K C_Caller "_hear_ask" "Caller._hear_ask" s_Caller_hear_ask := fm_top a31 i31 l31 c31 k31
  have M_Caller_hear_key : Fm K C_Caller "_hear_key" "Caller._hear_key" s_Caller_hear_key := fm_top a32 i32 l32 c32 k32
  have M_Caller_hear_round : Fm K C_Caller "_hear_round" "Caller._hear_round" s_Caller_hear_round := fm_top a33 i33 l33 c33 k33
  have M_Caller_hear_pledge : Fm K C_Caller "_hear_pledge" "Caller._hear_pledge" s_Caller_hear_pledge := fm_top a34 i34 l34 c34 k34
  have M_Caller_begin : Fm K C_Caller "_begin" "Caller._begin" s_Caller_begin := fm_top a35 i35 l35 c35 k35
  have M_Caller_pledge : Fm K C_Caller "_pledge" "Caller._pledge" s_Caller_pledge := fm_top a36 i36 l36 c36 k36
  have M_Caller_hand_on : Fm K C_Caller "_hand_on" "Caller._hand_on" s_Caller_hand_on := fm_top a37 i37 l37 c37 k37
  have B_len := PySem.W.mg_none_of X G b_len
  have B_range := PySem.W.mg_none_of X G b_range
  have B_tuple := PySem.W.mg_none_of X G b_tuple
  have B_list := PySem.W.mg_none_of X G b_list
  have B_isinstance := PySem.W.mg_none_of X G b_isinstance
  have B_bool := PySem.W.mg_none_of X G b_bool
  have B_sorted := PySem.W.mg_none_of X G b_sorted
  have B_int := PySem.W.mg_none_of X G b_int
  have B_max := PySem.W.mg_none_of X G b_max
  have B_any := PySem.W.mg_none_of X G b_any
  have T_Caller : Cls K C_Caller := ⟨pg_Caller, hd_Caller, po_Caller, sa_Caller⟩
  have G_Caller := PySem.W.mg_of X G aC_Caller
  have T_Seat : Cls K C_Seat := ⟨pg_Seat, hd_Seat, po_Seat, sa_Seat⟩
  have G_Seat := PySem.W.mg_of X G aC_Seat
  have T_Key : Cls K C_Key := ⟨pg_Key, hd_Key, po_Key, sa_Key⟩
  have G_Key := PySem.W.mg_of X G aC_Key
  have S : CalT K C_Caller := ⟨T_Caller, n_Caller_me, n_Caller_state, n_Caller_sits, n_Caller_round, n_Caller__roster, n_Caller__numbers, n_Caller__key, n_Caller__begun, n_Caller__pledges⟩
  have KT : KeyT K C_Key := ⟨T_Key, n_Key_round, n_Key__served, n_Key__line⟩
  have T : BlC71 mg := ⟨B_len, B_range, B_list, B_tuple, B_sorted, B_isinstance, B_int, B_bool⟩
  exact law_end F_law hfa (fun _ _ _ _ _ _ s v => .of_eq rfl) fun base _ _ => whole T B_max B_any S KT
    (made_of T S G_Caller mk_Caller kc_Caller (fun_mk l15 c15 k15) i1 i2 i3 ii4 ii5 ii6 w7 w8 w9 ii10 w11 ii12 w13 w14 ii15 w16 ii17 KT ⟨mk_Key, ik1, ik2, kc_Key⟩ (fun_mk l16 c16 k16) G_Key)
    ⟨mk_Key, ik1, ik2, kc_Key⟩ (fun_mk l16 c16 k16) G_Key
    F_law_cell_at F_law_bits F_law_among F_law_round_from F_law_pairs F_law_heard F_law_begun F_law_held F_law_taken F_law_none_made F_law_dead F_law_second F_law_end F_law
    M_Key_told M_Key_serve M_Key_renew M_Key_line_up M_Key_take_first M_Key_is_due M_Caller_ask M_Caller_leave M_Caller_hear M_Caller_gone M_Caller_bears M_Caller_awaits M_Caller_to_others M_Caller_learn M_Caller_hear_ask M_Caller_hear_key M_Caller_hear_round M_Caller_hear_pledge M_Caller_begin M_Caller_pledge M_Caller_hand_on
end G0
open PySem PySem.W PyProof.Rows in
set_option maxRecDepth 100000 in
set_option maxHeartbeats 0 in
theorem PySem.Challenge.cw_soleseat_k00_a_key_lives_on_holds : PySem.Challenge.rw_soleseat_k00_a_key_lives_on.Holds := by
  w_on; o_law; k_head; (case hw => w_witness2)
  k_fill
  refine G0.walk_ofGB (l := PySem.Challenge.rw_soleseat_k00_a_key_lives_on) (n := 63) (k := 9) (x := "script") (sp := G0.spLaw) rfl (by decide) rfl ⟨rfl, by decide, by decide⟩ (fun w h Y => PySem.W.kIn_of Y) ?F (fun K H a ns hl bits _ hS => ⟨a, ns, rfl, hS, bits, fun _ => rfl⟩)
  case F =>
    intro w mg fa h KX G hmg
    refine' G0.all_mk KX G hmg ?aC_Caller ?pg_Caller ?hd_Caller ?po_Caller ?sa_Caller ?mk_Caller ?kc_Caller ?aC_Seat ?pg_Seat ?hd_Seat ?po_Seat ?sa_Seat ?mk_Seat ?kc_Seat ?aC_Key ?pg_Key ?hd_Key ?po_Key ?sa_Key ?mk_Key ?kc_Key ?a1 ?l1 ?c1 ?k1 ?a2 ?l2 ?c2 ?k2 ?a3 ?l3 ?c3 ?k3 ?a4 ?l4 ?c4 ?k4 ?a5 ?l5 ?c5 ?k5 ?a6 ?l6 ?c6 ?k6 ?a7 ?l7 ?c7 ?k7 ?a8 ?l8 ?c8 ?k8 ?a9 ?l9 ?c9 ?k9 ?a10 ?l10 ?c10 ?k10 ?a11 ?l11 ?c11 ?k11 ?a12 ?l12 ?c12 ?k12 ?a13 ?l13 ?c13 ?k13 ?a14 ?l14 ?c14 ?k14 ?a15 ?i15 ?l15 ?c15 ?k15 ?a16 ?i16 ?l16 ?c16 ?k16 ?a17 ?i17 ?l17 ?c17 ?k17 ?a18 ?i18 ?l18 ?c18 ?k18 ?a19 ?i19 ?l19 ?c19 ?k19 ?a20 ?i20 ?l20 ?c20 ?k20 ?a21 ?i21 ?l21 ?c21 ?k21 ?a22 ?i22 ?l22 ?c22 ?k22 ?a23 ?i23 ?l23 ?c23 ?k23 ?a24 ?i24 ?l24 ?c24 ?k24 ?a25 ?i25 ?l25 ?c25 ?k25 ?a26 ?i26 ?l26 ?c26 ?k26 ?a27 ?i27 ?l27 ?c27 ?k27 ?a28 ?i28 ?l28 ?c28 ?k28 ?a29 ?i29 ?l29 ?c29 ?k29 ?a30 ?i30 ?l30 ?c30 ?k30 ?a31 ?i31 ?l31 ?c31 ?k31 ?a32 ?i32 ?l32 ?c32 ?k32 ?a33 ?i33 ?l33 ?c33 ?k33 ?a34 ?i34 ?l34 ?c34 ?k34 ?a35 ?i35 ?l35 ?c35 ?k35 ?a36 ?i36 ?l36 ?c36 ?k36 ?a37 ?i37 ?l37 ?c37 ?k37 ?n_Caller_me ?n_Caller_state ?n_Caller_sits ?n_Caller_round ?n_Caller__roster ?n_Caller__numbers ?n_Caller__key ?n_Caller__begun ?n_Caller__pledges ?n_Key_round ?n_Key__served ?n_Key__line ?i1 ?i2 ?i3 ?ii4 ?ii5 ?ii6 ?w7 ?w8 ?w9 ?ii10 ?w11 ?ii12 ?w13 ?w14 ?ii15 ?w16 ?ii17 ?ik1 ?ik2 ?b_len ?b_range ?b_tuple ?b_list ?b_isinstance ?b_bool ?b_sorted ?b_int ?b_max ?b_any
    (case aC_Caller => k_is)
    (case pg_Caller => k_is)
    (case hd_Caller => k_is)
    (case po_Caller => k_is)
    (case sa_Caller => k_is)
    (case mk_Caller => k_is)
    (case kc_Caller => k_is)
    (case aC_Seat => k_is)
    (case pg_Seat => k_is)
    (case hd_Seat => k_is)
    (case po_Seat => k_is)
    (case sa_Seat => k_is)
    (case mk_Seat => k_is)
    (case kc_Seat => k_is)
    (case aC_Key => k_is)
    (case pg_Key => k_is)
    (case hd_Key => k_is)
    (case po_Key => k_is)
    (case sa_Key => k_is)
    (case mk_Key => k_is)
    (case kc_Key => k_is)
    (case a1 => k_is)
    (case l1 => k_is)
    (case c1 => k_is)
    (case k1 => k_is)
    (case a2 => k_is)
    (case l2 => k_is)
    (case c2 => k_is)
    (case k2 => k_is)
    (case a3 => k_is)
    (case l3 => k_is)
    (case c3 => k_is)
    (case k3 => k_is)
    (case a4 => k_is)
    (case l4 => k_is)
    (case c4 => k_is)
    (case k4 => k_is)
    (case a5 => k_is)
    (case l5 => k_is)
    (case c5 => k_is)
    (case k5 => k_is)
    (case a6 => k_is)
    (case l6 => k_is)
    (case c6 => k_is)
    (case k6 => k_is)
    (case a7 => k_is)
    (case l7 => k_is)
    (case c7 => k_is)
    (case k7 => k_is)
    (case a8 => k_is)
    (case l8 => k_is)
    (case c8 => k_is)
    (case k8 => k_is)
    (case a9 => k_is)
    (case l9 => k_is)
    (case c9 => k_is)
    (case k9 => k_is)
    (case a10 => k_is)
    (case l10 => k_is)
    (case c10 => k_is)
    (case k10 => k_is)
    (case a11 => k_is)
    (case l11 => k_is)
    (case c11 => k_is)
    (case k11 => k_is)
    (case a12 => k_is)
    (case l12 => k_is)
    (case c12 => k_is)
    (case k12 => k_is)
    (case a13 => k_is)
    (case l13 => k_is)
    (case c13 => k_is)
    (case k13 => k_is)
    (case a14 => k_is)
    (case l14 => k_is)
    (case c14 => k_is)
    (case k14 => k_is)
    (case a15 => k_is)
    (case i15 => k_is)
    (case l15 => k_is)
    (case c15 => k_is)
    (case k15 => k_is)
    (case a16 => k_is)
    (case i16 => k_is)
    (case l16 => k_is)
    (case c16 => k_is)
    (case k16 => k_is)
    (case a17 => k_is)
    (case i17 => k_is)
    (case l17 => k_is)
    (case c17 => k_is)
    (case k17 => k_is)
    (case a18 => k_is)
    (case i18 => k_is)
    (case l18 => k_is)
    (case c18 => k_is)
    (case k18 => k_is)
    (case a19 => k_is)
    (case i19 => k_is)
    (case l19 => k_is)
    (case c19 => k_is)
    (case k19 => k_is)
    (case a20 => k_is)
    (case i20 => k_is)
    (case l20 => k_is)
    (case c20 => k_is)
    (case k20 => k_is)
    (case a21 => k_is)
    (case i21 => k_is)
    (case l21 => k_is)
    (case c21 => k_is)
    (case k21 => k_is)
    (case a22 => k_is)
    (case i22 => k_is)
    (case l22 => k_is)
    (case c22 => k_is)
    (case k22 => k_is)
    (case a23 => k_is)
    (case i23 => k_is)
    (case l23 => k_is)
    (case c23 => k_is)
    (case k23 => k_is)
    (case a24 => k_is)
    (case i24 => k_is)
    (case l24 => k_is)
    (case c24 => k_is)
    (case k24 => k_is)
    (case a25 => k_is)
    (case i25 => k_is)
    (case l25 => k_is)
    (case c25 => k_is)
    (case k25 => k_is)
    (case a26 => k_is)
    (case i26 => k_is)
    (case l26 => k_is)
    (case c26 => k_is)
    (case k26 => k_is)
    (case a27 => k_is)
    (case i27 => k_is)
    (case l27 => k_is)
    (case c27 => k_is)
    (case k27 => k_is)
    (case a28 => k_is)
    (case i28 => k_is)
    (case l28 => k_is)
    (case c28 => k_is)
    (case k28 => k_is)
    (case a29 => k_is)
    (case i29 => k_is)
    (case l29 => k_is)
    (case c29 => k_is)
    (case k29 => k_is)
    (case a30 => k_is)
    (case i30 => k_is)
    (case l30 => k_is)
    (case c30 => k_is)
    (case k30 => k_is)
    (case a31 => k_is)
    (case i31 => k_is)
    (case l31 => k_is)
    (case c31 => k_is)
    (case k31 => k_is)
    (case a32 => k_is)
    (case i32 => k_is)
    (case l32 => k_is)
    (case c32 => k_is)
    (case k32 => k_is)
    (case a33 => k_is)
    (case i33 => k_is)
    (case l33 => k_is)
    (case c33 => k_is)
    (case k33 => k_is)
    (case a34 => k_is)
    (case i34 => k_is)
    (case l34 => k_is)
    (case c34 => k_is)
    (case k34 => k_is)
    (case a35 => k_is)
    (case i35 => k_is)
    (case l35 => k_is)
    (case c35 => k_is)
    (case k35 => k_is)
    (case a36 => k_is)
    (case i36 => k_is)
    (case l36 => k_is)
    (case c36 => k_is)
    (case k36 => k_is)
    (case a37 => k_is)
    (case i37 => k_is)
    (case l37 => k_is)
    (case c37 => k_is)
    (case k37 => k_is)
    (case n_Caller_me => k_is)
    (case n_Caller_state => k_is)
    (case n_Caller_sits => k_is)
    (case n_Caller_round => k_is)
    (case n_Caller__roster => k_is)
    (case n_Caller__numbers => k_is)
    (case n_Caller__key => k_is)
    (case n_Caller__begun => k_is)
    (case n_Caller__pledges => k_is)
    (case n_Key_round => k_is)
    (case n_Key__served => k_is)
    (case n_Key__line => k_is)
    (case i1 => k_is)
    (case i2 => k_is)
    (case i3 => k_is)
    (case ii4 => k_is)
    (case ii5 => k_is)
    (case ii6 => k_is)
    (case w7 => first | k_is | exact rfl | decide +kernel)
    (case w8 => first | k_is | exact rfl | decide +kernel)
    (case w9 => first | k_is | exact rfl | decide +kernel)
    (case ii10 => k_is)
    (case w11 => first | k_is | exact rfl | decide +kernel)
    (case ii12 => k_is)
    (case w13 => first | k_is | exact rfl | decide +kernel)
    (case w14 => first | k_is | exact rfl | decide +kernel)
    (case ii15 => k_is)
    (case w16 => first | k_is | exact rfl | decide +kernel)
    (case ii17 => k_is)
    (case ik1 => k_is)
    (case ik2 => k_is)
    (case b_len => k_is)
    (case b_range => k_is)
    (case b_tuple => k_is)
    (case b_list => k_is)
    (case b_isinstance => k_is)
    (case b_bool => k_is)
    (case b_sorted => k_is)
    (case b_int => k_is)
    (case b_max => k_is)
    (case b_any => k_is)
#print axioms PySem.Challenge.cw_soleseat_k00_a_key_lives_on_holds
namespace G0

end G0
