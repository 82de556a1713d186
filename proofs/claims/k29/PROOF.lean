import PyProof.Rows.All
import Wide.All
import OpenK.AllK
import Wide.FinOn
import HandS.ForMost
import HandS.Wide
import HandS.Conv
import HandS.TupAny
import HandS.Deep
import HandS.Steps
import HandS.NoneIn
import HandS.IsInst
import HandS.More
import HandS.Defaults
import HandS.TupSets
import HandS.EndBits
import HandS.Nested
import HandS.ExcInit
import HandS.ExcSuper
import HandS.ClsMeth
import KE.KSuper
import KE.KExcSuper
import HandS.Zip
import HandS.IsInst
import HandS.MakeKwOnly
import PySem.Challenge.RW_soleseat_k29_one_going_of_one_seat
set_option Elab.async false
set_option maxRecDepth 100000
set_option maxHeartbeats 1000000
set_option linter.all false
/-! Calls where nothing is under repr around: the layer's defs, with one premise more (no guard around). -/
namespace G0
open PySem PySem.Spec PyProof.Rows L2
structure FnG (P : Program) (w : World) (K : PySem.W.Frag) (mg : Str → Option Value) (base : Heap) (CX : CXT)
    (k : Nat) (f : Addr) (fd : FuncData) (ps : List Str) (sp : Sp) : Prop where
  args : ∀ zs G R W, sp zs G R W → zs.length = ps.length
  runs : ∀ (B : Around) (around : List Env) (t : Shared) (G : Hp) (given : Args) (bound : List Value) (zs : List V) (R : VK) (W : XK),
    B.guards = some [] → Room k B → Env0 P w K mg base B around t G →
    BindsTo t fd given (ps.zip bound) → Vals zs bound → sp zs G R W →
    codeAny (model P w) B (.call (.ref f) given) (CR CX around P w G t R W) t
theorem FnG.of {P : Program} {w : World} {K : PySem.W.Frag} {mg : Str → Option Value} {base : Heap} {CX : CXT}
    {k : Nat} {f : Addr} {fd : FuncData} {ps : List Str} {sp : Sp} (F : FnOk P w K mg base CX k f fd ps sp) :
    FnG P w K mg base CX k f fd ps sp :=
  ⟨F.len, fun B around t G given bound zs R W _ hr => F.run B around t G given bound zs R W hr⟩
theorem FnG.mono {P : Program} {w : World} {K : PySem.W.Frag} {mg : Str → Option Value} {base : Heap} {CX : CXT}
    {j k : Nat} {f : Addr} {fd : FuncData} {ps : List Str} {sp : Sp} (F : FnG P w K mg base CX j f fd ps sp) (h : j ≤ k) :
    FnG P w K mg base CX k f fd ps sp :=
  ⟨F.args, fun B around t G given bound zs R W hg hr => F.runs B around t G given bound zs R W hg (hr.mono h)⟩
section
variable {X : Cx} {CX : CXT} {k : Nat} {f : Addr} {fd : FuncData} {ps : List Str} {sp : Sp}
  {dvs : List V} {ds : List Value} {E : XK} {x : Str} {p pos : Pos} {e : Expr} {es : List Expr} {t : TA}
theorem goes {pins : List (Addr × Obj)} {σ : L2.St} {H : Hp} {s : Shared} {Q : VK} {us : List Value} {vs : List V}
    (F : FnG X.prog X.w X.K X.mg X.base CX k f fd ps sp) (free : X.A.guards = some []) (hr : Room k X.A)
    (hb : Binds X.K fd ps ds) (hd : Vals dvs ds) (hx : Passes CX X E)
    (I : Inv X pins σ H s) (r : Vals vs us) (h : sp (vs ++ dvs) H Q E) :
    wpAny (model X.prog X.w) X.A (call (.ref f) us) (EP X pins σ Q) X.xe s := by
  have both : Vals (vs ++ dvs) (us ++ ds) := r.append hd
  have many : (us ++ ds).length = ps.length := both.length.symm.trans (F.args _ _ _ _ h)
  have it := F.runs X.A X.stack s H ⟨us, []⟩ (us ++ ds) (vs ++ dvs) Q E free hr I.env0 (hb s us I.kIn many) both h
  refine wpAny_call (codeAny_mono it fun out s' told => ?_)
  match out, told with
  | .error e, told => exact hx pins σ H s e s' I told
  | .ok (.ret u), told => exact I.after told
  | .ok .next, told => exact told.elim
  | .ok .brk, told => exact told.elim
  | .ok .cont, told => exact told.elim
theorem pe_callG (F : FnG X.prog X.w X.K X.mg X.base CX k f fd ps sp) (free : X.A.guards = some []) (hr : Room k X.A)
    (hg : Gl X x) (hm : X.mg x = some (.ref f)) (hk : PySem.W.keepIn X.K (.ref f) = true)
    (hb : Binds X.K fd ps ds) (hd : Vals dvs ds) (hx : Passes CX X E) (ha : PA X (e :: es) t)
    (n1 : (x == ("__debug__" : Str)) = false := by decide)
    (n2 : starEach (e :: es) X.env = (false, eval e X.env) :: starEach es X.env := by rfl)
    (n3 : (backTo pos (starEach es X.env)).any (·.1) = false := by rfl) :
    PE X (.Call (.Name x p) (e :: es) [] pos) (tCall sp dvs E t) :=
  ⟨fun pins s σ H Q I h => wpAny_Call_Name_kw (ld_glob I hg hm
    (PySem.W.callWith_K (h₀ := X.base) I.ok.mod.kin hk
      (thn (ha.run pos pins s σ H _ I h) fun us s1 ⟨vs, H1, I1, r, q⟩ =>
        ⟨I1.kIn, goes F free hr hb hd hx I1 r q⟩) n2 n3) n1)⟩
end
/-- a def's body, where nothing is under repr -/
theorem fnG_of {CX : CXT} {P : Program} {w : World} {K : PySem.W.Frag} {mg : Str → Option Value} {base : Heap} {k : Nat}
    {f : Addr} {name qual : Str} {params : Arguments} {body : List Stmt} {scope : Scope} {dV kV doc pm cdv ct oc : Value}
    {an od : Option Addr} {osl : Array (Option Value)} {N ps : List Str} {sp : Sp}
    (lk : K.lookup f = some ⟨oc, od, .func (PySem.W.fnOf name qual params body scope dV kV doc pm an cdv ct), osl⟩)
    (coded : PySem.W.codeIn K cdv qual = true) (S : FnScope N ps scope)
    (len : ∀ zs G R W, sp zs G R W → zs.length = ps.length)
    (inner : ∀ (B : Around) (around : List Env) (t : Shared) (G : Hp) (zs : List V) (R : VK) (W : XK), B.guards = some [] →
      Room k (B.deeper (envOfC qual scope t.heap.objs.size f cdv)) → sp zs G R W →
      ∃ tb, PSs (cxOf CX P w K mg base N qual scope f cdv B around t G W) body tb ∧
        tb { nx := fun _ G' => R .non G', rt := R } (start N zs) G) :
    FnG P w K mg base CX (k + 1) f (PySem.W.fnOf name qual params body scope dV kV doc pm an cdv ct) ps sp := by
  refine ⟨len, fun B around t G given bound zs R W free room e0 bd rel asked => ?_⟩
  have many := len _ _ _ _ asked
  have KX : K.In t.heap := e0.mod.kin.keeps fun b o z => (e0.bs b o z).1
  have lim : t.heap.NoLimit := e0.mod.nolimit.keeps fun b o z => (e0.bs b o z).1
  have kinds : ∀ y ∈ ps.zip bound, scope.names.lookup y.1 = some .local ∨
      (scope.names.lookup y.1 = some .cell ∧ ((cellsFrom (t.heap.objs.size + 1) scope.names []).lookup y.1).isSome = true) := by
    intro y hy
    cases S.par y.1 (List.of_mem_zip hy).1 with
    | inl q => exact .inl q
    | inr q => exact .inr ⟨q, PySem.W.cellsFrom_some _ _ _ (.inl q)⟩
  refine codeAny_call_function room.depth (KX _ _ lk) rfl S.co S.gen rfl (PySem.W.codeRec_of KX coded) (bd _ _ _ _ ?_)
  refine wpAny_newFunctionEnv_cells S.kind kinds fun env same t1 made => ?_
  subst same
  refine ⟨lim.keeps made.toInCall.keep, codeAny_func ?_⟩
  obtain ⟨tb, derived, holds⟩ := inner B around t G zs R W free (room.deeper _) asked
  have J : Inv (cxOf CX P w K mg base N qual scope f cdv B around t G W) [] (start N zs) G t1 :=
    inv_start S room.hd e0 many rel made
  refine wpAny_mono (derived.run [] t1 (start N zs) G _ J holds) (fun fl t' told => ?_) fun e t' told => told
  match fl, told with
  | .ret u, ⟨v, σ', G', J', rv, q⟩ => exact ⟨v, G', J'.os, J'.bare, J'.base, J'.hok, rv, q⟩
  | .next, ⟨σ', G', J', q⟩ => exact ⟨V.non, G', J'.os, J'.bare, J'.base, J'.hok, (rfl : Value.none = Value.none), q⟩
  | .brk, ⟨_, _, _, q⟩ => exact q.elim
  | .cont, ⟨_, _, _, q⟩ => exact q.elim
theorem okG {P : Program} {w : World} {K : PySem.W.Frag} {mg : Str → Option Value} {base : Heap} {x qual : Str} {st : Stmt}
    {f : Addr} {fd : FuncData} {N ps : List Str} {k : Nat} {sp : Sp} (F : Fun K x qual st f fd) (S : FnScope N ps (defScope st))
    (len : ∀ zs G R W, sp zs G R W → zs.length = ps.length)
    (inner : ∀ (cdv : Value) (B : Around) (around : List Env) (t : Shared) (G : Hp) (zs : List V) (R : VK) (W : XK), B.guards = some [] →
      Room k (B.deeper (envOfC qual (defScope st) t.heap.objs.size f cdv)) → sp zs G R W →
      ∃ tb, PSs (cxOf CX0 P w K mg base N qual (defScope st) f cdv B around t G W).nox (defBody st) tb ∧
        tb { nx := fun _ G' => R .non G', rt := R } (start N zs) G) :
    FnG P w K mg base CX0 (k + 1) f fd ps sp := by
  obtain ⟨oc, od, kV, doc, pm, an, cdv, ct, osl, rfl, lk, coded⟩ := F.ex
  refine fnG_of lk coded S len fun B around t G zs R W free room asked => ?_
  obtain ⟨tb, derived, holds⟩ := inner cdv B around t G zs R W free room asked
  exact ⟨tb, derived.nox, holds⟩
/-- the law's own call -/
theorem law_callG {P : Program} {w : World} {K : PySem.W.Frag} {mg mb : Str → Option Value} {CX : CXT} {k : Nat} {fa a : Addr}
    {fd : FuncData} {x : Str} {sp : Sp} {s₁ : Shared} {vs : List Value} {ns : List Int}
    (KX : K.In s₁.heap) (gl : s₁.heap.Ns mainGlobals mg) (bl : s₁.heap.Ns builtinsNs mb)
    (boot : ∀ x : Str, x ≠ "__name__" → mb x = bootBuiltins x) (lim : s₁.heap.NoLimit) (nogens : s₁.gens = #[])
    (at_ : s₁.heap.get? a = some { cls := .type "list", data := .seq vs.toArray }) (nums : IntsAre vs ns) (short : ns.length ≤ sizeLine)
    (room : Room k callerA)
    (F : ∀ base : Heap, K.In base → base.Ns mainGlobals mg → FnG P w K mg base CX k fa fd [x] sp)
    (bound : ∀ (s : Shared) (u : Value), BindsTo s fd ⟨[u], []⟩ [(x, u)])
    (asked : ∀ H : Hp, Only H → SqL K H a (ns.map V.int) → sp [.ref a] H (fun v _ => v = .bl true) fun _ _ _ => False)
    (never : ∀ H e s', CX [] H s₁ (fun _ _ _ => False) e s' → False) :
    codeAny (model P w) callerA (.call (.ref fa) ⟨[.ref a], []⟩)
      (fun r s' => r = .ok (.ret (.bool true)) ∧ OldK s₁.heap s'.heap ∧ s'.os = s₁.os ∧ AllBare s'.gens) s₁ := by
  have rel := vals_ints nums
  have many := nums.length
  have from_ : ∀ H : Hp, Only H → SqL K H a (ns.map V.int) → HOk P w H s₁.heap → (∀ b, H b ≠ none → b = a) →
      (H a ≠ none → K.lookup a = none) → codeAny (model P w) callerA (.call (.ref fa) ⟨[.ref a], []⟩)
        (fun r s' => r = .ok (.ret (.bool true)) ∧ OldK s₁.heap s'.heap ∧ s'.os = s₁.os ∧ AllBare s'.gens) s₁ := by
    intro H only seq fine one away
    have down : ∀ {b : Addr} {o : Obj}, s₁.heap.get? b = some o → H b = none →
      (hidT s₁.heap H).get? b = some o := fun e n => hidT_get e n
    have untracked : ∀ {b : Addr} {o : Obj}, s₁.heap.get? b = some o → (b = a → False) → H b = none := by
      intro b o _ n
      by_cases q : H b = none
      · exact q
      · exact (n (one b q)).elim
    have nodict : ∀ {b : Addr} {o : Obj} {es : Array DictEntry} {ep : Nat},
        s₁.heap.get? b = some o → o.data = .dict es ep → H b = none := by
      intro b o es ep e d
      refine untracked e fun q => ?_
      rw [q, at_] at e
      have e' := Option.some.inj e
      rw [← e'] at d
      have d' : Data.seq vs.toArray _ = Data.dict es ep := d
      exact absurd d' (fun h => by cases h)
    have spaces : ∀ {b : Addr} {m : Str → Option Value}, s₁.heap.Ns b m → (hidT s₁.heap H).Ns b m := by
      intro b m ns
      obtain ⟨o, es, ep, e, d, r⟩ := ns
      exact ⟨o, es, ep, down e (nodict e d), d, r⟩
    have written : K.In (hidT s₁.heap H) := by
      intro b o e
      refine down (KX b o e) ?_
      by_cases q : H b = none
      · exact q
      · have same := one b q
        rw [same] at q e
        rw [away q] at e
        cases e
    have md : Mod K mg (hidT s₁.heap H) := by
      obtain ⟨mc, h1, h2⟩ := lim
      exact ⟨written, spaces gl, ⟨mb, spaces bl, boot⟩, ⟨mc, spaces h1, h2⟩⟩
    have e0 : Env0 P w K mg (hidT s₁.heap H) callerA [] s₁ H :=
      ⟨rfl, md, fun b o e => of_hidT e, Nat.le_of_eq (hidT_size _ _), trivial,
        fun b hb => (List.not_mem_nil (show b ∈ ([] : List Addr) from hb)).elim, fine, .of_eq nogens⟩
    have it := (F _ written (spaces gl)).runs callerA [] s₁ H ⟨[.ref a], []⟩ [.ref a] [.ref a] _ _ rfl room e0
      (bound s₁ (.ref a)) (.cons rfl .nil) (asked H only seq)
    refine codeAny_mono it fun out s' told => ?_
    match out, told with
    | .error e, told => exact (never H e s' told).elim
    | .ok .next, told => exact told.elim
    | .ok .brk, told => exact told.elim
    | .ok .cont, told => exact told.elim
    | .ok (.ret u), ⟨v, H', os, bare, un, fine', r', q⟩ =>
      have q' : v = .bl true := q
      subst q'
      have u' : u = Value.bool true := r'
      subst u'
      refine ⟨rfl, OldK.of_keep fun b o e => ?_, os, bare⟩
      cases q : H b with
      | none => exact un.keep b o e q (fun z => (List.not_mem_nil (show b ∈ ([] : List Addr) from z)).elim) (List.not_mem_nil)
      | some u =>
        rcases only b with z | ⟨ob, xs, z⟩
        · have z1 := q.symm.trans z
          cases z1
        · have z' := un.frzs b ob _ z
          have e1 := (fine b _ z).1
          have e2 := (fine' b _ z').1
          exact e2.trans (e1.symm.trans e)
  cases known : K.lookup a with
  | some o =>
    have e := (KX a o known).symm.trans at_
    have e' := Option.some.inj e
    subst e'
    refine from_ (fun _ => none) (fun _ => .inl rfl) (.inr ⟨_, vs.toArray, _, known, rfl, rfl, rfl, ?_, ?_⟩)
      (fun b u z => by have z1 : (none : Option HO) = some u := z; cases z1) (fun b z => (z rfl).elim) fun z => (z rfl).elim
    · rw [List.size_toArray, many]; exact short
    · simpa using rel
  | none =>
    have self : (fun b => if b = a then some (HO.frz { cls := .type "list", data := .seq vs.toArray } (.lst (ns.map V.int))) else none) a
        = some (HO.frz { cls := .type "list", data := .seq vs.toArray } (.lst (ns.map V.int))) := if_pos rfl
    refine from_ (fun b => if b = a then some (HO.frz { cls := .type "list", data := .seq vs.toArray } (.lst (ns.map V.int))) else none)
      (fun b => ?_) (.inl (.inr ⟨_, self⟩)) (fun b u z => ?_) (fun b z => ?_) fun _ => known
    · by_cases same : b = a
      · exact .inr ⟨_, _, if_pos same⟩
      · exact .inl (if_neg same)
    · by_cases same : b = a
      · subst same
        have z' := Option.some.inj ((if_pos rfl).symm.trans z)
        subst z'
        exact ⟨at_, by rw [List.length_map]; exact short, vs, _, rel, at_⟩
      · have z1 := (if_neg same).symm.trans z
        cases z1
    · by_cases same : b = a
      · exact same
      · exact (z (if_neg same)).elim
theorem walk_ofG {l : PySem.W.OpenLaw} {n k : Nat} {q : Program} {loose : List Str} {XP : (Str → Option Value) → Heap → Prop}
    {YP : World → Heap → Prop} {d : DefRec} {K : Params → PySem.W.Frag} {sp : PySem.W.Frag → Sp} {x : Str}
    (hn : l.most = some n) (hn2 : n ≤ sizeLine) (hdf : d.params.defaults = []) (room : Room k callerA)
    (hY : ∀ (w : World) (h : Heap), YP w h → (K w.params).In h)
    (F : ∀ (w : World) (mg : Str → Option Value) (fa : Addr) (h : Heap), (K w.params).In h → h.Ns mainGlobals mg →
      mg d.name = some (.ref fa) → ∃ fd : FuncData, (∀ (s : Shared) (u : Value), BindsTo s fd ⟨[u], []⟩ [(x, u)]) ∧
        ∀ base : Heap, (K w.params).In base → base.Ns mainGlobals mg →
          FnG l.prog w (K w.params) mg base CX0 k fa fd [x] (sp (K w.params)))
    (asked : ∀ (K : PySem.W.Frag) (H : Hp) (a : Addr) (ns : List Int), ns.length ≤ n → Only H → SqL K H a (ns.map V.int) →
      sp K [.ref a] H (fun v _ => v = .bl true) fun _ _ _ => False) :
    PySem.W.WalkO q loose XP YP l.row.toRowW d [] (fun f vs => PySem.call f vs) := by
  refine Att.attach_call hn hdf fun w s₀ s₁ mg mb fa o pm cd doc a vs ns G Y ho hd hcd named obj nums few nogens => ?_
  have KX := hY w _ Y
  obtain ⟨fd, bound, all⟩ := F w mg fa _ KX G.T.g named
  exact law_callG KX G.T.g G.T.b G.T.builtins G.T.nolimit nogens obj nums (Nat.le_trans few hn2) room all bound
    (fun H only seq => asked _ H a ns few only seq) fun H e s' z => z
end G0
namespace G0
open PySem PySem.Spec PyProof.Rows L2
/-! ### a def of the module's top, by its name -/
def Fn (K : PySem.W.Frag) (mg : Str → Option Value) (x : Str) (st : Stmt) : Prop :=
  ∃ f fd, Fun K x x st f fd ∧ mg x = some (.ref f)
def Cal (P : Program) (w : World) (K : PySem.W.Frag) (mg : Str → Option Value) (base : Heap) (x : Str) (k : Nat) (ps : List Str) (sp : Sp) : Prop :=
  ∃ f fd, FnG P w K mg base CX0 k f fd ps sp ∧ Binds K fd ps [] ∧ mg x = some (.ref f) ∧ PySem.W.keepIn K (.ref f) = true ∧
    ∃ oc od osl, K.lookup f = some ⟨oc, od, .func fd, osl⟩
theorem fn_top {K : PySem.W.Frag} {h : Heap} {mg : Str → Option Value} {x : Str} {st : Stmt} {f : Addr} {oc : Value} {od an : Option Addr}
    {osl : Array (Option Value)} {kV doc pm cdv ct : Value} (X : K.In h) (G : h.Ns mainGlobals mg)
    (a : PySem.W.nsIn K mainGlobals x = some (some (.ref f)))
    (l : K.lookup f = some ⟨oc, od, .func (PySem.W.fnOf x x (defArgs st) (defBody st) (defScope st) .none kV doc pm an cdv ct), osl⟩)
    (c : PySem.W.codeIn K cdv x = true) (k : PySem.W.keepIn K (.ref f) = true) : Fn K mg x st :=
  ⟨f, _, fun_mk l c k, PySem.W.mg_of X G a⟩
/-- a method of the class at C -/
def Fm (K : PySem.W.Frag) (C : Addr) (x qual : Str) (st : Stmt) : Prop := ∃ f fd, Fun K x qual st f fd ∧ Meth K C x f
theorem fm_top {K : PySem.W.Frag} {C : Addr} {x qual : Str} {st : Stmt} {f : Addr} {oc : Value} {od an : Option Addr}
    {osl : Array (Option Value)} {kV doc pm cdv ct : Value}
    (a : PySem.W.findIn K (.ref C) x = some (some (.ref f))) (i : PySem.W.isFn K (.ref f) = true)
    (l : K.lookup f = some ⟨oc, od, .func (PySem.W.fnOf x qual (defArgs st) (defBody st) (defScope st) .none kV doc pm an cdv ct), osl⟩)
    (c : PySem.W.codeIn K cdv qual = true) (k : PySem.W.keepIn K (.ref f) = true) : Fm K C x qual st :=
  ⟨f, _, fun_mk l c k, ⟨a, i, k⟩⟩
section
variable {P : Program} {w : World} {K : PySem.W.Frag} {mg : Str → Option Value} {base : Heap}
theorem cal_of {x : Str} {st : Stmt} {N ps : List Str} {k : Nat} {sp : Sp} (F : Fn K mg x st) (S : FnScope N ps (defScope st))
    (bd : ∀ (kV doc pm : Value) (an : Option Addr) (cdv ct : Value) (us : List Value), us.length = ps.length →
      bindArgs (PySem.W.fnOf x x (defArgs st) (defBody st) (defScope st) .none kV doc pm an cdv ct) ⟨us, []⟩ = pure (ps.zip us))
    (len : ∀ zs G R W, sp zs G R W → zs.length = ps.length)
    (inner : ∀ (f : Addr) (cdv : Value) (B : Around) (around : List Env) (t : Shared) (G : Hp) (zs : List V) (R : VK) (W : XK), B.guards = some [] →
      Room k (B.deeper (envOfC x (defScope st) t.heap.objs.size f cdv)) → sp zs G R W →
      ∃ tb, PSs (cxOf CX0 P w K mg base N x (defScope st) f cdv B around t G W).nox (defBody st) tb ∧
        tb { nx := fun _ G' => R .non G', rt := R } (start N zs) G) :
    Cal P w K mg base x (k + 1) ps sp := by
  obtain ⟨f, fd, F, m⟩ := F
  obtain ⟨oc, od, kV, doc, pm, an, cdv, ct, osl, e, lk, c⟩ := id F.ex
  exact ⟨f, fd, okG F S len (inner f), F.binds bd, m, F.kp, oc, od, osl, lk⟩
theorem Cal.mono {x : Str} {j k : Nat} {ps : List Str} {sp : Sp} (C : Cal P w K mg base x j ps sp) (h : j ≤ k) : Cal P w K mg base x k ps sp := by
  obtain ⟨f, fd, F, r⟩ := C
  exact ⟨f, fd, F.mono h, r⟩
/-- the law itself, at the end -/
theorem law_end {st : Stmt} {k : Nat} {sp : Sp} {fa : Addr} (F : Fn K mg "law" st) (hm : mg "law" = some (.ref fa))
    (bt : ∀ (kV doc pm : Value) (an : Option Addr) (cdv ct : Value) (s : Shared) (v : Value),
      BindsTo s (PySem.W.fnOf "law" "law" (defArgs st) (defBody st) (defScope st) .none kV doc pm an cdv ct) ⟨[v], []⟩ [("script", v)])
    (C : ∀ base : Heap, K.In base → base.Ns mainGlobals mg → Cal P w K mg base "law" k ["script"] sp) :
    ∃ fd : FuncData, (∀ (s : Shared) (v : Value), BindsTo s fd ⟨[v], []⟩ [("script", v)]) ∧
      ∀ base : Heap, K.In base → base.Ns mainGlobals mg → FnG P w K mg base CX0 k fa fd ["script"] sp := by
  obtain ⟨f, fd, F, m⟩ := F
  obtain ⟨oc, od, kV, doc, pm, an, cdv, ct, osl, e, lk, c⟩ := id F.ex
  have ef := m.symm.trans hm
  cases ef
  refine ⟨fd, fun s v => by rw [e]; exact bt _ _ _ _ _ _ s v, fun base kin ns => ?_⟩
  obtain ⟨f', fd', G, _, m', _, oc', od', osl', lk'⟩ := C base kin ns
  have ef := m.symm.trans m'
  cases ef
  have ed := lk.symm.trans lk'
  cases ed
  exact G
end
section
variable {X : Cx} {k : Nat} {ps : List Str} {sp : Sp} {x : Str} {p pos : Pos} {e : Expr} {es : List Expr} {t : TA}
theorem pe_cal (C : Cal X.prog X.w X.K X.mg X.base x k ps sp) (free : X.A.guards = some []) (hr : Room k X.A)
    (ha : PA X (e :: es) t) (hg : Gl X x := by rfl) (n1 : (x == ("__debug__" : Str)) = false := by decide)
    (n2 : starEach (e :: es) X.env = (false, eval e X.env) :: starEach es X.env := by rfl)
    (n3 : (backTo pos (starEach es X.env)).any (·.1) = false := by rfl) (hx : Passes CX0 X E0 := by exact pass0) :
    PE X (.Call (.Name x p) (e :: es) [] pos) (tCall sp [] E0 t) := by
  obtain ⟨f, fd, F, b, m, kp, _⟩ := C
  exact pe_callG F free hr hg m kp b .nil hx ha n1 n2 n3
/-! ### repr of data -/
def rRep (K : PySem.W.Frag) : List V → Hp → VK → Prop := fun xs H Q => ∃ (x : V) (d : PyData), xs = [x] ∧ Dp K H x d ∧
  d.showable = true ∧ d.hasDict = false ∧ d.depth ≤ 64 ∧ d.shown.length ≤ sizeLine ∧ Q (.str d.shown) H
theorem call_rep (free : X.A.guards = some []) (hu : X.A.units + 66 < cLine) : CallR X (.builtin "repr") (rRep X.K) := by
  intro pins s σ H xs us Q I r h
  obtain ⟨x, d, rfl, hd, hs, hn, h64, hz, q⟩ := h
  obtain ⟨u, rfl, rx⟩ := vals1 r
  have viaRef : ∀ (a : Addr), x = .ref a → wpAny (model X.prog X.w) X.A (call (.builtin "repr") [u]) (EP X pins σ Q) X.xe s := by
    intro a e
    subst e
    obtain rfl : u = Value.ref a := rx
    obtain ⟨as, rd⟩ := Dp.reads I d _ _ hd (rfl : RelV (.ref a) (.ref a))
    exact repr_of_reads' rd hs (PyData.noDict_hsm hn) free (by omega) (fun _ _ e => e)
      (fun h' w t kp => ⟨.str d.shown, H, I.kept (t' := t) kp, ⟨_, rfl⟩, q⟩) hz
  cases hd with
  | non =>
    obtain rfl : u = Value.none := rx
    exact PySem.P.repr_of_none ⟨.str _, H, I.tok _, ⟨_, rfl⟩, by simpa only [PyData.shown] using q⟩
  | bl b =>
    obtain rfl : u = Value.bool b := rx
    exact PySem.P.repr_of_bool ⟨.str _, H, I.tok _, ⟨_, rfl⟩, by simpa only [PyData.shown] using q⟩
  | int i =>
    obtain ⟨t, rfl⟩ := rx
    exact PySem.P.repr_of_int (by simpa [PyData.showable] using hs) ⟨.str _, H, I.tok _, ⟨_, rfl⟩, by simpa only [PyData.shown] using q⟩
  | str z =>
    obtain ⟨t, rfl⟩ := rx
    exact PySem.P.repr_of_str ⟨.str _, H, I.tok _, ⟨_, rfl⟩, by simpa only [PyData.shown] using q⟩ (by simpa only [PyData.shown] using hz)
  | lst _ _ => exact viaRef _ rfl
  | tup _ _ => exact viaRef _ rfl
/-! ### operators of several kinds in one -/
theorem u_eq (hu : X.A.units + 64 < cLine) : OpR X (compareOp .Eq) (fun x y H Q => rEq x y H Q ∨ rEqD X.K x y H Q) := op_eq.or (op_eqD hu)
theorem u_ne (hu : X.A.units + 64 < cLine) : OpR X (compareOp .NotEq) (fun x y H Q => rNe x y H Q ∨ rNeD X.K x y H Q) := op_ne.or (op_neD hu)
theorem u_in : OpR X (compareOp .In) (fun x y H Q => rIn X.K false x y H Q ∨ rInS x y H Q) := op_in_seq.or op_inS
theorem u_notin : OpR X (compareOp .NotIn) (fun x y H Q => rIn X.K true x y H Q ∨ rNotInS x y H Q) := op_notIn_seq.or op_notInS
end
theorem pe_fldK {X : Cx} {e : Expr} {f : Str} {pos : Pos} {ta : TE} (K : PySem.W.Frag) (ha : PE X e ta) (hK : X.K = K := by rfl)
    (hb : attributeBase e f X.env (eval e X.env) = eval e X.env := by rfl) : PE X (.Attribute e f pos) (tFld K ta f) := by
  subst hK
  exact pe_fld ha hb
/-! ### the written part named, for what stands within a comprehension -/
theorem op_K {X : Cx} {f : Value → Value → Sem Value} (r : PySem.W.Frag → R2) (K : PySem.W.Frag) (ho : OpR X f (r X.K)) (hK : X.K = K) : OpR X f (r K) := hK ▸ ho
theorem ix_K {X : Cx} (r : PySem.W.Frag → R2) (K : PySem.W.Frag) (ho : IxR X (r X.K)) (hK : X.K = K) : IxR X (r K) := hK ▸ ho
theorem call_K {X : Cx} {f : Value} (r : PySem.W.Frag → List V → Hp → VK → Prop) (K : PySem.W.Frag) (ho : CallR X f (r X.K)) (hK : X.K = K) : CallR X f (r K) := hK ▸ ho
section
variable {X : Cx} (K : PySem.W.Frag)
theorem u_inK (hK : X.K = K := by rfl) : OpR X (compareOp .In) (fun x y H Q => rIn K false x y H Q ∨ rInS x y H Q) := op_K (fun K x y H Q => rIn K false x y H Q ∨ rInS x y H Q) K u_in hK
theorem u_notinK (hK : X.K = K := by rfl) : OpR X (compareOp .NotIn) (fun x y H Q => rIn K true x y H Q ∨ rNotInS x y H Q) := op_K (fun K x y H Q => rIn K true x y H Q ∨ rNotInS x y H Q) K u_notin hK
theorem ix_listK (hK : X.K = K := by rfl) : IxR X (rIxL K) := ix_K rIxL K ix_list hK
theorem ix_tupK (hK : X.K = K := by rfl) : IxR X (rIxT K) := ix_K rIxT K ix_tup hK
theorem ix_seqK (hK : X.K = K := by rfl) : IxR X (rIx K) := ix_K rIx K ix_seq hK
theorem call_len_seqK (hK : X.K = K := by rfl) : CallR X (.builtin "len") (fun xs H Q => ∃ p ys, xs = [.ref p] ∧ (SqL K H p ys ∨ SqT K H p ys) ∧ Q (.int ys.length) H) :=
  call_K (fun K xs H Q => ∃ p ys, xs = [.ref p] ∧ (SqL K H p ys ∨ SqT K H p ys) ∧ Q (.int ys.length) H) K call_len_seq hK
end
/-! ### what changes: one list -/
/-- all that is tracked but p stays -/
def Chg (p : Addr) (H H' : Hp) : Prop := ∀ b o, b ≠ p → H b = some o → H' b = some o
theorem Chg.refl (p : Addr) (H : Hp) : Chg p H H := fun _ _ _ e => e
theorem Chg.trans {p : Addr} {H H1 H2 : Hp} (a : Chg p H H1) (b : Chg p H1 H2) : Chg p H H2 := fun c o n e => b c o n (a c o n e)
theorem Chg.self {p : Addr} {H : Hp} {o : HO} : Chg p H (upd H p o) := fun b u n e => by rw [upd_ne n]; exact e
theorem Chg.new {p q : Addr} {H H1 : Hp} {o : HO} (a : Chg p H H1) (n : H1 q = none) : Chg p H (upd H1 q o) := fun b u m e => by
  rw [upd_ne (ne_of_none (a b u m e) n)]; exact a b u m e
theorem Chg.same {p : Addr} {H H1 : Hp} (a : Same H H1) : Chg p H H1 := fun b o _ e => a b o e
theorem same_upd {H : Hp} {q : Addr} {o : HO} (n : H q = none) : Same H (upd H q o) := fun b u e => by
  rw [upd_ne (ne_of_none e n)]; exact e
/-! ### a law's draws: the pot -/
def PotL (n : Nat) (xs : List V) : Prop := ∃ a b c : Int, xs = [.int a, .int b, .int c] ∧ 0 ≤ a ∧ 0 ≤ b ∧ b < 2305843009213693951 ∧ 0 ≤ c ∧ c ≤ n
def PotAt (n : Nat) (H : Hp) (p : Addr) : Prop := ∃ xs, H p = some (.lst xs) ∧ PotL n xs
theorem PotL.mono {n m : Nat} {xs : List V} (h : PotL n xs) (le : n ≤ m) : PotL m xs := by
  obtain ⟨a, b, c, e, h1, h2, h3, h4, h5⟩ := h
  exact ⟨a, b, c, e, h1, h2, h3, h4, by omega⟩
theorem PotAt.mono {n m : Nat} {H : Hp} {p : Addr} (h : PotAt n H p) (le : n ≤ m) : PotAt m H p := by
  obtain ⟨xs, e, h⟩ := h
  exact ⟨xs, e, h.mono le⟩
theorem PotAt.keep {n : Nat} {H H' : Hp} {p : Addr} (h : PotAt n H p) (s : Same H H') : PotAt n H' p := by
  obtain ⟨xs, e, h⟩ := h
  exact ⟨xs, s _ _ e, h⟩
theorem PotAt.at {n : Nat} {H : Hp} {p : Addr} {xs : List V} (h : PotL n xs) : PotAt n (upd H p (.lst xs)) p := ⟨xs, upd_same, h⟩
end G0
/-! Wide powers, the law's own call with the script's bits told, len of an own object, sorted of a tuple of tuples of ints. -/
namespace G0
open PySem PySem.Spec PyProof.Rows L2
def CPowB (i j : Int) : Prop := 0 ≤ j ∧ (Builtin.Int.intBits i : Int) * j ≤ 2 ^ 27
theorem op_powB {X : Cx} : OpR X (binaryOp .Pow) (rI CPowB fun i j => .int (i ^ j.toNat)) := opI fun _ _ _ _ _ _ _ hc q => pow_int hc.1 hc.2 q
theorem walk_ofGB {l : PySem.W.OpenLaw} {n k : Nat} {q : Program} {loose : List Str} {XP : (Str → Option Value) → Heap → Prop}
    {YP : World → Heap → Prop} {d : DefRec} {K : Params → PySem.W.Frag} {sp : PySem.W.Frag → Sp} {x : Str}
    (hn : l.most = some n) (hn2 : n ≤ sizeLine) (hdf : d.params.defaults = []) (room : Room k callerA)
    (hY : ∀ (w : World) (h : Heap), YP w h → (K w.params).In h)
    (F : ∀ (w : World) (mg : Str → Option Value) (fa : Addr) (h : Heap), (K w.params).In h → h.Ns mainGlobals mg →
      mg d.name = some (.ref fa) → ∃ fd : FuncData, (∀ (s : Shared) (u : Value), BindsTo s fd ⟨[u], []⟩ [(x, u)]) ∧
        ∀ base : Heap, (K w.params).In base → base.Ns mainGlobals mg →
          FnG l.prog w (K w.params) mg base CX0 k fa fd [x] (sp (K w.params)))
    (asked : ∀ (K : PySem.W.Frag) (H : Hp) (a : Addr) (ns : List Int), ns.length ≤ n → (∀ z ∈ ns, Builtin.Int.intBits z ≤ 1048576) → Only H → SqL K H a (ns.map V.int) →
      sp K [.ref a] H (fun v _ => v = .bl true) fun _ _ _ => False) :
    PySem.W.WalkO q loose XP YP l.row.toRowW d [] (fun f vs => PySem.call f vs) := by
  refine Att.attach_callB hn hdf fun w s₀ s₁ mg mb fa o pm cd doc a vs ns G Y ho hd hcd named obj nums few bits nogens => ?_
  have KX := hY w _ Y
  obtain ⟨fd, bound, all⟩ := F w mg fa _ KX G.T.g named
  exact law_callG KX G.T.g G.T.b G.T.builtins G.T.nolimit nogens obj nums (Nat.le_trans few hn2) room all bound
    (fun H only seq => asked _ H a ns few bits only seq) fun H e s' z => z
/-! ### len of an own object -/
section
variable {X : Cx} {CX : CXT} {k : Nat} {f C : Addr} {fd : FuncData} {ps : List Str} {sp : Sp} {dvs : List V} {ds : List Value} {E : XK}
theorem run_fn1 {pins : List (Addr × Obj)} {σ : L2.St} {H : Hp} {s : Shared} {Q : VK} {us : List Value} {vs : List V}
    (F : FnOk X.prog X.w X.K X.mg X.base CX k f fd ps sp) (hr : Room (k + 1) X.A) (hb : Binds X.K fd ps ds) (hd : Vals dvs ds) (hx : Passes CX X E)
    (I : Inv X pins σ H s) (r : Vals vs us) (h : sp (vs ++ dvs) H Q E) : wpAny (model X.prog X.w) X.A.in1 (call (.ref f) us) (EP X pins σ Q) X.xe s := by
  have r2 : Vals (vs ++ dvs) (us ++ ds) := r.append hd
  have hl : (us ++ ds).length = ps.length := by rw [← r2.length]; exact F.len _ _ _ _ h
  refine wpAny_call (codeAny_mono (F.run X.A.in1 X.stack s H ⟨us, []⟩ (us ++ ds) (vs ++ dvs) Q E hr.in1 I.env0.in1 (hb s us I.kIn hl) r2 h) fun r s' hq => ?_)
  cases r with
  | error e => exact hx pins σ H s e s' I hq
  | ok fl =>
    cases fl with
    | ret u => exact I.after hq
    | next => exact False.elim hq
    | brk => exact False.elim hq
    | cont => exact False.elim hq
def rLenOwn (C : Addr) (sp : Sp) (E : XK) : List V → Hp → VK → Prop := fun xs H Q => ∃ (a dx : Addr) (fs : List (Str × V)), xs = [.ref a] ∧ H a = some (.ins C dx fs) ∧
  sp [.ref a] H (fun v H2 => ∃ n : Nat, v = .int n ∧ n ≤ sizeLine ∧ Q (.int n) H2) E
theorem call_lenOwn (hm : Meth X.K C "__len__" f) (F : FnOk X.prog X.w X.K X.mg X.base CX k f fd ps sp) (hr : Room (k + 1) X.A) (hb : Binds X.K fd ps []) (hx : Passes CX X E) :
    CallR X (.builtin "len") (rLenOwn C sp E) := by
  intro pins s σ H xs us Q I r h
  obtain ⟨a, dx, fs, rfl, e, q⟩ := h
  obtain ⟨u, rfl, ru⟩ := vals1 r
  obtain rfl : u = Value.ref a := ru
  obtain ⟨mA, O, _, _, _, _⟩ := ins_get I.hok e
  obtain ⟨od, ho, _⟩ := lookIn_ns O.ns
  have IA : PySem.W.InstAt s.heap a (PySem.W.instObj C dx) C (some od) := ⟨O.obj, rfl, rfl, ho⟩
  refine Calls.call_function_entry kind_len plain_len entry_len (args_len1 _) ?_
  unfold Builtin.«len»
  refine wpAny_bind (m := oneArg "len" _) (wpAny_pure ?_)
  refine wpAny_bind (m := callSpecial? (.ref a) (Str.ofString "__len__")) (PySem.W.special_fn I.kIn IA hm.at_ (beq_iff_eq.mp hm.fn)
    (wpAny_mono (run_fn1 (us := [.ref a]) (vs := [.ref a]) F hr hb .nil hx I (.cons rfl .nil) q) (fun r s' hr' => ?_) fun _ _ y => y))
  obtain ⟨v, H', I', rv, n, rfl, hn, q'⟩ := hr'
  obtain ⟨t, rfl⟩ := (show ∃ t, r = Value.int n t from rv)
  rw [sizeLine_eq] at hn
  refine wpAny_bind (wpAny_holding (wpAny_pure ?_))
  refine wpAny_bind (wpAny_letGo ?_)
  show wpAny _ _ (if ((n : Nat) : Int) < 0 then _ else _) _ _ _
  rw [if_neg (by omega)]
  show wpAny _ _ (if ((n : Nat) : Int) ≥ 2 ^ 63 then _ else _) _ _ _
  rw [if_neg (by omega)]
  exact wpAny_bind (wpAny_mkInt (wpAny_pure ⟨_, rfl, .int n, H', I'.tok _, ⟨_, rfl⟩, q'⟩))
end
/-! ### sorted of a tuple of tuples of ints -/
section
variable {prog : Program} {w : World} {A : Around} {E : Value → Shared → Prop} {s : Shared}
theorem collect_tup {l : Addr} {vs : List Value} {Q : List Value → Shared → Prop} (hl : IsTup s.heap l vs.toArray)
    (h : Q vs { s with heap := (s.heap.push (seqObj "list" #[] 0)).update s.heap.objs.size (Obj.mapSeq (· ++ vs.toArray)) }) (hsz : vs.length ≤ sizeLine) :
    wpAny (model prog w) A (collect (.ref l)) Q E s := by
  obtain ⟨o, ho, hc, n, hd⟩ := id hl
  unfold collect
  refine wpAny_bind (wpAny_runValue (codeAny_builtin entry_proto_collect' ?_))
  show wpAny _ _ (do again (.builtin "list.__iadd__" ⟨[← newList [], .ref l], []⟩)) _ _ s
  refine wpAny_bind (wpAny_newList (wpAny_pure ⟨Code.quiet_builtin _ (by decide +kernel), codeAny_builtin entry_list_iadd' ?_⟩))
  show wpAny _ _ (Builtin.List.listExtendWith (.ref s.heap.objs.size) (.ref l) (.ref s.heap.objs.size)) _ _ { s with heap := s.heap.push (seqObj "list" #[] 0) }
  unfold Builtin.List.listExtendWith
  have ho' : (s.heap.push (seqObj "list" #[] 0)).get? l = some o := Heap.get?_push_of_some _ ho
  refine wpAny_bind (wpAny_typeOf (T := "tuple") ⟨o, ho', hc⟩ ?_)
  have ht : (Value.type "tuple" == Value.type "tuple") = true := by rfl
  rw [if_pos (by rw [ht]; simp)]
  refine wpAny_bind (listItems_at ho' hd ?_)
  refine wpAny_bind (listItems_at (xs := #[]) (n := 0) (Heap.get?_push_size _ rfl) rfl ?_)
  rw [if_neg (by simp)]
  refine wpAny_bind (listUpdate_at (xs := #[]) (n := 0) (Heap.get?_push_size _ rfl) rfl ?_ (Nat.zero_le _) (by show (#[] ++ vs.toArray).size ≤ sizeLine + 1; simp only [Array.size_append, List.size_toArray, List.length_nil]; omega))
  refine wpAny_pure ?_
  show wpAny (model prog w) A (do
      let o ← load s.heap.objs.size
      match o.data with
      | .seq xs _ => pure xs.toList
      | _ => unsupported "internal:collect") Q E { s with heap := (s.heap.push (seqObj "list" #[] 0)).update s.heap.objs.size (Obj.mapSeq (· ++ vs.toArray)) }
  refine wpAny_bind (wpAny_load (get?_update_seq (Heap.get?_push_size _ rfl) _) ?_)
  show wpAny _ _ (pure ((#[] : Array Value) ++ vs.toArray).toList) Q E _
  rw [show ((#[] : Array Value) ++ vs.toArray).toList = vs by simp]
  exact wpAny_pure h
open TS in
theorem sorted_tupsT {l : Addr} {vs : List Value} {d : Nat} {B : Int} {Q : Value → Shared → Prop} (hl : IsTup s.heap l vs.toArray) (h64 : vs.length < 64) (hd : 1 ≤ d) (x : TupsOk s.heap d B vs)
    (h : ∀ out : Array Value, out.toList.Perm vs → out.toList.Pairwise (fun u v => code B (intsOf s.heap u) ≤ code B (intsOf s.heap v)) → Q (.ref (s.heap.objs.size + 1)) { s with heap := sortedAll s.heap vs out }) :
    wpAny (model prog w) A (call (.builtin "sorted") [.ref l]) Q E s := by
  refine Calls.call_function_entry kind_sorted plain_sorted entry_sorted (args_sorted1 _) ?_
  unfold Builtin.«sorted»
  refine wpAny_bind (m := checkCount "sorted" 1 1 _) (wpAny_pure ?_)
  refine wpAny_bind (collect_tup hl ?_ (by rw [sizeLine_eq]; omega))
  refine wpAny_bind (wpAny_newList ?_ (by rw [sizeLine_eq]; omega))
  have hsz : ((s.heap.push (seqObj "list" #[] 0)).update s.heap.objs.size (Obj.mapSeq (· ++ vs.toArray))).objs.size = s.heap.objs.size + 1 := by
    rw [Heap.size_update, size_push']
  have hoL : (((s.heap.push (seqObj "list" #[] 0)).update s.heap.objs.size (Obj.mapSeq (· ++ vs.toArray))).push (seqObj "list" vs.toArray 0)).get? (s.heap.objs.size + 1) = some (seqObj "list" vs.toArray 0) := by
    rw [← hsz]; exact Heap.get?_push_size _ rfl
  have keep : ∀ b o, s.heap.get? b = some o → o.cls = .type "tuple" → (((s.heap.push (seqObj "list" #[] 0)).update s.heap.objs.size (Obj.mapSeq (· ++ vs.toArray))).push (seqObj "list" vs.toArray 0)).get? b = some o := fun b o q _ => by
    have hlt : b < s.heap.objs.size := Heap.lt_size q
    rw [Heap.get?_push_ne _ _ _ (by rw [hsz]; exact Nat.ne_of_lt (Nat.lt_succ_of_lt hlt)), Heap.get?_update_ne _ _ _ _ (Nat.ne_of_lt hlt), Heap.get?_push_ne _ _ _ (Nat.ne_of_lt hlt)]
    exact q
  show wpAny _ _ _ _ _ { s with heap := ((s.heap.push (seqObj "list" #[] 0)).update s.heap.objs.size (Obj.mapSeq (· ++ vs.toArray))).push (seqObj "list" vs.toArray 0) }
  rw [hsz]
  refine wpAny_bind (wpAny_holding (wpAny_call_entry slot_list_sort ⟨_, hoL, rfl⟩ entry_list_sort (sort_tups hoL h64 hd (x.keeps keep) (fun v => code B (intsOf s.heap v)) (fun v hv ns t => ?_) fun out a1 a2 => ⟨_, rfl, ?_⟩) (args_list_sort _)))
  · obtain ⟨ns0, t0, _⟩ := x v hv
    have e : ns = ns0 := t.ints.symm.trans (t0.keeps keep).ints
    rw [e]
    show code B (intsOf s.heap v) = code B ns0
    rw [t0.ints]
  · exact wpAny_pure ⟨_, rfl, h out a1 a2⟩
end
def rSortUT (K : PySem.W.Frag) (d : Nat) (B : Int) : List V → Hp → VK → Prop := fun vs H Q => ∃ (a : Addr) (xs : List V), vs = [V.ref a] ∧ SqT K H a xs ∧ xs.length < 64 ∧ (∀ x ∈ xs, ∃ ns, TupI K H x ns ∧ ns.length = d ∧ TS.Bd B ns) ∧
  ∀ (ys : List V) (p : Addr), ys.Perm xs → ys.Pairwise (fun x y => ∀ n m, TupI K H x n → TupI K H y m → TS.code B n ≤ TS.code B m) → H p = none → Q (.ref p) (upd H p (.lst ys))
theorem cr_sortTT {X : Cx} {d : Nat} {B : Int} (hd : 1 ≤ d) : CallR X (.builtin "sorted") (rSortUT X.K d B) := by
  intro pins s σ H vs us Q I r h
  obtain ⟨a, xs, rfl, hs, h64, hx, q⟩ := h
  obtain ⟨its, rv, hl, hz⟩ := I.tuple hs
  rw [Vals.ref1 r]
  obtain ⟨e1, e2⟩ := bkV_refs rv fun x m => by
    obtain ⟨ns, ⟨t, e, _⟩, _⟩ := hx x m
    exact ⟨t, e⟩
  refine sorted_tupsT (d := d) (B := B) hl (by rw [← rv.length]; exact h64) hd (fun v hv => ?_) fun out h1 h2 => ?_
  · obtain ⟨t, rfl⟩ := e2 v hv
    have hm : V.ref t ∈ xs := by
      rw [e1]
      exact List.mem_map.mpr ⟨_, hv, rfl⟩
    obtain ⟨ns, ⟨t', e, ht⟩, hn, hb⟩ := hx _ hm
    cases e
    exact ⟨ns, tupI_raw I ht, hn, hb⟩
  · obtain ⟨ep, he'⟩ := PyProof.Rows.sortedAll_at s.heap its out
    have h3 : ∀ u ∈ out.toList, ∃ a, u = Value.ref a := fun u hu => e2 u (h1.mem_iff.mp hu)
    have hp : (out.toList.map bkV).Perm xs := by
      rw [e1]
      exact h1.map bkV
    have hlen : (out.toList.map bkV).length ≤ sizeLine := by
      rw [hp.length_eq]
      exact hz
    refine ⟨.ref _, upd H (s.heap.objs.size + 1) (.lst (out.toList.map bkV)), I.laid (t' := s.toks) (fun _ _ => PyProof.Rows.sortedAll_old) (Nat.le_succ _) ⟨hlen, out.toList, ep, bkV_vals h3, he'⟩, rfl, q _ _ hp ?_ (I.hok.fresh (Nat.le_succ _))⟩
    rw [List.pairwise_map]
    refine List.Pairwise.imp (fun {u v} huv n m hn hm => ?_) h2
    obtain ⟨t, et, ht⟩ := hn
    obtain ⟨t', et', ht'⟩ := hm
    have eu := bkV_ref et
    have ev := bkV_ref et'
    have i1 : TS.intsOf s.heap u = n := by
      rw [eu]
      exact (tupI_raw I ht).ints
    have i2 : TS.intsOf s.heap v = m := by
      rw [ev]
      exact (tupI_raw I ht').ints
    rw [← i1, ← i2]
    exact huv
end G0
namespace G0
open PySem PySem.Spec PyProof.Rows L2
/-! ### data -/
mutual
def noL : PyData → Bool
  | .none | .bool _ | .int _ | .str _ => true
  | .list _ | .dict _ => false
  | .tuple xs => noLs xs
def noLs : List PyData → Bool
  | [] => true
  | x :: xs => noL x && noLs xs
end
section
variable {K : PySem.W.Frag} {H H' : Hp} {p : Addr}
theorem sqt_chg (hp : ∃ xs, H p = some (.lst xs)) (c : Chg p H H') {a : Addr} {xs : List V} (h : SqT K H a xs) : SqT K H' a xs := by
  obtain ⟨ys, hp⟩ := hp
  rcases h with (h | ⟨o, h⟩) | h
  · exact .inl (.inl (c _ _ (ne_of h hp (by intro z; cases z)) h))
  · exact .inl (.inr ⟨o, c _ _ (ne_of h hp (by intro z; cases z)) h⟩)
  · exact .inr h
theorem sqt_same (c : Same H H') {a : Addr} {xs : List V} (h : SqT K H a xs) : SqT K H' a xs := by
  rcases h with (h | ⟨o, h⟩) | h
  · exact .inl (.inl (c _ _ h))
  · exact .inl (.inr ⟨o, c _ _ h⟩)
  · exact .inr h
mutual
theorem dp_chg (hp : ∃ xs, H p = some (.lst xs)) (c : Chg p H H') : ∀ (d : PyData) (v : V), noL d = true → Dp K H v d → Dp K H' v d
  | .none, _, _, h => by cases h; exact .non
  | .bool _, _, _, h => by cases h; exact .bl _
  | .int _, _, _, h => by cases h; exact .int _
  | .str _, _, _, h => by cases h; exact .str _
  | .list _, _, n, _ => by simp [noL] at n
  | .dict _, _, n, _ => by simp [noL] at n
  | .tuple ds, _, n, h => by
    cases h with
    | tup hs ha => exact .tup (sqt_chg hp c hs) (dps_chg hp c ds _ (by simpa [noL] using n) ha)
theorem dps_chg (hp : ∃ xs, H p = some (.lst xs)) (c : Chg p H H') : ∀ (ds : List PyData) (vs : List V), noLs ds = true → DpAll K H vs ds → DpAll K H' vs ds
  | [], _, _, h => by cases h; exact .nil
  | d :: ds, _, n, h => by
    simp only [noLs, Bool.and_eq_true] at n
    cases h with
    | cons h1 h2 => exact .cons (dp_chg hp c d _ n.1 h1) (dps_chg hp c ds _ n.2 h2)
end
mutual
theorem dp_same (c : Same H H') : ∀ (d : PyData) (v : V), Dp K H v d → Dp K H' v d
  | .none, _, h => by cases h; exact .non
  | .bool _, _, h => by cases h; exact .bl _
  | .int _, _, h => by cases h; exact .int _
  | .str _, _, h => by cases h; exact .str _
  | .list ds, _, h => by
    cases h with
    | lst hs ha => exact .lst (c.seq hs) (dps_same c ds _ ha)
  | .dict _, _, h => by cases h
  | .tuple ds, _, h => by
    cases h with
    | tup hs ha => exact .tup (sqt_same c hs) (dps_same c ds _ ha)
theorem dps_same (c : Same H H') : ∀ (ds : List PyData) (vs : List V), DpAll K H vs ds → DpAll K H' vs ds
  | [], _, h => by cases h; exact .nil
  | d :: ds, _, h => by
    cases h with
    | cons h1 h2 => exact .cons (dp_same c d _ h1) (dps_same c ds _ h2)
end
theorem dps_app {vs ws : List V} {ds es : List PyData} : DpAll K H vs ds → DpAll K H ws es → DpAll K H (vs ++ ws) (ds ++ es) := by
  intro h g
  match vs, ds, h with
  | [], [], _ => exact g
  | _ :: _, _ :: _, .cons h1 h2 => exact .cons h1 (dps_app h2 g)
theorem dps_len {vs : List V} {ds : List PyData} : DpAll K H vs ds → vs.length = ds.length := by
  intro h
  match vs, ds, h with
  | [], [], _ => rfl
  | _ :: _, _ :: _, .cons _ h2 => exact congrArg (· + 1) (dps_len h2)
end
theorem noLs_of : ∀ {ds : List PyData}, (∀ d ∈ ds, noL d = true) → noLs ds = true
  | [], _ => rfl
  | d :: ds, h => by
    simp only [noLs, Bool.and_eq_true]
    exact ⟨h d (List.mem_cons_self ..), noLs_of fun x hx => h x (List.mem_cons_of_mem _ hx)⟩
/-! ### things and letters -/
inductive Thing : Nat → PyData → Prop
  | num {n : Nat} {i : Int} : 0 ≤ i → i < 10 ^ 60 → Thing n (.int i)
  | tup {n : Nat} {ds : List PyData} : ds.length ≤ 2 → (∀ d ∈ ds, Thing n d) → Thing (n + 1) (.tuple ds)
theorem Thing.noL {n : Nat} {d : PyData} (h : Thing n d) : noL d = true := by
  induction h with
  | num _ _ => rfl
  | tup _ _ ih =>
    simp only [G0.noL]
    exact noLs_of ih
theorem Thing.mono {n m : Nat} {d : PyData} (h : Thing n d) (le : n ≤ m) : Thing m d := by
  induction h generalizing m with
  | num a b => exact .num a b
  | tup l _ ih =>
    cases m with
    | zero => omega
    | succ m => exact .tup l fun d hd => ih d hd (by omega)
def WordOk (z : Str) : Prop := 1 ≤ z.length ∧ z.length ≤ 8 ∧ (∀ c ∈ z.cps.toList, 97 ≤ c ∧ c ≤ 122) ∧ z ≠ "gone"
def LetterD (d : PyData) : Prop := ∃ (z : Str) (ds : List PyData), d = .tuple (.str z :: ds) ∧ WordOk z ∧ ds.length ≤ 5 ∧ ∀ x ∈ ds, Thing 3 x
theorem LetterD.noL {d : PyData} (h : LetterD d) : noL d = true := by
  obtain ⟨z, ds, rfl, _, _, hd⟩ := h
  simp only [G0.noL, noLs, Bool.true_and]
  exact noLs_of fun x hx => (hd x hx).noL
theorem Chg.mut {p D : Addr} {H0 H1 : Hp} {o : HO} (a : Chg p H0 H1) (n : H0 D = none) : Chg p H0 (upd H1 D o) := fun b u m e => by
  rw [upd_ne (ne_of_none e n)]; exact a b u m e
theorem PotAt.ne {n : Nat} {H H' : Hp} {p D : Addr} {o : HO} (h : PotAt n H p) (d : p ≠ D) (e : H' = upd H D o) : PotAt n H' p := by
  obtain ⟨xs, q, r⟩ := h
  exact ⟨xs, by rw [e, upd_ne d]; exact q, r⟩
theorem PotAt.new {n : Nat} {H : Hp} {p D : Addr} {o : HO} (h : PotAt n H p) (d : H D = none) : PotAt n (upd H D o) p := h.keep (same_upd d)
theorem PotAt.neD {n : Nat} {H : Hp} {p D : Addr} (h : PotAt n H p) (d : H D = none) : p ≠ D := by
  obtain ⟨xs, q, r⟩ := h
  exact ne_of_none q d
theorem PotAt.lst {n : Nat} {H : Hp} {p : Addr} (h : PotAt n H p) : ∃ xs, H p = some (.lst xs) := by
  obtain ⟨xs, q, r⟩ := h
  exact ⟨xs, q⟩
theorem PotAt.neT {n : Nat} {H : Hp} {p t : Addr} {xs : List V} (h : PotAt n H p) (d : H t = some (.tup xs)) : t ≠ p := by
  obtain ⟨ys, q, r⟩ := h
  exact ne_of d q (by intro z; cases z)
theorem Cal.imp {P : Program} {w : World} {K : PySem.W.Frag} {mg : Str → Option Value} {base : Heap} {x : Str} {k : Nat} {ps : List Str} {sp sp' : Sp}
    (C : Cal P w K mg base x k ps sp) (h : ∀ vs H Q E, sp' vs H Q E → sp vs H Q E) : Cal P w K mg base x k ps sp' := by
  obtain ⟨f, fd, F, r⟩ := C
  exact ⟨f, fd, ⟨fun a b c d q => F.args _ _ _ _ (h _ _ _ _ q), fun A o s H args us vs Q E fr hr he hb hv hs => F.runs A o s H args us vs Q E fr hr he hb hv (h _ _ _ _ hs)⟩, r⟩
theorem cal_no {P : Program} {w : World} {K : PySem.W.Frag} {mg : Str → Option Value} {base : Heap} {x : Str} {st : Stmt} {ps : List Str} (F : Fn K mg x st)
    (bd : ∀ (kV doc pm : Value) (an : Option Addr) (cdv ct : Value) (us : List Value), us.length = ps.length →
      bindArgs (PySem.W.fnOf x x (defArgs st) (defBody st) (defScope st) .none kV doc pm an cdv ct) ⟨us, []⟩ = pure (ps.zip us)) :
    Cal P w K mg base x 0 ps (fun _ _ _ _ => False) := by
  obtain ⟨f, fd, F, m⟩ := F
  obtain ⟨oc, od, kV, doc, pm, an, cdv, ct, osl, e, lk, c⟩ := id F.ex
  exact ⟨f, fd, ⟨fun _ _ _ _ h => h.elim, fun _ _ _ _ _ _ _ _ _ _ _ _ _ _ h => h.elim⟩, F.binds bd, m, F.kp, oc, od, osl, lk⟩
/-! ### texts of small letters -/
theorem az : ∀ j : Fin 26, (("abcdefghijklmnopqrstuvwxyz" : Str).cps.toList)[j.val]? = some (97 + j.val) := by decide +kernel
theorem az_at {d : Int} (h0 : 0 ≤ d) (h1 : d < 26) : atI ("abcdefghijklmnopqrstuvwxyz" : Str).cps.toList d = some (97 + d.toNat) := by
  have e : d = ((d.toNat : Nat) : Int) := by omega
  have q := az ⟨d.toNat, by omega⟩
  rw [e]
  exact atI_nat q
def sg (c : Nat) : Str := ⟨#[c]⟩
open TL in
theorem joinL_sg : ∀ cs : List Nat, joinL [] (cs.map fun c => [c]) = cs
  | [] => rfl
  | [c] => rfl
  | c :: d :: r => by
    show [c] ++ ([] ++ joinL [] ((d :: r).map fun c => [c])) = c :: d :: r
    rw [joinL_sg (d :: r)]
    rfl
open TL in
theorem tl_of (z : Str) : tl z = z.cps.toList := rfl
open TL in
theorem join_sg (cs : List Nat) : (Txt.join "" (cs.map sg)).cps.toList = cs := by
  rw [join_eq, ← tl_of, tl_join]
  have e : (cs.map sg).map tl = cs.map fun c => [c] := by rw [List.map_map]; rfl
  rw [e]
  exact joinL_sg cs
open TL in
theorem join_sg_len (cs : List Nat) : (Txt.join "" (cs.map sg)).length = cs.length := by
  have e := congrArg List.length (join_sg cs)
  rw [← e]
  show _ = (Txt.join "" (cs.map sg)).cps.toList.length
  simp [Str.length]
theorem sum_sg : ∀ cs : List Nat, ((cs.map sg).map (·.length)).sum = cs.length
  | [] => rfl
  | c :: r => by
    show 1 + ((r.map sg).map (·.length)).sum = r.length + 1
    rw [sum_sg r]; omega

end G0
namespace G0
open PySem PySem.Spec PyProof.Rows L2
theorem iteF' {c : Bool} {A B : Prop} (e : c = false) (h : B) : if c = true then A else B := by rw [e]; exact iteF h
theorem iteT' {c : Bool} {A B : Prop} (e : c = true) (h : A) : if c = true then A else B := by rw [e]; exact iteT h
/-! ### several lists may change -/
def ChgS (S : List Addr) (H H' : Hp) : Prop := ∀ b o, b ∉ S → H b = some o → H' b = some o
section
variable {S : List Addr} {p q : Addr} {H H' H0 H1 H2 : Hp} {o : HO}
theorem ChgS.refl : ChgS S H H := fun _ _ _ e => e
theorem ChgS.trans (a : ChgS S H H1) (b : ChgS S H1 H2) : ChgS S H H2 := fun c o n e => b c o n (a c o n e)
theorem Chg.s (h : Chg p H H') (m : p ∈ S) : ChgS S H H' := fun b o n e => h b o (fun z => n (z ▸ m)) e
theorem Same.s (h : Same H H') : ChgS S H H' := fun b o _ e => h b o e
theorem ChgS.mono {T : List Addr} (h : ChgS S H H') (m : ∀ b ∈ S, b ∈ T) : ChgS T H H' := fun b o n e => h b o (fun z => n (m b z)) e
theorem ChgS.new (a : ChgS S H H1) (n : H1 q = none) : ChgS S H (upd H1 q o) := fun b u m e => by
  rw [upd_ne (ne_of_none (a b u m e) n)]; exact a b u m e
theorem ChgS.mut (a : ChgS S H H1) (n : H q = none) : ChgS S H (upd H1 q o) := fun b u m e => by
  rw [upd_ne (ne_of_none e n)]; exact a b u m e
theorem ChgS.put (a : ChgS S H H1) (m : q ∈ S) : ChgS S H (upd H1 q o) := fun b u n e => by
  have nb : b ≠ q := fun z => n (by rw [z]; exact m)
  rw [upd_ne nb]; exact a b u n e
/-- what is new behind was new ahead -/
theorem ChgS.back (a : ChgS S H H1) (n : H1 q = none) (m : q ∉ S) : H q = none := by
  cases e : H q with
  | none => rfl
  | some u => rw [a q u m e] at n; cases n
theorem Chg.back (a : Chg p H H1) (n : H1 q = none) (m : q ≠ p) : H q = none := by
  cases e : H q with
  | none => rfl
  | some u => rw [a q u m e] at n; cases n
theorem PotAt.keepS {n : Nat} (h : PotAt n H p) (s : ChgS S H H') (m : p ∉ S) : PotAt n H' p := by
  obtain ⟨xs, e, h⟩ := h
  exact ⟨xs, s _ _ m e, h⟩
end
/-! ### lists of ints -/
section
variable {K : PySem.W.Frag} {H : Hp}
theorem dps_ints : ∀ ns : List Int, DpAll K H (ns.map V.int) (ns.map PyData.int)
  | [] => .nil
  | n :: r => .cons (.int n) (dps_ints r)
theorem dp_ints {a : Addr} {ns : List Int} (h : H a = some (.lst (ns.map V.int))) : Dp K H (.ref a) (.list (ns.map PyData.int)) := .lst (SqL.of h) (dps_ints ns)
theorem lay_ints : ∀ ns : List Int, PyData.canLayAll0 (ns.map PyData.int) = true
  | [] => by simp [PyData.canLayAll0]
  | n :: r => by simp [PyData.canLayAll0, PyData.canLay0, lay_ints r]
theorem deep_ints : ∀ ns : List Int, PyData.depthAll (ns.map PyData.int) = 0
  | [] => by simp [PyData.depthAll]
  | n :: r => by simp [PyData.depthAll, PyData.depth, deep_ints r]
theorem shaped_ints (ns : List Int) : SeqAt.shaped (.list (ns.map PyData.int)) = true := by
  show ((PyData.list (ns.map PyData.int)).canLay0 && decide ((PyData.list (ns.map PyData.int)).depth ≤ 64)) = true
  simp [PyData.canLay0, PyData.depth, lay_ints, deep_ints]
theorem flat_ints : ∀ ns : List Int, (ns.map V.int).all flatV = true
  | [] => rfl
  | n :: r => by simp [flatV, flat_ints r]
theorem inV_ints (v : Int) : ∀ ns : List Int, inV (.int v) (ns.map V.int) = decide (v ∈ ns)
  | [] => by simp [inV]
  | n :: r => by
    have ih := inV_ints v r
    unfold inV at ih ⊢
    rw [List.map_cons, List.any_cons, ih]
    show ((n == v) || decide (v ∈ r)) = decide (v ∈ n :: r)
    by_cases e : n = v
    · subst e; simp
    · have e' : ¬ v = n := fun z => e z.symm
      simp [e, e']
theorem at_ints {ns : List Int} {d : Int} (h0 : 0 ≤ d) (h1 : d < ns.length) : ∃ v, v ∈ ns ∧ atI (ns.map V.int) d = some (.int v) := by
  have hk : d.toNat < ns.length := by omega
  have ek : d = ((d.toNat : Nat) : Int) := by omega
  refine ⟨ns[d.toNat], List.getElem_mem hk, ?_⟩
  have q : atI (ns.map V.int) ((d.toNat : Nat) : Int) = some (.int ns[d.toNat]) := atI_nat (by rw [List.getElem?_map, List.getElem?_eq_getElem hk] <;> rfl)
  rw [← ek] at q
  exact q
end
/-! ### how long a repr is -/
mutual
def cost : PyData → Nat
  | .none => 4
  | .bool _ => 5
  | .int _ => 1921
  | .str x => 10 * x.length + 2
  | .list xs => 2 + costs xs
  | .tuple xs => 4 + costs xs
  | .dict _ => 0
def costs : List PyData → Nat
  | [] => 0
  | x :: xs => cost x + 2 + costs xs
end
theorem from_le : ∀ (ts : List Str) (k : Nat) (acc : Str), (textFrom k acc ts).length ≤ acc.length + (ts.map fun t => t.length + 2).sum
  | [], k, acc => by show acc.length ≤ _; simp
  | t :: r, k, acc => by
    have ih := from_le r (k + 1) (acc ++ (if k > 0 then ", " else "" : String) ++ t)
    show (textFrom (k + 1) _ r).length ≤ _
    rw [List.map_cons, List.sum_cons]
    rw [Str.length_append, Str.length_append] at ih
    have sep : (Str.ofString (if k > 0 then ", " else "")).length ≤ 2 := by split <;> decide
    omega
theorem join_le : ∀ ts : List Str, (Str.join ", " ts).length ≤ (ts.map fun t => t.length + 2).sum
  | [] => by decide
  | [x] => by show x.length ≤ _; simp
  | x :: y :: r => by
    have ih := join_le (y :: r)
    show (x ++ (", " : Str) ++ Str.join ", " (y :: r)).length ≤ _
    rw [Str.length_append, Str.length_append, List.map_cons, List.sum_cons]
    have : (", " : Str).length = 2 := by decide
    omega
theorem small_cps {x : Str} (h : PyData.strOk x = true) : ∀ c ∈ x.cps.toList, c < 16 ^ 8 := fun c hc => by
  unfold PyData.strOk at h
  rw [Array.all_eq_true_iff_forall_mem] at h
  have := of_decide_eq_true (h c (Array.mem_toList_iff.mp hc))
  omega
mutual
theorem shown_le : ∀ d : PyData, d.showable = true → d.canLay0 = true → d.shown.length ≤ cost d
  | .none, _, _ => by show (("None" : Str)).length ≤ 4; decide
  | .bool b, _, _ => by cases b <;> (simp only [PyData.shown, cost]; decide)
  | .int i, h, _ => by
    simp only [PyData.shown, cost]
    exact int_text_len_1921 (by simpa [PyData.showable] using h)
  | .str x, _, h => by
    simp only [PyData.shown, cost]
    exact StrLaws.reprText_len x (small_cps (by simpa [PyData.canLay0] using h))
  | .list xs, h, l => by
    have ih := shown_les xs (by simpa [PyData.showable] using h) (by simpa [PyData.canLay0] using l)
    simp only [PyData.shown, cost]
    show (textFrom 0 "[" (PyData.shownAll xs) ++ ("]" : Str)).length ≤ _
    have := from_le (PyData.shownAll xs) 0 "["
    have a : ("[" : Str).length = 1 := by decide
    have b : ("]" : Str).length = 1 := by decide
    rw [Str.length_append]
    omega
  | .tuple xs, h, l => by
    have ih := shown_les xs (by simpa [PyData.showable] using h) (by simpa [PyData.canLay0] using l)
    simp only [PyData.shown, cost]
    show (("(" : Str) ++ Str.join ", " (PyData.shownAll xs) ++ (Str.ofString (if (PyData.shownAll xs).length == 1 then ",)" else ")"))).length ≤ _
    have := join_le (PyData.shownAll xs)
    have a : ("(" : Str).length = 1 := by decide
    have b : (Str.ofString (if (PyData.shownAll xs).length == 1 then ",)" else ")")).length ≤ 2 := by split <;> decide
    rw [Str.length_append, Str.length_append]
    omega
  | .dict _, _, h => by simp [PyData.canLay0] at h
theorem shown_les : ∀ ds : List PyData, PyData.showableAll ds = true → PyData.canLayAll0 ds = true → ((PyData.shownAll ds).map fun t => t.length + 2).sum ≤ costs ds
  | [], _, _ => Nat.le_refl _
  | d :: ds, h, l => by
    simp only [PyData.showableAll, Bool.and_eq_true] at h
    simp only [PyData.canLayAll0, Bool.and_eq_true] at l
    have h1 := shown_le d h.1 l.1
    have h2 := shown_les ds h.2 l.2
    simp only [PyData.shownAll, costs, List.map_cons, List.sum_cons]
    omega
end

end G0
namespace G0
open PySem PySem.Spec PyProof.Rows L2
theorem n_me_stt : (("me" : Str) = "state") = False := eq_false (by decide +kernel)
theorem n_me_sits : (("me" : Str) = "sits") = False := eq_false (by decide +kernel)
theorem n_me_cnt : (("me" : Str) = "count") = False := eq_false (by decide +kernel)
theorem n_me_stp : (("me" : Str) = "stamp") = False := eq_false (by decide +kernel)
theorem n_me_sts : (("me" : Str) = "_seats") = False := eq_false (by decide +kernel)
theorem n_me_awt : (("me" : Str) = "_awaits") = False := eq_false (by decide +kernel)
theorem n_me_hld : (("me" : Str) = "_holds") = False := eq_false (by decide +kernel)
theorem n_me_tgn : (("me" : Str) = "_told_gone") = False := eq_false (by decide +kernel)
theorem n_stt_me : (("state" : Str) = "me") = False := eq_false (by decide +kernel)
theorem n_stt_sits : (("state" : Str) = "sits") = False := eq_false (by decide +kernel)
theorem n_stt_cnt : (("state" : Str) = "count") = False := eq_false (by decide +kernel)
theorem n_stt_stp : (("state" : Str) = "stamp") = False := eq_false (by decide +kernel)
theorem n_stt_sts : (("state" : Str) = "_seats") = False := eq_false (by decide +kernel)
theorem n_stt_awt : (("state" : Str) = "_awaits") = False := eq_false (by decide +kernel)
theorem n_stt_hld : (("state" : Str) = "_holds") = False := eq_false (by decide +kernel)
theorem n_stt_tgn : (("state" : Str) = "_told_gone") = False := eq_false (by decide +kernel)
theorem n_sits_me : (("sits" : Str) = "me") = False := eq_false (by decide +kernel)
theorem n_sits_stt : (("sits" : Str) = "state") = False := eq_false (by decide +kernel)
theorem n_sits_cnt : (("sits" : Str) = "count") = False := eq_false (by decide +kernel)
theorem n_sits_stp : (("sits" : Str) = "stamp") = False := eq_false (by decide +kernel)
theorem n_sits_sts : (("sits" : Str) = "_seats") = False := eq_false (by decide +kernel)
theorem n_sits_awt : (("sits" : Str) = "_awaits") = False := eq_false (by decide +kernel)
theorem n_sits_hld : (("sits" : Str) = "_holds") = False := eq_false (by decide +kernel)
theorem n_sits_tgn : (("sits" : Str) = "_told_gone") = False := eq_false (by decide +kernel)
theorem n_cnt_me : (("count" : Str) = "me") = False := eq_false (by decide +kernel)
theorem n_cnt_stt : (("count" : Str) = "state") = False := eq_false (by decide +kernel)
theorem n_cnt_sits : (("count" : Str) = "sits") = False := eq_false (by decide +kernel)
theorem n_cnt_stp : (("count" : Str) = "stamp") = False := eq_false (by decide +kernel)
theorem n_cnt_sts : (("count" : Str) = "_seats") = False := eq_false (by decide +kernel)
theorem n_cnt_awt : (("count" : Str) = "_awaits") = False := eq_false (by decide +kernel)
theorem n_cnt_hld : (("count" : Str) = "_holds") = False := eq_false (by decide +kernel)
theorem n_cnt_tgn : (("count" : Str) = "_told_gone") = False := eq_false (by decide +kernel)
theorem n_stp_me : (("stamp" : Str) = "me") = False := eq_false (by decide +kernel)
theorem n_stp_stt : (("stamp" : Str) = "state") = False := eq_false (by decide +kernel)
theorem n_stp_sits : (("stamp" : Str) = "sits") = False := eq_false (by decide +kernel)
theorem n_stp_cnt : (("stamp" : Str) = "count") = False := eq_false (by decide +kernel)
theorem n_stp_sts : (("stamp" : Str) = "_seats") = False := eq_false (by decide +kernel)
theorem n_stp_awt : (("stamp" : Str) = "_awaits") = False := eq_false (by decide +kernel)
theorem n_stp_hld : (("stamp" : Str) = "_holds") = False := eq_false (by decide +kernel)
theorem n_stp_tgn : (("stamp" : Str) = "_told_gone") = False := eq_false (by decide +kernel)
theorem n_sts_me : (("_seats" : Str) = "me") = False := eq_false (by decide +kernel)
theorem n_sts_stt : (("_seats" : Str) = "state") = False := eq_false (by decide +kernel)
theorem n_sts_sits : (("_seats" : Str) = "sits") = False := eq_false (by decide +kernel)
theorem n_sts_cnt : (("_seats" : Str) = "count") = False := eq_false (by decide +kernel)
theorem n_sts_stp : (("_seats" : Str) = "stamp") = False := eq_false (by decide +kernel)
theorem n_sts_awt : (("_seats" : Str) = "_awaits") = False := eq_false (by decide +kernel)
theorem n_sts_hld : (("_seats" : Str) = "_holds") = False := eq_false (by decide +kernel)
theorem n_sts_tgn : (("_seats" : Str) = "_told_gone") = False := eq_false (by decide +kernel)
theorem n_awt_me : (("_awaits" : Str) = "me") = False := eq_false (by decide +kernel)
theorem n_awt_stt : (("_awaits" : Str) = "state") = False := eq_false (by decide +kernel)
theorem n_awt_sits : (("_awaits" : Str) = "sits") = False := eq_false (by decide +kernel)
theorem n_awt_cnt : (("_awaits" : Str) = "count") = False := eq_false (by decide +kernel)
theorem n_awt_stp : (("_awaits" : Str) = "stamp") = False := eq_false (by decide +kernel)
theorem n_awt_sts : (("_awaits" : Str) = "_seats") = False := eq_false (by decide +kernel)
theorem n_awt_hld : (("_awaits" : Str) = "_holds") = False := eq_false (by decide +kernel)
theorem n_awt_tgn : (("_awaits" : Str) = "_told_gone") = False := eq_false (by decide +kernel)
theorem n_hld_me : (("_holds" : Str) = "me") = False := eq_false (by decide +kernel)
theorem n_hld_stt : (("_holds" : Str) = "state") = False := eq_false (by decide +kernel)
theorem n_hld_sits : (("_holds" : Str) = "sits") = False := eq_false (by decide +kernel)
theorem n_hld_cnt : (("_holds" : Str) = "count") = False := eq_false (by decide +kernel)
theorem n_hld_stp : (("_holds" : Str) = "stamp") = False := eq_false (by decide +kernel)
theorem n_hld_sts : (("_holds" : Str) = "_seats") = False := eq_false (by decide +kernel)
theorem n_hld_awt : (("_holds" : Str) = "_awaits") = False := eq_false (by decide +kernel)
theorem n_hld_tgn : (("_holds" : Str) = "_told_gone") = False := eq_false (by decide +kernel)
theorem n_tgn_me : (("_told_gone" : Str) = "me") = False := eq_false (by decide +kernel)
theorem n_tgn_stt : (("_told_gone" : Str) = "state") = False := eq_false (by decide +kernel)
theorem n_tgn_sits : (("_told_gone" : Str) = "sits") = False := eq_false (by decide +kernel)
theorem n_tgn_cnt : (("_told_gone" : Str) = "count") = False := eq_false (by decide +kernel)
theorem n_tgn_stp : (("_told_gone" : Str) = "stamp") = False := eq_false (by decide +kernel)
theorem n_tgn_sts : (("_told_gone" : Str) = "_seats") = False := eq_false (by decide +kernel)
theorem n_tgn_awt : (("_told_gone" : Str) = "_awaits") = False := eq_false (by decide +kernel)
theorem n_tgn_hld : (("_told_gone" : Str) = "_holds") = False := eq_false (by decide +kernel)
def stF (me : Int) (stt : Str) (sits : Bool) (cnt : Int) (stp : V) (sts : Int) (awt : Addr) (hld : Addr) (tgn : Addr) : List (Str × V) := [("me", .int me), ("state", .str stt), ("sits", .bl sits), ("count", .int cnt), ("stamp", stp), ("_seats", .int sts), ("_awaits", .ref awt), ("_holds", .ref hld), ("_told_gone", .ref tgn)]
theorem stF_me (me : Int) (stt : Str) (sits : Bool) (cnt : Int) (stp : V) (sts : Int) (awt : Addr) (hld : Addr) (tgn : Addr) : (stF me stt sits cnt stp sts awt hld tgn).lookup ("me" : Str) = some (.int me) := by unfold stF; rw [List.lookup_cons_self]
theorem stF_put_me (me : Int) (stt : Str) (sits : Bool) (cnt : Int) (stp : V) (sts : Int) (awt : Addr) (hld : Addr) (tgn : Addr) (me' : Int) : putF "me" (.int me') (stF me stt sits cnt stp sts awt hld tgn) = stF me' stt sits cnt stp sts awt hld tgn := by
  simp only [stF, putF, if_false, if_true]
theorem stF_stt (me : Int) (stt : Str) (sits : Bool) (cnt : Int) (stp : V) (sts : Int) (awt : Addr) (hld : Addr) (tgn : Addr) : (stF me stt sits cnt stp sts awt hld tgn).lookup ("state" : Str) = some (.str stt) := by unfold stF; rw [List.lookup_cons, beq_false_of_ne (fun z => by rw [n_stt_me] at z; exact z)]; simp only []; rw [List.lookup_cons_self]
theorem stF_put_stt (me : Int) (stt : Str) (sits : Bool) (cnt : Int) (stp : V) (sts : Int) (awt : Addr) (hld : Addr) (tgn : Addr) (stt' : Str) : putF "state" (.str stt') (stF me stt sits cnt stp sts awt hld tgn) = stF me stt' sits cnt stp sts awt hld tgn := by
  simp only [stF, putF, n_me_stt, if_false, if_true]
theorem stF_sits (me : Int) (stt : Str) (sits : Bool) (cnt : Int) (stp : V) (sts : Int) (awt : Addr) (hld : Addr) (tgn : Addr) : (stF me stt sits cnt stp sts awt hld tgn).lookup ("sits" : Str) = some (.bl sits) := by unfold stF; rw [List.lookup_cons, beq_false_of_ne (fun z => by rw [n_sits_me] at z; exact z)]; simp only []; rw [List.lookup_cons, beq_false_of_ne (fun z => by rw [n_sits_stt] at z; exact z)]; simp only []; rw [List.lookup_cons_self]
theorem stF_put_sits (me : Int) (stt : Str) (sits : Bool) (cnt : Int) (stp : V) (sts : Int) (awt : Addr) (hld : Addr) (tgn : Addr) (sits' : Bool) : putF "sits" (.bl sits') (stF me stt sits cnt stp sts awt hld tgn) = stF me stt sits' cnt stp sts awt hld tgn := by
  simp only [stF, putF, n_me_sits, n_stt_sits, if_false, if_true]
theorem stF_cnt (me : Int) (stt : Str) (sits : Bool) (cnt : Int) (stp : V) (sts : Int) (awt : Addr) (hld : Addr) (tgn : Addr) : (stF me stt sits cnt stp sts awt hld tgn).lookup ("count" : Str) = some (.int cnt) := by unfold stF; rw [List.lookup_cons, beq_false_of_ne (fun z => by rw [n_cnt_me] at z; exact z)]; simp only []; rw [List.lookup_cons, beq_false_of_ne (fun z => by rw [n_cnt_stt] at z; exact z)]; simp only []; rw [List.lookup_cons, beq_false_of_ne (fun z => by rw [n_cnt_sits] at z; exact z)]; simp only []; rw [List.lookup_cons_self]
theorem stF_put_cnt (me : Int) (stt : Str) (sits : Bool) (cnt : Int) (stp : V) (sts : Int) (awt : Addr) (hld : Addr) (tgn : Addr) (cnt' : Int) : putF "count" (.int cnt') (stF me stt sits cnt stp sts awt hld tgn) = stF me stt sits cnt' stp sts awt hld tgn := by
  simp only [stF, putF, n_me_cnt, n_stt_cnt, n_sits_cnt, if_false, if_true]
theorem stF_stp (me : Int) (stt : Str) (sits : Bool) (cnt : Int) (stp : V) (sts : Int) (awt : Addr) (hld : Addr) (tgn : Addr) : (stF me stt sits cnt stp sts awt hld tgn).lookup ("stamp" : Str) = some (stp) := by unfold stF; rw [List.lookup_cons, beq_false_of_ne (fun z => by rw [n_stp_me] at z; exact z)]; simp only []; rw [List.lookup_cons, beq_false_of_ne (fun z => by rw [n_stp_stt] at z; exact z)]; simp only []; rw [List.lookup_cons, beq_false_of_ne (fun z => by rw [n_stp_sits] at z; exact z)]; simp only []; rw [List.lookup_cons, beq_false_of_ne (fun z => by rw [n_stp_cnt] at z; exact z)]; simp only []; rw [List.lookup_cons_self]
theorem stF_put_stp (me : Int) (stt : Str) (sits : Bool) (cnt : Int) (stp : V) (sts : Int) (awt : Addr) (hld : Addr) (tgn : Addr) (stp' : V) : putF "stamp" (stp') (stF me stt sits cnt stp sts awt hld tgn) = stF me stt sits cnt stp' sts awt hld tgn := by
  simp only [stF, putF, n_me_stp, n_stt_stp, n_sits_stp, n_cnt_stp, if_false, if_true]
theorem stF_sts (me : Int) (stt : Str) (sits : Bool) (cnt : Int) (stp : V) (sts : Int) (awt : Addr) (hld : Addr) (tgn : Addr) : (stF me stt sits cnt stp sts awt hld tgn).lookup ("_seats" : Str) = some (.int sts) := by unfold stF; rw [List.lookup_cons, beq_false_of_ne (fun z => by rw [n_sts_me] at z; exact z)]; simp only []; rw [List.lookup_cons, beq_false_of_ne (fun z => by rw [n_sts_stt] at z; exact z)]; simp only []; rw [List.lookup_cons, beq_false_of_ne (fun z => by rw [n_sts_sits] at z; exact z)]; simp only []; rw [List.lookup_cons, beq_false_of_ne (fun z => by rw [n_sts_cnt] at z; exact z)]; simp only []; rw [List.lookup_cons, beq_false_of_ne (fun z => by rw [n_sts_stp] at z; exact z)]; simp only []; rw [List.lookup_cons_self]
theorem stF_put_sts (me : Int) (stt : Str) (sits : Bool) (cnt : Int) (stp : V) (sts : Int) (awt : Addr) (hld : Addr) (tgn : Addr) (sts' : Int) : putF "_seats" (.int sts') (stF me stt sits cnt stp sts awt hld tgn) = stF me stt sits cnt stp sts' awt hld tgn := by
  simp only [stF, putF, n_me_sts, n_stt_sts, n_sits_sts, n_cnt_sts, n_stp_sts, if_false, if_true]
theorem stF_awt (me : Int) (stt : Str) (sits : Bool) (cnt : Int) (stp : V) (sts : Int) (awt : Addr) (hld : Addr) (tgn : Addr) : (stF me stt sits cnt stp sts awt hld tgn).lookup ("_awaits" : Str) = some (.ref awt) := by unfold stF; rw [List.lookup_cons, beq_false_of_ne (fun z => by rw [n_awt_me] at z; exact z)]; simp only []; rw [List.lookup_cons, beq_false_of_ne (fun z => by rw [n_awt_stt] at z; exact z)]; simp only []; rw [List.lookup_cons, beq_false_of_ne (fun z => by rw [n_awt_sits] at z; exact z)]; simp only []; rw [List.lookup_cons, beq_false_of_ne (fun z => by rw [n_awt_cnt] at z; exact z)]; simp only []; rw [List.lookup_cons, beq_false_of_ne (fun z => by rw [n_awt_stp] at z; exact z)]; simp only []; rw [List.lookup_cons, beq_false_of_ne (fun z => by rw [n_awt_sts] at z; exact z)]; simp only []; rw [List.lookup_cons_self]
theorem stF_put_awt (me : Int) (stt : Str) (sits : Bool) (cnt : Int) (stp : V) (sts : Int) (awt : Addr) (hld : Addr) (tgn : Addr) (awt' : Addr) : putF "_awaits" (.ref awt') (stF me stt sits cnt stp sts awt hld tgn) = stF me stt sits cnt stp sts awt' hld tgn := by
  simp only [stF, putF, n_me_awt, n_stt_awt, n_sits_awt, n_cnt_awt, n_stp_awt, n_sts_awt, if_false, if_true]
theorem stF_hld (me : Int) (stt : Str) (sits : Bool) (cnt : Int) (stp : V) (sts : Int) (awt : Addr) (hld : Addr) (tgn : Addr) : (stF me stt sits cnt stp sts awt hld tgn).lookup ("_holds" : Str) = some (.ref hld) := by unfold stF; rw [List.lookup_cons, beq_false_of_ne (fun z => by rw [n_hld_me] at z; exact z)]; simp only []; rw [List.lookup_cons, beq_false_of_ne (fun z => by rw [n_hld_stt] at z; exact z)]; simp only []; rw [List.lookup_cons, beq_false_of_ne (fun z => by rw [n_hld_sits] at z; exact z)]; simp only []; rw [List.lookup_cons, beq_false_of_ne (fun z => by rw [n_hld_cnt] at z; exact z)]; simp only []; rw [List.lookup_cons, beq_false_of_ne (fun z => by rw [n_hld_stp] at z; exact z)]; simp only []; rw [List.lookup_cons, beq_false_of_ne (fun z => by rw [n_hld_sts] at z; exact z)]; simp only []; rw [List.lookup_cons, beq_false_of_ne (fun z => by rw [n_hld_awt] at z; exact z)]; simp only []; rw [List.lookup_cons_self]
theorem stF_put_hld (me : Int) (stt : Str) (sits : Bool) (cnt : Int) (stp : V) (sts : Int) (awt : Addr) (hld : Addr) (tgn : Addr) (hld' : Addr) : putF "_holds" (.ref hld') (stF me stt sits cnt stp sts awt hld tgn) = stF me stt sits cnt stp sts awt hld' tgn := by
  simp only [stF, putF, n_me_hld, n_stt_hld, n_sits_hld, n_cnt_hld, n_stp_hld, n_sts_hld, n_awt_hld, if_false, if_true]
theorem stF_tgn (me : Int) (stt : Str) (sits : Bool) (cnt : Int) (stp : V) (sts : Int) (awt : Addr) (hld : Addr) (tgn : Addr) : (stF me stt sits cnt stp sts awt hld tgn).lookup ("_told_gone" : Str) = some (.ref tgn) := by unfold stF; rw [List.lookup_cons, beq_false_of_ne (fun z => by rw [n_tgn_me] at z; exact z)]; simp only []; rw [List.lookup_cons, beq_false_of_ne (fun z => by rw [n_tgn_stt] at z; exact z)]; simp only []; rw [List.lookup_cons, beq_false_of_ne (fun z => by rw [n_tgn_sits] at z; exact z)]; simp only []; rw [List.lookup_cons, beq_false_of_ne (fun z => by rw [n_tgn_cnt] at z; exact z)]; simp only []; rw [List.lookup_cons, beq_false_of_ne (fun z => by rw [n_tgn_stp] at z; exact z)]; simp only []; rw [List.lookup_cons, beq_false_of_ne (fun z => by rw [n_tgn_sts] at z; exact z)]; simp only []; rw [List.lookup_cons, beq_false_of_ne (fun z => by rw [n_tgn_awt] at z; exact z)]; simp only []; rw [List.lookup_cons, beq_false_of_ne (fun z => by rw [n_tgn_hld] at z; exact z)]; simp only []; rw [List.lookup_cons_self]
theorem stF_put_tgn (me : Int) (stt : Str) (sits : Bool) (cnt : Int) (stp : V) (sts : Int) (awt : Addr) (hld : Addr) (tgn : Addr) (tgn' : Addr) : putF "_told_gone" (.ref tgn') (stF me stt sits cnt stp sts awt hld tgn) = stF me stt sits cnt stp sts awt hld tgn' := by
  simp only [stF, putF, n_me_tgn, n_stt_tgn, n_sits_tgn, n_cnt_tgn, n_stp_tgn, n_sts_tgn, n_awt_tgn, n_hld_tgn, if_false, if_true]
theorem stF_no (me : Int) (stt : Str) (sits : Bool) (cnt : Int) (stp : V) (sts : Int) (awt : Addr) (hld : Addr) (tgn : Addr) {x : Str} (h0 : x ≠ ("me" : Str)) (h1 : x ≠ ("state" : Str)) (h2 : x ≠ ("sits" : Str)) (h3 : x ≠ ("count" : Str)) (h4 : x ≠ ("stamp" : Str)) (h5 : x ≠ ("_seats" : Str)) (h6 : x ≠ ("_awaits" : Str)) (h7 : x ≠ ("_holds" : Str)) (h8 : x ≠ ("_told_gone" : Str)) : (stF me stt sits cnt stp sts awt hld tgn).lookup x = none := by
  unfold stF
  rw [List.lookup_cons, beq_false_of_ne h0]; simp only []
  rw [List.lookup_cons, beq_false_of_ne h1]; simp only []
  rw [List.lookup_cons, beq_false_of_ne h2]; simp only []
  rw [List.lookup_cons, beq_false_of_ne h3]; simp only []
  rw [List.lookup_cons, beq_false_of_ne h4]; simp only []
  rw [List.lookup_cons, beq_false_of_ne h5]; simp only []
  rw [List.lookup_cons, beq_false_of_ne h6]; simp only []
  rw [List.lookup_cons, beq_false_of_ne h7]; simp only []
  rw [List.lookup_cons, beq_false_of_ne h8]; rfl
end G0
namespace G0
open PySem PySem.Spec PyProof.Rows L2
def top (i : Nat) : Stmt := PySem.Challenge.pw_soleseat_k29_one_going_of_one_seat.main.body.getD i (.Pass ⟨0, 0, 0, 0⟩)
abbrev s_Seat__init : Stmt := inClass (top 1) 0
abbrev s_Seat_ask : Stmt := inClass (top 1) 1
abbrev s_Seat_leave : Stmt := inClass (top 1) 2
abbrev s_Seat_hear : Stmt := inClass (top 1) 3
abbrev s_Seat_gone : Stmt := inClass (top 1) 4
abbrev s_Stamper__init : Stmt := inClass (top 4) 0
abbrev s_Stamper_ask : Stmt := inClass (top 4) 1
abbrev s_Stamper_leave : Stmt := inClass (top 4) 2
abbrev s_Stamper_hear : Stmt := inClass (top 4) 3
abbrev s_Stamper_gone : Stmt := inClass (top 4) 4
abbrev s_Stamper_awaits : Stmt := inClass (top 4) 5
abbrev s_Stamper_holds : Stmt := inClass (top 4) 6
abbrev s_Stamper_told_gone : Stmt := inClass (top 4) 7
abbrev s_Stamper_hear_ask : Stmt := inClass (top 4) 8
abbrev s_Stamper_yes : Stmt := inClass (top 4) 9
abbrev s_Stamper_await_no_more : Stmt := inClass (top 4) 10
abbrev s_Stamper_come_in_where_none_is_awaited : Stmt := inClass (top 4) 11
abbrev s_law_pot : Stmt := top 6
abbrev s_law_draw : Stmt := top 7
abbrev s_law_same : Stmt := top 8
abbrev s_law_others : Stmt := top 9
abbrev s_law_stands : Stmt := top 10
abbrev s_law_asked : Stmt := top 11
abbrev s_law_let : Stmt := top 12
abbrev s_law : Stmt := top 13
section
structure BlS (mg : Str → Option Value) : Prop where
  len : mg "len" = none
  range : mg "range" = none
  list : mg "list" = none
  sorted : mg "sorted" = none
  max : mg "max" = none
variable {P : Program} {w : World} {K : PySem.W.Frag} {mg : Str → Option Value} {base : Heap} {C f : Addr} {fd : FuncData}
theorem u66 {k : Nat} {A : Around} (hr : Room k A) : A.units + 66 < cLine := by have := hr.un; omega
theorem u64 {k : Nat} {A : Around} (hr : Room k A) : A.units + 64 < cLine := by have := hr.un; omega
theorem u0 {k : Nat} {A : Around} (hr : Room k A) : A.units < cLine := by have := hr.un; omega
def Me (P : Program) (w : World) (K : PySem.W.Frag) (mg : Str → Option Value) (base : Heap) (C : Addr) (x : Str) (k : Nat) (ps : List Str) (sp : Sp) : Prop :=
  ∃ f fd, FnOk P w K mg base CX0 k f fd ps sp ∧ Binds K fd ps [] ∧ Meth K C x f
structure StT (K : PySem.W.Frag) (C : Addr) : Prop where
  cl : Cls K C
  me : NoAttr K C "me"
  state : NoAttr K C "state"
  count : NoAttr K C "count"
  stamp : NoAttr K C "stamp"
  seats : NoAttr K C "_seats"
  awaits : NoAttr K C "_awaits"
  holds : NoAttr K C "_holds"
  gone : NoAttr K C "_told_gone"
/-- a stamper: its fields, its three lists -/
structure Stm (H : Hp) (C p dx : Addr) (me : Int) (st : Str) (si : Bool) (cnt : Int) (stp : V) (n : Int) (aw hl tg : Addr) (ws hs ts : List Int) : Prop where
  hp : H p = some (.ins C dx (stF me st si cnt stp n aw hl tg))
  ha : H aw = some (.lst (ws.map V.int))
  hh : H hl = some (.lst (hs.map V.int))
  ht : H tg = some (.lst (ts.map V.int))
  nah : aw ≠ hl
  nat : aw ≠ tg
  nht : hl ≠ tg
theorem Stm.same {H H' : Hp} {p dx : Addr} {me : Int} {st : Str} {si : Bool} {cnt : Int} {stp : V} {n : Int} {aw hl tg : Addr} {ws hs ts : List Int} (S : Stm H C p dx me st si cnt stp n aw hl tg ws hs ts) (s : Same H H') : Stm H' C p dx me st si cnt stp n aw hl tg ws hs ts :=
  ⟨s _ _ S.hp, s _ _ S.ha, s _ _ S.hh, s _ _ S.ht, S.nah, S.nat, S.nht⟩
/-! ### awaits, holds -/
def spTells (C : Addr) (which : Nat) : Sp := fun vs H Q _ => ∃ (p dx : Addr) (me : Int) (st : Str) (si : Bool) (cnt : Int) (stp : V) (n : Int) (aw hl tg : Addr) (ws hs ts : List Int), vs = [.ref p] ∧ Stm H C p dx me st si cnt stp n aw hl tg ws hs ts ∧
  ∀ l, H l = none → Q (.ref l) (upd H l (.lst ((if which = 0 then ws else hs).map V.int)))
theorem sc_Stamper_awaits : FnScope ["self"] ["self"] (defScope s_Stamper_awaits) :=
  ⟨rfl, rfl, rfl, by decide +kernel, rfl, by decide +kernel, by decide +kernel⟩
theorem ok_awaits (F : Fun K "awaits" "Stamper.awaits" s_Stamper_awaits f fd) (T : BlS mg) (S : StT K C) : FnOk P w K mg base CX0 1 f fd ["self"] (spTells C 0) := by
  refine F.ok sc_Stamper_awaits (fun vs H Q E h => ?_) (fun cdv A outer s H vs Q E hr h => ?_)
  · obtain ⟨p, _, _, _, _, _, _, _, _, _, _, _, _, _, rfl, _⟩ := h
    rfl
  obtain ⟨p, dx, me, st, si, cnt, stp, n, aw, hl, tg, ws, hs, ts, rfl, M, q⟩ := h
  refine ⟨_, (pss_one (ps_ret (pe_callTy call_list_of (by rfl) T.list (by decide +kernel) (pa_cons (pe_fld (pv 0) (by rfl)) pa_nil)))), ?_⟩
  exact ⟨_, rfl, p, C, dx, _, _, rfl, M.hp, S.cl, S.awaits, stF_awt _ _ _ _ _ _ _ _ _, aw, _, rfl, .inl (SqL.of M.ha), q⟩
theorem sc_Stamper_holds : FnScope ["self"] ["self"] (defScope s_Stamper_holds) :=
  ⟨rfl, rfl, rfl, by decide +kernel, rfl, by decide +kernel, by decide +kernel⟩
theorem ok_holds (F : Fun K "holds" "Stamper.holds" s_Stamper_holds f fd) (T : BlS mg) (S : StT K C) : FnOk P w K mg base CX0 1 f fd ["self"] (spTells C 1) := by
  refine F.ok sc_Stamper_holds (fun vs H Q E h => ?_) (fun cdv A outer s H vs Q E hr h => ?_)
  · obtain ⟨p, _, _, _, _, _, _, _, _, _, _, _, _, _, rfl, _⟩ := h
    rfl
  obtain ⟨p, dx, me, st, si, cnt, stp, n, aw, hl, tg, ws, hs, ts, rfl, M, q⟩ := h
  refine ⟨_, (pss_one (ps_ret (pe_callTy call_list_of (by rfl) T.list (by decide +kernel) (pa_cons (pe_fld (pv 0) (by rfl)) pa_nil)))), ?_⟩
  exact ⟨_, rfl, p, C, dx, _, _, rfl, M.hp, S.cl, S.holds, stF_hld _ _ _ _ _ _ _ _ _, hl, _, rfl, .inl (SqL.of M.hh), q⟩
/-! ### told_gone -/
def spToldGone (C : Addr) : Sp := fun vs H Q _ => ∃ (p dx : Addr) (me : Int) (st : Str) (si : Bool) (cnt : Int) (stp : V) (n : Int) (aw hl tg : Addr) (ws hs ts : List Int), vs = [.ref p] ∧ Stm H C p dx me st si cnt stp n aw hl tg ws hs ts ∧ ts.length < 64 ∧
  ∀ (us : List Int) l, us.Perm ts → us.Pairwise (· ≤ ·) → H l = none → Q (.ref l) (upd H l (.lst (us.map V.int)))
theorem sc_Stamper_told_gone : FnScope ["self"] ["self"] (defScope s_Stamper_told_gone) :=
  ⟨rfl, rfl, rfl, by decide +kernel, rfl, by decide +kernel, by decide +kernel⟩
theorem ok_toldgone (F : Fun K "told_gone" "Stamper.told_gone" s_Stamper_told_gone f fd) (T : BlS mg) (S : StT K C) : FnOk P w K mg base CX0 1 f fd ["self"] (spToldGone C) := by
  refine F.ok sc_Stamper_told_gone (fun vs H Q E h => ?_) (fun cdv A outer s H vs Q E hr h => ?_)
  · obtain ⟨p, _, _, _, _, _, _, _, _, _, _, _, _, _, rfl, _⟩ := h
    rfl
  obtain ⟨p, dx, me, st, si, cnt, stp, n, aw, hl, tg, ws, hs, ts, rfl, M, len, q⟩ := h
  refine ⟨_, (pss_one (ps_ret (pe_callB cr_sorted (by rfl) T.sorted (by decide +kernel) (pa_cons (pe_fld (pv 0) (by rfl)) pa_nil)))), ?_⟩
  exact ⟨_, rfl, p, C, dx, _, _, rfl, M.hp, S.cl, S.gone, stF_tgn _ _ _ _ _ _ _ _ _, tg, ts, rfl, SqL.of M.ht, len, fun us l p1 p2 hl => q us l p1 p2 hl⟩
/-! ### _yes -/
def spYes (C : Addr) : Sp := fun vs H Q _ => ∃ (p dx : Addr) (me : Int) (st : Str) (si : Bool) (cnt : Int) (stp : V) (n : Int) (aw hl tg : Addr) (k : Int), vs = [.ref p, .int k] ∧ H p = some (.ins C dx (stF me st si cnt stp n aw hl tg)) ∧
  ∀ t1 t H', H t1 = none → H t = none → Same H H' → H' t1 = some (.tup [.str "yes", .int cnt]) → H' t = some (.tup [.int k, .ref t1]) → Q (.ref t) H'
theorem sc_Stamper_yes : FnScope ["self", "seat"] ["self", "seat"] (defScope s_Stamper_yes) :=
  ⟨rfl, rfl, rfl, by decide +kernel, rfl, by decide +kernel, by decide +kernel⟩
theorem ok_yes (F : Fun K "_yes" "Stamper._yes" s_Stamper_yes f fd) (S : StT K C) : FnOk P w K mg base CX0 1 f fd ["self", "seat"] (spYes C) := by
  refine F.ok sc_Stamper_yes (fun vs H Q E h => ?_) (fun cdv A outer s H vs Q E hr h => ?_)
  · obtain ⟨p, _, _, _, _, _, _, _, _, _, _, _, rfl, _⟩ := h
    rfl
  obtain ⟨p, dx, me, st, si, cnt, stp, n, aw, hl, tg, k, rfl, hp, q⟩ := h
  refine ⟨_, (pss_one (ps_ret (pe_tup (pa_cons (pv 1) (pa_cons (pe_tup (pa_cons pe_str (pa_cons (pe_fld (pv 0) (by rfl)) pa_nil))) pa_nil))))), ?_⟩
  refine ⟨_, rfl, _, rfl, p, C, dx, _, _, rfl, hp, S.cl, S.count, stF_cnt _ _ _ _ _ _ _ _ _, by show 2 ≤ sizeLine; decide, ?_⟩
  intro t1 ht1
  refine ⟨by show 2 ≤ sizeLine; decide, ?_⟩
  intro t ht
  have n0 : H t = none := by
    cases z : H t with
    | none => rfl
    | some o => rw [same_upd ht1 _ _ z] at ht; cases ht
  exact q t1 t _ ht1 n0 ((same_upd ht1).trans (same_upd ht)) (same_upd ht _ _ upd_same) upd_same
/-! ### coming in -/
def inB (st : Str) (ws : List Int) : Bool := decide (st = "asking") && decide (ws = [])
def spCome (C : Addr) : Sp := fun vs H Q _ => ∃ (p dx : Addr) (me : Int) (st : Str) (si : Bool) (cnt : Int) (stp : V) (n : Int) (aw hl tg : Addr) (ws : List Int), vs = [.ref p] ∧ H p = some (.ins C dx (stF me st si cnt stp n aw hl tg)) ∧ H aw = some (.lst (ws.map V.int)) ∧
  (if inB st ws = true then Q .non (upd H p (.ins C dx (stF me "in" si cnt stp n aw hl tg))) else Q .non H)
theorem sc_Stamper_come_in_where_none_is_awaited : FnScope ["self"] ["self"] (defScope s_Stamper_come_in_where_none_is_awaited) :=
  ⟨rfl, rfl, rfl, by decide +kernel, rfl, by decide +kernel, by decide +kernel⟩
theorem ok_come (F : Fun K "_come_in_where_none_is_awaited" "Stamper._come_in_where_none_is_awaited" s_Stamper_come_in_where_none_is_awaited f fd) (T : BlS mg) (S : StT K C) : FnOk P w K mg base CX0 1 f fd ["self"] (spCome C) := by
  refine F.ok sc_Stamper_come_in_where_none_is_awaited (fun vs H Q E h => ?_) (fun cdv A outer s H vs Q E hr h => ?_)
  · obtain ⟨p, _, _, _, _, _, _, _, _, _, _, _, rfl, _⟩ := h
    rfl
  obtain ⟨p, dx, me, st, si, cnt, stp, n, aw, hl, tg, ws, rfl, hp, ha, q⟩ := h
  refine ⟨_, (pss_one (ps_if (PW.pt (pw_and (pt_cmpR op_eq (pe_fld (pv 0) (by rfl)) pe_str (nomark _)) (pw_and1 (pt_cmpR op_eq (pe_callB call_len_seq (by rfl) T.len (by decide +kernel) (pa_cons (pe_fld (pv 0) (by rfl)) pa_nil)) pe_int (nomark _)))))
    (pss_one (ps_fld (pv 0) pe_str rfl))
    pss_nil)), ?_⟩
  refine ⟨_, rfl, p, C, dx, _, _, rfl, hp, S.cl, S.state, stF_stt _ _ _ _ _ _ _ _ _, rfl, _, rfl, ?_⟩
  by_cases c1 : st = "asking"
  · refine iteT' (by simp [c1]) ?_
    refine ⟨_, rfl, p, C, dx, _, _, rfl, hp, S.cl, S.awaits, stF_awt _ _ _ _ _ _ _ _ _, aw, _, rfl, .inl (SqL.of ha), rfl, _, rfl, ?_⟩
    rw [List.length_map]
    by_cases c2 : ws = []
    · refine iteT' (by simp [c2]) ?_
      refine ⟨_, rfl, p, C, dx, _, rfl, hp, S.cl, S.state, (by show 9 < 1000; decide), ?_⟩
      rw [stF_put_stt]
      rw [show inB st ws = true from by simp [inB, c1, c2]] at q
      exact q
    · refine iteF' (by cases ws with | nil => exact absurd rfl c2 | cons _ _ => simp; omega) ?_
      rw [show inB st ws = false from by simp [inB, c2]] at q
      exact q
  · refine iteF' (by simp [c1]) ?_
    rw [show inB st ws = false from by simp [inB, c1]] at q
    exact q
/-! ### _await_no_more -/
def stB (st : Str) (ws : List Int) : Str := if inB st ws = true then "in" else st
theorem filt_snoc {α : Type} {M : List α} {i : Nat} {k : α} (e : M[i]? = some k) (g : α → Bool) : (M.take (i + 1)).filter g = (M.take i).filter g ++ (if g k = true then [k] else []) := by
  rw [List.take_succ, e, List.filter_append]
  cases h : g k <;> simp [h]
theorem ints_at {ns : List Int} {i : Nat} {x : V} (h : (ns.map V.int)[i]? = some x) : ∃ k, ns[i]? = some k ∧ x = V.int k := by
  rw [List.getElem?_map] at h
  cases e : ns[i]? with
  | none => rw [e] at h; cases h
  | some k => rw [e] at h; exact ⟨k, rfl, (Option.some.inj h).symm⟩
theorem dec_ii {a b : Int} : decide (V.int a = V.int b) = decide (a = b) := decide_eq_decide.mpr ⟨fun h => by cases h; rfl, fun h => by rw [h]⟩
def spNoMore (C : Addr) : Sp := fun vs H Q _ => ∃ (p dx : Addr) (me : Int) (st : Str) (si : Bool) (cnt : Int) (stp : V) (n : Int) (aw hl tg : Addr) (ws : List Int) (k : Int), vs = [.ref p, .int k] ∧ H p = some (.ins C dx (stF me st si cnt stp n aw hl tg)) ∧ H aw = some (.lst (ws.map V.int)) ∧ ws.length ≤ 1000 ∧
  ∀ aw' H', H aw' = none → Chg p H H' → H' aw' = some (.lst ((ws.filter fun j => !decide (j = k)).map V.int)) → H' p = some (.ins C dx (stF me (stB st (ws.filter fun j => !decide (j = k))) si cnt stp n aw' hl tg)) → Q .non H'
theorem sc_Stamper_await_no_more : FnScope ["self", "seat", "other"] ["self", "seat"] (defScope s_Stamper_await_no_more) :=
  ⟨rfl, rfl, rfl, by decide +kernel, rfl, by decide +kernel, by decide +kernel⟩
theorem ok_nomore (F : Fun K "_await_no_more" "Stamper._await_no_more" s_Stamper_await_no_more f fd) (S : StT K C) (MC : Me P w K mg base C "_come_in_where_none_is_awaited" 1 ["self"] (spCome C)) : FnOk P w K mg base CX0 2 f fd ["self", "seat"] (spNoMore C) := by
  obtain ⟨fC, fdC, GC, bC, mC⟩ := MC
  refine F.ok sc_Stamper_await_no_more (fun vs H Q E h => ?_) (fun cdv A outer s H vs Q E hr h => ?_)
  · obtain ⟨p, _, _, _, _, _, _, _, _, _, _, _, _, rfl, _⟩ := h
    rfl
  obtain ⟨p, dx, me, st, si, cnt, stp, n, aw, hl, tg, ws, k, rfl, hp, ha, len, q⟩ := h
  refine ⟨_, (pss_cons (ps_fld (pv 0) (pe_lc (own := [("other", 2)]) (g := gName 2)  (by rfl) sc_Stamper_await_no_more.nd (pi_list (pe_fld (pv 0) (by rfl))) (blkOk_by (N := ["self", "seat", "other"]) (sc := defScope s_Stamper_await_no_more) (by decide +kernel)) (fun _ _ _ _ _ => pg_name (i := 2) sc_Stamper_await_no_more.nd rfl (Or.inl rfl)) (fun _ _ _ _ _ => pts_one (pt_cmpR op_ne (pv 2) (pv 1) (nomark _))) (fun _ _ _ _ _ => (pv 2))) rfl)
    (pss_one (ps_expr (pe_meth0 (pv 0) S.cl mC GC hr bC .nil pass0)))), ?_⟩
  refine ⟨_, rfl, p, C, dx, _, _, rfl, hp, S.cl, S.awaits, stF_awt _ _ _ _ _ _ _ _ _, aw, rfl, ⟨_, SqL.of ha⟩, fun J hJ => ?_⟩
  refine lc_list (K := K) (a := aw) (xs := ws.map V.int) (fun i G => G = upd H J (.lst (((ws.take i).filter fun j => !decide (j = k)).map V.int))) (by simp) (fun i G _ h => by rw [h]; exact SqL.of (same_upd hJ _ _ ha)) ?_ ?_
  · rintro i x G hi rfl
    obtain ⟨y, ey, rfl⟩ := ints_at hi
    have i9 : i < ws.length := (List.getElem?_eq_some_iff.mp ey).1
    refine ⟨rfl, _, rfl, _, rfl, rfl, _, rfl, ?_⟩
    rw [filt_snoc ey]
    refine ite2 (fun c2 => ?_) (fun c2 => ?_)
    · have c3 : (fun j => !decide (j = k)) y = true := by simpa [dec_ii] using c2
      rw [if_pos c3]
      have lf := List.length_filter_le (fun j => !decide (j = k)) (ws.take i)
      refine ⟨_, rfl, _, upd_same, ?_, ?_⟩
      · rw [List.length_map]
        exact Nat.lt_of_le_of_lt (Nat.le_trans lf (by rw [List.length_take]; omega)) (Nat.lt_of_le_of_lt len (by decide))
      · rw [upd_upd, List.map_append]; rfl
    · have c3 : ¬ ((fun j => !decide (j = k)) y = true) := by simpa [dec_ii] using c2
      rw [if_neg c3, List.append_nil]
  rintro G rfl
  rw [List.length_map, List.take_length]
  have pJ : p ≠ J := ne_of_none hp hJ
  refine ⟨_, rfl, p, C, dx, _, rfl, by rw [upd_ne pJ]; exact hp, S.cl, S.awaits, (by show 9 < 1000; decide), ?_⟩
  rw [stF_put_awt]
  generalize hF : (ws.filter fun j => !decide (j = k)) = wf at q ⊢
  obtain ⟨G1, hG1⟩ : ∃ G1, G1 = upd (upd H J (.lst (wf.map V.int))) p (.ins C dx (stF me st si cnt stp n J hl tg)) := ⟨_, rfl⟩
  rw [← hG1]
  have g1 : G1 p = some (.ins C dx (stF me st si cnt stp n J hl tg)) := by rw [hG1]; exact upd_same
  have g2 : G1 J = some (.lst (wf.map V.int)) := by rw [hG1, upd_ne pJ.symm]; exact upd_same
  have c1 : Chg p H G1 := fun b o nb e => by rw [hG1, upd_ne nb]; exact same_upd hJ _ _ e
  refine ⟨_, rfl, p, dx, _, rfl, g1, stF_no _ _ _ _ _ _ _ _ _ (by decide +kernel) (by decide +kernel) (by decide +kernel) (by decide +kernel) (by decide +kernel) (by decide +kernel) (by decide +kernel) (by decide +kernel) (by decide +kernel),
    p, dx, me, st, si, cnt, stp, n, J, hl, tg, wf, rfl, g1, g2, ?_⟩
  cases hb : inB st wf with
  | true =>
    rw [if_pos rfl]
    refine q J _ hJ (c1.trans Chg.self) (by rw [upd_ne pJ.symm]; exact g2) ?_
    rw [show stB st wf = "in" from by simp [stB, hb]]
    exact upd_same
  | false =>
    rw [if_neg (by simp)]
    refine q J _ hJ c1 g2 ?_
    rw [show stB st wf = st from by simp [stB, hb]]
    exact g1
end

end G0
namespace G0
open PySem PySem.Spec PyProof.Rows L2
section
variable {P : Program} {w : World} {K : PySem.W.Frag} {mg : Str → Option Value} {base : Heap} {C f : Addr} {fd : FuncData}
theorem dec_str {a b : Str} : decide (V.str a = V.str b) = decide (a = b) := decide_eq_decide.mpr ⟨fun h => by cases h; rfl, fun h => by rw [h]⟩
theorem sqt_chgI {H H' : Hp} {p D dx : Addr} {fs : List (Str × V)} (hp : H p = some (.ins D dx fs)) (c : Chg p H H') {a : Addr} {xs : List V} (h : SqT K H a xs) : SqT K H' a xs := by
  rcases h with (h | ⟨o, h⟩) | h
  · exact .inl (.inl (c _ _ (ne_of h hp (by intro z; cases z)) h))
  · exact .inl (.inr ⟨o, c _ _ (ne_of h hp (by intro z; cases z)) h⟩)
  · exact .inr h
/-! ### _hear_ask -/
def holdB (st : Str) (sn : List Int) (c k : Int) : Bool := decide (st = "in") || (decide (st = "asking") && HT.lexLt sn [c, k])
def spHearAsk (K : PySem.W.Frag) (C : Addr) : Sp := fun vs H Q _ => ∃ (p dx : Addr) (me : Int) (st : Str) (si : Bool) (cnt : Int) (stp : V) (n : Int) (aw hl tg : Addr) (hs sn : List Int) (k c : Int), vs = [.ref p, .int k, .int c] ∧
  H p = some (.ins C dx (stF me st si cnt stp n aw hl tg)) ∧ H hl = some (.lst (hs.map V.int)) ∧ hs.length < 1000 ∧ (st = "asking" → ∃ sa, stp = .ref sa ∧ SqT K H sa (sn.map V.int)) ∧
  (if holdB st sn c k = true then ∀ l H', H l = none → H' l = some (.lst []) → H' hl = some (.lst ((hs ++ [k]).map V.int)) → Chg hl H H' → Q (.ref l) H'
    else ∀ l t t1 H', H l = none → Same H H' → H' l = some (.lst [.ref t]) → H' t = some (.tup [.int k, .ref t1]) → H' t1 = some (.tup [.str "yes", .int cnt]) → Q (.ref l) H')
theorem sc_Stamper_hear_ask : FnScope ["self", "sender", "count"] ["self", "sender", "count"] (defScope s_Stamper_hear_ask) :=
  ⟨rfl, rfl, rfl, by decide +kernel, rfl, by decide +kernel, by decide +kernel⟩
theorem ok_hearask (F : Fun K "_hear_ask" "Stamper._hear_ask" s_Stamper_hear_ask f fd) (S : StT K C) (MY : Me P w K mg base C "_yes" 1 ["self", "seat"] (spYes C)) : FnOk P w K mg base CX0 2 f fd ["self", "sender", "count"] (spHearAsk K C) := by
  obtain ⟨fY, fdY, GY, bY, mY⟩ := MY
  refine F.ok sc_Stamper_hear_ask (fun vs H Q E h => ?_) (fun cdv A outer s H vs Q E hr h => ?_)
  · obtain ⟨p, _, _, _, _, _, _, _, _, _, _, _, _, _, _, rfl, _⟩ := h
    rfl
  obtain ⟨p, dx, me, st, si, cnt, stp, n, aw, hl, tg, hs, sn, k, c, rfl, hp, hh, len, hsn, q⟩ := h
  refine ⟨_, (pss_cons (ps_if (PW.pt (pw_or (pt_cmpR op_eq (pe_fld (pv 0) (by rfl)) pe_str (nomark _)) (pw_or1 (PW.pt (pw_and (pt_cmpR op_eq (pe_fld (pv 0) (by rfl)) pe_str (nomark _)) (pw_and1 (pt_cmpR (op_ltT (u0 hr)) (pe_fld (pv 0) (by rfl)) (pe_tup (pa_cons (pv 2) (pa_cons (pv 1) pa_nil))) (nomark _))))))))
    (pss_cons (ps_expr (pe_bm PySem.F.plainAttrs_list PySem.F.slot_list_append PySem.F.type_list_append mt_append (pe_fld (pv 0) (by rfl)) (pa_cons (pv 1) pa_nil)))
    (pss_one (ps_ret (pe_lst pa_nil))))
    pss_nil)
    (pss_one (ps_ret (pe_lst (pa_cons (pe_meth (pv 0) S.cl mY GY hr bY .nil pass0 (pa_cons (pv 1) pa_nil)) pa_nil))))), ?_⟩
  refine ⟨_, rfl, p, C, dx, _, _, rfl, hp, S.cl, S.state, stF_stt _ _ _ _ _ _ _ _ _, rfl, _, rfl, ?_⟩
  rw [dec_str]
  by_cases c1 : st = "in"
  · refine iteT' (by simp [c1]) ?_
    refine iteT ?_
    rw [if_pos (show holdB st sn c k = true from by simp [holdB, c1])] at q
    refine ⟨_, rfl, p, C, dx, _, _, rfl, hp, S.cl, S.holds, stF_hld _ _ _ _ _ _ _ _ _, .inl ⟨rfl, _, SqL.of hh⟩, _, rfl, hl, _, _, rfl, rfl, hh, Nat.lt_of_lt_of_le (show (hs.map V.int).length < 1000 by rw [List.length_map]; exact len) (by decide), ?_⟩
    refine ⟨Nat.zero_le _, fun l hl' => ?_⟩
    have nlh : l ≠ hl := fun z => by rw [z, upd_same] at hl'; cases hl'
    have nl : H l = none := by rw [upd_ne nlh] at hl'; exact hl'
    have nl0 : H l = none := by
      cases z : H l with
      | none => rfl
      | some o => rw [(Same.refl H) _ _ z] at nl; cases nl
    refine q l _ nl0 upd_same (by rw [upd_ne nlh.symm, upd_same, List.map_append]; rfl) fun b o nb e => ?_
    rw [upd_ne (ne_of_none ((Same.refl H) _ _ e) nl), upd_ne nb]
    exact (Same.refl H) _ _ e
  · refine iteF' (by simp [c1]) ?_
    refine ⟨_, rfl, p, C, dx, _, _, rfl, hp, S.cl, S.state, stF_stt _ _ _ _ _ _ _ _ _, rfl, _, rfl, ?_⟩
    rw [dec_str]
    by_cases c2 : st = "asking"
    · refine iteT' (by simp [c2]) ?_
      obtain ⟨sa, rfl, zs⟩ := hsn c2
      refine ⟨_, rfl, p, C, dx, _, _, rfl, hp, S.cl, S.stamp, stF_stp _ _ _ _ _ _ _ _ _, _, rfl, _, rfl, by show 2 ≤ sizeLine; decide, fun t2 ht2 => ?_⟩
      have s2 := same_upd (o := .tup [.int c, .int k]) ht2
      refine ⟨sa, t2, sn, [c, k], rfl, rfl, sqt_same s2 zs, SqT.of upd_same, _, rfl, ?_⟩
      cases hlt : HT.lexLt sn [c, k] with
      | true =>
        refine iteT ?_
        rw [if_pos (show holdB st sn c k = true from by simp [holdB, c2, hlt])] at q
        refine ⟨_, rfl, p, C, dx, _, _, rfl, (s2 _ _ hp), S.cl, S.holds, stF_hld _ _ _ _ _ _ _ _ _, .inl ⟨rfl, _, SqL.of (s2 _ _ hh)⟩, _, rfl, hl, _, _, rfl, rfl, (s2 _ _ hh), Nat.lt_of_lt_of_le (show (hs.map V.int).length < 1000 by rw [List.length_map]; exact len) (by decide), ?_⟩
        refine ⟨Nat.zero_le _, fun l hl' => ?_⟩
        have nlh : l ≠ hl := fun z => by rw [z, upd_same] at hl'; cases hl'
        have nl : (upd H t2 (.tup [.int c, .int k])) l = none := by rw [upd_ne nlh] at hl'; exact hl'
        have nl0 : H l = none := by
          cases z : H l with
          | none => rfl
          | some o => rw [s2 _ _ z] at nl; cases nl
        refine q l _ nl0 upd_same (by rw [upd_ne nlh.symm, upd_same, List.map_append]; rfl) fun b o nb e => ?_
        rw [upd_ne (ne_of_none (s2 _ _ e) nl), upd_ne nb]
        exact s2 _ _ e
      | false =>
        refine iteF ?_
        rw [if_neg (show ¬ (holdB st sn c k = true) from by simp [holdB, c1, hlt])] at q
        refine ⟨_, rfl, p, dx, _, rfl, (s2 _ _ hp), stF_no _ _ _ _ _ _ _ _ _ (by decide +kernel) (by decide +kernel) (by decide +kernel) (by decide +kernel) (by decide +kernel) (by decide +kernel) (by decide +kernel) (by decide +kernel) (by decide +kernel), _, rfl, p, dx, me, st, si, cnt, _, n, aw, hl, tg, k, rfl, (s2 _ _ hp), fun t1 t H1 h1 h2 s1 v1 v2 => ?_⟩
        refine ⟨by show 1 ≤ sizeLine; decide, fun l hl' => ?_⟩
        have sA := s2.trans s1
        have nl : H l = none := by
          cases z : H l with
          | none => rfl
          | some o => rw [sA _ _ z] at hl'; cases hl'
        exact q l t t1 _ nl (sA.trans (same_upd hl')) upd_same (same_upd hl' _ _ v2) (same_upd hl' _ _ v1)
    · refine iteF' (by simp [c2]) ?_
      rw [if_neg (show ¬ (holdB st sn c k = true) from by simp [holdB, c1, c2])] at q
      refine ⟨_, rfl, p, dx, _, rfl, hp, stF_no _ _ _ _ _ _ _ _ _ (by decide +kernel) (by decide +kernel) (by decide +kernel) (by decide +kernel) (by decide +kernel) (by decide +kernel) (by decide +kernel) (by decide +kernel) (by decide +kernel), _, rfl, p, dx, me, st, si, cnt, _, n, aw, hl, tg, k, rfl, hp, fun t1 t H1 h1 h2 s1 v1 v2 => ?_⟩
      refine ⟨by show 1 ≤ sizeLine; decide, fun l hl' => ?_⟩
      have sA := (Same.refl H).trans s1
      have nl : H l = none := by
        cases z : H l with
        | none => rfl
        | some o => rw [sA _ _ z] at hl'; cases hl'
      exact q l t t1 _ nl (sA.trans (same_upd hl')) upd_same (same_upd hl' _ _ v2) (same_upd hl' _ _ v1)
end

end G0
namespace G0
open PySem PySem.Spec PyProof.Rows L2
section
variable {P : Program} {w : World} {K : PySem.W.Frag} {mg : Str → Option Value} {base : Heap} {C f : Addr} {fd : FuncData}
/-! ### hear -/
def maxI (i j : Int) : Int := if j > i then j else i
/-- a letter ("ask", c) or ("yes", c) is heard -/
def spHear (K : PySem.W.Frag) (C : Addr) : Sp := fun vs H Q _ => ∃ (p dx : Addr) (me : Int) (st : Str) (si : Bool) (cnt : Int) (stp : V) (n : Int) (aw hl tg lt : Addr) (ws hs sn : List Int) (k c : Int) (isAsk : Bool), vs = [.ref p, .int k, .ref lt] ∧
  H p = some (.ins C dx (stF me st si cnt stp n aw hl tg)) ∧ H aw = some (.lst (ws.map V.int)) ∧ H hl = some (.lst (hs.map V.int)) ∧ hs.length < 1000 ∧ ws.length ≤ 1000 ∧ (st = "asking" → ∃ sa, stp = .ref sa ∧ SqT K H sa (sn.map V.int)) ∧
  SqT K H lt [.str (if isAsk = true then "ask" else "yes"), .int c] ∧
  (if isAsk = true then
    (if holdB st sn c k = true then ∀ l H', H l = none → H' l = some (.lst []) → H' hl = some (.lst ((hs ++ [k]).map V.int)) → H' p = some (.ins C dx (stF me st si (maxI cnt c) stp n aw hl tg)) → ChgS [p, hl] H H' → Q (.ref l) H'
      else ∀ l t t1 H', H l = none → Chg p H H' → H' p = some (.ins C dx (stF me st si (maxI cnt c) stp n aw hl tg)) → H' l = some (.lst [.ref t]) → H' t = some (.tup [.int k, .ref t1]) → H' t1 = some (.tup [.str "yes", .int (maxI cnt c)]) → Q (.ref l) H')
    else ∀ l aw' H', H l = none → H aw' = none → l ≠ aw' → Chg p H H' → H' l = some (.lst []) → H' aw' = some (.lst ((ws.filter fun j => !decide (j = k)).map V.int)) →
      H' p = some (.ins C dx (stF me (stB st (ws.filter fun j => !decide (j = k))) si (maxI cnt c) stp n aw' hl tg)) → Q (.ref l) H')
theorem at0 {xs : List V} {v : V} (h : xs[0]? = some v) : atI xs 0 = some v := (show atI xs ((0 : Nat) : Int) = some v from atI_nat h)
theorem at1 {xs : List V} {v : V} (h : xs[1]? = some v) : atI xs 1 = some v := (show atI xs ((1 : Nat) : Int) = some v from atI_nat h)
theorem sc_Stamper_hear : FnScope ["self", "sender", "letter"] ["self", "sender", "letter"] (defScope s_Stamper_hear) :=
  ⟨rfl, rfl, rfl, by decide +kernel, rfl, by decide +kernel, by decide +kernel⟩
theorem ok_hear (F : Fun K "hear" "Stamper.hear" s_Stamper_hear f fd) (T : BlS mg) (S : StT K C) (MH : Me P w K mg base C "_hear_ask" 2 ["self", "sender", "count"] (spHearAsk K C)) (MN : Me P w K mg base C "_await_no_more" 2 ["self", "seat"] (spNoMore C)) :
    FnOk P w K mg base CX0 3 f fd ["self", "sender", "letter"] (spHear K C) := by
  obtain ⟨fH, fdH, GH, bH, mH⟩ := MH
  obtain ⟨fN, fdN, GN, bN, mN⟩ := MN
  refine F.ok sc_Stamper_hear (fun vs H Q E h => ?_) (fun cdv A outer s H vs Q E hr h => ?_)
  · obtain ⟨p, _, _, _, _, _, _, _, _, _, _, _, _, _, _, _, _, _, rfl, _⟩ := h
    rfl
  obtain ⟨p, dx, me, st, si, cnt, stp, n, aw, hl, tg, lt, ws, hs, sn, k, c, isAsk, rfl, hp, ha, hh, lh, lw, hsn, hlt, q⟩ := h
  refine ⟨_, (pss_cons (ps_fld (pv 0) (pe_callB (call_max2 rfl) (by rfl) T.max (by decide +kernel) (pa_cons (pe_fld (pv 0) (by rfl)) (pa_cons (pe_ix ix_tup (pv 2) pe_int (fun _ _ => rfl)) pa_nil))) rfl)
    (pss_cons (ps_if (pt_cmpR op_eq (pe_ix ix_tup (pv 2) pe_int (fun _ _ => rfl)) pe_str (nomark _))
    (pss_one (ps_ret (pe_meth (pv 0) S.cl mH GH hr bH .nil pass0 (pa_cons (pv 1) (pa_cons (pe_ix ix_tup (pv 2) pe_int (fun _ _ => rfl)) pa_nil)))))
    pss_nil)
    (pss_cons (ps_expr (pe_meth (pv 0) S.cl mN GN hr bN .nil pass0 (pa_cons (pv 1) pa_nil)))
    (pss_one (ps_ret (pe_lst pa_nil)))))), ?_⟩
  refine ⟨_, rfl, p, C, dx, _, _, rfl, hp, S.cl, S.count, stF_cnt _ _ _ _ _ _ _ _ _, _, rfl, lt, _, _, _, rfl, rfl, hlt, at1 rfl, _, _, rfl, _, rfl, p, C, dx, _, rfl, hp, S.cl, S.count, (by show 9 < 1000; decide), ?_⟩
  rw [stF_put_cnt]
  have cI : Chg p H (upd H p (.ins C dx (stF me st si (maxI cnt c) stp n aw hl tg))) := Chg.self
  have naw : aw ≠ p := ne_of ha hp (by intro z; cases z)
  have nhl : hl ≠ p := ne_of hh hp (by intro z; cases z)
  obtain ⟨G, hG⟩ : ∃ G, G = upd H p (.ins C dx (stF me st si (maxI cnt c) stp n aw hl tg)) := ⟨_, rfl⟩
  rw [← (show G = upd H p (.ins C dx (stF me st si (if c > cnt then c else cnt) stp n aw hl tg)) from hG)]
  have gp : G p = some (.ins C dx (stF me st si (maxI cnt c) stp n aw hl tg)) := by rw [hG]; exact upd_same
  rw [← hG] at cI
  have ga := cI _ _ naw ha
  have gh := cI _ _ nhl hh
  have gl := sqt_chgI hp cI hlt
  refine ⟨_, rfl, lt, _, _, _, rfl, rfl, gl, at0 rfl, rfl, _, rfl, ?_⟩
  rw [dec_str]
  cases isAsk with
  | true =>
    refine iteT' (by decide +kernel) ?_
    rw [if_pos rfl] at q
    refine ⟨_, rfl, p, dx, _, rfl, gp, stF_no _ _ _ _ _ _ _ _ _ (by decide +kernel) (by decide +kernel) (by decide +kernel) (by decide +kernel) (by decide +kernel) (by decide +kernel) (by decide +kernel) (by decide +kernel) (by decide +kernel),
      _, rfl, _, rfl, lt, _, _, _, rfl, rfl, gl, at1 rfl, p, dx, me, st, si, maxI cnt c, stp, n, aw, hl, tg, hs, sn, k, c, rfl, gp, gh, lh, (fun e => by obtain ⟨sa, e1, z⟩ := hsn e; exact ⟨sa, e1, sqt_chgI hp cI z⟩), ?_⟩
    have back : ∀ {l : Addr}, G l = none → H l = none := fun {l} e => by
      cases z : H l with
      | none => rfl
      | some o =>
        by_cases lp : l = p
        · rw [lp, gp] at e; cases e
        · rw [cI _ _ lp z] at e; cases e
    cases hb : holdB st sn c k with
    | true =>
      rw [hb, if_pos rfl] at q
      rw [if_pos rfl]
      intro l H' hl' v1 v2 ch
      exact q l H' (back hl') v1 v2 (ch _ _ nhl.symm gp) ((cI.s (by simp)).trans (ch.s (by simp)))
    | false =>
      rw [hb, if_neg (by simp)] at q
      rw [if_neg (by simp)]
      intro l t t1 H' hl' s1 v1 v2 v3
      exact q l t t1 H' (back hl') (cI.trans (Chg.same s1)) (s1 _ _ gp) v1 v2 v3
  | false =>
    refine iteF' (by decide +kernel) ?_
    rw [if_neg (by simp)] at q
    refine ⟨_, rfl, p, dx, _, rfl, gp, stF_no _ _ _ _ _ _ _ _ _ (by decide +kernel) (by decide +kernel) (by decide +kernel) (by decide +kernel) (by decide +kernel) (by decide +kernel) (by decide +kernel) (by decide +kernel) (by decide +kernel),
      _, rfl, p, dx, me, st, si, maxI cnt c, stp, n, aw, hl, tg, ws, k, rfl, gp, ga, lw, fun aw' H' h1 c1 v1 v2 => ?_⟩
    refine ⟨Nat.zero_le _, fun l hl' => ?_⟩
    have nla : l ≠ aw' := fun z => by rw [z, v1] at hl'; cases hl'
    have c2 := cI.trans c1
    have lp : l ≠ p := fun z => by rw [z, v2] at hl'; cases hl'
    have ap : aw' ≠ p := fun z => by rw [z, gp] at h1; cases h1
    exact q l aw' _ (c2.back hl' lp) (cI.back h1 ap) nla (c2.new hl') upd_same (by rw [upd_ne nla.symm]; exact v1) (by rw [upd_ne lp.symm]; exact v2)
end

end G0
namespace G0
open PySem PySem.Spec PyProof.Rows L2
section
variable {P : Program} {w : World} {K : PySem.W.Frag} {mg : Str → Option Value} {base : Heap} {C f : Addr} {fd : FuncData}
def yesD (word : Str) (cnt k : Int) : PyData := .tuple [.int k, .tuple [.str word, .int cnt]]
theorem noLs_yes (word : Str) (cnt : Int) : ∀ ks : List Int, noLs (ks.map (yesD word cnt)) = true
  | [] => rfl
  | k :: ks => by
    have ih := noLs_yes word cnt ks
    simp only [List.map_cons, noLs, yesD, noL, Bool.true_and]
    exact ih
theorem dp_yes {H : Hp} {t t1 : Addr} {word : Str} {cnt k : Int} (h1 : SqT K H t [.int k, .ref t1]) (h2 : SqT K H t1 [.str word, .int cnt]) : Dp K H (.ref t) (yesD word cnt k) :=
  .tup h1 (.cons (.int k) (.cons (.tup h2 (.cons (.str word) (.cons (.int cnt) .nil))) .nil))
mutual
theorem dp_sqt {H H' : Hp} (c : ∀ a xs, SqT K H a xs → SqT K H' a xs) : ∀ (d : PyData) (v : V), noL d = true → Dp K H v d → Dp K H' v d
  | .none, _, _, h => by cases h; exact .non
  | .bool _, _, _, h => by cases h; exact .bl _
  | .int _, _, _, h => by cases h; exact .int _
  | .str _, _, _, h => by cases h; exact .str _
  | .list _, _, n, _ => by simp [noL] at n
  | .dict _, _, n, _ => by simp [noL] at n
  | .tuple ds, _, n, h => by
    cases h with
    | tup hs ha => exact .tup (c _ _ hs) (dps_sqt c ds _ (by simpa [noL] using n) ha)
theorem dps_sqt {H H' : Hp} (c : ∀ a xs, SqT K H a xs → SqT K H' a xs) : ∀ (ds : List PyData) (vs : List V), noLs ds = true → DpAll K H vs ds → DpAll K H' vs ds
  | [], _, _, h => by cases h; exact .nil
  | d :: ds, _, n, h => by
    simp only [noLs, Bool.and_eq_true] at n
    cases h with
    | cons h1 h2 => exact .cons (dp_sqt c d _ n.1 h1) (dps_sqt c ds _ n.2 h2)
end
/-! ### leave -/
def spLeave (K : PySem.W.Frag) (C : Addr) : Sp := fun vs H Q _ => ∃ (p dx : Addr) (me : Int) (st : Str) (si : Bool) (cnt : Int) (stp : V) (n : Int) (aw hl tg : Addr) (hs : List Int), vs = [.ref p] ∧ H p = some (.ins C dx (stF me st si cnt stp n aw hl tg)) ∧ H hl = some (.lst (hs.map V.int)) ∧ hs.length < 1000 ∧
  ∀ l hl' H' xs, H l = none → H hl' = none → l ≠ hl' → Chg p H H' → H' l = some (.lst xs) → DpAll K H' xs (hs.map (yesD "yes" cnt)) → H' hl' = some (.lst []) → H' p = some (.ins C dx (stF me "out" si cnt .non n aw hl' tg)) → Q (.ref l) H'
theorem sc_Stamper_leave : FnScope ["self", "answers", "seat"] ["self"] (defScope s_Stamper_leave) :=
  ⟨rfl, rfl, rfl, by decide +kernel, rfl, by decide +kernel, by decide +kernel⟩
theorem ok_leave (F : Fun K "leave" "Stamper.leave" s_Stamper_leave f fd) (S : StT K C) (MY : Me P w K mg base C "_yes" 1 ["self", "seat"] (spYes C)) : FnOk P w K mg base CX0 2 f fd ["self"] (spLeave K C) := by
  obtain ⟨fY, fdY, GY, bY, mY⟩ := MY
  refine F.ok sc_Stamper_leave (fun vs H Q E h => ?_) (fun cdv A outer s H vs Q E hr h => ?_)
  · obtain ⟨p, _, _, _, _, _, _, _, _, _, _, _, rfl, _⟩ := h
    rfl
  obtain ⟨p, dx, me, st, si, cnt, stp, n, aw, hl, tg, hs, rfl, hp, hh, len, q⟩ := h
  refine ⟨_, (pss_cons (ps_setLc (i := 1) (own := [("seat", 2)]) (g := gName 2) (tt := tYes) (by rfl) sc_Stamper_leave.nd rfl rfl (sw_true rfl rfl rfl (by decide +kernel)) (pi_list (pe_fld (pv 0) (by rfl))) (blkOk_by (N := ["self", "answers", "seat"]) (sc := defScope s_Stamper_leave) (by decide +kernel)) (fun _ _ _ _ _ => pg_name (i := 2) sc_Stamper_leave.nd rfl (Or.inl rfl)) (fun _ _ _ _ _ => pts_nil) (fun _ _ _ _ _ => (pe_meth (pv 0) S.cl mY GY hr bY .nil pass0 (pa_cons (pv 2) pa_nil))))
    (pss_cons (ps_fld (pv 0) (pe_lst pa_nil) rfl)
    (pss_cons (ps_fld (pv 0) pe_non rfl)
    (pss_cons (ps_fld (pv 0) pe_str rfl)
    (pss_one (ps_ret (pv 1))))))), ?_⟩
  refine ⟨_, rfl, p, C, dx, _, _, rfl, hp, S.cl, S.holds, stF_hld _ _ _ _ _ _ _ _ _, hl, rfl, ⟨_, SqL.of hh⟩, fun J hJ => ?_⟩
  refine lc_list (K := K) (a := hl) (xs := hs.map V.int) (fun i G => ∃ acc : List V, G J = some (.lst acc) ∧ DpAll K G acc ((hs.take i).map (yesD "yes" cnt)) ∧ Same H G) ⟨[], upd_same, by simpa using DpAll.nil, same_upd hJ⟩ (fun i G _ h => by obtain ⟨_, _, _, z⟩ := h; exact SqL.of (z _ _ hh)) ?_ ?_
  · rintro i x G hi ⟨acc, hG, hA, sG⟩
    obtain ⟨y, ey, rfl⟩ := ints_at hi
    have i9 : i < hs.length := (List.getElem?_eq_some_iff.mp ey).1
    refine ⟨rfl, ?_⟩
    show tMeth C "_yes" (spYes C) [] E0 (tVar 0) (tCons (tVar 2) tNil) _ _ _
    refine ⟨_, rfl, p, dx, _, rfl, sG _ _ hp, stF_no _ _ _ _ _ _ _ _ _ (by decide +kernel) (by decide +kernel) (by decide +kernel) (by decide +kernel) (by decide +kernel) (by decide +kernel) (by decide +kernel) (by decide +kernel) (by decide +kernel), _, rfl, p, dx, me, st, si, cnt, stp, n, aw, hl, tg, y, rfl, sG _ _ hp, fun t1 t G2 h1 h2 s2 v1 v2 => ?_⟩
    have hG2 := s2 _ _ hG
    have hA2 := dps_same s2 _ _ hA
    have la := dps_len hA2
    have l2 : acc.length ≤ 1000 := by rw [la, List.length_map, List.length_take]; omega
    refine ⟨acc, hG2, Nat.lt_of_le_of_lt l2 (by decide), acc ++ [.ref t], upd_same, ?_, fun b o e => by rw [upd_ne (ne_of_none e hJ)]; exact s2 _ _ (sG _ _ e)⟩
    have e1 : (hs.take (i + 1)).map (yesD "yes" cnt) = (hs.take i).map (yesD "yes" cnt) ++ [yesD "yes" cnt y] := by
      rw [List.take_succ, ey, List.map_append]; rfl
    rw [e1]
    refine dps_chg ⟨_, hG2⟩ Chg.self _ _ ?_ (dps_app hA2 (.cons (dp_yes (SqT.of v2) (SqT.of v1)) .nil))
    rw [← e1]
    exact noLs_yes _ _ _
  rintro G ⟨acc, hG, hA, sG⟩
  rw [List.length_map, List.take_length] at hA
  refine ⟨Nat.zero_le _, fun hl' hhl => ?_⟩
  have hpG := sG _ _ hp
  have s1 := same_upd (o := .lst []) hhl
  refine ⟨_, rfl, p, C, dx, _, rfl, s1 _ _ hpG, S.cl, S.holds, (by show 9 < 1000; decide), ?_⟩
  rw [stF_put_hld]
  refine ⟨_, rfl, p, C, dx, _, rfl, upd_same, S.cl, S.stamp, (by show 9 < 1000; decide), ?_⟩
  rw [stF_put_stp]
  refine ⟨_, rfl, p, C, dx, _, rfl, upd_same, S.cl, S.state, (by show 9 < 1000; decide), ?_⟩
  rw [stF_put_stt, upd_upd, upd_upd]
  have hJG : J ≠ hl' := ne_of_none hG hhl
  have pJ : J ≠ p := (ne_of_none hp hJ).symm
  have ph : hl' ≠ p := (ne_of_none hpG hhl).symm
  have nh : H hl' = none := by
    cases z : H hl' with
    | none => rfl
    | some o => rw [sG _ _ z] at hhl; cases hhl
  have c1 : Chg p H (upd (upd G hl' (.lst [])) p (.ins C dx (stF me "out" si cnt .non n aw hl' tg))) := fun b o nb e => by rw [upd_ne nb]; exact s1 _ _ (sG _ _ e)
  refine ⟨_, rfl, q J hl' _ acc hJ nh hJG c1 (by rw [upd_ne pJ]; exact s1 _ _ hG) ?_ (by rw [upd_ne ph]; exact upd_same) upd_same⟩
  have hA1 := dps_same s1 _ _ hA
  have i1 : ∀ {a : Addr} {zs : List V}, SqT K (upd G hl' (.lst [])) a zs → SqT K (upd (upd G hl' (.lst [])) p (.ins C dx (stF me "out" si cnt .non n aw hl' tg))) a zs := fun z => sqt_chgI (s1 _ _ hpG) Chg.self z
  exact dps_sqt (fun _ _ z => i1 z) _ _ (noLs_yes _ _ _) hA1
end

end G0
namespace G0
open PySem PySem.Spec PyProof.Rows L2
section
variable {P : Program} {w : World} {K : PySem.W.Frag} {mg : Str → Option Value} {base : Heap} {C f : Addr} {fd : FuncData}
/-! ### gone -/
def spSGone (C : Addr) : Sp := fun vs H Q _ => ∃ (p dx : Addr) (me : Int) (st : Str) (si : Bool) (cnt : Int) (stp : V) (n : Int) (aw hl tg : Addr) (ws hs ts : List Int) (k : Int), vs = [.ref p, .int k] ∧ Stm H C p dx me st si cnt stp n aw hl tg ws hs ts ∧ ws.length ≤ 1000 ∧ hs.length ≤ 1000 ∧ ts.length < 1000 ∧
  ∀ l hl' aw' H', H l = none → H hl' = none → H aw' = none → l ≠ hl' → l ≠ aw' → hl' ≠ aw' → ChgS [p, tg] H H' → H' l = some (.lst []) → H' hl' = some (.lst ((hs.filter fun j => !decide (j = k)).map V.int)) → H' aw' = some (.lst ((ws.filter fun j => !decide (j = k)).map V.int)) →
    H' tg = some (.lst ((ts ++ [k]).map V.int)) → H' p = some (.ins C dx (stF me (stB st (ws.filter fun j => !decide (j = k))) si cnt stp n aw' hl' tg)) → Q (.ref l) H'
theorem sc_Stamper_gone : FnScope ["self", "seat", "other"] ["self", "seat"] (defScope s_Stamper_gone) :=
  ⟨rfl, rfl, rfl, by decide +kernel, rfl, by decide +kernel, by decide +kernel⟩
theorem ok_sgone (F : Fun K "gone" "Stamper.gone" s_Stamper_gone f fd) (S : StT K C) (MN : Me P w K mg base C "_await_no_more" 2 ["self", "seat"] (spNoMore C)) : FnOk P w K mg base CX0 3 f fd ["self", "seat"] (spSGone C) := by
  obtain ⟨fN, fdN, GN, bN, mN⟩ := MN
  refine F.ok sc_Stamper_gone (fun vs H Q E h => ?_) (fun cdv A outer s H vs Q E hr h => ?_)
  · obtain ⟨p, _, _, _, _, _, _, _, _, _, _, _, _, _, _, rfl, _⟩ := h
    rfl
  obtain ⟨p, dx, me, st, si, cnt, stp, n, aw, hl, tg, ws, hs, ts, k, rfl, M, lw, lh, lt, q⟩ := h
  refine ⟨_, (pss_cons (ps_expr (pe_bm PySem.F.plainAttrs_list PySem.F.slot_list_append PySem.F.type_list_append mt_append (pe_fld (pv 0) (by rfl)) (pa_cons (pv 1) pa_nil)))
    (pss_cons (ps_fld (pv 0) (pe_lc (own := [("other", 2)]) (g := gName 2)  (by rfl) sc_Stamper_gone.nd (pi_list (pe_fld (pv 0) (by rfl))) (blkOk_by (N := ["self", "seat", "other"]) (sc := defScope s_Stamper_gone) (by decide +kernel)) (fun _ _ _ _ _ => pg_name (i := 2) sc_Stamper_gone.nd rfl (Or.inl rfl)) (fun _ _ _ _ _ => pts_one (pt_cmpR op_ne (pv 2) (pv 1) (nomark _))) (fun _ _ _ _ _ => (pv 2))) rfl)
    (pss_cons (ps_expr (pe_meth (pv 0) S.cl mN GN hr bN .nil pass0 (pa_cons (pv 1) pa_nil)))
    (pss_one (ps_ret (pe_lst pa_nil)))))), ?_⟩
  refine ⟨_, rfl, p, C, dx, _, _, rfl, M.hp, S.cl, S.gone, stF_tgn _ _ _ _ _ _ _ _ _, .inl ⟨rfl, _, SqL.of M.ht⟩, _, rfl, tg, _, _, rfl, rfl, M.ht, Nat.lt_of_lt_of_le (show (ts.map V.int).length < 1000 by rw [List.length_map]; exact lt) (by decide), ?_⟩
  have npt : p ≠ tg := ne_of M.hp M.ht (by intro z; cases z)
  have nha : hl ≠ p := ne_of M.hh M.hp (by intro z; cases z)
  have naa : aw ≠ p := ne_of M.ha M.hp (by intro z; cases z)
  obtain ⟨G, hG⟩ : ∃ G, G = upd H tg (.lst ((ts ++ [k]).map V.int)) := ⟨_, rfl⟩
  rw [← (show G = upd H tg (.lst (ts.map V.int ++ [.int k])) from by rw [hG, List.map_append]; rfl)]
  have gp : G p = some (.ins C dx (stF me st si cnt stp n aw hl tg)) := by rw [hG, upd_ne npt]; exact M.hp
  have gh : G hl = some (.lst (hs.map V.int)) := by rw [hG, upd_ne M.nht]; exact M.hh
  have ga : G aw = some (.lst (ws.map V.int)) := by rw [hG, upd_ne M.nat]; exact M.ha
  have gt : G tg = some (.lst ((ts ++ [k]).map V.int)) := by rw [hG]; exact upd_same
  have cG : ChgS [p, tg] H G := by rw [hG]; exact ChgS.refl.put (by simp)
  have back : ∀ {l : Addr}, G l = none → H l = none := fun {l} e => by
    cases z : H l with
    | none => rfl
    | some o =>
      by_cases lp : l = tg
      · rw [lp, gt] at e; cases e
      · rw [hG, upd_ne lp, z] at e; cases e
  refine ⟨_, rfl, p, C, dx, _, _, rfl, gp, S.cl, S.holds, stF_hld _ _ _ _ _ _ _ _ _, hl, rfl, ⟨_, SqL.of gh⟩, fun J hJ => ?_⟩
  refine lc_list (K := K) (a := hl) (xs := hs.map V.int) (fun i G2 => G2 = upd G J (.lst (((hs.take i).filter fun j => !decide (j = k)).map V.int))) (by simp) (fun i G2 _ h => by rw [h]; exact SqL.of (same_upd hJ _ _ gh)) ?_ ?_
  · rintro i x G2 hi rfl
    obtain ⟨y, ey, rfl⟩ := ints_at hi
    have i9 : i < hs.length := (List.getElem?_eq_some_iff.mp ey).1
    refine ⟨rfl, _, rfl, _, rfl, rfl, _, rfl, ?_⟩
    rw [filt_snoc ey]
    refine ite2 (fun c2 => ?_) (fun c2 => ?_)
    · have c3 : (fun j => !decide (j = k)) y = true := by simpa [dec_ii] using c2
      rw [if_pos c3]
      have lf := List.length_filter_le (fun j => !decide (j = k)) (hs.take i)
      refine ⟨_, rfl, _, upd_same, ?_, ?_⟩
      · rw [List.length_map]
        exact Nat.lt_of_le_of_lt (Nat.le_trans lf (by rw [List.length_take]; omega)) (Nat.lt_of_le_of_lt lh (by decide))
      · rw [upd_upd, List.map_append]; rfl
    · have c3 : ¬ ((fun j => !decide (j = k)) y = true) := by simpa [dec_ii] using c2
      rw [if_neg c3, List.append_nil]
  rintro G2 rfl
  rw [List.length_map, List.take_length]
  have pJ : p ≠ J := ne_of_none gp hJ
  refine ⟨_, rfl, p, C, dx, _, rfl, by rw [upd_ne pJ]; exact gp, S.cl, S.holds, (by show 9 < 1000; decide), ?_⟩
  rw [stF_put_hld]
  obtain ⟨G3, hG3⟩ : ∃ G3, G3 = upd (upd G J (.lst ((hs.filter fun j => !decide (j = k)).map V.int))) p (.ins C dx (stF me st si cnt stp n aw J tg)) := ⟨_, rfl⟩
  rw [← hG3]
  have g3p : G3 p = some (.ins C dx (stF me st si cnt stp n aw J tg)) := by rw [hG3]; exact upd_same
  have g3J : G3 J = some (.lst ((hs.filter fun j => !decide (j = k)).map V.int)) := by rw [hG3, upd_ne pJ.symm]; exact upd_same
  have k3 : ∀ {b : Addr} {o : HO}, b ≠ p → G b = some o → G3 b = some o := fun nb e => by rw [hG3, upd_ne nb]; exact same_upd hJ _ _ e
  have g3a := k3 naa ga
  have g3t := k3 npt.symm gt
  refine ⟨_, rfl, p, dx, _, rfl, g3p, stF_no _ _ _ _ _ _ _ _ _ (by decide +kernel) (by decide +kernel) (by decide +kernel) (by decide +kernel) (by decide +kernel) (by decide +kernel) (by decide +kernel) (by decide +kernel) (by decide +kernel), _, rfl, p, dx, me, st, si, cnt, stp, n, aw, J, tg, ws, k, rfl, g3p, g3a, lw, fun aw' H' h1 c1 v1 v2 => ?_⟩
  refine ⟨Nat.zero_le _, fun l hl' => ?_⟩
  have lJ : J ≠ p := pJ.symm
  have nJa : J ≠ aw' := ne_of_none g3J h1
  have HJ := c1 _ _ lJ g3J
  have Ht := c1 _ _ npt.symm g3t
  have nlJ : l ≠ J := (ne_of_none HJ hl').symm
  have nla : l ≠ aw' := (ne_of_none v1 hl').symm
  have nlp : l ≠ p := (ne_of_none v2 hl').symm
  have nlt : l ≠ tg := (ne_of_none Ht hl').symm
  have b3 : ∀ {x : Addr}, G3 x = none → G x = none := fun {x} e => by
    cases z : G x with
    | none => rfl
    | some o =>
      by_cases lp : x = p
      · rw [lp, g3p] at e; cases e
      · rw [k3 lp z] at e; cases e
  have bl : G3 l = none := by
    cases z : G3 l with
    | none => rfl
    | some o => rw [c1 _ _ nlp z] at hl'; cases hl'
  refine q l J aw' _ (back (b3 bl)) (back hJ) (back (b3 h1)) nlJ nla nJa ?_ upd_same (by rw [upd_ne nlJ.symm]; exact HJ) (by rw [upd_ne nla.symm]; exact v1) (by rw [upd_ne nlt.symm]; exact Ht) (by rw [upd_ne nlp.symm]; exact v2)
  intro b o nb e
  have e1 := cG b o nb e
  simp only [List.mem_cons, List.not_mem_nil, or_false, not_or] at nb
  have e2 := k3 nb.1 e1
  have e3 := c1 _ _ nb.1 e2
  rw [upd_ne (ne_of_none e3 hl')]
  exact e3
end

end G0
namespace G0
open PySem PySem.Spec PyProof.Rows L2
section
variable {P : Program} {w : World} {K : PySem.W.Frag} {mg : Str → Option Value} {base : Heap} {C f : Addr} {fd : FuncData}
theorem lc_yes {te : TE} {σ : L2.St} {H : Hp} {Q : VK} {B : Hp → Prop} (h : te σ H Q) : tYes σ H (fun b H3 => if b = true then te σ H3 Q else B H3) := by
  show (if true = true then te σ H Q else B H)
  exact iteT h
/-! ### ask -/
def upto (n : Int) : List Int := (List.range n.toNat).map fun i => ((i : Nat) : Int)
def others (n : Int) (away : List Int) : List Int := (upto n).filter fun s => !decide (s ∈ away)
theorem upto_at {n : Int} {i : Nat} (h : i < n.toNat) : (upto n)[i]? = some ((i : Nat) : Int) := by
  unfold upto
  rw [List.getElem?_map, List.getElem?_range h]; rfl
theorem upto_len {n : Int} : (upto n).length = n.toNat := by unfold upto; rw [List.length_map, List.length_range]
def spSAsk (K : PySem.W.Frag) (C : Addr) : Sp := fun vs H Q _ => ∃ (p dx : Addr) (me : Int) (st : Str) (si : Bool) (cnt : Int) (stp : V) (n : Int) (aw hl tg : Addr) (ts : List Int), vs = [.ref p] ∧ H p = some (.ins C dx (stF me st si cnt stp n aw hl tg)) ∧ H tg = some (.lst (ts.map V.int)) ∧ ts.length < 1000 ∧ 0 ≤ n ∧ n ≤ 1000 ∧
  ∀ l aw' tp H' xs, H l = none → H aw' = none → l ≠ aw' → Chg p H H' → H' l = some (.lst xs) → DpAll K H' xs ((others n (me :: ts)).map (yesD "ask" (cnt + 1))) → H' aw' = some (.lst ((others n (me :: ts)).map V.int)) →
    SqT K H' tp [.int (cnt + 1), .int me] → H' p = some (.ins C dx (stF me (stB "asking" (others n (me :: ts))) si (cnt + 1) (.ref tp) n aw' hl tg)) → Q (.ref l) H'
theorem sc_Stamper_ask : FnScope ["self", "away", "seat"] ["self"] (defScope s_Stamper_ask) :=
  ⟨rfl, rfl, rfl, by decide +kernel, rfl, by decide +kernel, by decide +kernel⟩
theorem ok_sask (F : Fun K "ask" "Stamper.ask" s_Stamper_ask f fd) (T : BlS mg) (S : StT K C) (MC : Me P w K mg base C "_come_in_where_none_is_awaited" 1 ["self"] (spCome C)) : FnOk P w K mg base CX0 2 f fd ["self"] (spSAsk K C) := by
  obtain ⟨fC, fdC, GC, bC, mC⟩ := MC
  refine F.ok sc_Stamper_ask (fun vs H Q E h => ?_) (fun cdv A outer s H vs Q E hr h => ?_)
  · obtain ⟨p, _, _, _, _, _, _, _, _, _, _, _, rfl, _⟩ := h
    rfl
  obtain ⟨p, dx, me, st, si, cnt, stp, n, aw, hl, tg, ts, rfl, hp, ht, lt, n0, n1, q⟩ := h
  refine ⟨_, (pss_cons (ps_fldaug (pv 0) pe_int in_add)
    (pss_cons (ps_fld (pv 0) (pe_tup (pa_cons (pe_fld (pv 0) (by rfl)) (pa_cons (pe_fld (pv 0) (by rfl)) pa_nil))) rfl)
    (pss_cons (ps_set (i := 1) sc_Stamper_ask.nd rfl (Or.inr rfl) (pe_op op_cat (pe_lst (pa_cons (pe_fld (pv 0) (by rfl)) pa_nil)) (pe_fld (pv 0) (by rfl))))
    (pss_cons (ps_fld (pv 0) (pe_lc (own := [("seat", 2)]) (g := gName 2)  (by rfl) sc_Stamper_ask.nd (pi_range1 (by rfl) T.range (pa_cons (pe_fld (pv 0) (by rfl)) pa_nil)) (blkOk_by (N := ["self", "away", "seat"]) (sc := defScope s_Stamper_ask) (by decide +kernel)) (fun _ _ _ _ _ => pg_name (i := 2) sc_Stamper_ask.nd rfl (Or.inl rfl)) (fun _ _ _ _ _ => pts_one (pt_cmpR (u_notinK K) (pv 2) (pv 1) (by rfl))) (fun _ _ _ _ _ => (pv 2))) rfl)
    (pss_cons (ps_fld (pv 0) pe_str rfl)
    (pss_cons (ps_expr (pe_meth0 (pv 0) S.cl mC GC hr bC .nil pass0))
    (pss_one (ps_ret (pe_lc (own := [("seat", 2)]) (g := gName 2) (tt := tYes) (by rfl) sc_Stamper_ask.nd (pi_list (pe_fld (pv 0) (by rfl))) (blkOk_by (N := ["self", "away", "seat"]) (sc := defScope s_Stamper_ask) (by decide +kernel)) (fun _ _ _ _ _ => pg_name (i := 2) sc_Stamper_ask.nd rfl (Or.inl rfl)) (fun _ _ _ _ _ => pts_nil) (fun _ _ _ _ _ => (pe_tup (pa_cons (pv 2) (pa_cons (pe_tup (pa_cons pe_str (pa_cons (pe_fldK K (pv 0)) pa_nil))) pa_nil))))))))))))), ?_⟩
  refine ⟨_, rfl, p, C, dx, _, _, rfl, hp, S.cl, S.count, stF_cnt _ _ _ _ _ _ _ _ _, cnt, 1, rfl, rfl, dx, _, hp, (by show 9 < 1000; decide), ?_⟩
  rw [stF_put_cnt]
  refine ⟨_, rfl, p, C, dx, _, _, rfl, upd_same, S.cl, S.count, stF_cnt _ _ _ _ _ _ _ _ _, _, rfl, p, C, dx, _, _, rfl, upd_same, S.cl, S.me, stF_me _ _ _ _ _ _ _ _ _, by show 2 ≤ sizeLine; decide, fun tp htp => ?_⟩
  have ptp : p ≠ tp := fun z => by rw [z, upd_same] at htp; cases htp
  refine ⟨_, rfl, p, C, dx, _, rfl, by rw [upd_ne ptp]; exact upd_same, S.cl, S.stamp, (by show 9 < 1000; decide), ?_⟩
  rw [stF_put_stp]
  obtain ⟨G, hG⟩ : ∃ G, G = upd (upd (upd H p (.ins C dx (stF me st si (cnt + 1) stp n aw hl tg))) tp (.tup [.int (cnt + 1), .int me])) p (.ins C dx (stF me st si (cnt + 1) (.ref tp) n aw hl tg)) := ⟨_, rfl⟩
  rw [← hG]
  have gp : G p = some (.ins C dx (stF me st si (cnt + 1) (.ref tp) n aw hl tg)) := by rw [hG]; exact upd_same
  have gtp : G tp = some (.tup [.int (cnt + 1), .int me]) := by rw [hG, upd_ne ptp.symm]; exact upd_same
  have tp0 : H tp = none := by rw [upd_ne ptp.symm] at htp; exact htp
  have cG : Chg p H G := fun b o nb e => by rw [hG, upd_ne nb, upd_ne (ne_of_none e tp0), upd_ne nb]; exact e
  have ntp : tg ≠ p := ne_of ht hp (by intro z; cases z)
  have gt := cG _ _ ntp ht
  refine ⟨_, rfl, p, C, dx, _, _, rfl, gp, S.cl, S.me, stF_me _ _ _ _ _ _ _ _ _, by show 1 ≤ sizeLine; decide, fun a1 ha1 => ?_⟩
  have s1 := same_upd (o := .lst [.int me]) ha1
  refine ⟨_, rfl, p, C, dx, _, _, rfl, s1 _ _ gp, S.cl, S.gone, stF_tgn _ _ _ _ _ _ _ _ _, a1, tg, [.int me], ts.map V.int, rfl, rfl, upd_same, s1 _ _ gt, Nat.le_trans (show 1 + (ts.map V.int).length ≤ 1001 by rw [List.length_map]; omega) (by decide), fun aY haY => ?_⟩
  have s2 := s1.trans (same_upd (o := .lst ([.int me] ++ ts.map V.int)) haY)
  have vY : upd (upd G a1 (.lst [.int me])) aY (.lst ([V.int me] ++ ts.map V.int)) aY = some (.lst ((me :: ts).map V.int)) := by rw [upd_same]; rfl
  obtain ⟨G2, hG2⟩ : ∃ G2, G2 = upd (upd G a1 (.lst [.int me])) aY (.lst ([V.int me] ++ ts.map V.int)) := ⟨_, rfl⟩
  rw [← hG2] at s2 vY
  rw [← hG2]
  refine ⟨_, rfl, p, C, dx, _, _, rfl, s2 _ _ gp, S.cl, S.seats, stF_sts _ _ _ _ _ _ _ _ _, _, rfl, by omega, by omega, fun J hJ => ?_⟩
  refine lc_range (lo := 0) (n := n.toNat) (fun i G3 => G3 = upd G2 J (.lst ((((upto n).take i).filter fun s => !decide (s ∈ me :: ts)).map V.int))) (by simp) ?_ ?_
  · rintro i G3 hi rfl
    have e9 : (0 : Int) + (i : Int) = ((i : Nat) : Int) := by omega
    refine ⟨rfl, _, rfl, _, rfl, .inl ⟨aY, _, rfl, .inl (SqL.of (same_upd hJ _ _ vY)), rfl, flat_ints (me :: ts), _, rfl, ?_⟩⟩
    rw [filt_snoc (upto_at hi)]
    show (if (!inV (.int (0 + (i : Int))) ((me :: ts).map V.int)) = true then _ else _)
    rw [inV_ints, e9]
    refine ite2 (fun c2 => ?_) (fun c2 => ?_)
    · have c3 : (fun s => !decide (s ∈ me :: ts)) ((i : Nat) : Int) = true := c2
      rw [if_pos c3]
      have lf := List.length_filter_le (fun s => !decide (s ∈ me :: ts)) ((upto n).take i)
      have lu : (upto n).length = n.toNat := upto_len
      refine ⟨_, rfl, _, upd_same, ?_, ?_⟩
      · rw [List.length_map]
        exact Nat.lt_of_le_of_lt (Nat.le_trans lf (show ((upto n).take i).length ≤ 1000 by rw [List.length_take]; omega)) (by decide)
      · rw [upd_upd, List.map_append]; rfl
    · have c3 : ¬ ((fun s => !decide (s ∈ me :: ts)) ((i : Nat) : Int) = true) := c2
      rw [if_neg c3, List.append_nil]
  rintro G3 rfl
  rw [← upto_len, List.take_length]
  have ew : ((upto n).filter fun s => !decide (s ∈ me :: ts)) = others n (me :: ts) := rfl
  rw [ew]
  generalize hW : others n (me :: ts) = wf at q ⊢
  have g2p := s2 _ _ gp
  have pJ : p ≠ J := ne_of_none g2p hJ
  refine ⟨_, rfl, p, C, dx, _, rfl, by rw [upd_ne pJ]; exact g2p, S.cl, S.awaits, (by show 9 < 1000; decide), ?_⟩
  rw [stF_put_awt]
  refine ⟨_, rfl, p, C, dx, _, rfl, upd_same, S.cl, S.state, (by show 9 < 1000; decide), ?_⟩
  rw [stF_put_stt, upd_upd]
  obtain ⟨G4, hG4⟩ : ∃ G4, G4 = upd (upd G2 J (.lst (wf.map V.int))) p (.ins C dx (stF me "asking" si (cnt + 1) (.ref tp) n J hl tg)) := ⟨_, rfl⟩
  rw [← hG4]
  have g4p : G4 p = some (.ins C dx (stF me "asking" si (cnt + 1) (.ref tp) n J hl tg)) := by rw [hG4]; exact upd_same
  have g4J : G4 J = some (.lst (wf.map V.int)) := by rw [hG4, upd_ne pJ.symm]; exact upd_same
  have k4 : ∀ {b : Addr} {o : HO}, b ≠ p → G b = some o → G4 b = some o := fun nb e => by rw [hG4, upd_ne nb]; exact same_upd hJ _ _ (s2 _ _ e)
  have c4 : Chg p H G4 := fun b o nb e => k4 nb (cG _ _ nb e)
  have J0 : H J = none := by
    cases z : H J with
    | none => rfl
    | some o => rw [s2 _ _ (cG _ _ pJ.symm z)] at hJ; cases hJ
  have t4 := k4 ptp.symm gtp
  -- coming in
  obtain ⟨G5, hG5⟩ : ∃ G5, G5 = (if inB "asking" wf = true then upd G4 p (.ins C dx (stF me "in" si (cnt + 1) (.ref tp) n J hl tg)) else G4) := ⟨_, rfl⟩
  have g5p : G5 p = some (.ins C dx (stF me (stB "asking" wf) si (cnt + 1) (.ref tp) n J hl tg)) := by
    rw [hG5]; unfold stB
    cases inB "asking" wf with
    | true => rw [if_pos rfl, if_pos rfl]; exact upd_same
    | false => rw [if_neg (by simp), if_neg (by simp)]; exact g4p
  have k5 : ∀ {b : Addr} {o : HO}, b ≠ p → G4 b = some o → G5 b = some o := fun nb e => by
    rw [hG5]
    cases inB "asking" wf with
    | true => rw [if_pos rfl, upd_ne nb]; exact e
    | false => rw [if_neg (by simp)]; exact e
  have c5 : Chg p H G5 := fun b o nb e => k5 nb (c4 b o nb e)
  have g5J := k5 pJ.symm g4J
  have g5t := k5 ptp.symm t4
  refine ⟨_, rfl, p, dx, _, rfl, g4p, stF_no _ _ _ _ _ _ _ _ _ (by decide +kernel) (by decide +kernel) (by decide +kernel) (by decide +kernel) (by decide +kernel) (by decide +kernel) (by decide +kernel) (by decide +kernel) (by decide +kernel), p, dx, me, "asking", si, cnt + 1, .ref tp, n, J, hl, tg, wf, rfl, g4p, g4J, ?_⟩
  cases hb : inB "asking" wf with
  | true =>
    rw [if_pos rfl]
    have e5 : G5 = (upd G4 p (.ins C dx (stF me "in" si (cnt + 1) (.ref tp) n J hl tg))) := by rw [hG5]; exact (by rw [hb, if_pos rfl])
    rw [← e5]
    refine ⟨_, rfl, p, C, dx, _, _, rfl, g5p, S.cl, S.awaits, stF_awt _ _ _ _ _ _ _ _ _, J, rfl, ⟨_, SqL.of g5J⟩, fun l hl' => ?_⟩
    refine lc_list (K := K) (a := J) (xs := wf.map V.int) (fun i G6 => ∃ acc : List V, G6 l = some (.lst acc) ∧ DpAll K G6 acc ((wf.take i).map (yesD "ask" (cnt + 1))) ∧ Same G5 G6) ⟨[], upd_same, by simpa using DpAll.nil, same_upd hl'⟩ (fun i G6 _ h => by obtain ⟨_, _, _, z⟩ := h; exact SqL.of (z _ _ g5J)) ?_ ?_
    · rintro i x G6 hi ⟨acc, hG, hA, sG⟩
      obtain ⟨y, ey, rfl⟩ := ints_at hi
      have i9 : i < wf.length := (List.getElem?_eq_some_iff.mp ey).1
      have w9 : wf.length ≤ 1000 := by
        rw [← hW]
        have := List.length_filter_le (fun s => !decide (s ∈ me :: ts)) (upto n)
        rw [upto_len] at this
        exact Nat.le_trans this (by omega)
      refine ⟨rfl, ?_⟩
      refine lc_yes ?_
      refine ⟨_, rfl, _, rfl, p, C, dx, _, _, rfl, sG _ _ g5p, S.cl, S.count, stF_cnt _ _ _ _ _ _ _ _ _, by show 2 ≤ sizeLine; decide, ?_⟩
      intro t1 ht1
      refine ⟨by show 2 ≤ sizeLine; decide, ?_⟩
      intro t' ht'
      have sT := (same_upd (o := .tup [.str "ask", .int (cnt + 1)]) ht1).trans (same_upd (o := .tup [.int y, .ref t1]) ht')
      have hG2' := sT _ _ hG
      have hA2 := dps_same sT _ _ hA
      have la := dps_len hA2
      have l2 : acc.length ≤ 1000 := by rw [la, List.length_map, List.length_take]; omega
      refine ⟨acc, hG2', Nat.lt_of_le_of_lt l2 (by decide), acc ++ [.ref t'], upd_same, ?_, fun b o e => by rw [upd_ne (ne_of_none e hl')]; exact sT _ _ (sG _ _ e)⟩
      have e1 : (wf.take (i + 1)).map (yesD "ask" (cnt + 1)) = (wf.take i).map (yesD "ask" (cnt + 1)) ++ [yesD "ask" (cnt + 1) y] := by
        rw [List.take_succ, ey, List.map_append]; rfl
      rw [e1]
      refine dps_chg ⟨_, hG2'⟩ Chg.self _ _ ?_ (dps_app hA2 (.cons (dp_yes (SqT.of upd_same) (SqT.of (same_upd ht' _ _ upd_same))) .nil))
      rw [← e1]
      exact noLs_yes _ _ _
    rintro G6 ⟨acc, hG, hA, sG⟩
    rw [List.length_map, List.take_length] at hA
    have l0 : H l = none := by
      cases z : H l with
      | none => rfl
      | some o =>
        by_cases lp : l = p
        · rw [lp, g5p] at hl'; cases hl'
        · rw [c5 _ _ lp z] at hl'; cases hl'
    have nlJ : l ≠ J := (ne_of_none g5J hl').symm
    exact q l J tp G6 acc l0 J0 nlJ (c5.trans (Chg.same sG)) hG hA (sG _ _ g5J) (SqT.of (sG _ _ g5t)) (sG _ _ g5p)
  | false =>
    rw [if_neg (by simp)]
    have e5 : G5 = G4 := by rw [hG5]; exact (by rw [hb, if_neg (by simp)])
    rw [← e5]
    refine ⟨_, rfl, p, C, dx, _, _, rfl, g5p, S.cl, S.awaits, stF_awt _ _ _ _ _ _ _ _ _, J, rfl, ⟨_, SqL.of g5J⟩, fun l hl' => ?_⟩
    refine lc_list (K := K) (a := J) (xs := wf.map V.int) (fun i G6 => ∃ acc : List V, G6 l = some (.lst acc) ∧ DpAll K G6 acc ((wf.take i).map (yesD "ask" (cnt + 1))) ∧ Same G5 G6) ⟨[], upd_same, by simpa using DpAll.nil, same_upd hl'⟩ (fun i G6 _ h => by obtain ⟨_, _, _, z⟩ := h; exact SqL.of (z _ _ g5J)) ?_ ?_
    · rintro i x G6 hi ⟨acc, hG, hA, sG⟩
      obtain ⟨y, ey, rfl⟩ := ints_at hi
      have i9 : i < wf.length := (List.getElem?_eq_some_iff.mp ey).1
      have w9 : wf.length ≤ 1000 := by
        rw [← hW]
        have := List.length_filter_le (fun s => !decide (s ∈ me :: ts)) (upto n)
        rw [upto_len] at this
        exact Nat.le_trans this (by omega)
      refine ⟨rfl, ?_⟩
      refine lc_yes ?_
      refine ⟨_, rfl, _, rfl, p, C, dx, _, _, rfl, sG _ _ g5p, S.cl, S.count, stF_cnt _ _ _ _ _ _ _ _ _, by show 2 ≤ sizeLine; decide, ?_⟩
      intro t1 ht1
      refine ⟨by show 2 ≤ sizeLine; decide, ?_⟩
      intro t' ht'
      have sT := (same_upd (o := .tup [.str "ask", .int (cnt + 1)]) ht1).trans (same_upd (o := .tup [.int y, .ref t1]) ht')
      have hG2' := sT _ _ hG
      have hA2 := dps_same sT _ _ hA
      have la := dps_len hA2
      have l2 : acc.length ≤ 1000 := by rw [la, List.length_map, List.length_take]; omega
      refine ⟨acc, hG2', Nat.lt_of_le_of_lt l2 (by decide), acc ++ [.ref t'], upd_same, ?_, fun b o e => by rw [upd_ne (ne_of_none e hl')]; exact sT _ _ (sG _ _ e)⟩
      have e1 : (wf.take (i + 1)).map (yesD "ask" (cnt + 1)) = (wf.take i).map (yesD "ask" (cnt + 1)) ++ [yesD "ask" (cnt + 1) y] := by
        rw [List.take_succ, ey, List.map_append]; rfl
      rw [e1]
      refine dps_chg ⟨_, hG2'⟩ Chg.self _ _ ?_ (dps_app hA2 (.cons (dp_yes (SqT.of upd_same) (SqT.of (same_upd ht' _ _ upd_same))) .nil))
      rw [← e1]
      exact noLs_yes _ _ _
    rintro G6 ⟨acc, hG, hA, sG⟩
    rw [List.length_map, List.take_length] at hA
    have l0 : H l = none := by
      cases z : H l with
      | none => rfl
      | some o =>
        by_cases lp : l = p
        · rw [lp, g5p] at hl'; cases hl'
        · rw [c5 _ _ lp z] at hl'; cases hl'
    have nlJ : l ≠ J := (ne_of_none g5J hl').symm
    exact q l J tp G6 acc l0 J0 nlJ (c5.trans (Chg.same sG)) hG hA (sG _ _ g5J) (SqT.of (sG _ _ g5t)) (sG _ _ g5p)
end

end G0
/-! A def with the cell __class__: its first statement says super().__init__(..). -/
namespace G0
open PySem PySem.Spec PyProof.Rows L2 NdefX
abbrev nfS (name qual : Str) (params : Arguments) (body : List Stmt) (scope : Scope) (cc cda : Addr) : NF := ⟨name, qual, params, body, scope, [("__class__", cc)], cda⟩
/-- a statement whose code must be told -/
def P1 (X : Cx) (body : List Stmt) (st : Stmt) (t : TS) : Prop :=
  ∀ (pins : List (Addr × Obj)) (s : Shared) (σ : L2.St) (H : Hp) (D : Ends), Inv X pins σ H s → t D σ H →
    _root_.PySem.wpAt (model X.prog X.w) X.A (.func body X.env) (exec st X.env) (SP X pins D) X.xe s
theorem fnS_of {CX : CXT} {P : Program} {w : World} {K : PySem.W.Frag} {mg : Str → Option Value} {base : Heap} {k : Nat}
    {f cc cda : Addr} {name qual : Str} {params : Arguments} {st : Stmt} {body : List Stmt} {scope : Scope} {dV kV doc pm ct oc cl : Value} {v : Option Value}
    {an od cld : Option Addr} {osl csl : Array (Option Value)} {N ps : List Str} {sp : Sp}
    (lk : K.lookup f = some ⟨oc, od, .func (PySem.W.ksFn name qual params (st :: body) scope dV kV doc pm an (.ref cda) ct cc), osl⟩)
    (coded : PySem.W.codeIn K (.ref cda) qual = true) (lc : K.lookup cc = some ⟨cl, cld, .cell v, csl⟩) (S : NScope N ps ["__class__"] scope)
    (len : ∀ zs G R W, sp zs G R W → zs.length = ps.length)
    (inner : ∀ (A : Around) (outer : List Env) (s : Shared) (H : Hp) (vs : List V) (Q : VK) (E : XK),
      Room k (A.deeper (envF (nfS name qual params (st :: body) scope cc cda) f s.heap.objs.size)) → sp vs H Q E →
      ∃ t1 t2, P1 (ncx CX P w K mg base N (nfS name qual params (st :: body) scope cc cda) f A outer s H E) (st :: body) st t1 ∧
        PSs (ncx CX P w K mg base N (nfS name qual params (st :: body) scope cc cda) f A outer s H E) body t2 ∧
        t1 { nx := fun σ' H' => t2 { nx := fun _ H' => Q .non H', rt := Q } σ' H', rt := Q } (startF N vs [none]) H) :
    FnOk P w K mg base CX (k + 1) f (PySem.W.ksFn name qual params (st :: body) scope dV kV doc pm an (.ref cda) ct cc) ps sp := by
  refine ⟨len, fun A outer s H given us vs Q E hr e0 bd r hsp => ?_⟩
  have hl := len _ _ _ _ hsp
  have KX : K.In s.heap := e0.mod.kin.keeps fun b o z => (e0.bs b o z).1
  have lim : s.heap.NoLimit := e0.mod.nolimit.keeps fun b o e => (e0.bs b o e).1
  have CA : CellsAt [("__class__", cc)] ["__class__"] [none] s.heap H := {
    len := rfl
    all := fun y c e => by
      have : c = cc := by
        simp only [List.lookup] at e
        split at e
        · exact (Option.some.inj e).symm
        · cases e
      subst this
      exact ⟨(e0.bs _ _ (e0.mod.kin _ _ lc)).2, v, ⟨_, KX _ _ lc, rfl⟩⟩
    inj := fun x y c h1 h2 => by
      have q : ∀ z c', List.lookup z [(("__class__" : Str), cc)] = some c' → z = "__class__" := fun z c' e => by
        simp only [List.lookup] at e
        split at e
        · rename_i h
          exact beq_iff_eq.mp h
        · cases e
      rw [q _ _ h1, q _ _ h2]
    has := fun i y e => by
      match i, e with
      | 0, e =>
        cases e
        exact ⟨cc, rfl, fun v h => by cases h⟩
      | i + 1, e => cases e }
  refine codeAny_call_function hr.depth (KX _ _ lk) rfl S.co S.gen rfl (PySem.W.codeRec_of KX coded) (bd _ _ _ _ ?_)
  refine wpAny_newFunctionEnv S.nocell (fun ⟨n, _⟩ hy => S.par n (List.of_mem_zip hy).1) (fun h₁ hns hsb => ⟨lim.fresh _ hsb, ?_⟩) S.kind
  show codeAny _ _ (.func (st :: body) (envF (nfS name qual params (st :: body) scope cc cda) f s.heap.objs.size)) _ _
  refine PySem.ks_codeAny_funcAt ?_
  have kp : ∀ b o, s.heap.get? b = some o → h₁.get? b = some o := fun b o e => hsb.extBut b o (Nat.ne_of_lt (Heap.lt_size e)) (Heap.get?_push_of_some _ e)
  obtain ⟨t1, t2, h1, h2, hq⟩ := inner A outer s H vs Q E (hr.deeper _) hsp
  have I : Inv (ncx CX P w K mg base N (nfS name qual params (st :: body) scope cc cda) f A outer s H E) [] (startF N vs [none]) H { s with heap := h₁, toks := s.toks + (ps.zip us).length } := inv_startN S hr.hd e0 hl r CA hns kp
  have fin : ∀ {σ' : L2.St} {H' : Hp} {v : V} {u : Value} {s' : Shared}, Inv (ncx CX P w K mg base N (nfS name qual params (st :: body) scope cc cda) f A outer s H E) [] σ' H' s' → L2.RelV v u → Q v H' → CE outer P w H s Q u s' :=
    fun {σ' H' v u s'} J rv q => ⟨v, H', J.os, J.bare, J.base, J.hok, rv, q⟩
  refine PySem.ks_wpAt_execs_cons (PySem.ks_wpAt_mono (h1 [] _ (startF N vs [none]) H _ I hq) (fun fl s' hs => ?_) fun e s' hs => hs)
  match fl, hs with
  | .ret u, ⟨v, σ', H', J, rv, q⟩ => exact fin J rv q
  | .brk, ⟨_, _, _, q⟩ => exact False.elim q
  | .cont, ⟨_, _, _, q⟩ => exact False.elim q
  | .next, ⟨σ', H', J, q⟩ =>
    refine _root_.PySem.wpAt_of_wpAny (wpAny_mono (h2.run [] _ σ' H' _ J q) (fun fl s' hs => ?_) fun e s' hs => hs)
    match fl, hs with
    | .ret u, ⟨v, σ', H', J, rv, q⟩ => exact fin J rv q
    | .next, ⟨σ', H', J, q⟩ => exact fin (v := V.non) (u := Value.none) J rfl q
    | .brk, ⟨_, _, _, q⟩ => exact False.elim q
    | .cont, ⟨_, _, _, q⟩ => exact False.elim q
end G0
namespace G0
open PySem PySem.Spec PyProof.Rows L2 NdefX
/-- what super() without arguments asks of the text and the written part -/
structure SupF (P : Program) (K : PySem.W.Frag) (N : List Str) (f cc cda D : Addr) (fd : FuncData) (params : Arguments) (scope : Scope) : Prop where
  fun_ : ∃ oc od osl, K.lookup f = some ⟨oc, od, .func fd, osl⟩ ∧ fd.params = params
  arg : ∃ ar : Arg, (params.posonlyargs ++ params.args).head? = some ar ∧ N[0]? = some ar.arg ∧ scope.names.lookup ar.arg = some .local
  code : ∃ ccl cdd vs ccs file tf, K.lookup cda = some ⟨ccl, cdd, .fields vs, ccs⟩ ∧ vs[2]? = some (.str file tf) ∧ ((P.main.file : Str) == file) = true
  cell : ∃ cl cld csl, K.lookup cc = some ⟨cl, cld, .cell (some (.ref D)), csl⟩
  cls : ∃ cdD, PySem.W.clsIn K D = some cdD
  miss : PySem.W.nsIn K mainGlobals "super" = some none
  sup : scope.names.lookup ("super" : Str) = some .globalImplicit
  own : scope.names.lookup ("__class__" : Str) = some .free
  kind : scope.kind = .function
  top : (P.main.scope.names.lookup ("super" : Str)).isSome = false
  any_ : PySem.W.nsIn K cStatics "thirdparty.any" = some none
/-- super() is made: an object of its own, held by a pin -/
theorem sup_node {CX : CXT} {P : Program} {w : World} {K : PySem.W.Frag} {mg : Str → Option Value} {base : Heap} {N : List Str}
    {f cc cda D a C : Addr} {name qual : Str} {params : Arguments} {st : List Stmt} {scope : Scope} {fd : FuncData}
    {A : Around} {outer : List Env} {s0 : Shared} {H0 : Hp} {E : XK} {pins : List (Addr × Obj)} {s : Shared} {σ : L2.St} {H : Hp} {p0 p1 : Pos} {attr : Str} {whole : Sem Value} {Q : Value → Shared → Prop} {EE : Value → Shared → Prop} {ox : Obj} {odx : Option Obj}
    (F : SupF P K N f cc cda D fd params scope)
    (I : Inv (ncx CX P w K mg base N (nfS name qual params st scope cc cda) f A outer s0 H0 E) pins σ H s) (hs : σ[0]? = some (some (.ref a)))
    (J : PySem.W.InstAt s.heap a ox C odx) (hsub : PySem.W.mroIn K C (.ref D) = some true) (hat : (attr == ("__class__" : Str)) = false)
    (h : ∀ h', (∀ b o, s.heap.get? b = some o → h'.get? b = some o) → h'.get? s.heap.objs.size = some (PySem.W.ks_superObj D a C) → Q (.ref s.heap.objs.size) { s with heap := h' }) :
    _root_.PySem.wpAt (model P w) (A.deeper (envF (nfS name qual params st scope cc cda) f s0.heap.objs.size)) (.func st (envF (nfS name qual params st scope cc cda) f s0.heap.objs.size))
      (attributeBase (.Call (.Name "super" p0) [] [] p1) attr (envF (nfS name qual params st scope cc cda) f s0.heap.objs.size) whole) Q EE s := by
  obtain ⟨oc, od, osl, hf, hpar⟩ := F.fun_
  obtain ⟨ar, hp, hN, hka⟩ := F.arg
  obtain ⟨ccl, cdd, vs, ccs, file, tf, hcode, hvs, hfile⟩ := F.code
  obtain ⟨cl, cld, csl, hcell⟩ := F.cell
  obtain ⟨cdD, hD⟩ := F.cls
  have X : K.In s.heap := I.kIn
  have M : Mod K mg base := I.mod
  obtain ⟨mb, hb, hboot⟩ := M.blt
  obtain ⟨m, hns, hlook⟩ := I.loc
  obtain ⟨u, ru, look⟩ := hlook 0 ar.arg (.ref a) hN hs (.inl hka)
  have ru : u = Value.ref a := ru
  subst ru
  have hv : m ar.arg = some (.ref a) := by
    rcases look with ⟨_, e⟩ | ⟨e, _⟩
    · exact e
    · exfalso
      have e : scope.names.lookup ar.arg = some .cell ∨ scope.names.lookup ar.arg = some .free := e
      rw [hka] at e
      rcases e with e | e <;> cases e
  have kb : ∀ b o, base.get? b = some o → s.heap.get? b = some o := I.bk
  obtain ⟨hh, g, d, t, os⟩ := s
  obtain ⟨oD, hD1, hD2⟩ : ∃ oD, hh.get? D = some oD ∧ oD.data = .cls cdD := by
    unfold PySem.W.clsIn at hD
    split at hD
    · rename_i c d cd' sl ho
      cases hD
      exact ⟨_, X _ _ ho, rfl⟩
    · cases hD
  subst hpar
  refine PySem.ks_wpAt_super_base F.sup F.own hat rfl (X _ _ hf) rfl hp rfl (X _ _ hcode) rfl hvs hfile F.top ?_
  refine PySem.W.ks_loadName_global F.kind F.sup (PySem.Calls.loadGlobal_builtin (M.glob.keeps kb) (PySem.W.mg_none_of M.kin M.glob F.miss) (hb.keeps kb) ((hboot _ (by decide +kernel)).trans (show bootBuiltins "super" = some (.type "super") by first | rfl | decide +kernel)) ⟨rfl, ?_⟩)
  refine wpAny_loadName_free F.kind F.own rfl ⟨_, X _ _ hcell, rfl⟩ ?_
  refine wpAny_loadName_local F.kind hka hns hv ?_
  refine PySem.ks_wpAny_isType_cls hD1 hD2 ⟨rfl, ?_⟩
  refine PySem.ks_wpAny_call_super hD1 hD2 J.at_ J.cls (fun c e => ?_) (PySem.W.looks_mroIn X hsub) (fun h' e k => h h' k e)
  have := J.no
  unfold PySem.W.notCls at this
  rw [e] at this
  exact Bool.noConfusion this
end G0
namespace G0
open PySem PySem.Spec PyProof.Rows L2 NdefX
section
variable {prog : Program} {w : World} {A : Around} {E : Value → Shared → Prop} {h : Heap} {g : Array GenState} {d : Drawn} {t : Nat} {os : OsState}
/-- a bound ValueError.__init__ is called: the exception's arguments are laid anew -/
theorem mw_code {nm q : Str} {C N : Addr} {bs bm : List Value} {hdct : Bool} {sn : List Str} {sub : List Value} {ab : Bool} {col : Option Bool} {dd : Option Addr} {k0 k1 k2 k3 k5 : Option Value} {u e t0 : Addr} {rest : List Value} {Q : Value → Shared → Prop}
    (hC : h.get? C = some (excClassObj nm q C N bs bm hdct sn sub ab col dd k0 k1 k2 k3 k5 "ValueError.__new__")) (he : h.get? e = some (PySem.HandSPX.excO C t0)) (hu : h.get? u = some (PySem.W.kxs_mw "ValueError.__init__" e)) (few : rest.length ≤ sizeLine)
    (k : ∀ h' t1, (∀ b o, b ≠ e → h.get? b = some o → h'.get? b = some o) → h'.get? e = some (PySem.HandSPX.excO C t1) → Q .none ⟨h', g, d, t, os⟩) :
    wpAny (model prog w) A (call (.ref u) rest) Q E ⟨h, g, d, t, os⟩ := by
  refine wpAny_call (codeAny_of_tree ?_)
  show wpAny _ A.in1 (callAny (.ref u) ⟨rest, []⟩) _ _ _
  simp only [callAny]
  refine wpAny_bind (wpAny_load hu ?_)
  simp only [PySem.W.kxs_mw, show (Value.type "method-wrapper" == Value.type "method" || Value.type "method-wrapper" == Value.type "builtin_function_or_method" || Value.type "method-wrapper" == Value.type "method-wrapper") = true by decide, if_true]
  refine PySem.W.KFB.if_so (by decide) ?_
  refine wpAny_bind (PySem.ESX.check_bound PySem.F.excBase_ValueError hC he rfl ?_)
  refine wpAny_bind (wpAny_pure (wpAny_pure ?_))
  refine ⟨Code.quiet_builtin _ (by decide +kernel), codeAny_builtin PySem.F.excBase_ValueError.initEntry ?_⟩
  rw [Around.under_plainId PySem.F.excBase_ValueError.init.plain _]
  wp_walk
  refine k _ h.objs.size (fun b o hb ho => ?_) ?_
  · rw [Heap.get?_update_other _ _ (Ne.symm hb)]
    exact Heap.get?_push_of_some _ ho
  · rw [Heap.get?_update_self _ (Heap.get?_push_of_some _ he) rfl]
    rfl
end
section
variable {X : Cx} {pins : List (Addr × Obj)} {σ : L2.St} {H : Hp} {s : Shared} {a C u : Addr} {us : List Value} {Q : Value → Shared → Prop} {E : Value → Shared → Prop} {A : Around}
theorem mw_ok (T : OexC X.K C) (I : Inv X pins σ H s) (e : H a = some (exo a C none)) (hu : s.heap.get? u = some (PySem.W.kxs_mw "ValueError.__init__" a)) (hl : us.length ≤ sizeLine) (k : ∀ s', Inv X pins σ H s' → Q .none s') :
    wpAny (model X.prog X.w) A (call (.ref u) us) Q E s := by
  obtain ⟨nm, q, N, bs, bm, sn, sub, ab, col, dd, k0, k1, k2, k3, k5, hC, hbm⟩ := T.cls
  obtain ⟨t1, ho⟩ := exo_at I.hok e
  obtain ⟨hp, g, d, t, os⟩ := s
  refine mw_code (I.kIn _ _ hC) ho hu hl fun h' t2 keep hx => ?_
  have J := I.write (t' := t) (x := a) (e := a) (o := exo a C none) (by rw [e]; exact True.intro) (.inl rfl) keep ⟨_, hx⟩ (exo_ok hx)
  have eu : upd H a (exo a C none) = H := by
    funext b
    by_cases hb : b = a
    · rw [hb, upd_same, e]
    · rw [upd_ne hb]
  rw [eu] at J
  exact k _ J
end
end G0
namespace G0
open PySem PySem.Spec PyProof.Rows L2 NdefX
/-- super().__init__(..) of an own exception -/
def tSupX (K : PySem.W.Frag) (D : Addr) (ta : TA) : TS := fun Dn σ H => ∃ a C : Addr, σ[0]? = some (some (.ref a)) ∧ OexC K C ∧ H a = some (exo a C none) ∧ PySem.W.mroIn K C (.ref D) = some true ∧
  PySem.W.ks_superIn K C D "__init__" = some (some (.builtin "ValueError.__init__")) ∧ PySem.W.subIn K (.ref C) (.type "ValueError") = some true ∧
  ta σ H fun vs H1 => vs.length ≤ 1000 ∧ H1 a = some (exo a C none) ∧ Dn.nx σ H1
theorem p1_supX {CX : CXT} {P : Program} {w : World} {K : PySem.W.Frag} {mg : Str → Option Value} {base : Heap} {N : List Str}
    {f cc cda D : Addr} {name qual : Str} {params : Arguments} {st : List Stmt} {scope : Scope} {fd : FuncData}
    {A : Around} {outer : List Env} {s0 : Shared} {H0 : Hp} {E : XK} {p0 p1 ap pos pos' : Pos} {e : Expr} {es : List Expr} {ta : TA} {pl : Sem Bool}
    (F : SupF P K N f cc cda D fd params scope) (ha : PA (ncx CX P w K mg base N (nfS name qual params st scope cc cda) f A outer s0 H0 E) (e :: es) ta)
    (he : starEach (e :: es) (envF (nfS name qual params st scope cc cda) f s0.heap.objs.size) = (false, eval e (envF (nfS name qual params st scope cc cda) f s0.heap.objs.size)) :: starEach es (envF (nfS name qual params st scope cc cda) f s0.heap.objs.size) := by rfl)
    (hpl : (backTo pos (starEach es (envF (nfS name qual params st scope cc cda) f s0.heap.objs.size))).any (·.1) = false := by rfl)
    (hsw : swapsWith (.Call (.Attribute (.Call (.Name "super" p0) [] [] p1) "__init__" ap) (e :: es) [] pos) none pos'.line (envF (nfS name qual params st scope cc cda) f s0.heap.objs.size) = pure false := by rfl)
    (hev : eval (.Call (.Attribute (.Call (.Name "super" p0) [] [] p1) "__init__" ap) (e :: es) [] pos) (envF (nfS name qual params st scope cc cda) f s0.heap.objs.size) = (do
      let ov ← attributeBase (.Call (.Name "super" p0) [] [] p1) "__init__" (envF (nfS name qual params st scope cc cda) f s0.heap.objs.size) (eval (.Call (.Name "super" p0) [] [] p1) (envF (nfS name qual params st scope cc cda) f s0.heap.objs.size))
      standAt ap.atName
      let (f', first) ← holding [ov] (getMethod ov "__init__" pl)
      callWith pos f' first (backTo pos (starEach (e :: es) (envF (nfS name qual params st scope cc cda) f s0.heap.objs.size))) []) := by rfl) :
    P1 (ncx CX P w K mg base N (nfS name qual params st scope cc cda) f A outer s0 H0 E) st (.Expr (.Call (.Attribute (.Call (.Name "super" p0) [] [] p1) "__init__" ap) (e :: es) [] pos) pos') (tSupX K D ta) := by
  rintro pins s σ H Dn I ⟨a, C, hs, T, ea, hm, hsu, hve, q⟩
  obtain ⟨t0, ho⟩ := exo_at I.hok ea
  have J : PySem.W.InstAt s.heap a _ C none := ⟨ho, rfl, rfl, trivial⟩
  have fresh := I.hok.fresh (Nat.le_refl s.heap.objs.size)
  refine PySem.ks_wpAt_Expr_any (PySem.ks_wpAt_MethodCall (sup_node F I hs J hm (by decide) fun h' k e1 => ?_) hev) I.quiet hsw
  obtain ⟨hh, g, d, t, os⟩ := s
  have I1 : Inv (ncx CX P w K mg base N (nfS name qual params st scope cc cda) f A outer s0 H0 E) pins σ H ⟨h', g, d, t, os⟩ := I.kept (t' := t) k
  have X1 : K.In h' := I1.kIn
  obtain ⟨t1, ho1⟩ := exo_at I1.hok ea
  have J1 : PySem.W.InstAt h' a _ C none := ⟨ho1, rfl, rfl, trivial⟩
  have hI : PySem.W.Looks (model P w) h' (isInstance (.ref a) (.type "ValueError")) true := J1.type.andThen (PySem.W.looks_subIn X1 hve)
  cases hc : PySem.W.clsIn K C with
  | none => unfold PySem.W.ks_superIn at hsu; rw [hc] at hsu; cases hsu
  | some cd =>
    unfold PySem.W.ks_superIn at hsu
    rw [hc] at hsu
    refine PySem.W.kxs_getMethod PySem.W.kxs_ValueError e1 (PySem.W.looks_opaque X1 F.any_) (l₀ := cd.mro) (fun A Q E s k q => wpAny_bind ((PySem.W.looks_clsIn X1 hc) A _ E s k (wpAny_pure q))) rfl X1 hsu hI (PySem.W.ks_ne X1 J1 hc) (by decide) ?_
    have k2 : ∀ b o, h'.get? b = some o → (h'.push (PySem.W.kxs_mw "ValueError.__init__" a)).get? b = some o := fun b o e => Heap.get?_push_of_some _ e
    have I2 : Inv (ncx CX P w K mg base N (nfS name qual params st scope cc cda) f A outer s0 H0 E) pins σ H ⟨h'.push (PySem.W.kxs_mw "ValueError.__init__" a), g, d, t + 1, os⟩ := I1.kept (t' := t + 1) k2
    have pin : ∀ p ∈ pins ++ [(h'.objs.size, PySem.W.kxs_mw "ValueError.__init__" a)], (h'.push (PySem.W.kxs_mw "ValueError.__init__" a)).get? p.1 = some p.2 ∧ H p.1 = none ∧
        p.1 ≠ (envF (nfS name qual params st scope cc cda) f s0.heap.objs.size).locals ∧ p.1 ∉ frs outer ∧ ∀ v, p.2.data ≠ .cell v := by
      intro p hp
      rcases List.mem_append.mp hp with hp | hp
      · exact I2.pin p (List.mem_append_right _ hp)
      · rw [List.mem_singleton.mp hp]
        exact ⟨Heap.get?_push_at rfl rfl, I1.hok.fresh (Nat.le_refl _), fun z => absurd (Nat.lt_of_le_of_lt (Nat.le_of_eq z) I1.lt) (Nat.lt_irrefl _), I1.nofs (Nat.le_refl _), fun v z => by cases z⟩
    have I3 := I2.pins_of pin
    refine PySem.W.kxs_callWith1 (h₀ := base) (L := (envF (nfS name qual params st scope cc cda) f s0.heap.objs.size).locals) (news := [(h'.objs.size, PySem.W.kxs_mw "ValueError.__init__" a)]) (i := "ValueError.__init__") (x := a) ?_ (List.mem_singleton.mpr rfl) ?_ he hpl
    · intro p hp
      have hp := List.mem_singleton.mp hp
      subst hp
      refine ⟨Heap.get?_push_at rfl rfl, fun z => absurd (Nat.lt_of_le_of_lt (Nat.le_of_eq z) I1.lt) (Nat.lt_irrefl _), ?_⟩
      cases z : base.get? h'.objs.size with
      | none => rfl
      | some o => exact absurd (Heap.lt_size (I1.bk _ _ z)) (Nat.lt_irrefl _)
    · refine wpAny_mono (ha.run pos _ _ σ H _ I3 q) (fun us s3 got => ?_) fun e s' h => h
      obtain ⟨vs, H3, I4, r, vl, ea3, qn⟩ := got
      have hu := (I4.pin (h'.objs.size, PySem.W.kxs_mw "ValueError.__init__" a) (List.mem_append_right _ (List.mem_append_right _ (List.mem_singleton.mpr rfl)))).1
      refine ⟨hu, mw_ok T I4 ea3 hu (by rw [← r.length, sizeLine_eq]; omega) fun s' I5 => ?_⟩
      exact ⟨σ, H3, I5.unpinned, qn⟩
end G0
namespace G0
open PySem PySem.Spec PyProof.Rows L2 NdefX
/-- __init__ of an own exception: super().__init__('..'), then self.f = y -/
def spXI (C : Addr) (fld : Str) : Sp := fun vs H Q _ => ∃ (a : Addr) (y : V), vs = [.ref a, y] ∧ H a = some (exo a C none) ∧ ∀ dx, H dx = none → dx ≠ a → Q .non (upd (upd H dx (exd dx [(fld, y)])) a (exo a C (some dx)))
/-- what an own exception class asks -/
structure XcK (K : PySem.W.Frag) (C : Addr) (fld : Str) : Prop where
  T : OexC K C
  mro : PySem.W.mroIn K C (.ref C) = some true
  sup : PySem.W.ks_superIn K C C "__init__" = some (some (.builtin "ValueError.__init__"))
  ve : PySem.W.subIn K (.ref C) (.type "ValueError") = some true
  no : PySem.W.findIn K (.ref C) fld = some none
theorem ok_xinit {CX : CXT} {P : Program} {w : World} {K : PySem.W.Frag} {mg : Str → Option Value} {base : Heap}
    {f cc cda C : Addr} {name qual y fld m : Str} {params : Arguments} {scope : Scope} {dV kV doc pm ct oc cl : Value} {v : Option Value}
    {an od cld : Option Addr} {osl csl : Array (Option Value)} {p0 p1 ap mp pos pos' q0 q1 q2 q3 : Pos} {j : Nat}
    (lk : K.lookup f = some ⟨oc, od, .func (PySem.W.ksFn name qual params [.Expr (.Call (.Attribute (.Call (.Name "super" p0) [] [] p1) "__init__" ap) [.Constant (.str m) j mp] [] pos) pos',
      .Assign [.Attribute (.Name "self" q0) fld q1] (.Name y q2) q3] scope dV kV doc pm an (.ref cda) ct cc), osl⟩)
    (coded : PySem.W.codeIn K (.ref cda) qual = true) (lc : K.lookup cc = some ⟨cl, cld, .cell v, csl⟩)
    (S : NScope ["self", y, "__class__"] ["self", y] ["__class__"] scope) (X : XcK K C fld) (hy1 : (y == ("__debug__" : Str)) = false) (hy2 : (y == ("__classdict__" : Str)) = false)
    (hev : ∀ env : Env, ∃ pl : Sem Bool, eval (.Call (.Attribute (.Call (.Name "super" p0) [] [] p1) "__init__" ap) [.Constant (.str m) j mp] [] pos) env = (do
      let ov ← attributeBase (.Call (.Name "super" p0) [] [] p1) "__init__" env (eval (.Call (.Name "super" p0) [] [] p1) env)
      standAt ap.atName
      let (f', first) ← holding [ov] (getMethod ov "__init__" pl)
      callWith pos f' first (backTo pos (starEach [.Constant (.str m) j mp] env)) []))
    (hsw : ∀ env : Env, swapsWith (.Call (.Attribute (.Call (.Name "super" p0) [] [] p1) "__init__" ap) [.Constant (.str m) j mp] [] pos) none pos'.line env = pure false) (hs2 : ∀ env : Env, swapsWith (.Name y q2) (some (.Attribute (.Name "self" q0) fld q1)) q3.line env = pure false)
    (F : SupF P K ["self", y, "__class__"] f cc cda C (PySem.W.ksFn name qual params [.Expr (.Call (.Attribute (.Call (.Name "super" p0) [] [] p1) "__init__" ap) [.Constant (.str m) j mp] [] pos) pos',
      .Assign [.Attribute (.Name "self" q0) fld q1] (.Name y q2) q3] scope dV kV doc pm an (.ref cda) ct cc) params scope) :
    FnOk P w K mg base CX (0 + 1) f (PySem.W.ksFn name qual params [.Expr (.Call (.Attribute (.Call (.Name "super" p0) [] [] p1) "__init__" ap) [.Constant (.str m) j mp] [] pos) pos',
      .Assign [.Attribute (.Name "self" q0) fld q1] (.Name y q2) q3] scope dV kV doc pm an (.ref cda) ct cc) ["self", y] (spXI C fld) := by
  refine fnS_of lk coded lc S ?_ fun A outer s H vs Q E hr h => ?_
  · rintro vs H Q E ⟨a, z, rfl, _⟩
    rfl
  · obtain ⟨a, z, rfl, ea, q⟩ := h
    obtain ⟨pl, hpl⟩ := hev (envF (nfS name qual params [.Expr (.Call (.Attribute (.Call (.Name "super" p0) [] [] p1) "__init__" ap) [.Constant (.str m) j mp] [] pos) pos', .Assign [.Attribute (.Name "self" q0) fld q1] (.Name y q2) q3] scope cc cda) f s.heap.objs.size)
    refine ⟨_, _, p1_supX F (pa_cons pe_str pa_nil) (hsw := hsw _) (hev := hpl), pss_one (ps_ost (pv 0 (by rfl) (.inl (S.par _ (by simp)))) (pv 1 (by rfl) (.inl (S.par _ (by simp))) hy1 hy2) (hs2 _)), ?_⟩
    refine ⟨a, C, rfl, X.T, ea, X.mro, X.sup, X.ve, by show 1 ≤ 1000; decide, ea, ?_⟩
    exact ⟨_, rfl, _, rfl, a, C, rfl, X.T, X.no, .inl ⟨ea, fun dx h1 h2 => q dx h1 h2⟩⟩
end G0
namespace G0
open PySem PySem.Spec PyProof.Rows L2 NdefX
/-- raise X(e) -/
theorem ps_raiseX {X : Cx} {W : WX} {x y fld : Str} {C fI : Addr} {fd : FuncData} {p pos pos' : Pos} {e : Expr} {te : TE} (T : OexC X.K C) (iC : PySem.W.findIn X.K (.ref C) "__init__" = some (some (.ref fI)))
    (tI : PySem.W.typeIn X.K (.ref fI) = some (.type "function")) (F1 : FnOk X.prog X.w X.K X.mg X.base CX0 1 fI fd ["self", y] (spXI C fld)) (hb : Binds X.K fd ["self", y] []) (hr : Room 2 X.A)
    (hg : Gl X x) (hm : X.mg x = some (.ref C)) (hc : X.calm = true) (tk : Takes X W) (ha : PE X e te) (hdb : (x == ("__debug__" : Str)) = false := by decide)
    (he : starEach [e] X.env = (false, eval e X.env) :: starEach [] X.env := by rfl) (hpl : (backTo pos (starEach [] X.env)).any (·.1) = false := by rfl) :
    PS X (.Raise (some (.Call (.Name x p) [e] [] pos)) none pos') (fun _ σ H => tMkO C (spXI C fld) [] (tCons te tNil) σ H fun cls d H' => W cls d σ H') :=
  ps_raise hc tk (pmk_oex T iC tI F1 hr hb .nil pass0 hg hm (pa_cons (hs := he) ha pa_nil) hdb he hpl)
theorem xc_done {C : Addr} {fld : Str} {y : V} {H1 : Hp} {R : XK} (h : ∀ d, H1 d = none → R (.ref C) (some d) (upd H1 d (.xd [(fld, y)]))) :
    [y].length ≤ 1000 ∧ ∀ a, H1 a = none → spXI C fld (.ref a :: ([y] ++ [])) (upd H1 a (exo a C none))
      (fun v H2 => v = .non ∧ ∃ (d : Addr) (fs : List (Str × V)), H2 a = some (exo a C (some d)) ∧ H2 d = some (exd d fs) ∧ H1 d = none ∧ R (.ref C) (some d) (upd (del H2 a) d (.xd fs))) (fun _ _ _ => False) := by
  refine ⟨by show 1 ≤ 1000; decide, fun a ha => ⟨a, y, rfl, upd_same, fun dx h1 h2 => ?_⟩⟩
  have hd : H1 dx = none := by rw [upd_ne h2] at h1; exact h1
  refine ⟨rfl, dx, [(fld, y)], upd_same, by rw [upd_ne h2, upd_same], hd, ?_⟩
  have e : upd (del (upd (upd (upd H1 a (exo a C none)) dx (exd dx [(fld, y)])) a (exo a C (some dx))) a) dx (.xd [(fld, y)]) = upd H1 dx (.xd [(fld, y)]) := by
    funext b
    by_cases c : b = dx
    · subst c; rw [upd_same, upd_same]
    · rw [upd_ne c, upd_ne c]
      by_cases c2 : b = a
      · subst c2; rw [del_same, ha]
      · rw [del_ne c2, upd_ne c2, upd_ne c, upd_ne c2]
  rw [e]
  exact h dx hd
end G0
namespace G0
open PySem PySem.Spec PyProof.Rows L2 NdefX ClX
/-- super().__init__(..) of an instance of an own class, D's base giving a def -/
def tSupM (K : PySem.W.Frag) (D f2 : Addr) (sp : Sp) (ta : TA) : TS := fun Dn σ H => ∃ (a C dx : Addr) (fs : List (Str × V)), σ[0]? = some (some (.ref a)) ∧ H a = some (.ins C dx fs) ∧ PySem.W.mroIn K C (.ref D) = some true ∧
  PySem.W.ks_superIn K C D "__init__" = some (some (.ref f2)) ∧ PySem.W.typeIn K (.ref f2) = some (.type "function") ∧ PySem.W.fnIn K f2 = true ∧
  ta σ H fun vs H1 => sp (.ref a :: vs) H1 (fun _ H2 => Dn.nx σ H2) (fun _ _ _ => False)
theorem p1_supM {CX : CXT} {P : Program} {w : World} {K : PySem.W.Frag} {mg : Str → Option Value} {base : Heap} {N : List Str} {k2 : Nat} {sp : Sp}
    {f cc cda D f2 : Addr} {name qual : Str} {params : Arguments} {st : List Stmt} {scope : Scope} {fd : FuncData}
    {A : Around} {outer : List Env} {s0 : Shared} {H0 : Hp} {E : XK} {p0 p1 ap pos pos' : Pos} {e : Expr} {es : List Expr} {ta : TA} {pl : Sem Bool}
    (F : SupF P K N f cc cda D fd params scope) (F2 : FnR P w K mg base CX0 k2 f2 sp) (hr : Room k2 (A.deeper (envF (nfS name qual params st scope cc cda) f s0.heap.objs.size)))
    (ha : PA (ncx CX P w K mg base N (nfS name qual params st scope cc cda) f A outer s0 H0 E) (e :: es) ta)
    (he : starEach (e :: es) (envF (nfS name qual params st scope cc cda) f s0.heap.objs.size) = (false, eval e (envF (nfS name qual params st scope cc cda) f s0.heap.objs.size)) :: starEach es (envF (nfS name qual params st scope cc cda) f s0.heap.objs.size) := by rfl)
    (hpl : (backTo pos (starEach es (envF (nfS name qual params st scope cc cda) f s0.heap.objs.size))).any (·.1) = false := by rfl)
    (hsw : swapsWith (.Call (.Attribute (.Call (.Name "super" p0) [] [] p1) "__init__" ap) (e :: es) [] pos) none pos'.line (envF (nfS name qual params st scope cc cda) f s0.heap.objs.size) = pure false := by rfl)
    (hev : eval (.Call (.Attribute (.Call (.Name "super" p0) [] [] p1) "__init__" ap) (e :: es) [] pos) (envF (nfS name qual params st scope cc cda) f s0.heap.objs.size) = (do
      let ov ← attributeBase (.Call (.Name "super" p0) [] [] p1) "__init__" (envF (nfS name qual params st scope cc cda) f s0.heap.objs.size) (eval (.Call (.Name "super" p0) [] [] p1) (envF (nfS name qual params st scope cc cda) f s0.heap.objs.size))
      standAt ap.atName
      let (f', first) ← holding [ov] (getMethod ov "__init__" pl)
      callWith pos f' first (backTo pos (starEach (e :: es) (envF (nfS name qual params st scope cc cda) f s0.heap.objs.size))) []) := by rfl) :
    P1 (ncx CX P w K mg base N (nfS name qual params st scope cc cda) f A outer s0 H0 E) st (.Expr (.Call (.Attribute (.Call (.Name "super" p0) [] [] p1) "__init__" ap) (e :: es) [] pos) pos') (tSupM K D f2 sp ta) := by
  rintro pins s σ H Dn I ⟨a, C, dx, fs, hs, ea, hm, hsu, hty, hfn, q⟩
  obtain ⟨mA, OM, _⟩ := ins_get I.hok ea
  obtain ⟨od, J, _⟩ := OM.look
  refine PySem.ks_wpAt_Expr_any (PySem.ks_wpAt_MethodCall (sup_node F I hs J hm (by decide) fun h' k e1 => ?_) hev) I.quiet hsw
  obtain ⟨hh, g, d, t, os⟩ := s
  have I1 : Inv (ncx CX P w K mg base N (nfS name qual params st scope cc cda) f A outer s0 H0 E) pins σ H ⟨h', g, d, t, os⟩ := I.kept (t' := t) k
  have X1 : K.In h' := I1.kIn
  obtain ⟨mA1, OM1, _⟩ := ins_get I1.hok ea
  obtain ⟨od1, J1, _⟩ := OM1.look
  cases hc : PySem.W.clsIn K C with
  | none => unfold PySem.W.ks_superIn at hsu; rw [hc] at hsu; cases hsu
  | some cd =>
    unfold PySem.W.ks_superIn at hsu
    rw [hc] at hsu
    obtain ⟨of, hof, hofc⟩ : ∃ of, h'.get? f2 = some of ∧ of.cls = .type "function" := by
      have ht' : (K.lookup f2).map (·.cls) = some (.type "function") := hty
      cases z : K.lookup f2 with
      | none => rw [z] at ht'; cases ht'
      | some of => rw [z] at ht'; exact ⟨of, X1 _ _ z, Option.some.inj ht'⟩
    refine PySem.ks_wpAny_getMethod_super e1 (PySem.W.looks_opaque X1 F.any_) (l₀ := cd.mro) (fun A Q E s k q => wpAny_bind ((PySem.W.looks_clsIn X1 hc) A _ E s k (wpAny_pure q))) rfl X1 hsu hof hofc (PySem.W.ks_ne X1 J1 hc) (by decide) ?_
    have I3 := met_new (g := f2) (C := a) I1
    refine callwith_cm (C := a) (g := f2) I3 ?_ hfn ?_ he hpl
    · cases z : base.get? h'.objs.size with
      | none => exact z
      | some o => exact absurd (Heap.lt_size (I1.bk _ _ z)) (Nat.lt_irrefl _)
    · refine wpAny_mono (ha.run pos _ _ σ H _ I3 q) (fun us s3 got => ?_) fun e s' h => h
      obtain ⟨vs, H3, I4, r, qn⟩ := got
      refine ⟨⟨pin_at I4, I4.kIn⟩, ?_⟩
      refine wpAny_mono (run_cm F2 hr pass0 I4 r qn) (fun u s' z => ?_) fun e s' h => h
      obtain ⟨v, H', I5, _, qq⟩ := z
      exact ⟨σ, H', I5, qq⟩
end G0
namespace G0
open PySem PySem.Spec PyProof.Rows L2 NdefX ClX
section
variable {P : Program} {w : World} {K : PySem.W.Frag} {mg : Str → Option Value} {base : Heap} {C : Addr}
/-! ### Seat.__init__, of an object of a class under it -/
def seatG (m : Int) : List (Str × V) := [("me", .int m), ("state", .str "out"), ("sits", .bl false)]
theorem seatG_made (m : Int) : putF "sits" (.bl false) (putF "state" (.str "out") (putF "me" (.int m) [])) = seatG m := by
  simp only [putF, seatG, n_me_stt, n_me_sits, n_stt_sits, if_false, if_true]
theorem seatG_rest (m n c : Int) (aw hl tg : Addr) : putF "_told_gone" (.ref tg) (putF "_holds" (.ref hl) (putF "_awaits" (.ref aw) (putF "_seats" (.int n) (putF "stamp" .non (putF "count" (.int c) (seatG m)))))) = stF m "out" false c .non n aw hl tg := by
  simp only [putF, seatG, stF, n_me_cnt, n_stt_cnt, n_sits_cnt, n_me_stp, n_stt_stp, n_sits_stp, n_cnt_stp, n_me_sts, n_stt_sts, n_sits_sts, n_cnt_sts, n_stp_sts, n_me_awt, n_stt_awt, n_sits_awt, n_cnt_awt, n_stp_awt, n_sts_awt,
    n_me_hld, n_stt_hld, n_sits_hld, n_cnt_hld, n_stp_hld, n_sts_hld, n_awt_hld, n_me_tgn, n_stt_tgn, n_sits_tgn, n_cnt_tgn, n_stp_tgn, n_sts_tgn, n_awt_tgn, n_hld_tgn, if_false, if_true]
def spSeat0 (C : Addr) : Sp := fun vs H Q _ => ∃ (p dx : Addr) (m : Int), vs = [.ref p, .int m] ∧ H p = some (.ins C dx []) ∧ Q .non (upd H p (.ins C dx (seatG m)))
theorem sc_Seat__init : FnScope ["self", "me"] ["self", "me"] (defScope s_Seat__init) :=
  ⟨rfl, rfl, rfl, by decide +kernel, rfl, by decide +kernel, by decide +kernel⟩
theorem ok_seat0 {f : Addr} {fd : FuncData} (F : Fun K "__init__" "Seat.__init__" s_Seat__init f fd) (c : Cls K C) (n1 : NoAttr K C "me") (n2 : NoAttr K C "state") (n3 : NoAttr K C "sits") : FnOk P w K mg base CX0 1 f fd ["self", "me"] (spSeat0 C) := by
  refine F.ok sc_Seat__init (fun vs H Q E h => ?_) (fun cdv A outer s H vs Q E hr h => ?_)
  · obtain ⟨p, dx, m, rfl, _⟩ := h
    rfl
  obtain ⟨p, dx, m, rfl, hp, q⟩ := h
  refine ⟨_, (pss_cons (ps_fld (pv 0) (pv 1) rfl)
    (pss_cons (ps_fld (pv 0) pe_str rfl)
    (pss_one (ps_fld (pv 0) pe_bl rfl)))), ?_⟩
  refine ⟨_, rfl, _, rfl, p, C, dx, _, rfl, hp, c, n1, (by show 0 < 1000; decide), ?_⟩
  refine ⟨_, rfl, p, C, dx, _, rfl, upd_same, c, n2, (by show 1 < 1000; decide), ?_⟩
  refine ⟨_, rfl, p, C, dx, _, rfl, upd_same, c, n3, (by show 2 < 1000; decide), ?_⟩
  rw [upd_upd, upd_upd, seatG_made]
  exact q
theorem fnR_of {k : Nat} {f : Addr} {fd : FuncData} {ps : List Str} {sp : Sp} (F : FnOk P w K mg base CX0 k f fd ps sp) (b : Binds K fd ps []) : FnR P w K mg base CX0 k f sp :=
  fun A outer s H us vs Q E hr e0 r h => by
    have hl : (us ++ []).length = ps.length := by rw [List.append_nil, ← r.length]; exact F.len _ _ _ _ h
    have KX : K.In s.heap := e0.mod.kin.keeps fun b o z => (e0.bs b o z).1
    have bt := b s us KX hl
    rw [List.append_nil] at bt
    exact F.run A outer s H ⟨us, []⟩ us vs Q E hr e0 bt r h
/-! ### Stamper.__init__ -/
def spSInit (C : Addr) : Sp := fun vs H Q _ => ∃ (p dx : Addr) (m n c : Int), vs = [.ref p, .int m, .int n, .int c] ∧ H p = some (.ins C dx []) ∧
  ∀ aw hl tg H', aw ≠ hl → aw ≠ tg → hl ≠ tg → Chg p H H' → H' aw = some (.lst []) → H' hl = some (.lst []) → H' tg = some (.lst []) → H' p = some (.ins C dx (stF m "out" false c .non n aw hl tg)) → H aw = none → H hl = none → H tg = none → Q .non H'
theorem ok_sinit {f cc cda D f2 : Addr} {dV kV doc pm ct oc cl : Value} {v : Option Value} {an od cld : Option Addr} {osl csl : Array (Option Value)}
    (lk : K.lookup f = some ⟨oc, od, .func (PySem.W.ksFn "__init__" "Stamper.__init__" (defArgs s_Stamper__init) (defBody s_Stamper__init) (defScope s_Stamper__init) dV kV doc pm an (.ref cda) ct cc), osl⟩)
    (coded : PySem.W.codeIn K (.ref cda) "Stamper.__init__" = true) (lc : K.lookup cc = some ⟨cl, cld, .cell v, csl⟩)
    (F : SupF P K ["self", "me", "seats", "count", "__class__"] f cc cda D (PySem.W.ksFn "__init__" "Stamper.__init__" (defArgs s_Stamper__init) (defBody s_Stamper__init) (defScope s_Stamper__init) dV kV doc pm an (.ref cda) ct cc) (defArgs s_Stamper__init) (defScope s_Stamper__init))
    (F2 : FnR P w K mg base CX0 1 f2 (spSeat0 C)) (S : StT K C) (mro : PySem.W.mroIn K C (.ref D) = some true) (su : PySem.W.ks_superIn K C D "__init__" = some (some (.ref f2))) (ty : PySem.W.typeIn K (.ref f2) = some (.type "function")) (fi : PySem.W.fnIn K f2 = true) :
    FnOk P w K mg base CX0 2 f (PySem.W.ksFn "__init__" "Stamper.__init__" (defArgs s_Stamper__init) (defBody s_Stamper__init) (defScope s_Stamper__init) dV kV doc pm an (.ref cda) ct cc) ["self", "me", "seats", "count"] (spSInit C) := by
  have NS : NScope ["self", "me", "seats", "count", "__class__"] ["self", "me", "seats", "count"] ["__class__"] (defScope s_Stamper__init) := nscope_by (by decide +kernel)
  refine fnS_of lk coded lc NS ?_ fun A outer s H vs Q E hr h => ?_
  · rintro vs H Q E ⟨p, dx, m, n, c, rfl, _⟩
    rfl
  obtain ⟨p, dx, m, n, c, rfl, hp, q⟩ := h
  refine ⟨_, _, p1_supM F F2 hr (pa_cons (pv 1 (by rfl) (.inl (NS.par _ (by simp)))) pa_nil),
    pss_cons (ps_fld (pv 0 (by rfl) (.inl (NS.par _ (by simp)))) (pv 3 (by rfl) (.inl (NS.par _ (by simp)))) rfl)
    (pss_cons (ps_fld (pv 0 (by rfl) (.inl (NS.par _ (by simp)))) pe_non rfl)
    (pss_cons (ps_fld (pv 0 (by rfl) (.inl (NS.par _ (by simp)))) (pv 2 (by rfl) (.inl (NS.par _ (by simp)))) rfl)
    (pss_cons (ps_fld (pv 0 (by rfl) (.inl (NS.par _ (by simp)))) (pe_lst pa_nil) rfl)
    (pss_cons (ps_fld (pv 0 (by rfl) (.inl (NS.par _ (by simp)))) (pe_lst pa_nil) rfl)
    (pss_one (ps_fld (pv 0 (by rfl) (.inl (NS.par _ (by simp)))) (pe_lst pa_nil) rfl)))))), ?_⟩
  have p0 : H p ≠ none := by rw [hp]; exact fun z => nomatch z
  refine ⟨p, C, dx, [], rfl, hp, mro, su, ty, fi, _, rfl, p, dx, m, rfl, hp, ?_⟩
  refine ⟨_, rfl, _, rfl, p, C, dx, _, rfl, upd_same, S.cl, S.count, (by show 3 < 1000; decide), ?_⟩
  refine ⟨_, rfl, p, C, dx, _, rfl, upd_same, S.cl, S.stamp, (by show 4 < 1000; decide), ?_⟩
  refine ⟨_, rfl, _, rfl, p, C, dx, _, rfl, upd_same, S.cl, S.seats, (by show 5 < 1000; decide), ?_⟩
  rw [upd_upd, upd_upd, upd_upd]
  refine ⟨Nat.zero_le _, fun aw haw => ?_⟩
  have ap : aw ≠ p := fun z => by rw [z, upd_same] at haw; cases haw
  rw [upd_ne ap] at haw
  refine ⟨_, rfl, p, C, dx, _, rfl, (by rw [upd_ne ap.symm]; exact upd_same), S.cl, S.awaits, (by show 6 < 1000; decide), ?_⟩
  refine ⟨Nat.zero_le _, fun hl hhl => ?_⟩
  have hp' : hl ≠ p := fun z => by rw [z, upd_same] at hhl; cases hhl
  rw [upd_ne hp'] at hhl
  have ha' : aw ≠ hl := fun z => by rw [← z, upd_same] at hhl; cases hhl
  rw [upd_ne ha'.symm, upd_ne hp'] at hhl
  refine ⟨_, rfl, p, C, dx, _, rfl, (by rw [upd_ne hp'.symm]; exact upd_same), S.cl, S.holds, (by show 7 < 1000; decide), ?_⟩
  refine ⟨Nat.zero_le _, fun tg htg => ?_⟩
  have tp : tg ≠ p := fun z => by rw [z, upd_same] at htg; cases htg
  rw [upd_ne tp] at htg
  have th : hl ≠ tg := fun z => by rw [← z, upd_same] at htg; cases htg
  rw [upd_ne th.symm, upd_ne tp] at htg
  have ta : aw ≠ tg := fun z => by rw [← z, upd_same] at htg; cases htg
  rw [upd_ne ta.symm, upd_ne tp] at htg
  refine ⟨_, rfl, p, C, dx, _, rfl, (by rw [upd_ne tp.symm]; exact upd_same), S.cl, S.gone, (by show 8 < 1000; decide), ?_⟩
  rw [seatG_rest]
  refine q aw hl tg _ ha' ta th ?_ ?_ ?_ ?_ upd_same haw hhl htg
  · intro b o nb e
    rw [upd_ne nb, upd_ne (ne_of_none e htg), upd_ne nb, upd_ne (ne_of_none e hhl), upd_ne nb, upd_ne (ne_of_none e haw), upd_ne nb]
    exact e
  · rw [upd_ne ap, upd_ne ta, upd_ne ap, upd_ne ha', upd_ne ap, upd_same]
  · rw [upd_ne hp', upd_ne th, upd_ne hp', upd_same]
  · rw [upd_ne tp, upd_same]
end

end G0
namespace G0
open PySem PySem.Spec PyProof.Rows L2
section
variable {P : Program} {w : World} {K : PySem.W.Frag} {mg : Str → Option Value} {base : Heap} {C : Addr}
structure BlW (mg : Str → Option Value) : Prop where
  len : mg "len" = none
  abs : mg "abs" = none
  int : mg "int" = none
/-! ### the pot of k29 to k36 -/
def spPot (K : PySem.W.Frag) : Sp := fun vs H Q _ => ∃ (a : Addr) (k : Int) (ns : List Int), vs = [.ref a, .int k] ∧ SqL K H a (ns.map V.int) ∧ 0 ≤ k ∧ k < 1000000 ∧
  ∀ (r : Addr) (H' : Hp), H r = none → Same H H' → PotAt 0 H' r → Q (.ref r) H'
theorem c_ok (c : Int) (hc : 0 ≤ c) (b : Bool) : 0 ≤ c * (if b = true then 1 else 0) := by
  cases b with
  | true => simp; exact hc
  | false => simp
theorem pow_lt {x : Int} (h : 0 ≤ x) (h2 : x < 2 ^ 63) : x.natAbs < 2 ^ 64 := by omega
theorem bit_mul (c : Int) (b : Bool) : CMul c (if b = true then 1 else 0) := .inr (by cases b <;> exact ⟨by decide, by decide⟩)
theorem wide8 : CPowB (10 ^ (Int.toNat 60)) 8 := ⟨by decide, by decide +kernel⟩
theorem wide8_pos : (0 : Int) < (10 ^ (Int.toNat 60)) ^ (Int.toNat 8) := by decide +kernel
theorem sc_law_pot : FnScope ["script", "at", "cell"] ["script", "at"] (defScope s_law_pot) :=
  ⟨rfl, rfl, rfl, by decide +kernel, rfl, by decide +kernel, by decide +kernel⟩
theorem ok_pot (F : Fn K mg "_law_pot" s_law_pot) (T : BlW mg) : Cal P w K mg base "_law_pot" 1 ["script", "at"] (spPot K) := by
  refine cal_of F sc_law_pot
    (fun _ _ _ _ _ _ us hl => match us, hl with | [_, _], _ => rfl) ?_ ?_
  · rintro vs H Q E ⟨a, k, ns, rfl, _⟩
    rfl
  rintro f cdv A outer s H vs Q E free hr ⟨a, k, ns, rfl, hS, k0, k1, q⟩
  refine ⟨_, (pss_cons (ps_set (i := 2) sc_law_pot.nd rfl (Or.inl rfl) pe_int)
    (pss_cons (ps_if (pt_cmpR op_lt (pv 1) (pe_callB call_len_seq (by rfl) T.len (by decide +kernel) (pa_cons (pv 0) pa_nil)) (nomark _))
    (pss_one (ps_set (i := 2) sc_law_pot.nd rfl (Or.inl rfl) (pe_op op_mod (pe_callB call_abs (by rfl) T.abs (by decide +kernel) (pa_cons (pe_ix ix_list (pv 0) (pv 1) (fun _ _ => rfl)) pa_nil)) (pe_op op_powB (pe_op op_pow pe_int pe_int) pe_int))))
    pss_nil)
    (pss_one (ps_ret (pe_lst (pa_cons (pe_op op_mul (pv 2) (pe_callTy call_int1 (by rfl) T.int (by decide +kernel) (pa_cons (pe_cmpR op_ge (pv 2) (pe_op op_pow pe_int pe_int) (nomark _)) pa_nil))) (pa_cons (pe_op op_mod (pe_op op_pow (pe_op op_add (pe_op op_add (pe_op op_mod (pv 2) pe_int) (pe_op op_mul pe_int (pv 1))) pe_int) pe_int) pe_int) (pa_cons pe_int pa_nil)))))))), ?_⟩
  have hl : (ns.map V.int).length = ns.length := List.length_map _
  have last : ∀ c : Int, 0 ≤ (c % 1000000007 + 104723 * k + 11) ∧ (c % 1000000007 + 104723 * k + 11) < 2 ^ 63 := fun c => by
    have h1 : 0 ≤ c % 1000000007 := Int.emod_nonneg _ (by decide)
    have h2 : c % 1000000007 < 1000000007 := Int.emod_lt_of_pos _ (by decide)
    omega
  refine ⟨_, rfl, _, rfl, a, _, rfl, .inl hS, _, _, rfl, rfl, _, rfl, ?_⟩
  refine ite2 (fun c => ?_) (fun c => ?_)
  · have c' : k < (((ns.map V.int).length : Nat) : Int) := of_decide_eq_true c
    have hk : k.toNat < ns.length := by omega
    have ek : k = ((k.toNat : Nat) : Int) := by omega
    have at_ : atI (ns.map V.int) ((k.toNat : Nat) : Int) = some (.int ns[k.toNat]) := atI_nat (by rw [List.getElem?_map, List.getElem?_eq_getElem hk] <;> rfl)
    rw [← ek] at at_
    refine ⟨_, rfl, _, rfl, a, _, _, _, rfl, rfl, hS, at_, ?_⟩
    refine ⟨_, rfl, _, _, rfl, rfl, ⟨by decide, by decide, by decide⟩, _, _, rfl, rfl, wide8, _, _, rfl, rfl, wide8_pos, ?_⟩
    have c0 : 0 ≤ (if ns[k.toNat] < 0 then -ns[k.toNat] else ns[k.toNat]) % (10 ^ (Int.toNat 60)) ^ (Int.toNat 8) := Int.emod_nonneg _ (by have := wide8_pos; omega)
    have l := last ((if ns[k.toNat] < 0 then -ns[k.toNat] else ns[k.toNat]) % (10 ^ (Int.toNat 60)) ^ (Int.toNat 8))
    refine ⟨_, rfl, _, rfl, _, _, rfl, rfl, ⟨by decide, by decide, by decide⟩, _, _, rfl, rfl, .inr ⟨_, rfl, ?_⟩⟩
    refine ⟨_, _, rfl, rfl, bit_mul _ _, ?_⟩
    refine ⟨_, rfl, _, _, rfl, rfl, (by show (0 : Int) < 1000000007; decide), _, rfl, _, _, rfl, rfl, .inl ⟨by decide, by decide⟩, _, _, rfl, rfl, _, _, rfl, rfl,
      _, _, rfl, rfl, ⟨by decide, by decide, pow_lt l.1 l.2⟩, _, _, rfl, rfl, (by show (0 : Int) < 2305843009213693951; decide), ?_⟩
    exact ⟨(by show 3 ≤ sizeLine; decide), fun D hD => q D _ hD (same_upd hD) (.at ⟨_, _, 0, rfl, c_ok _ c0 _, Int.emod_nonneg _ (by decide), Int.emod_lt_of_pos _ (by decide), by decide, by decide⟩)⟩
  · have c0 : (0 : Int) ≤ 0 := by decide
    have l := last (0)
    refine ⟨_, rfl, _, rfl, _, _, rfl, rfl, ⟨by decide, by decide, by decide⟩, _, _, rfl, rfl, .inr ⟨_, rfl, ?_⟩⟩
    refine ⟨_, _, rfl, rfl, bit_mul _ _, ?_⟩
    refine ⟨_, rfl, _, _, rfl, rfl, (by show (0 : Int) < 1000000007; decide), _, rfl, _, _, rfl, rfl, .inl ⟨by decide, by decide⟩, _, _, rfl, rfl, _, _, rfl, rfl,
      _, _, rfl, rfl, ⟨by decide, by decide, pow_lt l.1 l.2⟩, _, _, rfl, rfl, (by show (0 : Int) < 2305843009213693951; decide), ?_⟩
    exact ⟨(by show 3 ≤ sizeLine; decide), fun D hD => q D _ hD (same_upd hD) (.at ⟨_, _, 0, rfl, c_ok _ c0 _, Int.emod_nonneg _ (by decide), Int.emod_lt_of_pos _ (by decide), by decide, by decide⟩)⟩
/-! ### _law_draw -/
def spDraw : Sp := fun vs H Q _ => ∃ (p : Addr) (m : Int) (n : Nat), vs = [.ref p, .int m] ∧ 0 < m ∧ m.natAbs < 2 ^ 250 ∧
  PotAt n H p ∧ n < 1000000000 ∧ ∀ (d : Int) (ys : List V), 0 ≤ d → d < m → PotL (n + 1) ys → Q (.int d) (upd H p (.lst ys))
theorem sc_law_draw : FnScope ["pot", "many", "found", "one", "other"] ["pot", "many"] (defScope s_law_draw) :=
  ⟨rfl, rfl, rfl, by decide +kernel, rfl, by decide +kernel, by decide +kernel⟩
theorem ok_draw (F : Fn K mg "_law_draw" s_law_draw) : Cal P w K mg base "_law_draw" 1 ["pot", "many"] spDraw := by
  refine cal_of F sc_law_draw
    (fun _ _ _ _ _ _ us hl => match us, hl with | [_, _], _ => rfl) ?_ ?_
  · rintro vs H Q E ⟨p, m, n, rfl, _⟩
    rfl
  rintro f cdv A outer s H vs Q E free hr ⟨p, m, n, rfl, m0, mb, ⟨xs, hp, ⟨a, b, c, rfl, a0, b0, b1, c0, cn⟩⟩, nn, q⟩
  have hL := SqL.of (K := K) hp
  refine ⟨_, (pss_cons (ps_if (pt_cmpR op_gt (pe_ix ix_list (pv 0) pe_int (fun _ _ => rfl)) pe_int (nomark _))
    (pss_cons (ps_set (i := 2) sc_law_draw.nd rfl (Or.inl rfl) (pe_op op_mod (pe_ix ix_list (pv 0) pe_int (fun _ _ => rfl)) (pv 1)))
    (pss_cons (ps_asg (pe_op op_fdivW (pe_ix ix_list (pv 0) pe_int (fun _ _ => rfl)) (pv 1)) (pg_sub (pv 0) pe_int set_list))
    (pss_one (ps_ret (pv 2)))))
    pss_nil)
    (pss_cons (ps_asg (pe_op op_add (pe_ix ix_list (pv 0) pe_int (fun _ _ => rfl)) pe_int) (pg_sub (pv 0) pe_int set_list))
    (pss_cons (ps_set (i := 3) sc_law_draw.nd rfl (Or.inl rfl) (pe_op op_mod (pe_op op_pow (pe_op op_add (pe_ix ix_list (pv 0) pe_int (fun _ _ => rfl)) (pe_op op_mul pe_int (pe_ix ix_list (pv 0) pe_int (fun _ _ => rfl)))) pe_int) pe_int))
    (pss_cons (ps_set (i := 4) sc_law_draw.nd rfl (Or.inl rfl) (pe_op op_mod (pe_op op_pow (pe_op op_add (pv 3) (pe_op op_mod (pe_op op_mul pe_int (pe_ix ix_list (pv 0) pe_int (fun _ _ => rfl))) pe_int)) pe_int) pe_int))
    (pss_one (ps_ret (pe_op op_mod (pe_op op_fdivW (pv 4) pe_int) (pv 1)))))))), ?_⟩
  refine ⟨_, rfl, p, _, _, _, rfl, rfl, hL, rfl, _, _, rfl, rfl, _, rfl, ?_⟩
  refine ite2 (fun c1 => ?_) (fun c1 => ?_)
  · refine ⟨_, rfl, p, _, _, _, rfl, rfl, hL, rfl, _, rfl, _, _, rfl, rfl, m0, ?_⟩
    refine ⟨_, rfl, p, _, _, _, rfl, rfl, hL, rfl, _, rfl, _, _, rfl, rfl, wide_div m0 mb (by decide) (by decide), ?_⟩
    refine ⟨_, rfl, p, _, _, _, rfl, rfl, hp, rfl, ?_⟩
    refine ⟨_, rfl, ?_⟩
    refine q _ _ (Int.emod_nonneg _ (by omega)) (Int.emod_lt_of_pos _ m0) ?_
    exact ⟨_, b, c, rfl, Int.ediv_nonneg a0 (by omega), b0, b1, c0, by omega⟩
  · refine ⟨_, rfl, p, _, _, _, rfl, rfl, hL, rfl, _, _, rfl, rfl, ?_⟩
    refine ⟨_, rfl, p, _, _, _, rfl, rfl, hp, rfl, ?_⟩
    have hp' : upd H p (.lst [.int a, .int b, .int (c + 1)]) p = some (.lst [.int a, .int b, .int (c + 1)]) := upd_same
    have hL' := SqL.of (K := K) hp'
    have z1 : 0 ≤ b + 1299709 * (c + 1) := by omega
    have z2 : b + 1299709 * (c + 1) < 2 ^ 63 := by omega
    refine ⟨_, rfl, p, _, _, _, rfl, rfl, hL', rfl, _, rfl, p, _, _, _, rfl, rfl, hL', rfl, _, _, rfl, rfl, .inl ⟨by decide, by decide⟩, _, _, rfl, rfl,
      _, _, rfl, rfl, ⟨by decide, by decide, pow_lt z1 z2⟩, _, _, rfl, rfl, (by show (0 : Int) < 1152921504606846883; decide), ?_⟩
    generalize ho : (b + 1299709 * (c + 1)) ^ (Int.toNat 3) % 1152921504606846883 = one
    have o0 : 0 ≤ one := by rw [← ho]; exact Int.emod_nonneg _ (by decide)
    have o1 : one < 1152921504606846883 := by rw [← ho]; exact Int.emod_lt_of_pos _ (by decide)
    have o2 : 0 ≤ 15485863 * (c + 1) % 9973 := Int.emod_nonneg _ (by decide)
    have o3 : 15485863 * (c + 1) % 9973 < 9973 := Int.emod_lt_of_pos _ (by decide)
    refine ⟨_, rfl, _, rfl, p, _, _, _, rfl, rfl, hL', rfl, _, _, rfl, rfl, .inl ⟨by decide, by decide⟩, _, _, rfl, rfl, (by show (0 : Int) < 9973; decide), _, _, rfl, rfl,
      _, _, rfl, rfl, ⟨by decide, by decide, pow_lt (by omega) (by omega)⟩, _, _, rfl, rfl, (by show (0 : Int) < 2305843009213693921; decide), ?_⟩
    refine ⟨_, rfl, _, _, rfl, rfl, ⟨by decide, by decide⟩, _, rfl, _, _, rfl, rfl, m0, ?_⟩
    exact q _ _ (Int.emod_nonneg _ (by omega)) (Int.emod_lt_of_pos _ m0) ⟨a, b, c + 1, rfl, a0, b0, b1, by omega, by omega⟩
end

end G0
namespace G0
open PySem PySem.Spec PyProof.Rows L2
section
open RZ
variable {P : Program} {w : World} {K : PySem.W.Frag} {mg : Str → Option Value} {base : Heap} {C : Addr}
/-! ### a comprehension over zip -/
theorem lc_zipL {a b : Addr} {xs ys : List V} {g : TG} {tt : TT} {te : TE} {vs : List Nat} {σ : L2.St} {H1 : Hp} {D : Addr} {Qd : Hp → Prop} (hl : xs.length = ys.length) (Pv : Nat → Hp → Prop) (h0 : Pv 0 (upd H1 D (.lst []))) (hq : ∀ i H, Pv i H → SqL K H a xs ∧ SqL K H b ys)
    (hs : ∀ i x y (T : Addr) H, xs[i]? = some x → ys[i]? = some y → Pv i H → H T = none → g (.ref T) (wipe σ vs) (upd H T (.tup [x, y])) fun σ2 H2 => wipe σ2 vs = wipe σ vs ∧ tt σ2 H2 fun b H3 =>
      if b = true then te σ2 H3 fun y H4 => ∃ acc, H4 D = some (.lst acc) ∧ acc.length < sizeLine ∧ Pv (i + 1) (upd H4 D (.lst (acc ++ [y]))) else Pv (i + 1) H3) (hd : ∀ H, Pv xs.length H → Qd H) :
    ∃ W : Nat → Nat → Hp → Prop, (∃ m, W 0 m (upd H1 D (.lst []))) ∧ ∀ i m H, W i m H →
      ((Itz K a b).stop i H ∧ Qd H) ∨ ((Itz K a b).go i H ∧ ∃ Nx : Hp → Prop, (∀ H', Nx H' → ∃ m', m' < m ∧ W (i + 1) m' H') ∧ ∀ x H', (Itz K a b).yld i H x H' → g x (wipe σ vs) H' fun σ2 H2 => wipe σ2 vs = wipe σ vs ∧ tt σ2 H2 fun b H3 =>
        if b = true then te σ2 H3 fun y H4 => ∃ acc, H4 D = some (.lst acc) ∧ acc.length < sizeLine ∧ Nx (upd H4 D (.lst (acc ++ [y]))) else Nx H3) := by
  refine ⟨fun i m H => m = xs.length - i ∧ i ≤ xs.length ∧ Pv i H, ⟨xs.length, by simp, Nat.zero_le _, h0⟩, ?_⟩
  rintro i m H ⟨rfl, hi, p⟩
  obtain ⟨qx, qy⟩ := hq i H p
  by_cases hlt : i < xs.length
  · have hx : xs[i]? = some xs[i] := List.getElem?_eq_getElem hlt
    have hlt2 : i < ys.length := by omega
    have hy : ys[i]? = some ys[i] := List.getElem?_eq_getElem hlt2
    refine .inr ⟨⟨xs, ys, _, _, qx, qy, hx, hy⟩, Pv (i + 1), fun H' p' => ⟨xs.length - (i + 1), by omega, rfl, hlt, p'⟩, fun v H' y => ?_⟩
    obtain ⟨T, x', y', rfl, hT, rfl, f1, f2⟩ := y
    exact hs i x' y' T H (f1 xs qx) (f2 ys qy) p hT
  · have e : i = xs.length := by omega
    subst e
    exact .inl ⟨⟨xs, ys, qx, qy, Or.inl (Nat.le_refl _)⟩, hd H p⟩
theorem lc_zipT {a b : Addr} {xs ys : List V} {g : TG} {tt : TT} {te : TE} {vs : List Nat} {σ : L2.St} {H1 : Hp} {D : Addr} {Qd : Hp → Prop} (hl : xs.length = ys.length) (Pv : Nat → Hp → Prop) (h0 : Pv 0 (upd H1 D (.lst []))) (hq : ∀ i H, Pv i H → SqT K H a xs ∧ SqT K H b ys)
    (hs : ∀ i x y (T : Addr) H, xs[i]? = some x → ys[i]? = some y → Pv i H → H T = none → g (.ref T) (wipe σ vs) (upd H T (.tup [x, y])) fun σ2 H2 => wipe σ2 vs = wipe σ vs ∧ tt σ2 H2 fun b H3 =>
      if b = true then te σ2 H3 fun y H4 => ∃ acc, H4 D = some (.lst acc) ∧ acc.length < sizeLine ∧ Pv (i + 1) (upd H4 D (.lst (acc ++ [y]))) else Pv (i + 1) H3) (hd : ∀ H, Pv xs.length H → Qd H) :
    ∃ W : Nat → Nat → Hp → Prop, (∃ m, W 0 m (upd H1 D (.lst []))) ∧ ∀ i m H, W i m H →
      ((ItzT K a b).stop i H ∧ Qd H) ∨ ((ItzT K a b).go i H ∧ ∃ Nx : Hp → Prop, (∀ H', Nx H' → ∃ m', m' < m ∧ W (i + 1) m' H') ∧ ∀ x H', (ItzT K a b).yld i H x H' → g x (wipe σ vs) H' fun σ2 H2 => wipe σ2 vs = wipe σ vs ∧ tt σ2 H2 fun b H3 =>
        if b = true then te σ2 H3 fun y H4 => ∃ acc, H4 D = some (.lst acc) ∧ acc.length < sizeLine ∧ Nx (upd H4 D (.lst (acc ++ [y]))) else Nx H3) := by
  refine ⟨fun i m H => m = xs.length - i ∧ i ≤ xs.length ∧ Pv i H, ⟨xs.length, by simp, Nat.zero_le _, h0⟩, ?_⟩
  rintro i m H ⟨rfl, hi, p⟩
  obtain ⟨qx, qy⟩ := hq i H p
  by_cases hlt : i < xs.length
  · have hx : xs[i]? = some xs[i] := List.getElem?_eq_getElem hlt
    have hlt2 : i < ys.length := by omega
    have hy : ys[i]? = some ys[i] := List.getElem?_eq_getElem hlt2
    refine .inr ⟨⟨xs, ys, _, _, qx, qy, hx, hy⟩, Pv (i + 1), fun H' p' => ⟨xs.length - (i + 1), by omega, rfl, hlt, p'⟩, fun v H' y => ?_⟩
    obtain ⟨T, x', y', rfl, hT, rfl, f1, f2⟩ := y
    exact hs i x' y' T H (f1 xs qx) (f2 ys qy) p hT
  · have e : i = xs.length := by omega
    subst e
    exact .inl ⟨⟨xs, ys, qx, qy, Or.inl (Nat.le_refl _)⟩, hd H p⟩
/-! ### _law_same of k29 to k36: of the same data it tells True -/
structure BlQ (mg : Str → Option Value) : Prop where
  len : mg "len" = none
  all : mg "all" = none
  zip : mg "zip" = none
  isinstance : mg "isinstance" = none
  list : mg "list" = none
  tuple : mg "tuple" = none
  str : mg "str" = none
  bool : mg "bool" = none
  int : mg "int" = none
inductive Lw : Nat → PyData → Prop
  | non {n : Nat} : Lw n .none
  | bl {n : Nat} (b : Bool) : Lw n (.bool b)
  | int {n : Nat} (i : Int) : Lw n (.int i)
  | str {n : Nat} (z : Str) : Lw n (.str z)
  | tup {n : Nat} {ds : List PyData} : ds.length < 10000 → (∀ d ∈ ds, Lw n d) → Lw (n + 1) (.tuple ds)
  | lst {n : Nat} {ds : List PyData} : ds.length < 10000 → (∀ d ∈ ds, Lw n d) → Lw (n + 1) (.list ds)
def spSm (K : PySem.W.Frag) (n : Nat) : Sp := fun vs H Q _ => ∃ (x y : V) (d : PyData), vs = [x, y] ∧ Lw n d ∧ Dp K H x d ∧ Dp K H y d ∧ ∀ H', Same H H' → Q (.bl true) H'
def spSmP (K : PySem.W.Frag) (n : Nat) : Sp := fun vs H Q E => ∃ m, n = m + 1 ∧ spSm K m vs H Q E
theorem ty_sqt {H : Hp} {a : Addr} {xs : List V} (h : SqT K H a xs) : TyX K H (.ref a) (.type "tuple") := by
  rcases h with (h | ⟨o, h⟩) | ⟨o, its, n, h1, h2, _⟩
  · exact .base (.tup h)
  · exact .fTuple h
  · exact .kTuple h1 h2
theorem dps_at {H : Hp} {vs : List V} {ds : List PyData} (h : DpAll K H vs ds) : ∀ {i : Nat} {v : V}, vs[i]? = some v → ∃ d, ds[i]? = some d ∧ Dp K H v d := by
  match vs, ds, h with
  | [], [], _ => intro i v e; simp at e
  | v :: vs, d :: ds, .cons h1 h2 =>
    intro i v' e
    cases i with
    | zero => exact ⟨d, rfl, by have : v = v' := by simpa using e
                                rw [← this]; exact h1⟩
    | succ i => exact dps_at h2 (by simpa using e)
theorem ty_sql {H : Hp} {a : Addr} {xs : List V} (h : SqL K H a xs) : TyX K H (.ref a) (.type "list") := by
  rcases h with (h | ⟨o, h⟩) | ⟨o, its, n, h1, h2, _⟩
  · exact .base (.lst h)
  · exact .base (.frz h)
  · exact .kList h1 h2
theorem sql_same {H H' : Hp} (c : Same H H') {a : Addr} {xs : List V} (h : SqL K H a xs) : SqL K H' a xs := by
  rcases h with (h | ⟨o, h⟩) | h
  · exact .inl (.inl (c _ _ h))
  · exact .inl (.inr ⟨o, c _ _ h⟩)
  · exact .inr h
theorem kit2 {a b c : String} {r1 r2 : Bool} (h1 : kitB a b = some r1) (h2 : kitB a c = some r2) : PySem.W.kitAny K (.type a) [.type b, .type c] = some (r1 || r2) := by
  refine kitAny_cons (b := r1) (kit_ty h1) (fun e => ?_) (fun e => by rw [e]; rfl)
  subst e
  exact kitAny_cons (b := r2) (kit_ty h2) (fun e => by rw [e]; exact kitAny_nil) (fun e => by rw [e]; rfl)
theorem sc_law_same : FnScope ["found", "due", "one", "other"] ["found", "due"] (defScope s_law_same) :=
  ⟨rfl, rfl, rfl, by decide +kernel, rfl, by decide +kernel, by decide +kernel⟩
theorem sm_step {n j : Nat} (F : Fn K mg "_law_same" s_law_same) (T : BlQ mg) (C_same : Cal P w K mg base "_law_same" j ["found", "due"] (spSmP K n)) :
    Cal P w K mg base "_law_same" (j + 1) ["found", "due"] (spSm K n) := by
  refine cal_of F sc_law_same
    (fun _ _ _ _ _ _ us hl => match us, hl with | [_, _], _ => rfl) ?_ ?_
  · rintro vs H Q E ⟨x, y, d, rfl, _⟩
    rfl
  rintro f cdv A outer s H vs Q E free hr ⟨x, y, d, rfl, lw, hx, hy, q⟩
  refine ⟨_, (pss_cons (ps_if (pt_val (pe_callB call_isiT (by rfl) T.isinstance (by decide +kernel) (pa_cons (pv 1) (pa_cons (pe_tup (pa_cons (pe_bltn (v := .ty "list") (by rfl) T.list (by decide +kernel) rfl) (pa_cons (pe_bltn (v := .ty "tuple") (by rfl) T.tuple (by decide +kernel) rfl) pa_nil))) pa_nil))))
    (pss_cons (ps_if (PW.pt (pw_or (pt_not (pt_val (pe_callB call_isiT (by rfl) T.isinstance (by decide +kernel) (pa_cons (pv 0) (pa_cons (pe_tup (pa_cons (pe_bltn (v := .ty "list") (by rfl) T.list (by decide +kernel) rfl) (pa_cons (pe_bltn (v := .ty "tuple") (by rfl) T.tuple (by decide +kernel) rfl) pa_nil))) pa_nil))))) (pw_or1 (pt_cmpR op_ne (pe_callB call_isi (by rfl) T.isinstance (by decide +kernel) (pa_cons (pv 0) (pa_cons (pe_bltn (v := .ty "list") (by rfl) T.list (by decide +kernel) rfl) pa_nil))) (pe_callB call_isi (by rfl) T.isinstance (by decide +kernel) (pa_cons (pv 1) (pa_cons (pe_bltn (v := .ty "list") (by rfl) T.list (by decide +kernel) rfl) pa_nil))) (nomark _)))))
    (pss_one (ps_ret pe_bl))
    pss_nil)
    (pss_one (ps_ret (pe_and (pe_cmpR op_eq (pe_callB call_len_seq (by rfl) T.len (by decide +kernel) (pa_cons (pv 0) pa_nil)) (pe_callB call_len_seq (by rfl) T.len (by decide +kernel) (pa_cons (pv 1) pa_nil)) (nomark _)) (pe_one (pe_callB (cr_all (by rfl)) (by rfl) T.all (by decide +kernel) (pa_cons (pe_lc (own := [("one", 2), ("other", 3)]) (g := gTup K 2 (gCons (gName 2) (gCons (gName 3) gNil))) (tt := tYes) (by rfl) sc_law_same.nd (pi_zipA (by rfl) T.zip (pa_cons (pv 0) (pa_cons (pv 1) pa_nil))) (blkOk_by (N := ["found", "due", "one", "other"]) (sc := defScope s_law_same) (by decide +kernel)) (fun _ _ _ _ _ => pg_tup (by rfl) (pgs_cons (pg_name (i := 2) sc_law_same.nd rfl (Or.inl rfl)) (pgs_cons (pg_name (i := 3) sc_law_same.nd rfl (Or.inl rfl)) pgs_nil))) (fun _ _ _ _ _ => pts_nil) (fun _ _ _ _ _ => (pe_cal C_same free hr (pa_cons (pv 2) (pa_cons (pv 3) pa_nil))))) pa_nil)))))))
    pss_nil)
    (pss_cons (ps_if (pt_cmpR op_isN (pv 1) pe_non (nomark _))
    (pss_one (ps_ret (pe_cmpR op_isN (pv 0) pe_non (nomark _))))
    pss_nil)
    (pss_cons (ps_if (pt_val (pe_callB call_isiT (by rfl) T.isinstance (by decide +kernel) (pa_cons (pv 1) (pa_cons (pe_tup (pa_cons (pe_bltn (v := .ty "str") (by rfl) T.str (by decide +kernel) rfl) (pa_cons (pe_bltn (v := .ty "bool") (by rfl) T.bool (by decide +kernel) rfl) pa_nil))) pa_nil))))
    (pss_one (ps_ret (pe_and (pe_callB call_isiT (by rfl) T.isinstance (by decide +kernel) (pa_cons (pv 0) (pa_cons (pe_tup (pa_cons (pe_bltn (v := .ty "str") (by rfl) T.str (by decide +kernel) rfl) (pa_cons (pe_bltn (v := .ty "bool") (by rfl) T.bool (by decide +kernel) rfl) pa_nil))) pa_nil))) (pe_and (pe_cmpR op_eq (pe_callB call_isi (by rfl) T.isinstance (by decide +kernel) (pa_cons (pv 0) (pa_cons (pe_bltn (v := .ty "bool") (by rfl) T.bool (by decide +kernel) rfl) pa_nil))) (pe_callB call_isi (by rfl) T.isinstance (by decide +kernel) (pa_cons (pv 1) (pa_cons (pe_bltn (v := .ty "bool") (by rfl) T.bool (by decide +kernel) rfl) pa_nil))) (nomark _)) (pe_one (pe_cmpR op_eq (pv 0) (pv 1) (nomark _)))))))
    pss_nil)
    (pss_one (ps_ret (pe_and (pe_callB call_isi (by rfl) T.isinstance (by decide +kernel) (pa_cons (pv 0) (pa_cons (pe_bltn (v := .ty "int") (by rfl) T.int (by decide +kernel) rfl) pa_nil))) (pe_and (pe_not (pe_callB call_isi (by rfl) T.isinstance (by decide +kernel) (pa_cons (pv 0) (pa_cons (pe_bltn (v := .ty "bool") (by rfl) T.bool (by decide +kernel) rfl) pa_nil)))) (pe_one (pe_cmpR op_eq (pv 0) (pv 1) (nomark _)))))))))), ?_⟩
  cases lw with
  | non =>
    cases hx; cases hy
    refine ⟨_, rfl, by show 2 ≤ sizeLine; decide, fun t1 ht1 => ⟨_, t1, _, _, _, _, rfl, upd_same, .cons (.ty _) (.cons (.ty _) .nil), .base .non, kit2 (r1 := false) (r2 := false) (by decide +kernel) (by decide +kernel), _, rfl, ?_⟩⟩
    refine iteF' rfl ?_
    refine ⟨_, rfl, rfl, _, rfl, iteT' (decide_eq_true rfl) ?_⟩
    refine ⟨_, rfl, rfl, ?_⟩
    rw [decide_eq_true rfl]
    exact q _ (same_upd ht1)
  | bl b =>
    cases hx; cases hy
    refine ⟨_, rfl, by show 2 ≤ sizeLine; decide, fun t1 ht1 => ⟨_, t1, _, _, _, _, rfl, upd_same, .cons (.ty _) (.cons (.ty _) .nil), .base (.bl _), kit2 (r1 := false) (r2 := false) (by decide +kernel) (by decide +kernel), _, rfl, ?_⟩⟩
    refine iteF' rfl ?_
    refine ⟨_, rfl, rfl, _, rfl, iteF' (decide_eq_false (fun e => nomatch e)) ?_⟩
    refine ⟨_, rfl, by show 2 ≤ sizeLine; decide, fun t2 ht2 => ⟨_, t2, _, _, _, _, rfl, upd_same, .cons (.ty _) (.cons (.ty _) .nil), .base (.bl _), kit2 (r1 := false) (r2 := true) (by decide +kernel) (by decide +kernel), _, rfl, ?_⟩⟩
    refine iteT' rfl ?_
    refine ⟨_, rfl, by show 2 ≤ sizeLine; decide, fun t3 ht3 => ⟨_, t3, _, _, _, _, rfl, upd_same, .cons (.ty _) (.cons (.ty _) .nil), .base (.bl _), kit2 (r1 := false) (r2 := true) (by decide +kernel) (by decide +kernel), _, rfl, ?_⟩⟩
    refine iteT' rfl ?_
    refine ⟨_, rfl, _, .ty "bool", _, _, _, rfl, .ty _, .base (.bl _), kit_ty (r := true) (by decide +kernel), _, rfl, _, .ty "bool", _, _, _, rfl, .ty _, .base (.bl _), kit_ty (r := true) (by decide +kernel), rfl, ?_⟩
    refine ⟨_, by rw [decide_eq_true rfl], ?_⟩
    refine iteT ?_
    refine ⟨_, rfl, _, rfl, rfl, ?_⟩
    rw [decide_eq_true rfl]
    exact q _ (((same_upd ht1).trans (same_upd ht2)).trans (same_upd ht3))
  | int i =>
    cases hx; cases hy
    refine ⟨_, rfl, by show 2 ≤ sizeLine; decide, fun t1 ht1 => ⟨_, t1, _, _, _, _, rfl, upd_same, .cons (.ty _) (.cons (.ty _) .nil), .base (.int _), kit2 (r1 := false) (r2 := false) (by decide +kernel) (by decide +kernel), _, rfl, ?_⟩⟩
    refine iteF' rfl ?_
    refine ⟨_, rfl, rfl, _, rfl, iteF' (decide_eq_false (fun e => nomatch e)) ?_⟩
    refine ⟨_, rfl, by show 2 ≤ sizeLine; decide, fun t2 ht2 => ⟨_, t2, _, _, _, _, rfl, upd_same, .cons (.ty _) (.cons (.ty _) .nil), .base (.int _), kit2 (r1 := false) (r2 := false) (by decide +kernel) (by decide +kernel), _, rfl, ?_⟩⟩
    refine iteF' rfl ?_
    refine ⟨_, rfl, _, .ty "int", _, _, _, rfl, .ty _, .base (.int _), kit_ty (r := true) (by decide +kernel), _, rfl, iteT' rfl ?_⟩
    refine ⟨_, rfl, _, .ty "bool", _, _, _, rfl, .ty _, .base (.int _), kit_ty (r := false) (by decide +kernel), _, rfl, _, rfl, iteT' rfl ?_⟩
    refine ⟨_, rfl, _, rfl, rfl, ?_⟩
    rw [decide_eq_true rfl]
    exact q _ ((same_upd ht1).trans (same_upd ht2))
  | str z =>
    cases hx; cases hy
    refine ⟨_, rfl, by show 2 ≤ sizeLine; decide, fun t1 ht1 => ⟨_, t1, _, _, _, _, rfl, upd_same, .cons (.ty _) (.cons (.ty _) .nil), .base (.str _), kit2 (r1 := false) (r2 := false) (by decide +kernel) (by decide +kernel), _, rfl, ?_⟩⟩
    refine iteF' rfl ?_
    refine ⟨_, rfl, rfl, _, rfl, iteF' (decide_eq_false (fun e => nomatch e)) ?_⟩
    refine ⟨_, rfl, by show 2 ≤ sizeLine; decide, fun t2 ht2 => ⟨_, t2, _, _, _, _, rfl, upd_same, .cons (.ty _) (.cons (.ty _) .nil), .base (.str _), kit2 (r1 := true) (r2 := false) (by decide +kernel) (by decide +kernel), _, rfl, ?_⟩⟩
    refine iteT' rfl ?_
    refine ⟨_, rfl, by show 2 ≤ sizeLine; decide, fun t3 ht3 => ⟨_, t3, _, _, _, _, rfl, upd_same, .cons (.ty _) (.cons (.ty _) .nil), .base (.str _), kit2 (r1 := true) (r2 := false) (by decide +kernel) (by decide +kernel), _, rfl, ?_⟩⟩
    refine iteT' rfl ?_
    refine ⟨_, rfl, _, .ty "bool", _, _, _, rfl, .ty _, .base (.str _), kit_ty (r := false) (by decide +kernel), _, rfl, _, .ty "bool", _, _, _, rfl, .ty _, .base (.str _), kit_ty (r := false) (by decide +kernel), rfl, ?_⟩
    refine ⟨_, by rw [decide_eq_true rfl], ?_⟩
    refine iteT ?_
    refine ⟨_, rfl, _, rfl, rfl, ?_⟩
    rw [decide_eq_true rfl]
    exact q _ (((same_upd ht1).trans (same_upd ht2)).trans (same_upd ht3))
  | tup hl hd =>
    cases hx with
    | tup qx hxs =>
    cases hy with
    | tup qy hys =>
    rename_i ds a xs b ys
    refine ⟨_, rfl, by show 2 ≤ sizeLine; decide, fun t1 ht1 => ⟨_, t1, _, _, _, _, rfl, upd_same, .cons (.ty _) (.cons (.ty _) .nil), (ty_sqt (sqt_same (same_upd ht1) qy)), kit2 (r1 := false) (r2 := true) (by decide +kernel) (by decide +kernel), _, rfl, ?_⟩⟩
    refine iteT' rfl ?_
    have lx : xs.length = ds.length := dps_len hxs
    have ly : ys.length = ds.length := dps_len hys
    have e1 : Same H (upd H t1 (.tup [.ty "list", .ty "tuple"])) := same_upd ht1
    refine ⟨_, rfl, by show 2 ≤ sizeLine; decide, fun t2 ht2 => ⟨_, t2, _, _, _, _, rfl, upd_same, .cons (.ty _) (.cons (.ty _) .nil), (ty_sqt (sqt_same (e1.trans (same_upd ht2)) qx)), kit2 (r1 := false) (r2 := true) (by decide +kernel) (by decide +kernel), _, rfl, ?_⟩⟩
    have e2 : Same H (upd (upd H t1 (.tup [.ty "list", .ty "tuple"])) t2 (.tup [.ty "list", .ty "tuple"])) := e1.trans (same_upd ht2)
    refine iteF' rfl ?_
    refine ⟨_, rfl, _, .ty "list", _, _, _, rfl, .ty _, ty_sqt (sqt_same e2 qx), kit_ty (r := false) (by decide +kernel), _, rfl, _, .ty "list", _, _, _, rfl, .ty _, ty_sqt (sqt_same e2 qy), kit_ty (r := false) (by decide +kernel), rfl, ?_⟩
    refine ⟨_, by rw [decide_eq_true rfl], ?_⟩
    refine iteF' rfl ?_
    refine ⟨_, rfl, a, xs, rfl, .inr (sqt_same e2 qx), _, rfl, b, ys, rfl, .inr (sqt_same e2 qy), rfl, ?_⟩
    refine ⟨_, by rw [lx, ly, decide_eq_true rfl], ?_⟩
    refine iteT ?_
    refine ⟨_, rfl, _, rfl, a, b, xs, ys, rfl, .inr ⟨sqt_same e2 qx, sqt_same e2 qy, fun D hD => ?_⟩⟩
    refine lc_zipT (K := K) (a := a) (b := b) (xs := xs) (ys := ys) (by omega) (fun i G => Same (upd (upd H t1 (.tup [.ty "list", .ty "tuple"])) t2 (.tup [.ty "list", .ty "tuple"])) G ∧ G D = some (.lst ((List.replicate i true).map V.bl))) ⟨same_upd hD, upd_same⟩ (fun i G p => ⟨sqt_same (e2.trans p.1) qx, sqt_same (e2.trans p.1) qy⟩) ?_ ?_
    · rintro i x y T G hx hy ⟨sG, hG⟩ hT
      obtain ⟨d1, d1e, dx⟩ := dps_at hxs hx
      obtain ⟨d2, d2e, dy⟩ := dps_at hys hy
      rw [d1e] at d2e
      cases d2e
      have ii : i < ds.length := (List.getElem?_eq_some_iff.mp d1e).1
      have s1 : Same H (upd G T (.tup [x, y])) := (e2.trans sG).trans (same_upd hT)
      refine ⟨T, [x, y], rfl, SqT.of upd_same, rfl, x, [y], rfl, y, [], rfl, rfl, rfl, lc_yes ?_⟩
      refine ⟨_, rfl, _, rfl, _, rfl, x, y, d1, rfl, hd _ (List.mem_of_getElem? d1e), dp_same s1 _ _ dx, dp_same s1 _ _ dy, fun G2 s2 => ?_⟩
      have hG2 := s2 _ _ (same_upd hT _ _ hG)
      refine ⟨_, hG2, ?_, fun c o e => ?_, ?_⟩
      · rw [List.length_map, List.length_replicate]
        exact Nat.lt_of_lt_of_le (show i < 10000 by omega) (by decide)
      · rw [upd_ne (ne_of_none e hD)]
        exact s2 _ _ (same_upd hT _ _ (sG _ _ e))
      · rw [List.replicate_succ', List.map_append]
        exact upd_same
    · rintro G ⟨sG, hG⟩
      refine ⟨D, _, rfl, SqL.of hG, ?_⟩
      rw [show (List.replicate xs.length true).all id = true by rw [List.all_replicate]; simp]
      exact q _ (e2.trans sG)
  | lst hl hd =>
    cases hx with
    | lst qx hxs =>
    cases hy with
    | lst qy hys =>
    rename_i ds a xs b ys
    refine ⟨_, rfl, by show 2 ≤ sizeLine; decide, fun t1 ht1 => ⟨_, t1, _, _, _, _, rfl, upd_same, .cons (.ty _) (.cons (.ty _) .nil), (ty_sql (sql_same (same_upd ht1) qy)), kit2 (r1 := true) (r2 := false) (by decide +kernel) (by decide +kernel), _, rfl, ?_⟩⟩
    refine iteT' rfl ?_
    have lx : xs.length = ds.length := dps_len hxs
    have ly : ys.length = ds.length := dps_len hys
    have e1 : Same H (upd H t1 (.tup [.ty "list", .ty "tuple"])) := same_upd ht1
    refine ⟨_, rfl, by show 2 ≤ sizeLine; decide, fun t2 ht2 => ⟨_, t2, _, _, _, _, rfl, upd_same, .cons (.ty _) (.cons (.ty _) .nil), (ty_sql (sql_same (e1.trans (same_upd ht2)) qx)), kit2 (r1 := true) (r2 := false) (by decide +kernel) (by decide +kernel), _, rfl, ?_⟩⟩
    have e2 : Same H (upd (upd H t1 (.tup [.ty "list", .ty "tuple"])) t2 (.tup [.ty "list", .ty "tuple"])) := e1.trans (same_upd ht2)
    refine iteF' rfl ?_
    refine ⟨_, rfl, _, .ty "list", _, _, _, rfl, .ty _, ty_sql (sql_same e2 qx), kit_ty (r := true) (by decide +kernel), _, rfl, _, .ty "list", _, _, _, rfl, .ty _, ty_sql (sql_same e2 qy), kit_ty (r := true) (by decide +kernel), rfl, ?_⟩
    refine ⟨_, by rw [decide_eq_true rfl], ?_⟩
    refine iteF' rfl ?_
    refine ⟨_, rfl, a, xs, rfl, .inl (sql_same e2 qx), _, rfl, b, ys, rfl, .inl (sql_same e2 qy), rfl, ?_⟩
    refine ⟨_, by rw [lx, ly, decide_eq_true rfl], ?_⟩
    refine iteT ?_
    refine ⟨_, rfl, _, rfl, a, b, xs, ys, rfl, .inl ⟨sql_same e2 qx, sql_same e2 qy, fun D hD => ?_⟩⟩
    refine lc_zipL (K := K) (a := a) (b := b) (xs := xs) (ys := ys) (by omega) (fun i G => Same (upd (upd H t1 (.tup [.ty "list", .ty "tuple"])) t2 (.tup [.ty "list", .ty "tuple"])) G ∧ G D = some (.lst ((List.replicate i true).map V.bl))) ⟨same_upd hD, upd_same⟩ (fun i G p => ⟨sql_same (e2.trans p.1) qx, sql_same (e2.trans p.1) qy⟩) ?_ ?_
    · rintro i x y T G hx hy ⟨sG, hG⟩ hT
      obtain ⟨d1, d1e, dx⟩ := dps_at hxs hx
      obtain ⟨d2, d2e, dy⟩ := dps_at hys hy
      rw [d1e] at d2e
      cases d2e
      have ii : i < ds.length := (List.getElem?_eq_some_iff.mp d1e).1
      have s1 : Same H (upd G T (.tup [x, y])) := (e2.trans sG).trans (same_upd hT)
      refine ⟨T, [x, y], rfl, SqT.of upd_same, rfl, x, [y], rfl, y, [], rfl, rfl, rfl, lc_yes ?_⟩
      refine ⟨_, rfl, _, rfl, _, rfl, x, y, d1, rfl, hd _ (List.mem_of_getElem? d1e), dp_same s1 _ _ dx, dp_same s1 _ _ dy, fun G2 s2 => ?_⟩
      have hG2 := s2 _ _ (same_upd hT _ _ hG)
      refine ⟨_, hG2, ?_, fun c o e => ?_, ?_⟩
      · rw [List.length_map, List.length_replicate]
        exact Nat.lt_of_lt_of_le (show i < 10000 by omega) (by decide)
      · rw [upd_ne (ne_of_none e hD)]
        exact s2 _ _ (same_upd hT _ _ (sG _ _ e))
      · rw [List.replicate_succ', List.map_append]
        exact upd_same
    · rintro G ⟨sG, hG⟩
      refine ⟨D, _, rfl, SqL.of hG, ?_⟩
      rw [show (List.replicate xs.length true).all id = true by rw [List.all_replicate]; simp]
      exact q _ (e2.trans sG)
theorem ok_sms (F : Fn K mg "_law_same" s_law_same) (T : BlQ mg) : ∀ n, Cal P w K mg base "_law_same" (n + 1) ["found", "due"] (spSm K n)
  | 0 => sm_step F T ((cal_no (P := P) (w := w) (base := base) F (ps := ["found", "due"]) (fun _ _ _ _ _ _ us hl => match us, hl with | [_, _], _ => rfl) ).imp (fun _ _ _ _ ⟨m, e, _⟩ => absurd e (Nat.succ_ne_zero m).symm))
  | n + 1 => sm_step F T ((ok_sms F T n).imp (fun vs H Q E ⟨m, e, h⟩ => by
      have e' : n = m := by omega
      rw [e']
      exact h))
end

end G0
namespace G0
open PySem PySem.Spec PyProof.Rows L2
section
variable {P : Program} {w : World} {K : PySem.W.Frag} {mg : Str → Option Value} {base : Heap} {C : Addr}
/-! ### _law_stands -/
structure BlR (mg : Str → Option Value) : Prop where
  range : mg "range" = none
  sorted : mg "sorted" = none
  max : mg "max" = none
  min : mg "min" = none
  int : mg "int" = none
theorem ints_sorted_eq {us vs : List Int} (p : us.Perm vs) (h1 : us.Pairwise (· ≤ ·)) (h2 : vs.Pairwise (· ≤ ·)) : us = vs :=
  p.eq_of_pairwise (fun _ _ _ _ a b => Int.le_antisymm a b) h1 h2
/-- what the law holds against a stamper -/
structure Due (K : PySem.W.Frag) (H : Hp) (du : Addr) (me : Int) (st : Str) (cnt : Int) (stp : V) (ds : PyData) (d4 d5 d6 : Addr) (ws hs us : List Int) : Prop where
  hd : H du = some (.lst [.int me, .str st, .int cnt, stp, .ref d4, .ref d5, .ref d6])
  h4 : H d4 = some (.lst (ws.map V.int))
  h5 : H d5 = some (.lst (hs.map V.int))
  h6 : H d6 = some (.lst (us.map V.int))
  hs_ : Dp K H stp ds
theorem Due.dp {H : Hp} {du : Addr} {me : Int} {st : Str} {cnt : Int} {stp : V} {ds : PyData} {d4 d5 d6 : Addr} {ws hs us : List Int} (D : Due K H du me st cnt stp ds d4 d5 d6 ws hs us) :
    Dp K H (.ref du) (.list [.int me, .str st, .int cnt, ds, .list (ws.map .int), .list (hs.map .int), .list (us.map .int)]) :=
  .lst (SqL.of D.hd) (.cons (.int _) (.cons (.str _) (.cons (.int _) (.cons D.hs_ (.cons (.lst (SqL.of D.h4) (dps_ints _)) (.cons (.lst (SqL.of D.h5) (dps_ints _)) (.cons (.lst (SqL.of D.h6) (dps_ints _)) .nil)))))))
theorem Due.same {H H' : Hp} {du : Addr} {me : Int} {st : Str} {cnt : Int} {stp : V} {ds : PyData} {d4 d5 d6 : Addr} {ws hs us : List Int} (D : Due K H du me st cnt stp ds d4 d5 d6 ws hs us) (s : Same H H') : Due K H' du me st cnt stp ds d4 d5 d6 ws hs us :=
  ⟨s _ _ D.hd, s _ _ D.h4, s _ _ D.h5, s _ _ D.h6, dp_same s _ _ D.hs_⟩
/-- a stamp: none, or a pair of numbers -/
inductive StampD : PyData → Prop
  | non : StampD .none
  | two (c m : Int) : StampD (.tuple [.int c, .int m])
theorem lw_ints (n : Nat) (xs : List Int) (h : xs.length < 10000) : Lw (n + 1) (.list (xs.map .int)) :=
  .lst (by rw [List.length_map]; exact h) fun d hd => by
    obtain ⟨i, _, rfl⟩ := List.mem_map.mp hd
    exact .int i
theorem lw_due {me : Int} {st : Str} {cnt : Int} {ds : PyData} {ws hs us : List Int} (s : StampD ds) (h1 : ws.length < 10000) (h2 : hs.length < 10000) (h3 : us.length < 10000) :
    Lw 2 (.list [.int me, .str st, .int cnt, ds, .list (ws.map .int), .list (hs.map .int), .list (us.map .int)]) := by
  refine .lst (by show 7 < 10000; decide) fun d hd => ?_
  simp only [List.mem_cons, List.not_mem_nil, or_false] at hd
  rcases hd with rfl | rfl | rfl | rfl | rfl | rfl | rfl
  · exact .int _
  · exact .str _
  · exact .int _
  · cases s with
    | non => exact .non
    | two c m =>
      refine .tup (by show 2 < 10000; decide) fun d hd => ?_
      simp only [List.mem_cons, List.not_mem_nil, or_false] at hd
      rcases hd with rfl | rfl
      · exact .int _
      · exact .int _
  · exact lw_ints _ _ h1
  · exact lw_ints _ _ h2
  · exact lw_ints _ _ h3
def spStands (K : PySem.W.Frag) (C : Addr) : Sp := fun vs H Q _ => ∃ (p dx du : Addr) (me : Int) (st : Str) (si : Bool) (cnt : Int) (stp stq : V) (ds : PyData) (n : Int) (aw hl tg d4 d5 d6 : Addr) (ws hs ts us : List Int), vs = [.ref p, .ref du] ∧
  Stm H C p dx me st si cnt stp n aw hl tg ws hs ts ∧ Dp K H stp ds ∧ StampD ds ∧ Due K H du me st cnt stq ds d4 d5 d6 ws hs us ∧ us.Perm ts ∧ us.Pairwise (· ≤ ·) ∧ ws.length < 64 ∧ hs.length < 64 ∧ ts.length < 64 ∧
  ∀ H', Same H H' → Q (.bl true) H'
theorem sc_law_stands : FnScope ["machine", "due", "turn", "told", "some"] ["machine", "due"] (defScope s_law_stands) :=
  ⟨rfl, rfl, rfl, by decide +kernel, rfl, by decide +kernel, by decide +kernel⟩
theorem ok_stands (F : Fn K mg "_law_stands" s_law_stands) (T : BlR mg) (S : StT K C) (C_same : Cal P w K mg base "_law_same" 3 ["found", "due"] (spSm K 2))
    (MA : Me P w K mg base C "awaits" 1 ["self"] (spTells C 0)) (MH : Me P w K mg base C "holds" 1 ["self"] (spTells C 1)) (MT : Me P w K mg base C "told_gone" 1 ["self"] (spToldGone C)) :
    Cal P w K mg base "_law_stands" 4 ["machine", "due"] (spStands K C) := by
  obtain ⟨fA, fdA, GA, bA, mA⟩ := MA
  obtain ⟨fH, fdH, GH, bH, mH⟩ := MH
  obtain ⟨fT, fdT, GT, bT, mT⟩ := MT
  refine cal_of F sc_law_stands
    (fun _ _ _ _ _ _ us hl => match us, hl with | [_, _], _ => rfl) ?_ ?_
  · rintro vs H Q E ⟨p, dx, du, _, _, _, _, _, _, _, _, _, _, _, _, _, _, _, _, _, _, rfl, _⟩
    rfl
  rintro f cdv A outer s H vs Q E free hr ⟨p, dx, du, me, st, si, cnt, stp, stq, ds, n, aw, hl, tg, d4, d5, d6, ws, hs, ts, us, rfl, M, hsp, hsd, D, per, srt, lw, lh, lt, q⟩
  have hr1 : Room 1 _ := hr.mono (by decide)
  refine ⟨_, (pss_cons (ps_for PassesOwn.never rfl (pi_range1 (by rfl) T.range (pa_cons pe_int pa_nil)) (pg_name (i := 2) sc_law_stands.nd rfl (Or.inl rfl))
    (pss_cons (ps_set (i := 3) sc_law_stands.nd rfl (Or.inl rfl) (pe_lst (pa_cons (pe_meth0 (pv 0) S.cl mA GA hr1 bA .nil pass0) (pa_cons (pe_meth0 (pv 0) S.cl mH GH hr1 bH .nil pass0) (pa_cons (pe_meth0 (pv 0) S.cl mT GT hr1 bT .nil pass0) pa_nil)))))
    (pss_cons (ps_if (pt_not (pt_val (pe_cal C_same free (hr.mono (by decide)) (pa_cons (pe_op op_cat (pe_lst (pa_cons (pe_fld (pv 0) (by rfl)) (pa_cons (pe_fld (pv 0) (by rfl)) (pa_cons (pe_fld (pv 0) (by rfl)) (pa_cons (pe_fld (pv 0) (by rfl)) pa_nil))))) (pv 3)) (pa_cons (pv 1) pa_nil)))))
    (pss_one (ps_ret pe_bl))
    pss_nil)
    (pss_one (ps_for PassesOwn.never rfl (pi_list (pv 3)) (pg_name (i := 4) sc_law_stands.nd rfl (Or.inl rfl))
    (pss_one (ps_expr (pe_bm PySem.F.plainAttrs_list PySem.F.slot_list_append PySem.F.type_list_append mt_append (pv 4) (pa_cons pe_int pa_nil)))))))))
    (pss_one (ps_ret pe_bl))), ?_⟩
  refine ⟨2, rfl, by decide, by decide, ?_⟩
  refine for_range (lo := 0) (n := 2) (fun _ σ G => (∃ z1 z2 z3 : Option V, σ = [some (V.ref p), some (V.ref du), z1, z2, z3]) ∧ Same H G) ⟨⟨_, _, _, rfl⟩, Same.refl H⟩ ?_ ?_
  · rintro i σ G hi ⟨⟨z1, z2, z3, rfl⟩, sG⟩
    have M1 := M.same sG
    refine ⟨_, rfl, p, dx, _, rfl, M1.hp, (stF_no _ _ _ _ _ _ _ _ _ (by decide +kernel) (by decide +kernel) (by decide +kernel) (by decide +kernel) (by decide +kernel) (by decide +kernel) (by decide +kernel) (by decide +kernel) (by decide +kernel) ), p, dx, me, st, si, cnt, stp, n, aw, hl, tg, ws, hs, ts, rfl, M1, fun a1 h1 => ?_⟩
    have s1 := sG.trans (same_upd (o := .lst (ws.map V.int)) h1)
    have M2 := M.same s1
    refine ⟨_, rfl, p, dx, _, rfl, M2.hp, (stF_no _ _ _ _ _ _ _ _ _ (by decide +kernel) (by decide +kernel) (by decide +kernel) (by decide +kernel) (by decide +kernel) (by decide +kernel) (by decide +kernel) (by decide +kernel) (by decide +kernel) ), p, dx, me, st, si, cnt, stp, n, aw, hl, tg, ws, hs, ts, rfl, M2, fun a2 h2 => ?_⟩
    have s2 := s1.trans (same_upd (o := .lst (hs.map V.int)) h2)
    have M3 := M.same s2
    refine ⟨_, rfl, p, dx, _, rfl, M3.hp, (stF_no _ _ _ _ _ _ _ _ _ (by decide +kernel) (by decide +kernel) (by decide +kernel) (by decide +kernel) (by decide +kernel) (by decide +kernel) (by decide +kernel) (by decide +kernel) (by decide +kernel) ), p, dx, me, st, si, cnt, stp, n, aw, hl, tg, ws, hs, ts, rfl, M3, lt, fun us' a3 p1 p2 h3 => ?_⟩
    have eus : us' = us := ints_sorted_eq (p1.trans per.symm) p2 srt
    subst eus
    have s3 := s2.trans (same_upd (o := .lst (us'.map V.int)) h3)
    refine ⟨by show 3 ≤ sizeLine; decide, fun tl htl => ?_⟩
    have s4 := s3.trans (same_upd (o := .lst [.ref a1, .ref a2, .ref a3]) htl)
    have M4 := M.same s4
    refine ⟨_, rfl, p, C, dx, _, _, rfl, M4.hp, S.cl, S.me, stF_me _ _ _ _ _ _ _ _ _, ?_⟩
    refine ⟨_, rfl, p, C, dx, _, _, rfl, M4.hp, S.cl, S.state, stF_stt _ _ _ _ _ _ _ _ _, ?_⟩
    refine ⟨_, rfl, p, C, dx, _, _, rfl, M4.hp, S.cl, S.count, stF_cnt _ _ _ _ _ _ _ _ _, ?_⟩
    refine ⟨_, rfl, p, C, dx, _, _, rfl, M4.hp, S.cl, S.stamp, stF_stp _ _ _ _ _ _ _ _ _, ?_⟩
    refine ⟨by show 4 ≤ sizeLine; decide, fun l4 hl4 => ?_⟩
    have s5 := s4.trans (same_upd (o := .lst [.int me, .str st, .int cnt, stp]) hl4)
    refine ⟨_, rfl, l4, tl, _, _, rfl, rfl, upd_same, same_upd hl4 _ _ upd_same, by show 7 ≤ sizeLine; decide, fun fo hfo => ?_⟩
    have s6 := s5.trans (same_upd (o := .lst [.int me, .str st, .int cnt, stp, .ref a1, .ref a2, .ref a3]) hfo)
    have lu : us'.length < 64 := by rw [p1.length_eq]; exact lt
    refine ⟨_, rfl, _, _, _, rfl, lw_due (st := st) (me := me) (cnt := cnt) hsd (show ws.length < 10000 by omega) (show hs.length < 10000 by omega) (show us'.length < 10000 by omega),
      .lst (SqL.of upd_same) (.cons (.int _) (.cons (.str _) (.cons (.int _) (.cons (dp_same s6 _ _ hsp)
        (.cons (.lst (SqL.of (same_upd hfo _ _ (same_upd hl4 _ _ (same_upd htl _ _ (same_upd h3 _ _ (same_upd h2 _ _ upd_same)))))) (dps_ints ws))
        (.cons (.lst (SqL.of (same_upd hfo _ _ (same_upd hl4 _ _ (same_upd htl _ _ (same_upd h3 _ _ upd_same))))) (dps_ints hs))
        (.cons (.lst (SqL.of (same_upd hfo _ _ (same_upd hl4 _ _ (same_upd htl _ _ upd_same)))) (dps_ints us')) .nil))))))), (D.same s6).dp, fun G7 s7 => ?_⟩
    refine ⟨_, rfl, iteF' rfl ?_⟩
    have k1 : G7 a1 = some (.lst (ws.map V.int)) := s7 _ _ (same_upd hfo _ _ (same_upd hl4 _ _ (same_upd htl _ _ (same_upd h3 _ _ (same_upd h2 _ _ upd_same)))))
    have k2 : G7 a2 = some (.lst (hs.map V.int)) := s7 _ _ (same_upd hfo _ _ (same_upd hl4 _ _ (same_upd htl _ _ (same_upd h3 _ _ upd_same))))
    have k3 : G7 a3 = some (.lst (us'.map V.int)) := s7 _ _ (same_upd hfo _ _ (same_upd hl4 _ _ (same_upd htl _ _ upd_same)))
    have kt : G7 tl = some (.lst [.ref a1, .ref a2, .ref a3]) := s7 _ _ (same_upd hfo _ _ (same_upd hl4 _ _ upd_same))
    have s8 : Same H G7 := s6.trans s7
    have n1 : ∀ b o, H b = some o → b ≠ a1 := fun b o e => ne_of_none (sG _ _ e) h1
    have n2 : ∀ b o, H b = some o → b ≠ a2 := fun b o e => ne_of_none (s1 _ _ e) h2
    have n3 : ∀ b o, H b = some o → b ≠ a3 := fun b o e => ne_of_none (s2 _ _ e) h3
    have d12 : a1 ≠ a2 := ne_of_none upd_same h2
    have d13 : a1 ≠ a3 := ne_of_none (same_upd h2 _ _ upd_same) h3
    have d23 : a2 ≠ a3 := ne_of_none upd_same h3
    have d1t : a1 ≠ tl := ne_of_none (same_upd h3 _ _ (same_upd h2 _ _ upd_same)) htl
    have d2t : a2 ≠ tl := ne_of_none (same_upd h3 _ _ upd_same) htl
    have d3t : a3 ≠ tl := ne_of_none upd_same htl
    refine ⟨_, rfl, tl, rfl, ⟨_, SqL.of kt⟩, ?_⟩
    refine for_list (K := K) (a := tl) (xs := [.ref a1, .ref a2, .ref a3]) (fun j σ G => (∃ z : Option V, σ = [some (V.ref p), some (V.ref du), some (V.int (0 + (i : Int))), some (V.ref tl), z]) ∧ Same H G ∧ G tl = some (.lst [.ref a1, .ref a2, .ref a3]) ∧
        ∃ x1 x2 x3, G a1 = some (.lst x1) ∧ G a2 = some (.lst x2) ∧ G a3 = some (.lst x3) ∧ x1.length < 64 + j ∧ x2.length < 64 + j ∧ x3.length < 64 + j)
      ⟨⟨_, rfl⟩, s8, kt, _, _, _, k1, k2, k3, by rw [List.length_map]; exact lw, by rw [List.length_map]; exact lh, by rw [List.length_map]; exact lu⟩ (fun _ _ _ _ h => SqL.of h.2.2.1) ?_ ?_
    · rintro j x σ G8 hj ⟨⟨z, rfl⟩, s9, kt9, x1, x2, x3, g1, g2, g3, l1, l2, l3⟩
      match j, hj with
      | 0, hj =>
        cases (show V.ref a1 = x by simpa using hj)
        refine ⟨_, rfl, .inl ⟨rfl, _, SqL.of g1⟩, a1, _, _, rfl, rfl, g1, Nat.lt_of_lt_of_le (show x1.length < 100 by omega) (by decide), ?_⟩
        refine ⟨⟨_, rfl⟩, fun b o e => by rw [upd_ne (n1 b o e)]; exact s9 _ _ e, by rw [upd_ne (d1t).symm]; exact kt9, ?_⟩
        exact ⟨_, _, _, upd_same, by rw [upd_ne d12.symm]; exact g2, by rw [upd_ne d13.symm]; exact g3, by rw [List.length_append]; show x1.length + 1 < _; omega, by omega, by omega⟩
      | 1, hj =>
        cases (show V.ref a2 = x by simpa using hj)
        refine ⟨_, rfl, .inl ⟨rfl, _, SqL.of g2⟩, a2, _, _, rfl, rfl, g2, Nat.lt_of_lt_of_le (show x2.length < 100 by omega) (by decide), ?_⟩
        refine ⟨⟨_, rfl⟩, fun b o e => by rw [upd_ne (n2 b o e)]; exact s9 _ _ e, by rw [upd_ne (d2t).symm]; exact kt9, ?_⟩
        exact ⟨_, _, _, by rw [upd_ne d12]; exact g1, upd_same, by rw [upd_ne d23.symm]; exact g3, by omega, by rw [List.length_append]; show x2.length + 1 < _; omega, by omega⟩
      | 2, hj =>
        cases (show V.ref a3 = x by simpa using hj)
        refine ⟨_, rfl, .inl ⟨rfl, _, SqL.of g3⟩, a3, _, _, rfl, rfl, g3, Nat.lt_of_lt_of_le (show x3.length < 100 by omega) (by decide), ?_⟩
        refine ⟨⟨_, rfl⟩, fun b o e => by rw [upd_ne (n3 b o e)]; exact s9 _ _ e, by rw [upd_ne (d3t).symm]; exact kt9, ?_⟩
        exact ⟨_, _, _, by rw [upd_ne d13]; exact g1, by rw [upd_ne d23]; exact g2, upd_same, by omega, by omega, by rw [List.length_append]; show x3.length + 1 < _; omega⟩
      | j + 3, hj => simp at hj
    · rintro σ G8 ⟨⟨z, rfl⟩, s9, _⟩
      exact ⟨⟨_, _, _, rfl⟩, s9⟩
  · rintro σ G ⟨⟨z1, z2, z3, rfl⟩, sG⟩
    exact q _ sG
end

end G0
namespace G0
open PySem PySem.Spec PyProof.Rows L2
section
variable {P : Program} {w : World} {K : PySem.W.Frag} {mg : Str → Option Value} {base : Heap} {C : Addr}
/-! ### a stamper and what the law holds against it, together -/
structure SV where
  me : Int
  st : Str
  cnt : Int
  ds : PyData
  n : Int
  ws : List Int
  hs : List Int
  ts : List Int
  us : List Int
structure SA where
  dx : Addr
  si : Bool
  stp : V
  stq : V
  aw : Addr
  hl : Addr
  tg : Addr
  d4 : Addr
  d5 : Addr
  d6 : Addr
structure SW (K : PySem.W.Frag) (H : Hp) (C p du : Addr) (v : SV) (a : SA) : Prop where
  m : Stm H C p a.dx v.me v.st a.si v.cnt a.stp v.n a.aw a.hl a.tg v.ws v.hs v.ts
  d : Due K H du v.me v.st v.cnt a.stq v.ds a.d4 a.d5 a.d6 v.ws v.hs v.us
  sp : Dp K H a.stp v.ds
  sd : StampD v.ds
  per : v.us.Perm v.ts
  srt : v.us.Pairwise (· ≤ ·)
  lw : v.ws.length < 64
  lh : v.hs.length < 64
  lt : v.ts.length < 64
  h_du : a.hl ≠ du
  h_4 : a.hl ≠ a.d4
  h_5 : a.hl ≠ a.d5
  h_6 : a.hl ≠ a.d6
  t_du : a.tg ≠ du
  t_4 : a.tg ≠ a.d4
  t_5 : a.tg ≠ a.d5
  t_6 : a.tg ≠ a.d6
  u_aw : du ≠ a.aw
  u_4 : du ≠ a.d4
  u_5 : du ≠ a.d5
  u_6 : du ≠ a.d6
theorem SW.same {H H' : Hp} {p du : Addr} {v : SV} {a : SA} (W : SW K H C p du v a) (s : Same H H') : SW K H' C p du v a :=
  { W with m := W.m.same s, d := W.d.same s, sp := dp_same s _ _ W.sp }
/-- the machine stands as it should -/
theorem SW.stands {H : Hp} {p du : Addr} {v : SV} {a : SA} {Q : VK} {E : XK} (W : SW K H C p du v a) (q : ∀ H', Same H H' → Q (.bl true) H') : spStands K C [.ref p, .ref du] H Q E :=
  ⟨p, a.dx, du, v.me, v.st, a.si, v.cnt, a.stp, a.stq, v.ds, v.n, a.aw, a.hl, a.tg, a.d4, a.d5, a.d6, v.ws, v.hs, v.ts, v.us, rfl, W.m, W.sp, W.sd, W.d, W.per, W.srt, W.lw, W.lh, W.lt, q⟩
theorem stamp_two {H : Hp} {x : V} {c m : Int} (h : Dp K H x (.tuple [.int c, .int m])) : ∃ sa, x = .ref sa ∧ SqT K H sa ([c, m].map V.int) := by
  cases h with
  | tup hq ha =>
    cases ha with
    | cons h1 h2 =>
      cases h1
      cases h2 with
      | cons h3 h4 =>
        cases h3
        cases h4
        exact ⟨_, rfl, hq⟩
/-! ### _law_asked -/
def askedV (v : SV) (sn : List Int) (k c : Int) : SV := { v with cnt := maxI v.cnt c, hs := if holdB v.st sn c k = true then v.hs ++ [k] else v.hs }
theorem sqt_S {S : List Addr} {H H' : Hp} (hS : ∀ b ∈ S, (∃ xs, H b = some (.lst xs)) ∨ ∃ C dx fs, H b = some (.ins C dx fs)) (c : ChgS S H H') {a : Addr} {xs : List V} (h : SqT K H a xs) : SqT K H' a xs := by
  rcases h with (h | ⟨o, h⟩) | h
  · refine .inl (.inl (c _ _ (fun m => ?_) h))
    rcases hS _ m with ⟨_, e⟩ | ⟨_, _, _, e⟩
    · rw [h] at e; cases e
    · rw [h] at e; cases e
  · refine .inl (.inr ⟨o, c _ _ (fun m => ?_) h⟩)
    rcases hS _ m with ⟨_, e⟩ | ⟨_, _, _, e⟩
    · rw [h] at e; cases e
    · rw [h] at e; cases e
  · exact .inr h
theorem dp_stamp {H H' : Hp} {x : V} {ds : PyData} (sd : StampD ds) (st : ∀ a xs, SqT K H a xs → SqT K H' a xs) (h : Dp K H x ds) : Dp K H' x ds := by
  cases sd with
  | non => cases h; exact .non
  | two c m =>
    obtain ⟨sa, rfl, q⟩ := stamp_two h
    exact .tup (st _ _ q) (.cons (.int _) (.cons (.int _) .nil))
theorem SW.np {H : Hp} {p du : Addr} {v : SV} {a : SA} (W : SW K H C p du v a) {b : Addr} {xs : List V} (h : H b = some (.lst xs)) : b ≠ p := ne_of h W.m.hp (by intro z; cases z)
theorem SW.asked {H H' : Hp} {p du o : Addr} {v : SV} {a : SA} {cnt' : Int} {hs' : List Int} {d5' : Addr} {xo : List V} (W : SW K H C p du v a) (ho : H o = some (.lst xo)) (c : ChgS [p, a.hl, du, o] H H') (o2 : o ≠ a.aw) (o4 : o ≠ a.tg) (o5 : o ≠ a.d4) (o7 : o ≠ a.d6)
    (h1 : H' p = some (.ins C a.dx (stF v.me v.st a.si cnt' a.stp v.n a.aw a.hl a.tg))) (h2 : H' a.hl = some (.lst (hs'.map V.int))) (h3 : H' du = some (.lst [.int v.me, .str v.st, .int cnt', a.stq, .ref a.d4, .ref d5', .ref a.d6])) (h4 : H' d5' = some (.lst (hs'.map V.int)))
    (lh : hs'.length < 64) (e1 : a.hl ≠ d5') (e2 : a.tg ≠ d5') (e3 : du ≠ d5') : SW K H' C p du { v with cnt := cnt', hs := hs' } { a with d5 := d5' } := by
  have st : ∀ a' xs, SqT K H a' xs → SqT K H' a' xs := fun a' xs z => sqt_S (fun b m => by
    simp only [List.mem_cons, List.not_mem_nil, or_false] at m
    rcases m with rfl | rfl | rfl | rfl
    · exact .inr ⟨_, _, _, W.m.hp⟩
    · exact .inl ⟨_, W.m.hh⟩
    · exact .inl ⟨_, W.d.hd⟩
    · exact .inl ⟨_, ho⟩) c z
  have mem : ∀ {b : Addr} {xs : List V}, H b = some (.lst xs) → b ≠ a.hl → b ≠ du → b ≠ o → H' b = some (.lst xs) := fun {b xs} h n1 n2 n3 => c _ _ (by
    simp only [List.mem_cons, List.not_mem_nil, or_false, not_or]
    exact ⟨W.np h, n1, n2, n3⟩) h
  exact {
    m := ⟨h1, mem W.m.ha W.m.nah W.u_aw.symm o2.symm, h2, mem W.m.ht W.m.nht.symm W.t_du o4.symm, W.m.nah, W.m.nat, W.m.nht⟩
    d := ⟨h3, mem W.d.h4 W.h_4.symm W.u_4.symm o5.symm, h4, mem W.d.h6 W.h_6.symm W.u_6.symm o7.symm, dp_stamp W.sd st W.d.hs_⟩
    sp := dp_stamp W.sd st W.sp
    sd := W.sd, per := W.per, srt := W.srt, lw := W.lw, lh := lh, lt := W.lt
    h_du := W.h_du, h_4 := W.h_4, h_5 := e1, h_6 := W.h_6, t_du := W.t_du, t_4 := W.t_4, t_5 := e2, t_6 := W.t_6, u_aw := W.u_aw, u_4 := W.u_4, u_5 := e3, u_6 := W.u_6 }
theorem le_maxI (i j : Int) : j ≤ maxI i j := by
  unfold maxI
  split <;> omega
theorem lw_yes (k m : Int) : Lw 3 (.list [.tuple [.int k, .tuple [.str "yes", .int m]]]) := by
  refine .lst (by show 1 < 10000; decide) fun d hd => ?_
  simp only [List.mem_cons, List.not_mem_nil, or_false] at hd
  subst hd
  refine .tup (by show 2 < 10000; decide) fun d hd => ?_
  simp only [List.mem_cons, List.not_mem_nil, or_false] at hd
  rcases hd with rfl | rfl
  · exact .int _
  · refine .tup (by show 2 < 10000; decide) fun d hd => ?_
    simp only [List.mem_cons, List.not_mem_nil, or_false] at hd
    rcases hd with rfl | rfl
    · exact .str _
    · exact .int _
theorem dp_ans {H : Hp} {l t t1 : Addr} {k m : Int} (h1 : H l = some (.lst [.ref t])) (h2 : H t = some (.tup [.int k, .ref t1])) (h3 : H t1 = some (.tup [.str "yes", .int m])) : Dp K H (.ref l) (.list [.tuple [.int k, .tuple [.str "yes", .int m]]]) :=
  .lst (SqL.of h1) (.cons (.tup (SqT.of h2) (.cons (.int _) (.cons (.tup (SqT.of h3) (.cons (.str _) (.cons (.int _) .nil))) .nil))) .nil)
def spAsked (K : PySem.W.Frag) (C : Addr) : Sp := fun vs H Q _ => ∃ (p du o : Addr) (v : SV) (a : SA) (sn : List Int) (k c e2 e3 : Int), vs = [.ref p, .ref du, .ref o] ∧ SW K H C p du v a ∧ v.st ≠ "in" ∧
  (v.st = "asking" → ∃ c0 m0, sn = [c0, m0] ∧ v.ds = .tuple [.int c0, .int m0]) ∧ H o = some (.lst [.int k, .int c, .int e2, .int e3]) ∧ v.hs.length + 1 < 64 ∧ o ≠ du ∧ o ≠ a.aw ∧ o ≠ a.hl ∧ o ≠ a.tg ∧ o ≠ a.d4 ∧ o ≠ a.d5 ∧ o ≠ a.d6 ∧
  ∀ (d5' : Addr) (c' : Int) H', SW K H' C p du (askedV v sn k c) { a with d5 := d5' } → (d5' = a.d5 ∨ H d5' = none) → c ≤ c' → H' o = some (.lst [.int k, .int c', .int e2, .int e3]) → ChgS [p, a.hl, du, o] H H' → Q (.bl true) H'
theorem sc_law_asked : FnScope ["machine", "due", "other", "letter", "answer"] ["machine", "due", "other"] (defScope s_law_asked) :=
  ⟨rfl, rfl, rfl, by decide +kernel, rfl, by decide +kernel, by decide +kernel⟩
theorem ok_asked (F : Fn K mg "_law_asked" s_law_asked) (T : BlR mg) (S : StT K C) (C_same : Cal P w K mg base "_law_same" 4 ["found", "due"] (spSm K 3)) (C_stands : Cal P w K mg base "_law_stands" 4 ["machine", "due"] (spStands K C))
    (MH : Me P w K mg base C "hear" 3 ["self", "sender", "letter"] (spHear K C)) : Cal P w K mg base "_law_asked" 5 ["machine", "due", "other"] (spAsked K C) := by
  obtain ⟨fH, fdH, GH, bH, mH⟩ := MH
  refine cal_of F sc_law_asked
    (fun _ _ _ _ _ _ us hl => match us, hl with | [_, _, _], _ => rfl) ?_ ?_
  · rintro vs H Q E ⟨p, du, o, v, a, sn, k, c, e2, e3, rfl, _⟩
    rfl
  rintro f cdv A outer s H vs Q E free hr ⟨p, du, o, v, a, sn, k, c, e2, e3, rfl, W, nin, two, ho, lh, o1, o2, o3, o4, o5, o6, o7, q⟩
  have hr3 : Room 3 _ := hr.mono (by decide)
  refine ⟨_, (pss_cons (ps_set (i := 3) sc_law_asked.nd rfl (Or.inl rfl) (pe_tup (pa_cons pe_str (pa_cons (pe_ix ix_list (pv 2) pe_int (fun _ _ => rfl)) pa_nil))))
    (pss_cons (ps_asg (pe_callB (call_max2 rfl) (by rfl) T.max (by decide +kernel) (pa_cons (pe_ix ix_list (pv 1) pe_int (fun _ _ => rfl)) (pa_cons (pe_ix ix_list (pv 2) pe_int (fun _ _ => rfl)) pa_nil))) (pg_sub (pv 1) pe_int set_list))
    (pss_cons (ps_set (i := 4) sc_law_asked.nd rfl (Or.inl rfl) (pe_lst pa_nil))
    (pss_cons (ps_if (PW.pt (pw_and (pt_cmpR op_eq (pe_ix ix_list (pv 1) pe_int (fun _ _ => rfl)) pe_str (nomark _)) (pw_and1 (pt_cmpR (op_ltT (u0 hr)) (pe_ix ix_list (pv 1) pe_int (fun _ _ => rfl)) (pe_tup (pa_cons (pe_ix ix_list (pv 2) pe_int (fun _ _ => rfl)) (pa_cons (pe_ix ix_list (pv 2) pe_int (fun _ _ => rfl)) pa_nil))) (nomark _)))))
    (pss_one (ps_asg (pe_op op_cat (pe_ix ix_list (pv 1) pe_int (fun _ _ => rfl)) (pe_lst (pa_cons (pe_ix ix_list (pv 2) pe_int (fun _ _ => rfl)) pa_nil))) (pg_sub (pv 1) pe_int set_list)))
    (pss_cons (ps_set (i := 4) sc_law_asked.nd rfl (Or.inl rfl) (pe_lst (pa_cons (pe_tup (pa_cons (pe_ix ix_list (pv 2) pe_int (fun _ _ => rfl)) (pa_cons (pe_tup (pa_cons pe_str (pa_cons (pe_ix ix_list (pv 1) pe_int (fun _ _ => rfl)) pa_nil))) pa_nil))) pa_nil)))
    (pss_one (ps_asg (pe_ix ix_list (pv 1) pe_int (fun _ _ => rfl)) (pg_sub (pv 2) pe_int set_list)))))
    (pss_one (ps_ret (pe_and (pe_cal C_same free (hr.mono (by decide)) (pa_cons (pe_meth (pv 0) S.cl mH GH hr3 bH .nil pass0 (pa_cons (pe_ix ix_list (pv 2) pe_int (fun _ _ => rfl)) (pa_cons (pv 3) pa_nil))) (pa_cons (pv 4) pa_nil))) (pe_one (pe_cal C_stands free (hr.mono (by decide)) (pa_cons (pv 0) (pa_cons (pv 1) pa_nil))))))))))), ?_⟩
  have s1 := fun {lt : Addr} (h : H lt = none) => same_upd (o := .tup [.str "ask", .int c]) h
  have odu := o1
  refine ⟨_, rfl, o, _, _, _, rfl, rfl, SqL.of ho, rfl, by show 2 ≤ sizeLine; decide, fun lt hlt => ?_⟩
  have hd1 := s1 hlt _ _ W.d.hd
  have ho1 := s1 hlt _ _ ho
  refine ⟨_, rfl, du, _, _, _, rfl, rfl, SqL.of hd1, rfl, _, rfl, o, _, _, _, rfl, rfl, SqL.of ho1, rfl, _, _, rfl, ?_⟩
  refine ⟨_, rfl, du, _, _, _, rfl, rfl, hd1, rfl, ?_⟩
  refine ⟨Nat.zero_le _, fun an han => ?_⟩
  obtain ⟨cm, hcm⟩ : ∃ cm, cm = maxI v.cnt c := ⟨_, rfl⟩
  have ltdu : lt ≠ du := fun z => by rw [z] at hlt; rw [W.d.hd] at hlt; cases hlt
  have andu : an ≠ du := fun z => by rw [z, upd_same] at han; cases han
  have anH : H an = none := by
    cases z : H an with
    | none => rfl
    | some o => rw [upd_ne andu] at han; rw [s1 hlt _ _ z] at han; cases han
  obtain ⟨G3, hG3⟩ : ∃ G3, G3 = upd (upd (upd H lt (.tup [.str "ask", .int c])) du (.lst [.int v.me, .str v.st, .int (maxI v.cnt c), a.stq, .ref a.d4, .ref a.d5, .ref a.d6])) an (.lst []) := ⟨_, rfl⟩
  show gName 4 (V.ref an) _ (upd (upd (upd H lt (.tup [.str "ask", .int c])) du (.lst [.int v.me, .str v.st, .int (maxI v.cnt c), a.stq, .ref a.d4, .ref a.d5, .ref a.d6])) an (.lst [])) _
  rw [← hG3]
  have kd : G3 du = some (.lst [.int v.me, .str v.st, .int (maxI v.cnt c), a.stq, .ref a.d4, .ref a.d5, .ref a.d6]) := by rw [hG3, upd_ne andu.symm, upd_same]
  have c3 : ∀ b x, b ≠ du → H b = some x → G3 b = some x := fun b x nb e => by rw [hG3, upd_ne (ne_of_none e anH), upd_ne nb]; exact s1 hlt _ _ e
  have lan : lt ≠ an := fun z => by rw [← z, upd_ne ltdu, upd_same] at han; cases han
  have klt : G3 lt = some (.tup [.str "ask", .int c]) := by rw [hG3, upd_ne lan, upd_ne ltdu, upd_same]
  have kan : G3 an = some (.lst []) := by rw [hG3, upd_same]
  have ko : G3 o = some (.lst [.int k, .int c, .int e2, .int e3]) := c3 _ _ o1 ho
  have kp := c3 _ _ (ne_of W.m.hp W.d.hd (by intro z; cases z)) W.m.hp
  have ltH : H lt = none := hlt
  clear hG3 han
  refine ⟨_, rfl, du, _, _, _, rfl, rfl, SqL.of kd, rfl, rfl, _, rfl, ?_⟩
  rw [dec_str]
  have npd : p ≠ du := (W.np W.d.hd).symm
  by_cases c2 : v.st = "asking"
  · refine iteT' (by simp [c2]) ?_
    obtain ⟨c0, m0, rfl, eds⟩ := two c2
    obtain ⟨sb, esb, qsb⟩ := stamp_two (by rw [← eds]; exact W.d.hs_)
    obtain ⟨sa, esa, qsa⟩ := stamp_two (by rw [← eds]; exact W.sp)
    have st3 : ∀ a' xs, SqT K H a' xs → SqT K G3 a' xs := fun a' xs z => sqt_S (S := [du]) (fun b m => by
      simp only [List.mem_cons, List.not_mem_nil, or_false] at m
      subst m
      exact .inl ⟨_, W.d.hd⟩) (fun b x nb e => c3 b x (by simpa using nb) e) z
    refine ⟨_, rfl, du, _, _, _, rfl, rfl, SqL.of kd, rfl, _, rfl, o, _, _, _, rfl, rfl, SqL.of ko, rfl, _, rfl, o, _, _, _, rfl, rfl, SqL.of ko, rfl, by show 2 ≤ sizeLine; decide, fun t2 ht2 => ?_⟩
    have s4 := same_upd (o := .tup [.int c, .int k]) ht2
    refine ⟨sb, t2, [c0, m0], [c, k], esb, rfl, sqt_same s4 (st3 _ _ qsb), SqT.of upd_same, _, rfl, ?_⟩
    by_cases c4 : HT.lexLt [c0, m0] [c, k] = true
    · refine iteT' c4 ?_
      refine ⟨_, rfl, du, _, _, _, rfl, rfl, SqL.of (s4 _ _ kd), rfl, _, rfl, o, _, _, _, rfl, rfl, SqL.of (s4 _ _ ko), rfl, by show 1 ≤ sizeLine; decide, fun l1 hl1 => ?_⟩
      have s5 := s4.trans (same_upd (o := .lst [.int k]) hl1)
      refine ⟨a.d5, l1, _, _, rfl, rfl, s5 _ _ (c3 _ _ W.u_5.symm W.d.h5), upd_same, Nat.le_trans (show (v.hs.map V.int).length + 1 ≤ 100 by rw [List.length_map]; omega) (by decide), fun d5' hd5' => ?_⟩
      have s6 := s5.trans (same_upd (o := .lst (v.hs.map V.int ++ [.int k])) hd5')
      refine ⟨_, rfl, du, _, _, _, rfl, rfl, s6 _ _ kd, rfl, ?_⟩
      have kp7 := npd
      obtain ⟨G7, hG7⟩ : ∃ G7, G7 = upd (upd (upd (upd G3 t2 (.tup [.int c, .int k])) l1 (.lst [.int k])) d5' (.lst (v.hs.map V.int ++ [.int k]))) du (.lst [.int v.me, .str v.st, .int (maxI v.cnt c), a.stq, .ref a.d4, .ref d5', .ref a.d6]) := ⟨_, rfl⟩
      have c7 : ∀ b x, b ≠ du → H b = some x → G7 b = some x := fun b x n1 e => by rw [hG7, upd_ne n1]; exact s6 _ _ (c3 b x n1 e)
      have st7 : ∀ a' xs, SqT K H a' xs → SqT K G7 a' xs := fun a' xs z => sqt_S (S := [du]) (fun b m => by
        simp only [List.mem_cons, List.not_mem_nil, or_false] at m
        subst m
        exact .inl ⟨_, W.d.hd⟩) (fun b x nb e => c7 b x (by simpa using nb) e) z
      have d5n : du ≠ d5' := ne_of_none (s5 _ _ kd) hd5'
      have kd7 : G7 du = some (.lst [.int v.me, .str v.st, .int (maxI v.cnt c), a.stq, .ref a.d4, .ref d5', .ref a.d6]) := by rw [hG7, upd_same]
      have ko7 := c7 _ _ o1 ho
      have kl7 : G7 lt = some (.tup [.str "ask", .int c]) := by rw [hG7, upd_ne ltdu]; exact s6 _ _ klt
      have kn7 : G7 an = some (.lst []) := by rw [hG7, upd_ne andu]; exact s6 _ _ kan
      have k57 : G7 d5' = some (.lst (v.hs.map V.int ++ [.int k])) := by rw [hG7, upd_ne d5n.symm, upd_same]
      have kp7 := c7 _ _ npd W.m.hp
      have d5H : H d5' = none := by
        cases z : H d5' with
        | none => rfl
        | some o => rw [s5 _ _ (c3 _ _ d5n.symm z)] at hd5'; cases hd5'
      have hyes : holdB v.st [c0, m0] c k = true := by simp [holdB, c2, c4]
      have eV : askedV v [c0, m0] k c = { v with cnt := maxI v.cnt c, hs := v.hs ++ [k] } := by unfold askedV; rw [if_pos hyes]
      rw [eV] at q
      subst hG7
      refine ⟨_, rfl, p, a.dx, _, rfl, kp7, (stF_no _ _ _ _ _ _ _ _ _ (by decide +kernel) (by decide +kernel) (by decide +kernel) (by decide +kernel) (by decide +kernel) (by decide +kernel) (by decide +kernel) (by decide +kernel) (by decide +kernel) ), _, rfl, o, _, _, _, rfl, rfl, SqL.of ko7, rfl, _, rfl, p, a.dx, v.me, v.st, a.si, v.cnt, a.stp, v.n, a.aw, a.hl, a.tg, lt, v.ws, v.hs, [c0, m0], k, c, true, rfl, kp7, c7 _ _ W.u_aw.symm W.m.ha, c7 _ _ W.h_du W.m.hh, by omega, by have := W.lw; omega, fun _ => ⟨sa, esa, st7 _ _ qsa⟩, SqT.of kl7, ?_⟩
      rw [if_pos rfl, if_pos hyes]
      intro l H8 hl8 l8 hh8 hp8 cg8
      have nb : ∀ {b : Addr} {xs : List V}, H b = some (.lst xs) → b ≠ p := fun h => W.np h
      have g8 : ∀ {b : Addr} {x : HO}, b ≠ p → b ≠ a.hl → _ → H8 b = some x := fun {b x} n1 n2 e => cg8 b x (by
        simp only [List.mem_cons, List.not_mem_nil, or_false, not_or]
        exact ⟨n1, n2⟩) e
      have anp : an ≠ p := (ne_of_none W.m.hp anH).symm
      have anh : an ≠ a.hl := (ne_of_none W.m.hh anH).symm
      have d5p : d5' ≠ p := (ne_of_none W.m.hp d5H).symm
      have d5h : d5' ≠ a.hl := (ne_of_none W.m.hh d5H).symm
      refine ⟨_, rfl, _, _, .list [], rfl, .lst (by show 0 < 10000; decide) (fun d hd => by simp at hd), .lst (SqL.of l8) .nil, .lst (SqL.of (g8 anp anh kn7)) .nil, fun H9 s9 => ?_⟩
      have cH : ChgS [p, a.hl, du, o] H H9 := fun b x nb e => by
        simp only [List.mem_cons, List.not_mem_nil, or_false, not_or] at nb
        exact s9 _ _ (g8 nb.1 nb.2.1 (c7 _ _ nb.2.2.1 e))
      have k5m : H9 d5' = some (.lst ((v.hs ++ [k]).map V.int)) := by
        rw [List.map_append]
        exact s9 _ _ (g8 d5p d5h k57)
      have W9 := SW.asked (cnt' := maxI v.cnt c) (hs' := v.hs ++ [k]) (d5' := d5') W ho cH o2 o4 o5 o7 (s9 _ _ hp8) (s9 _ _ hh8) (s9 _ _ (g8 (nb W.d.hd) W.h_du.symm kd7)) k5m (by rw [List.length_append]; exact lh) d5h.symm (ne_of_none W.m.ht d5H) d5n
      refine ⟨_, rfl, iteT' rfl ?_⟩
      refine ⟨_, rfl, _, rfl, W9.stands (E := E0) fun H10 s10 => ?_⟩
      exact q d5' c H10 (W9.same s10) (.inr d5H) (Int.le_refl _) (s10 _ _ (s9 _ _ (g8 (nb ho) o3 ko7))) fun b x nb e => s10 _ _ (cH b x nb e)
    · refine iteF' (by simpa using c4) ?_
      refine ⟨_, rfl, o, _, _, _, rfl, rfl, SqL.of (s4 _ _ ko), rfl, _, rfl, du, _, _, _, rfl, rfl, SqL.of (s4 _ _ kd), rfl, by show 2 ≤ sizeLine; decide, fun u1 hu1 => ⟨by show 2 ≤ sizeLine; decide, fun u2 hu2 => ⟨by show 1 ≤ sizeLine; decide, fun an2 han2 => ?_⟩⟩⟩
      have sA : Same ((upd G3 t2 (.tup [.int c, .int k]))) _ := ((same_upd (o := .tup [.str "yes", .int (maxI v.cnt c)]) hu1).trans (same_upd (o := .tup [.int k, .ref u1]) hu2)).trans (same_upd (o := .lst [.ref u2]) han2)
      refine ⟨_, rfl, du, _, _, _, rfl, rfl, SqL.of (sA _ _ (s4 _ _ kd)), rfl, ?_⟩
      refine ⟨_, rfl, o, _, _, _, rfl, rfl, sA _ _ (s4 _ _ ko), rfl, ?_⟩
      obtain ⟨G6, hG6⟩ : ∃ G6, G6 = upd (upd (upd (upd ((upd G3 t2 (.tup [.int c, .int k]))) u1 (.tup [.str "yes", .int (maxI v.cnt c)])) u2 (.tup [.int k, .ref u1])) an2 (.lst [.ref u2])) o (.lst [.int k, .int (maxI v.cnt c), .int e2, .int e3]) := ⟨_, rfl⟩
      have ou1 : o ≠ u1 := ne_of_none (s4 _ _ ko) hu1
      have ou2 : o ≠ u2 := ne_of_none (same_upd hu1 _ _ (s4 _ _ ko)) hu2
      have oan : o ≠ an2 := ne_of_none (same_upd hu2 _ _ (same_upd hu1 _ _ (s4 _ _ ko))) han2
      have c6 : ∀ b x, b ≠ du → b ≠ o → H b = some x → G6 b = some x := fun b x n1 n2 e => by rw [hG6, upd_ne n2]; exact sA _ _ ((fun b x n e => s4 _ _ (c3 b x n e)) b x n1 e)
      have st6 : ∀ a' xs, SqT K H a' xs → SqT K G6 a' xs := fun a' xs z => sqt_S (S := [du, o]) (fun b m => by
        simp only [List.mem_cons, List.not_mem_nil, or_false] at m
        rcases m with rfl | rfl
        · exact .inl ⟨_, W.d.hd⟩
        · exact .inl ⟨_, ho⟩) (fun b x nb e => by
        simp only [List.mem_cons, List.not_mem_nil, or_false, not_or] at nb
        exact c6 b x nb.1 nb.2 e) z
      have kd6 : G6 du = some (.lst [.int v.me, .str v.st, .int (maxI v.cnt c), a.stq, .ref a.d4, .ref a.d5, .ref a.d6]) := by rw [hG6, upd_ne o1.symm]; exact sA _ _ (s4 _ _ kd)
      have ko6 : G6 o = some (.lst [.int k, .int (maxI v.cnt c), .int e2, .int e3]) := by rw [hG6, upd_same]
      have kl6 : G6 lt = some (.tup [.str "ask", .int c]) := by rw [hG6, upd_ne (ne_of klt ko (by intro z; cases z))]; exact sA _ _ (s4 _ _ klt)
      have kn6 : G6 an2 = some (.lst [.ref u2]) := by rw [hG6, upd_ne oan.symm, upd_same]
      have ku2 : G6 u2 = some (.tup [.int k, .ref u1]) := by rw [hG6, upd_ne ou2.symm]; exact same_upd han2 _ _ upd_same
      have ku1 : G6 u1 = some (.tup [.str "yes", .int (maxI v.cnt c)]) := by rw [hG6, upd_ne ou1.symm]; exact same_upd han2 _ _ (same_upd hu2 _ _ upd_same)
      have kp6 := c6 _ _ npd (W.np ho).symm W.m.hp
      have eV : askedV v [c0, m0] k c = { v with cnt := maxI v.cnt c, hs := v.hs } := by unfold askedV; rw [if_neg (by rw [(show holdB v.st [c0, m0] c k = false by simp [holdB, nin, c4])]; simp)]
      rw [eV] at q
      subst hG6
      refine ⟨_, rfl, p, a.dx, _, rfl, kp6, (stF_no _ _ _ _ _ _ _ _ _ (by decide +kernel) (by decide +kernel) (by decide +kernel) (by decide +kernel) (by decide +kernel) (by decide +kernel) (by decide +kernel) (by decide +kernel) (by decide +kernel) ), _, rfl, o, _, _, _, rfl, rfl, SqL.of ko6, rfl, _, rfl, p, a.dx, v.me, v.st, a.si, v.cnt, a.stp, v.n, a.aw, a.hl, a.tg, lt, v.ws, v.hs, [c0, m0], k, c, true, rfl, kp6, c6 _ _ W.u_aw.symm o2.symm W.m.ha, c6 _ _ W.h_du o3.symm W.m.hh, by omega, by have := W.lw; omega, (fun _ => ⟨sa, esa, st6 _ _ qsa⟩), SqT.of kl6, ?_⟩
      rw [if_pos rfl, if_neg (by rw [(show holdB v.st [c0, m0] c k = false by simp [holdB, nin, c4])]; simp)]
      intro l t t1 H7 hl7 cg hp7 hl8 ht7 ht17
      have nb : ∀ {b : Addr} {xs : List V}, H b = some (.lst xs) → b ≠ p := fun h => W.np h
      refine ⟨_, rfl, _, _, _, rfl, lw_yes k (maxI v.cnt c), dp_ans hl8 ht7 ht17, dp_ans (cg _ _ (ne_of kn6 kp6 (by intro z; cases z)) kn6) (cg _ _ (ne_of ku2 kp6 (by intro z; cases z)) ku2) (cg _ _ (ne_of ku1 kp6 (by intro z; cases z)) ku1), fun H8 s8 => ?_⟩
      have cH : ChgS [p, a.hl, du, o] H H8 := fun b x nb e => by
        simp only [List.mem_cons, List.not_mem_nil, or_false, not_or] at nb
        exact s8 _ _ (cg _ _ nb.1 (c6 _ _ nb.2.2.1 nb.2.2.2 e))
      have W8 := SW.asked (cnt' := maxI v.cnt c) (hs' := v.hs) (d5' := a.d5) W ho cH o2 o4 o5 o7 (s8 _ _ hp7) (s8 _ _ (cg _ _ (nb W.m.hh) (c6 _ _ W.h_du o3.symm W.m.hh))) (s8 _ _ (cg _ _ (nb W.d.hd) kd6)) (s8 _ _ (cg _ _ (nb W.d.h5) (c6 _ _ W.u_5.symm o6.symm W.d.h5))) W.lh W.h_5 W.t_5 W.u_5
      refine ⟨_, rfl, iteT' rfl ?_⟩
      refine ⟨_, rfl, _, rfl, W8.stands (E := E0) fun H9 s9 => ?_⟩
      exact q a.d5 (maxI v.cnt c) H9 (W8.same s9) (.inl rfl) (le_maxI _ _) (s9 _ _ (s8 _ _ (cg _ _ (nb ho) ko6))) fun b x nb e => s9 _ _ (cH b x nb e)
  · refine iteF' (by simp [c2]) ?_
    refine iteF' rfl ?_
    refine ⟨_, rfl, o, _, _, _, rfl, rfl, SqL.of ko, rfl, _, rfl, du, _, _, _, rfl, rfl, SqL.of kd, rfl, by show 2 ≤ sizeLine; decide, fun u1 hu1 => ⟨by show 2 ≤ sizeLine; decide, fun u2 hu2 => ⟨by show 1 ≤ sizeLine; decide, fun an2 han2 => ?_⟩⟩⟩
    have sA : Same (G3) _ := ((same_upd (o := .tup [.str "yes", .int (maxI v.cnt c)]) hu1).trans (same_upd (o := .tup [.int k, .ref u1]) hu2)).trans (same_upd (o := .lst [.ref u2]) han2)
    refine ⟨_, rfl, du, _, _, _, rfl, rfl, SqL.of (sA _ _ kd), rfl, ?_⟩
    refine ⟨_, rfl, o, _, _, _, rfl, rfl, sA _ _ ko, rfl, ?_⟩
    obtain ⟨G6, hG6⟩ : ∃ G6, G6 = upd (upd (upd (upd (G3) u1 (.tup [.str "yes", .int (maxI v.cnt c)])) u2 (.tup [.int k, .ref u1])) an2 (.lst [.ref u2])) o (.lst [.int k, .int (maxI v.cnt c), .int e2, .int e3]) := ⟨_, rfl⟩
    have ou1 : o ≠ u1 := ne_of_none ko hu1
    have ou2 : o ≠ u2 := ne_of_none (same_upd hu1 _ _ ko) hu2
    have oan : o ≠ an2 := ne_of_none (same_upd hu2 _ _ (same_upd hu1 _ _ ko)) han2
    have c6 : ∀ b x, b ≠ du → b ≠ o → H b = some x → G6 b = some x := fun b x n1 n2 e => by rw [hG6, upd_ne n2]; exact sA _ _ (c3 b x n1 e)
    have st6 : ∀ a' xs, SqT K H a' xs → SqT K G6 a' xs := fun a' xs z => sqt_S (S := [du, o]) (fun b m => by
      simp only [List.mem_cons, List.not_mem_nil, or_false] at m
      rcases m with rfl | rfl
      · exact .inl ⟨_, W.d.hd⟩
      · exact .inl ⟨_, ho⟩) (fun b x nb e => by
      simp only [List.mem_cons, List.not_mem_nil, or_false, not_or] at nb
      exact c6 b x nb.1 nb.2 e) z
    have kd6 : G6 du = some (.lst [.int v.me, .str v.st, .int (maxI v.cnt c), a.stq, .ref a.d4, .ref a.d5, .ref a.d6]) := by rw [hG6, upd_ne o1.symm]; exact sA _ _ kd
    have ko6 : G6 o = some (.lst [.int k, .int (maxI v.cnt c), .int e2, .int e3]) := by rw [hG6, upd_same]
    have kl6 : G6 lt = some (.tup [.str "ask", .int c]) := by rw [hG6, upd_ne (ne_of klt ko (by intro z; cases z))]; exact sA _ _ klt
    have kn6 : G6 an2 = some (.lst [.ref u2]) := by rw [hG6, upd_ne oan.symm, upd_same]
    have ku2 : G6 u2 = some (.tup [.int k, .ref u1]) := by rw [hG6, upd_ne ou2.symm]; exact same_upd han2 _ _ upd_same
    have ku1 : G6 u1 = some (.tup [.str "yes", .int (maxI v.cnt c)]) := by rw [hG6, upd_ne ou1.symm]; exact same_upd han2 _ _ (same_upd hu2 _ _ upd_same)
    have kp6 := c6 _ _ npd (W.np ho).symm W.m.hp
    have eV : askedV v sn k c = { v with cnt := maxI v.cnt c, hs := v.hs } := by unfold askedV; rw [if_neg (by rw [(show holdB v.st sn c k = false by simp [holdB, nin, c2])]; simp)]
    rw [eV] at q
    subst hG6
    refine ⟨_, rfl, p, a.dx, _, rfl, kp6, (stF_no _ _ _ _ _ _ _ _ _ (by decide +kernel) (by decide +kernel) (by decide +kernel) (by decide +kernel) (by decide +kernel) (by decide +kernel) (by decide +kernel) (by decide +kernel) (by decide +kernel) ), _, rfl, o, _, _, _, rfl, rfl, SqL.of ko6, rfl, _, rfl, p, a.dx, v.me, v.st, a.si, v.cnt, a.stp, v.n, a.aw, a.hl, a.tg, lt, v.ws, v.hs, sn, k, c, true, rfl, kp6, c6 _ _ W.u_aw.symm o2.symm W.m.ha, c6 _ _ W.h_du o3.symm W.m.hh, by omega, by have := W.lw; omega, (fun e => absurd e c2), SqT.of kl6, ?_⟩
    rw [if_pos rfl, if_neg (by rw [(show holdB v.st sn c k = false by simp [holdB, nin, c2])]; simp)]
    intro l t t1 H7 hl7 cg hp7 hl8 ht7 ht17
    have nb : ∀ {b : Addr} {xs : List V}, H b = some (.lst xs) → b ≠ p := fun h => W.np h
    refine ⟨_, rfl, _, _, _, rfl, lw_yes k (maxI v.cnt c), dp_ans hl8 ht7 ht17, dp_ans (cg _ _ (ne_of kn6 kp6 (by intro z; cases z)) kn6) (cg _ _ (ne_of ku2 kp6 (by intro z; cases z)) ku2) (cg _ _ (ne_of ku1 kp6 (by intro z; cases z)) ku1), fun H8 s8 => ?_⟩
    have cH : ChgS [p, a.hl, du, o] H H8 := fun b x nb e => by
      simp only [List.mem_cons, List.not_mem_nil, or_false, not_or] at nb
      exact s8 _ _ (cg _ _ nb.1 (c6 _ _ nb.2.2.1 nb.2.2.2 e))
    have W8 := SW.asked (cnt' := maxI v.cnt c) (hs' := v.hs) (d5' := a.d5) W ho cH o2 o4 o5 o7 (s8 _ _ hp7) (s8 _ _ (cg _ _ (nb W.m.hh) (c6 _ _ W.h_du o3.symm W.m.hh))) (s8 _ _ (cg _ _ (nb W.d.hd) kd6)) (s8 _ _ (cg _ _ (nb W.d.h5) (c6 _ _ W.u_5.symm o6.symm W.d.h5))) W.lh W.h_5 W.t_5 W.u_5
    refine ⟨_, rfl, iteT' rfl ?_⟩
    refine ⟨_, rfl, _, rfl, W8.stands (E := E0) fun H9 s9 => ?_⟩
    exact q a.d5 (maxI v.cnt c) H9 (W8.same s9) (.inl rfl) (le_maxI _ _) (s9 _ _ (s8 _ _ (cg _ _ (nb ho) ko6))) fun b x nb e => s9 _ _ (cH b x nb e)
end

end G0
namespace G0
open PySem PySem.Spec PyProof.Rows L2
section
variable {P : Program} {w : World} {K : PySem.W.Frag} {mg : Str → Option Value} {base : Heap} {C : Addr}
/-! ### _law_let -/
theorem none_back {H G : Hp} {b : Addr} (c : ∀ x, H b = some x → G b = some x) (h : G b = none) : H b = none := by
  cases z : H b with
  | none => rfl
  | some x => rw [c x z] at h; cases h
theorem dps_same' {H H' : Hp} {v : V} {d : PyData} (h : Dp K H v d) (c : Same H H') : Dp K H' v d := dp_same c d v h
theorem maxI_le {n c d : Int} (h : d ≤ n) : maxI n (maxI c d) = maxI n c := by
  unfold maxI
  repeat' split
  all_goals omega
def lessK (k : Int) (xs : List Int) : List Int := xs.filter fun j => !decide (j = k)
def letV (v : SV) (k c : Int) (gone : Bool) (us : List Int) : SV :=
  if gone = true then { v with st := stB v.st (lessK k v.ws), ws := lessK k v.ws, hs := lessK k v.hs, ts := v.ts ++ [k], us := us }
  else { v with st := stB v.st (lessK k v.ws), ws := lessK k v.ws, cnt := maxI v.cnt c }
def spLet (K : PySem.W.Frag) (C : Addr) : Sp := fun vs H Q _ => ∃ (p du o : Addr) (v : SV) (a : SA) (k c e2 e3 : Int) (gone : Bool), vs = [.ref p, .ref du, .ref o, .str (if gone = true then "gone" else "yes")] ∧ SW K H C p du v a ∧
  (gone = false → ∃ c0 m0, v.ds = .tuple [.int c0, .int m0] ∧ c0 ≤ v.cnt) ∧ H o = some (.lst [.int k, .int c, .int e2, .int e3]) ∧ v.ts.length + 1 < 64 ∧ o ≠ du ∧ o ≠ a.tg ∧
  ∀ (us : List Int) (a' : SA) H', SW K H' C p du (letV v k c gone us) a' → (a'.hl = a.hl ∨ H a'.hl = none) → a'.tg = a.tg → (a'.aw = a.aw ∨ H a'.aw = none) → (a'.d4 = a.d4 ∨ H a'.d4 = none) → (a'.d5 = a.d5 ∨ H a'.d5 = none) → (a'.d6 = a.d6 ∨ H a'.d6 = none) →
    ChgS [p, a.tg, du] H H' → Q (.bl true) H'
theorem sc_law_let : FnScope ["machine", "due", "seat", "word", "other", "found"] ["machine", "due", "seat", "word"] (defScope s_law_let) :=
  ⟨rfl, rfl, rfl, by decide +kernel, rfl, by decide +kernel, by decide +kernel⟩
theorem ok_let (F : Fn K mg "_law_let" s_law_let) (T : BlR mg) (S : StT K C) (C_same : Cal P w K mg base "_law_same" 4 ["found", "due"] (spSm K 3)) (C_stands : Cal P w K mg base "_law_stands" 4 ["machine", "due"] (spStands K C))
    (MH : Me P w K mg base C "hear" 3 ["self", "sender", "letter"] (spHear K C)) (MG : Me P w K mg base C "gone" 3 ["self", "seat"] (spSGone C)) : Cal P w K mg base "_law_let" 5 ["machine", "due", "seat", "word"] (spLet K C) := by
  obtain ⟨fH, fdH, GH, bH, mH⟩ := MH
  obtain ⟨fG, fdG, GG, bG, mG⟩ := MG
  refine cal_of F sc_law_let
    (fun _ _ _ _ _ _ us hl => match us, hl with | [_, _, _, _], _ => rfl) ?_ ?_
  · rintro vs H Q E ⟨p, du, o, v, a, k, c, e2, e3, gone, rfl, _⟩
    rfl
  rintro f cdv A outer s H vs Q E free hr ⟨p, du, o, v, a, k, c, e2, e3, gone, rfl, W, yes, ho, lt, o1, o2, q⟩
  have hr3 : Room 3 _ := hr.mono (by decide)
  refine ⟨_, (pss_cons (ps_asg (pe_lc (own := [("other", 4)]) (g := gName 4)  (by rfl) sc_law_let.nd (pi_list (pe_ix ix_list (pv 1) pe_int (fun _ _ => rfl))) (blkOk_by (N := ["machine", "due", "seat", "word", "other", "found"]) (sc := defScope s_law_let) (by decide +kernel)) (fun _ _ _ _ _ => pg_name (i := 4) sc_law_let.nd rfl (Or.inl rfl)) (fun _ _ _ _ _ => pts_one (pt_cmpR op_ne (pv 4) (pe_ix (ix_listK K) (pv 2) pe_int (fun _ _ => rfl)) (nomark _))) (fun _ _ _ _ _ => (pv 4))) (pg_sub (pv 1) pe_int set_list))
    (pss_cons (ps_if (pt_cmpR op_eq (pv 3) pe_str (nomark _))
    (pss_cons (ps_asg (pe_lc (own := [("other", 4)]) (g := gName 4)  (by rfl) sc_law_let.nd (pi_list (pe_ix ix_list (pv 1) pe_int (fun _ _ => rfl))) (blkOk_by (N := ["machine", "due", "seat", "word", "other", "found"]) (sc := defScope s_law_let) (by decide +kernel)) (fun _ _ _ _ _ => pg_name (i := 4) sc_law_let.nd rfl (Or.inl rfl)) (fun _ _ _ _ _ => pts_one (pt_cmpR op_ne (pv 4) (pe_ix (ix_listK K) (pv 2) pe_int (fun _ _ => rfl)) (nomark _))) (fun _ _ _ _ _ => (pv 4))) (pg_sub (pv 1) pe_int set_list))
    (pss_cons (ps_asg (pe_callB cr_sorted (by rfl) T.sorted (by decide +kernel) (pa_cons (pe_op op_cat (pe_ix ix_list (pv 1) pe_int (fun _ _ => rfl)) (pe_lst (pa_cons (pe_ix ix_list (pv 2) pe_int (fun _ _ => rfl)) pa_nil))) pa_nil)) (pg_sub (pv 1) pe_int set_list))
    (pss_one (ps_set (i := 5) sc_law_let.nd rfl (Or.inl rfl) (pe_meth (pv 0) S.cl mG GG hr3 bG .nil pass0 (pa_cons (pe_ix ix_list (pv 2) pe_int (fun _ _ => rfl)) pa_nil))))))
    (pss_cons (ps_asg (pe_callB (call_max2 rfl) (by rfl) T.max (by decide +kernel) (pa_cons (pe_ix ix_list (pv 1) pe_int (fun _ _ => rfl)) (pa_cons (pe_ix ix_list (pv 2) pe_int (fun _ _ => rfl)) pa_nil))) (pg_sub (pv 1) pe_int set_list))
    (pss_one (ps_set (i := 5) sc_law_let.nd rfl (Or.inl rfl) (pe_meth (pv 0) S.cl mH GH hr3 bH .nil pass0 (pa_cons (pe_ix ix_list (pv 2) pe_int (fun _ _ => rfl)) (pa_cons (pe_tup (pa_cons pe_str (pa_cons (pe_callB (call_max2 rfl) (by rfl) T.max (by decide +kernel) (pa_cons (pe_ix ix_list (pv 2) pe_int (fun _ _ => rfl)) (pa_cons (pe_ix ix_tup (pe_ix ix_list (pv 1) pe_int (fun _ _ => rfl)) pe_int (fun _ _ => rfl)) pa_nil))) pa_nil))) pa_nil)))))))
    (pss_cons (ps_if (PW.pt (pw_and (pt_cmpR op_eq (pe_ix ix_list (pv 1) pe_int (fun _ _ => rfl)) pe_str (nomark _)) (pw_and1 (pt_cmpR (u_eq (u64 hr)) (pe_ix ix_list (pv 1) pe_int (fun _ _ => rfl)) (pe_lst pa_nil) (nomark _)))))
    (pss_one (ps_asg pe_str (pg_sub (pv 1) pe_int set_list)))
    pss_nil)
    (pss_one (ps_ret (pe_and (pe_cal C_same free (hr.mono (by decide)) (pa_cons (pv 5) (pa_cons (pe_lst pa_nil) pa_nil))) (pe_one (pe_cal C_stands free (hr.mono (by decide)) (pa_cons (pv 0) (pa_cons (pv 1) pa_nil)))))))))), ?_⟩
  refine ⟨_, rfl, du, _, _, _, rfl, rfl, SqL.of W.d.hd, rfl, a.d4, rfl, ⟨_, SqL.of W.d.h4⟩, fun J hJ => ?_⟩
  refine lc_list (K := K) (a := a.d4) (xs := (v.ws).map V.int) (fun i G => G = upd (H) J (.lst ((lessK k ((v.ws).take i)).map V.int))) (by simp [lessK]) (fun i G _ h => by rw [h]; exact SqL.of (same_upd hJ _ _ W.d.h4)) ?_ ?_
  · rintro i x G hi rfl
    obtain ⟨y, ey, rfl⟩ := ints_at hi
    have i9 : i < (v.ws).length := (List.getElem?_eq_some_iff.mp ey).1
    refine ⟨rfl, _, rfl, _, rfl, o, _, _, _, rfl, rfl, SqL.of (same_upd hJ _ _ ho), rfl, rfl, _, rfl, ?_⟩
    unfold lessK
    rw [filt_snoc ey]
    refine ite2 (fun c2 => ?_) (fun c2 => ?_)
    · have c3 : (fun j => !decide (j = k)) y = true := by simpa [dec_ii] using c2
      rw [if_pos c3]
      have lf := List.length_filter_le (fun j => !decide (j = k)) ((v.ws).take i)
      refine ⟨_, rfl, _, upd_same, ?_, ?_⟩
      · rw [List.length_map]
        exact Nat.lt_of_le_of_lt (Nat.le_trans lf (by rw [List.length_take]; exact Nat.le_trans (Nat.min_le_right _ _) (Nat.le_of_lt W.lw))) (by decide)
      · rw [upd_upd, List.map_append]; rfl
    · have c3 : ¬ ((fun j => !decide (j = k)) y = true) := by simpa [dec_ii] using c2
      rw [if_neg c3, List.append_nil]
  rintro G rfl
  rw [List.length_map, List.take_length]
  have kd1 := same_upd (o := .lst ((lessK k v.ws).map V.int)) hJ _ _ W.d.hd
  refine ⟨_, rfl, du, _, _, _, rfl, rfl, kd1, rfl, ?_⟩
  obtain ⟨G1, hG1⟩ : ∃ G1, G1 = upd (upd H J (.lst ((lessK k v.ws).map V.int))) du (.lst [.int v.me, .str v.st, .int v.cnt, a.stq, .ref J, .ref a.d5, .ref a.d6]) := ⟨_, rfl⟩
  have Jdu : J ≠ du := (ne_of_none W.d.hd hJ).symm
  have kd : G1 du = some (.lst [.int v.me, .str v.st, .int v.cnt, a.stq, .ref J, .ref a.d5, .ref a.d6]) := by rw [hG1, upd_same]
  have kJ : G1 J = some (.lst ((lessK k v.ws).map V.int)) := by rw [hG1, upd_ne Jdu, upd_same]
  have c1 : ∀ b x, b ≠ du → H b = some x → G1 b = some x := fun b x n1 e => by rw [hG1, upd_ne n1]; exact same_upd hJ _ _ e
  have npd : p ≠ du := (W.np W.d.hd).symm
  have ko := c1 _ _ o1 ho
  refine ⟨_, rfl, rfl, _, rfl, ?_⟩
  rw [dec_str]
  subst hG1
  cases gone with
  | true =>
    refine iteT' (by decide +kernel) ?_
    refine ⟨_, rfl, du, _, _, _, rfl, rfl, SqL.of kd, rfl, a.d5, rfl, ⟨_, SqL.of (c1 _ _ W.u_5.symm W.d.h5)⟩, fun J2 hJ2 => ?_⟩
    refine lc_list (K := K) (a := a.d5) (xs := (v.hs).map V.int) (fun i G => G = upd ((upd (upd H J (.lst ((lessK k v.ws).map V.int))) du (.lst [.int v.me, .str v.st, .int v.cnt, a.stq, .ref J, .ref a.d5, .ref a.d6]))) J2 (.lst ((lessK k ((v.hs).take i)).map V.int))) (by simp [lessK]) (fun i G _ h => by rw [h]; exact SqL.of (same_upd hJ2 _ _ (c1 _ _ W.u_5.symm W.d.h5))) ?_ ?_
    · rintro i x G hi rfl
      obtain ⟨y, ey, rfl⟩ := ints_at hi
      have i9 : i < (v.hs).length := (List.getElem?_eq_some_iff.mp ey).1
      refine ⟨rfl, _, rfl, _, rfl, o, _, _, _, rfl, rfl, SqL.of (same_upd hJ2 _ _ ko), rfl, rfl, _, rfl, ?_⟩
      unfold lessK
      rw [filt_snoc ey]
      refine ite2 (fun c2 => ?_) (fun c2 => ?_)
      · have c3 : (fun j => !decide (j = k)) y = true := by simpa [dec_ii] using c2
        rw [if_pos c3]
        have lf := List.length_filter_le (fun j => !decide (j = k)) ((v.hs).take i)
        refine ⟨_, rfl, _, upd_same, ?_, ?_⟩
        · rw [List.length_map]
          exact Nat.lt_of_le_of_lt (Nat.le_trans lf (by rw [List.length_take]; exact Nat.le_trans (Nat.min_le_right _ _) (Nat.le_of_lt W.lh))) (by decide)
        · rw [upd_upd, List.map_append]; rfl
      · have c3 : ¬ ((fun j => !decide (j = k)) y = true) := by simpa [dec_ii] using c2
        rw [if_neg c3, List.append_nil]
    rintro G rfl
    rw [List.length_map, List.take_length]
    refine ⟨_, rfl, du, _, _, _, rfl, rfl, same_upd hJ2 _ _ kd, rfl, ?_⟩
    obtain ⟨G2, hG2⟩ : ∃ G2, G2 = (upd (upd (upd (upd H J (.lst ((lessK k v.ws).map V.int))) du (.lst [.int v.me, .str v.st, .int v.cnt, a.stq, .ref J, .ref a.d5, .ref a.d6])) J2 (.lst ((lessK k v.hs).map V.int))) du (.lst [.int v.me, .str v.st, .int v.cnt, a.stq, .ref J, .ref J2, .ref a.d6])) := ⟨_, rfl⟩
    have J2du : J2 ≠ du := (ne_of_none kd hJ2).symm
    have kd2 : G2 du = some (.lst [.int v.me, .str v.st, .int v.cnt, a.stq, .ref J, .ref J2, .ref a.d6]) := by rw [hG2, upd_same]
    have kJ_2 : G2 J = some (.lst ((lessK k v.ws).map V.int)) := by rw [hG2, upd_ne Jdu]; exact same_upd hJ2 _ _ kJ
    have kJ2_2 : G2 J2 = some (.lst ((lessK k v.hs).map V.int)) := by rw [hG2, upd_ne J2du, upd_same]
    have c2 : ∀ b x, b ≠ du → H b = some x → G2 b = some x := fun b x n1 e => by rw [hG2, upd_ne n1]; exact same_upd hJ2 _ _ (c1 b x n1 e)
    have ko2 := c2 _ _ o1 ho
    subst hG2
    have lu : v.us.length = v.ts.length := W.per.length_eq
    refine ⟨_, rfl, du, _, _, _, rfl, rfl, SqL.of kd2, rfl, _, rfl, o, _, _, _, rfl, rfl, SqL.of ko2, rfl, by show 1 ≤ sizeLine; decide, fun l1 hl1 => ?_⟩
    refine ⟨a.d6, l1, _, _, rfl, rfl, same_upd hl1 _ _ (c2 _ _ W.u_6.symm W.d.h6), upd_same, Nat.le_trans (show (v.us.map V.int).length + 1 ≤ 100 by rw [List.length_map]; omega) (by decide), fun l2 hl2 => ?_⟩
    refine ⟨l2, v.us ++ [k], rfl, SqL.of (by rw [List.map_append]; exact upd_same), by rw [List.length_append, lu]; exact lt, fun us' J3 per' srt' hJ3 => ?_⟩
    have s3 := ((same_upd (o := .lst [.int k]) hl1).trans (same_upd (o := .lst (v.us.map V.int ++ [.int k])) hl2)).trans (same_upd (o := .lst (us'.map V.int)) hJ3)
    refine ⟨_, rfl, du, _, _, _, rfl, rfl, s3 _ _ kd2, rfl, ?_⟩
    obtain ⟨G3, hG3⟩ : ∃ G3, G3 = (upd (upd (upd (upd (upd (upd (upd (upd H J (.lst ((lessK k v.ws).map V.int))) du (.lst [.int v.me, .str v.st, .int v.cnt, a.stq, .ref J, .ref a.d5, .ref a.d6])) J2 (.lst ((lessK k v.hs).map V.int))) du (.lst [.int v.me, .str v.st, .int v.cnt, a.stq, .ref J, .ref J2, .ref a.d6])) l1 (.lst [.int k])) l2 (.lst (v.us.map V.int ++ [.int k]))) J3 (.lst (us'.map V.int))) du (.lst [.int v.me, .str v.st, .int v.cnt, a.stq, .ref J, .ref J2, .ref J3])) := ⟨_, rfl⟩
    have J3du : J3 ≠ du := (ne_of_none (same_upd hl2 _ _ (same_upd hl1 _ _ kd2)) hJ3).symm
    have kd3 : G3 du = some (.lst [.int v.me, .str v.st, .int v.cnt, a.stq, .ref J, .ref J2, .ref J3]) := by rw [hG3, upd_same]
    have kJ_3 : G3 J = some (.lst ((lessK k v.ws).map V.int)) := by rw [hG3, upd_ne Jdu]; exact s3 _ _ kJ_2
    have kJ2_3 : G3 J2 = some (.lst ((lessK k v.hs).map V.int)) := by rw [hG3, upd_ne J2du]; exact s3 _ _ kJ2_2
    have kJ3_3 : G3 J3 = some (.lst (us'.map V.int)) := by rw [hG3, upd_ne J3du, upd_same]
    have c3 : ∀ b x, b ≠ du → H b = some x → G3 b = some x := fun b x n1 e => by rw [hG3, upd_ne n1]; exact s3 _ _ (c2 b x n1 e)
    have ko3 := c3 _ _ o1 ho
    have kp3 := c3 _ _ npd W.m.hp
    have M3 : Stm G3 C p a.dx v.me v.st a.si v.cnt a.stp v.n a.aw a.hl a.tg v.ws v.hs v.ts := ⟨kp3, c3 _ _ W.u_aw.symm W.m.ha, c3 _ _ W.h_du W.m.hh, c3 _ _ W.t_du W.m.ht, W.m.nah, W.m.nat, W.m.nht⟩
    have J2H : H J2 = none := none_back (fun x z => c1 _ _ J2du z) hJ2
    have J3H : H J3 = none := none_back (fun x z => same_upd hl2 _ _ (same_upd hl1 _ _ (c2 _ _ J3du z))) hJ3
    have lw := W.lw
    have lh := W.lh
    subst hG3
    refine ⟨_, rfl, p, a.dx, _, rfl, kp3, (stF_no _ _ _ _ _ _ _ _ _ (by decide +kernel) (by decide +kernel) (by decide +kernel) (by decide +kernel) (by decide +kernel) (by decide +kernel) (by decide +kernel) (by decide +kernel) (by decide +kernel) ), _, rfl, o, _, _, _, rfl, rfl, SqL.of ko3, rfl, p, a.dx, v.me, v.st, a.si, v.cnt, a.stp, v.n, a.aw, a.hl, a.tg, v.ws, v.hs, v.ts, k, rfl, M3, by omega, by omega, by omega, fun l hl' aw' H4 nl nhl naw n1 n2 n3 cg kl khl kaw ktg kp => ?_⟩
    have pJ : ∀ {b : Addr} {xs : List V}, b ≠ a.tg → _ → H4 b = some (.lst xs) := fun {b xs} n e => cg b _ (by
      simp only [List.mem_cons, List.not_mem_nil, or_false, not_or]
      exact ⟨ne_of e kp3 (by intro z; cases z), n⟩) e
    have kd4 := pJ W.t_du.symm kd3
    have kJ4 := pJ (ne_of_none W.m.ht hJ).symm kJ_3
    have kl4 := kl
    obtain ⟨wf, hwf⟩ : ∃ wf, wf = lessK k v.ws := ⟨_, rfl⟩
    have ldu : l ≠ du := (ne_of_none kd3 nl).symm
    refine ⟨_, rfl, du, _, _, _, rfl, rfl, SqL.of kd4, rfl, rfl, _, rfl, ?_⟩
    rw [dec_str]
    by_cases c5 : v.st = "asking"
    · refine iteT' (by simp [c5]) ?_
      refine ⟨_, rfl, du, _, _, _, rfl, rfl, SqL.of kd4, rfl, Nat.zero_le _, fun e0 he0 => ?_⟩
      refine .inr ⟨.list ((lessK k v.ws).map PyData.int), .list [], dps_same' (dp_ints kJ4) (same_upd he0), .lst (SqL.of upd_same) .nil, shaped_ints _, by decide, _, rfl, ?_⟩
      by_cases c6 : lessK k v.ws = []
      · refine iteT' (by rw [c6]; decide) ?_
        refine ⟨_, rfl, du, _, _, _, rfl, rfl, same_upd he0 _ _ kd4, rfl, ?_⟩
        refine ⟨_, rfl, Nat.zero_le _, fun e1 he1 => ?_⟩
        have sE := same_upd (o := .lst []) he1
        refine ⟨_, _, .list [], rfl, .lst (by show 0 < 10000; decide) (fun d hd => by simp at hd), .lst (SqL.of (sE _ _ ((upd_ne ldu).trans (same_upd he0 _ _ kl4)))) .nil, .lst (SqL.of upd_same) .nil, fun H9 s9 => ?_⟩
        refine ⟨_, rfl, iteT' rfl ?_⟩
        have f9 : ∀ {b : Addr} {x : HO}, b ≠ du → H4 b = some x → H9 b = some x := fun n e => s9 _ _ (sE _ _ ((fun (b : Addr) (x : HO) (n : b ≠ du) (e : H4 b = some x) => (upd_ne n).trans (same_upd he0 _ _ e)) _ _ n e))
        have d9 := s9 _ _ (sE _ _ upd_same)
        have cH : ChgS [p, a.tg, du] H H9 := fun b x nb e => by
          simp only [List.mem_cons, List.not_mem_nil, or_false, not_or] at nb
          exact f9 nb.2.2 (cg b x (by
            simp only [List.mem_cons, List.not_mem_nil, or_false, not_or]
            exact ⟨nb.1, nb.2.1⟩) (c3 b x nb.2.2 e))
        have st9 : ∀ a' xs, SqT K H a' xs → SqT K H9 a' xs := fun a' xs z => sqt_S (fun b m => by
          simp only [List.mem_cons, List.not_mem_nil, or_false] at m
          rcases m with rfl | rfl | rfl
          · exact .inr ⟨_, _, _, W.m.hp⟩
          · exact .inl ⟨_, W.m.ht⟩
          · exact .inl ⟨_, W.d.hd⟩) cH z
        have d9' : H9 du = some (.lst [.int v.me, .str (stB v.st (lessK k v.ws)), .int v.cnt, a.stq, .ref J, .ref J2, .ref J3]) := by rw [(show stB v.st (lessK k v.ws) = "in" by simp [stB, inB, c5, c6])]; exact d9
        have hldu : hl' ≠ du := (ne_of_none kd3 nhl).symm
        have awdu : aw' ≠ du := (ne_of_none kd3 naw).symm
        have W9 : SW K H9 C p du (letV v k c true us') { a with aw := aw', hl := hl', d4 := J, d5 := J2, d6 := J3 } := {
          m := ⟨f9 npd kp, f9 awdu kaw, f9 hldu khl, f9 W.t_du ktg, n3.symm, (ne_of_none M3.ht naw).symm, (ne_of_none M3.ht nhl).symm⟩
          d := ⟨d9', f9 Jdu kJ4, f9 J2du (pJ (ne_of_none W.m.ht J2H).symm kJ2_3), f9 J3du (pJ (ne_of_none W.m.ht J3H).symm kJ3_3), dp_stamp W.sd st9 W.d.hs_⟩
          sp := dp_stamp W.sd st9 W.sp
          sd := W.sd
          per := per'.trans (W.per.append_right [k])
          srt := srt'
          lw := Nat.lt_of_le_of_lt (List.length_filter_le _ _) W.lw
          lh := Nat.lt_of_le_of_lt (List.length_filter_le _ _) W.lh
          lt := by show (v.ts ++ [k]).length < 64; rw [List.length_append]; exact lt
          h_du := hldu, h_4 := (ne_of_none kJ_3 nhl).symm, h_5 := (ne_of_none kJ2_3 nhl).symm, h_6 := (ne_of_none kJ3_3 nhl).symm
          t_du := W.t_du, t_4 := ne_of_none W.m.ht hJ, t_5 := ne_of_none W.m.ht J2H, t_6 := ne_of_none W.m.ht J3H
          u_aw := awdu.symm, u_4 := Jdu.symm, u_5 := J2du.symm, u_6 := J3du.symm }
        refine ⟨_, rfl, _, rfl, W9.stands (E := E0) fun H10 s10 => ?_⟩
        exact q us' _ H10 (W9.same s10) (.inr (none_back (fun x z => c3 _ _ hldu z) nhl)) rfl (.inr (none_back (fun x z => c3 _ _ awdu z) naw)) (.inr hJ) (.inr J2H) (.inr J3H) (fun b x nb e => s10 _ _ (cH b x nb e))
      · refine iteF' (by
          obtain ⟨y, r, e⟩ := List.exists_cons_of_ne_nil c6
          rw [e]
          simp [PyData.eqv, PyData.eqvAll]) ?_
        refine ⟨_, rfl, Nat.zero_le _, fun e1 he1 => ?_⟩
        have sE := same_upd (o := .lst []) he1
        refine ⟨_, _, .list [], rfl, .lst (by show 0 < 10000; decide) (fun d hd => by simp at hd), .lst (SqL.of (sE _ _ (same_upd he0 _ _ kl4))) .nil, .lst (SqL.of upd_same) .nil, fun H9 s9 => ?_⟩
        refine ⟨_, rfl, iteT' rfl ?_⟩
        have f9 : ∀ {b : Addr} {x : HO}, b ≠ du → H4 b = some x → H9 b = some x := fun n e => s9 _ _ (sE _ _ ((fun (b : Addr) (x : HO) (n : b ≠ du) (e : H4 b = some x) => same_upd he0 _ _ e) _ _ n e))
        have d9 := s9 _ _ (sE _ _ (same_upd he0 _ _ kd4))
        have cH : ChgS [p, a.tg, du] H H9 := fun b x nb e => by
          simp only [List.mem_cons, List.not_mem_nil, or_false, not_or] at nb
          exact f9 nb.2.2 (cg b x (by
            simp only [List.mem_cons, List.not_mem_nil, or_false, not_or]
            exact ⟨nb.1, nb.2.1⟩) (c3 b x nb.2.2 e))
        have st9 : ∀ a' xs, SqT K H a' xs → SqT K H9 a' xs := fun a' xs z => sqt_S (fun b m => by
          simp only [List.mem_cons, List.not_mem_nil, or_false] at m
          rcases m with rfl | rfl | rfl
          · exact .inr ⟨_, _, _, W.m.hp⟩
          · exact .inl ⟨_, W.m.ht⟩
          · exact .inl ⟨_, W.d.hd⟩) cH z
        have d9' : H9 du = some (.lst [.int v.me, .str (stB v.st (lessK k v.ws)), .int v.cnt, a.stq, .ref J, .ref J2, .ref J3]) := by rw [(show stB v.st (lessK k v.ws) = v.st by simp [stB, inB, c6])]; exact d9
        have hldu : hl' ≠ du := (ne_of_none kd3 nhl).symm
        have awdu : aw' ≠ du := (ne_of_none kd3 naw).symm
        have W9 : SW K H9 C p du (letV v k c true us') { a with aw := aw', hl := hl', d4 := J, d5 := J2, d6 := J3 } := {
          m := ⟨f9 npd kp, f9 awdu kaw, f9 hldu khl, f9 W.t_du ktg, n3.symm, (ne_of_none M3.ht naw).symm, (ne_of_none M3.ht nhl).symm⟩
          d := ⟨d9', f9 Jdu kJ4, f9 J2du (pJ (ne_of_none W.m.ht J2H).symm kJ2_3), f9 J3du (pJ (ne_of_none W.m.ht J3H).symm kJ3_3), dp_stamp W.sd st9 W.d.hs_⟩
          sp := dp_stamp W.sd st9 W.sp
          sd := W.sd
          per := per'.trans (W.per.append_right [k])
          srt := srt'
          lw := Nat.lt_of_le_of_lt (List.length_filter_le _ _) W.lw
          lh := Nat.lt_of_le_of_lt (List.length_filter_le _ _) W.lh
          lt := by show (v.ts ++ [k]).length < 64; rw [List.length_append]; exact lt
          h_du := hldu, h_4 := (ne_of_none kJ_3 nhl).symm, h_5 := (ne_of_none kJ2_3 nhl).symm, h_6 := (ne_of_none kJ3_3 nhl).symm
          t_du := W.t_du, t_4 := ne_of_none W.m.ht hJ, t_5 := ne_of_none W.m.ht J2H, t_6 := ne_of_none W.m.ht J3H
          u_aw := awdu.symm, u_4 := Jdu.symm, u_5 := J2du.symm, u_6 := J3du.symm }
        refine ⟨_, rfl, _, rfl, W9.stands (E := E0) fun H10 s10 => ?_⟩
        exact q us' _ H10 (W9.same s10) (.inr (none_back (fun x z => c3 _ _ hldu z) nhl)) rfl (.inr (none_back (fun x z => c3 _ _ awdu z) naw)) (.inr hJ) (.inr J2H) (.inr J3H) (fun b x nb e => s10 _ _ (cH b x nb e))
    · refine iteF' (by simp [c5]) ?_
      refine iteF' rfl ?_
      refine ⟨_, rfl, Nat.zero_le _, fun e1 he1 => ?_⟩
      have sE := same_upd (o := .lst []) he1
      refine ⟨_, _, .list [], rfl, .lst (by show 0 < 10000; decide) (fun d hd => by simp at hd), .lst (SqL.of (sE _ _ kl4)) .nil, .lst (SqL.of upd_same) .nil, fun H9 s9 => ?_⟩
      refine ⟨_, rfl, iteT' rfl ?_⟩
      have f9 : ∀ {b : Addr} {x : HO}, b ≠ du → H4 b = some x → H9 b = some x := fun n e => s9 _ _ (sE _ _ ((fun b x (n : b ≠ du) e => (e : H4 b = some x)) _ _ n e))
      have d9 := s9 _ _ (sE _ _ kd4)
      have cH : ChgS [p, a.tg, du] H H9 := fun b x nb e => by
        simp only [List.mem_cons, List.not_mem_nil, or_false, not_or] at nb
        exact f9 nb.2.2 (cg b x (by
          simp only [List.mem_cons, List.not_mem_nil, or_false, not_or]
          exact ⟨nb.1, nb.2.1⟩) (c3 b x nb.2.2 e))
      have st9 : ∀ a' xs, SqT K H a' xs → SqT K H9 a' xs := fun a' xs z => sqt_S (fun b m => by
        simp only [List.mem_cons, List.not_mem_nil, or_false] at m
        rcases m with rfl | rfl | rfl
        · exact .inr ⟨_, _, _, W.m.hp⟩
        · exact .inl ⟨_, W.m.ht⟩
        · exact .inl ⟨_, W.d.hd⟩) cH z
      have d9' : H9 du = some (.lst [.int v.me, .str (stB v.st (lessK k v.ws)), .int v.cnt, a.stq, .ref J, .ref J2, .ref J3]) := by rw [(show stB v.st (lessK k v.ws) = v.st by simp [stB, inB, c5])]; exact d9
      have hldu : hl' ≠ du := (ne_of_none kd3 nhl).symm
      have awdu : aw' ≠ du := (ne_of_none kd3 naw).symm
      have W9 : SW K H9 C p du (letV v k c true us') { a with aw := aw', hl := hl', d4 := J, d5 := J2, d6 := J3 } := {
        m := ⟨f9 npd kp, f9 awdu kaw, f9 hldu khl, f9 W.t_du ktg, n3.symm, (ne_of_none M3.ht naw).symm, (ne_of_none M3.ht nhl).symm⟩
        d := ⟨d9', f9 Jdu kJ4, f9 J2du (pJ (ne_of_none W.m.ht J2H).symm kJ2_3), f9 J3du (pJ (ne_of_none W.m.ht J3H).symm kJ3_3), dp_stamp W.sd st9 W.d.hs_⟩
        sp := dp_stamp W.sd st9 W.sp
        sd := W.sd
        per := per'.trans (W.per.append_right [k])
        srt := srt'
        lw := Nat.lt_of_le_of_lt (List.length_filter_le _ _) W.lw
        lh := Nat.lt_of_le_of_lt (List.length_filter_le _ _) W.lh
        lt := by show (v.ts ++ [k]).length < 64; rw [List.length_append]; exact lt
        h_du := hldu, h_4 := (ne_of_none kJ_3 nhl).symm, h_5 := (ne_of_none kJ2_3 nhl).symm, h_6 := (ne_of_none kJ3_3 nhl).symm
        t_du := W.t_du, t_4 := ne_of_none W.m.ht hJ, t_5 := ne_of_none W.m.ht J2H, t_6 := ne_of_none W.m.ht J3H
        u_aw := awdu.symm, u_4 := Jdu.symm, u_5 := J2du.symm, u_6 := J3du.symm }
      refine ⟨_, rfl, _, rfl, W9.stands (E := E0) fun H10 s10 => ?_⟩
      exact q us' _ H10 (W9.same s10) (.inr (none_back (fun x z => c3 _ _ hldu z) nhl)) rfl (.inr (none_back (fun x z => c3 _ _ awdu z) naw)) (.inr hJ) (.inr J2H) (.inr J3H) (fun b x nb e => s10 _ _ (cH b x nb e))
  | false =>
    refine iteF' (by decide +kernel) ?_
    obtain ⟨c0, m0, eds, le⟩ := yes rfl
    obtain ⟨sb, esb, qsb⟩ := stamp_two (by rw [← eds]; exact W.d.hs_)
    refine ⟨_, rfl, du, _, _, _, rfl, rfl, SqL.of kd, rfl, _, rfl, o, _, _, _, rfl, rfl, SqL.of ko, rfl, _, _, rfl, ?_⟩
    refine ⟨_, rfl, du, _, _, _, rfl, rfl, kd, rfl, ?_⟩
    obtain ⟨G2, hG2⟩ : ∃ G2, G2 = upd (upd (upd H J (.lst ((lessK k v.ws).map V.int))) du (.lst [.int v.me, .str v.st, .int v.cnt, a.stq, .ref J, .ref a.d5, .ref a.d6])) du (.lst [.int v.me, .str v.st, .int (maxI v.cnt c), a.stq, .ref J, .ref a.d5, .ref a.d6]) := ⟨_, rfl⟩
    have kd2 : G2 du = some (.lst [.int v.me, .str v.st, .int (maxI v.cnt c), a.stq, .ref J, .ref a.d5, .ref a.d6]) := by rw [hG2, upd_same]
    have kJ_2 : G2 J = some (.lst ((lessK k v.ws).map V.int)) := by rw [hG2, upd_ne Jdu]; exact kJ
    have c2 : ∀ b x, b ≠ du → H b = some x → G2 b = some x := fun b x n1 e => by rw [hG2, upd_ne n1]; exact c1 b x n1 e
    have ko2 := c2 _ _ o1 ho
    have st2 : ∀ a' xs, SqT K H a' xs → SqT K G2 a' xs := fun a' xs z => sqt_S (S := [du]) (fun b m => by
      simp only [List.mem_cons, List.not_mem_nil, or_false] at m
      subst m
      exact .inl ⟨_, W.d.hd⟩) (fun b x nb e => c2 b x (by simpa using nb) e) z
    obtain ⟨sa, esa, qsa⟩ := stamp_two (by rw [← eds]; exact W.sp)
    have lw := W.lw
    have lh := W.lh
    have kp2 := c2 _ _ npd W.m.hp
    subst hG2
    refine ⟨_, rfl, p, a.dx, _, rfl, kp2, (stF_no _ _ _ _ _ _ _ _ _ (by decide +kernel) (by decide +kernel) (by decide +kernel) (by decide +kernel) (by decide +kernel) (by decide +kernel) (by decide +kernel) (by decide +kernel) (by decide +kernel) ), _, rfl, o, _, _, _, rfl, rfl, SqL.of ko2, rfl, _, rfl, o, _, _, _, rfl, rfl, SqL.of ko2, rfl, _, rfl, du, _, _, _, rfl, rfl, SqL.of kd2, rfl, sb, _, _, _, esb, rfl, st2 _ _ qsb, rfl, _, _, rfl, by show 2 ≤ sizeLine; decide, fun lt' hlt => ?_⟩
    have s3 := same_upd (o := .tup [.str "yes", .int (maxI c c0)]) hlt
    refine ⟨p, a.dx, v.me, v.st, a.si, v.cnt, a.stp, v.n, a.aw, a.hl, a.tg, lt', v.ws, v.hs, [c0, m0], k, maxI c c0, false, rfl, s3 _ _ kp2, s3 _ _ (c2 _ _ W.u_aw.symm W.m.ha), s3 _ _ (c2 _ _ W.h_du W.m.hh), by omega, by omega, fun _ => ⟨sa, esa, sqt_same s3 (st2 _ _ qsa)⟩, SqT.of upd_same, ?_⟩
    rw [if_neg (by simp)]
    intro l aw' H4 nl naw n2 cg kl kaw kp
    rw [maxI_le le] at kp
    have kd3 := s3 _ _ kd2
    have c3 := fun b x n e => s3 _ _ (c2 b x n e)
    have kd4 := cg _ _ npd.symm kd3
    have kJ4 := cg _ _ (ne_of (s3 _ _ kJ_2) (s3 _ _ kp2) (by intro z; cases z)) (s3 _ _ kJ_2)
    have kl4 := kl
    have ldu : l ≠ du := (ne_of_none kd3 nl).symm
    have awdu : aw' ≠ du := (ne_of_none kd3 naw).symm
    refine ⟨_, rfl, du, _, _, _, rfl, rfl, SqL.of kd4, rfl, rfl, _, rfl, ?_⟩
    rw [dec_str]
    by_cases c5 : v.st = "asking"
    · refine iteT' (by simp [c5]) ?_
      refine ⟨_, rfl, du, _, _, _, rfl, rfl, SqL.of kd4, rfl, Nat.zero_le _, fun e0 he0 => ?_⟩
      refine .inr ⟨.list ((lessK k v.ws).map PyData.int), .list [], dps_same' (dp_ints kJ4) (same_upd he0), .lst (SqL.of upd_same) .nil, shaped_ints _, by decide, _, rfl, ?_⟩
      by_cases c6 : lessK k v.ws = []
      · refine iteT' (by rw [c6]; decide) ?_
        refine ⟨_, rfl, du, _, _, _, rfl, rfl, same_upd he0 _ _ kd4, rfl, ?_⟩
        refine ⟨_, rfl, Nat.zero_le _, fun e1 he1 => ?_⟩
        have sE := same_upd (o := .lst []) he1
        refine ⟨_, _, .list [], rfl, .lst (by show 0 < 10000; decide) (fun d hd => by simp at hd), .lst (SqL.of (sE _ _ ((upd_ne ldu).trans (same_upd he0 _ _ kl4)))) .nil, .lst (SqL.of upd_same) .nil, fun H9 s9 => ?_⟩
        refine ⟨_, rfl, iteT' rfl ?_⟩
        have f9 : ∀ {b : Addr} {x : HO}, b ≠ du → H4 b = some x → H9 b = some x := fun n e => s9 _ _ (sE _ _ ((fun (b : Addr) (x : HO) (n : b ≠ du) (e : H4 b = some x) => (upd_ne n).trans (same_upd he0 _ _ e)) _ _ n e))
        have d9 := s9 _ _ (sE _ _ upd_same)
        have cP : ∀ b x, b ≠ p → b ≠ du → H b = some x → H9 b = some x := fun b x n1 n2 e => f9 n2 (cg b x n1 (c3 b x n2 e))
        have cH : ChgS [p, a.tg, du] H H9 := fun b x nb e => by
          simp only [List.mem_cons, List.not_mem_nil, or_false, not_or] at nb
          exact cP b x nb.1 nb.2.2 e
        have st9 : ∀ a' xs, SqT K H a' xs → SqT K H9 a' xs := fun a' xs z => sqt_S (fun b m => by
          simp only [List.mem_cons, List.not_mem_nil, or_false] at m
          rcases m with rfl | rfl | rfl
          · exact .inr ⟨_, _, _, W.m.hp⟩
          · exact .inl ⟨_, W.m.ht⟩
          · exact .inl ⟨_, W.d.hd⟩) cH z
        have d9' : H9 du = some (.lst [.int v.me, .str (stB v.st (lessK k v.ws)), .int (maxI v.cnt c), a.stq, .ref J, .ref a.d5, .ref a.d6]) := by rw [(show stB v.st (lessK k v.ws) = "in" by simp [stB, inB, c5, c6])]; exact d9
        have W9 : SW K H9 C p du (letV v k c false v.us) { a with aw := aw', d4 := J } := {
          m := ⟨f9 npd kp, f9 awdu kaw, cP _ _ (W.np W.m.hh) W.h_du W.m.hh, cP _ _ (W.np W.m.ht) W.t_du W.m.ht, (ne_of_none (c3 _ _ W.h_du W.m.hh) naw).symm, (ne_of_none (c3 _ _ W.t_du W.m.ht) naw).symm, W.m.nht⟩
          d := ⟨d9', f9 Jdu kJ4, cP _ _ (W.np W.d.h5) W.u_5.symm W.d.h5, cP _ _ (W.np W.d.h6) W.u_6.symm W.d.h6, dp_stamp W.sd st9 W.d.hs_⟩
          sp := dp_stamp W.sd st9 W.sp
          sd := W.sd
          per := W.per
          srt := W.srt
          lw := Nat.lt_of_le_of_lt (List.length_filter_le _ _) W.lw
          lh := W.lh
          lt := W.lt
          h_du := W.h_du, h_4 := ne_of_none W.m.hh hJ, h_5 := W.h_5, h_6 := W.h_6
          t_du := W.t_du, t_4 := ne_of_none W.m.ht hJ, t_5 := W.t_5, t_6 := W.t_6
          u_aw := awdu.symm, u_4 := Jdu.symm, u_5 := W.u_5, u_6 := W.u_6 }
        refine ⟨_, rfl, _, rfl, W9.stands (E := E0) fun H10 s10 => ?_⟩
        exact q v.us _ H10 (W9.same s10) (.inl rfl) rfl (.inr (none_back (fun x z => c3 _ _ awdu z) naw)) (.inr hJ) (.inl rfl) (.inl rfl) (fun b x nb e => s10 _ _ (cH b x nb e))
      · refine iteF' (by
          obtain ⟨y, r, e⟩ := List.exists_cons_of_ne_nil c6
          rw [e]
          simp [PyData.eqv, PyData.eqvAll]) ?_
        refine ⟨_, rfl, Nat.zero_le _, fun e1 he1 => ?_⟩
        have sE := same_upd (o := .lst []) he1
        refine ⟨_, _, .list [], rfl, .lst (by show 0 < 10000; decide) (fun d hd => by simp at hd), .lst (SqL.of (sE _ _ (same_upd he0 _ _ kl4))) .nil, .lst (SqL.of upd_same) .nil, fun H9 s9 => ?_⟩
        refine ⟨_, rfl, iteT' rfl ?_⟩
        have f9 : ∀ {b : Addr} {x : HO}, b ≠ du → H4 b = some x → H9 b = some x := fun n e => s9 _ _ (sE _ _ ((fun (b : Addr) (x : HO) (n : b ≠ du) (e : H4 b = some x) => same_upd he0 _ _ e) _ _ n e))
        have d9 := s9 _ _ (sE _ _ (same_upd he0 _ _ kd4))
        have cP : ∀ b x, b ≠ p → b ≠ du → H b = some x → H9 b = some x := fun b x n1 n2 e => f9 n2 (cg b x n1 (c3 b x n2 e))
        have cH : ChgS [p, a.tg, du] H H9 := fun b x nb e => by
          simp only [List.mem_cons, List.not_mem_nil, or_false, not_or] at nb
          exact cP b x nb.1 nb.2.2 e
        have st9 : ∀ a' xs, SqT K H a' xs → SqT K H9 a' xs := fun a' xs z => sqt_S (fun b m => by
          simp only [List.mem_cons, List.not_mem_nil, or_false] at m
          rcases m with rfl | rfl | rfl
          · exact .inr ⟨_, _, _, W.m.hp⟩
          · exact .inl ⟨_, W.m.ht⟩
          · exact .inl ⟨_, W.d.hd⟩) cH z
        have d9' : H9 du = some (.lst [.int v.me, .str (stB v.st (lessK k v.ws)), .int (maxI v.cnt c), a.stq, .ref J, .ref a.d5, .ref a.d6]) := by rw [(show stB v.st (lessK k v.ws) = v.st by simp [stB, inB, c6])]; exact d9
        have W9 : SW K H9 C p du (letV v k c false v.us) { a with aw := aw', d4 := J } := {
          m := ⟨f9 npd kp, f9 awdu kaw, cP _ _ (W.np W.m.hh) W.h_du W.m.hh, cP _ _ (W.np W.m.ht) W.t_du W.m.ht, (ne_of_none (c3 _ _ W.h_du W.m.hh) naw).symm, (ne_of_none (c3 _ _ W.t_du W.m.ht) naw).symm, W.m.nht⟩
          d := ⟨d9', f9 Jdu kJ4, cP _ _ (W.np W.d.h5) W.u_5.symm W.d.h5, cP _ _ (W.np W.d.h6) W.u_6.symm W.d.h6, dp_stamp W.sd st9 W.d.hs_⟩
          sp := dp_stamp W.sd st9 W.sp
          sd := W.sd
          per := W.per
          srt := W.srt
          lw := Nat.lt_of_le_of_lt (List.length_filter_le _ _) W.lw
          lh := W.lh
          lt := W.lt
          h_du := W.h_du, h_4 := ne_of_none W.m.hh hJ, h_5 := W.h_5, h_6 := W.h_6
          t_du := W.t_du, t_4 := ne_of_none W.m.ht hJ, t_5 := W.t_5, t_6 := W.t_6
          u_aw := awdu.symm, u_4 := Jdu.symm, u_5 := W.u_5, u_6 := W.u_6 }
        refine ⟨_, rfl, _, rfl, W9.stands (E := E0) fun H10 s10 => ?_⟩
        exact q v.us _ H10 (W9.same s10) (.inl rfl) rfl (.inr (none_back (fun x z => c3 _ _ awdu z) naw)) (.inr hJ) (.inl rfl) (.inl rfl) (fun b x nb e => s10 _ _ (cH b x nb e))
    · refine iteF' (by simp [c5]) ?_
      refine iteF' rfl ?_
      refine ⟨_, rfl, Nat.zero_le _, fun e1 he1 => ?_⟩
      have sE := same_upd (o := .lst []) he1
      refine ⟨_, _, .list [], rfl, .lst (by show 0 < 10000; decide) (fun d hd => by simp at hd), .lst (SqL.of (sE _ _ kl4)) .nil, .lst (SqL.of upd_same) .nil, fun H9 s9 => ?_⟩
      refine ⟨_, rfl, iteT' rfl ?_⟩
      have f9 : ∀ {b : Addr} {x : HO}, b ≠ du → H4 b = some x → H9 b = some x := fun n e => s9 _ _ (sE _ _ ((fun b x (n : b ≠ du) e => (e : H4 b = some x)) _ _ n e))
      have d9 := s9 _ _ (sE _ _ kd4)
      have cP : ∀ b x, b ≠ p → b ≠ du → H b = some x → H9 b = some x := fun b x n1 n2 e => f9 n2 (cg b x n1 (c3 b x n2 e))
      have cH : ChgS [p, a.tg, du] H H9 := fun b x nb e => by
        simp only [List.mem_cons, List.not_mem_nil, or_false, not_or] at nb
        exact cP b x nb.1 nb.2.2 e
      have st9 : ∀ a' xs, SqT K H a' xs → SqT K H9 a' xs := fun a' xs z => sqt_S (fun b m => by
        simp only [List.mem_cons, List.not_mem_nil, or_false] at m
        rcases m with rfl | rfl | rfl
        · exact .inr ⟨_, _, _, W.m.hp⟩
        · exact .inl ⟨_, W.m.ht⟩
        · exact .inl ⟨_, W.d.hd⟩) cH z
      have d9' : H9 du = some (.lst [.int v.me, .str (stB v.st (lessK k v.ws)), .int (maxI v.cnt c), a.stq, .ref J, .ref a.d5, .ref a.d6]) := by rw [(show stB v.st (lessK k v.ws) = v.st by simp [stB, inB, c5])]; exact d9
      have W9 : SW K H9 C p du (letV v k c false v.us) { a with aw := aw', d4 := J } := {
        m := ⟨f9 npd kp, f9 awdu kaw, cP _ _ (W.np W.m.hh) W.h_du W.m.hh, cP _ _ (W.np W.m.ht) W.t_du W.m.ht, (ne_of_none (c3 _ _ W.h_du W.m.hh) naw).symm, (ne_of_none (c3 _ _ W.t_du W.m.ht) naw).symm, W.m.nht⟩
        d := ⟨d9', f9 Jdu kJ4, cP _ _ (W.np W.d.h5) W.u_5.symm W.d.h5, cP _ _ (W.np W.d.h6) W.u_6.symm W.d.h6, dp_stamp W.sd st9 W.d.hs_⟩
        sp := dp_stamp W.sd st9 W.sp
        sd := W.sd
        per := W.per
        srt := W.srt
        lw := Nat.lt_of_le_of_lt (List.length_filter_le _ _) W.lw
        lh := W.lh
        lt := W.lt
        h_du := W.h_du, h_4 := ne_of_none W.m.hh hJ, h_5 := W.h_5, h_6 := W.h_6
        t_du := W.t_du, t_4 := ne_of_none W.m.ht hJ, t_5 := W.t_5, t_6 := W.t_6
        u_aw := awdu.symm, u_4 := Jdu.symm, u_5 := W.u_5, u_6 := W.u_6 }
      refine ⟨_, rfl, _, rfl, W9.stands (E := E0) fun H10 s10 => ?_⟩
      exact q v.us _ H10 (W9.same s10) (.inl rfl) rfl (.inr (none_back (fun x z => c3 _ _ awdu z) naw)) (.inr hJ) (.inl rfl) (.inl rfl) (fun b x nb e => s10 _ _ (cH b x nb e))
end

end G0
namespace G0
open PySem PySem.Spec PyProof.Rows L2
section
variable {P : Program} {w : World} {K : PySem.W.Frag} {mg : Str → Option Value} {base : Heap} {C : Addr}
/-! ### _law_others -/
structure BlO (mg : Str → Option Value) : Prop where
  len : mg "len" = none
  range : mg "range" = none
structure OV where
  s : Int
  c : Int
  e2 : Int
  e3 : Int
def OV.vs (e : OV) : List V := [.int e.s, .int e.c, .int e.e2, .int e.e3]
/-- the drawn ones: their lists stand at their places -/
inductive Oths (H : Hp) : List V → List OV → Prop
  | nil : Oths H [] []
  | cons {o : Addr} {e : OV} {vs : List V} {es : List OV} : H o = some (.lst e.vs) → Oths H vs es → Oths H (.ref o :: vs) (e :: es)
def OthW (H : Hp) (p J D : Addr) (n me : Int) (all : List Int) (m : Nat) (σ : L2.St) (G : Hp) : Prop := ∃ (z4 z6 : Option V) (ls : List Int) (os : List V) (es : List OV) (k : Nat), m = ls.length ∧ σ = [some (V.ref p), some (V.int n), some (V.int me), some (V.ref J), z4, some (V.ref D), z6] ∧ Chg p H G ∧ G J = some (.lst (ls.map V.int)) ∧ G D = some (.lst os) ∧
      Oths G os es ∧ os.Nodup ∧ (∀ o ∈ os, ∃ b, o = .ref b ∧ H b = none ∧ b ≠ p ∧ b ≠ J ∧ b ≠ D ∧ G b ≠ none) ∧ (es.map OV.s ++ ls).Perm all ∧ (∀ e ∈ es, 1 ≤ e.c ∧ 0 ≤ e.e2 ∧ e.e2 < 4 ∧ 0 ≤ e.e3 ∧ e.e3 < 5) ∧ PotAt k G p ∧ k + 5 * ls.length ≤ 400
theorem map_erase : ∀ (xs : List Int) (i : Nat), (xs.map V.int).eraseIdx i = (xs.eraseIdx i).map V.int
  | [], _ => rfl
  | _ :: _, 0 => rfl
  | x :: xs, i + 1 => congrArg (V.int x :: ·) (map_erase xs i)
theorem erase_perm : ∀ (xs : List Int) (i : Nat) (v : Int), xs[i]? = some v → (v :: xs.eraseIdx i).Perm xs
  | [], _, _, h => by simp at h
  | x :: xs, 0, v, h => by
    have e : x = v := by simpa using h
    rw [e]
    exact .refl _
  | x :: xs, i + 1, v, h => (List.Perm.swap x v _).trans ((erase_perm xs i v (by simpa using h)).cons x)
theorem Oths.keep {H H' : Hp} : ∀ {os : List V} {es : List OV}, Oths H os es → (∀ b, .ref b ∈ os → ∀ x, H b = some x → H' b = some x) → Oths H' os es
  | _, _, .nil, _ => .nil
  | _, _, .cons h t, c => .cons (c _ (List.mem_cons_self ..) _ h) (t.keep fun b m x e => c b (List.mem_cons_of_mem _ m) x e)
theorem Oths.app {H : Hp} : ∀ {os os' : List V} {es es' : List OV}, Oths H os es → Oths H os' es' → Oths H (os ++ os') (es ++ es')
  | _, _, _, _, .nil, h => h
  | _, _, _, _, .cons h t, h' => .cons h (t.app h')
theorem Oths.len {H : Hp} : ∀ {os : List V} {es : List OV}, Oths H os es → os.length = es.length
  | _, _, .nil => rfl
  | _, _, .cons _ t => congrArg (· + 1) t.len
def spOthers : Sp := fun vs H Q _ => ∃ (p : Addr) (n me : Int), vs = [.ref p, .int n, .int me] ∧ PotAt 0 H p ∧ 0 ≤ n ∧ n ≤ 60 ∧
  ∀ (l : Addr) (os : List V) (es : List OV) H', H l = none → Chg p H H' → H' l = some (.lst os) → Oths H' os es → os.Nodup → (∀ o ∈ os, ∃ b, o = .ref b ∧ H b = none) → ((es.map OV.s).Perm ((upto n).filter fun j => !decide (j = me))) → (∀ e ∈ es, 1 ≤ e.c ∧ 0 ≤ e.e2 ∧ e.e2 < 4 ∧ 0 ≤ e.e3 ∧ e.e3 < 5) → Q (.ref l) H'
theorem sc_law_others : FnScope ["pot", "seats", "me", "left", "seat", "found", "top"] ["pot", "seats", "me"] (defScope s_law_others) :=
  ⟨rfl, rfl, rfl, by decide +kernel, rfl, by decide +kernel, by decide +kernel⟩
theorem ok_others (F : Fn K mg "_law_others" s_law_others) (T : BlO mg) (C_draw : Cal P w K mg base "_law_draw" 1 ["pot", "many"] spDraw) : Cal P w K mg base "_law_others" 2 ["pot", "seats", "me"] spOthers := by
  refine cal_of F sc_law_others
    (fun _ _ _ _ _ _ us hl => match us, hl with | [_, _, _], _ => rfl) ?_ ?_
  · rintro vs H Q E ⟨p, n, me, rfl, _⟩
    rfl
  rintro f cdv A outer s H vs Q E free hr ⟨p, n, me, rfl, hP, n0, n1, q⟩
  refine ⟨_, (pss_cons (ps_setLc (i := 3) (own := [("seat", 4)]) (g := gName 4)  (by rfl) sc_law_others.nd rfl rfl (sw_true rfl rfl rfl (by decide +kernel)) (pi_range1 (by rfl) T.range (pa_cons (pv 1) pa_nil)) (blkOk_by (N := ["pot", "seats", "me", "left", "seat", "found", "top"]) (sc := defScope s_law_others) (by decide +kernel)) (fun _ _ _ _ _ => pg_name (i := 4) sc_law_others.nd rfl (Or.inl rfl)) (fun _ _ _ _ _ => pts_one (pt_cmpR op_ne (pv 4) (pv 2) (nomark _))) (fun _ _ _ _ _ => (pv 4)))
    (pss_cons (ps_set (i := 5) sc_law_others.nd rfl (Or.inl rfl) (pe_lst pa_nil))
    (pss_cons (ps_while PassesOwn.never (pt_cmpR (u_ne (u64 hr)) (pv 3) (pe_lst pa_nil) (nomark _))
    (pss_cons (ps_set (i := 4) sc_law_others.nd rfl (Or.inl rfl) (pe_bm PySem.F.plainAttrs_list PySem.F.slot_list_pop PySem.F.type_list_pop mt_popAt (pv 3) (pa_cons (pe_cal C_draw free (hr.mono (by decide)) (pa_cons (pv 0) (pa_cons (pe_callB call_len_seq (by rfl) T.len (by decide +kernel) (pa_cons (pv 3) pa_nil)) pa_nil))) pa_nil)))
    (pss_cons (ps_set (i := 6) sc_law_others.nd rfl (Or.inl rfl) (pe_ix ix_list (pe_lst (pa_cons pe_int (pa_cons pe_int (pa_cons (pe_op op_sub (pe_op op_pow pe_int pe_int) pe_int) pa_nil)))) (pe_cal C_draw free (hr.mono (by decide)) (pa_cons (pv 0) (pa_cons pe_int pa_nil))) (fun _ _ => rfl)))
    (pss_one (ps_expr (pe_bm PySem.F.plainAttrs_list PySem.F.slot_list_append PySem.F.type_list_append mt_append (pv 5) (pa_cons (pe_lst (pa_cons (pv 4) (pa_cons (pe_op op_add pe_int (pe_cal C_draw free (hr.mono (by decide)) (pa_cons (pv 0) (pa_cons (pv 6) pa_nil)))) (pa_cons (pe_cal C_draw free (hr.mono (by decide)) (pa_cons (pv 0) (pa_cons pe_int pa_nil))) (pa_cons (pe_cal C_draw free (hr.mono (by decide)) (pa_cons (pv 0) (pa_cons pe_int pa_nil))) pa_nil))))) pa_nil)))))))
    (pss_one (ps_ret (pv 5)))))), ?_⟩
  obtain ⟨all, hall⟩ : ∃ all, all = (upto n).filter fun j => !decide (j = me) := ⟨_, rfl⟩
  refine ⟨_, rfl, _, rfl, by omega, by omega, fun J hJ => ?_⟩
  refine lc_range (lo := 0) (n := n.toNat) (fun i G => G = upd H J (.lst ((((upto n).take i).filter fun j => !decide (j = me)).map V.int))) (by simp) ?_ ?_
  · rintro i G hi rfl
    have e9 : (0 : Int) + (i : Int) = ((i : Nat) : Int) := by omega
    refine ⟨rfl, _, rfl, _, rfl, rfl, _, rfl, ?_⟩
    rw [filt_snoc (upto_at hi), e9]
    refine ite2 (fun c2 => ?_) (fun c2 => ?_)
    · have c3 : (fun j => !decide (j = me)) ((i : Nat) : Int) = true := by simpa [dec_ii] using c2
      rw [if_pos c3]
      have lf := List.length_filter_le (fun j => !decide (j = me)) ((upto n).take i)
      have lu : (upto n).length = n.toNat := upto_len
      refine ⟨_, rfl, _, upd_same, ?_, ?_⟩
      · rw [List.length_map]
        exact Nat.lt_of_le_of_lt (Nat.le_trans lf (show ((upto n).take i).length ≤ 1000 by rw [List.length_take]; omega)) (by decide)
      · rw [upd_upd, List.map_append]; rfl
    · have c3 : ¬ ((fun j => !decide (j = me)) ((i : Nat) : Int) = true) := by simpa [dec_ii] using c2
      rw [if_neg c3, List.append_nil]
  rintro G3 rfl
  rw [← upto_len, List.take_length, ← hall]
  have la : all.length ≤ 60 := by
    have := List.length_filter_le (fun j => !decide (j = me)) (upto n)
    rw [hall]
    rw [upto_len] at this
    omega
  rw [← hall] at q
  refine ⟨Nat.zero_le _, fun D hD => ?_⟩
  have JD : J ≠ D := ne_of_none upd_same hD
  have Jp : J ≠ p := (hP.neD hJ).symm
  have Dp_ : D ≠ p := ((hP.new hJ).neD hD).symm
  have DH : H D = none := none_back (fun x z => same_upd hJ _ _ z) hD
  refine ⟨OthW H p J D n me all,
    ⟨_, _, _, all, [], [], 0, rfl, rfl, fun b o nb e => same_upd hD _ _ (same_upd hJ _ _ e), same_upd hD _ _ upd_same, upd_same, .nil, .nil, fun o h => by simp at h, .refl _, fun o h => by simp at h, (hP.new hJ).new hD, by omega⟩, ?_⟩
  rintro m σ G ⟨z4, z6, ls, os, es, k, rfl, rfl, cg, kJ, kD, ho, nd, fr, per, bd, PG, le⟩
  refine ⟨_, rfl, Nat.zero_le _, fun e he => ?_⟩
  refine .inr ⟨.list (ls.map PyData.int), .list [], dps_same' (dp_ints kJ) (same_upd he), .lst (SqL.of upd_same) .nil, shaped_ints _, by decide, _, rfl, ?_⟩
  cases ls with
  | nil =>
    refine iteF' (by decide) ?_
    exact ⟨_, rfl, q D os es _ DH (cg.trans (Chg.same (same_upd he))) (same_upd he _ _ kD) (ho.keep fun b m x e => same_upd he _ _ e) nd (fun o m => by obtain ⟨b, e, z, _⟩ := fr o m; exact ⟨b, e, z⟩) (by simpa using per) bd⟩
  | cons y r =>
    refine iteT' (by simp [PyData.eqv, PyData.eqvAll]) ?_
    refine ⟨OthW H p J D n me all r.length, fun σ' G' w => ⟨_, by simp, w⟩, ?_⟩
    have lr : (y :: r).length = r.length + 1 := rfl
    have ln : ((y :: r).map V.int).length = r.length + 1 := List.length_map _
    have lall : es.length + (r.length + 1) ≤ 60 := by
      have := per.length_eq
      rw [List.length_append, List.length_map] at this
      omega
    have kJ0 := same_upd (o := .lst []) he _ _ kJ
    have kD0 := same_upd (o := .lst []) he _ _ kD
    refine ⟨_, rfl, .inl ⟨rfl, _, SqL.of kJ0⟩, _, rfl, _, rfl, J, _, rfl, .inl (SqL.of kJ0), p, _, k, rfl, by rw [ln]; omega, by rw [ln]; omega, PG.new he, by omega, fun d ys d0 d1 P1 => ?_⟩
    rw [ln] at d1
    have hk : d.toNat < (y :: r).length := by rw [lr]; omega
    obtain ⟨v, hv⟩ : ∃ v, (y :: r)[d.toNat]? = some v := ⟨_, List.getElem?_eq_getElem hk⟩
    refine ⟨J, _, d, d.toNat, .int v, rfl, rfl, (upd_ne Jp).trans kJ0, by omega, by omega, ?_, by rw [List.getElem?_map, hv]; rfl, ?_⟩
    · rw [ln]
      unfold seqIndex?
      simp only [if_neg (show ¬ d < 0 by omega)]
      rw [if_pos (by simp; omega)]
    obtain ⟨ls', hls⟩ : ∃ ls', ls' = (y :: r).eraseIdx d.toNat := ⟨_, rfl⟩
    rw [show ((y :: r).map V.int).eraseIdx d.toNat = ls'.map V.int by rw [hls]; exact map_erase (y :: r) d.toNat]
    have ll : ls'.length = r.length := by rw [hls, List.length_eraseIdx_of_lt hk]; rfl
    have pl : (v :: ls').Perm (y :: r) := by rw [hls]; exact erase_perm (y :: r) d.toNat v hv
    obtain ⟨Ga, hGa⟩ : ∃ Ga, Ga = upd (upd (upd G e (.lst [])) p (.lst ys)) J (.lst (ls'.map V.int)) := ⟨_, rfl⟩
    have aP : PotAt (k + 1) Ga p := by rw [hGa]; exact (PotAt.at P1).ne Jp.symm rfl
    have aJ : Ga J = some (.lst (ls'.map V.int)) := by rw [hGa, upd_same]
    have aK : ∀ b x, b ≠ p → b ≠ J → G b = some x → Ga b = some x := fun b x n1 n2 z => by rw [hGa, upd_ne n2, upd_ne n1]; exact same_upd he _ _ z
    have aD := aK _ _ Dp_ JD.symm kD
    subst hGa
    refine ⟨_, _, rfl, rfl, ⟨by decide, by decide, by decide⟩, _, _, rfl, rfl, by show 3 ≤ sizeLine; decide, fun t ht => ?_⟩
    have tp : t ≠ p := (aP.neD ht).symm
    refine ⟨_, rfl, p, 3, k + 1, rfl, by decide, by decide, aP.new ht, by omega, fun d2 ys2 d20 d21 P2 => ?_⟩
    obtain ⟨top, etop, top0, top1⟩ : ∃ top : Int, atI [V.int 3, .int 9, .int (10 ^ (Int.toNat 40) - 1)] d2 = some (.int top) ∧ 0 < top ∧ top.natAbs < 2 ^ 250 := by
      have : d2 = 0 ∨ d2 = 1 ∨ d2 = 2 := by omega
      rcases this with rfl | rfl | rfl
      · exact ⟨_, rfl, by decide, by decide⟩
      · exact ⟨_, rfl, by decide, by decide⟩
      · exact ⟨_, rfl, by decide +kernel, by decide +kernel⟩
    refine ⟨t, _, d2, _, rfl, rfl, SqL.of ((upd_ne tp).trans upd_same), etop, ?_⟩
    have tD : t ≠ D := (ne_of_none aD ht).symm
    have tJ : t ≠ J := (ne_of_none aJ ht).symm
    obtain ⟨Gb, hGb⟩ : ∃ Gb, Gb = upd (upd (upd (upd (upd G e (.lst [])) p (.lst ys)) J (.lst (ls'.map V.int))) t (.lst [.int 3, .int 9, .int (10 ^ (Int.toNat 40) - 1)])) p (.lst ys2) := ⟨_, rfl⟩
    have bP : PotAt (k + 2) Gb p := by rw [hGb]; exact PotAt.at P2
    have bK : ∀ b x, b ≠ p → b ≠ J → G b = some x → Gb b = some x := fun b x n1 n2 z => by rw [hGb, upd_ne n1]; exact same_upd ht _ _ (aK b x n1 n2 z)
    have bJ : Gb J = some (.lst (ls'.map V.int)) := by rw [hGb, upd_ne Jp]; exact same_upd ht _ _ aJ
    have bD := bK _ _ Dp_ JD.symm kD
    subst hGb
    refine ⟨_, rfl, .inl ⟨rfl, _, SqL.of bD⟩, _, rfl, _, rfl, _, rfl, p, top, k + 2, rfl, top0, top1, bP, by omega, fun d3 ys3 d30 d31 P3 => ?_⟩
    refine ⟨_, _, rfl, rfl, _, rfl, p, 4, k + 3, rfl, by decide, by decide, PotAt.at P3, by omega, fun d4 ys4 d40 d41 P4 => ?_⟩
    refine ⟨_, rfl, p, 5, k + 4, rfl, by decide, by decide, PotAt.at P4, by omega, fun d5 ys5 d50 d51 P5 => ?_⟩
    refine ⟨by show 4 ≤ sizeLine; decide, fun x hx => ?_⟩
    have P5' := PotAt.at (H := upd (upd (upd (upd (upd (upd (upd G e (.lst [])) p (.lst ys)) J (.lst (ls'.map V.int))) t (.lst [.int 3, .int 9, .int (10 ^ (Int.toNat 40) - 1)])) p (.lst ys2)) p (.lst ys3)) p (.lst ys4)) (p := p) P5
    have xp : x ≠ p := fun z => by rw [z, upd_same] at hx; cases hx
    have cK : ∀ b z, b ≠ p → b ≠ J → G b = some z → upd (upd (upd (upd (upd (upd (upd (upd G e (.lst [])) p (.lst ys)) J (.lst (ls'.map V.int))) t (.lst [.int 3, .int 9, .int (10 ^ (Int.toNat 40) - 1)])) p (.lst ys2)) p (.lst ys3)) p (.lst ys4)) p (.lst ys5) b = some z := fun b z n1 n2 w => by rw [upd_ne n1, upd_ne n1, upd_ne n1]; exact bK b z n1 n2 w
    have cJ : upd (upd (upd (upd (upd (upd (upd (upd G e (.lst [])) p (.lst ys)) J (.lst (ls'.map V.int))) t (.lst [.int 3, .int 9, .int (10 ^ (Int.toNat 40) - 1)])) p (.lst ys2)) p (.lst ys3)) p (.lst ys4)) p (.lst ys5) J = some (.lst (ls'.map V.int)) := by rw [upd_ne Jp, upd_ne Jp, upd_ne Jp]; exact bJ
    have cD := cK _ _ Dp_ JD.symm kD
    have xD : x ≠ D := (ne_of_none cD hx).symm
    have xJ : x ≠ J := (ne_of_none cJ hx).symm
    have xH : H x = none := none_back (fun z w => cK x z xp xJ (cg x z xp w)) hx
    have xG : ∀ b z, b ≠ p → b ≠ J → G b = some z → b ≠ x := fun b z n1 n2 w => ne_of_none (cK b z n1 n2 w) hx
    have xo : V.ref x ∉ os := fun m => by
      obtain ⟨b, eb, _, n1, n2, _, n4⟩ := fr _ m
      cases eb
      cases w : G x with
      | none => exact n4 w
      | some z => exact xG x z n1 n2 w rfl
    have los : os.length < 100 := by rw [ho.len]; omega
    refine ⟨D, os, _, rfl, rfl, same_upd hx _ _ cD, Nat.lt_of_lt_of_le los (by decide), ?_⟩
    have wK : ∀ b z, b ≠ p → b ≠ J → b ≠ D → G b = some z → upd (upd (upd (upd (upd (upd (upd (upd (upd (upd G e (.lst [])) p (.lst ys)) J (.lst (ls'.map V.int))) t (.lst [.int 3, .int 9, .int (10 ^ (Int.toNat 40) - 1)])) p (.lst ys2)) p (.lst ys3)) p (.lst ys4)) p (.lst ys5)) x (.lst [.int v, .int (1 + d3), .int d4, .int d5])) D (.lst (os ++ [.ref x])) b = some z := fun b z n1 n2 n3 w => (upd_ne n3).trans (same_upd hx _ _ (cK b z n1 n2 w))
    refine ⟨_, _, ls', os ++ [.ref x], es ++ [⟨v, 1 + d3, d4, d5⟩], k + 5, ll.symm, rfl, ?_, (upd_ne JD).trans (same_upd hx _ _ cJ), upd_same, ?_, ?_, ?_, ?_, ?_, (P5'.new hx).ne Dp_.symm rfl, by rw [ll]; rw [lr] at le; omega⟩
    · intro b z nb w
      have bJ' : b ≠ J := ne_of_none w hJ
      have bD' : b ≠ D := ne_of_none w DH
      exact wK b z nb bJ' bD' (cg b z nb w)
    · refine Oths.app (ho.keep fun b m z w => ?_) (.cons ((upd_ne xD).trans upd_same) .nil)
      obtain ⟨b', eb, _, n1, n2, n3, _⟩ := fr _ m
      cases eb
      exact wK _ z n1 n2 n3 w
    · exact List.nodup_append.mpr ⟨nd, by simp, fun a ha b hb => by
        rw [List.mem_singleton.mp hb]
        exact fun z => xo (z ▸ ha)⟩
    · intro o m
      rcases List.mem_append.mp m with m | m
      · obtain ⟨b, eb, z, n1, n2, n3, n4⟩ := fr _ m
        refine ⟨b, eb, z, n1, n2, n3, fun w => ?_⟩
        cases u : G b with
        | none => exact n4 u
        | some y => rw [wK b y n1 n2 n3 u] at w; cases w
      · rw [List.mem_singleton.mp m]
        exact ⟨x, rfl, xH, xp, xJ, xD, fun w => by rw [upd_ne xD, upd_same] at w; cases w⟩
    · rw [List.map_append, List.append_assoc]
      exact (List.Perm.append_left _ pl).trans per
    · intro w m
      rcases List.mem_append.mp m with m | m
      · exact bd w m
      · rw [List.mem_singleton.mp m]
        exact ⟨by show 1 ≤ 1 + d3; omega, d40, d41, d50, d51⟩
end

end G0
namespace G0
open PySem PySem.Spec PyProof.Rows L2
section
variable {P : Program} {w : World} {K : PySem.W.Frag} {mg : Str → Option Value} {base : Heap} {C : Addr}
/-! ### what the law holds between two deeds -/
structure Far (a : SA) (p du b : Addr) : Prop where
  p : b ≠ p
  du : b ≠ du
  aw : b ≠ a.aw
  hl : b ≠ a.hl
  tg : b ≠ a.tg
  d4 : b ≠ a.d4
  d5 : b ≠ a.d5
  d6 : b ≠ a.d6
/-- what stands where before is the same or new -/
structure Moved (H : Hp) (a a' : SA) : Prop where
  hl : a'.hl = a.hl ∨ H a'.hl = none
  tg : a'.tg = a.tg
  aw : a'.aw = a.aw ∨ H a'.aw = none
  d4 : a'.d4 = a.d4 ∨ H a'.d4 = none
  d5 : a'.d5 = a.d5 ∨ H a'.d5 = none
  d6 : a'.d6 = a.d6 ∨ H a'.d6 = none
theorem Far.step {H : Hp} {a a' : SA} {p du b : Addr} {x : HO} (F : Far a p du b) (e : H b = some x) (m : Moved H a a') : Far a' p du b := by
  have go : ∀ {c c' : Addr}, b ≠ c → (c' = c ∨ H c' = none) → b ≠ c' := fun n h => by
    rcases h with h | h
    · rw [h]; exact n
    · exact ne_of_none e h
  exact ⟨F.p, F.du, go F.aw m.aw, go F.hl m.hl, by rw [m.tg]; exact F.tg, go F.d4 m.d4, go F.d5 m.d5, go F.d6 m.d6⟩
theorem SW.far {H : Hp} {p du b : Addr} {v : SV} {a : SA} (W : SW K H C p du v a) (h : H b = none) : Far a p du b :=
  ⟨(ne_of_none W.m.hp h).symm, (ne_of_none W.d.hd h).symm, (ne_of_none W.m.ha h).symm, (ne_of_none W.m.hh h).symm, (ne_of_none W.m.ht h).symm, (ne_of_none W.d.h4 h).symm, (ne_of_none W.d.h5 h).symm, (ne_of_none W.d.h6 h).symm⟩
theorem SW.put {H : Hp} {p du b : Addr} {v : SV} {a : SA} {xs ys : List V} (W : SW K H C p du v a) (h : H b = some (.lst xs)) (F : Far a p du b) : SW K (upd H b (.lst ys)) C p du v a := by
  have st : ∀ a' zs, SqT K H a' zs → SqT K (upd H b (.lst ys)) a' zs := fun a' zs z => sqt_S (S := [b]) (fun c m => by
    rw [List.mem_singleton.mp m]
    exact .inl ⟨_, h⟩) (fun c x nc e => by
    rw [upd_ne (by simpa using nc)]
    exact e) z
  exact { W with
    m := ⟨(upd_ne F.p.symm).trans W.m.hp, (upd_ne F.aw.symm).trans W.m.ha, (upd_ne F.hl.symm).trans W.m.hh, (upd_ne F.tg.symm).trans W.m.ht, W.m.nah, W.m.nat, W.m.nht⟩
    d := ⟨(upd_ne F.du.symm).trans W.d.hd, (upd_ne F.d4.symm).trans W.d.h4, (upd_ne F.d5.symm).trans W.d.h5, (upd_ne F.d6.symm).trans W.d.h6, dp_stamp W.sd st W.d.hs_⟩
    sp := dp_stamp W.sd st W.sp }
/-- the drawn ones' lists: all but the count as they were drawn -/
def OthC (H : Hp) (os : List V) (es : List OV) : Prop := os.length = es.length ∧ ∀ (i : Nat) (e : OV), es[i]? = some e → ∃ o c, os[i]? = some (V.ref o) ∧ H o = some (.lst [.int e.s, .int c, .int e.e2, .int e.e3])
theorem Oths.c {H : Hp} : ∀ {os : List V} {es : List OV}, Oths H os es → OthC H os es
  | _, _, .nil => ⟨rfl, fun i e h => by simp at h⟩
  | _, _, .cons (o := o) (e := e) h t => ⟨congrArg (· + 1) t.c.1, fun i e' h' => by
      cases i with
      | zero =>
        have : e = e' := by simpa using h'
        subst this
        exact ⟨o, e.c, rfl, h⟩
      | succ i => exact t.c.2 i e' (by simpa using h')⟩
theorem OthC.keep {H H' : Hp} {os : List V} {es : List OV} (h : OthC H os es) (c : ∀ b, V.ref b ∈ os → ∀ x, H b = some x → H' b = some x) : OthC H' os es :=
  ⟨h.1, fun i e he => by
    obtain ⟨o, k, e1, e2⟩ := h.2 i e he
    exact ⟨o, k, e1, c o (List.mem_of_getElem? e1) _ e2⟩⟩
/-- all that stands between two deeds -/
structure LW (K : PySem.W.Frag) (C : Addr) (H0 G : Hp) (p du ol : Addr) (os : List V) (es : List OV) (v : SV) (a : SA) : Prop where
  sw : SW K G C p du v a
  hol : G ol = some (.lst os)
  oth : OthC G os es
  nd : os.Nodup
  fol : Far a p du ol
  fos : ∀ b, V.ref b ∈ os → Far a p du b ∧ b ≠ ol ∧ H0 b = none
  old : Same H0 G
  np : H0 p = none
  nhl : H0 a.hl = none
  ntg : H0 a.tg = none
  ndu : H0 du = none
  nol : H0 ol = none
theorem LW.at {H0 G : Hp} {p du ol : Addr} {os : List V} {es : List OV} {v : SV} {a : SA} (L : LW K C H0 G p du ol os es v a) {b : Addr} (m : V.ref b ∈ os) : ∃ x, G b = some x := by
  obtain ⟨i, hi, e⟩ := List.mem_iff_getElem.mp m
  have hi' : i < es.length := by rw [← L.oth.1]; exact hi
  obtain ⟨o, c, e1, e2⟩ := L.oth.2 i es[i] (List.getElem?_eq_getElem hi')
  rw [List.getElem?_eq_getElem hi, e] at e1
  cases e1
  exact ⟨_, e2⟩
theorem LW.same {H0 G G' : Hp} {p du ol : Addr} {os : List V} {es : List OV} {v : SV} {a : SA} (L : LW K C H0 G p du ol os es v a) (s : Same G G') : LW K C H0 G' p du ol os es v a :=
  { L with sw := L.sw.same s, hol := s _ _ L.hol, oth := L.oth.keep fun b _ x e => s _ _ e, old := L.old.trans s }
theorem nd_idx {α : Type} {xs : List α} (h : xs.Nodup) {i j : Nat} {x : α} (hi : xs[i]? = some x) (hj : xs[j]? = some x) : i = j :=
  (List.getElem?_inj (List.getElem?_eq_some_iff.mp hi).1 h).mp (hi.trans hj.symm)
theorem LW.go {H0 G G' : Hp} {p du ol o : Addr} {os : List V} {es : List OV} {v v' : SV} {a a' : SA} {k c' e2 e3 : Int} (L : LW K C H0 G p du ol os es v a) (W' : SW K G' C p du v' a')
    (ch : ∀ b x, b ≠ p → b ≠ a.hl → b ≠ a.tg → b ≠ du → b ≠ o → G b = some x → G' b = some x) (ho : G' o = some (.lst [.int k, .int c', .int e2, .int e3])) (h0 : H0 o = none)
    (mt : ∀ (i : Nat) (e : OV), es[i]? = some e → os[i]? = some (V.ref o) → e.s = k ∧ e.e2 = e2 ∧ e.e3 = e3) (oo : o ≠ ol) (m : Moved G a a') : LW K C H0 G' p du ol os es v' a' where
  sw := W'
  hol := ch _ _ L.fol.p L.fol.hl L.fol.tg L.fol.du oo.symm L.hol
  oth := ⟨L.oth.1, fun i e he => by
    obtain ⟨b, c, e1, e2'⟩ := L.oth.2 i e he
    by_cases hb : b = o
    · subst hb
      obtain ⟨r1, r2, r3⟩ := mt i e he e1
      exact ⟨b, c', e1, by rw [r1, r2, r3]; exact ho⟩
    · have f := (L.fos b (List.mem_of_getElem? e1)).1
      exact ⟨b, c, e1, ch _ _ f.p f.hl f.tg f.du hb e2'⟩⟩
  nd := L.nd
  fol := L.fol.step L.hol m
  fos := fun b hb => by
    obtain ⟨x, e⟩ := L.at hb
    obtain ⟨f1, f2, f3⟩ := L.fos b hb
    exact ⟨f1.step e m, f2, f3⟩
  old := fun b x e => ch b x (ne_of_none e L.np) (ne_of_none e L.nhl) (ne_of_none e L.ntg) (ne_of_none e L.ndu) (ne_of_none e h0) (L.old _ _ e)
  np := L.np
  nhl := by
    rcases m.hl with e | e
    · rw [e]; exact L.nhl
    · exact L.old.free e
  ntg := by rw [m.tg]; exact L.ntg
  ndu := L.ndu
  nol := L.nol
theorem LW.put {H0 G : Hp} {p du ol b : Addr} {os : List V} {es : List OV} {v : SV} {a : SA} {xs ys : List V} (L : LW K C H0 G p du ol os es v a) (h : G b = some (.lst xs)) (F : Far a p du b) (nol : b ≠ ol) (nos : V.ref b ∉ os) (h0 : H0 b = none) : LW K C H0 (upd G b (.lst ys)) p du ol os es v a where
  sw := L.sw.put h F
  hol := (upd_ne nol.symm).trans L.hol
  oth := L.oth.keep fun c m x e => (upd_ne (fun z => nos (by rw [← z]; exact m))).trans e
  nd := L.nd
  fol := L.fol
  fos := L.fos
  old := fun c x e => (upd_ne (ne_of_none e h0)).trans (L.old _ _ e)
  np := L.np
  nhl := L.nhl
  ntg := L.ntg
  ndu := L.ndu
  nol := L.nol
theorem LW.go0 {H0 G G' : Hp} {p du ol : Addr} {os : List V} {es : List OV} {v v' : SV} {a a' : SA} (L : LW K C H0 G p du ol os es v a) (W' : SW K G' C p du v' a')
    (ch : ∀ b x, b ≠ p → b ≠ du → G b = some x → G' b = some x) (m : Moved G a a') : LW K C H0 G' p du ol os es v' a' where
  sw := W'
  hol := ch _ _ L.fol.p L.fol.du L.hol
  oth := L.oth.keep fun b mb x e => by
    have f := (L.fos b mb).1
    exact ch _ _ f.p f.du e
  nd := L.nd
  fol := L.fol.step L.hol m
  fos := fun b hb => by
    obtain ⟨x, e⟩ := L.at hb
    obtain ⟨f1, f2, f3⟩ := L.fos b hb
    exact ⟨f1.step e m, f2, f3⟩
  old := fun b x e => ch b x (ne_of_none e L.np) (ne_of_none e L.ndu) (L.old _ _ e)
  np := L.np
  nhl := by
    rcases m.hl with e | e
    · rw [e]; exact L.nhl
    · exact L.old.free e
  ntg := by rw [m.tg]; exact L.ntg
  ndu := L.ndu
  nol := L.nol
theorem LW.pop {H0 G : Hp} {p du ol : Addr} {os : List V} {es : List OV} {v : SV} {a : SA} (L : LW K C H0 G p du ol os es v a) (i : Nat) : LW K C H0 (upd G ol (.lst (os.eraseIdx i))) p du ol (os.eraseIdx i) (es.eraseIdx i) v a where
  sw := L.sw.put L.hol L.fol
  hol := upd_same
  oth := ⟨by rw [List.length_eraseIdx, List.length_eraseIdx, L.oth.1], fun j e he => by
    rw [List.getElem?_eraseIdx] at he
    have go : ∀ k, es[k]? = some e → ∃ o c, os[k]? = some (V.ref o) ∧ (upd G ol (.lst (os.eraseIdx i))) o = some (.lst [.int e.s, .int c, .int e.e2, .int e.e3]) := fun k hk => by
      obtain ⟨o, c, e1, e2⟩ := L.oth.2 k e hk
      exact ⟨o, c, e1, (upd_ne (L.fos o (List.mem_of_getElem? e1)).2.1).trans e2⟩
    rw [List.getElem?_eraseIdx]
    by_cases h : j < i
    · rw [if_pos h] at he ⊢; exact go j he
    · rw [if_neg h] at he ⊢; exact go (j + 1) he⟩
  nd := L.nd.sublist (List.eraseIdx_sublist ..)
  fol := L.fol
  fos := fun b m => L.fos b ((List.eraseIdx_sublist ..).subset m)
  old := fun b x e => (upd_ne (ne_of_none e L.nol)).trans (L.old _ _ e)
  np := L.np
  nhl := L.nhl
  ntg := L.ntg
  ndu := L.ndu
  nol := L.nol
theorem erase_perm' {α : Type} : ∀ (xs : List α) (i : Nat) (v : α), xs[i]? = some v → (v :: xs.eraseIdx i).Perm xs
  | [], _, _, h => by simp at h
  | x :: xs, 0, v, h => by
    have e : x = v := by simpa using h
    rw [e]
    exact .refl _
  | x :: xs, i + 1, v, h => (List.Perm.swap x v _).trans ((erase_perm' xs i v (by simpa using h)).cons x)
theorem Moved.far {H : Hp} {a a' : SA} {p du b : Addr} {x : HO} (m : Moved H a a') (F : Far a p du b) (e : H b = some x) : Far a' p du b := F.step e m
theorem Moved.farP {H : Hp} {a a' : SA} {p du b : Addr} {k : Nat} (m : Moved H a a') (F : Far a p du b) (e : PotAt k H b) : Far a' p du b := by
  obtain ⟨xs, e, _⟩ := e
  exact F.step e m
theorem LW.putP {H0 G : Hp} {p du ol b : Addr} {os : List V} {es : List OV} {v : SV} {a : SA} {ys : List V} {k : Nat} (L : LW K C H0 G p du ol os es v a) (h : PotAt k G b) (F : Far a p du b) (nol : b ≠ ol) (nos : V.ref b ∉ os) (h0 : H0 b = none) : LW K C H0 (upd G b (.lst ys)) p du ol os es v a := by
  obtain ⟨xs, e, _⟩ := h
  exact L.put e F nol nos h0
/-- what a let changes, as go asks it -/
theorem let_ch {G G' : Hp} {p du o : Addr} {a : SA} (c : ChgS [p, a.tg, du] G G') : ∀ b x, b ≠ p → b ≠ a.hl → b ≠ a.tg → b ≠ du → b ≠ o → G b = some x → G' b = some x := fun b x n1 _ n3 n4 _ e => c b x (by
  simp only [List.mem_cons, List.not_mem_nil, or_false, not_or]
  exact ⟨n1, n3, n4⟩) e
theorem asked_ch {G G' : Hp} {p du o : Addr} {a : SA} (c : ChgS [p, a.hl, du, o] G G') : ∀ b x, b ≠ p → b ≠ a.hl → b ≠ a.tg → b ≠ du → b ≠ o → G b = some x → G' b = some x := fun b x n1 n2 _ n4 n5 e => c b x (by
  simp only [List.mem_cons, List.not_mem_nil, or_false, not_or]
  exact ⟨n1, n2, n4, n5⟩) e
theorem moved5 {G : Hp} {a : SA} {d : Addr} (h : d = a.d5 ∨ G d = none) : Moved G a { a with d5 := d } := ⟨.inl rfl, rfl, .inl rfl, .inl rfl, h, .inl rfl⟩
/-! ### the drawn ones as data -/
def liD (n : List Int) : PyData := .list (n.map PyData.int)
theorem lay_lis : ∀ L : List (List Int), PyData.canLayAll0 (L.map liD) = true
  | [] => by simp [PyData.canLayAll0]
  | n :: L => by simp [PyData.canLayAll0, PyData.canLay0, liD, lay_ints n, lay_lis L]
theorem deep_lis : ∀ L : List (List Int), PyData.depthAll (L.map liD) ≤ 1
  | [] => by simp [PyData.depthAll]
  | n :: L => by
    have := deep_lis L
    simp [PyData.depthAll, PyData.depth, liD, deep_ints n]
    omega
theorem shaped_lis (L : List (List Int)) : SeqAt.shaped (.list (L.map liD)) = true := by
  show ((PyData.list (L.map liD)).canLay0 && decide ((PyData.list (L.map liD)).depth ≤ 64)) = true
  have := deep_lis L
  simp [PyData.canLay0, PyData.depth, lay_lis]
  omega
theorem othc_dps (K : PySem.W.Frag) {H : Hp} : ∀ {os : List V} {es : List OV}, OthC H os es → ∃ L : List (List Int), L.length = os.length ∧ DpAll K H os (L.map liD)
  | [], _, _ => ⟨[], rfl, .nil⟩
  | x :: os, [], h => by cases h.1
  | x :: os, e :: es, h => by
    obtain ⟨o, c, e1, e2⟩ := h.2 0 e rfl
    have e1' : x = V.ref o := by simpa using e1
    subst e1'
    obtain ⟨L, l1, l2⟩ := othc_dps K (os := os) (es := es) (H := H) ⟨Nat.succ.inj h.1, fun i e' h' => h.2 (i + 1) e' (by simpa using h')⟩
    exact ⟨[e.s, c, e.e2, e.e3] :: L, congrArg (· + 1) l1, .cons (dp_ints (ns := [e.s, c, e.e2, e.e3]) e2) l2⟩
end

end G0
namespace G0
open PySem PySem.Spec PyProof.Rows L2
section
variable {P : Program} {w : World} {K : PySem.W.Frag} {mg : Str → Option Value} {base : Heap} {C : Addr}
/-! ### the law -/
def spLaw (K : PySem.W.Frag) : Sp := fun vs H Q _ => ∃ (a : Addr) (ns : List Int), vs = [.ref a] ∧ SqL K H a (ns.map V.int) ∧ ∀ H', Q (.bl true) H'
structure BlL (mg : Str → Option Value) : Prop where
  len : mg "len" = none
  range : mg "range" = none
  int : mg "int" = none
  min : mg "min" = none
  max : mg "max" = none
  first : ∃ t, mg "FIRST" = some (.int 0 t)
structure MkT (P : Program) (w : World) (K : PySem.W.Frag) (mg : Str → Option Value) (base : Heap) (C : Addr) : Prop where
  made : ∃ f fd ds mv, FnOk P w K mg base CX0 2 f fd ["self", "me", "seats", "count"] (spSInit C) ∧ Vals [.int 0] ds ∧ Binds K fd ["self", "me", "seats", "count"] ds ∧
    KBn K fd ["self", "me", "seats", "count"] 3 ["count"] (fun us ws => us ++ ws) (fun vs zs => vs ++ zs) ∧ Mk K C f ∧ mv = ds
  mg : mg "Stamper" = some (.ref C)
def fellB (e : OV) : Bool := decide (e.e3 = 0)
theorem n_out_ask : ¬ (("out" : Str) = "asking") := by decide +kernel
theorem n_out_in : ¬ (("out" : Str) = "in") := by decide +kernel
theorem n_ask_in : ¬ (("asking" : Str) = "in") := by decide +kernel
theorem stB_out {ws : List Int} : stB "out" ws = "out" := by simp [stB, inB, n_out_ask]
def Lp1 (K : PySem.W.Frag) (C : Addr) (H0 : Hp) (sa p0 p du ol : Addr) (n me fi : Int) (os : List V) (es : List OV) (j : Nat) (σ : L2.St) (G : Hp) : Prop :=
  ∃ (v : SV) (a : SA) (z9 : Option V), σ = [some (V.ref sa), some (V.ref p0), some (V.int n), some (V.int me), some (V.int fi), some (V.ref p), some (V.ref du), some (V.bl true), some (V.ref ol), z9, none, none, none, none] ∧
    LW K C H0 G p du ol os es v a ∧ v.me = me ∧ v.n = n ∧ v.st = "out" ∧ v.ds = .none ∧ v.ws = [] ∧ v.hs = [] ∧ v.ts = ((es.take j).filter fellB).map OV.s
theorem lw_yess (word : Str) (c : Int) (ks : List Int) (h : ks.length < 10000) : Lw 3 (.list (ks.map (yesD word c))) := by
  refine .lst (by rw [List.length_map]; exact h) fun d hd => ?_
  obtain ⟨k, _, rfl⟩ := List.mem_map.mp hd
  refine .tup (by show 2 < 10000; decide) fun d hd => ?_
  simp only [List.mem_cons, List.not_mem_nil, or_false] at hd
  rcases hd with rfl | rfl
  · exact .int _
  · refine .tup (by show 2 < 10000; decide) fun d hd => ?_
    simp only [List.mem_cons, List.not_mem_nil, or_false] at hd
    rcases hd with rfl | rfl
    · exact .str _
    · exact .int _
theorem stB_at (ws : List Int) : atI [V.str "asking", .str "in"] (if PyData.eqv (.list (ws.map PyData.int)) (.list []) = true then 1 else 0) = some (.str (stB "asking" ws)) := by
  cases ws with
  | nil => simp [PyData.eqv, PyData.eqvAll, stB, inB]; rfl
  | cons w r => simp [PyData.eqv, PyData.eqvAll, stB, inB]; rfl
def keepB (q : V × OV) : Bool := decide (0 < q.2.e3)
def posB (e : OV) : Bool := decide (0 < e.e3)
theorem fell_pos : ∀ es : List OV, (es.filter fellB).length + (es.filter posB).length ≤ es.length
  | [] => by simp
  | e :: es => by
    have ih := fell_pos es
    rw [List.filter_cons, List.filter_cons]
    by_cases h : e.e3 = 0
    · rw [if_pos (by simp [fellB, h]), if_neg (by simp [posB, h])]
      simp only [List.length_cons]; omega
    · rw [if_neg (by simp [fellB, h])]
      split <;> simp only [List.length_cons] <;> omega
theorem zip_snd : ∀ (os : List V) (es : List OV), os.length = es.length → ((os.zip es).filter keepB).map Prod.snd = es.filter posB
  | [], [], _ => rfl
  | [], _ :: _, h => by cases h
  | _ :: _, [], h => by cases h
  | o :: os, e :: es, h => by
    have ih := zip_snd os es (Nat.succ.inj h)
    rw [List.zip_cons_cons, List.filter_cons, List.filter_cons]
    by_cases c : posB e = true
    · rw [if_pos (show keepB (o, e) = true from c), if_pos c, List.map_cons, ih]
    · rw [if_neg (show ¬ keepB (o, e) = true from c), if_neg c, ih]
theorem othc_keep {H : Hp} {os : List V} {es : List OV} (h : OthC H os es) : OthC H (((os.zip es).filter keepB).map Prod.fst) (((os.zip es).filter keepB).map Prod.snd) := by
  refine ⟨by rw [List.length_map, List.length_map], fun i e he => ?_⟩
  rw [List.getElem?_map] at he
  cases hz : ((os.zip es).filter keepB)[i]? with
  | none => rw [hz] at he; cases he
  | some q =>
    rw [hz] at he
    have eq : q.2 = e := by simpa using he
    have m := (List.mem_filter.mp (List.mem_of_getElem? hz)).1
    obtain ⟨k, hk, ek⟩ := List.mem_iff_getElem.mp m
    rw [List.getElem_zip] at ek
    have lz := hk
    rw [List.length_zip] at lz
    have k1 : k < es.length := by omega
    have k2 : k < os.length := by omega
    obtain ⟨o, c, e1, e2⟩ := h.2 k es[k] (List.getElem?_eq_getElem k1)
    rw [List.getElem?_eq_getElem k2] at e1
    have q1 : q.1 = V.ref o := by
      rw [← ek]
      exact Option.some.inj e1
    have q2 : es[k] = e := by
      rw [← eq, ← ek]
    refine ⟨o, c, by rw [List.getElem?_map, hz]; exact congrArg some q1, ?_⟩
    rw [← q2]
    exact e2
theorem sub_keep {os : List V} {es : List OV} (h : os.length = es.length) : (((os.zip es).filter keepB).map Prod.fst).Sublist os := by
  have := (List.filter_sublist (p := keepB) (l := os.zip es)).map Prod.fst
  rw [List.map_fst_zip (Nat.le_of_eq h)] at this
  exact this
theorem nodup_s {es : List OV} (nd : (es.map OV.s).Nodup) {e e' : OV} (h : e ∈ es) (h' : e' ∈ es) (q : e.s = e'.s) : e = e' := by
  obtain ⟨i, hi⟩ := List.mem_iff_getElem?.mp h
  obtain ⟨j, hj⟩ := List.mem_iff_getElem?.mp h'
  have a1 : (es.map OV.s)[i]? = some e.s := by rw [List.getElem?_map, hi]; rfl
  have a2 : (es.map OV.s)[j]? = some e.s := by rw [List.getElem?_map, hj, q]; rfl
  have := nd_idx nd a1 a2
  subst this
  rw [hi] at hj
  exact Option.some.inj hj
theorem upto_nodup (n : Int) : (upto n).Nodup := by
  unfold upto
  refine List.pairwise_map.mpr (List.Pairwise.imp (fun {a b} h => ?_) (List.nodup_range (n := n.toNat)))
  intro z
  exact h (by omega)
/-- whom the stamper awaits when it asks: those that have not fallen -/
theorem ws_left {n me : Int} {es : List OV} {ts : List Int} (per : (es.map OV.s).Perm ((upto n).filter fun j => !decide (j = me))) (e7 : ts = (es.filter fellB).map OV.s) (bd : ∀ e ∈ es, 1 ≤ e.c ∧ 0 ≤ e.e2 ∧ e.e2 < 4 ∧ 0 ≤ e.e3 ∧ e.e3 < 5) :
    ((es.filter posB).map OV.s).Nodup ∧ ∀ x, x ∈ others n (me :: ts) ↔ x ∈ (es.filter posB).map OV.s := by
  have nd : (es.map OV.s).Nodup := per.nodup_iff.mpr ((upto_nodup n).filter _)
  refine ⟨nd.sublist ((List.filter_sublist (p := posB) (l := es)).map OV.s), fun x => ?_⟩
  have h1 : x ∈ es.map OV.s ↔ x ∈ upto n ∧ ¬ x = me := by
    rw [per.mem_iff, List.mem_filter]
    simp
  unfold others
  rw [List.mem_filter]
  constructor
  · rintro ⟨m1, m2⟩
    have m3 : ¬ x ∈ me :: ts := by simpa using m2
    rw [List.mem_cons, not_or] at m3
    obtain ⟨e, he, rfl⟩ := List.mem_map.mp (h1.mpr ⟨m1, m3.1⟩)
    refine List.mem_map.mpr ⟨e, List.mem_filter.mpr ⟨he, ?_⟩, rfl⟩
    have b := bd e he
    by_cases z : e.e3 = 0
    · exact absurd (by rw [e7]; exact List.mem_map.mpr ⟨e, List.mem_filter.mpr ⟨he, by simp [fellB, z]⟩, rfl⟩) m3.2
    · simp only [posB, decide_eq_true_eq]; omega
  · intro m
    obtain ⟨e, he, rfl⟩ := List.mem_map.mp m
    obtain ⟨he1, he2⟩ := List.mem_filter.mp he
    obtain ⟨m1, m2⟩ := h1.mp (List.mem_map.mpr ⟨e, he1, rfl⟩)
    refine ⟨m1, ?_⟩
    have : ¬ e.s ∈ me :: ts := by
      rw [List.mem_cons, not_or]
      refine ⟨m2, fun z => ?_⟩
      rw [e7] at z
      obtain ⟨e', he', q⟩ := List.mem_map.mp z
      obtain ⟨h1', h2'⟩ := List.mem_filter.mp he'
      have := nodup_s nd h1' he1 q
      subst this
      simp only [posB, fellB, decide_eq_true_eq] at he2 h2'
      omega
    simpa using this
def at2 (x y d : Int) : Int := if d = 0 then x else y
theorem at2_ok (x y d : Int) (h0 : 0 ≤ d) (h1 : d < 2) : atI [V.int x, .int y] d = some (.int (at2 x y d)) := by
  have : d = 0 ∨ d = 1 := by omega
  rcases this with rfl | rfl
  · rfl
  · rfl
theorem yes_at (b : Bool) : atI [V.str "yes", .str "gone"] (if b = true then 1 else 0) = some (.str (if b = true then "gone" else "yes")) := by cases b <;> rfl
theorem maxI_ge (i j : Int) : i ≤ maxI i j := by
  unfold maxI
  split <;> omega
section
variable (v : SV) (k c : Int) (g : Bool) (us : List Int)
theorem letV_me : (letV v k c g us).me = v.me := by unfold letV; split <;> rfl
theorem letV_ds : (letV v k c g us).ds = v.ds := by unfold letV; split <;> rfl
theorem letV_ws : (letV v k c g us).ws = lessK k v.ws := by unfold letV; split <;> rfl
theorem letV_st : (letV v k c g us).st = stB v.st (lessK k v.ws) := by unfold letV; split <;> rfl
theorem letV_cnt : v.cnt ≤ (letV v k c g us).cnt := by
  unfold letV
  split
  · exact Int.le_refl _
  · exact maxI_ge _ _
theorem letV_hs : (letV v k c g us).hs.length ≤ v.hs.length := by
  unfold letV
  split
  · exact List.length_filter_le _ _
  · exact Nat.le_refl _
theorem letV_ts : (letV v k c g us).ts.length ≤ v.ts.length + 1 := by
  unfold letV
  split
  · show (v.ts ++ [k]).length ≤ _
    rw [List.length_append]; exact Nat.le_refl _
  · exact Nat.le_succ _
theorem askedV_hs (sn : List Int) : (askedV v sn k c).hs.length ≤ v.hs.length + 1 := by
  unfold askedV
  show (if holdB v.st sn c k = true then v.hs ++ [k] else v.hs).length ≤ _
  split
  · rw [List.length_append]; exact Nat.le_refl _
  · exact Nat.le_succ _
end
def Lp2 (K : PySem.W.Frag) (C : Addr) (H0 : Hp) (sa pp p du ol ll : Addr) (n me fi : Int) (m : Nat) (σ : L2.St) (G : Hp) : Prop :=
  ∃ (v : SV) (a : SA) (ls : List V) (les : List OV) (z9 z12 : Option V) (c0 : Int) (k : Nat), m = les.length ∧
    σ = [some (V.ref sa), some (V.ref pp), some (V.int n), some (V.int me), some (V.int fi), some (V.ref p), some (V.ref du), some (V.bl true), some (V.ref ol), z9, none, some (V.ref ll), z12, none] ∧
    LW K C H0 G p du ll ls les v a ∧ Far a p du pp ∧ pp ≠ ll ∧ V.ref pp ∉ ls ∧ H0 pp = none ∧ PotAt k G pp ∧ k + 3 * les.length ≤ 400 ∧ v.me = me ∧ v.ds = .tuple [.int c0, .int me] ∧ c0 ≤ v.cnt ∧ v.st = stB "asking" v.ws ∧
    (∀ x, x ∈ v.ws ↔ x ∈ les.map OV.s) ∧ (les.map OV.s).Nodup ∧ v.hs.length + les.length ≤ 62 ∧ v.ts.length + les.length ≤ 62
theorem ifmk {c : Bool} {ta tb : TE} {σ : L2.St} {H : Hp} {Q : VK} (R : V → Hp → Prop) (ha : c = true → (∀ x G, R x G → Q x G) → ta σ H Q) (hb : c = false → (∀ x G, R x G → Q x G) → tb σ H Q) (h : ∀ x G, R x G → Q x G) : (if c = true then ta σ H Q else tb σ H Q) := by
  cases c with
  | true => exact iteT (ha rfl h)
  | false => exact iteF (hb rfl h)
/-- a new stamper -/
def NewSt (C : Addr) (G1 : Hp) (n me fi : Int) (x : V) (G : Hp) : Prop := ∃ p dx aw hl tg : Addr, x = .ref p ∧ Same G1 G ∧ Stm G C p dx me "out" false fi .non n aw hl tg [] [] [] ∧ G1 p = none ∧ G1 aw = none ∧ G1 hl = none ∧ G1 tg = none
theorem newSt_of {G1 G : Hp} {n me fi : Int} {p dx aw hl tg : Addr} (np : G1 p = none) (ndx : G1 dx = none) (ne : dx ≠ p) (nah : aw ≠ hl) (nat : aw ≠ tg) (nht : hl ≠ tg) (cg : Chg p (upd (upd G1 dx (.own p)) p (.ins C dx [])) G)
    (ha : G aw = some (.lst [])) (hh : G hl = some (.lst [])) (ht : G tg = some (.lst [])) (hp : G p = some (.ins C dx (stF me "out" false fi .non n aw hl tg)))
    (na : (upd (upd G1 dx (.own p)) p (.ins C dx [])) aw = none) (nh : (upd (upd G1 dx (.own p)) p (.ins C dx [])) hl = none) (nt : (upd (upd G1 dx (.own p)) p (.ins C dx [])) tg = none) : NewSt C G1 n me fi (.ref p) G := by
  have s1 : Same G1 (upd (upd G1 dx (.own p)) p (.ins C dx [])) := (same_upd ndx).trans (same_upd (by rw [upd_ne ne.symm]; exact np))
  exact ⟨p, dx, aw, hl, tg, rfl, fun b o e => cg _ _ (ne_of_none e np) (s1 _ _ e), ⟨hp, ha, hh, ht, nah, nat, nht⟩, np, s1.free na, s1.free nh, s1.free nt⟩
set_option pp.maxSteps 600
theorem sc_law : FnScope ["script", "pot", "seats", "me", "first", "machine", "due", "good", "others", "other", "seat", "left", "near", "letters"] ["script"] (defScope s_law) :=
  ⟨rfl, rfl, rfl, by decide +kernel, rfl, by decide +kernel, by decide +kernel⟩
theorem ok_law (F : Fn K mg "law" s_law) (T : BlL mg) (S : StT K C) (C_pot : Cal P w K mg base "_law_pot" 1 ["script", "at"] (spPot K)) (C_draw : Cal P w K mg base "_law_draw" 1 ["pot", "many"] spDraw)
    (C_same : Cal P w K mg base "_law_same" 4 ["found", "due"] (spSm K 3)) (C_stands : Cal P w K mg base "_law_stands" 4 ["machine", "due"] (spStands K C)) (C_asked : Cal P w K mg base "_law_asked" 5 ["machine", "due", "other"] (spAsked K C))
    (C_let : Cal P w K mg base "_law_let" 5 ["machine", "due", "seat", "word"] (spLet K C)) (C_others : Cal P w K mg base "_law_others" 2 ["pot", "seats", "me"] spOthers)
    (MA : Me P w K mg base C "ask" 2 ["self"] (spSAsk K C)) (ML : Me P w K mg base C "leave" 2 ["self"] (spLeave K C)) (MK : MkT P w K mg base C) : Cal P w K mg base "law" 6 ["script"] (spLaw K) := by
  obtain ⟨fA, fdA, GA, bA, mA⟩ := MA
  obtain ⟨fL, fdL, GL, bL, mL⟩ := ML
  obtain ⟨⟨fI, fdI, dI, mI, GI, rI, bI, kI, MI, _⟩, mgC⟩ := MK
  obtain ⟨t0, hFi⟩ := T.first
  refine cal_of F sc_law
    (fun _ _ _ _ _ _ us hl => match us, hl with | [_], _ => rfl) ?_ ?_
  · rintro vs H Q E ⟨a, ns, rfl, _⟩
    rfl
  rintro f cdv A outer s H vs Q E free hr ⟨sa, ns, rfl, hS, q⟩
  have hr3 : Room 3 _ := hr.mono (by decide)
  have hr2 : Room 2 _ := hr.mono (by decide)
  refine ⟨_, (pss_cons (ps_set (i := 1) sc_law.nd rfl (Or.inl rfl) (pe_cal C_pot free (hr.mono (by decide)) (pa_cons (pv 0) (pa_cons pe_int pa_nil))))
    (pss_cons (ps_set (i := 2) sc_law.nd rfl (Or.inl rfl) (pe_ix ix_list (pe_lst (pa_cons (pe_op op_add pe_int (pe_cal C_draw free (hr.mono (by decide)) (pa_cons (pv 1) (pa_cons pe_int pa_nil)))) (pa_cons (pe_op op_add pe_int (pe_cal C_draw free (hr.mono (by decide)) (pa_cons (pv 1) (pa_cons pe_int pa_nil)))) pa_nil))) (pe_cal C_draw free (hr.mono (by decide)) (pa_cons (pv 1) (pa_cons pe_int pa_nil))) (fun _ _ => rfl)))
    (pss_cons (ps_set (i := 3) sc_law.nd rfl (Or.inr rfl) (pe_cal C_draw free (hr.mono (by decide)) (pa_cons (pv 1) (pa_cons (pv 2) pa_nil))))
    (pss_cons (ps_set (i := 4) sc_law.nd rfl (Or.inl rfl) (pe_ix ix_list (pe_lst (pa_cons (pe_glob (v := .int 0) (by rfl) hFi ⟨_, rfl⟩) (pa_cons (pe_cal C_draw free (hr.mono (by decide)) (pa_cons (pv 1) (pa_cons pe_int pa_nil))) (pa_cons (pe_cal C_draw free (hr.mono (by decide)) (pa_cons (pv 1) (pa_cons (pe_op op_pow pe_int pe_int) pa_nil))) pa_nil)))) (pe_cal C_draw free (hr.mono (by decide)) (pa_cons (pv 1) (pa_cons pe_int pa_nil))) (fun _ _ => rfl)))
    (pss_cons (ps_set (i := 5) sc_law.nd rfl (Or.inl rfl) (pe_ifExp (pt_cmpR op_eq (pv 4) (pe_glob (v := .int 0) (by rfl) hFi ⟨_, rfl⟩) (nomark _)) (pe_make MI GI hr3 (by rfl) mgC bI rI pass0 (pa_cons (pv 3) (pa_cons (pv 2) pa_nil))) (pe_makeK MI GI hr3 (by rfl) mgC kI pass0 (pa_cons (pv 3) (pa_cons (pv 2) pa_nil)) (pk_cons (pv 4) pk_nil))))
    (pss_cons (ps_set (i := 6) sc_law.nd rfl (Or.inr rfl) (pe_lst (pa_cons (pv 3) (pa_cons pe_str (pa_cons (pv 4) (pa_cons pe_non (pa_cons (pe_lst pa_nil) (pa_cons (pe_lst pa_nil) (pa_cons (pe_lst pa_nil) pa_nil)))))))))
    (pss_cons (ps_set (i := 7) sc_law.nd rfl (Or.inl rfl) (pe_and (pe_cmpR op_eq (pe_glob (v := .int 0) (by rfl) hFi ⟨_, rfl⟩) pe_int (nomark _)) (pe_one (pe_cal C_stands free (hr.mono (by decide)) (pa_cons (pv 5) (pa_cons (pv 6) pa_nil))))))
    (pss_cons (ps_set (i := 8) sc_law.nd rfl (Or.inl rfl) (pe_cal C_others free (hr.mono (by decide)) (pa_cons (pe_cal C_pot free (hr.mono (by decide)) (pa_cons (pv 0) (pa_cons pe_int pa_nil))) (pa_cons (pv 2) (pa_cons (pv 3) pa_nil)))))
    (pss_cons (ps_for PassesOwn.never rfl (pi_list (pv 8)) (pg_name (i := 9) sc_law.nd rfl (Or.inl rfl))
    (pss_cons (ps_if (pt_cmpR op_eq (pe_ix ix_list (pv 9) pe_int (fun _ _ => rfl)) pe_int (nomark _))
    (pss_one (ps_set (i := 7) sc_law.nd rfl (Or.inl rfl) (pe_and (pv 7) (pe_one (pe_cal C_asked free (hr.mono (by decide)) (pa_cons (pv 5) (pa_cons (pv 6) (pa_cons (pv 9) pa_nil))))))))
    pss_nil)
    (pss_one (ps_if (pt_cmpR op_eq (pe_ix ix_list (pv 9) pe_int (fun _ _ => rfl)) pe_int (nomark _))
    (pss_one (ps_set (i := 7) sc_law.nd rfl (Or.inl rfl) (pe_and (pv 7) (pe_one (pe_cal C_let free (hr.mono (by decide)) (pa_cons (pv 5) (pa_cons (pv 6) (pa_cons (pv 9) (pa_cons pe_str pa_nil)))))))))
    pss_nil))))
    (pss_cons (ps_asg (pe_op op_add (pe_ix ix_list (pv 6) pe_int (fun _ _ => rfl)) pe_int) (pg_sub (pv 6) pe_int set_list))
    (pss_cons (ps_asg (pe_tup (pa_cons (pe_ix ix_list (pv 6) pe_int (fun _ _ => rfl)) (pa_cons (pv 3) pa_nil))) (pg_sub (pv 6) pe_int set_list))
    (pss_cons (ps_asg (pe_lc (own := [("seat", 10)]) (g := gName 10)  (by rfl) sc_law.nd (pi_range1 (by rfl) T.range (pa_cons (pv 2) pa_nil)) (blkOk_by (N := ["script", "pot", "seats", "me", "first", "machine", "due", "good", "others", "other", "seat", "left", "near", "letters"]) (sc := defScope s_law) (by decide +kernel)) (fun _ _ _ _ _ => pg_name (i := 10) sc_law.nd rfl (Or.inl rfl)) (fun _ _ _ _ _ => pts_one (PW.pt (pw_and (pt_cmpR op_ne (pv 10) (pv 3) (nomark _)) (pw_and1 (pt_cmpR (u_notinK K) (pv 10) (pe_ix (ix_listK K) (pv 6) pe_int (fun _ _ => rfl)) (by rfl)))))) (fun _ _ _ _ _ => (pv 10))) (pg_sub (pv 6) pe_int set_list))
    (pss_cons (ps_asg (pe_ix ix_list (pe_lst (pa_cons pe_str (pa_cons pe_str pa_nil))) (pe_callTy call_int1 (by rfl) T.int (by decide +kernel) (pa_cons (pe_cmpR (u_eq (u64 hr)) (pe_ix ix_list (pv 6) pe_int (fun _ _ => rfl)) (pe_lst pa_nil) (nomark _)) pa_nil)) (fun _ _ => rfl)) (pg_sub (pv 6) pe_int set_list))
    (pss_cons (ps_set (i := 7) sc_law.nd rfl (Or.inl rfl) (pe_and (pv 7) (pe_and (pe_cal C_same free (hr.mono (by decide)) (pa_cons (pe_meth0 (pv 5) S.cl mA GA hr2 bA .nil pass0) (pa_cons (pe_lc (own := [("seat", 10)]) (g := gName 10) (tt := tYes) (by rfl) sc_law.nd (pi_list (pe_ix ix_list (pv 6) pe_int (fun _ _ => rfl))) (blkOk_by (N := ["script", "pot", "seats", "me", "first", "machine", "due", "good", "others", "other", "seat", "left", "near", "letters"]) (sc := defScope s_law) (by decide +kernel)) (fun _ _ _ _ _ => pg_name (i := 10) sc_law.nd rfl (Or.inl rfl)) (fun _ _ _ _ _ => pts_nil) (fun _ _ _ _ _ => (pe_tup (pa_cons (pv 10) (pa_cons (pe_tup (pa_cons pe_str (pa_cons (pe_ix (ix_listK K) (pv 6) pe_int (fun _ _ => rfl)) pa_nil))) pa_nil))))) pa_nil))) (pe_one (pe_cal C_stands free (hr.mono (by decide)) (pa_cons (pv 5) (pa_cons (pv 6) pa_nil)))))))
    (pss_cons (ps_set (i := 1) sc_law.nd rfl (Or.inl rfl) (pe_cal C_pot free (hr.mono (by decide)) (pa_cons (pv 0) (pa_cons pe_int pa_nil))))
    (pss_cons (ps_setLc (i := 11) (own := [("other", 9)]) (g := gName 9)  (by rfl) sc_law.nd rfl rfl (sw_true rfl rfl rfl (by decide +kernel)) (pi_list (pv 8)) (blkOk_by (N := ["script", "pot", "seats", "me", "first", "machine", "due", "good", "others", "other", "seat", "left", "near", "letters"]) (sc := defScope s_law) (by decide +kernel)) (fun _ _ _ _ _ => pg_name (i := 9) sc_law.nd rfl (Or.inl rfl)) (fun _ _ _ _ _ => pts_one (pt_cmpR op_gt (pe_ix (ix_listK K) (pv 9) pe_int (fun _ _ => rfl)) pe_int (nomark _))) (fun _ _ _ _ _ => (pv 9)))
    (pss_cons (ps_while PassesOwn.never (PW.pt (pw_and (pt_cmpR (u_ne (u64 hr)) (pv 11) (pe_lst pa_nil) (nomark _)) (pw_and1 (pt_val (pv 7)))))
    (pss_cons (ps_set (i := 9) sc_law.nd rfl (Or.inl rfl) (pe_bm PySem.F.plainAttrs_list PySem.F.slot_list_pop PySem.F.type_list_pop mt_popAt (pv 11) (pa_cons (pe_cal C_draw free (hr.mono (by decide)) (pa_cons (pv 1) (pa_cons (pe_callB call_len_seq (by rfl) T.len (by decide +kernel) (pa_cons (pv 11) pa_nil)) pa_nil))) pa_nil)))
    (pss_cons (ps_if (pt_cmpR op_eq (pe_ix ix_list (pv 9) pe_int (fun _ _ => rfl)) pe_int (nomark _))
    (pss_cons (ps_set (i := 12) sc_law.nd rfl (Or.inl rfl) (pe_callB (call_min2 rfl) (by rfl) T.min (by decide +kernel) (pa_cons (pe_op op_sub (pe_op op_add (pe_ix ix_tup (pe_ix ix_list (pv 6) pe_int (fun _ _ => rfl)) pe_int (fun _ _ => rfl)) (pe_cal C_draw free (hr.mono (by decide)) (pa_cons (pv 1) (pa_cons pe_int pa_nil)))) pe_int) (pa_cons (pe_op op_pow pe_int pe_int) pa_nil))))
    (pss_cons (ps_asg (pe_ix ix_list (pe_lst (pa_cons (pe_callB (call_max2 rfl) (by rfl) T.max (by decide +kernel) (pa_cons pe_int (pa_cons (pv 12) pa_nil))) (pa_cons (pe_ix ix_list (pv 9) pe_int (fun _ _ => rfl)) pa_nil))) (pe_cal C_draw free (hr.mono (by decide)) (pa_cons (pv 1) (pa_cons pe_int pa_nil))) (fun _ _ => rfl)) (pg_sub (pv 9) pe_int set_list))
    (pss_one (ps_set (i := 7) sc_law.nd rfl (Or.inl rfl) (pe_cal C_asked free (hr.mono (by decide)) (pa_cons (pv 5) (pa_cons (pv 6) (pa_cons (pv 9) pa_nil))))))))
    pss_nil)
    (pss_one (ps_set (i := 7) sc_law.nd rfl (Or.inl rfl) (pe_and (pv 7) (pe_one (pe_cal C_let free (hr.mono (by decide)) (pa_cons (pv 5) (pa_cons (pv 6) (pa_cons (pv 9) (pa_cons (pe_ix ix_list (pe_lst (pa_cons pe_str (pa_cons pe_str pa_nil))) (pe_callTy call_int1 (by rfl) T.int (by decide +kernel) (pa_cons (pe_cmpR op_eq (pe_ix ix_list (pv 9) pe_int (fun _ _ => rfl)) pe_int (nomark _)) pa_nil)) (fun _ _ => rfl)) pa_nil))))))))))))
    (pss_cons (ps_setLc (i := 13) (own := [("seat", 10)]) (g := gName 10) (tt := tYes) (by rfl) sc_law.nd rfl rfl (sw_true rfl rfl rfl (by decide +kernel)) (pi_list (pe_ix ix_list (pv 6) pe_int (fun _ _ => rfl))) (blkOk_by (N := ["script", "pot", "seats", "me", "first", "machine", "due", "good", "others", "other", "seat", "left", "near", "letters"]) (sc := defScope s_law) (by decide +kernel)) (fun _ _ _ _ _ => pg_name (i := 10) sc_law.nd rfl (Or.inl rfl)) (fun _ _ _ _ _ => pts_nil) (fun _ _ _ _ _ => (pe_tup (pa_cons (pv 10) (pa_cons (pe_tup (pa_cons pe_str (pa_cons (pe_ix (ix_listK K) (pv 6) pe_int (fun _ _ => rfl)) pa_nil))) pa_nil)))))
    (pss_cons (ps_set (i := 7) sc_law.nd rfl (Or.inl rfl) (pe_and (pv 7) (pe_and (pe_cmpR op_eq (pe_fld (pv 5) (by rfl)) pe_str (nomark _)) (pe_one (pe_cal C_same free (hr.mono (by decide)) (pa_cons (pe_meth0 (pv 5) S.cl mL GL hr2 bL .nil pass0) (pa_cons (pv 13) pa_nil)))))))
    (pss_one (ps_ret (pe_and (pv 7) (pe_one (pe_cal C_stands free (hr.mono (by decide)) (pa_cons (pv 5) (pa_cons (pe_lst (pa_cons (pv 3) (pa_cons pe_str (pa_cons (pe_ix ix_list (pv 6) pe_int (fun _ _ => rfl)) (pa_cons pe_non (pa_cons (pe_lst pa_nil) (pa_cons (pe_lst pa_nil) (pa_cons (pe_ix ix_list (pv 6) pe_int (fun _ _ => rfl)) pa_nil)))))))) pa_nil)))))))))))))))))))))))))), ?_⟩
  -- the pot, seats
  refine ⟨_, rfl, sa, 0, ns, rfl, hS, by decide, by decide, fun p0 H1 hp0 s1 P1 => ?_⟩
  refine ⟨_, rfl, p0, 6, 0, rfl, by decide, by decide, P1, by decide, fun d1 y1 d10 d11 P2 => ?_⟩
  refine ⟨_, _, rfl, rfl, ?_⟩
  refine ⟨_, rfl, p0, 60, 1, rfl, by decide, by decide, PotAt.at P2, by decide, fun d2 y2 d20 d21 P3 => ?_⟩
  refine ⟨_, _, rfl, rfl, ?_⟩
  refine ⟨by show 2 ≤ sizeLine; decide, fun t1 ht1 => ?_⟩
  have Q3 := PotAt.at (H := upd H1 p0 (.lst y1)) (p := p0) P3
  refine ⟨_, rfl, p0, 2, 2, rfl, by decide, by decide, Q3.new ht1, by decide, fun d3 y3 d30 d31 P4 => ?_⟩
  obtain ⟨n, en, n0, n1⟩ : ∃ n : Int, atI [V.int (1 + d1), .int (1 + d2)] d3 = some (.int n) ∧ 0 < n ∧ n ≤ 60 := by
    have : d3 = 0 ∨ d3 = 1 := by omega
    rcases this with rfl | rfl
    · exact ⟨_, rfl, by omega, by omega⟩
    · exact ⟨_, rfl, by omega, by omega⟩
  refine ⟨t1, _, d3, _, rfl, rfl, SqL.of ((upd_ne (Q3.neD ht1).symm).trans upd_same), en, ?_⟩
  -- me, first
  have Q4 := PotAt.at (H := upd (upd (upd H1 p0 (.lst y1)) p0 (.lst y2)) t1 (.lst [.int (1 + d1), .int (1 + d2)])) (p := p0) P4
  refine ⟨_, rfl, _, rfl, p0, n, 3, rfl, n0, by omega, Q4, by decide, fun me y4 me0 me1 P5 => ?_⟩
  refine ⟨_, rfl, p0, 4, 4, rfl, by decide, by decide, PotAt.at P5, by decide, fun d4 y5 d40 d41 P6 => ?_⟩
  refine ⟨_, rfl, _, _, rfl, rfl, ⟨by decide, by decide, by decide⟩, ?_⟩
  refine ⟨p0, _, 5, rfl, by decide +kernel, by decide +kernel, PotAt.at P6, by decide, fun d5 y6 d50 d51 P7 => ?_⟩
  have Q7 := PotAt.at (H := upd (upd (upd (upd (upd (upd H1 p0 (.lst y1)) p0 (.lst y2)) t1 (.lst [.int (1 + d1), .int (1 + d2)])) p0 (.lst y3)) p0 (.lst y4)) p0 (.lst y5)) (p := p0) P7
  refine ⟨by show 3 ≤ sizeLine; decide, fun t2 ht2 => ?_⟩
  refine ⟨_, rfl, p0, 3, 6, rfl, by decide, by decide, Q7.new ht2, by decide, fun d6 y7 d60 d61 P8 => ?_⟩
  obtain ⟨fi, ef, f0⟩ : ∃ fi : Int, atI [V.int 0, .int d4, .int d5] d6 = some (.int fi) ∧ 0 ≤ fi := by
    have : d6 = 0 ∨ d6 = 1 ∨ d6 = 2 := by omega
    rcases this with rfl | rfl | rfl
    · exact ⟨_, rfl, by omega⟩
    · exact ⟨_, rfl, by omega⟩
    · exact ⟨_, rfl, by omega⟩
  refine ⟨t2, _, d6, _, rfl, rfl, SqL.of ((upd_ne (Q7.neD ht2).symm).trans upd_same), ef, ?_⟩
  -- the machine
  obtain ⟨G1, hG1⟩ : ∃ G1, G1 = upd (upd (upd (upd (upd (upd (upd (upd (upd H1 p0 (.lst y1)) p0 (.lst y2)) t1 (.lst [.int (1 + d1), .int (1 + d2)])) p0 (.lst y3)) p0 (.lst y4)) p0 (.lst y5)) p0 (.lst y6)) t2 (.lst [.int 0, .int d4, .int d5])) p0 (.lst y7) := ⟨_, rfl⟩
  have sG : Same H G1 := by
    intro b o e
    have n1 : b ≠ p0 := ne_of_none e hp0
    have e1 := s1 _ _ e
    rw [hG1, upd_ne n1]
    refine same_upd ht2 _ _ ?_
    rw [upd_ne n1, upd_ne n1, upd_ne n1, upd_ne n1]
    refine same_upd ht1 _ _ ?_
    rw [upd_ne n1, upd_ne n1]
    exact e1
  refine ⟨_, rfl, rfl, _, rfl, ?_⟩
  rw [dec_ii, ← hG1]
  refine ifmk (NewSt C G1 n me fi) (fun c h => ?_) (fun c h => ?_) (fun x G2 hx => ?_)
  · have fi0 : fi = 0 := of_decide_eq_true c
    refine ⟨_, rfl, _, rfl, fun p dx np ndx ne => ?_⟩
    refine ⟨p, dx, me, n, 0, rfl, upd_same, fun aw hl tg H2 nah nat nht cg haw hhl htg hp naw nhl ntg => ⟨rfl, h _ _ ?_⟩⟩
    exact newSt_of np ndx ne nah nat nht cg haw hhl htg (by rw [fi0]; exact hp) naw nhl ntg
  · refine ⟨_, rfl, _, rfl, _, rfl, rfl, rfl, fun p dx np ndx ne => ?_⟩
    refine ⟨p, dx, me, n, fi, rfl, upd_same, fun aw hl tg H2 nah nat nht cg haw hhl htg hp naw nhl ntg => ⟨rfl, h _ _ ?_⟩⟩
    exact newSt_of np ndx ne nah nat nht cg haw hhl htg hp naw nhl ntg
  obtain ⟨p, dx, aw, hl, tg, rfl, s2, M, np, naw, nhl, ntg⟩ := hx
  clear hG1
  -- what is due
  refine ⟨_, rfl, _, rfl, Nat.zero_le _, fun e4 h4 => ⟨Nat.zero_le _, fun e5 h5 => ⟨Nat.zero_le _, fun e6 h6 => ⟨by show 7 ≤ sizeLine; decide, fun du hdu => ?_⟩⟩⟩⟩
  have t4 := same_upd (o := .lst []) h4
  have t5 := t4.trans (same_upd (o := .lst []) h5)
  have t6 := t5.trans (same_upd (o := .lst []) h6)
  have t7 := t6.trans (same_upd (o := .lst [.int me, .str "out", .int fi, .non, .ref e4, .ref e5, .ref e6]) hdu)
  have k4 := same_upd (o := .lst [.int me, .str "out", .int fi, .non, .ref e4, .ref e5, .ref e6]) hdu _ _ (same_upd (o := .lst []) h6 _ _ (same_upd (o := .lst []) h5 _ _ (upd_same (H := G2) (a := e4) (o := .lst []))))
  have k5 := same_upd (o := .lst [.int me, .str "out", .int fi, .non, .ref e4, .ref e5, .ref e6]) hdu _ _ (same_upd (o := .lst []) h6 _ _ (upd_same (H := upd G2 e4 (.lst [])) (a := e5) (o := .lst [])))
  have k6 := same_upd (o := .lst [.int me, .str "out", .int fi, .non, .ref e4, .ref e5, .ref e6]) hdu _ _ (upd_same (H := upd (upd G2 e4 (.lst [])) e5 (.lst [])) (a := e6) (o := .lst []))
  have W0 : SW K _ C p du ⟨me, "out", fi, .none, n, [], [], [], []⟩ ⟨dx, false, .non, .non, aw, hl, tg, e4, e5, e6⟩ := {
    m := M.same t7
    d := ⟨upd_same, k4, k5, k6, .non⟩
    sp := .non
    sd := .non
    per := .refl _
    srt := .nil
    lw := by show 0 < 64; decide
    lh := by show 0 < 64; decide
    lt := by show 0 < 64; decide
    h_du := ne_of_none (t6 _ _ M.hh) hdu, h_4 := ne_of_none M.hh h4, h_5 := ne_of_none (t4 _ _ M.hh) h5, h_6 := ne_of_none (t5 _ _ M.hh) h6
    t_du := ne_of_none (t6 _ _ M.ht) hdu, t_4 := ne_of_none M.ht h4, t_5 := ne_of_none (t4 _ _ M.ht) h5, t_6 := ne_of_none (t5 _ _ M.ht) h6
    u_aw := (ne_of_none (t6 _ _ M.ha) hdu).symm
    u_4 := (ne_of_none (same_upd h6 _ _ (same_upd h5 _ _ upd_same)) hdu).symm
    u_5 := (ne_of_none (same_upd h6 _ _ upd_same) hdu).symm
    u_6 := (ne_of_none upd_same hdu).symm }
  refine ⟨rfl, _, rfl, iteT' (decide_eq_true rfl) ?_⟩
  refine ⟨_, rfl, _, rfl, ?_⟩
  unfold tNil
  dsimp only [List.append_nil]
  show spStands K C [.ref p, .ref du] _ _ _
  refine W0.stands (E := E0) fun G3 s3 => ?_
  have W3 := W0.same s3
  have sG3 : Same H G3 := ((sG.trans s2).trans t7).trans s3
  have npH := sG.free np
  have nduH := ((sG.trans s2).trans t6).free hdu
  have nhlH := sG.free nhl
  have ntgH := sG.free ntg
  -- the others
  refine ⟨_, rfl, sa, 1, ns, rfl, sG3.seq hS, by decide, by decide, fun p1 G4 hp1 s4 PP => ?_⟩
  refine ⟨_, rfl, _, rfl, p1, n, me, rfl, PP, by omega, by omega, fun ol os es G5 hol cg kol ho nd fr per bd => ?_⟩
  have s35 : Same G3 G5 := fun b o e => cg _ _ (ne_of_none e hp1) (s4 _ _ e)
  have sH5 : Same H G5 := sG3.trans s35
  have oin : ∀ b, V.ref b ∈ os → b ≠ ol := by
    intro b m e
    obtain ⟨i, hi, eb⟩ := List.mem_iff_getElem.mp m
    have hi' : i < es.length := by rw [← ho.c.1]; exact hi
    obtain ⟨o, c, e1, e2⟩ := ho.c.2 i es[i] (List.getElem?_eq_getElem hi')
    rw [List.getElem?_eq_getElem hi, eb] at e1
    cases e1
    rw [e, kol] at e2
    cases e2
    simp at m
  have L0 : LW K C H G5 p du ol os es ⟨me, "out", fi, .none, n, [], [], [], []⟩ ⟨dx, false, .non, .non, aw, hl, tg, e4, e5, e6⟩ := {
    sw := W3.same s35
    hol := kol, oth := ho.c, nd := nd
    fol := (W3.same s4).far hol
    fos := fun b m => by
      obtain ⟨b', e, hb⟩ := fr _ m
      cases e
      exact ⟨(W3.same s4).far hb, oin b m, (sG3.trans s4).free hb⟩
    old := sH5
    np := npH, nhl := nhlH, ntg := ntgH, ndu := nduH, nol := (sG3.trans s4).free hol }
  have les : es.length < 60 := by
    have h1 := per.length_eq
    have h2 : me ∈ upto n := List.mem_iff_getElem?.mpr ⟨me.toNat, by rw [upto_at (by omega)]; congr 1; omega⟩
    have h3 : ((upto n).filter fun j => !decide (j = me)).length < (upto n).length := List.length_filter_lt_length_iff_exists.mpr ⟨me, h2, by simp⟩
    rw [upto_len] at h3
    rw [List.length_map] at h1
    omega
  have los : os.length = es.length := ho.c.1
  refine ⟨_, rfl, ol, rfl, ⟨_, SqL.of kol⟩, ?_⟩
  refine for_list (K := K) (a := ol) (xs := os) (Lp1 K C H sa p0 p du ol n me fi os es) ⟨_, _, _, rfl, L0, rfl, rfl, rfl, rfl, rfl, rfl, rfl⟩ (fun j σ G hj hL => by obtain ⟨v, a, z9, _, L, _⟩ := hL; exact SqL.of L.hol) ?_ ?_
  · rintro j x σ G hj ⟨v, a, z9, rfl, L, e1, e2, e3, e4, e5, e6, e7⟩
    have jl : j < es.length := by
      rw [← los]
      exact (List.getElem?_eq_some_iff.mp hj).1
    obtain ⟨e, he⟩ : ∃ e, es[j]? = some e := ⟨_, List.getElem?_eq_getElem jl⟩
    obtain ⟨o, c, eo, ho1⟩ := L.oth.2 j e he
    rw [hj] at eo
    cases eo
    have mo : V.ref o ∈ os := List.mem_of_getElem? hj
    have mt : ∀ (i : Nat) (e' : OV), es[i]? = some e' → os[i]? = some (V.ref o) → e'.s = e.s ∧ e'.e2 = e.e2 ∧ e'.e3 = e.e3 := fun i e' h1 h2 => by
      have := nd_idx L.nd h2 hj
      subst this
      rw [he] at h1
      cases h1
      exact ⟨rfl, rfl, rfl⟩
    obtain ⟨f1, f2, f3⟩ := L.fos o mo
    have tl : v.ts.length ≤ j := by
      rw [e7, List.length_map]
      exact Nat.le_trans (List.length_filter_le _ _) (by rw [List.length_take]; exact Nat.min_le_left _ _)
    have nx1 : fellB e = true → ((es.take (j + 1)).filter fellB).map OV.s = ((es.take j).filter fellB).map OV.s ++ [e.s] := fun h => by
      rw [filt_snoc he, if_pos h, List.map_append]; rfl
    have nx2 : fellB e = false → ((es.take (j + 1)).filter fellB).map OV.s = ((es.take j).filter fellB).map OV.s := fun h => by
      rw [filt_snoc he, if_neg (by rw [h]; simp), List.append_nil]
    refine ⟨_, rfl, o, _, _, _, rfl, rfl, SqL.of ho1, rfl, rfl, _, rfl, ?_⟩
    rw [dec_ii]
    refine ite2 (fun c2 => ?_) (fun c2 => ?_)
    · refine ⟨_, rfl, _, rfl, iteT' rfl ?_⟩
      have hd0 : holdB v.st [] c e.s = false := by rw [e3]; simp [holdB, n_out_in, n_out_ask]
      refine ⟨_, rfl, _, rfl, _, rfl, p, du, o, v, a, [], e.s, c, e.e2, e.e3, rfl, L.sw, (by rw [e3]; exact n_out_in), (fun z => absurd (e3.symm.trans z) n_out_ask), ho1, (by rw [e6]; decide), f1.du, f1.aw, f1.hl, f1.tg, f1.d4, f1.d5, f1.d6, fun d5' c' H' W' m5 le ho' ch => ?_⟩
      have L1 := L.go W' (asked_ch ch) ho' f3 mt f2 (moved5 m5)
      have f1' := (L1.fos o mo).1
      have e6' : (askedV v [] e.s c).hs = [] := by unfold askedV; rw [hd0]; exact e6
      refine ⟨_, rfl, o, _, _, _, rfl, rfl, SqL.of ho', rfl, rfl, _, rfl, ?_⟩
      rw [dec_ii]
      refine ite2 (fun c3 => ?_) (fun c3 => ?_)
      · refine ⟨_, rfl, _, rfl, iteT' rfl ?_⟩
        refine ⟨_, rfl, _, rfl, _, rfl, p, du, o, (askedV v [] e.s c), { a with d5 := d5' }, e.s, c', e.e2, e.e3, true, rfl, (L1).sw, (fun z => by cases z), ho', by show v.ts.length + 1 < 64; omega, f1'.du, f1'.tg, fun us a' H' W' m1 m2 m3 m4 m5 m6 ch => ?_⟩
        have fe : fellB e = true := c3
        have ho' := ch _ _ (by
          simp only [List.mem_cons, List.not_mem_nil, or_false, not_or]
          exact ⟨f1'.p, f1'.tg, f1'.du⟩) ho'
        refine ⟨_, _, _, rfl, (L1).go W' (let_ch ch) ho' f3 mt f2 ⟨m1, m2, m3, m4, m5, m6⟩, e1, e2, ?_, e4, ?_, ?_, ?_⟩
        · show stB v.st _ = "out"
          rw [e3]
          exact stB_out
        · show lessK e.s v.ws = []
          rw [e5]
          rfl
        · show lessK e.s (askedV v [] e.s c).hs = []
          rw [e6']
          rfl
        · show v.ts ++ [e.s] = _
          rw [nx1 fe, e7]
      · have fe : fellB e = false := by simpa [fellB] using c3
        exact ⟨_, _, _, rfl, L1, e1, e2, e3, e4, e5, e6', by rw [nx2 fe]; exact e7⟩
    · skip
      refine ⟨_, rfl, o, _, _, _, rfl, rfl, SqL.of ho1, rfl, rfl, _, rfl, ?_⟩
      rw [dec_ii]
      refine ite2 (fun c3 => ?_) (fun c3 => ?_)
      · refine ⟨_, rfl, _, rfl, iteT' rfl ?_⟩
        refine ⟨_, rfl, _, rfl, _, rfl, p, du, o, v, a, e.s, c, e.e2, e.e3, true, rfl, (L).sw, (fun z => by cases z), ho1, by show v.ts.length + 1 < 64; omega, f1.du, f1.tg, fun us a' H' W' m1 m2 m3 m4 m5 m6 ch => ?_⟩
        have fe : fellB e = true := c3
        have ho' := ch _ _ (by
          simp only [List.mem_cons, List.not_mem_nil, or_false, not_or]
          exact ⟨f1.p, f1.tg, f1.du⟩) ho1
        refine ⟨_, _, _, rfl, (L).go W' (let_ch ch) ho' f3 mt f2 ⟨m1, m2, m3, m4, m5, m6⟩, e1, e2, ?_, e4, ?_, ?_, ?_⟩
        · show stB v.st _ = "out"
          rw [e3]
          exact stB_out
        · show lessK e.s v.ws = []
          rw [e5]
          rfl
        · show lessK e.s v.hs = []
          rw [e6]
          rfl
        · show v.ts ++ [e.s] = _
          rw [nx1 fe, e7]
      · have fe : fellB e = false := by simpa [fellB] using c3
        exact ⟨_, _, _, rfl, L, e1, e2, e3, e4, e5, e6, by rw [nx2 fe]; exact e7⟩
  · rintro σ G ⟨v, a, z9, rfl, L, e1, e2, e3, e4', e5', e6', e7⟩
    rw [los, List.take_length] at e7
    obtain ⟨vm, vst, cnt, vds, vn, vws, vhs, ts, us⟩ := v
    dsimp only at e1 e2 e3 e4' e5' e6' e7
    have e1' := e1.symm
    have e2' := e2.symm
    subst e1'
    subst e2'
    subst e3
    subst e4'
    subst e5'
    subst e6'
    have hd := L.sw.d.hd
    have lts : ts.length < 60 := by
      rw [e7, List.length_map]
      exact Nat.lt_of_le_of_lt (List.length_filter_le _ _) les
    -- due[2], due[3]
    refine ⟨_, rfl, du, _, _, _, rfl, rfl, SqL.of hd, rfl, _, _, rfl, rfl, ?_⟩
    refine ⟨_, rfl, du, _, _, _, rfl, rfl, hd, rfl, ?_⟩
    refine ⟨_, rfl, du, _, _, _, rfl, rfl, SqL.of upd_same, rfl, _, rfl, by show 2 ≤ sizeLine; decide, fun sq hsq => ?_⟩
    have dsq : sq ≠ du := fun z => by rw [z, upd_same] at hsq; cases hsq
    refine ⟨_, rfl, du, _, _, _, rfl, rfl, (upd_ne dsq.symm).trans upd_same, rfl, ?_⟩
    have sqG : G sq = none := by rw [upd_ne dsq] at hsq; exact hsq
    obtain ⟨GA, hGA⟩ : ∃ GA, GA = upd (upd (upd G du (.lst [.int me, .str "out", .int (cnt + 1), a.stq, .ref a.d4, .ref a.d5, .ref a.d6])) sq (.tup [.int (cnt + 1), .int me])) du (.lst [.int me, .str "out", .int (cnt + 1), .ref sq, .ref a.d4, .ref a.d5, .ref a.d6]) := ⟨_, rfl⟩
    have kdA : GA du = some (.lst [.int me, .str "out", .int (cnt + 1), .ref sq, .ref a.d4, .ref a.d5, .ref a.d6]) := by rw [hGA, upd_same]
    have ksA : GA sq = some (.tup [.int (cnt + 1), .int me]) := by rw [hGA, upd_ne dsq, upd_same]
    have cA : ∀ b x, b ≠ du → G b = some x → GA b = some x := fun b x n1 e => by rw [hGA, upd_ne n1, upd_ne (ne_of_none e sqG), upd_ne n1]; exact e
    have k6A := cA _ _ L.sw.u_6.symm L.sw.d.h6
    subst hGA
    -- due[4]
    refine ⟨_, rfl, _, rfl, by omega, by omega, fun J hJ => ?_⟩
    refine lc_range (lo := 0) (n := n.toNat) (fun i G' => G' = upd (upd (upd (upd G du (.lst [.int me, .str "out", .int (cnt + 1), a.stq, .ref a.d4, .ref a.d5, .ref a.d6])) sq (.tup [.int (cnt + 1), .int me])) du (.lst [.int me, .str "out", .int (cnt + 1), .ref sq, .ref a.d4, .ref a.d5, .ref a.d6])) J (.lst ((((upto n).take i).filter fun s => !decide (s = me) && !decide (s ∈ us)).map V.int))) (by simp) ?_ ?_
    · rintro i G' hi rfl
      have e9 : (0 : Int) + (i : Int) = ((i : Nat) : Int) := by omega
      refine ⟨rfl, _, rfl, _, rfl, rfl, _, rfl, ?_⟩
      rw [filt_snoc (upto_at hi), e9, dec_ii]
      have push : ∀ (acc : List Int), acc.length ≤ 100 → (acc.map V.int).length < sizeLine := fun acc h => by rw [List.length_map]; exact Nat.lt_of_le_of_lt h (by decide)
      have lu : ((upto n).take i).length ≤ 60 := by rw [List.length_take, upto_len]; omega
      refine ite2 (fun c2 => ?_) (fun c2 => ?_)
      · refine ⟨_, rfl, _, rfl, du, _, _, _, rfl, rfl, SqL.of (same_upd hJ _ _ kdA), rfl, .inl ⟨a.d6, _, rfl, .inl (SqL.of (same_upd hJ _ _ k6A)), rfl, flat_ints us, _, rfl, ?_⟩⟩
        show (if (!inV (.int ((i : Nat) : Int)) (us.map V.int)) = true then _ else _)
        rw [inV_ints]
        have c1 : (!decide (((i : Nat) : Int) = me)) = true := by simpa [e9] using c2
        refine ite2 (fun c3 => ?_) (fun c3 => ?_)
        · rw [if_pos (by rw [Bool.and_eq_true]; exact ⟨c1, c3⟩)]
          refine ⟨_, rfl, _, upd_same, push _ (Nat.le_trans (List.length_filter_le _ _) (by omega)), ?_⟩
          rw [upd_upd, List.map_append]; rfl
        · rw [if_neg (by rw [Bool.and_eq_true]; exact fun z => c3 z.2), List.append_nil]
      · rw [if_neg (by rw [Bool.and_eq_true]; exact fun z => c2 (by simpa [e9] using z.1)), List.append_nil]
        rfl
    rintro G' rfl
    rw [← upto_len, List.take_length]
    obtain ⟨ws, hws⟩ : ∃ ws, ws = others n (me :: ts) := ⟨_, rfl⟩
    rw [show ((upto n).filter fun s => !decide (s = me) && !decide (s ∈ us)) = ws by
      rw [hws]
      unfold others
      refine List.filter_congr fun s _ => ?_
      have := L.sw.per.mem_iff (a := s)
      dsimp only at this
      simp [List.mem_cons, this]]
    have lws : ws.length ≤ 60 := by
      have := List.length_filter_le (fun s => !decide (s ∈ me :: ts)) (upto n)
      rw [hws]
      rw [upto_len] at this
      exact Nat.le_trans this (by omega)
    have JG : G J = none := none_back (fun x z => cA _ _ (ne_of_none kdA hJ).symm z) hJ
    have Jdu : J ≠ du := (ne_of_none kdA hJ).symm
    refine ⟨_, rfl, du, _, _, _, rfl, rfl, same_upd hJ _ _ kdA, rfl, ?_⟩
    -- due[1]
    refine ⟨by show 2 ≤ sizeLine; decide, fun lx hlx => ?_⟩
    have xdu : lx ≠ du := fun z => by rw [z, upd_same] at hlx; cases hlx
    have xJ : lx ≠ J := fun z => by rw [z, upd_ne Jdu, upd_same] at hlx; cases hlx
    refine ⟨_, rfl, du, _, _, _, rfl, rfl, SqL.of ((upd_ne xdu.symm).trans upd_same), rfl, Nat.zero_le _, fun e0 he0 => ?_⟩
    have f0 := same_upd (o := .lst []) he0
    refine .inr ⟨.list (ws.map PyData.int), .list [], dp_ints (f0 _ _ ((upd_ne xJ.symm).trans ((upd_ne Jdu).trans upd_same))), .lst (SqL.of upd_same) .nil, shaped_ints _, by decide, ?_⟩
    refine .inr ⟨_, rfl, ?_⟩
    refine ⟨lx, _, _, _, rfl, rfl, SqL.of (f0 _ _ upd_same), stB_at ws, ?_⟩
    refine ⟨_, rfl, du, _, _, _, rfl, rfl, f0 _ _ ((upd_ne xdu.symm).trans upd_same), rfl, ?_⟩
    have e0du : e0 ≠ du := (ne_of_none ((upd_ne xdu.symm).trans upd_same) he0).symm
    obtain ⟨GB, hGB⟩ : ∃ GB, GB = upd (upd (upd (upd (upd (upd (upd (upd G du (.lst [.int me, .str "out", .int (cnt + 1), a.stq, .ref a.d4, .ref a.d5, .ref a.d6])) sq (.tup [.int (cnt + 1), .int me])) du (.lst [.int me, .str "out", .int (cnt + 1), .ref sq, .ref a.d4, .ref a.d5, .ref a.d6])) J (.lst (ws.map V.int)))
      du (.lst [.int me, .str "out", .int (cnt + 1), .ref sq, .ref J, .ref a.d5, .ref a.d6])) lx (.lst [.str "asking", .str "in"])) e0 (.lst [])) du (.lst [.int me, .str (stB "asking" ws), .int (cnt + 1), .ref sq, .ref J, .ref a.d5, .ref a.d6]) := ⟨_, rfl⟩
    have kdB : GB du = some (.lst [.int me, .str (stB "asking" ws), .int (cnt + 1), .ref sq, .ref J, .ref a.d5, .ref a.d6]) := by rw [hGB, upd_same]
    have cB2 : ∀ b x, b ≠ du → (upd (upd (upd (upd G du (.lst [.int me, .str "out", .int (cnt + 1), a.stq, .ref a.d4, .ref a.d5, .ref a.d6])) sq (.tup [.int (cnt + 1), .int me])) du (.lst [.int me, .str "out", .int (cnt + 1), .ref sq, .ref a.d4, .ref a.d5, .ref a.d6])) J (.lst (ws.map V.int))) b = some x → GB b = some x := fun b x n1 e => by
      rw [hGB, upd_ne n1]
      refine f0 _ _ (same_upd hlx _ _ ?_)
      rw [upd_ne n1]
      exact e
    have cB : ∀ b x, b ≠ du → G b = some x → GB b = some x := fun b x n1 e => cB2 b x n1 (same_upd hJ _ _ (cA b x n1 e))
    have kJB : GB J = some (.lst (ws.map V.int)) := cB2 _ _ Jdu upd_same
    have ksB : GB sq = some (.tup [.int (cnt + 1), .int me]) := cB2 _ _ dsq (same_upd hJ _ _ ksA)
    have npd : p ≠ du := (L.sw.np hd).symm
    have kpB := cB _ _ npd L.sw.m.hp
    have ktB := cB _ _ L.sw.t_du L.sw.m.ht
    subst hGB
    refine ⟨_, rfl, _, rfl, iteT' rfl ?_⟩
    refine ⟨_, rfl, p, a.dx, _, rfl, kpB, (stF_no _ _ _ _ _ _ _ _ _ (by decide +kernel) (by decide +kernel) (by decide +kernel) (by decide +kernel) (by decide +kernel) (by decide +kernel) (by decide +kernel) (by decide +kernel) (by decide +kernel) ), p, a.dx, me, "out", a.si, cnt, a.stp, n, a.aw, a.hl, a.tg, ts, rfl, kpB, ktB, by omega, by omega, by omega, fun l aw' tp G5' xs nl naw nlaw cg kl dl kaw ktp kp => ?_⟩
    rw [← hws] at dl kaw kp
    have kd5 := cg _ _ npd.symm kdB
    have kJ5 := cg _ _ (ne_of kJB kpB (by intro z; cases z)) kJB
    refine ⟨_, rfl, du, _, _, _, rfl, rfl, SqL.of kd5, rfl, J, rfl, ⟨_, SqL.of kJ5⟩, fun D hD => ?_⟩
    refine lc_list (K := K) (a := J) (xs := (ws).map V.int) (fun i G6 => ∃ acc : List V, G6 D = some (.lst acc) ∧ DpAll K G6 acc ((ws).take i |>.map (yesD "ask" (cnt + 1))) ∧ Same (G5') G6) ⟨[], upd_same, by simpa using DpAll.nil, same_upd hD⟩ (fun i G6 _ h => by obtain ⟨_, _, _, z⟩ := h; exact SqL.of (z _ _ kJ5)) ?_ ?_
    · rintro i x G6 hi ⟨acc, hG, hA, sG⟩
      obtain ⟨y, ey, rfl⟩ := ints_at hi
      have i9 : i < (ws).length := (List.getElem?_eq_some_iff.mp ey).1
      refine ⟨rfl, lc_yes ?_⟩
      refine ⟨_, rfl, _, rfl, du, _, _, _, rfl, rfl, SqL.of (sG _ _ kd5), rfl, by show 2 ≤ sizeLine; decide, fun t1 ht1 => ⟨by show 2 ≤ sizeLine; decide, fun t' ht' => ?_⟩⟩
      have sT := (same_upd (o := .tup [.str "ask", .int (cnt + 1)]) ht1).trans (same_upd (o := .tup [.int y, .ref t1]) ht')
      have hG2' := sT _ _ hG
      have hA2 := dps_same sT _ _ hA
      have la := dps_len hA2
      have l2 : acc.length ≤ 1000 := by rw [la, List.length_map, List.length_take]; omega
      refine ⟨acc, hG2', Nat.lt_of_le_of_lt l2 (by decide), acc ++ [.ref t'], upd_same, ?_, fun b o e => by rw [upd_ne (ne_of_none e hD)]; exact sT _ _ (sG _ _ e)⟩
      have e1 : ((ws).take (i + 1)).map (yesD "ask" (cnt + 1)) = ((ws).take i).map (yesD "ask" (cnt + 1)) ++ [yesD "ask" (cnt + 1) y] := by
        rw [List.take_succ, ey, List.map_append]; rfl
      rw [e1]
      refine dps_chg ⟨_, hG2'⟩ Chg.self _ _ ?_ (dps_app hA2 (.cons (dp_yes (SqT.of upd_same) (SqT.of (same_upd ht' _ _ upd_same))) .nil))
      rw [← e1]
      exact noLs_yes _ _ _
    rintro G6 ⟨acc, kD6, dD6, s6⟩
    rw [List.length_map, List.take_length] at dD6
    refine ⟨.ref l, .ref D, .list (ws.map (yesD "ask" (cnt + 1))), rfl, lw_yess _ _ _ (by omega), .lst (SqL.of (s6 _ _ kl)) (dps_same s6 _ _ dl), .lst (SqL.of kD6) dD6, fun G7 s7 => ?_⟩
    have c5 : ∀ b x, b ≠ p → b ≠ du → G b = some x → G5' b = some x := fun b x n1 n2 e => cg _ _ n1 (cB _ _ n2 e)
    have awG : G aw' = none := none_back (fun x z => cB _ _ (ne_of_none kdB naw).symm z) naw
    have sw := L.sw
    have W5 : SW K G5' C p du ⟨me, stB "asking" ws, cnt + 1, .tuple [.int (cnt + 1), .int me], n, ws, [], ts, us⟩ ⟨a.dx, a.si, .ref tp, .ref sq, aw', a.hl, a.tg, J, a.d5, a.d6⟩ := {
      m := ⟨kp, kaw, c5 _ _ (sw.np sw.m.hh) sw.h_du sw.m.hh, c5 _ _ (sw.np sw.m.ht) sw.t_du sw.m.ht, (ne_of_none sw.m.hh awG).symm, (ne_of_none sw.m.ht awG).symm, sw.m.nht⟩
      d := ⟨kd5, kJ5, c5 _ _ (sw.np sw.d.h5) sw.u_5.symm sw.d.h5, c5 _ _ (sw.np sw.d.h6) sw.u_6.symm sw.d.h6, .tup (SqT.of (cg _ _ (ne_of ksB kpB (by intro z; cases z)) ksB)) (.cons (.int _) (.cons (.int _) .nil))⟩
      sp := .tup ktp (.cons (.int _) (.cons (.int _) .nil))
      sd := .two _ _
      per := sw.per
      srt := sw.srt
      lw := by show ws.length < 64; omega
      lh := by show 0 < 64; decide
      lt := sw.lt
      h_du := sw.h_du, h_4 := ne_of_none sw.m.hh JG, h_5 := sw.h_5, h_6 := sw.h_6
      t_du := sw.t_du, t_4 := ne_of_none sw.m.ht JG, t_5 := sw.t_5, t_6 := sw.t_6
      u_aw := ne_of_none kdB naw, u_4 := Jdu.symm, u_5 := sw.u_5, u_6 := sw.u_6 }
    have L7 := ((L.go0 W5 c5 ⟨.inl rfl, rfl, .inr awG, .inr JG, .inl rfl, .inl rfl⟩).same s6).same s7
    refine ⟨_, rfl, iteT' rfl ?_⟩
    refine ⟨_, rfl, _, rfl, ?_⟩
    dsimp only [List.append_nil]
    show spStands K C [.ref p, .ref du] _ _ _
    refine L7.sw.stands (E := E0) fun G8 s8 => ?_
    have L8 := L7.same s8
    -- another pot; those that are left
    refine ⟨_, rfl, sa, 2, ns, rfl, L8.old.seq hS, by decide, by decide, fun pp G9 hpp s9 PP => ?_⟩
    have L9 := L8.same s9
    refine ⟨_, rfl, ol, rfl, ⟨_, SqL.of L9.hol⟩, fun ll hll => ?_⟩
    have lz : (os.zip es).length = os.length := by rw [List.length_zip]; omega
    refine lc_list (K := K) (a := ol) (xs := os) (fun i G' => G' = upd G9 ll (.lst ((((os.zip es).take i).filter keepB).map Prod.fst))) (by simp) (fun i G' _ h => by rw [h]; exact SqL.of (same_upd hll _ _ L9.hol)) ?_ ?_
    · rintro i x G' hi rfl
      have il : i < es.length := by
        rw [← los]
        exact (List.getElem?_eq_some_iff.mp hi).1
      obtain ⟨e, he⟩ : ∃ e, es[i]? = some e := ⟨_, List.getElem?_eq_getElem il⟩
      obtain ⟨o, c, eo, ho1⟩ := L9.oth.2 i e he
      rw [hi] at eo
      cases eo
      have hz : (os.zip es)[i]? = some (V.ref o, e) := by
        rw [List.getElem?_zip_eq_some]
        exact ⟨hi, he⟩
      refine ⟨rfl, _, rfl, o, _, _, _, rfl, rfl, SqL.of (same_upd hll _ _ ho1), rfl, _, _, rfl, rfl, _, rfl, ?_⟩
      rw [filt_snoc hz]
      refine ite2 (fun c2 => ?_) (fun c2 => ?_)
      · rw [if_pos (show keepB (V.ref o, e) = true from c2)]
        refine ⟨_, rfl, _, upd_same, ?_, ?_⟩
        · rw [List.length_map]
          exact Nat.lt_of_le_of_lt (Nat.le_trans (List.length_filter_le _ _) (show ((os.zip es).take i).length ≤ 100 by rw [List.length_take]; omega)) (by decide)
        · rw [upd_upd, List.map_append]; rfl
      · rw [if_neg (show ¬ keepB (V.ref o, e) = true from c2), List.append_nil]
    rintro G' rfl
    rw [← lz, List.take_length]
    have oz := othc_keep L9.oth
    have sz := sub_keep L9.oth.1
    have ez := zip_snd os es L9.oth.1
    rw [ez] at oz
    obtain ⟨ls, hls⟩ : ∃ ls, ls = ((os.zip es).filter keepB).map Prod.fst := ⟨_, rfl⟩
    rw [← hls] at oz sz
    rw [← hls]
    obtain ⟨nds, mws⟩ := ws_left per e7 bd
    rw [← hws] at mws
    have fp := fell_pos es
    obtain ⟨les', hles⟩ : ∃ les', les' = es.filter posB := ⟨_, rfl⟩
    rw [← hles] at oz nds mws fp
    have tfl : ts.length = (es.filter fellB).length := by rw [e7, List.length_map]
    have sll := same_upd (o := .lst ls) hll
    have L10 : LW K C H (upd G9 ll (.lst ls)) p du ll ls les' ⟨me, stB "asking" ws, cnt + 1, .tuple [.int (cnt + 1), .int me], n, ws, [], ts, us⟩ ⟨a.dx, a.si, .ref tp, .ref sq, aw', a.hl, a.tg, J, a.d5, a.d6⟩ := {
      sw := L9.sw.same sll
      hol := upd_same
      oth := oz.keep fun b _ x e => sll _ _ e
      nd := L9.nd.sublist sz
      fol := L9.sw.far hll
      fos := fun b m => by
        obtain ⟨f1, f2, f3⟩ := L9.fos b (sz.subset m)
        obtain ⟨x, e⟩ := L9.at (sz.subset m)
        exact ⟨f1, ne_of_none e hll, f3⟩
      old := L9.old.trans sll
      np := L9.np, nhl := L9.nhl, ntg := L9.ntg, ndu := L9.ndu, nol := L9.old.free hll }
    have hppH := L8.old.free hpp
    refine ⟨Lp2 K C H sa pp p du ol ll n me fi, ⟨_, _, _, _, _, _, _, cnt + 1, 0, rfl, rfl, L10, L8.sw.far hpp, PP.neD hll, fun m => ?_, hppH, PP.new hll, by omega, rfl, rfl, Int.le_refl _, rfl, mws, nds, by show 0 + les'.length ≤ 62; omega, by show ts.length + les'.length ≤ 62; omega⟩, ?_⟩
    · obtain ⟨x, e⟩ := L8.at (sz.subset m)
      rw [hpp] at e
      cases e
    rintro m σ G ⟨v, a, ls, les, z9', z12, c0, k, rfl, rfl, L, fpp, npl, nps, hpp0, PK, bk, q1, q2, q3, q4, q5, q6, q7, q8⟩
    obtain ⟨LD, ld1, ld2⟩ := othc_dps K L.oth
    refine ⟨_, rfl, Nat.zero_le _, fun e he => ?_⟩
    have g0 := same_upd (o := .lst []) he
    have L0' := L.same g0
    have PK0 := PK.new (o := .lst []) he
    refine .inr ⟨.list (LD.map liD), .list [], .lst (SqL.of (g0 _ _ L.hol)) (dps_same g0 _ _ ld2), .lst (SqL.of upd_same) .nil, shaped_lis _, by decide, _, rfl, ?_⟩
    have llen : ls.length = les.length := L.oth.1
    by_cases hl0 : les = []
    · -- the end
      have hl1 : LD = [] := List.eq_nil_of_length_eq_zero (by rw [ld1, llen, hl0]; rfl)
      refine iteF' (by rw [hl1]; decide) ?_
      refine iteF' rfl ?_
      have w0 : v.ws = [] := List.eq_nil_iff_forall_not_mem.mpr fun x m => by
        have := (q5 x).mp m
        rw [hl0] at this
        simp at this
      have st2 : v.st = "in" := by rw [q4, w0]; simp [stB, inB]
      have lh := L.sw.lh
      have lt := L.sw.lt
      have sw0 := L0'.sw
      refine ⟨_, rfl, du, _, _, _, rfl, rfl, SqL.of sw0.d.hd, rfl, a.d5, rfl, ⟨_, SqL.of sw0.d.h5⟩, fun D hD => ?_⟩
      refine lc_list (K := K) (a := a.d5) (xs := (v.hs).map V.int) (fun i G6 => ∃ acc : List V, G6 D = some (.lst acc) ∧ DpAll K G6 acc ((v.hs).take i |>.map (yesD "yes" (v.cnt))) ∧ Same ((upd G e (.lst []))) G6) ⟨[], upd_same, by simpa using DpAll.nil, same_upd hD⟩ (fun i G6 _ h => by obtain ⟨_, _, _, z⟩ := h; exact SqL.of (z _ _ sw0.d.h5)) ?_ ?_
      · rintro i x G6 hi ⟨acc, hG, hA, sG⟩
        obtain ⟨y, ey, rfl⟩ := ints_at hi
        have i9 : i < (v.hs).length := (List.getElem?_eq_some_iff.mp ey).1
        refine ⟨rfl, lc_yes ?_⟩
        refine ⟨_, rfl, _, rfl, du, _, _, _, rfl, rfl, SqL.of (sG _ _ sw0.d.hd), rfl, by show 2 ≤ sizeLine; decide, fun t1 ht1 => ⟨by show 2 ≤ sizeLine; decide, fun t' ht' => ?_⟩⟩
        have sT := (same_upd (o := .tup [.str "yes", .int (v.cnt)]) ht1).trans (same_upd (o := .tup [.int y, .ref t1]) ht')
        have hG2' := sT _ _ hG
        have hA2 := dps_same sT _ _ hA
        have la := dps_len hA2
        have l2 : acc.length ≤ 1000 := by rw [la, List.length_map, List.length_take]; omega
        refine ⟨acc, hG2', Nat.lt_of_le_of_lt l2 (by decide), acc ++ [.ref t'], upd_same, ?_, fun b o e => by rw [upd_ne (ne_of_none e hD)]; exact sT _ _ (sG _ _ e)⟩
        have e1 : ((v.hs).take (i + 1)).map (yesD "yes" (v.cnt)) = ((v.hs).take i).map (yesD "yes" (v.cnt)) ++ [yesD "yes" (v.cnt) y] := by
          rw [List.take_succ, ey, List.map_append]; rfl
        rw [e1]
        refine dps_chg ⟨_, hG2'⟩ Chg.self _ _ ?_ (dps_app hA2 (.cons (dp_yes (SqT.of upd_same) (SqT.of (same_upd ht' _ _ upd_same))) .nil))
        rw [← e1]
        exact noLs_yes _ _ _
      rintro G6 ⟨acc, kD6, dD6, s6⟩
      rw [List.length_map, List.take_length] at dD6
      have sw6 := sw0.same s6
      have kp6 := sw6.m.hp
      have kd6 := sw6.d.hd
      refine ⟨_, rfl, _, rfl, iteT' rfl ?_⟩
      refine ⟨_, rfl, p, C, a.dx, _, _, rfl, kp6, S.cl, S.state, stF_stt _ _ _ _ _ _ _ _ _, rfl, _, rfl, iteT' (by rw [dec_str, st2]; simp) ?_⟩
      refine ⟨_, rfl, p, a.dx, _, rfl, kp6, (stF_no _ _ _ _ _ _ _ _ _ (by decide +kernel) (by decide +kernel) (by decide +kernel) (by decide +kernel) (by decide +kernel) (by decide +kernel) (by decide +kernel) (by decide +kernel) (by decide +kernel) ), p, a.dx, v.me, v.st, a.si, v.cnt, a.stp, v.n, a.aw, a.hl, a.tg, v.hs, rfl, kp6, sw6.m.hh, by omega, fun l hl' G7 xs nl nhl nlh cg kl dl kh7 kp7 => ?_⟩
      have np : ∀ {b : Addr} {xs : List V}, G6 b = some (.lst xs) → b ≠ p := fun h => sw6.np h
      have sq7 : ∀ a' zs, SqT K G6 a' zs → SqT K G7 a' zs := fun a' zs z => sqt_S (S := [p]) (fun b m => by
        rw [List.mem_singleton.mp m]
        exact .inr ⟨_, _, _, kp6⟩) (fun b x nb e => cg b x (by simpa using nb) e) z
      refine ⟨_, rfl, .ref l, .ref D, .list (v.hs.map (yesD "yes" v.cnt)), rfl, lw_yess _ _ _ (by omega), .lst (SqL.of kl) dl, .lst (SqL.of (cg _ _ (np kD6) kD6)) (dps_sqt sq7 _ _ (noLs_yes _ _ _) dD6), fun G8 s8 => ?_⟩
      have kd8 := s8 _ _ (cg _ _ (np kd6) kd6)
      refine ⟨_, rfl, _, rfl, iteT' rfl ?_⟩
      refine ⟨_, rfl, _, rfl, _, rfl, du, _, _, _, rfl, rfl, SqL.of kd8, rfl, Nat.zero_le _, fun x1 hx1 => ⟨Nat.zero_le _, fun x2 hx2 => ?_⟩⟩
      have g1 := same_upd (o := .lst []) hx1
      have g2 := g1.trans (same_upd (o := .lst []) hx2)
      refine ⟨_, rfl, du, _, _, _, rfl, rfl, SqL.of (g2 _ _ kd8), rfl, by show 7 ≤ sizeLine; decide, fun du2 hdu2 => ?_⟩
      have g3 := g2.trans (same_upd (o := .lst [.int me, .str "out", .int v.cnt, .non, .ref x1, .ref x2, .ref a.d6]) hdu2)
      have g8 : ∀ {b : Addr} {xs : List V}, G6 b = some (.lst xs) → _ := fun {b xs} h => g3 _ _ (s8 _ _ (cg _ _ (np h) h))
      have ka := sw6.m.ha
      rw [w0] at ka
      rw [q1] at kp7
      have hlaw : a.aw ≠ hl' := ne_of_none ka nhl
      have hltg : hl' ≠ a.tg := (ne_of_none sw6.m.ht nhl).symm
      refine ⟨p, a.dx, du2, me, "out", a.si, v.cnt, .non, .non, .none, v.n, a.aw, hl', a.tg, x1, x2, a.d6, [], [], v.ts, v.us, rfl, ⟨g3 _ _ (s8 _ _ kp7), g8 ka, g3 _ _ (s8 _ _ kh7), g8 sw6.m.ht, hlaw, sw6.m.nat, hltg⟩, .non, .non,
        ⟨upd_same, same_upd hdu2 _ _ (same_upd hx2 _ _ upd_same), same_upd hdu2 _ _ upd_same, g8 sw6.d.h6, .non⟩, sw6.per, sw6.srt, by decide, by decide, lt, fun H9 _ => q H9⟩
    · have hl1 : LD ≠ [] := fun z => hl0 (List.eq_nil_of_length_eq_zero (by rw [← llen, ← ld1, z]; rfl))
      refine iteT' (by
        obtain ⟨y, r, ey⟩ := List.exists_cons_of_ne_nil hl1
        rw [ey]
        simp [PyData.eqv, PyData.eqvAll]) ?_
      refine ⟨_, rfl, _, rfl, iteT' rfl ?_⟩
      have lpos : 0 < les.length := List.length_pos_iff.mpr hl0
      have l60 : les.length ≤ 62 := by omega
      refine ⟨Lp2 K C H sa pp p du ol ll n me fi (les.length - 1), fun σ' G' w => ⟨_, by omega, w⟩, ?_⟩
      -- pop
      have kl0 := L0'.hol
      refine ⟨_, rfl, .inl ⟨rfl, _, SqL.of kl0⟩, _, rfl, _, rfl, ll, _, rfl, .inl (SqL.of kl0), pp, _, k, rfl, by omega, by omega, PK0, by omega, fun d ys d0 d1 P1 => ?_⟩
      have dl : d.toNat < les.length := by omega
      obtain ⟨e', he'⟩ : ∃ e', les[d.toNat]? = some e' := ⟨_, List.getElem?_eq_getElem dl⟩
      obtain ⟨o, c, eo, ho0⟩ := L0'.oth.2 d.toNat e' he'
      obtain ⟨xs0, kpp0, _⟩ := PK0
      have L1 := (L0'.put (ys := ys) kpp0 fpp npl nps hpp0).pop d.toNat
      refine ⟨ll, _, d, d.toNat, .ref o, rfl, rfl, (upd_ne npl.symm).trans kl0, by omega, by omega, ?_, eo, ?_⟩
      · unfold seqIndex?
        simp only [if_neg (show ¬ d < 0 by omega)]
        rw [if_pos (by simp; omega)]
      obtain ⟨les2, hles2⟩ : ∃ les2, les2 = les.eraseIdx d.toNat := ⟨_, rfl⟩
      obtain ⟨ls2, hls2⟩ : ∃ ls2, ls2 = ls.eraseIdx d.toNat := ⟨_, rfl⟩
      have mo : V.ref o ∈ ls := List.mem_of_getElem? eo
      obtain ⟨fo, fol, foH⟩ := L0'.fos o mo
      have onp : o ≠ pp := fun z => nps (by rw [← z]; exact mo)
      have pe := erase_perm' les d.toNat e' he'
      have pl := erase_perm' ls d.toNat (.ref o) eo
      rw [← hles2] at pe
      rw [← hls2] at pl
      have no2 : V.ref o ∉ ls2 := by
        have := pl.nodup_iff.mpr L.nd
        rw [List.nodup_cons] at this
        exact this.1
      have nps2 : V.ref pp ∉ ls2 := fun m => nps (pl.mem_iff.mp (List.mem_cons_of_mem _ m))
      have len2 : les2.length + 1 = les.length := pe.length_eq
      have ho1 := ((upd_ne fol).trans ((upd_ne onp).trans ho0) : (upd (upd (upd G e (.lst [])) pp (.lst ys)) ll (.lst (ls.eraseIdx d.toNat))) o = _)
      have PK1 : PotAt (k + 1) (upd (upd (upd G e (.lst [])) pp (.lst ys)) ll (.lst (ls.eraseIdx d.toNat))) pp := (PotAt.at P1).ne npl rfl
      have mws : e'.s ∈ v.ws := (q5 _).mpr (List.mem_map.mpr ⟨e', List.mem_of_getElem? he', rfl⟩)
      have wn : v.ws ≠ [] := fun z => by rw [z] at mws; simp at mws
      have st1 : v.st = "asking" := by rw [q4]; simp [stB, inB, wn]
      have nd2 : (e'.s :: les2.map OV.s).Nodup := (pe.map OV.s).nodup_iff.mpr q6
      rw [List.nodup_cons] at nd2
      have ws2 : ∀ x, x ∈ lessK e'.s v.ws ↔ x ∈ les2.map OV.s := fun x => by
        have h1 := (pe.map OV.s).mem_iff (a := x)
        rw [List.map_cons, List.mem_cons] at h1
        unfold lessK
        rw [List.mem_filter, q5, ← h1]
        constructor
        · rintro ⟨h2, h3⟩
          rcases h2 with h2 | h2
          · simp [h2] at h3
          · exact h2
        · intro h2
          exact ⟨.inr h2, by
            have : ¬ x = e'.s := fun z => nd2.1 (z ▸ h2)
            simp [this]⟩
      rw [← hles2, ← hls2] at L1
      rw [← hls2] at ho1 PK1
      rw [← hls2]
      -- its ask
      refine ⟨_, rfl, o, _, _, _, rfl, rfl, SqL.of ho1, rfl, rfl, _, rfl, ?_⟩
      rw [dec_ii]
      refine ite2 (fun c2 => ?_) (fun c2 => ?_)
      · obtain ⟨sb, esb, qsb⟩ := stamp_two (by rw [← q2]; exact L1.sw.d.hs_)
        have kd1 := L1.sw.d.hd
        refine ⟨_, rfl, du, _, _, _, rfl, rfl, SqL.of kd1, rfl, sb, _, _, _, esb, rfl, qsb, rfl, ?_⟩
        refine ⟨_, rfl, pp, 3, k + 1, rfl, by decide, by decide, PK1, by omega, fun d2 ys2 d20 d21 P2 => ?_⟩
        refine ⟨_, _, rfl, rfl, _, _, rfl, rfl, _, _, rfl, rfl, ⟨by decide, by decide, by decide⟩, _, _, rfl, ?_⟩
        obtain ⟨xs1, kpp1, _⟩ := PK1
        have L2 := L1.put (ys := ys2) kpp1 fpp npl nps2 hpp0
        have PK2 := PotAt.at (H := upd (upd (upd G e (.lst [])) pp (.lst ys)) ll (.lst ls2)) (p := pp) P2
        have ho2 := (upd_ne (o := .lst ys2) onp).trans ho1
        refine ⟨_, rfl, _, _, rfl, _, rfl, o, _, _, _, rfl, rfl, SqL.of ho2, rfl, by show 2 ≤ sizeLine; decide, fun t ht => ?_⟩
        refine ⟨_, rfl, pp, 2, k + 2, rfl, by decide, by decide, PK2.new ht, by omega, fun d3 ys3 d30 d31 P3 => ?_⟩
        have tpp : t ≠ pp := (PK2.neD ht).symm
        refine ⟨t, _, d3, _, rfl, rfl, SqL.of ((upd_ne tpp).trans upd_same), at2_ok _ _ _ d30 d31, ?_⟩
        have ho3 := fun q : Int => (upd_ne (o := .lst ys3) onp).trans (same_upd (o := .lst [.int q, .int c]) ht _ _ ho2)
        refine ⟨_, rfl, o, _, _, _, rfl, rfl, ho3 _, rfl, ?_⟩
        have L3 := fun q r : Int => ((L2.same (same_upd (o := .lst [.int q, .int c]) ht)).putP (ys := ys3) (PK2.new ht) fpp npl nps2 hpp0).put (ys := [.int e'.s, .int r, .int e'.e2, .int e'.e3]) (ho3 q) fo fol no2 foH
        have PK4 := fun q r : Int => (PotAt.at (H := upd (upd (upd (upd (upd G e (.lst [])) pp (.lst ys)) ll (.lst ls2)) pp (.lst ys2)) t (.lst [.int q, .int c])) (p := pp) P3).ne (D := o) (o := .lst [.int e'.s, .int r, .int e'.e2, .int e'.e3]) onp.symm rfl
        refine ⟨_, rfl, _, rfl, _, rfl, p, du, o, v, a, [c0, me], e'.s, _, e'.e2, e'.e3, rfl, (L3 _ _).sw, (by rw [st1]; exact n_ask_in), (fun _ => ⟨c0, me, rfl, q2⟩), upd_same, by omega, fo.du, fo.aw, fo.hl, fo.tg, fo.d4, fo.d5, fo.d6, fun d5' c' G5 W' m5 le ho' ch => ?_⟩
        have L4 := (L3 _ _).go W' (asked_ch ch) ho' foH (fun i e1 h1 h2 => absurd (List.mem_of_getElem? h2) no2) fol (moved5 m5)
        have PK5 : PotAt (k + 3) G5 pp := (PK4 _ _).keepS ch (by
          simp only [List.mem_cons, List.not_mem_nil, or_false, not_or]
          exact ⟨fpp.p, fpp.hl, fpp.du, onp.symm⟩)
        have fpp5 := (moved5 m5).farP fpp (PK4 _ _)
        have fo5 := (moved5 m5).far fo upd_same
        have hs5 := askedV_hs v e'.s (at2 (if (if 10 ^ (Int.toNat 40) < c0 + d2 - 1 then 10 ^ (Int.toNat 40) else c0 + d2 - 1) > 1 then (if 10 ^ (Int.toNat 40) < c0 + d2 - 1 then 10 ^ (Int.toNat 40) else c0 + d2 - 1) else 1) c d3) [c0, me]
        refine ⟨_, rfl, _, rfl, iteT' rfl ?_⟩
        refine ⟨_, rfl, _, rfl, _, rfl, by show 2 ≤ sizeLine; decide, fun t5 ht5 => ?_⟩
        have t5s := same_upd (o := .lst [.str "yes", .str "gone"]) ht5
        refine ⟨_, rfl, o, _, _, _, rfl, rfl, SqL.of (t5s _ _ ho'), rfl, rfl, .inr ⟨_, rfl, t5, _, _, _, rfl, rfl, SqL.of upd_same, yes_at _, ?_⟩⟩
        have L5 := (L4).same t5s
        refine ⟨p, du, o, _, _, e'.s, _, e'.e2, e'.e3, decide (V.int e'.e3 = V.int 1), rfl, L5.sw, (fun _ => ⟨c0, me, q2, Int.le_trans q3 (maxI_ge _ _)⟩), t5s _ _ ho', (by show v.ts.length + 1 < 64; omega), (fo5).du, (fo5).tg, fun us a2 G6 W6 m1 m2 m3 m4 m5' m6 ch6 => ?_⟩
        have ho6 := ch6 _ _ (by
          simp only [List.mem_cons, List.not_mem_nil, or_false, not_or]
          exact ⟨(fo5).p, (fo5).tg, (fo5).du⟩) (t5s _ _ ho')
        have M6 : Moved _ _ a2 := ⟨m1, m2, m3, m4, m5', m6⟩
        have L6 := L5.go W6 (let_ch ch6) ho6 foH (fun i e1 h1 h2 => absurd (List.mem_of_getElem? h2) no2) fol M6
        have PK6 := ((PK5).keep t5s).keepS ch6 (by
          simp only [List.mem_cons, List.not_mem_nil, or_false, not_or]
          exact ⟨(fpp5).p, (fpp5).tg, (fpp5).du⟩)
        have fpp6 := M6.farP (fpp5) ((PK5).keep t5s)
        refine ⟨_, a2, ls2, les2, _, _, c0, _, by omega, rfl, L6, fpp6, npl, nps2, hpp0, PK6, by omega, ?_, ?_, ?_, ?_, ?_, nd2.2, ?_, ?_⟩
        · rw [letV_me]; exact q1
        · rw [letV_ds]; exact q2
        · exact Int.le_trans (Int.le_trans q3 (maxI_ge _ _)) (letV_cnt _ _ _ _ _)
        · rw [letV_st, letV_ws]
          show stB v.st _ = _
          rw [st1]
        · intro x
          rw [letV_ws]
          exact ws2 x
        · exact Nat.le_trans (Nat.add_le_add_right (letV_hs _ _ _ _ _) _) ((by omega))
        · exact Nat.le_trans (Nat.add_le_add_right (letV_ts _ _ _ _ _) _) (show v.ts.length + 1 + les2.length ≤ 62 by omega)
      · skip
        refine ⟨_, rfl, _, rfl, iteT' rfl ?_⟩
        refine ⟨_, rfl, _, rfl, _, rfl, by show 2 ≤ sizeLine; decide, fun t5 ht5 => ?_⟩
        have t5s := same_upd (o := .lst [.str "yes", .str "gone"]) ht5
        refine ⟨_, rfl, o, _, _, _, rfl, rfl, SqL.of (t5s _ _ ho1), rfl, rfl, .inr ⟨_, rfl, t5, _, _, _, rfl, rfl, SqL.of upd_same, yes_at _, ?_⟩⟩
        have L5 := (L1).same t5s
        refine ⟨p, du, o, _, _, e'.s, _, e'.e2, e'.e3, decide (V.int e'.e3 = V.int 1), rfl, L5.sw, (fun _ => ⟨c0, me, q2, q3⟩), t5s _ _ ho1, (by show v.ts.length + 1 < 64; omega), (fo).du, (fo).tg, fun us a2 G6 W6 m1 m2 m3 m4 m5' m6 ch6 => ?_⟩
        have ho6 := ch6 _ _ (by
          simp only [List.mem_cons, List.not_mem_nil, or_false, not_or]
          exact ⟨(fo).p, (fo).tg, (fo).du⟩) (t5s _ _ ho1)
        have M6 : Moved _ _ a2 := ⟨m1, m2, m3, m4, m5', m6⟩
        have L6 := L5.go W6 (let_ch ch6) ho6 foH (fun i e1 h1 h2 => absurd (List.mem_of_getElem? h2) no2) fol M6
        have PK6 := ((PK1).keep t5s).keepS ch6 (by
          simp only [List.mem_cons, List.not_mem_nil, or_false, not_or]
          exact ⟨(fpp).p, (fpp).tg, (fpp).du⟩)
        have fpp6 := M6.farP (fpp) ((PK1).keep t5s)
        refine ⟨_, a2, ls2, les2, _, _, c0, _, by omega, rfl, L6, fpp6, npl, nps2, hpp0, PK6, by omega, ?_, ?_, ?_, ?_, ?_, nd2.2, ?_, ?_⟩
        · rw [letV_me]; exact q1
        · rw [letV_ds]; exact q2
        · exact Int.le_trans (q3) (letV_cnt _ _ _ _ _)
        · rw [letV_st, letV_ws]
          show stB v.st _ = _
          rw [st1]
        · intro x
          rw [letV_ws]
          exact ws2 x
        · exact Nat.le_trans (Nat.add_le_add_right (letV_hs _ _ _ _ _) _) ((by omega))
        · exact Nat.le_trans (Nat.add_le_add_right (letV_ts _ _ _ _ _) _) (show v.ts.length + 1 + les2.length ≤ 62 by omega)
end

end G0
namespace G0
open PySem PySem.Spec PyProof.Rows L2 NdefX ClX
theorem made_of {P : Program} {w : World} {K : PySem.W.Frag} {mg : Str → Option Value} {base : Heap} {C fI cc cda Dk fS : Addr} {ocI dcI pmI ctI clI ccl : Value} {odI anI cldI cdd : Option Addr} {oslI csl ccs : Array (Option Value)} {vs : Array Value} {file : Str} {tf td : Tok} {cdD : ClassData} {fd2 : FuncData}
    (S : StT K C) (sits : NoAttr K C "sits") (mgC : mg "Stamper" = some (.ref C)) (mk : PySem.W.makesIn K C = true) (kc : PySem.W.keepIn K (.ref C) = true)
    (FS : Fun K "__init__" "Seat.__init__" s_Seat__init fS fd2)
    (i1 : PySem.W.findIn K (.ref C) "__init__" = some (some (.ref fI))) (i2 : PySem.W.isFn K (.ref fI) = true)
    (i3 : K.lookup fI = some ⟨ocI, odI, .func (PySem.W.ksFn "__init__" "Stamper.__init__" (defArgs s_Stamper__init) (defBody s_Stamper__init) (defScope s_Stamper__init) .none (.ref Dk) dcI pmI anI (.ref cda) ctI cc), oslI⟩)
    (i4 : PySem.W.codeIn K (.ref cda) "Stamper.__init__" = true) (i5 : K.lookup cc = some ⟨clI, cldI, .cell (some (.ref C)), csl⟩) (i6 : K.lookup cda = some ⟨ccl, cdd, .fields vs, ccs⟩)
    (w7 : vs[2]? = some (.str file tf)) (w8 : ((P.main.file : Str) == file) = true) (w9 : PySem.W.clsIn K C = some cdD) (i10 : PySem.W.nsIn K mainGlobals "super" = some none)
    (w11 : (P.main.scope.names.lookup ("super" : Str)).isSome = false) (i12 : PySem.W.nsIn K cStatics "thirdparty.any" = some none) (w13 : PySem.W.mroIn K C (.ref C) = some true)
    (w14 : PySem.W.ks_superIn K C C "__init__" = some (some (.ref fS))) (i15 : PySem.W.typeIn K (.ref fS) = some (.type "function")) (w16 : PySem.W.fnIn K fS = true)
    (i17 : PySem.W.nsIn K Dk "count" = some (some (.int 0 td))) : MkT P w K mg base C := by
  have F2 : FnR P w K mg base CX0 1 fS (spSeat0 C) := fnR_of (ps := ["self", "me"]) (ok_seat0 FS S.cl S.me S.state sits) (FS.binds (fun _ _ _ _ _ _ us hl => match us, hl with | [_, _], _ => rfl) )
  have F : SupF P K ["self", "me", "seats", "count", "__class__"] fI cc cda C (PySem.W.ksFn "__init__" "Stamper.__init__" (defArgs s_Stamper__init) (defBody s_Stamper__init) (defScope s_Stamper__init) .none (.ref Dk) dcI pmI anI (.ref cda) ctI cc) (defArgs s_Stamper__init) (defScope s_Stamper__init) := {
    fun_ := ⟨_, _, _, i3, rfl⟩
    arg := ⟨_, rfl, rfl, by decide +kernel⟩
    code := ⟨_, _, _, _, _, _, i6, w7, w8⟩
    cell := ⟨_, _, _, i5⟩
    cls := ⟨_, w9⟩
    miss := i10
    sup := by decide +kernel
    own := by decide +kernel
    kind := rfl
    top := w11
    any_ := i12 }
  refine ⟨⟨fI, _, [.int 0 td], _, ok_sinit i3 i4 i5 F F2 S w13 w14 i15 w16, .cons ⟨td, rfl⟩ .nil, fun s us X hl => ?_, ⟨fun s us ws X l1 l2 => ?_, fun r1 r2 => r1.append r2⟩, ⟨mk, i1, i2, kc⟩, rfl⟩, mgC⟩
  · have l3 : us.length = 3 := by
      rw [List.length_append] at hl
      exact Nat.succ.inj hl
    refine BindsTo.of_looks fun M => KwChain.looks (l := [("count", .int 0 td)]) X (fun q hq => by
      rw [List.mem_singleton.mp hq]
      exact i17) ?_
    match us, l3 with
    | [_, _, _], _ => exact ⟨_, _, _, _, _, _, rfl, rfl, rfl⟩
  · match us, ws, l1, l2 with
    | [_, _, _], [_], _, _ => exact .of_eq rfl
theorem me_of {P : Program} {w : World} {K : PySem.W.Frag} {mg : Str → Option Value} {base : Heap} {C : Addr} {x qual : Str} {st : Stmt} {k : Nat} {ps : List Str} {sp : Sp}
    (F : Fm K C x qual st) (ok : ∀ f fd, Fun K x qual st f fd → FnOk P w K mg base CX0 k f fd ps sp)
    (bd : ∀ (kV doc pm : Value) (an : Option Addr) (cdv ct : Value) (us : List Value), us.length = ps.length →
      bindArgs (PySem.W.fnOf x qual (defArgs st) (defBody st) (defScope st) .none kV doc pm an cdv ct) ⟨us, []⟩ = pure (ps.zip us)) :
    Me P w K mg base C x k ps sp := by
  obtain ⟨f, fd, F, m⟩ := F
  exact ⟨f, fd, ok f fd F, F.binds bd, m⟩
theorem whole {P : Program} {w : World} {K : PySem.W.Frag} {mg : Str → Option Value} {base : Heap} {C : Addr} (T1 : BlS mg) (T2 : BlR mg) (T3 : BlW mg) (T4 : BlQ mg) (T5 : BlO mg) (T6 : BlL mg) (S : StT K C)
    (F_pot : Fn K mg "_law_pot" s_law_pot) (F_draw : Fn K mg "_law_draw" s_law_draw) (F_same : Fn K mg "_law_same" s_law_same) (F_others : Fn K mg "_law_others" s_law_others)
    (F_stands : Fn K mg "_law_stands" s_law_stands) (F_asked : Fn K mg "_law_asked" s_law_asked) (F_let : Fn K mg "_law_let" s_law_let) (F_law : Fn K mg "law" s_law)
    (M_awaits : Fm K C "awaits" "Stamper.awaits" s_Stamper_awaits) (M_holds : Fm K C "holds" "Stamper.holds" s_Stamper_holds) (M_told : Fm K C "told_gone" "Stamper.told_gone" s_Stamper_told_gone)
    (M_yes : Fm K C "_yes" "Stamper._yes" s_Stamper_yes) (M_come : Fm K C "_come_in_where_none_is_awaited" "Stamper._come_in_where_none_is_awaited" s_Stamper_come_in_where_none_is_awaited)
    (M_more : Fm K C "_await_no_more" "Stamper._await_no_more" s_Stamper_await_no_more) (M_hask : Fm K C "_hear_ask" "Stamper._hear_ask" s_Stamper_hear_ask) (M_hear : Fm K C "hear" "Stamper.hear" s_Stamper_hear)
    (M_leave : Fm K C "leave" "Stamper.leave" s_Stamper_leave) (M_gone : Fm K C "gone" "Stamper.gone" s_Stamper_gone) (M_ask : Fm K C "ask" "Stamper.ask" s_Stamper_ask)
    (MK : MkT P w K mg base C) : Cal P w K mg base "law" 6 ["script"] (spLaw K) := by
  have Y := me_of (P := P) (w := w) (mg := mg) (base := base) (ps := ["self", "seat"]) M_yes (fun f fd F => ok_yes F S) (fun _ _ _ _ _ _ us hl => match us, hl with | [_, _], _ => rfl) 
  have Co := me_of (P := P) (w := w) (mg := mg) (base := base) (ps := ["self"]) M_come (fun f fd F => ok_come F T1 S) (fun _ _ _ _ _ _ us hl => match us, hl with | [_], _ => rfl) 
  have No := me_of (P := P) (w := w) (mg := mg) (base := base) (ps := ["self", "seat"]) M_more (fun f fd F => ok_nomore F S Co) (fun _ _ _ _ _ _ us hl => match us, hl with | [_, _], _ => rfl) 
  have Ha := me_of (P := P) (w := w) (mg := mg) (base := base) (ps := ["self", "sender", "count"]) M_hask (fun f fd F => ok_hearask F S Y) (fun _ _ _ _ _ _ us hl => match us, hl with | [_, _, _], _ => rfl) 
  have He := me_of (P := P) (w := w) (mg := mg) (base := base) (ps := ["self", "sender", "letter"]) M_hear (fun f fd F => ok_hear F T1 S Ha No) (fun _ _ _ _ _ _ us hl => match us, hl with | [_, _, _], _ => rfl) 
  have Le := me_of (P := P) (w := w) (mg := mg) (base := base) (ps := ["self"]) M_leave (fun f fd F => ok_leave F S Y) (fun _ _ _ _ _ _ us hl => match us, hl with | [_], _ => rfl) 
  have Go := me_of (P := P) (w := w) (mg := mg) (base := base) (ps := ["self", "seat"]) M_gone (fun f fd F => ok_sgone F S No) (fun _ _ _ _ _ _ us hl => match us, hl with | [_, _], _ => rfl) 
  have As := me_of (P := P) (w := w) (mg := mg) (base := base) (ps := ["self"]) M_ask (fun f fd F => ok_sask F T1 S Co) (fun _ _ _ _ _ _ us hl => match us, hl with | [_], _ => rfl) 
  have Aw := me_of (P := P) (w := w) (mg := mg) (base := base) (ps := ["self"]) M_awaits (fun f fd F => ok_awaits F T1 S) (fun _ _ _ _ _ _ us hl => match us, hl with | [_], _ => rfl) 
  have Ho := me_of (P := P) (w := w) (mg := mg) (base := base) (ps := ["self"]) M_holds (fun f fd F => ok_holds F T1 S) (fun _ _ _ _ _ _ us hl => match us, hl with | [_], _ => rfl) 
  have Tg := me_of (P := P) (w := w) (mg := mg) (base := base) (ps := ["self"]) M_told (fun f fd F => ok_toldgone F T1 S) (fun _ _ _ _ _ _ us hl => match us, hl with | [_], _ => rfl) 
  have St := ok_stands F_stands T2 S (ok_sms F_same T4 2) Aw Ho Tg
  have Dr := ok_draw (P := P) (w := w) (base := base) F_draw
  exact ok_law F_law T6 S (ok_pot F_pot T3) Dr (ok_sms F_same T4 3) St (ok_asked F_asked T2 S (ok_sms F_same T4 3) St He) (ok_let F_let T2 S (ok_sms F_same T4 3) St He Go) (ok_others F_others T5 Dr) As Le MK
theorem all_mk {P : Program} {w : World} {K : PySem.W.Frag} {h : Heap} {mg : Str → Option Value} {fa : Addr}
    {C_Stamper : Addr} {C_Seat : Addr} {f1 : Addr} {od1 an1 : Option Addr} {sl1 : Array (Option Value)} {oc1 kV1 dc1 pm1 cd1 ct1 : Value} {f2 : Addr} {od2 an2 : Option Addr} {sl2 : Array (Option Value)} {oc2 kV2 dc2 pm2 cd2 ct2 : Value} {f3 : Addr} {od3 an3 : Option Addr} {sl3 : Array (Option Value)} {oc3 kV3 dc3 pm3 cd3 ct3 : Value} {f4 : Addr} {od4 an4 : Option Addr} {sl4 : Array (Option Value)} {oc4 kV4 dc4 pm4 cd4 ct4 : Value} {f5 : Addr} {od5 an5 : Option Addr} {sl5 : Array (Option Value)} {oc5 kV5 dc5 pm5 cd5 ct5 : Value} {f6 : Addr} {od6 an6 : Option Addr} {sl6 : Array (Option Value)} {oc6 kV6 dc6 pm6 cd6 ct6 : Value} {f7 : Addr} {od7 an7 : Option Addr} {sl7 : Array (Option Value)} {oc7 kV7 dc7 pm7 cd7 ct7 : Value} {f8 : Addr} {od8 an8 : Option Addr} {sl8 : Array (Option Value)} {oc8 kV8 dc8 pm8 cd8 ct8 : Value} {f9 : Addr} {od9 an9 : Option Addr} {sl9 : Array (Option Value)} {oc9 kV9 dc9 pm9 cd9 ct9 : Value} {f10 : Addr} {od10 an10 : Option Addr} {sl10 : Array (Option Value)} {oc10 kV10 dc10 pm10 cd10 ct10 : Value} {f11 : Addr} {od11 an11 : Option Addr} {sl11 : Array (Option Value)} {oc11 kV11 dc11 pm11 cd11 ct11 : Value} {f12 : Addr} {od12 an12 : Option Addr} {sl12 : Array (Option Value)} {oc12 kV12 dc12 pm12 cd12 ct12 : Value} {f13 : Addr} {od13 an13 : Option Addr} {sl13 : Array (Option Value)} {oc13 kV13 dc13 pm13 cd13 ct13 : Value} {f14 : Addr} {od14 an14 : Option Addr} {sl14 : Array (Option Value)} {oc14 kV14 dc14 pm14 cd14 ct14 : Value} {f15 : Addr} {od15 an15 : Option Addr} {sl15 : Array (Option Value)} {oc15 kV15 dc15 pm15 cd15 ct15 : Value} {f16 : Addr} {od16 an16 : Option Addr} {sl16 : Array (Option Value)} {oc16 kV16 dc16 pm16 cd16 ct16 : Value} {f17 : Addr} {od17 an17 : Option Addr} {sl17 : Array (Option Value)} {oc17 kV17 dc17 pm17 cd17 ct17 : Value} {f18 : Addr} {od18 an18 : Option Addr} {sl18 : Array (Option Value)} {oc18 kV18 dc18 pm18 cd18 ct18 : Value} {f19 : Addr} {od19 an19 : Option Addr} {sl19 : Array (Option Value)} {oc19 kV19 dc19 pm19 cd19 ct19 : Value} {f20 : Addr} {od20 an20 : Option Addr} {sl20 : Array (Option Value)} {oc20 kV20 dc20 pm20 cd20 ct20 : Value} {fI cc cda Dk : Addr} {ocI dcI pmI ctI clI ccl : Value} {odI anI cldI cdd : Option Addr} {oslI csl ccs : Array (Option Value)} {vs : Array Value} {file : Str} {tf td t0 : Tok} {cdD : ClassData}
    (X : K.In h) (G : h.Ns mainGlobals mg) (hfa : mg "law" = some (.ref fa))
    (aC_Stamper : PySem.W.nsIn K mainGlobals "Stamper" = some (some (.ref C_Stamper)))
    (pg_Stamper : PySem.W.plainGet K C_Stamper Str.empty = true)
    (hd_Stamper : PySem.W.hasDictIn K C_Stamper = true)
    (po_Stamper : PySem.W.plainOver K C_Stamper = true)
    (sa_Stamper : PySem.W.findIn K (.ref C_Stamper) "__setattr__" = some (some (.builtin "object.__setattr__")))
    (mk_Stamper : PySem.W.makesIn K C_Stamper = true)
    (kc_Stamper : PySem.W.keepIn K (.ref C_Stamper) = true)
    (aC_Seat : PySem.W.nsIn K mainGlobals "Seat" = some (some (.ref C_Seat)))
    (pg_Seat : PySem.W.plainGet K C_Seat Str.empty = true)
    (hd_Seat : PySem.W.hasDictIn K C_Seat = true)
    (po_Seat : PySem.W.plainOver K C_Seat = true)
    (sa_Seat : PySem.W.findIn K (.ref C_Seat) "__setattr__" = some (some (.builtin "object.__setattr__")))
    (mk_Seat : PySem.W.makesIn K C_Seat = true)
    (kc_Seat : PySem.W.keepIn K (.ref C_Seat) = true)
    (a1 : PySem.W.nsIn K mainGlobals "_law_pot" = some (some (.ref f1)))
    (l1 : K.lookup f1 = some ⟨oc1, od1, .func (PySem.W.fnOf "_law_pot" "_law_pot" (defArgs s_law_pot) (defBody s_law_pot) (defScope s_law_pot) .none kV1 dc1 pm1 an1 cd1 ct1), sl1⟩)
    (c1 : PySem.W.codeIn K cd1 "_law_pot" = true)
    (k1 : PySem.W.keepIn K (.ref f1) = true)
    (a2 : PySem.W.nsIn K mainGlobals "_law_draw" = some (some (.ref f2)))
    (l2 : K.lookup f2 = some ⟨oc2, od2, .func (PySem.W.fnOf "_law_draw" "_law_draw" (defArgs s_law_draw) (defBody s_law_draw) (defScope s_law_draw) .none kV2 dc2 pm2 an2 cd2 ct2), sl2⟩)
    (c2 : PySem.W.codeIn K cd2 "_law_draw" = true)
    (k2 : PySem.W.keepIn K (.ref f2) = true)
    (a3 : PySem.W.nsIn K mainGlobals "_law_same" = some (some (.ref f3)))
    (l3 : K.lookup f3 = some ⟨oc3, od3, .func (PySem.W.fnOf "_law_same" "_law_same" (defArgs s_law_same) (defBody s_law_same) (defScope s_law_same) .none kV3 dc3 pm3 an3 cd3 ct3), sl3⟩)
    (c3 : PySem.W.codeIn K cd3 "_law_same" = true)
    (k3 : PySem.W.keepIn K (.ref f3) = true)
    (a4 : PySem.W.nsIn K mainGlobals "_law_others" = some (some (.ref f4)))
    (l4 : K.lookup f4 = some ⟨oc4, od4, .func (PySem.W.fnOf "_law_others" "_law_others" (defArgs s_law_others) (defBody s_law_others) (defScope s_law_others) .none kV4 dc4 pm4 an4 cd4 ct4), sl4⟩)
    (c4 : PySem.W.codeIn K cd4 "_law_others" = true)
    (k4 : PySem.W.keepIn K (.ref f4) = true)
    (a5 : PySem.W.nsIn K mainGlobals "_law_stands" = some (some (.ref f5)))
    (l5 : K.lookup f5 = some ⟨oc5, od5, .func (PySem.W.fnOf "_law_stands" "_law_stands" (defArgs s_law_stands) (defBody s_law_stands) (defScope s_law_stands) .none kV5 dc5 pm5 an5 cd5 ct5), sl5⟩)
    (c5 : PySem.W.codeIn K cd5 "_law_stands" = true)
    (k5 : PySem.W.keepIn K (.ref f5) = true)
    (a6 : PySem.W.nsIn K mainGlobals "_law_asked" = some (some (.ref f6)))
    (l6 : K.lookup f6 = some ⟨oc6, od6, .func (PySem.W.fnOf "_law_asked" "_law_asked" (defArgs s_law_asked) (defBody s_law_asked) (defScope s_law_asked) .none kV6 dc6 pm6 an6 cd6 ct6), sl6⟩)
    (c6 : PySem.W.codeIn K cd6 "_law_asked" = true)
    (k6 : PySem.W.keepIn K (.ref f6) = true)
    (a7 : PySem.W.nsIn K mainGlobals "_law_let" = some (some (.ref f7)))
    (l7 : K.lookup f7 = some ⟨oc7, od7, .func (PySem.W.fnOf "_law_let" "_law_let" (defArgs s_law_let) (defBody s_law_let) (defScope s_law_let) .none kV7 dc7 pm7 an7 cd7 ct7), sl7⟩)
    (c7 : PySem.W.codeIn K cd7 "_law_let" = true)
    (k7 : PySem.W.keepIn K (.ref f7) = true)
    (a8 : PySem.W.nsIn K mainGlobals "law" = some (some (.ref f8)))
    (l8 : K.lookup f8 = some ⟨oc8, od8, .func (PySem.W.fnOf "law" "law" (defArgs s_law) (defBody s_law) (defScope s_law) .none kV8 dc8 pm8 an8 cd8 ct8), sl8⟩)
    (c8 : PySem.W.codeIn K cd8 "law" = true)
    (k8 : PySem.W.keepIn K (.ref f8) = true)
    (a9 : PySem.W.findIn K (.ref C_Seat) "__init__" = some (some (.ref f9)))
    (i9 : PySem.W.isFn K (.ref f9) = true)
    (l9 : K.lookup f9 = some ⟨oc9, od9, .func (PySem.W.fnOf "__init__" "Seat.__init__" (defArgs s_Seat__init) (defBody s_Seat__init) (defScope s_Seat__init) .none kV9 dc9 pm9 an9 cd9 ct9), sl9⟩)
    (c9 : PySem.W.codeIn K cd9 "Seat.__init__" = true)
    (k9 : PySem.W.keepIn K (.ref f9) = true)
    (a10 : PySem.W.findIn K (.ref C_Stamper) "awaits" = some (some (.ref f10)))
    (i10 : PySem.W.isFn K (.ref f10) = true)
    (l10 : K.lookup f10 = some ⟨oc10, od10, .func (PySem.W.fnOf "awaits" "Stamper.awaits" (defArgs s_Stamper_awaits) (defBody s_Stamper_awaits) (defScope s_Stamper_awaits) .none kV10 dc10 pm10 an10 cd10 ct10), sl10⟩)
    (c10 : PySem.W.codeIn K cd10 "Stamper.awaits" = true)
    (k10 : PySem.W.keepIn K (.ref f10) = true)
    (a11 : PySem.W.findIn K (.ref C_Stamper) "holds" = some (some (.ref f11)))
    (i11 : PySem.W.isFn K (.ref f11) = true)
    (l11 : K.lookup f11 = some ⟨oc11, od11, .func (PySem.W.fnOf "holds" "Stamper.holds" (defArgs s_Stamper_holds) (defBody s_Stamper_holds) (defScope s_Stamper_holds) .none kV11 dc11 pm11 an11 cd11 ct11), sl11⟩)
    (c11 : PySem.W.codeIn K cd11 "Stamper.holds" = true)
    (k11 : PySem.W.keepIn K (.ref f11) = true)
    (a12 : PySem.W.findIn K (.ref C_Stamper) "told_gone" = some (some (.ref f12)))
    (i12 : PySem.W.isFn K (.ref f12) = true)
    (l12 : K.lookup f12 = some ⟨oc12, od12, .func (PySem.W.fnOf "told_gone" "Stamper.told_gone" (defArgs s_Stamper_told_gone) (defBody s_Stamper_told_gone) (defScope s_Stamper_told_gone) .none kV12 dc12 pm12 an12 cd12 ct12), sl12⟩)
    (c12 : PySem.W.codeIn K cd12 "Stamper.told_gone" = true)
    (k12 : PySem.W.keepIn K (.ref f12) = true)
    (a13 : PySem.W.findIn K (.ref C_Stamper) "_yes" = some (some (.ref f13)))
    (i13 : PySem.W.isFn K (.ref f13) = true)
    (l13 : K.lookup f13 = some ⟨oc13, od13, .func (PySem.W.fnOf "_yes" "Stamper._yes" (defArgs s_Stamper_yes) (defBody s_Stamper_yes) (defScope s_Stamper_yes) .none kV13 dc13 pm13 an13 cd13 ct13), sl13⟩)
    (c13 : PySem.W.codeIn K cd13 "Stamper._yes" = true)
    (k13 : PySem.W.keepIn K (.ref f13) = true)
    (a14 : PySem.W.findIn K (.ref C_Stamper) "_come_in_where_none_is_awaited" = some (some (.ref f14)))
    (i14 : PySem.W.isFn K (.ref f14) = true)
    (l14 : K.lookup f14 = some ⟨oc14, od14, .func (PySem.W.fnOf "_come_in_where_none_is_awaited" "Stamper._come_in_where_none_is_awaited" (defArgs s_Stamper_come_in_where_none_is_awaited) (defBody s_Stamper_come_in_where_none_is_awaited) (defScope s_Stamper_come_in_where_none_is_awaited) .none kV14 dc14 pm14 an14 cd14 ct14), sl14⟩)
    (c14 : PySem.W.codeIn K cd14 "Stamper._come_in_where_none_is_awaited" = true)
    (k14 : PySem.W.keepIn K (.ref f14) = true)
    (a15 : PySem.W.findIn K (.ref C_Stamper) "_await_no_more" = some (some (.ref f15)))
    (i15 : PySem.W.isFn K (.ref f15) = true)
    (l15 : K.lookup f15 = some ⟨oc15, od15, .func (PySem.W.fnOf "_await_no_more" "Stamper._await_no_more" (defArgs s_Stamper_await_no_more) (defBody s_Stamper_await_no_more) (defScope s_Stamper_await_no_more) .none kV15 dc15 pm15 an15 cd15 ct15), sl15⟩)
    (c15 : PySem.W.codeIn K cd15 "Stamper._await_no_more" = true)
    (k15 : PySem.W.keepIn K (.ref f15) = true)
    (a16 : PySem.W.findIn K (.ref C_Stamper) "_hear_ask" = some (some (.ref f16)))
    (i16 : PySem.W.isFn K (.ref f16) = true)
    (l16 : K.lookup f16 = some ⟨oc16, od16, .func (PySem.W.fnOf "_hear_ask" "Stamper._hear_ask" (defArgs s_Stamper_hear_ask) (defBody s_Stamper_hear_ask) (defScope s_Stamper_hear_ask) .none kV16 dc16 pm16 an16 cd16 ct16), sl16⟩)
    (c16 : PySem.W.codeIn K cd16 "Stamper._hear_ask" = true)
    (k16 : PySem.W.keepIn K (.ref f16) = true)
    (a17 : PySem.W.findIn K (.ref C_Stamper) "hear" = some (some (.ref f17)))
    (i17 : PySem.W.isFn K (.ref f17) = true)
    (l17 : K.lookup f17 = some ⟨oc17, od17, .func (PySem.W.fnOf "hear" "Stamper.hear" (defArgs s_Stamper_hear) (defBody s_Stamper_hear) (defScope s_Stamper_hear) .none kV17 dc17 pm17 an17 cd17 ct17), sl17⟩)
    (c17 : PySem.W.codeIn K cd17 "Stamper.hear" = true)
    (k17 : PySem.W.keepIn K (.ref f17) = true)
    (a18 : PySem.W.findIn K (.ref C_Stamper) "leave" = some (some (.ref f18)))
    (i18 : PySem.W.isFn K (.ref f18) = true)
    (l18 : K.lookup f18 = some ⟨oc18, od18, .func (PySem.W.fnOf "leave" "Stamper.leave" (defArgs s_Stamper_leave) (defBody s_Stamper_leave) (defScope s_Stamper_leave) .none kV18 dc18 pm18 an18 cd18 ct18), sl18⟩)
    (c18 : PySem.W.codeIn K cd18 "Stamper.leave" = true)
    (k18 : PySem.W.keepIn K (.ref f18) = true)
    (a19 : PySem.W.findIn K (.ref C_Stamper) "gone" = some (some (.ref f19)))
    (i19 : PySem.W.isFn K (.ref f19) = true)
    (l19 : K.lookup f19 = some ⟨oc19, od19, .func (PySem.W.fnOf "gone" "Stamper.gone" (defArgs s_Stamper_gone) (defBody s_Stamper_gone) (defScope s_Stamper_gone) .none kV19 dc19 pm19 an19 cd19 ct19), sl19⟩)
    (c19 : PySem.W.codeIn K cd19 "Stamper.gone" = true)
    (k19 : PySem.W.keepIn K (.ref f19) = true)
    (a20 : PySem.W.findIn K (.ref C_Stamper) "ask" = some (some (.ref f20)))
    (i20 : PySem.W.isFn K (.ref f20) = true)
    (l20 : K.lookup f20 = some ⟨oc20, od20, .func (PySem.W.fnOf "ask" "Stamper.ask" (defArgs s_Stamper_ask) (defBody s_Stamper_ask) (defScope s_Stamper_ask) .none kV20 dc20 pm20 an20 cd20 ct20), sl20⟩)
    (c20 : PySem.W.codeIn K cd20 "Stamper.ask" = true)
    (k20 : PySem.W.keepIn K (.ref f20) = true)
    (n_Stamper_me : PySem.W.findIn K (.ref C_Stamper) "me" = some none)
    (n_Stamper_state : PySem.W.findIn K (.ref C_Stamper) "state" = some none)
    (n_Stamper_sits : PySem.W.findIn K (.ref C_Stamper) "sits" = some none)
    (n_Stamper_count : PySem.W.findIn K (.ref C_Stamper) "count" = some none)
    (n_Stamper_stamp : PySem.W.findIn K (.ref C_Stamper) "stamp" = some none)
    (n_Stamper__seats : PySem.W.findIn K (.ref C_Stamper) "_seats" = some none)
    (n_Stamper__awaits : PySem.W.findIn K (.ref C_Stamper) "_awaits" = some none)
    (n_Stamper__holds : PySem.W.findIn K (.ref C_Stamper) "_holds" = some none)
    (n_Stamper__told_gone : PySem.W.findIn K (.ref C_Stamper) "_told_gone" = some none)
    (i1 : PySem.W.findIn K (.ref C_Stamper) "__init__" = some (some (.ref fI)))
    (i2 : PySem.W.isFn K (.ref fI) = true)
    (i3 : K.lookup fI = some ⟨ocI, odI, .func (PySem.W.ksFn "__init__" "Stamper.__init__" (defArgs s_Stamper__init) (defBody s_Stamper__init) (defScope s_Stamper__init) .none (.ref Dk) dcI pmI anI (.ref cda) ctI cc), oslI⟩)
    (ii4 : PySem.W.codeIn K (.ref cda) "Stamper.__init__" = true)
    (ii5 : K.lookup cc = some ⟨clI, cldI, .cell (some (.ref C_Stamper)), csl⟩)
    (ii6 : K.lookup cda = some ⟨ccl, cdd, .fields vs, ccs⟩)
    (w7 : vs[2]? = some (.str file tf))
    (w8 : ((P.main.file : Str) == file) = true)
    (w9 : PySem.W.clsIn K C_Stamper = some cdD)
    (ii10 : PySem.W.nsIn K mainGlobals "super" = some none)
    (w11 : (P.main.scope.names.lookup ("super" : Str)).isSome = false)
    (ii12 : PySem.W.nsIn K cStatics "thirdparty.any" = some none)
    (w13 : PySem.W.mroIn K C_Stamper (.ref C_Stamper) = some true)
    (w14 : PySem.W.ks_superIn K C_Stamper C_Stamper "__init__" = some (some (.ref f9)))
    (ii15 : PySem.W.typeIn K (.ref f9) = some (.type "function"))
    (w16 : PySem.W.fnIn K f9 = true)
    (ii17 : PySem.W.nsIn K Dk "count" = some (some (.int 0 td)))
    (m1 : PySem.W.nsIn K mainGlobals "FIRST" = some (some (.int 0 t0)))
    (b_len : PySem.W.nsIn K mainGlobals "len" = some none)
    (b_range : PySem.W.nsIn K mainGlobals "range" = some none)
    (b_tuple : PySem.W.nsIn K mainGlobals "tuple" = some none)
    (b_list : PySem.W.nsIn K mainGlobals "list" = some none)
    (b_isinstance : PySem.W.nsIn K mainGlobals "isinstance" = some none)
    (b_bool : PySem.W.nsIn K mainGlobals "bool" = some none)
    (b_str : PySem.W.nsIn K mainGlobals "str" = some none)
    (b_sorted : PySem.W.nsIn K mainGlobals "sorted" = some none)
    (b_int : PySem.W.nsIn K mainGlobals "int" = some none)
    (b_min : PySem.W.nsIn K mainGlobals "min" = some none)
    (b_max : PySem.W.nsIn K mainGlobals "max" = some none)
    (b_abs : PySem.W.nsIn K mainGlobals "abs" = some none)
    (b_all : PySem.W.nsIn K mainGlobals "all" = some none)
    (b_zip : PySem.W.nsIn K mainGlobals "zip" = some none) :
    ∃ fd : FuncData, (∀ (s : Shared) (v : Value), BindsTo s fd ⟨[v], []⟩ [("script", v)]) ∧
      ∀ base : Heap, K.In base → base.Ns mainGlobals mg → FnG P w K mg base CX0 6 fa fd ["script"] (spLaw K) := by
  have F_law_pot : Fn K mg "_law_pot" s_law_pot := fn_top X G a1 l1 c1 k1
  have F_law_draw : Fn K mg "_law_draw" s_law_draw := fn_top X G a2 l2 c2 k2
  have F_law_same : Fn K mg "_law_same" s_law_same := fn_top X G a3 l3 c3 k3
  have F_law_others : Fn K mg "_law_others" s_law_others := fn_top X G a4 l4 c4 k4
  have F_law_stands : Fn K mg "_law_stands" s_law_stands := fn_top X G a5 l5 c5 k5
  have F_law_asked : Fn K mg "_law_asked" s_law_asked := fn_top X G a6 l6 c6 k6
  have F_law_let : Fn K mg "_law_let" s_law_let := fn_top X G a7 l7 c7 k7
  have F_law : Fn K mg "law" s_law := fn_top X G a8 l8 c8 k8
  have M_Seat__init : Fm K C_Seat "__init__" "Seat.__init__" s_Seat__init := fm_top a9 i9 l9 c9 k9
  have M_Stamper_awaits : Fm K C_Stamper "awaits" "Stamper.awaits" s_Stamper_awaits := fm_top a10 i10 l10 c10 k10
  have M_Stamper_holds : Fm K C_Stamper "holds" "Stamper.holds" s_Stamper_holds := fm_top a11 i11 l11 c11 k11
  have M_Stamper_told_gone : Fm K C_Stamper "told_gone" "Stamper.told_gone" s_Stamper_told_gone := fm_top a12 i12 l12 c12 k12
  have M_Stamper_yes : Fm K C_Stamper "_yes" "Stamper._yes" s_Stamper_yes := fm_top a13 i13 l13 c13 k13
  have M_Stamper_come_in_where_none_is_awaited : Fm K C_Stamper "_come_in_where_none_is_awaited" "Stamper._come_in_where_none_is_awaited" s_Stamper_come_in_where_none_is_awaited := fm_top a14 i14 l14 c14 k14
  have M_Stamper_await_no_more : Fm K C_Stamper "_await_no_more" "Stamper._await_no_more" s_Stamper_await_no_more := fm_top a15 i15 l15 c15 k15
  have M_Stamper_hear_ask : Fm K C_Stamper "_hear_ask" "Stamper._hear_ask" s_Stamper_hear_ask := fm_top a16 i16 l16 c16 k16
  have M_Stamper_hear : Fm K C_Stamper "hear" "Stamper.hear" s_Stamper_hear := fm_top a17 i17 l17 c17 k17
  have M_Stamper_leave : Fm K C_Stamper "leave" "Stamper.leave" s_Stamper_leave := fm_top a18 i18 l18 c18 k18
  have M_Stamper_gone : Fm K C_Stamper "gone" "Stamper.gone" s_Stamper_gone := fm_top a19 i19 l19 c19 k19
  have M_Stamper_ask : Fm K C_Stamper "ask" "Stamper.ask" s_Stamper_ask := fm_top a20 i20 l20 c20 k20
  have B_len := PySem.W.mg_none_of X G b_len
  have B_range := PySem.W.mg_none_of X G b_range
  have B_tuple := PySem.W.mg_none_of X G b_tuple
  have B_list := PySem.W.mg_none_of X G b_list
  have B_isinstance := PySem.W.mg_none_of X G b_isinstance
  have B_bool := PySem.W.mg_none_of X G b_bool
  have B_str := PySem.W.mg_none_of X G b_str
  have B_sorted := PySem.W.mg_none_of X G b_sorted
  have B_int := PySem.W.mg_none_of X G b_int
  have B_min := PySem.W.mg_none_of X G b_min
  have B_max := PySem.W.mg_none_of X G b_max
  have B_abs := PySem.W.mg_none_of X G b_abs
  have B_all := PySem.W.mg_none_of X G b_all
  have B_zip := PySem.W.mg_none_of X G b_zip
  have T_Stamper : Cls K C_Stamper := ⟨pg_Stamper, hd_Stamper, po_Stamper, sa_Stamper⟩
  have G_Stamper := PySem.W.mg_of X G aC_Stamper
  have T_Seat : Cls K C_Seat := ⟨pg_Seat, hd_Seat, po_Seat, sa_Seat⟩
  have G_Seat := PySem.W.mg_of X G aC_Seat
  have S : StT K C_Stamper := ⟨T_Stamper, n_Stamper_me, n_Stamper_state, n_Stamper_count, n_Stamper_stamp, n_Stamper__seats, n_Stamper__awaits, n_Stamper__holds, n_Stamper__told_gone⟩
  exact law_end F_law hfa (fun _ _ _ _ _ _ s v => .of_eq rfl) fun base _ _ => whole ⟨B_len, B_range, B_list, B_sorted, B_max⟩ ⟨B_range, B_sorted, B_max, B_min, B_int⟩ ⟨B_len, B_abs, B_int⟩ ⟨B_len, B_all, B_zip, B_isinstance, B_list, B_tuple, B_str, B_bool, B_int⟩ ⟨B_len, B_range⟩ ⟨B_len, B_range, B_int, B_min, B_max, t0, PySem.W.mg_of X G m1⟩ S
    F_law_pot F_law_draw F_law_same F_law_others F_law_stands F_law_asked F_law_let F_law M_Stamper_awaits M_Stamper_holds M_Stamper_told_gone M_Stamper_yes M_Stamper_come_in_where_none_is_awaited M_Stamper_await_no_more M_Stamper_hear_ask M_Stamper_hear M_Stamper_leave M_Stamper_gone M_Stamper_ask
    (made_of S n_Stamper_sits G_Stamper mk_Stamper kc_Stamper (fun_mk l9 c9 k9) i1 i2 i3 ii4 ii5 ii6 w7 w8 w9 ii10 w11 ii12 w13 w14 ii15 w16 ii17)
end G0
open PySem PySem.W PyProof.Rows in
set_option maxRecDepth 100000 in
set_option maxHeartbeats 0 in
set_option pp.maxSteps 20 in
theorem PySem.Challenge.cw_soleseat_k29_one_going_of_one_seat_holds : PySem.Challenge.rw_soleseat_k29_one_going_of_one_seat.Holds := by
  w_on; o_law; k_head; (case hw => w_witness2)
  k_fill
  refine G0.walk_ofGB (l := PySem.Challenge.rw_soleseat_k29_one_going_of_one_seat) (n := 63) (k := 6) (x := "script") (sp := G0.spLaw) rfl (by decide) rfl ⟨rfl, by decide, by decide⟩ (fun w h Y => PySem.W.kIn_of Y) ?F (fun K H a ns hl bits _ hS => ⟨a, ns, rfl, hS, fun _ => rfl⟩)
  case F =>
    intro w mg fa h KX G hmg
    refine' G0.all_mk KX G hmg ?aC_Stamper ?pg_Stamper ?hd_Stamper ?po_Stamper ?sa_Stamper ?mk_Stamper ?kc_Stamper ?aC_Seat ?pg_Seat ?hd_Seat ?po_Seat ?sa_Seat ?mk_Seat ?kc_Seat ?a1 ?l1 ?c1 ?k1 ?a2 ?l2 ?c2 ?k2 ?a3 ?l3 ?c3 ?k3 ?a4 ?l4 ?c4 ?k4 ?a5 ?l5 ?c5 ?k5 ?a6 ?l6 ?c6 ?k6 ?a7 ?l7 ?c7 ?k7 ?a8 ?l8 ?c8 ?k8 ?a9 ?i9 ?l9 ?c9 ?k9 ?a10 ?i10 ?l10 ?c10 ?k10 ?a11 ?i11 ?l11 ?c11 ?k11 ?a12 ?i12 ?l12 ?c12 ?k12 ?a13 ?i13 ?l13 ?c13 ?k13 ?a14 ?i14 ?l14 ?c14 ?k14 ?a15 ?i15 ?l15 ?c15 ?k15 ?a16 ?i16 ?l16 ?c16 ?k16 ?a17 ?i17 ?l17 ?c17 ?k17 ?a18 ?i18 ?l18 ?c18 ?k18 ?a19 ?i19 ?l19 ?c19 ?k19 ?a20 ?i20 ?l20 ?c20 ?k20 ?n_Stamper_me ?n_Stamper_state ?n_Stamper_sits ?n_Stamper_count ?n_Stamper_stamp ?n_Stamper__seats ?n_Stamper__awaits ?n_Stamper__holds ?n_Stamper__told_gone ?i1 ?i2 ?i3 ?ii4 ?ii5 ?ii6 ?w7 ?w8 ?w9 ?ii10 ?w11 ?ii12 ?w13 ?w14 ?ii15 ?w16 ?ii17 ?m1 ?b_len ?b_range ?b_tuple ?b_list ?b_isinstance ?b_bool ?b_str ?b_sorted ?b_int ?b_min ?b_max ?b_abs ?b_all ?b_zip
    (case aC_Stamper => k_is)
    (case pg_Stamper => k_is)
    (case hd_Stamper => k_is)
    (case po_Stamper => k_is)
    (case sa_Stamper => k_is)
    (case mk_Stamper => k_is)
    (case kc_Stamper => k_is)
    (case aC_Seat => k_is)
    (case pg_Seat => k_is)
    (case hd_Seat => k_is)
    (case po_Seat => k_is)
    (case sa_Seat => k_is)
    (case mk_Seat => k_is)
    (case kc_Seat => k_is)
    (case a1 => k_is)
    (case l1 => k_is)
    (case c1 => k_is)
    (case k1 => k_is)
    (case a2 => k_is)
    (case l2 => k_is)
    (case c2 => k_is)
    (case k2 => k_is)
    (case a3 => k_is)
    (case l3 => k_is)
    (case c3 => k_is)
    (case k3 => k_is)
    (case a4 => k_is)
    (case l4 => k_is)
    (case c4 => k_is)
    (case k4 => k_is)
    (case a5 => k_is)
    (case l5 => k_is)
    (case c5 => k_is)
    (case k5 => k_is)
    (case a6 => k_is)
    (case l6 => k_is)
    (case c6 => k_is)
    (case k6 => k_is)
    (case a7 => k_is)
    (case l7 => k_is)
    (case c7 => k_is)
    (case k7 => k_is)
    (case a8 => k_is)
    (case l8 => k_is)
    (case c8 => k_is)
    (case k8 => k_is)
    (case a9 => k_is)
    (case i9 => k_is)
    (case l9 => k_is)
    (case c9 => k_is)
    (case k9 => k_is)
    (case a10 => k_is)
    (case i10 => k_is)
    (case l10 => k_is)
    (case c10 => k_is)
    (case k10 => k_is)
    (case a11 => k_is)
    (case i11 => k_is)
    (case l11 => k_is)
    (case c11 => k_is)
    (case k11 => k_is)
    (case a12 => k_is)
    (case i12 => k_is)
    (case l12 => k_is)
    (case c12 => k_is)
    (case k12 => k_is)
    (case a13 => k_is)
    (case i13 => k_is)
    (case l13 => k_is)
    (case c13 => k_is)
    (case k13 => k_is)
    (case a14 => k_is)
    (case i14 => k_is)
    (case l14 => k_is)
    (case c14 => k_is)
    (case k14 => k_is)
    (case a15 => k_is)
    (case i15 => k_is)
    (case l15 => k_is)
    (case c15 => k_is)
    (case k15 => k_is)
    (case a16 => k_is)
    (case i16 => k_is)
    (case l16 => k_is)
    (case c16 => k_is)
    (case k16 => k_is)
    (case a17 => k_is)
    (case i17 => k_is)
    (case l17 => k_is)
    (case c17 => k_is)
    (case k17 => k_is)
    (case a18 => k_is)
    (case i18 => k_is)
    (case l18 => k_is)
    (case c18 => k_is)
    (case k18 => k_is)
    (case a19 => k_is)
    (case i19 => k_is)
    (case l19 => k_is)
    (case c19 => k_is)
    (case k19 => k_is)
    (case a20 => k_is)
    (case i20 => k_is)
    (case l20 => k_is)
    (case c20 => k_is)
    (case k20 => k_is)
    (case n_Stamper_me => k_is)
    (case n_Stamper_state => k_is)
    (case n_Stamper_sits => k_is)
    (case n_Stamper_count => k_is)
    (case n_Stamper_stamp => k_is)
    (case n_Stamper__seats => k_is)
    (case n_Stamper__awaits => k_is)
    (case n_Stamper__holds => k_is)
    (case n_Stamper__told_gone => k_is)
    (case i1 => k_is)
    (case i2 => k_is)
    (case i3 => k_is)
    (case ii4 => k_is)
    (case ii5 => k_is)
    (case ii6 => k_is)
    (case w7 => first | k_is | exact rfl | decide +kernel)
    (case w8 => first | k_is | exact rfl | decide +kernel)
    (case w9 => first | k_is | exact rfl | decide +kernel)
    (case ii10 => k_is)
    (case w11 => first | k_is | exact rfl | decide +kernel)
    (case ii12 => k_is)
    (case w13 => first | k_is | exact rfl | decide +kernel)
    (case w14 => first | k_is | exact rfl | decide +kernel)
    (case ii15 => k_is)
    (case w16 => first | k_is | exact rfl | decide +kernel)
    (case ii17 => k_is)
    (case m1 => k_is)
    (case b_len => k_is)
    (case b_range => k_is)
    (case b_tuple => k_is)
    (case b_list => k_is)
    (case b_isinstance => k_is)
    (case b_bool => k_is)
    (case b_str => k_is)
    (case b_sorted => k_is)
    (case b_int => k_is)
    (case b_min => k_is)
    (case b_max => k_is)
    (case b_abs => k_is)
    (case b_all => k_is)
    (case b_zip => k_is)
#print axioms PySem.Challenge.cw_soleseat_k29_one_going_of_one_seat_holds
namespace G0

end G0
