import PyProof.Rows.All
import Wide.All
import OpenK.AllK
import Wide.FinOn
import HandS.ForMost
import HandS.Wide
import HandS.Conv
import HandS.TupAny
import HandS.Deep
import HandS.Steps
import HandS.NoneIn
import HandS.IsInst
import HandS.More
import HandS.Defaults
import PySem.Challenge.RW_soleseat_k05_seats_alone
set_option Elab.async false
set_option maxRecDepth 100000
set_option maxHeartbeats 1000000
set_option linter.all false
/-! Calls where nothing is under repr around: the layer's defs, with one premise more (no guard around). -/
namespace G0
open PySem PySem.Spec PyProof.Rows L2
structure FnG (P : Program) (w : World) (K : PySem.W.Frag) (mg : Str → Option Value) (base : Heap) (CX : CXT)
    (k : Nat) (f : Addr) (fd : FuncData) (ps : List Str) (sp : Sp) : Prop where
  args : ∀ zs G R W, sp zs G R W → zs.length = ps.length
  runs : ∀ (B : Around) (around : List Env) (t : Shared) (G : Hp) (given : Args) (bound : List Value) (zs : List V) (R : VK) (W : XK),
    B.guards = some [] → Room k B → Env0 P w K mg base B around t G →
    BindsTo t fd given (ps.zip bound) → Vals zs bound → sp zs G R W →
    codeAny (model P w) B (.call (.ref f) given) (CR CX around P w G t R W) t
theorem FnG.of {P : Program} {w : World} {K : PySem.W.Frag} {mg : Str → Option Value} {base : Heap} {CX : CXT}
    {k : Nat} {f : Addr} {fd : FuncData} {ps : List Str} {sp : Sp} (F : FnOk P w K mg base CX k f fd ps sp) :
    FnG P w K mg base CX k f fd ps sp :=
  ⟨F.len, fun B around t G given bound zs R W _ hr => F.run B around t G given bound zs R W hr⟩
theorem FnG.mono {P : Program} {w : World} {K : PySem.W.Frag} {mg : Str → Option Value} {base : Heap} {CX : CXT}
    {j k : Nat} {f : Addr} {fd : FuncData} {ps : List Str} {sp : Sp} (F : FnG P w K mg base CX j f fd ps sp) (h : j ≤ k) :
    FnG P w K mg base CX k f fd ps sp :=
  ⟨F.args, fun B around t G given bound zs R W hg hr => F.runs B around t G given bound zs R W hg (hr.mono h)⟩
section
variable {X : Cx} {CX : CXT} {k : Nat} {f : Addr} {fd : FuncData} {ps : List Str} {sp : Sp}
  {dvs : List V} {ds : List Value} {E : XK} {x : Str} {p pos : Pos} {e : Expr} {es : List Expr} {t : TA}
theorem goes {pins : List (Addr × Obj)} {σ : L2.St} {H : Hp} {s : Shared} {Q : VK} {us : List Value} {vs : List V}
    (F : FnG X.prog X.w X.K X.mg X.base CX k f fd ps sp) (free : X.A.guards = some []) (hr : Room k X.A)
    (hb : Binds X.K fd ps ds) (hd : Vals dvs ds) (hx : Passes CX X E)
    (I : Inv X pins σ H s) (r : Vals vs us) (h : sp (vs ++ dvs) H Q E) :
    wpAny (model X.prog X.w) X.A (call (.ref f) us) (EP X pins σ Q) X.xe s := by
  have both : Vals (vs ++ dvs) (us ++ ds) := r.append hd
  have many : (us ++ ds).length = ps.length := both.length.symm.trans (F.args _ _ _ _ h)
  have it := F.runs X.A X.stack s H ⟨us, []⟩ (us ++ ds) (vs ++ dvs) Q E free hr I.env0 (hb s us I.kIn many) both h
  refine wpAny_call (codeAny_mono it fun out s' told => ?_)
  match out, told with
  | .error e, told => exact hx pins σ H s e s' I told
  | .ok (.ret u), told => exact I.after told
  | .ok .next, told => exact told.elim
  | .ok .brk, told => exact told.elim
  | .ok .cont, told => exact told.elim
theorem pe_callG (F : FnG X.prog X.w X.K X.mg X.base CX k f fd ps sp) (free : X.A.guards = some []) (hr : Room k X.A)
    (hg : Gl X x) (hm : X.mg x = some (.ref f)) (hk : PySem.W.keepIn X.K (.ref f) = true)
    (hb : Binds X.K fd ps ds) (hd : Vals dvs ds) (hx : Passes CX X E) (ha : PA X (e :: es) t)
    (n1 : (x == ("__debug__" : Str)) = false := by decide)
    (n2 : starEach (e :: es) X.env = (false, eval e X.env) :: starEach es X.env := by rfl)
    (n3 : (backTo pos (starEach es X.env)).any (·.1) = false := by rfl) :
    PE X (.Call (.Name x p) (e :: es) [] pos) (tCall sp dvs E t) :=
  ⟨fun pins s σ H Q I h => wpAny_Call_Name_kw (ld_glob I hg hm
    (PySem.W.callWith_K (h₀ := X.base) I.ok.mod.kin hk
      (thn (ha.run pos pins s σ H _ I h) fun us s1 ⟨vs, H1, I1, r, q⟩ =>
        ⟨I1.kIn, goes F free hr hb hd hx I1 r q⟩) n2 n3) n1)⟩
end
/-- a def's body, where nothing is under repr -/
theorem fnG_of {CX : CXT} {P : Program} {w : World} {K : PySem.W.Frag} {mg : Str → Option Value} {base : Heap} {k : Nat}
    {f : Addr} {name qual : Str} {params : Arguments} {body : List Stmt} {scope : Scope} {dV kV doc pm cdv ct oc : Value}
    {an od : Option Addr} {osl : Array (Option Value)} {N ps : List Str} {sp : Sp}
    (lk : K.lookup f = some ⟨oc, od, .func (PySem.W.fnOf name qual params body scope dV kV doc pm an cdv ct), osl⟩)
    (coded : PySem.W.codeIn K cdv qual = true) (S : FnScope N ps scope)
    (len : ∀ zs G R W, sp zs G R W → zs.length = ps.length)
    (inner : ∀ (B : Around) (around : List Env) (t : Shared) (G : Hp) (zs : List V) (R : VK) (W : XK), B.guards = some [] →
      Room k (B.deeper (envOfC qual scope t.heap.objs.size f cdv)) → sp zs G R W →
      ∃ tb, PSs (cxOf CX P w K mg base N qual scope f cdv B around t G W) body tb ∧
        tb { nx := fun _ G' => R .non G', rt := R } (start N zs) G) :
    FnG P w K mg base CX (k + 1) f (PySem.W.fnOf name qual params body scope dV kV doc pm an cdv ct) ps sp := by
  refine ⟨len, fun B around t G given bound zs R W free room e0 bd rel asked => ?_⟩
  have many := len _ _ _ _ asked
  have KX : K.In t.heap := e0.mod.kin.keeps fun b o z => (e0.bs b o z).1
  have lim : t.heap.NoLimit := e0.mod.nolimit.keeps fun b o z => (e0.bs b o z).1
  have kinds : ∀ y ∈ ps.zip bound, scope.names.lookup y.1 = some .local ∨
      (scope.names.lookup y.1 = some .cell ∧ ((cellsFrom (t.heap.objs.size + 1) scope.names []).lookup y.1).isSome = true) := by
    intro y hy
    cases S.par y.1 (List.of_mem_zip hy).1 with
    | inl q => exact .inl q
    | inr q => exact .inr ⟨q, PySem.W.cellsFrom_some _ _ _ (.inl q)⟩
  refine codeAny_call_function room.depth (KX _ _ lk) rfl S.co S.gen rfl (PySem.W.codeRec_of KX coded) (bd _ _ _ _ ?_)
  refine wpAny_newFunctionEnv_cells S.kind kinds fun env same t1 made => ?_
  subst same
  refine ⟨lim.keeps made.toInCall.keep, codeAny_func ?_⟩
  obtain ⟨tb, derived, holds⟩ := inner B around t G zs R W free (room.deeper _) asked
  have J : Inv (cxOf CX P w K mg base N qual scope f cdv B around t G W) [] (start N zs) G t1 :=
    inv_start S room.hd e0 many rel made
  refine wpAny_mono (derived.run [] t1 (start N zs) G _ J holds) (fun fl t' told => ?_) fun e t' told => told
  match fl, told with
  | .ret u, ⟨v, σ', G', J', rv, q⟩ => exact ⟨v, G', J'.os, J'.bare, J'.base, J'.hok, rv, q⟩
  | .next, ⟨σ', G', J', q⟩ => exact ⟨V.non, G', J'.os, J'.bare, J'.base, J'.hok, (rfl : Value.none = Value.none), q⟩
  | .brk, ⟨_, _, _, q⟩ => exact q.elim
  | .cont, ⟨_, _, _, q⟩ => exact q.elim
theorem okG {P : Program} {w : World} {K : PySem.W.Frag} {mg : Str → Option Value} {base : Heap} {x qual : Str} {st : Stmt}
    {f : Addr} {fd : FuncData} {N ps : List Str} {k : Nat} {sp : Sp} (F : Fun K x qual st f fd) (S : FnScope N ps (defScope st))
    (len : ∀ zs G R W, sp zs G R W → zs.length = ps.length)
    (inner : ∀ (cdv : Value) (B : Around) (around : List Env) (t : Shared) (G : Hp) (zs : List V) (R : VK) (W : XK), B.guards = some [] →
      Room k (B.deeper (envOfC qual (defScope st) t.heap.objs.size f cdv)) → sp zs G R W →
      ∃ tb, PSs (cxOf CX0 P w K mg base N qual (defScope st) f cdv B around t G W).nox (defBody st) tb ∧
        tb { nx := fun _ G' => R .non G', rt := R } (start N zs) G) :
    FnG P w K mg base CX0 (k + 1) f fd ps sp := by
  obtain ⟨oc, od, kV, doc, pm, an, cdv, ct, osl, rfl, lk, coded⟩ := F.ex
  refine fnG_of lk coded S len fun B around t G zs R W free room asked => ?_
  obtain ⟨tb, derived, holds⟩ := inner cdv B around t G zs R W free room asked
  exact ⟨tb, derived.nox, holds⟩
/-- the law's own call -/
theorem law_callG {P : Program} {w : World} {K : PySem.W.Frag} {mg mb : Str → Option Value} {CX : CXT} {k : Nat} {fa a : Addr}
    {fd : FuncData} {x : Str} {sp : Sp} {s₁ : Shared} {vs : List Value} {ns : List Int}
    (KX : K.In s₁.heap) (gl : s₁.heap.Ns mainGlobals mg) (bl : s₁.heap.Ns builtinsNs mb)
    (boot : ∀ x : Str, x ≠ "__name__" → mb x = bootBuiltins x) (lim : s₁.heap.NoLimit) (nogens : s₁.gens = #[])
    (at_ : s₁.heap.get? a = some { cls := .type "list", data := .seq vs.toArray }) (nums : IntsAre vs ns) (short : ns.length ≤ sizeLine)
    (room : Room k callerA)
    (F : ∀ base : Heap, K.In base → base.Ns mainGlobals mg → FnG P w K mg base CX k fa fd [x] sp)
    (bound : ∀ (s : Shared) (u : Value), BindsTo s fd ⟨[u], []⟩ [(x, u)])
    (asked : ∀ H : Hp, Only H → SqL K H a (ns.map V.int) → sp [.ref a] H (fun v _ => v = .bl true) fun _ _ _ => False)
    (never : ∀ H e s', CX [] H s₁ (fun _ _ _ => False) e s' → False) :
    codeAny (model P w) callerA (.call (.ref fa) ⟨[.ref a], []⟩)
      (fun r s' => r = .ok (.ret (.bool true)) ∧ OldK s₁.heap s'.heap ∧ s'.os = s₁.os ∧ AllBare s'.gens) s₁ := by
  have rel := vals_ints nums
  have many := nums.length
  have from_ : ∀ H : Hp, Only H → SqL K H a (ns.map V.int) → HOk P w H s₁.heap → (∀ b, H b ≠ none → b = a) →
      (H a ≠ none → K.lookup a = none) → codeAny (model P w) callerA (.call (.ref fa) ⟨[.ref a], []⟩)
        (fun r s' => r = .ok (.ret (.bool true)) ∧ OldK s₁.heap s'.heap ∧ s'.os = s₁.os ∧ AllBare s'.gens) s₁ := by
    intro H only seq fine one away
    have down : ∀ {b : Addr} {o : Obj}, s₁.heap.get? b = some o → H b = none →
      (hidT s₁.heap H).get? b = some o := fun e n => hidT_get e n
    have untracked : ∀ {b : Addr} {o : Obj}, s₁.heap.get? b = some o → (b = a → False) → H b = none := by
      intro b o _ n
      by_cases q : H b = none
      · exact q
      · exact (n (one b q)).elim
    have nodict : ∀ {b : Addr} {o : Obj} {es : Array DictEntry} {ep : Nat},
        s₁.heap.get? b = some o → o.data = .dict es ep → H b = none := by
      intro b o es ep e d
      refine untracked e fun q => ?_
      rw [q, at_] at e
      have e' := Option.some.inj e
      rw [← e'] at d
      have d' : Data.seq vs.toArray _ = Data.dict es ep := d
      exact absurd d' (fun h => by cases h)
    have spaces : ∀ {b : Addr} {m : Str → Option Value}, s₁.heap.Ns b m → (hidT s₁.heap H).Ns b m := by
      intro b m ns
      obtain ⟨o, es, ep, e, d, r⟩ := ns
      exact ⟨o, es, ep, down e (nodict e d), d, r⟩
    have written : K.In (hidT s₁.heap H) := by
      intro b o e
      refine down (KX b o e) ?_
      by_cases q : H b = none
      · exact q
      · have same := one b q
        rw [same] at q e
        rw [away q] at e
        cases e
    have md : Mod K mg (hidT s₁.heap H) := by
      obtain ⟨mc, h1, h2⟩ := lim
      exact ⟨written, spaces gl, ⟨mb, spaces bl, boot⟩, ⟨mc, spaces h1, h2⟩⟩
    have e0 : Env0 P w K mg (hidT s₁.heap H) callerA [] s₁ H :=
      ⟨rfl, md, fun b o e => of_hidT e, Nat.le_of_eq (hidT_size _ _), trivial,
        fun b hb => (List.not_mem_nil (show b ∈ ([] : List Addr) from hb)).elim, fine, .of_eq nogens⟩
    have it := (F _ written (spaces gl)).runs callerA [] s₁ H ⟨[.ref a], []⟩ [.ref a] [.ref a] _ _ rfl room e0
      (bound s₁ (.ref a)) (.cons rfl .nil) (asked H only seq)
    refine codeAny_mono it fun out s' told => ?_
    match out, told with
    | .error e, told => exact (never H e s' told).elim
    | .ok .next, told => exact told.elim
    | .ok .brk, told => exact told.elim
    | .ok .cont, told => exact told.elim
    | .ok (.ret u), ⟨v, H', os, bare, un, fine', r', q⟩ =>
      have q' : v = .bl true := q
      subst q'
      have u' : u = Value.bool true := r'
      subst u'
      refine ⟨rfl, OldK.of_keep fun b o e => ?_, os, bare⟩
      cases q : H b with
      | none => exact un.keep b o e q (fun z => (List.not_mem_nil (show b ∈ ([] : List Addr) from z)).elim) (List.not_mem_nil)
      | some u =>
        rcases only b with z | ⟨ob, xs, z⟩
        · have z1 := q.symm.trans z
          cases z1
        · have z' := un.frzs b ob _ z
          have e1 := (fine b _ z).1
          have e2 := (fine' b _ z').1
          exact e2.trans (e1.symm.trans e)
  cases known : K.lookup a with
  | some o =>
    have e := (KX a o known).symm.trans at_
    have e' := Option.some.inj e
    subst e'
    refine from_ (fun _ => none) (fun _ => .inl rfl) (.inr ⟨_, vs.toArray, _, known, rfl, rfl, rfl, ?_, ?_⟩)
      (fun b u z => by have z1 : (none : Option HO) = some u := z; cases z1) (fun b z => (z rfl).elim) fun z => (z rfl).elim
    · rw [List.size_toArray, many]; exact short
    · simpa using rel
  | none =>
    have self : (fun b => if b = a then some (HO.frz { cls := .type "list", data := .seq vs.toArray } (.lst (ns.map V.int))) else none) a
        = some (HO.frz { cls := .type "list", data := .seq vs.toArray } (.lst (ns.map V.int))) := if_pos rfl
    refine from_ (fun b => if b = a then some (HO.frz { cls := .type "list", data := .seq vs.toArray } (.lst (ns.map V.int))) else none)
      (fun b => ?_) (.inl (.inr ⟨_, self⟩)) (fun b u z => ?_) (fun b z => ?_) fun _ => known
    · by_cases same : b = a
      · exact .inr ⟨_, _, if_pos same⟩
      · exact .inl (if_neg same)
    · by_cases same : b = a
      · subst same
        have z' := Option.some.inj ((if_pos rfl).symm.trans z)
        subst z'
        exact ⟨at_, by rw [List.length_map]; exact short, vs, _, rel, at_⟩
      · have z1 := (if_neg same).symm.trans z
        cases z1
    · by_cases same : b = a
      · exact same
      · exact (z (if_neg same)).elim
theorem walk_ofG {l : PySem.W.OpenLaw} {n k : Nat} {q : Program} {loose : List Str} {XP : (Str → Option Value) → Heap → Prop}
    {YP : World → Heap → Prop} {d : DefRec} {K : Params → PySem.W.Frag} {sp : PySem.W.Frag → Sp} {x : Str}
    (hn : l.most = some n) (hn2 : n ≤ sizeLine) (hdf : d.params.defaults = []) (room : Room k callerA)
    (hY : ∀ (w : World) (h : Heap), YP w h → (K w.params).In h)
    (F : ∀ (w : World) (mg : Str → Option Value) (fa : Addr) (h : Heap), (K w.params).In h → h.Ns mainGlobals mg →
      mg d.name = some (.ref fa) → ∃ fd : FuncData, (∀ (s : Shared) (u : Value), BindsTo s fd ⟨[u], []⟩ [(x, u)]) ∧
        ∀ base : Heap, (K w.params).In base → base.Ns mainGlobals mg →
          FnG l.prog w (K w.params) mg base CX0 k fa fd [x] (sp (K w.params)))
    (asked : ∀ (K : PySem.W.Frag) (H : Hp) (a : Addr) (ns : List Int), ns.length ≤ n → Only H → SqL K H a (ns.map V.int) →
      sp K [.ref a] H (fun v _ => v = .bl true) fun _ _ _ => False) :
    PySem.W.WalkO q loose XP YP l.row.toRowW d [] (fun f vs => PySem.call f vs) := by
  refine Att.attach_call hn hdf fun w s₀ s₁ mg mb fa o pm cd doc a vs ns G Y ho hd hcd named obj nums few nogens => ?_
  have KX := hY w _ Y
  obtain ⟨fd, bound, all⟩ := F w mg fa _ KX G.T.g named
  exact law_callG KX G.T.g G.T.b G.T.builtins G.T.nolimit nogens obj nums (Nat.le_trans few hn2) room all bound
    (fun H only seq => asked _ H a ns few only seq) fun H e s' z => z
end G0
namespace G0
open PySem PySem.Spec PyProof.Rows L2
/-! ### a def of the module's top, by its name -/
def Fn (K : PySem.W.Frag) (mg : Str → Option Value) (x : Str) (st : Stmt) : Prop :=
  ∃ f fd, Fun K x x st f fd ∧ mg x = some (.ref f)
def Cal (P : Program) (w : World) (K : PySem.W.Frag) (mg : Str → Option Value) (base : Heap) (x : Str) (k : Nat) (ps : List Str) (sp : Sp) : Prop :=
  ∃ f fd, FnG P w K mg base CX0 k f fd ps sp ∧ Binds K fd ps [] ∧ mg x = some (.ref f) ∧ PySem.W.keepIn K (.ref f) = true ∧
    ∃ oc od osl, K.lookup f = some ⟨oc, od, .func fd, osl⟩
theorem fn_top {K : PySem.W.Frag} {h : Heap} {mg : Str → Option Value} {x : Str} {st : Stmt} {f : Addr} {oc : Value} {od an : Option Addr}
    {osl : Array (Option Value)} {kV doc pm cdv ct : Value} (X : K.In h) (G : h.Ns mainGlobals mg)
    (a : PySem.W.nsIn K mainGlobals x = some (some (.ref f)))
    (l : K.lookup f = some ⟨oc, od, .func (PySem.W.fnOf x x (defArgs st) (defBody st) (defScope st) .none kV doc pm an cdv ct), osl⟩)
    (c : PySem.W.codeIn K cdv x = true) (k : PySem.W.keepIn K (.ref f) = true) : Fn K mg x st :=
  ⟨f, _, fun_mk l c k, PySem.W.mg_of X G a⟩
/-- a method of the class at C -/
def Fm (K : PySem.W.Frag) (C : Addr) (x qual : Str) (st : Stmt) : Prop := ∃ f fd, Fun K x qual st f fd ∧ Meth K C x f
theorem fm_top {K : PySem.W.Frag} {C : Addr} {x qual : Str} {st : Stmt} {f : Addr} {oc : Value} {od an : Option Addr}
    {osl : Array (Option Value)} {kV doc pm cdv ct : Value}
    (a : PySem.W.findIn K (.ref C) x = some (some (.ref f))) (i : PySem.W.isFn K (.ref f) = true)
    (l : K.lookup f = some ⟨oc, od, .func (PySem.W.fnOf x qual (defArgs st) (defBody st) (defScope st) .none kV doc pm an cdv ct), osl⟩)
    (c : PySem.W.codeIn K cdv qual = true) (k : PySem.W.keepIn K (.ref f) = true) : Fm K C x qual st :=
  ⟨f, _, fun_mk l c k, ⟨a, i, k⟩⟩
section
variable {P : Program} {w : World} {K : PySem.W.Frag} {mg : Str → Option Value} {base : Heap}
theorem cal_of {x : Str} {st : Stmt} {N ps : List Str} {k : Nat} {sp : Sp} (F : Fn K mg x st) (S : FnScope N ps (defScope st))
    (bd : ∀ (kV doc pm : Value) (an : Option Addr) (cdv ct : Value) (us : List Value), us.length = ps.length →
      bindArgs (PySem.W.fnOf x x (defArgs st) (defBody st) (defScope st) .none kV doc pm an cdv ct) ⟨us, []⟩ = pure (ps.zip us))
    (len : ∀ zs G R W, sp zs G R W → zs.length = ps.length)
    (inner : ∀ (f : Addr) (cdv : Value) (B : Around) (around : List Env) (t : Shared) (G : Hp) (zs : List V) (R : VK) (W : XK), B.guards = some [] →
      Room k (B.deeper (envOfC x (defScope st) t.heap.objs.size f cdv)) → sp zs G R W →
      ∃ tb, PSs (cxOf CX0 P w K mg base N x (defScope st) f cdv B around t G W).nox (defBody st) tb ∧
        tb { nx := fun _ G' => R .non G', rt := R } (start N zs) G) :
    Cal P w K mg base x (k + 1) ps sp := by
  obtain ⟨f, fd, F, m⟩ := F
  obtain ⟨oc, od, kV, doc, pm, an, cdv, ct, osl, e, lk, c⟩ := id F.ex
  exact ⟨f, fd, okG F S len (inner f), F.binds bd, m, F.kp, oc, od, osl, lk⟩
theorem Cal.mono {x : Str} {j k : Nat} {ps : List Str} {sp : Sp} (C : Cal P w K mg base x j ps sp) (h : j ≤ k) : Cal P w K mg base x k ps sp := by
  obtain ⟨f, fd, F, r⟩ := C
  exact ⟨f, fd, F.mono h, r⟩
/-- the law itself, at the end -/
theorem law_end {st : Stmt} {k : Nat} {sp : Sp} {fa : Addr} (F : Fn K mg "law" st) (hm : mg "law" = some (.ref fa))
    (bt : ∀ (kV doc pm : Value) (an : Option Addr) (cdv ct : Value) (s : Shared) (v : Value),
      BindsTo s (PySem.W.fnOf "law" "law" (defArgs st) (defBody st) (defScope st) .none kV doc pm an cdv ct) ⟨[v], []⟩ [("script", v)])
    (C : ∀ base : Heap, K.In base → base.Ns mainGlobals mg → Cal P w K mg base "law" k ["script"] sp) :
    ∃ fd : FuncData, (∀ (s : Shared) (v : Value), BindsTo s fd ⟨[v], []⟩ [("script", v)]) ∧
      ∀ base : Heap, K.In base → base.Ns mainGlobals mg → FnG P w K mg base CX0 k fa fd ["script"] sp := by
  obtain ⟨f, fd, F, m⟩ := F
  obtain ⟨oc, od, kV, doc, pm, an, cdv, ct, osl, e, lk, c⟩ := id F.ex
  have ef := m.symm.trans hm
  cases ef
  refine ⟨fd, fun s v => by rw [e]; exact bt _ _ _ _ _ _ s v, fun base kin ns => ?_⟩
  obtain ⟨f', fd', G, _, m', _, oc', od', osl', lk'⟩ := C base kin ns
  have ef := m.symm.trans m'
  cases ef
  have ed := lk.symm.trans lk'
  cases ed
  exact G
end
section
variable {X : Cx} {k : Nat} {ps : List Str} {sp : Sp} {x : Str} {p pos : Pos} {e : Expr} {es : List Expr} {t : TA}
theorem pe_cal (C : Cal X.prog X.w X.K X.mg X.base x k ps sp) (free : X.A.guards = some []) (hr : Room k X.A)
    (ha : PA X (e :: es) t) (hg : Gl X x := by rfl) (n1 : (x == ("__debug__" : Str)) = false := by decide)
    (n2 : starEach (e :: es) X.env = (false, eval e X.env) :: starEach es X.env := by rfl)
    (n3 : (backTo pos (starEach es X.env)).any (·.1) = false := by rfl) (hx : Passes CX0 X E0 := by exact pass0) :
    PE X (.Call (.Name x p) (e :: es) [] pos) (tCall sp [] E0 t) := by
  obtain ⟨f, fd, F, b, m, kp, _⟩ := C
  exact pe_callG F free hr hg m kp b .nil hx ha n1 n2 n3
/-! ### repr of data -/
def rRep (K : PySem.W.Frag) : List V → Hp → VK → Prop := fun xs H Q => ∃ (x : V) (d : PyData), xs = [x] ∧ Dp K H x d ∧
  d.showable = true ∧ d.hasDict = false ∧ d.depth ≤ 64 ∧ d.shown.length ≤ sizeLine ∧ Q (.str d.shown) H
theorem call_rep (free : X.A.guards = some []) (hu : X.A.units + 66 < cLine) : CallR X (.builtin "repr") (rRep X.K) := by
  intro pins s σ H xs us Q I r h
  obtain ⟨x, d, rfl, hd, hs, hn, h64, hz, q⟩ := h
  obtain ⟨u, rfl, rx⟩ := vals1 r
  have viaRef : ∀ (a : Addr), x = .ref a → wpAny (model X.prog X.w) X.A (call (.builtin "repr") [u]) (EP X pins σ Q) X.xe s := by
    intro a e
    subst e
    obtain rfl : u = Value.ref a := rx
    obtain ⟨as, rd⟩ := Dp.reads I d _ _ hd (rfl : RelV (.ref a) (.ref a))
    exact repr_of_reads' rd hs (PyData.noDict_hsm hn) free (by omega) (fun _ _ e => e)
      (fun h' w t kp => ⟨.str d.shown, H, I.kept (t' := t) kp, ⟨_, rfl⟩, q⟩) hz
  cases hd with
  | non =>
    obtain rfl : u = Value.none := rx
    exact PySem.P.repr_of_none ⟨.str _, H, I.tok _, ⟨_, rfl⟩, by simpa only [PyData.shown] using q⟩
  | bl b =>
    obtain rfl : u = Value.bool b := rx
    exact PySem.P.repr_of_bool ⟨.str _, H, I.tok _, ⟨_, rfl⟩, by simpa only [PyData.shown] using q⟩
  | int i =>
    obtain ⟨t, rfl⟩ := rx
    exact PySem.P.repr_of_int (by simpa [PyData.showable] using hs) ⟨.str _, H, I.tok _, ⟨_, rfl⟩, by simpa only [PyData.shown] using q⟩
  | str z =>
    obtain ⟨t, rfl⟩ := rx
    exact PySem.P.repr_of_str ⟨.str _, H, I.tok _, ⟨_, rfl⟩, by simpa only [PyData.shown] using q⟩ (by simpa only [PyData.shown] using hz)
  | lst _ _ => exact viaRef _ rfl
  | tup _ _ => exact viaRef _ rfl
/-! ### operators of several kinds in one -/
theorem u_eq (hu : X.A.units + 64 < cLine) : OpR X (compareOp .Eq) (fun x y H Q => rEq x y H Q ∨ rEqD X.K x y H Q) := op_eq.or (op_eqD hu)
theorem u_ne (hu : X.A.units + 64 < cLine) : OpR X (compareOp .NotEq) (fun x y H Q => rNe x y H Q ∨ rNeD X.K x y H Q) := op_ne.or (op_neD hu)
theorem u_in : OpR X (compareOp .In) (fun x y H Q => rIn X.K false x y H Q ∨ rInS x y H Q) := op_in_seq.or op_inS
theorem u_notin : OpR X (compareOp .NotIn) (fun x y H Q => rIn X.K true x y H Q ∨ rNotInS x y H Q) := op_notIn_seq.or op_notInS
end
theorem pe_fldK {X : Cx} {e : Expr} {f : Str} {pos : Pos} {ta : TE} (K : PySem.W.Frag) (ha : PE X e ta) (hK : X.K = K := by rfl)
    (hb : attributeBase e f X.env (eval e X.env) = eval e X.env := by rfl) : PE X (.Attribute e f pos) (tFld K ta f) := by
  subst hK
  exact pe_fld ha hb
/-! ### the written part named, for what stands within a comprehension -/
theorem op_K {X : Cx} {f : Value → Value → Sem Value} (r : PySem.W.Frag → R2) (K : PySem.W.Frag) (ho : OpR X f (r X.K)) (hK : X.K = K) : OpR X f (r K) := hK ▸ ho
theorem ix_K {X : Cx} (r : PySem.W.Frag → R2) (K : PySem.W.Frag) (ho : IxR X (r X.K)) (hK : X.K = K) : IxR X (r K) := hK ▸ ho
theorem call_K {X : Cx} {f : Value} (r : PySem.W.Frag → List V → Hp → VK → Prop) (K : PySem.W.Frag) (ho : CallR X f (r X.K)) (hK : X.K = K) : CallR X f (r K) := hK ▸ ho
section
variable {X : Cx} (K : PySem.W.Frag)
theorem u_inK (hK : X.K = K := by rfl) : OpR X (compareOp .In) (fun x y H Q => rIn K false x y H Q ∨ rInS x y H Q) := op_K (fun K x y H Q => rIn K false x y H Q ∨ rInS x y H Q) K u_in hK
theorem u_notinK (hK : X.K = K := by rfl) : OpR X (compareOp .NotIn) (fun x y H Q => rIn K true x y H Q ∨ rNotInS x y H Q) := op_K (fun K x y H Q => rIn K true x y H Q ∨ rNotInS x y H Q) K u_notin hK
theorem ix_listK (hK : X.K = K := by rfl) : IxR X (rIxL K) := ix_K rIxL K ix_list hK
theorem ix_tupK (hK : X.K = K := by rfl) : IxR X (rIxT K) := ix_K rIxT K ix_tup hK
theorem ix_seqK (hK : X.K = K := by rfl) : IxR X (rIx K) := ix_K rIx K ix_seq hK
theorem call_len_seqK (hK : X.K = K := by rfl) : CallR X (.builtin "len") (fun xs H Q => ∃ p ys, xs = [.ref p] ∧ (SqL K H p ys ∨ SqT K H p ys) ∧ Q (.int ys.length) H) :=
  call_K (fun K xs H Q => ∃ p ys, xs = [.ref p] ∧ (SqL K H p ys ∨ SqT K H p ys) ∧ Q (.int ys.length) H) K call_len_seq hK
end
/-! ### what changes: one list -/
/-- all that is tracked but p stays -/
def Chg (p : Addr) (H H' : Hp) : Prop := ∀ b o, b ≠ p → H b = some o → H' b = some o
theorem Chg.refl (p : Addr) (H : Hp) : Chg p H H := fun _ _ _ e => e
theorem Chg.trans {p : Addr} {H H1 H2 : Hp} (a : Chg p H H1) (b : Chg p H1 H2) : Chg p H H2 := fun c o n e => b c o n (a c o n e)
theorem Chg.self {p : Addr} {H : Hp} {o : HO} : Chg p H (upd H p o) := fun b u n e => by rw [upd_ne n]; exact e
theorem Chg.new {p q : Addr} {H H1 : Hp} {o : HO} (a : Chg p H H1) (n : H1 q = none) : Chg p H (upd H1 q o) := fun b u m e => by
  rw [upd_ne (ne_of_none (a b u m e) n)]; exact a b u m e
theorem Chg.same {p : Addr} {H H1 : Hp} (a : Same H H1) : Chg p H H1 := fun b o _ e => a b o e
theorem same_upd {H : Hp} {q : Addr} {o : HO} (n : H q = none) : Same H (upd H q o) := fun b u e => by
  rw [upd_ne (ne_of_none e n)]; exact e
/-! ### a law's draws: the pot -/
def PotL (n : Nat) (xs : List V) : Prop := ∃ a b c : Int, xs = [.int a, .int b, .int c] ∧ 0 ≤ a ∧ 0 ≤ b ∧ b < 2305843009213693951 ∧ 0 ≤ c ∧ c ≤ n
def PotAt (n : Nat) (H : Hp) (p : Addr) : Prop := ∃ xs, H p = some (.lst xs) ∧ PotL n xs
theorem PotL.mono {n m : Nat} {xs : List V} (h : PotL n xs) (le : n ≤ m) : PotL m xs := by
  obtain ⟨a, b, c, e, h1, h2, h3, h4, h5⟩ := h
  exact ⟨a, b, c, e, h1, h2, h3, h4, by omega⟩
theorem PotAt.mono {n m : Nat} {H : Hp} {p : Addr} (h : PotAt n H p) (le : n ≤ m) : PotAt m H p := by
  obtain ⟨xs, e, h⟩ := h
  exact ⟨xs, e, h.mono le⟩
theorem PotAt.keep {n : Nat} {H H' : Hp} {p : Addr} (h : PotAt n H p) (s : Same H H') : PotAt n H' p := by
  obtain ⟨xs, e, h⟩ := h
  exact ⟨xs, s _ _ e, h⟩
theorem PotAt.at {n : Nat} {H : Hp} {p : Addr} {xs : List V} (h : PotL n xs) : PotAt n (upd H p (.lst xs)) p := ⟨xs, upd_same, h⟩
end G0
namespace G0
open PySem PySem.Spec PyProof.Rows L2
def top (i : Nat) : Stmt := PySem.Challenge.pw_soleseat_k05_seats_alone.main.body.getD i (.Pass ⟨0, 0, 0, 0⟩)
abbrev s_Seat__init : Stmt := inClass (top 1) 0
abbrev s_Seat_ask : Stmt := inClass (top 1) 1
abbrev s_Seat_leave : Stmt := inClass (top 1) 2
abbrev s_Seat_hear : Stmt := inClass (top 1) 3
abbrev s_Seat_gone : Stmt := inClass (top 1) 4
abbrev s_law_pot : Stmt := top 3
abbrev s_law_take : Stmt := top 4
abbrev s_law_number : Stmt := top 5
abbrev s_law_thing : Stmt := top 6
abbrev s_law_letter : Stmt := top 7
abbrev s_law_heard : Stmt := top 8
abbrev s_law_done : Stmt := top 9
abbrev s_law_seen : Stmt := top 10
abbrev s_law : Stmt := top 11
section
structure Bl (mg : Str → Option Value) : Prop where
  len : mg "len" = none
  range : mg "range" = none
  max : mg "max" = none
  min : mg "min" = none
  repr : mg "repr" = none
  tuple : mg "tuple" = none
variable {P : Program} {w : World} {K : PySem.W.Frag} {mg : Str → Option Value} {base : Heap}
theorem u66 {k : Nat} {A : Around} (hr : Room k A) : A.units + 66 < cLine := by have := hr.un; omega
theorem u64 {k : Nat} {A : Around} (hr : Room k A) : A.units + 64 < cLine := by have := hr.un; omega
/-! ### _law_take -/
def spTake : Sp := fun vs H Q _ => ∃ (p : Addr) (m : Int) (xs : List V) (n : Nat), vs = [.ref p, .int m] ∧ 0 < m ∧ m.natAbs < 2 ^ 250 ∧
  H p = some (.lst xs) ∧ PotL n xs ∧ n < 1000000000 ∧ ∀ (d : Int) (ys : List V), 0 ≤ d → d < m → PotL (n + 1) ys → Q (.int d) (upd H p (.lst ys))
theorem sc_law_take : FnScope ["pot", "many", "digit", "one", "two"] ["pot", "many"] (defScope s_law_take) :=
  ⟨rfl, rfl, rfl, by decide +kernel, rfl, by decide +kernel, by decide +kernel⟩
theorem pow_lt {x : Int} (h : 0 ≤ x) (h2 : x < 2 ^ 63) : x.natAbs < 2 ^ 64 := by omega
theorem ok_take (F : Fn K mg "_law_take" s_law_take) : Cal P w K mg base "_law_take" 1 ["pot", "many"] spTake := by
  refine cal_of F sc_law_take
    (fun _ _ _ _ _ _ us hl => match us, hl with | [_, _], _ => rfl) ?_ ?_
  · rintro vs H Q E ⟨p, m, xs, n, rfl, _⟩
    rfl
  rintro f cdv A outer s H vs Q E free hr ⟨p, m, xs, n, rfl, m0, mb, hp, ⟨a, b, c, rfl, a0, b0, b1, c0, cn⟩, nn, q⟩
  have hL := SqL.of (K := K) hp
  refine ⟨_, (pss_cons (ps_if (pt_cmpR op_gt (pe_ix ix_list (pv 0) pe_int (fun _ _ => rfl)) pe_int (nomark _))
    (pss_cons (ps_set (i := 2) sc_law_take.nd rfl (Or.inl rfl) (pe_op op_mod (pe_ix ix_list (pv 0) pe_int (fun _ _ => rfl)) (pv 1)))
    (pss_cons (ps_asg (pe_op op_fdivW (pe_ix ix_list (pv 0) pe_int (fun _ _ => rfl)) (pv 1)) (pg_sub (pv 0) pe_int set_list))
    (pss_one (ps_ret (pv 2)))))
    pss_nil)
    (pss_cons (ps_asg (pe_op op_add (pe_ix ix_list (pv 0) pe_int (fun _ _ => rfl)) pe_int) (pg_sub (pv 0) pe_int set_list))
    (pss_cons (ps_set (i := 3) sc_law_take.nd rfl (Or.inl rfl) (pe_op op_mod (pe_op op_pow (pe_op op_add (pe_ix ix_list (pv 0) pe_int (fun _ _ => rfl)) (pe_op op_mul pe_int (pe_ix ix_list (pv 0) pe_int (fun _ _ => rfl)))) pe_int) pe_int))
    (pss_cons (ps_set (i := 4) sc_law_take.nd rfl (Or.inl rfl) (pe_op op_mod (pe_op op_pow (pe_op op_add (pe_op op_add (pv 3) (pe_op op_mod (pe_ix ix_list (pv 0) pe_int (fun _ _ => rfl)) pe_int)) (pe_op op_mul pe_int (pe_ix ix_list (pv 0) pe_int (fun _ _ => rfl)))) pe_int) pe_int))
    (pss_one (ps_ret (pe_op op_mod (pe_op op_fdivW (pv 4) pe_int) (pv 1)))))))), ?_⟩
  refine ⟨_, rfl, p, _, _, _, rfl, rfl, hL, rfl, _, _, rfl, rfl, _, rfl, ?_⟩
  refine ite2 (fun c1 => ?_) (fun c1 => ?_)
  · refine ⟨_, rfl, p, _, _, _, rfl, rfl, hL, rfl, _, rfl, _, _, rfl, rfl, m0, ?_⟩
    refine ⟨_, rfl, p, _, _, _, rfl, rfl, hL, rfl, _, rfl, _, _, rfl, rfl, wide_div m0 mb (by decide) (by decide), ?_⟩
    refine ⟨_, rfl, p, _, _, _, rfl, rfl, hp, rfl, ?_⟩
    refine ⟨_, rfl, ?_⟩
    refine q _ _ (Int.emod_nonneg _ (by omega)) (Int.emod_lt_of_pos _ m0) ?_
    exact ⟨_, b, c, rfl, Int.ediv_nonneg a0 (by omega), b0, b1, c0, by omega⟩
  · refine ⟨_, rfl, p, _, _, _, rfl, rfl, hL, rfl, _, _, rfl, rfl, ?_⟩
    refine ⟨_, rfl, p, _, _, _, rfl, rfl, hp, rfl, ?_⟩
    have hp' : upd H p (.lst [.int a, .int b, .int (c + 1)]) p = some (.lst [.int a, .int b, .int (c + 1)]) := upd_same
    have hL' := SqL.of (K := K) hp'
    have z1 : 0 ≤ b + 104729 * (c + 1) := by omega
    have z2 : b + 104729 * (c + 1) < 2 ^ 63 := by omega
    refine ⟨_, rfl, p, _, _, _, rfl, rfl, hL', rfl, _, rfl, p, _, _, _, rfl, rfl, hL', rfl, _, _, rfl, rfl, .inl ⟨by decide, by decide⟩, _, _, rfl, rfl,
      _, _, rfl, rfl, ⟨by decide, by decide, pow_lt z1 z2⟩, _, _, rfl, rfl, (by show (0 : Int) < 2305843009213693921; decide), ?_⟩
    generalize ho : (b + 104729 * (c + 1)) ^ (Int.toNat 3) % 2305843009213693921 = one
    have o0 : 0 ≤ one := by rw [← ho]; exact Int.emod_nonneg _ (by decide)
    have o1 : one < 2305843009213693921 := by rw [← ho]; exact Int.emod_lt_of_pos _ (by decide)
    have o2 : 0 ≤ b % 65537 := Int.emod_nonneg _ (by decide)
    have o3 : b % 65537 < 65537 := Int.emod_lt_of_pos _ (by decide)
    refine ⟨_, rfl, _, rfl, p, _, _, _, rfl, rfl, hL', rfl, _, _, rfl, rfl, (by show (0 : Int) < 65537; decide), _, _, rfl, rfl, _, rfl, p, _, _, _, rfl, rfl, hL', rfl, _, _, rfl, rfl, .inl ⟨by decide, by decide⟩, _, _, rfl, rfl,
      _, _, rfl, rfl, ⟨by decide, by decide, pow_lt (by omega) (by omega)⟩, _, _, rfl, rfl, (by show (0 : Int) < 2305843009213693907; decide), ?_⟩
    refine ⟨_, rfl, _, _, rfl, rfl, ⟨by decide, by decide⟩, _, rfl, _, _, rfl, rfl, m0, ?_⟩
    exact q _ _ (Int.emod_nonneg _ (by omega)) (Int.emod_lt_of_pos _ m0) ⟨a, b, c + 1, rfl, a0, b0, b1, by omega, by omega⟩
end

end G0
namespace G0
open PySem PySem.Spec PyProof.Rows L2
/-! ### data -/
mutual
def noL : PyData → Bool
  | .none | .bool _ | .int _ | .str _ => true
  | .list _ | .dict _ => false
  | .tuple xs => noLs xs
def noLs : List PyData → Bool
  | [] => true
  | x :: xs => noL x && noLs xs
end
section
variable {K : PySem.W.Frag} {H H' : Hp} {p : Addr}
theorem sqt_chg (hp : ∃ xs, H p = some (.lst xs)) (c : Chg p H H') {a : Addr} {xs : List V} (h : SqT K H a xs) : SqT K H' a xs := by
  obtain ⟨ys, hp⟩ := hp
  rcases h with (h | ⟨o, h⟩) | h
  · exact .inl (.inl (c _ _ (ne_of h hp (by intro z; cases z)) h))
  · exact .inl (.inr ⟨o, c _ _ (ne_of h hp (by intro z; cases z)) h⟩)
  · exact .inr h
theorem sqt_same (c : Same H H') {a : Addr} {xs : List V} (h : SqT K H a xs) : SqT K H' a xs := by
  rcases h with (h | ⟨o, h⟩) | h
  · exact .inl (.inl (c _ _ h))
  · exact .inl (.inr ⟨o, c _ _ h⟩)
  · exact .inr h
mutual
theorem dp_chg (hp : ∃ xs, H p = some (.lst xs)) (c : Chg p H H') : ∀ (d : PyData) (v : V), noL d = true → Dp K H v d → Dp K H' v d
  | .none, _, _, h => by cases h; exact .non
  | .bool _, _, _, h => by cases h; exact .bl _
  | .int _, _, _, h => by cases h; exact .int _
  | .str _, _, _, h => by cases h; exact .str _
  | .list _, _, n, _ => by simp [noL] at n
  | .dict _, _, n, _ => by simp [noL] at n
  | .tuple ds, _, n, h => by
    cases h with
    | tup hs ha => exact .tup (sqt_chg hp c hs) (dps_chg hp c ds _ (by simpa [noL] using n) ha)
theorem dps_chg (hp : ∃ xs, H p = some (.lst xs)) (c : Chg p H H') : ∀ (ds : List PyData) (vs : List V), noLs ds = true → DpAll K H vs ds → DpAll K H' vs ds
  | [], _, _, h => by cases h; exact .nil
  | d :: ds, _, n, h => by
    simp only [noLs, Bool.and_eq_true] at n
    cases h with
    | cons h1 h2 => exact .cons (dp_chg hp c d _ n.1 h1) (dps_chg hp c ds _ n.2 h2)
end
mutual
theorem dp_same (c : Same H H') : ∀ (d : PyData) (v : V), Dp K H v d → Dp K H' v d
  | .none, _, h => by cases h; exact .non
  | .bool _, _, h => by cases h; exact .bl _
  | .int _, _, h => by cases h; exact .int _
  | .str _, _, h => by cases h; exact .str _
  | .list ds, _, h => by
    cases h with
    | lst hs ha => exact .lst (c.seq hs) (dps_same c ds _ ha)
  | .dict _, _, h => by cases h
  | .tuple ds, _, h => by
    cases h with
    | tup hs ha => exact .tup (sqt_same c hs) (dps_same c ds _ ha)
theorem dps_same (c : Same H H') : ∀ (ds : List PyData) (vs : List V), DpAll K H vs ds → DpAll K H' vs ds
  | [], _, h => by cases h; exact .nil
  | d :: ds, _, h => by
    cases h with
    | cons h1 h2 => exact .cons (dp_same c d _ h1) (dps_same c ds _ h2)
end
theorem dps_app {vs ws : List V} {ds es : List PyData} : DpAll K H vs ds → DpAll K H ws es → DpAll K H (vs ++ ws) (ds ++ es) := by
  intro h g
  match vs, ds, h with
  | [], [], _ => exact g
  | _ :: _, _ :: _, .cons h1 h2 => exact .cons h1 (dps_app h2 g)
theorem dps_len {vs : List V} {ds : List PyData} : DpAll K H vs ds → vs.length = ds.length := by
  intro h
  match vs, ds, h with
  | [], [], _ => rfl
  | _ :: _, _ :: _, .cons _ h2 => exact congrArg (· + 1) (dps_len h2)
end
theorem noLs_of : ∀ {ds : List PyData}, (∀ d ∈ ds, noL d = true) → noLs ds = true
  | [], _ => rfl
  | d :: ds, h => by
    simp only [noLs, Bool.and_eq_true]
    exact ⟨h d (List.mem_cons_self ..), noLs_of fun x hx => h x (List.mem_cons_of_mem _ hx)⟩
/-! ### things and letters -/
inductive Thing : Nat → PyData → Prop
  | num {n : Nat} {i : Int} : 0 ≤ i → i < 10 ^ 60 → Thing n (.int i)
  | tup {n : Nat} {ds : List PyData} : ds.length ≤ 2 → (∀ d ∈ ds, Thing n d) → Thing (n + 1) (.tuple ds)
theorem Thing.noL {n : Nat} {d : PyData} (h : Thing n d) : noL d = true := by
  induction h with
  | num _ _ => rfl
  | tup _ _ ih =>
    simp only [G0.noL]
    exact noLs_of ih
theorem Thing.mono {n m : Nat} {d : PyData} (h : Thing n d) (le : n ≤ m) : Thing m d := by
  induction h generalizing m with
  | num a b => exact .num a b
  | tup l _ ih =>
    cases m with
    | zero => omega
    | succ m => exact .tup l fun d hd => ih d hd (by omega)
def WordOk (z : Str) : Prop := 1 ≤ z.length ∧ z.length ≤ 8 ∧ (∀ c ∈ z.cps.toList, 97 ≤ c ∧ c ≤ 122) ∧ z ≠ "gone"
def LetterD (d : PyData) : Prop := ∃ (z : Str) (ds : List PyData), d = .tuple (.str z :: ds) ∧ WordOk z ∧ ds.length ≤ 5 ∧ ∀ x ∈ ds, Thing 3 x
theorem LetterD.noL {d : PyData} (h : LetterD d) : noL d = true := by
  obtain ⟨z, ds, rfl, _, _, hd⟩ := h
  simp only [G0.noL, noLs, Bool.true_and]
  exact noLs_of fun x hx => (hd x hx).noL
theorem Chg.mut {p D : Addr} {H0 H1 : Hp} {o : HO} (a : Chg p H0 H1) (n : H0 D = none) : Chg p H0 (upd H1 D o) := fun b u m e => by
  rw [upd_ne (ne_of_none e n)]; exact a b u m e
theorem PotAt.ne {n : Nat} {H H' : Hp} {p D : Addr} {o : HO} (h : PotAt n H p) (d : p ≠ D) (e : H' = upd H D o) : PotAt n H' p := by
  obtain ⟨xs, q, r⟩ := h
  exact ⟨xs, by rw [e, upd_ne d]; exact q, r⟩
theorem PotAt.new {n : Nat} {H : Hp} {p D : Addr} {o : HO} (h : PotAt n H p) (d : H D = none) : PotAt n (upd H D o) p := h.keep (same_upd d)
theorem PotAt.neD {n : Nat} {H : Hp} {p D : Addr} (h : PotAt n H p) (d : H D = none) : p ≠ D := by
  obtain ⟨xs, q, r⟩ := h
  exact ne_of_none q d
theorem PotAt.lst {n : Nat} {H : Hp} {p : Addr} (h : PotAt n H p) : ∃ xs, H p = some (.lst xs) := by
  obtain ⟨xs, q, r⟩ := h
  exact ⟨xs, q⟩
theorem PotAt.neT {n : Nat} {H : Hp} {p t : Addr} {xs : List V} (h : PotAt n H p) (d : H t = some (.tup xs)) : t ≠ p := by
  obtain ⟨ys, q, r⟩ := h
  exact ne_of d q (by intro z; cases z)
theorem Cal.imp {P : Program} {w : World} {K : PySem.W.Frag} {mg : Str → Option Value} {base : Heap} {x : Str} {k : Nat} {ps : List Str} {sp sp' : Sp}
    (C : Cal P w K mg base x k ps sp) (h : ∀ vs H Q E, sp' vs H Q E → sp vs H Q E) : Cal P w K mg base x k ps sp' := by
  obtain ⟨f, fd, F, r⟩ := C
  exact ⟨f, fd, ⟨fun a b c d q => F.args _ _ _ _ (h _ _ _ _ q), fun A o s H args us vs Q E fr hr he hb hv hs => F.runs A o s H args us vs Q E fr hr he hb hv (h _ _ _ _ hs)⟩, r⟩
theorem cal_no {P : Program} {w : World} {K : PySem.W.Frag} {mg : Str → Option Value} {base : Heap} {x : Str} {st : Stmt} {ps : List Str} (F : Fn K mg x st)
    (bd : ∀ (kV doc pm : Value) (an : Option Addr) (cdv ct : Value) (us : List Value), us.length = ps.length →
      bindArgs (PySem.W.fnOf x x (defArgs st) (defBody st) (defScope st) .none kV doc pm an cdv ct) ⟨us, []⟩ = pure (ps.zip us)) :
    Cal P w K mg base x 0 ps (fun _ _ _ _ => False) := by
  obtain ⟨f, fd, F, m⟩ := F
  obtain ⟨oc, od, kV, doc, pm, an, cdv, ct, osl, e, lk, c⟩ := id F.ex
  exact ⟨f, fd, ⟨fun _ _ _ _ h => h.elim, fun _ _ _ _ _ _ _ _ _ _ _ _ _ _ h => h.elim⟩, F.binds bd, m, F.kp, oc, od, osl, lk⟩
/-! ### texts of small letters -/
theorem az : ∀ j : Fin 26, (("abcdefghijklmnopqrstuvwxyz" : Str).cps.toList)[j.val]? = some (97 + j.val) := by decide +kernel
theorem az_at {d : Int} (h0 : 0 ≤ d) (h1 : d < 26) : atI ("abcdefghijklmnopqrstuvwxyz" : Str).cps.toList d = some (97 + d.toNat) := by
  have e : d = ((d.toNat : Nat) : Int) := by omega
  have q := az ⟨d.toNat, by omega⟩
  rw [e]
  exact atI_nat q
def sg (c : Nat) : Str := ⟨#[c]⟩
open TL in
theorem joinL_sg : ∀ cs : List Nat, joinL [] (cs.map fun c => [c]) = cs
  | [] => rfl
  | [c] => rfl
  | c :: d :: r => by
    show [c] ++ ([] ++ joinL [] ((d :: r).map fun c => [c])) = c :: d :: r
    rw [joinL_sg (d :: r)]
    rfl
open TL in
theorem tl_of (z : Str) : tl z = z.cps.toList := rfl
open TL in
theorem join_sg (cs : List Nat) : (Txt.join "" (cs.map sg)).cps.toList = cs := by
  rw [join_eq, ← tl_of, tl_join]
  have e : (cs.map sg).map tl = cs.map fun c => [c] := by rw [List.map_map]; rfl
  rw [e]
  exact joinL_sg cs
open TL in
theorem join_sg_len (cs : List Nat) : (Txt.join "" (cs.map sg)).length = cs.length := by
  have e := congrArg List.length (join_sg cs)
  rw [← e]
  show _ = (Txt.join "" (cs.map sg)).cps.toList.length
  simp [Str.length]
theorem sum_sg : ∀ cs : List Nat, ((cs.map sg).map (·.length)).sum = cs.length
  | [] => rfl
  | c :: r => by
    show 1 + ((r.map sg).map (·.length)).sum = r.length + 1
    rw [sum_sg r]; omega

end G0
namespace G0
open PySem PySem.Spec PyProof.Rows L2
section
variable {P : Program} {w : World} {K : PySem.W.Frag} {mg : Str → Option Value} {base : Heap}
def spT : Sp := fun vs H Q _ => ∃ (p : Addr) (m : Int) (n : Nat), vs = [.ref p, .int m] ∧ 0 < m ∧ m.natAbs < 2 ^ 250 ∧ PotAt n H p ∧ n < 1000000000 ∧
  ∀ (d : Int) (H' : Hp), 0 ≤ d → d < m → Chg p H H' → PotAt (n + 1) H' p → Q (.int d) H'
theorem ok_t (F : Fn K mg "_law_take" s_law_take) : Cal P w K mg base "_law_take" 1 ["pot", "many"] spT :=
  (ok_take F).imp fun vs H Q E h => by
    obtain ⟨p, m, n, rfl, m0, m1, ⟨xs, hp, hx⟩, hn, q⟩ := h
    exact ⟨p, m, xs, n, rfl, m0, m1, hp, hx, hn, fun d ys d0 d1 hy => q d _ d0 d1 Chg.self (.at hy)⟩
/-! ### _law_pot -/
def spPot (K : PySem.W.Frag) : Sp := fun vs H Q _ => ∃ (a : Addr) (k : Int) (ns : List Int), vs = [.ref a, .int k] ∧ SqL K H a (ns.map V.int) ∧ 0 ≤ k ∧ k < 1000000 ∧
  ∀ (r : Addr) (H' : Hp), H r = none → Same H H' → PotAt 0 H' r → Q (.ref r) H'
theorem sc_law_pot : FnScope ["script", "k", "cell"] ["script", "k"] (defScope s_law_pot) :=
  ⟨rfl, rfl, rfl, by decide +kernel, rfl, by decide +kernel, by decide +kernel⟩
theorem ok_pot (F : Fn K mg "_law_pot" s_law_pot) (T : Bl mg) : Cal P w K mg base "_law_pot" 1 ["script", "k"] (spPot K) := by
  refine cal_of F sc_law_pot
    (fun _ _ _ _ _ _ us hl => match us, hl with | [_, _], _ => rfl) ?_ ?_
  · rintro vs H Q E ⟨a, k, ns, rfl, _⟩
    rfl
  rintro f cdv A outer s H vs Q E free hr ⟨a, k, ns, rfl, hS, k0, k1, q⟩
  refine ⟨_, (pss_cons (ps_set (i := 2) sc_law_pot.nd rfl (Or.inl rfl) pe_int)
    (pss_cons (ps_if (pt_cmpR op_lt (pv 1) (pe_callB call_len_seq (by rfl) T.len (by decide +kernel) (pa_cons (pv 0) pa_nil)) (nomark _))
    (pss_one (ps_set (i := 2) sc_law_pot.nd rfl (Or.inl rfl) (pe_ix ix_list (pv 0) (pv 1) (fun _ _ => rfl))))
    pss_nil)
    (pss_one (ps_ret (pe_lst (pa_cons (pe_callB (call_max2 rfl) (by rfl) T.max (by decide +kernel) (pa_cons pe_int (pa_cons (pe_op op_sub (pv 2) (pe_op op_pow pe_int pe_int)) pa_nil))) (pa_cons (pe_op op_mod (pe_op op_pow (pe_op op_add (pe_op op_add (pe_op op_mod (pv 2) pe_int) (pe_op op_mul pe_int (pv 1))) pe_int) pe_int) pe_int) (pa_cons pe_int pa_nil)))))))), ?_⟩
  -- the last row, of any cell
  have fin : ∀ c : Int, (tC (.int 0)) [] H (fun _ _ => True) → ∀ (D : Addr), H D = none →
      PotAt 0 (upd H D (.lst [.int (if c - 10 ^ 18 > 0 then c - 10 ^ 18 else 0), .int ((c % 2147483629 + 7919 * k + 1) ^ (Int.toNat 5) % 2305843009213693951), .int 0])) D := by
    intro c _ D hD
    refine .at ⟨_, _, 0, rfl, ?_, Int.emod_nonneg _ (by decide), Int.emod_lt_of_pos _ (by decide), by decide, by decide⟩
    split <;> omega
  have hl : (ns.map V.int).length = ns.length := List.length_map _
  refine ⟨_, rfl, _, rfl, a, _, rfl, .inl hS, _, _, rfl, rfl, _, rfl, ?_⟩
  have last : ∀ c : Int, 0 ≤ (c % 2147483629 + 7919 * k + 1) ∧ (c % 2147483629 + 7919 * k + 1) < 2 ^ 63 := fun c => by
    have h1 : 0 ≤ c % 2147483629 := Int.emod_nonneg _ (by decide)
    have h2 : c % 2147483629 < 2147483629 := Int.emod_lt_of_pos _ (by decide)
    omega
  refine ite2 (fun c => ?_) (fun c => ?_)
  · have c' : k < (((ns.map V.int).length : Nat) : Int) := of_decide_eq_true c
    have hk : k.toNat < ns.length := by omega
    have ek : k = ((k.toNat : Nat) : Int) := by omega
    have at_ : atI (ns.map V.int) ((k.toNat : Nat) : Int) = some (.int ns[k.toNat]) := atI_nat (by rw [List.getElem?_map, List.getElem?_eq_getElem hk] <;> rfl)
    rw [← ek] at at_
    refine ⟨_, rfl, _, rfl, a, _, _, _, rfl, rfl, hS, at_, ?_⟩
    refine ⟨_, rfl, _, _, rfl, rfl, ⟨by decide, by decide, by decide⟩, _, _, rfl, rfl, _, _, rfl, ?_⟩
    refine ⟨_, rfl, _, _, rfl, rfl, (by show (0 : Int) < 2147483629; decide), _, rfl, _, _, rfl, rfl, .inl ⟨by decide, by decide⟩, _, _, rfl, rfl, _, _, rfl, rfl,
      _, _, rfl, rfl, ⟨by decide, by decide, pow_lt (last _).1 (last _).2⟩, _, _, rfl, rfl, (by show (0 : Int) < 2305843009213693951; decide), ?_⟩
    exact ⟨(by show 3 ≤ sizeLine; decide), fun D hD => q D _ hD (same_upd hD) (fin _ trivial D hD)⟩
  · refine ⟨_, rfl, _, _, rfl, rfl, ⟨by decide, by decide, by decide⟩, _, _, rfl, rfl, _, _, rfl, ?_⟩
    refine ⟨_, rfl, _, _, rfl, rfl, (by show (0 : Int) < 2147483629; decide), _, rfl, _, _, rfl, rfl, .inl ⟨by decide, by decide⟩, _, _, rfl, rfl, _, _, rfl, rfl,
      _, _, rfl, rfl, ⟨by decide, by decide, pow_lt (last _).1 (last _).2⟩, _, _, rfl, rfl, (by show (0 : Int) < 2305843009213693951; decide), ?_⟩
    exact ⟨(by show 3 ≤ sizeLine; decide), fun D hD => q D _ hD (same_upd hD) (fin _ trivial D hD)⟩
/-! ### _law_number -/
def spNum : Sp := fun vs H Q _ => ∃ (p : Addr) (n : Nat), vs = [.ref p] ∧ PotAt n H p ∧ n < 100000000 ∧
  ∀ (i : Int) (H' : Hp), 0 ≤ i → i < 10 ^ 60 → Chg p H H' → PotAt (n + 4) H' p → Q (.int i) H'
theorem sc_law_number : FnScope ["pot", "way"] ["pot"] (defScope s_law_number) :=
  ⟨rfl, rfl, rfl, by decide +kernel, rfl, by decide +kernel, by decide +kernel⟩
theorem ok_num (F : Fn K mg "_law_number" s_law_number) (C_take : Cal P w K mg base "_law_take" 1 ["pot", "many"] spT) :
    Cal P w K mg base "_law_number" 2 ["pot"] spNum := by
  refine cal_of F sc_law_number
    (fun _ _ _ _ _ _ us hl => match us, hl with | [_], _ => rfl) ?_ ?_
  · rintro vs H Q E ⟨p, n, rfl, _⟩
    rfl
  rintro f cdv A outer s H vs Q E free hr ⟨p, n, rfl, hP, hn, q⟩
  refine ⟨_, (pss_cons (ps_set (i := 1) sc_law_number.nd rfl (Or.inl rfl) (pe_cal C_take free (hr.mono (by decide)) (pa_cons (pv 0) (pa_cons pe_int pa_nil))))
    (pss_cons (ps_if (pt_cmpR op_lt (pv 1) pe_int (nomark _))
    (pss_one (ps_ret (pe_cal C_take free (hr.mono (by decide)) (pa_cons (pv 0) (pa_cons pe_int pa_nil)))))
    pss_nil)
    (pss_one (ps_ret (pe_ix ix_list (pe_lst (pa_cons (pe_cal C_take free (hr.mono (by decide)) (pa_cons (pv 0) (pa_cons (pe_op op_pow pe_int pe_int) pa_nil))) (pa_cons (pe_cal C_take free (hr.mono (by decide)) (pa_cons (pv 0) (pa_cons (pe_op op_pow pe_int pe_int) pa_nil))) (pa_cons (pe_op op_sub (pe_op op_sub (pe_op op_pow pe_int pe_int) pe_int) (pe_cal C_take free (hr.mono (by decide)) (pa_cons (pv 0) (pa_cons pe_int pa_nil)))) pa_nil)))) (pe_op op_sub (pv 1) pe_int) (fun _ _ => rfl)))))), ?_⟩
  refine ⟨_, rfl, p, 5, n, rfl, by decide, by decide, hP, by omega, fun d H1 d0 d1 c1 P1 => ?_⟩
  refine ⟨_, rfl, _, _, rfl, rfl, _, rfl, ?_⟩
  refine ite2 (fun c => ?_) (fun c => ?_)
  · refine ⟨_, rfl, p, 10, n + 1, rfl, by decide, by decide, P1, by omega, fun e H2 e0 e1 c2 P2 => ?_⟩
    exact q e H2 e0 (by omega) (c1.trans c2) (P2.mono (by omega))
  · have cc : ¬ d < 2 := fun z => c (decide_eq_true z)
    refine ⟨_, rfl, _, _, rfl, rfl, ⟨by decide, by decide, by decide⟩, p, _, n + 1, rfl, by decide, by decide, P1, by omega, fun e2 H2 e20 e21 c2 P2 => ?_⟩
    refine ⟨_, rfl, _, _, rfl, rfl, ⟨by decide, by decide, by decide⟩, p, _, n + 2, rfl, by decide, by decide, P2, by omega, fun e3 H3 e30 e31 c3 P3 => ?_⟩
    refine ⟨_, _, rfl, rfl, ⟨by decide, by decide, by decide⟩, _, _, rfl, rfl, _, rfl, p, 2, n + 3, rfl, by decide, by decide, P3, by omega, fun e4 H4 e40 e41 c4 P4 => ?_⟩
    refine ⟨_, _, rfl, rfl, (by show 3 ≤ sizeLine; decide), fun D hD => ?_⟩
    have sel : ∃ i : Int, 0 ≤ i ∧ i < 10 ^ 60 ∧ atI [V.int e2, .int e3, .int (10 ^ (Int.toNat 60) - 1 - e4)] (d - 2) = some (.int i) := by
      have t60 : (10 : Int) ^ (Int.toNat 60) = 10 ^ 60 := rfl
      have t9 : (10 : Int) ^ (Int.toNat 9) = 10 ^ 9 := rfl
      rw [t60] at e31
      rw [t9] at e21
      have : d = 2 ∨ d = 3 ∨ d = 4 := by omega
      rcases this with rfl | rfl | rfl
      · exact ⟨e2, e20, by omega, rfl⟩
      · exact ⟨e3, e30, by omega, rfl⟩
      · exact ⟨_, (by rw [t60]; omega), (by rw [t60]; omega), rfl⟩
    obtain ⟨i, i0, i1, hi⟩ := sel
    refine ⟨_, rfl, _, _, rfl, rfl, D, _, _, _, rfl, rfl, SqL.of upd_same, hi, ?_⟩
    exact q i _ i0 i1 ((((c1.trans c2).trans c3).trans c4).new hD) (P4.new hD)
/-! ### _law_thing -/
def cst : Nat → Nat
  | 0 => 6
  | l + 1 => 2 * cst l + 2
theorem cst_ge : ∀ l, 6 ≤ cst l
  | 0 => by decide
  | l + 1 => by have := cst_ge l; show 6 ≤ 2 * cst l + 2; omega
def spThing (K : PySem.W.Frag) : Nat → Sp
  | 0 => fun _ _ _ _ => False
  | l + 1 => fun vs H Q _ => ∃ (p : Addr) (n : Nat), vs = [.ref p, .int l] ∧ l ≤ 4 ∧ PotAt n H p ∧ n + cst l < 100000000 ∧
    ∀ (v : V) (d : PyData) (H' : Hp), Dp K H' v d → Thing l d → Chg p H H' → PotAt (n + cst l) H' p → Q v H'
theorem sc_law_thing : FnScope ["pot", "left", "k"] ["pot", "left"] (defScope s_law_thing) :=
  ⟨rfl, rfl, rfl, by decide +kernel, rfl, by decide +kernel, by decide +kernel⟩
theorem ok_thing (l : Nat) (F : Fn K mg "_law_thing" s_law_thing) (T : Bl mg) (C_take : Cal P w K mg base "_law_take" 1 ["pot", "many"] spT)
    (C_number : Cal P w K mg base "_law_number" 2 ["pot"] spNum)
    (C_thing : Cal P w K mg base "_law_thing" (l + 2) ["pot", "left"] (spThing K l)) :
    Cal P w K mg base "_law_thing" (l + 1 + 2) ["pot", "left"] (spThing K (l + 1)) := by
  refine cal_of F sc_law_thing
    (fun _ _ _ _ _ _ us hl => match us, hl with | [_, _], _ => rfl) ?_ ?_
  · rintro vs H Q E ⟨p, n, rfl, _⟩
    rfl
  rintro f cdv A outer s H vs Q E free hr ⟨p, n, rfl, l4, hP, hn, q⟩
  refine ⟨_, (pss_cons (ps_if (PW.pt (pw_and (pt_cmpR op_gt (pv 1) pe_int (nomark _)) (pw_and1 (pt_cmpR op_eq (pe_cal C_take free (hr.mono (by omega)) (pa_cons (pv 0) (pa_cons pe_int pa_nil))) pe_int (nomark _)))))
    (pss_one (ps_ret (pe_callTy call_tuple_of (by rfl) T.tuple (by decide +kernel) (pa_cons (pe_lc (own := [("k", 2)]) (g := gName 2) (tt := tYes) (by rfl) sc_law_thing.nd (pi_range1 (by rfl) T.range (pa_cons (pe_cal C_take free (hr.mono (by omega)) (pa_cons (pv 0) (pa_cons pe_int pa_nil))) pa_nil)) (blkOk_by (N := ["pot", "left", "k"]) (sc := defScope s_law_thing) (by decide +kernel)) (fun _ _ _ _ _ => pg_name (i := 2) sc_law_thing.nd rfl (Or.inl rfl)) (fun _ _ _ _ _ => pts_nil) (fun _ _ _ _ _ => (pe_cal C_thing free hr (pa_cons (pv 0) (pa_cons (pe_op op_sub (pv 1) pe_int) pa_nil))))) pa_nil))))
    pss_nil)
    (pss_one (ps_ret (pe_cal C_number free (hr.mono (by omega)) (pa_cons (pv 0) pa_nil))))), ?_⟩
  have fin : ∀ (H1 : Hp) (m : Nat), Chg p H H1 → PotAt m H1 p → m + 4 ≤ n + cst l → m < 100000000 → ∀ R : VK, (∀ v H2, Q v H2 → R v H2) →
      ∃ (pp : Addr) (mm : Nat), [V.ref p] = [V.ref pp] ∧ PotAt mm H1 pp ∧ mm < 100000000 ∧ ∀ (i : Int) (H' : Hp), 0 ≤ i → i < 10 ^ 60 → Chg pp H1 H' → PotAt (mm + 4) H' pp → R (.int i) H' := by
    intro H1 m c1 P1 le lt R hR
    refine ⟨p, m, rfl, P1, lt, fun i H2 i0 i1 c2 P2 => hR _ _ ?_⟩
    exact q _ (.int i) H2 (.int i) (.num i0 i1) (c1.trans c2) (P2.mono le)
  have cl := cst_ge l
  refine ⟨_, rfl, _, _, rfl, rfl, _, rfl, ?_⟩
  refine ite2 (fun c => ?_) (fun c => ?_)
  · have c' : (0 : Int) < (l : Int) := of_decide_eq_true c
    obtain ⟨m, rfl⟩ : ∃ m, l = m + 1 := ⟨l - 1, by omega⟩
    refine ⟨_, rfl, p, 3, n, rfl, by decide, by decide, hP, by omega, fun d H1 d0 d1 c1 P1 => ?_⟩
    refine ⟨rfl, _, rfl, ?_⟩
    refine ite2 (fun e => ?_) (fun e => ?_)
    · refine ⟨_, rfl, p, 3, n + 1, rfl, by decide, by decide, P1, by omega, fun t H2 t0 t1 c2 P2 => ?_⟩
      refine ⟨_, rfl, by omega, by omega, fun D hD => ?_⟩
      have pD : p ≠ D := P2.neD hD
      have cs : cst (m + 1) = 2 * cst m + 2 := rfl
      have tn : t.toNat ≤ 2 := by omega
      refine lc_range (lo := 0) (n := t.toNat) (fun i G => ∃ (vs : List V) (ds : List PyData), G D = some (.lst vs) ∧ DpAll K G vs ds ∧ (∀ x ∈ ds, Thing m x) ∧ ds.length = i ∧
        PotAt (n + 2 + i * cst m) G p ∧ Chg p H2 G) ⟨[], [], upd_same, .nil, fun _ h => (List.not_mem_nil h).elim, rfl, (P2.new hD).mono (by omega), (Chg.refl _ _).mut hD⟩ ?_ ?_
      · rintro i G hi ⟨vs, ds, hG, hA, hT, hlen, hPG, hC⟩
        have ib : i * cst m ≤ 1 * cst m := Nat.mul_le_mul_right _ (by omega)
        refine ⟨rfl, _, rfl, _, rfl, _, _, rfl, rfl, p, n + 2 + i * cst m, (by show [V.ref p, V.int (((m + 1 : Nat) : Int) - 1)] = _; rw [show (((m + 1 : Nat) : Int) - 1) = (m : Int) by omega]), by omega, hPG, by omega, fun v d G2 hd hT2 c3 P3 => ?_⟩
        have hG2 : G2 D = some (.lst vs) := c3 _ _ pD.symm hG
        have hl := dps_len hA
        have vl : vs.length ≤ 2 := by omega
        refine ⟨vs, hG2, Nat.lt_of_le_of_lt vl (by decide), vs ++ [v], ds ++ [d], upd_same, ?_, ?_, ?_, ?_, ?_⟩
        · have a1 : DpAll K G2 (vs ++ [v]) (ds ++ [d]) := dps_app (dps_chg hPG.lst c3 ds vs (noLs_of fun x hx => (hT x hx).noL) hA) (.cons hd .nil)
          exact dps_chg ⟨vs, hG2⟩ Chg.self _ _ (noLs_of fun x hx => by
            rcases List.mem_append.mp hx with h | h
            · exact (hT x h).noL
            · rw [List.mem_singleton.mp h]; exact hT2.noL) a1
        · intro x hx
          rcases List.mem_append.mp hx with h | h
          · exact hT x h
          · rw [List.mem_singleton.mp h]; exact hT2
        · rw [List.length_append, List.length_singleton]; omega
        · refine (P3.ne pD rfl).mono ?_
          rw [Nat.add_mul, Nat.one_mul]; omega
        · exact (hC.trans c3).mut hD
      · rintro G ⟨vs, ds, hG, hA, hT, hlen, hPG, hC⟩
        refine ⟨D, vs, rfl, .inl ⟨SqL.of hG, fun t' ht => ?_⟩⟩
        have ib : t.toNat * cst m ≤ 2 * cst m := Nat.mul_le_mul_right _ (by omega)
        refine q _ (.tuple ds) _ (.tup (.inl (.inl upd_same)) (dps_same (same_upd ht) ds vs hA)) (.tup (by omega) hT) ?_ ((hPG.new ht).mono (by omega))
        exact ((c1.trans c2).trans hC).new ht
    · refine ⟨_, rfl, fin H1 (n + 1) c1 P1 (by omega) (by omega) _ fun _ _ z => z⟩
  · refine ⟨_, rfl, fin H n (Chg.refl _ _) hP (by omega) (by omega) _ fun _ _ z => z⟩
theorem ok_things (F : Fn K mg "_law_thing" s_law_thing) (T : Bl mg) (C_take : Cal P w K mg base "_law_take" 1 ["pot", "many"] spT)
    (C_number : Cal P w K mg base "_law_number" 2 ["pot"] spNum) : ∀ l, Cal P w K mg base "_law_thing" (l + 2) ["pot", "left"] (spThing K l)
  | 0 => (cal_no F (fun _ _ _ _ _ _ us hl => match us, hl with | [_, _], _ => rfl) ).mono (by decide)
  | l + 1 => ok_thing l F T C_take C_number (ok_things F T C_take C_number l)
/-! ### _law_letter -/
def spLetter (K : PySem.W.Frag) : Sp := fun vs H Q _ => ∃ (p : Addr) (most : Int) (n : Nat), vs = [.ref p, .int most] ∧ 0 ≤ most ∧ most ≤ 5 ∧ PotAt n H p ∧ n < 1000000 ∧
  ∀ (v : V) (d : PyData) (H' : Hp), Dp K H' v d → LetterD d → Chg p H H' → PotAt (n + 330) H' p → Q v H'
theorem sc_law_letter : FnScope ["pot", "most", "letters", "word", "k"] ["pot", "most"] (defScope s_law_letter) :=
  ⟨rfl, rfl, rfl, by decide +kernel, rfl, by decide +kernel, by decide +kernel⟩
theorem at1248 {d : Int} (h0 : 0 ≤ d) (h1 : d < 4) : ∃ j : Int, 1 ≤ j ∧ j ≤ 8 ∧ atI [V.int 1, .int 2, .int 4, .int 8] d = some (.int j) := by
  have : d = 0 ∨ d = 1 ∨ d = 2 ∨ d = 3 := by omega
  rcases this with rfl | rfl | rfl | rfl
  · exact ⟨1, by decide, by decide, rfl⟩
  · exact ⟨2, by decide, by decide, rfl⟩
  · exact ⟨4, by decide, by decide, rfl⟩
  · exact ⟨8, by decide, by decide, rfl⟩
theorem ok_letter (F : Fn K mg "_law_letter" s_law_letter) (T : Bl mg) (C_take : Cal P w K mg base "_law_take" 1 ["pot", "many"] spT)
    (C_thing : Cal P w K mg base "_law_thing" 6 ["pot", "left"] (spThing K 4)) : Cal P w K mg base "_law_letter" 7 ["pot", "most"] (spLetter K) := by
  refine cal_of F sc_law_letter
    (fun _ _ _ _ _ _ us hl => match us, hl with | [_, _], _ => rfl) ?_ ?_
  · rintro vs H Q E ⟨p, m, n, rfl, _⟩
    rfl
  rintro f cdv A outer s H vs Q E free hr ⟨p, most, n, rfl, m0, m3, hP, hn, q⟩
  refine ⟨_, (pss_cons (ps_set (i := 2) sc_law_letter.nd rfl (Or.inr rfl) pe_str)
    (pss_cons (ps_set (i := 3) sc_law_letter.nd rfl (Or.inl rfl) (pe_join pe_str (pe_lc (own := [("k", 4)]) (g := gName 4) (tt := tYes) (by rfl) sc_law_letter.nd (pi_range1 (by rfl) T.range (pa_cons (pe_ix ix_list (pe_lst (pa_cons pe_int (pa_cons pe_int (pa_cons pe_int (pa_cons pe_int pa_nil))))) (pe_cal C_take free (hr.mono (by decide)) (pa_cons (pv 0) (pa_cons pe_int pa_nil))) (fun _ _ => rfl)) pa_nil)) (blkOk_by (N := ["pot", "most", "letters", "word", "k"]) (sc := defScope s_law_letter) (by decide +kernel)) (fun _ _ _ _ _ => pg_name (i := 4) sc_law_letter.nd rfl (Or.inl rfl)) (fun _ _ _ _ _ => pts_nil) (fun _ _ _ _ _ => (pe_ix ix_str (pv 2) (pe_cal C_take free (hr.mono (by decide)) (pa_cons (pv 0) (pa_cons pe_int pa_nil))) (fun _ _ => rfl))))))
    (pss_cons (ps_if (pt_cmpR op_eq (pv 3) pe_str (nomark _))
    (pss_one (ps_set (i := 3) sc_law_letter.nd rfl (Or.inl rfl) pe_str))
    pss_nil)
    (pss_one (ps_ret (pe_op op_catA (pe_tup (pa_cons (pv 3) pa_nil)) (pe_callTy call_tuple_of (by rfl) T.tuple (by decide +kernel) (pa_cons (pe_lc (own := [("k", 4)]) (g := gName 4) (tt := tYes) (by rfl) sc_law_letter.nd (pi_range1 (by rfl) T.range (pa_cons (pe_cal C_take free (hr.mono (by decide)) (pa_cons (pv 0) (pa_cons (pe_op op_add (pv 1) pe_int) pa_nil))) pa_nil)) (blkOk_by (N := ["pot", "most", "letters", "word", "k"]) (sc := defScope s_law_letter) (by decide +kernel)) (fun _ _ _ _ _ => pg_name (i := 4) sc_law_letter.nd rfl (Or.inl rfl)) (fun _ _ _ _ _ => pts_nil) (fun _ _ _ _ _ => (pe_cal C_thing free (hr.mono (by decide)) (pa_cons (pv 0) (pa_cons pe_int pa_nil))))) pa_nil)))))))), ?_⟩
  refine ⟨⟨_, rfl⟩, by show 4 ≤ sizeLine; decide, fun L hL => ?_⟩
  have hPL := hP.new (o := .lst [.int 1, .int 2, .int 4, .int 8]) hL
  have cL : Chg p H (upd H L (.lst [.int 1, .int 2, .int 4, .int 8])) := (Chg.refl _ _).new hL
  refine ⟨_, rfl, p, 4, n, rfl, by decide, by decide, hPL, by omega, fun d H1 d0 d1 c1 P1 => ?_⟩
  obtain ⟨j, j1, j8, hj⟩ := at1248 d0 d1
  refine ⟨L, _, _, _, rfl, rfl, SqL.of (c1 _ _ (hP.neD hL).symm upd_same), hj, ?_⟩
  refine ⟨_, rfl, by omega, by omega, fun D hD => ?_⟩
  have pD : p ≠ D := P1.neD hD
  refine lc_range (lo := 0) (n := j.toNat) (fun i G => ∃ cs : List Nat, G D = some (.lst ((cs.map sg).map V.str)) ∧ cs.length = i ∧ (∀ c ∈ cs, 97 ≤ c ∧ c ≤ 122) ∧
    PotAt (n + 1 + i) G p ∧ Chg p H1 G) ⟨[], upd_same, rfl, fun _ h => (List.not_mem_nil h).elim, (P1.new hD).mono (by omega), (Chg.refl _ _).mut hD⟩ ?_ ?_
  · rintro i G hi ⟨cs, hG, hlen, hc, hPG, hC⟩
    refine ⟨rfl, _, rfl, _, rfl, p, 26, n + 1 + i, rfl, by decide, by decide, hPG, by omega, fun e G2 e0 e1 c2 P2 => ?_⟩
    have hG2 : G2 D = some (.lst ((cs.map sg).map V.str)) := c2 _ _ pD.symm hG
    refine ⟨_, _, _, rfl, rfl, by decide, az_at e0 e1, _, hG2, ?_, cs ++ [97 + e.toNat], ?_, ?_, ?_, ?_, ?_⟩
    · rw [List.length_map, List.length_map]
      exact Nat.lt_of_lt_of_le (show cs.length < 8 by omega) (by decide)
    · rw [upd_same, List.map_append, List.map_append]; rfl
    · rw [List.length_append, List.length_singleton]; omega
    · intro c hc'
      rcases List.mem_append.mp hc' with h | h
      · exact hc c h
      · rw [List.mem_singleton.mp h]; omega
    · exact (P2.ne pD rfl).mono (by omega)
    · exact (hC.trans c2).mut hD
  · rintro G ⟨cs, hG, hlen, hc, hPG, hC⟩
    have c3 : Chg p H G := (cL.trans c1).trans hC
    refine ⟨_, D, cs.map sg, rfl, rfl, .inl (SqL.of hG), ?_, ?_⟩
    · rw [sum_sg, List.length_map]
      show cs.length + cs.length * 0 ≤ 16777216
      omega
    -- behind the word
    have hz : (Txt.join "" (cs.map sg)).length = cs.length := join_sg_len cs
    have hzc := join_sg cs
    generalize Txt.join "" (cs.map sg) = z at hz hzc
    refine ⟨_, rfl, rfl, _, rfl, ?_⟩
    have wgo : WordOk "go" := by
      refine ⟨by decide, by decide, by decide, by decide⟩
    have wz : ¬ (decide (V.str z = V.str "gone") = true) → WordOk z := fun c =>
      ⟨by omega, by omega, by rw [hzc]; exact hc, fun e => c (decide_eq_true (congrArg V.str e))⟩
    refine ite2 (fun c => have hw := wgo; ?_) (fun c => have hw := wz c; ?_)
    all_goals
      refine ⟨_, rfl, by show 1 ≤ sizeLine; decide, fun t ht => ?_⟩
      have hPt := fun (o : HO) => hPG.new (o := o) ht
      have tp : t ≠ p := (hPG.neD ht).symm
      refine ⟨_, rfl, _, rfl, _, _, rfl, rfl, p, most + 1, _, rfl, by omega, by omega, hPt _, by omega, fun m G1 g0 g1 c4 P4 => ?_⟩
      refine ⟨_, rfl, by omega, by omega, fun D2 hD2 => ?_⟩
      have pD2 : p ≠ D2 := P4.neD hD2
      refine lc_range (lo := 0) (n := m.toNat) (fun i G => ∃ (vs : List V) (ds : List PyData), G D2 = some (.lst vs) ∧ DpAll K G vs ds ∧ (∀ x ∈ ds, Thing 3 x) ∧ ds.length = i ∧
        PotAt (n + 10 + i * 62) G p ∧ Chg p G1 G) ⟨[], [], upd_same, .nil, fun _ h => (List.not_mem_nil h).elim, rfl, (P4.new hD2).mono (by omega), (Chg.refl _ _).mut hD2⟩ ?_ ?_
      · rintro i G2 hi ⟨vs, ds, hG2, hA, hT, hlen2, hPG2, hC2⟩
        have ib : i * 62 ≤ 4 * 62 := Nat.mul_le_mul_right _ (by omega)
        refine ⟨rfl, _, rfl, p, n + 10 + i * 62, rfl, by decide, hPG2, (by show n + 10 + i * 62 + 62 < 100000000; omega), fun v d G3 hd hT2 c5 P5 => ?_⟩
        have hG3 : G3 D2 = some (.lst vs) := c5 _ _ pD2.symm hG2
        have hl := dps_len hA
        have vl : vs.length ≤ 6 := by omega
        refine ⟨vs, hG3, Nat.lt_of_le_of_lt vl (by decide), vs ++ [v], ds ++ [d], upd_same, ?_, ?_, ?_, ?_, ?_⟩
        · have a1 : DpAll K G3 (vs ++ [v]) (ds ++ [d]) := dps_app (dps_chg hPG2.lst c5 ds vs (noLs_of fun x hx => (hT x hx).noL) hA) (.cons hd .nil)
          exact dps_chg ⟨vs, hG3⟩ Chg.self _ _ (noLs_of fun x hx => by
            rcases List.mem_append.mp hx with h | h
            · exact (hT x h).noL
            · rw [List.mem_singleton.mp h]; exact hT2.noL) a1
        · intro x hx
          rcases List.mem_append.mp hx with h | h
          · exact hT x h
          · rw [List.mem_singleton.mp h]; exact hT2
        · rw [List.length_append, List.length_singleton]; omega
        · have P5' : PotAt (n + 10 + i * 62 + 62) G3 p := P5
          exact (P5'.ne pD2 rfl).mono (by omega)
        · exact (hC2.trans c5).mut hD2
      · rintro G2 ⟨vs, ds, hG2, hA, hT, hlen2, hPG2, hC2⟩
        have ib : m.toNat * 62 ≤ 5 * 62 := Nat.mul_le_mul_right _ (by omega)
        have ct : Chg p G G1 := ((Chg.refl p G).new ht).trans c4
        have hl := dps_len hA
        refine ⟨D2, vs, rfl, .inl ⟨SqL.of hG2, fun u hu => ?_⟩⟩
        have htu := same_upd (o := .tup vs) hu t _ (hC2 t _ tp (c4 t _ tp upd_same))
        refine ⟨t, u, _, vs, rfl, rfl, SqT.of htu, SqT.of upd_same, by show 1 + vs.length ≤ sizeLine; exact Nat.le_of_lt (small1000 (by omega)),
          fun z => (List.cons_ne_nil _ _ z).elim, fun _ z => ?_, fun _ _ r hr' => ?_⟩
        · have z' : ds = [] := List.eq_nil_of_length_eq_zero (by rw [← hl, z]; rfl)
          exact q _ (.tuple [.str _]) _ (.tup (SqT.of htu) (.cons (.str _) .nil)) ⟨_, [], rfl, hw, by decide, fun _ h => (List.not_mem_nil h).elim⟩
            (((c3.trans ct).trans hC2).new hu) ((hPG2.new hu).mono (by omega))
        · refine q _ (.tuple (.str _ :: ds)) _ (.tup (SqT.of upd_same) (.cons (.str _) (dps_same (same_upd hr') ds vs (dps_same (same_upd hu) ds vs hA)))) ⟨_, ds, rfl, hw, by omega, hT⟩
            ((((c3.trans ct).trans hC2).new hu).new hr') (((hPG2.new hu).new hr').mono (by omega))
end

end G0
namespace G0
open PySem PySem.Spec PyProof.Rows L2
theorem iteF' {c : Bool} {A B : Prop} (e : c = false) (h : B) : if c = true then A else B := by rw [e]; exact iteF h
theorem iteT' {c : Bool} {A B : Prop} (e : c = true) (h : A) : if c = true then A else B := by rw [e]; exact iteT h
/-! ### several lists may change -/
def ChgS (S : List Addr) (H H' : Hp) : Prop := ∀ b o, b ∉ S → H b = some o → H' b = some o
section
variable {S : List Addr} {p q : Addr} {H H' H0 H1 H2 : Hp} {o : HO}
theorem ChgS.refl : ChgS S H H := fun _ _ _ e => e
theorem ChgS.trans (a : ChgS S H H1) (b : ChgS S H1 H2) : ChgS S H H2 := fun c o n e => b c o n (a c o n e)
theorem Chg.s (h : Chg p H H') (m : p ∈ S) : ChgS S H H' := fun b o n e => h b o (fun z => n (z ▸ m)) e
theorem Same.s (h : Same H H') : ChgS S H H' := fun b o _ e => h b o e
theorem ChgS.mono {T : List Addr} (h : ChgS S H H') (m : ∀ b ∈ S, b ∈ T) : ChgS T H H' := fun b o n e => h b o (fun z => n (m b z)) e
theorem ChgS.new (a : ChgS S H H1) (n : H1 q = none) : ChgS S H (upd H1 q o) := fun b u m e => by
  rw [upd_ne (ne_of_none (a b u m e) n)]; exact a b u m e
theorem ChgS.mut (a : ChgS S H H1) (n : H q = none) : ChgS S H (upd H1 q o) := fun b u m e => by
  rw [upd_ne (ne_of_none e n)]; exact a b u m e
theorem ChgS.put (a : ChgS S H H1) (m : q ∈ S) : ChgS S H (upd H1 q o) := fun b u n e => by
  have nb : b ≠ q := fun z => n (by rw [z]; exact m)
  rw [upd_ne nb]; exact a b u n e
/-- what is new behind was new ahead -/
theorem ChgS.back (a : ChgS S H H1) (n : H1 q = none) (m : q ∉ S) : H q = none := by
  cases e : H q with
  | none => rfl
  | some u => rw [a q u m e] at n; cases n
theorem Chg.back (a : Chg p H H1) (n : H1 q = none) (m : q ≠ p) : H q = none := by
  cases e : H q with
  | none => rfl
  | some u => rw [a q u m e] at n; cases n
theorem PotAt.keepS {n : Nat} (h : PotAt n H p) (s : ChgS S H H') (m : p ∉ S) : PotAt n H' p := by
  obtain ⟨xs, e, h⟩ := h
  exact ⟨xs, s _ _ m e, h⟩
end
/-! ### lists of ints -/
section
variable {K : PySem.W.Frag} {H : Hp}
theorem dps_ints : ∀ ns : List Int, DpAll K H (ns.map V.int) (ns.map PyData.int)
  | [] => .nil
  | n :: r => .cons (.int n) (dps_ints r)
theorem dp_ints {a : Addr} {ns : List Int} (h : H a = some (.lst (ns.map V.int))) : Dp K H (.ref a) (.list (ns.map PyData.int)) := .lst (SqL.of h) (dps_ints ns)
theorem lay_ints : ∀ ns : List Int, PyData.canLayAll0 (ns.map PyData.int) = true
  | [] => by simp [PyData.canLayAll0]
  | n :: r => by simp [PyData.canLayAll0, PyData.canLay0, lay_ints r]
theorem deep_ints : ∀ ns : List Int, PyData.depthAll (ns.map PyData.int) = 0
  | [] => by simp [PyData.depthAll]
  | n :: r => by simp [PyData.depthAll, PyData.depth, deep_ints r]
theorem shaped_ints (ns : List Int) : SeqAt.shaped (.list (ns.map PyData.int)) = true := by
  show ((PyData.list (ns.map PyData.int)).canLay0 && decide ((PyData.list (ns.map PyData.int)).depth ≤ 64)) = true
  simp [PyData.canLay0, PyData.depth, lay_ints, deep_ints]
theorem flat_ints : ∀ ns : List Int, (ns.map V.int).all flatV = true
  | [] => rfl
  | n :: r => by simp [flatV, flat_ints r]
theorem inV_ints (v : Int) : ∀ ns : List Int, inV (.int v) (ns.map V.int) = decide (v ∈ ns)
  | [] => by simp [inV]
  | n :: r => by
    have ih := inV_ints v r
    unfold inV at ih ⊢
    rw [List.map_cons, List.any_cons, ih]
    show ((n == v) || decide (v ∈ r)) = decide (v ∈ n :: r)
    by_cases e : n = v
    · subst e; simp
    · have e' : ¬ v = n := fun z => e z.symm
      simp [e, e']
theorem at_ints {ns : List Int} {d : Int} (h0 : 0 ≤ d) (h1 : d < ns.length) : ∃ v, v ∈ ns ∧ atI (ns.map V.int) d = some (.int v) := by
  have hk : d.toNat < ns.length := by omega
  have ek : d = ((d.toNat : Nat) : Int) := by omega
  refine ⟨ns[d.toNat], List.getElem_mem hk, ?_⟩
  have q : atI (ns.map V.int) ((d.toNat : Nat) : Int) = some (.int ns[d.toNat]) := atI_nat (by rw [List.getElem?_map, List.getElem?_eq_getElem hk] <;> rfl)
  rw [← ek] at q
  exact q
end
/-! ### how long a repr is -/
mutual
def cost : PyData → Nat
  | .none => 4
  | .bool _ => 5
  | .int _ => 1921
  | .str x => 10 * x.length + 2
  | .list xs => 2 + costs xs
  | .tuple xs => 4 + costs xs
  | .dict _ => 0
def costs : List PyData → Nat
  | [] => 0
  | x :: xs => cost x + 2 + costs xs
end
theorem from_le : ∀ (ts : List Str) (k : Nat) (acc : Str), (textFrom k acc ts).length ≤ acc.length + (ts.map fun t => t.length + 2).sum
  | [], k, acc => by show acc.length ≤ _; simp
  | t :: r, k, acc => by
    have ih := from_le r (k + 1) (acc ++ (if k > 0 then ", " else "" : String) ++ t)
    show (textFrom (k + 1) _ r).length ≤ _
    rw [List.map_cons, List.sum_cons]
    rw [Str.length_append, Str.length_append] at ih
    have sep : (Str.ofString (if k > 0 then ", " else "")).length ≤ 2 := by split <;> decide
    omega
theorem join_le : ∀ ts : List Str, (Str.join ", " ts).length ≤ (ts.map fun t => t.length + 2).sum
  | [] => by decide
  | [x] => by show x.length ≤ _; simp
  | x :: y :: r => by
    have ih := join_le (y :: r)
    show (x ++ (", " : Str) ++ Str.join ", " (y :: r)).length ≤ _
    rw [Str.length_append, Str.length_append, List.map_cons, List.sum_cons]
    have : (", " : Str).length = 2 := by decide
    omega
theorem small_cps {x : Str} (h : PyData.strOk x = true) : ∀ c ∈ x.cps.toList, c < 16 ^ 8 := fun c hc => by
  unfold PyData.strOk at h
  rw [Array.all_eq_true_iff_forall_mem] at h
  have := of_decide_eq_true (h c (Array.mem_toList_iff.mp hc))
  omega
mutual
theorem shown_le : ∀ d : PyData, d.showable = true → d.canLay0 = true → d.shown.length ≤ cost d
  | .none, _, _ => by show (("None" : Str)).length ≤ 4; decide
  | .bool b, _, _ => by cases b <;> (simp only [PyData.shown, cost]; decide)
  | .int i, h, _ => by
    simp only [PyData.shown, cost]
    exact int_text_len_1921 (by simpa [PyData.showable] using h)
  | .str x, _, h => by
    simp only [PyData.shown, cost]
    exact StrLaws.reprText_len x (small_cps (by simpa [PyData.canLay0] using h))
  | .list xs, h, l => by
    have ih := shown_les xs (by simpa [PyData.showable] using h) (by simpa [PyData.canLay0] using l)
    simp only [PyData.shown, cost]
    show (textFrom 0 "[" (PyData.shownAll xs) ++ ("]" : Str)).length ≤ _
    have := from_le (PyData.shownAll xs) 0 "["
    have a : ("[" : Str).length = 1 := by decide
    have b : ("]" : Str).length = 1 := by decide
    rw [Str.length_append]
    omega
  | .tuple xs, h, l => by
    have ih := shown_les xs (by simpa [PyData.showable] using h) (by simpa [PyData.canLay0] using l)
    simp only [PyData.shown, cost]
    show (("(" : Str) ++ Str.join ", " (PyData.shownAll xs) ++ (Str.ofString (if (PyData.shownAll xs).length == 1 then ",)" else ")"))).length ≤ _
    have := join_le (PyData.shownAll xs)
    have a : ("(" : Str).length = 1 := by decide
    have b : (Str.ofString (if (PyData.shownAll xs).length == 1 then ",)" else ")")).length ≤ 2 := by split <;> decide
    rw [Str.length_append, Str.length_append]
    omega
  | .dict _, _, h => by simp [PyData.canLay0] at h
theorem shown_les : ∀ ds : List PyData, PyData.showableAll ds = true → PyData.canLayAll0 ds = true → ((PyData.shownAll ds).map fun t => t.length + 2).sum ≤ costs ds
  | [], _, _ => Nat.le_refl _
  | d :: ds, h, l => by
    simp only [PyData.showableAll, Bool.and_eq_true] at h
    simp only [PyData.canLayAll0, Bool.and_eq_true] at l
    have h1 := shown_le d h.1 l.1
    have h2 := shown_les ds h.2 l.2
    simp only [PyData.shownAll, costs, List.map_cons, List.sum_cons]
    omega
end

end G0
namespace G0
open PySem PySem.Spec PyProof.Rows L2
/-! ### Seat -/
def seatF (m : Int) (st : Str) (b : Bool) : List (Str × V) := [("me", .int m), ("state", .str st), ("sits", .bl b)]
theorem e1 : ¬ (("state" : Str) = "me") := by decide +kernel
theorem e2 : ¬ (("sits" : Str) = "me") := by decide +kernel
theorem e3 : ¬ (("sits" : Str) = "state") := by decide +kernel
theorem e4 : ¬ (("me" : Str) = "state") := by decide +kernel
theorem seatF_me (m : Int) (st : Str) (b : Bool) : (seatF m st b).lookup ("me" : Str) = some (.int m) := by
  unfold seatF; rw [List.lookup_cons_self]
theorem seatF_state (m : Int) (st : Str) (b : Bool) : (seatF m st b).lookup ("state" : Str) = some (.str st) := by
  unfold seatF; rw [List.lookup_cons, beq_false_of_ne e1]; simp only []; rw [List.lookup_cons_self]
theorem seatF_sits (m : Int) (st : Str) (b : Bool) : (seatF m st b).lookup ("sits" : Str) = some (.bl b) := by
  unfold seatF; rw [List.lookup_cons, beq_false_of_ne e2]; simp only []; rw [List.lookup_cons, beq_false_of_ne e3]; simp only []; rw [List.lookup_cons_self]
theorem seatF_put (m : Int) (st u : Str) (b : Bool) : putF "state" (.str u) (seatF m st b) = seatF m u b := by
  unfold seatF
  show (if ("me" : Str) = "state" then _ else (("me" : Str), V.int m) :: (if ("state" : Str) = "state" then _ else _)) = _
  rw [if_neg e4, if_pos rfl]
theorem seatF_made (m : Int) : putF "sits" (.bl false) (putF "state" (.str "out") (putF "me" (.int m) [])) = seatF m "out" false := by
  show putF "sits" (.bl false) (if ("me" : Str) = "state" then _ else (("me" : Str), V.int m) :: putF "state" (.str "out") []) = _
  rw [if_neg e4]
  show (if ("me" : Str) = "sits" then _ else (("me" : Str), V.int m) :: (if ("state" : Str) = "sits" then _ else (("state" : Str), V.str "out") :: putF "sits" (.bl false) [])) = _
  rw [if_neg (fun q => e2 q.symm), if_neg (fun q => e3 q.symm)]
  rfl
theorem seatF_no (m : Int) (st : Str) (b : Bool) {x : Str} (h1 : x ≠ ("me" : Str)) (h2 : x ≠ ("state" : Str)) (h3 : x ≠ ("sits" : Str)) : (seatF m st b).lookup x = none := by
  unfold seatF
  rw [List.lookup_cons, beq_false_of_ne h1]; simp only []
  rw [List.lookup_cons, beq_false_of_ne h2]; simp only []
  rw [List.lookup_cons, beq_false_of_ne h3]; rfl
structure SeatT (K : PySem.W.Frag) (mg : Str → Option Value) (C : Addr) : Prop where
  cl : Cls K C
  nMe : NoAttr K C "me"
  nState : NoAttr K C "state"
  nSits : NoAttr K C "sits"
  mgC : mg "Seat" = some (.ref C)
section
variable {P : Program} {w : World} {K : PySem.W.Frag} {mg : Str → Option Value} {base : Heap} {C f : Addr} {fd : FuncData}
def spInit (C : Addr) : Sp := fun vs H Q _ => ∃ (p dx : Addr) (m : Int), vs = [.ref p, .int m] ∧ H p = some (.ins C dx []) ∧
  Q .non (upd H p (.ins C dx (seatF m "out" false)))
theorem sc_Seat__init : FnScope ["self", "me"] ["self", "me"] (defScope s_Seat__init) :=
  ⟨rfl, rfl, rfl, by decide +kernel, rfl, by decide +kernel, by decide +kernel⟩
theorem ok_init (F : Fun K "__init__" "Seat.__init__" s_Seat__init f fd) (T : SeatT K mg C) : FnOk P w K mg base CX0 1 f fd ["self", "me"] (spInit C) := by
  refine F.ok sc_Seat__init (fun vs H Q E h => ?_) (fun cdv A outer s H vs Q E hr h => ?_)
  · obtain ⟨p, dx, m, rfl, _⟩ := h
    rfl
  obtain ⟨p, dx, m, rfl, hp, q⟩ := h
  refine ⟨_, (pss_cons (ps_fld (pv 0) (pv 1) rfl)
    (pss_cons (ps_fld (pv 0) pe_str rfl)
    (pss_one (ps_fld (pv 0) pe_bl rfl)))), ?_⟩
  refine ⟨_, rfl, _, rfl, p, C, dx, _, rfl, hp, T.cl, T.nMe, (by show 0 < 1000; decide), ?_⟩
  refine ⟨_, rfl, p, C, dx, _, rfl, upd_same, T.cl, T.nState, (by show 1 < 1000; decide), ?_⟩
  refine ⟨_, rfl, p, C, dx, _, rfl, upd_same, T.cl, T.nSits, (by show 2 < 1000; decide), ?_⟩
  rw [upd_upd, upd_upd, seatF_made]
  exact q
/-- ask, leave: a new state, a new empty list -/
def spTurn (C : Addr) (u : Str) : Sp := fun vs H Q _ => ∃ (p dx : Addr) (m : Int) (st : Str) (b : Bool), vs = [.ref p] ∧ H p = some (.ins C dx (seatF m st b)) ∧
  ∀ l, H l = none → Q (.ref l) (upd (upd H p (.ins C dx (seatF m u b))) l (.lst []))
theorem sc_Seat_ask : FnScope ["self"] ["self"] (defScope s_Seat_ask) :=
  ⟨rfl, rfl, rfl, by decide +kernel, rfl, by decide +kernel, by decide +kernel⟩
theorem ok_ask (F : Fun K "ask" "Seat.ask" s_Seat_ask f fd) (T : SeatT K mg C) : FnOk P w K mg base CX0 1 f fd ["self"] (spTurn C "in") := by
  refine F.ok sc_Seat_ask (fun vs H Q E h => ?_) (fun cdv A outer s H vs Q E hr h => ?_)
  · obtain ⟨p, dx, m, st, b, rfl, _⟩ := h
    rfl
  obtain ⟨p, dx, m, st, b, rfl, hp, q⟩ := h
  refine ⟨_, (pss_cons (ps_fld (pv 0) pe_str rfl)
    (pss_one (ps_ret (pe_lst pa_nil)))), ?_⟩
  refine ⟨_, rfl, p, C, dx, _, rfl, hp, T.cl, T.nState, (by show 3 < 1000; decide), Nat.zero_le _, fun l hl => ?_⟩
  rw [seatF_put] at hl ⊢
  refine q l ?_
  by_cases e : l = p
  · rw [e, upd_same] at hl; cases hl
  · rw [upd_ne e] at hl; exact hl
theorem sc_Seat_leave : FnScope ["self"] ["self"] (defScope s_Seat_leave) :=
  ⟨rfl, rfl, rfl, by decide +kernel, rfl, by decide +kernel, by decide +kernel⟩
theorem ok_leave (F : Fun K "leave" "Seat.leave" s_Seat_leave f fd) (T : SeatT K mg C) : FnOk P w K mg base CX0 1 f fd ["self"] (spTurn C "out") := by
  refine F.ok sc_Seat_leave (fun vs H Q E h => ?_) (fun cdv A outer s H vs Q E hr h => ?_)
  · obtain ⟨p, dx, m, st, b, rfl, _⟩ := h
    rfl
  obtain ⟨p, dx, m, st, b, rfl, hp, q⟩ := h
  refine ⟨_, (pss_cons (ps_fld (pv 0) pe_str rfl)
    (pss_one (ps_ret (pe_lst pa_nil)))), ?_⟩
  refine ⟨_, rfl, p, C, dx, _, rfl, hp, T.cl, T.nState, (by show 3 < 1000; decide), Nat.zero_le _, fun l hl => ?_⟩
  rw [seatF_put] at hl ⊢
  refine q l ?_
  by_cases e : l = p
  · rw [e, upd_same] at hl; cases hl
  · rw [upd_ne e] at hl; exact hl
/-- hear, gone: nothing, a new empty list -/
def spHear : Sp := fun vs H Q _ => ∃ (p x y : V), vs = [p, x, y] ∧ ∀ l, H l = none → Q (.ref l) (upd H l (.lst []))
theorem sc_Seat_hear : FnScope ["self", "sender", "letter"] ["self", "sender", "letter"] (defScope s_Seat_hear) :=
  ⟨rfl, rfl, rfl, by decide +kernel, rfl, by decide +kernel, by decide +kernel⟩
theorem ok_hear (F : Fun K "hear" "Seat.hear" s_Seat_hear f fd) : FnOk P w K mg base CX0 1 f fd ["self", "sender", "letter"] spHear := by
  refine F.ok sc_Seat_hear (fun vs H Q E h => ?_) (fun cdv A outer s H vs Q E hr h => ?_)
  · obtain ⟨p, x, y, rfl, _⟩ := h
    rfl
  obtain ⟨p, x, y, rfl, q⟩ := h
  exact ⟨_, (pss_one (ps_ret (pe_lst pa_nil))), Nat.zero_le _, q⟩
def spGone : Sp := fun vs H Q _ => ∃ (p x : V), vs = [p, x] ∧ ∀ l, H l = none → Q (.ref l) (upd H l (.lst []))
theorem sc_Seat_gone : FnScope ["self", "seat"] ["self", "seat"] (defScope s_Seat_gone) :=
  ⟨rfl, rfl, rfl, by decide +kernel, rfl, by decide +kernel, by decide +kernel⟩
theorem ok_gone (F : Fun K "gone" "Seat.gone" s_Seat_gone f fd) : FnOk P w K mg base CX0 1 f fd ["self", "seat"] spGone := by
  refine F.ok sc_Seat_gone (fun vs H Q E h => ?_) (fun cdv A outer s H vs Q E hr h => ?_)
  · obtain ⟨p, x, rfl, _⟩ := h
    rfl
  obtain ⟨p, x, rfl, q⟩ := h
  exact ⟨_, (pss_one (ps_ret (pe_lst pa_nil))), Nat.zero_le _, q⟩
end

end G0
namespace G0
open PySem PySem.Spec PyProof.Rows L2
section
variable {P : Program} {w : World} {K : PySem.W.Frag} {mg : Str → Option Value} {base : Heap} {C : Addr}
/-- a method of the class at C -/
def Me (P : Program) (w : World) (K : PySem.W.Frag) (mg : Str → Option Value) (base : Heap) (C : Addr) (x : Str) (k : Nat) (ps : List Str) (sp : Sp) : Prop :=
  ∃ f fd, FnOk P w K mg base CX0 k f fd ps sp ∧ Binds K fd ps [] ∧ Meth K C x f
/-! ### _law_seen -/
def spSeen (C : Addr) : Sp := fun vs H Q _ => ∃ (a dx : Addr) (m : Int) (st : Str) (b : Bool), vs = [.ref a] ∧ H a = some (.ins C dx (seatF m st b)) ∧
  ∀ l, H l = none → Q (.ref l) (upd H l (.lst [.int m, .str st, .bl b]))
theorem sc_law_seen : FnScope ["seat"] ["seat"] (defScope s_law_seen) :=
  ⟨rfl, rfl, rfl, by decide +kernel, rfl, by decide +kernel, by decide +kernel⟩
theorem ok_seen (F : Fn K mg "_law_seen" s_law_seen) (S : SeatT K mg C) : Cal P w K mg base "_law_seen" 1 ["seat"] (spSeen C) := by
  refine cal_of F sc_law_seen
    (fun _ _ _ _ _ _ us hl => match us, hl with | [_], _ => rfl) ?_ ?_
  · rintro vs H Q E ⟨a, dx, m, st, b, rfl, _⟩
    rfl
  rintro f cdv A outer s H vs Q E free hr ⟨a, dx, m, st, b, rfl, ha, q⟩
  refine ⟨_, (pss_one (ps_ret (pe_lst (pa_cons (pe_fld (pv 0) (by rfl)) (pa_cons (pe_fld (pv 0) (by rfl)) (pa_cons (pe_fld (pv 0) (by rfl)) pa_nil)))))), ?_⟩
  exact ⟨_, rfl, a, C, dx, _, _, rfl, ha, S.cl, S.nMe, seatF_me _ _ _, _, rfl, a, C, dx, _, _, rfl, ha, S.cl, S.nState, seatF_state _ _ _,
    _, rfl, a, C, dx, _, _, rfl, ha, S.cl, S.nSits, seatF_sits _ _ _, (by show 3 ≤ sizeLine; decide), q⟩
/-! ### _law_heard -/
def spHeard (C : Addr) : Sp := fun vs H Q _ => ∃ (p a g dx : Addr) (m : Int) (st : Str) (b : Bool) (gs : List Int) (n : Nat), vs = [.ref p, .ref a, .int 60, .ref g] ∧
  PotAt n H p ∧ n < 900000 ∧ H a = some (.ins C dx (seatF m st b)) ∧ 0 ≤ m ∧ m < 60 ∧ H g = some (.lst (gs.map V.int)) ∧ m ∉ gs ∧ gs.length ≤ 1000 ∧ p ≠ g ∧
  ∀ (l : Addr) (H' : Hp) (gs' : List Int), H l = none → H' l = some (.lst []) → ChgS [p, g] H H' → PotAt (n + 340) H' p → H' g = some (.lst (gs'.map V.int)) →
    m ∉ gs' → gs'.length ≤ gs.length + 1 → Q (.ref l) H'
theorem sc_law_heard : FnScope ["pot", "seat", "many", "gone", "left", "other", "others"] ["pot", "seat", "many", "gone"] (defScope s_law_heard) :=
  ⟨rfl, rfl, rfl, by decide +kernel, rfl, by decide +kernel, by decide +kernel⟩
theorem dps_same' {K : PySem.W.Frag} {H H' : Hp} {v : V} {d : PyData} (h : Dp K H v d) (c : Same H H') : Dp K H' v d := dp_same c d v h
theorem small_of {n : Nat} (h : n ≤ 10000) : n < sizeLine := Nat.lt_of_le_of_lt h (by decide)
theorem ok_heard (F : Fn K mg "_law_heard" s_law_heard) (T : Bl mg) (S : SeatT K mg C) (C_take : Cal P w K mg base "_law_take" 1 ["pot", "many"] spT)
    (C_letter : Cal P w K mg base "_law_letter" 7 ["pot", "most"] (spLetter K))
    (MH : Me P w K mg base C "hear" 1 ["self", "sender", "letter"] spHear) (MG : Me P w K mg base C "gone" 1 ["self", "seat"] spGone) :
    Cal P w K mg base "_law_heard" 8 ["pot", "seat", "many", "gone"] (spHeard C) := by
  obtain ⟨fH, fdH, GH, bH, mH⟩ := MH
  obtain ⟨fG, fdG, GG, bG, mG⟩ := MG
  refine cal_of F sc_law_heard
    (fun _ _ _ _ _ _ us hl => match us, hl with | [_, _, _, _], _ => rfl) ?_ ?_
  · rintro vs H Q E ⟨p, a, g, dx, m, st, b, gs, n, rfl, _⟩
    rfl
  rintro f cdv A outer s H vs Q E free hr ⟨p, a, g, dx, m, st, b, gs, n, rfl, hP, hn, ha, m0, m60, hg, mgs, gl, pg, q⟩
  have hr1 : Room 1 _ := hr.mono (by decide)
  refine ⟨_, (pss_cons (ps_setLc (i := 4) (own := [("other", 5)]) (g := gName 5)  (by rfl) sc_law_heard.nd rfl rfl (sw_true rfl rfl rfl (by decide +kernel)) (pi_range1 (by rfl) T.range (pa_cons (pv 2) pa_nil)) (blkOk_by (N := ["pot", "seat", "many", "gone", "left", "other", "others"]) (sc := defScope s_law_heard) (by decide +kernel)) (fun _ _ _ _ _ => pg_name (i := 5) sc_law_heard.nd rfl (Or.inl rfl)) (fun _ _ _ _ _ => pts_one (pt_cmpR (u_notinK K) (pv 5) (pv 3) (by rfl))) (fun _ _ _ _ _ => (pv 5)))
    (pss_cons (ps_setLc (i := 6) (own := [("other", 5)]) (g := gName 5)  (by rfl) sc_law_heard.nd rfl rfl (sw_true rfl rfl rfl (by decide +kernel)) (pi_list (pv 4)) (blkOk_by (N := ["pot", "seat", "many", "gone", "left", "other", "others"]) (sc := defScope s_law_heard) (by decide +kernel)) (fun _ _ _ _ _ => pg_name (i := 5) sc_law_heard.nd rfl (Or.inl rfl)) (fun _ _ _ _ _ => pts_one (pt_cmpR op_ne (pv 5) (pe_fldK K (pv 1)) (nomark _))) (fun _ _ _ _ _ => (pv 5)))
    (pss_cons (ps_if (PW.pt (pw_and (pt_cmpR (u_ne (u64 hr)) (pv 6) (pe_lst pa_nil) (nomark _)) (pw_and1 (pt_cmpR op_eq (pe_cal C_take free (hr.mono (by decide)) (pa_cons (pv 0) (pa_cons pe_int pa_nil))) pe_int (nomark _)))))
    (pss_cons (ps_expr (pe_bm PySem.F.plainAttrs_list PySem.F.slot_list_append PySem.F.type_list_append mt_append (pv 3) (pa_cons (pe_ix ix_list (pv 6) (pe_cal C_take free (hr.mono (by decide)) (pa_cons (pv 0) (pa_cons (pe_callB call_len_seq (by rfl) T.len (by decide +kernel) (pa_cons (pv 6) pa_nil)) pa_nil))) (fun _ _ => rfl)) pa_nil)))
    (pss_one (ps_ret (pe_meth (pv 1) S.cl mG GG hr1 bG .nil pass0 (pa_cons (pe_ix ix_list (pv 3) (pe_un un_neg pe_int) (fun _ _ => rfl)) pa_nil)))))
    pss_nil)
    (pss_one (ps_ret (pe_meth (pv 1) S.cl mH GH hr1 bH .nil pass0 (pa_cons (pe_ix ix_list (pv 4) (pe_cal C_take free (hr.mono (by decide)) (pa_cons (pv 0) (pa_cons (pe_callB call_len_seq (by rfl) T.len (by decide +kernel) (pa_cons (pv 4) pa_nil)) pa_nil))) (fun _ _ => rfl)) (pa_cons (pe_cal C_letter free (hr.mono (by decide)) (pa_cons (pv 0) (pa_cons pe_int pa_nil))) pa_nil)))))))), ?_⟩
  refine ⟨_, rfl, _, rfl, by decide, by decide, fun D hD => ?_⟩
  -- left
  refine lc_range (lo := 0) (n := 60) (fun i G => ∃ ls : List Int, G D = some (.lst (ls.map V.int)) ∧ ls.length ≤ i ∧ (m < i → m ∈ ls) ∧ Same H G)
    ⟨[], upd_same, Nat.le_refl _, fun z => absurd z (by omega), same_upd hD⟩ ?_ ?_
  · rintro i G hi ⟨ls, hG, hl, hm, hS⟩
    refine ⟨rfl, _, rfl, _, rfl, .inl ⟨g, _, rfl, .inl (SqL.of (hS _ _ hg)), rfl, flat_ints gs, _, rfl, ?_⟩⟩
    show (if (!inV (.int (0 + (i : Int))) (gs.map V.int)) = true then _ else _)
    rw [inV_ints]
    refine ite2 (fun c => ?_) (fun c => ?_)
    · refine ⟨_, rfl, ls.map V.int, hG, small_of (by rw [List.length_map]; omega), ls ++ [0 + (i : Int)], by rw [upd_same, List.map_append]; rfl, ?_, fun z => ?_, fun b o e => ?_⟩
      · rw [List.length_append, List.length_singleton]; omega
      · by_cases e : m < i
        · exact List.mem_append.mpr (.inl (hm e))
        · exact List.mem_append.mpr (.inr (List.mem_singleton.mpr (by omega)))
      · rw [upd_ne (ne_of_none e hD)]; exact hS b o e
    · refine ⟨ls, hG, by omega, fun z => ?_, hS⟩
      by_cases e : m < i
      · exact hm e
      · have e' : 0 + (i : Int) = m := by omega
        rw [e'] at c
        simp [mgs] at c
  rintro G ⟨ls, hG, hl, hm, hS⟩
  have hml : m ∈ ls := hm m60
  have l1 : 0 < ls.length := List.length_pos_of_mem hml
  -- others
  refine ⟨_, rfl, D, rfl, ⟨_, SqL.of hG⟩, fun J hJ => ?_⟩
  refine lc_list (K := K) (a := D) (xs := ls.map V.int) (fun i G2 => ∃ os : List Int, G2 J = some (.lst (os.map V.int)) ∧ os.length ≤ i ∧ (∀ x ∈ os, x ≠ m) ∧ Same G G2)
    ⟨[], upd_same, Nat.le_refl _, fun _ h => (List.not_mem_nil h).elim, same_upd hJ⟩ (fun i G2 _ h => by obtain ⟨_, _, _, _, z⟩ := h; exact z.seq (SqL.of hG)) ?_ ?_
  · rintro i x G2 hi ⟨os, hG2, hol, ho, hS2⟩
    obtain ⟨v, rfl⟩ : ∃ v, x = V.int v := by
      rw [List.getElem?_map] at hi
      cases e : ls[i]? with
      | none => rw [e] at hi; cases hi
      | some u => rw [e] at hi; exact ⟨u, (Option.some.inj hi).symm⟩
    have il : i < ls.length := by
      have := (List.getElem?_eq_some_iff.mp hi).1
      rwa [List.length_map] at this
    refine ⟨rfl, _, rfl, _, rfl, a, C, dx, _, _, rfl, hS2 _ _ (hS _ _ ha), S.cl, S.nMe, seatF_me _ _ _, rfl, _, rfl, ?_⟩
    refine ite2 (fun c => ?_) (fun c => ?_)
    · have vm : v ≠ m := fun e => by rw [e] at c; simp at c
      refine ⟨_, rfl, os.map V.int, hG2, small_of (by rw [List.length_map]; omega), os ++ [v], by rw [upd_same, List.map_append]; rfl, ?_, fun x hx => ?_, fun b o e => ?_⟩
      · rw [List.length_append, List.length_singleton]; omega
      · rcases List.mem_append.mp hx with h | h
        · exact ho x h
        · rw [List.mem_singleton.mp h]; exact vm
      · rw [upd_ne (ne_of_none e hJ)]; exact hS2 b o e
    · exact ⟨os, hG2, by omega, ho, hS2⟩
  rintro G2 ⟨os, hG2, hol, ho, hS2⟩
  rw [List.length_map] at hol
  have sA : Same H G2 := hS.trans hS2
  have sD : G2 D = some (.lst (ls.map V.int)) := hS2 _ _ hG
  have P2 : PotAt n G2 p := hP.keep sA
  have gA : G2 g = some (.lst (gs.map V.int)) := sA _ _ hg
  have aA : G2 a = some (.ins C dx (seatF m st b)) := sA _ _ ha
  have ap : a ≠ p := by obtain ⟨xs, h, _⟩ := hP; exact ne_of ha h (by intro z; cases z)
  have ag : a ≠ g := ne_of ha hg (by intro z; cases z)
  have Dg : D ≠ g := (ne_of_none hg hD).symm
  have Dp' : D ≠ p := (hP.neD hD).symm
  have Jg : J ≠ g := (ne_of_none (hS _ _ hg) hJ).symm
  have Jp : J ≠ p := ((hP.keep hS).neD hJ).symm
  refine ⟨_, rfl, Nat.zero_le _, fun e he => ?_⟩
  have PE1 := P2.new (o := .lst []) he
  have sE : Same H (upd G2 e (.lst [])) := sA.trans (same_upd he)
  refine .inr ⟨.list (os.map PyData.int), .list [], dps_same' (dp_ints hG2) (same_upd he), .lst (SqL.of upd_same) .nil, shaped_ints os, by decide, _, rfl, ?_⟩
  cases hk : (!PyData.eqv (.list (os.map PyData.int)) (.list [])) with
  | false =>
    refine iteF ?_
    have cS : ChgS [p, g] (upd G2 e (.lst [])) (upd G2 e (.lst [])) := ChgS.refl
    obtain ⟨G3, hG3⟩ : ∃ G3, G3 = upd G2 e (.lst []) := ⟨_, rfl⟩
    rw [← hG3]
    have cS : ChgS [p, g] (upd G2 e (.lst [])) G3 := by rw [hG3]; exact ChgS.refl
    have PG : PotAt n G3 p := by rw [hG3]; exact PE1
    have gG : G3 g = some (.lst (gs.map V.int)) := by rw [hG3]; exact same_upd he _ _ gA
    obtain ⟨k, hk2⟩ : ∃ k, k = n := ⟨_, rfl⟩
    rw [← hk2] at PG
    have DG : G3 D = some (.lst (ls.map V.int)) := cS _ _ (by simp [Dg, Dp']) (same_upd he _ _ sD)
    refine ⟨_, rfl, a, dx, _, rfl, cS _ _ (by simp [ap, ag]) (same_upd he _ _ aA), seatF_no _ _ _ (by decide) (by decide) (by decide), ?_⟩
    refine ⟨_, rfl, _, rfl, _, rfl, D, _, rfl, .inl (SqL.of DG), p, _, k, rfl, by rw [List.length_map]; omega, by rw [List.length_map]; omega, PG, by omega, fun d4 G4 d40 d41 c4 P4 => ?_⟩
    rw [List.length_map] at d41
    obtain ⟨v, _, hv⟩ := at_ints (ns := ls) d40 d41
    refine ⟨D, _, _, _, rfl, rfl, SqL.of (c4 _ _ Dp' DG), hv, ?_⟩
    refine ⟨_, rfl, p, 2, k + 1, rfl, by decide, by decide, P4, by omega, fun v5 d5 G5 _ _ c5 P5 => ?_⟩
    refine ⟨_, _, _, rfl, fun l hl => ?_⟩
    have c45 : ChgS [p, g] (upd G2 e (.lst [])) G5 := (cS.trans (c4.s (by simp))).trans (c5.s (by simp))
    have hg5 : G5 g = some (.lst (gs.map V.int)) := c5 _ _ pg.symm (c4 _ _ pg.symm gG)
    have lg : l ≠ g := (ne_of_none hg5 hl).symm
    have lp : l ≠ p := (P5.neD hl).symm
    refine q l _ gs (((Same.s sE).trans c45).back hl (by simp [lg, lp])) upd_same (((Same.s sE).trans c45).new hl) ((P5.new hl).mono (by omega)) ?_ mgs (by omega)
    rw [upd_ne lg.symm]; exact hg5
  | true =>
    refine iteT ?_
    have o1 : 0 < os.length := by
      cases os with
      | nil => simp [PyData.eqv, PyData.eqvAll] at hk
      | cons _ _ => simp
    refine ⟨_, rfl, p, 3, n, rfl, by decide, by decide, PE1, by omega, fun d3 G3 d30 d31 c3 PG => ?_⟩
    refine ⟨rfl, _, rfl, ?_⟩
    have cS : ChgS [p, g] (upd G2 e (.lst [])) G3 := c3.s (by simp)
    have gG : G3 g = some (.lst (gs.map V.int)) := c3 _ _ pg.symm (same_upd he _ _ gA)
    refine ite2 (fun c => ?_) (fun c => ?_)
    · have JG : G3 J = some (.lst (os.map V.int)) := c3 _ _ Jp (same_upd he _ _ hG2)
      refine ⟨_, rfl, .inl ⟨rfl, _, SqL.of gG⟩, _, rfl, _, rfl, _, rfl, J, _, rfl, .inl (SqL.of JG), p, _, n + 1, rfl, by rw [List.length_map]; omega, by rw [List.length_map]; omega, PG, by omega, fun d4 G4 d40 d41 c4 P4 => ?_⟩
      rw [List.length_map] at d41
      obtain ⟨v, hvm, hv⟩ := at_ints (ns := os) d40 d41
      have gG4 : G4 g = some (.lst (gs.map V.int)) := c4 _ _ pg.symm gG
      refine ⟨J, _, _, _, rfl, rfl, SqL.of (c4 _ _ Jp JG), hv, g, _, _, rfl, rfl, gG4, small_of (by rw [List.length_map]; omega), ?_⟩
      have cc : ChgS [p, g] (upd G2 e (.lst [])) (upd G4 g (.lst (gs.map V.int ++ [.int v]))) := (cS.trans (c4.s (by simp))).put (by simp)
      refine ⟨_, rfl, a, dx, _, rfl, cc _ _ (by simp [ap, ag]) (same_upd he _ _ aA), seatF_no _ _ _ (by decide) (by decide) (by decide), ?_⟩
      refine ⟨_, rfl, _, rfl, g, _, _, _, rfl, rfl, SqL.of upd_same, atI_last _ _, _, _, rfl, fun l hl => ?_⟩
      have lg : l ≠ g := (ne_of_none upd_same hl).symm
      have P5 : PotAt (n + 2) (upd G4 g (.lst (gs.map V.int ++ [.int v]))) p := P4.ne pg rfl
      have lp : l ≠ p := (P5.neD hl).symm
      refine q l _ (gs ++ [v]) (((Same.s sE).trans cc).back hl (by simp [lg, lp])) upd_same (((Same.s sE).trans cc).new hl) ((P5.new hl).mono (by omega)) ?_ ?_ ?_
      · rw [upd_ne lg.symm, upd_same, List.map_append]; rfl
      · intro z
        rcases List.mem_append.mp z with z | z
        · exact mgs z
        · exact ho v hvm (List.mem_singleton.mp z).symm
      · rw [List.length_append, List.length_singleton]; omega
    · obtain ⟨k, hk2⟩ : ∃ k, k = n + 1 := ⟨_, rfl⟩
      rw [← hk2] at PG
      have DG : G3 D = some (.lst (ls.map V.int)) := cS _ _ (by simp [Dg, Dp']) (same_upd he _ _ sD)
      refine ⟨_, rfl, a, dx, _, rfl, cS _ _ (by simp [ap, ag]) (same_upd he _ _ aA), seatF_no _ _ _ (by decide) (by decide) (by decide), ?_⟩
      refine ⟨_, rfl, _, rfl, _, rfl, D, _, rfl, .inl (SqL.of DG), p, _, k, rfl, by rw [List.length_map]; omega, by rw [List.length_map]; omega, PG, by omega, fun d4 G4 d40 d41 c4 P4 => ?_⟩
      rw [List.length_map] at d41
      obtain ⟨v, _, hv⟩ := at_ints (ns := ls) d40 d41
      refine ⟨D, _, _, _, rfl, rfl, SqL.of (c4 _ _ Dp' DG), hv, ?_⟩
      refine ⟨_, rfl, p, 2, k + 1, rfl, by decide, by decide, P4, by omega, fun v5 d5 G5 _ _ c5 P5 => ?_⟩
      refine ⟨_, _, _, rfl, fun l hl => ?_⟩
      have c45 : ChgS [p, g] (upd G2 e (.lst [])) G5 := (cS.trans (c4.s (by simp))).trans (c5.s (by simp))
      have hg5 : G5 g = some (.lst (gs.map V.int)) := c5 _ _ pg.symm (c4 _ _ pg.symm gG)
      have lg : l ≠ g := (ne_of_none hg5 hl).symm
      have lp : l ≠ p := (P5.neD hl).symm
      refine q l _ gs (((Same.s sE).trans c45).back hl (by simp [lg, lp])) upd_same (((Same.s sE).trans c45).new hl) ((P5.new hl).mono (by omega)) ?_ mgs (by omega)
      rw [upd_ne lg.symm]; exact hg5
end

end G0
namespace G0
open PySem PySem.Spec PyProof.Rows L2
/-! ### new places -/
def Fresh (L : List Addr) (H : Hp) : Prop := L.Nodup ∧ ∀ x ∈ L, H x ≠ none
theorem Fresh.nil {H : Hp} : Fresh [] H := ⟨List.nodup_nil, fun _ h => (List.not_mem_nil h).elim⟩
theorem Fresh.new {L : List Addr} {H : Hp} {q : Addr} {o : HO} (f : Fresh L H) (n : H q = none) : Fresh (q :: L) (upd H q o) := by
  refine ⟨List.nodup_cons.mpr ⟨fun m => f.2 q m n, f.1⟩, fun x hx => ?_⟩
  rcases List.mem_cons.mp hx with e | e
  · rw [e, upd_same]; exact fun z => by cases z
  · by_cases q' : x = q
    · rw [q', upd_same]; exact fun z => by cases z
    · rw [upd_ne q']; exact f.2 x e
theorem Fresh.same {L : List Addr} {H H' : Hp} (f : Fresh L H) (s : Same H H') : Fresh L H' := by
  refine ⟨f.1, fun x hx => ?_⟩
  cases e : H x with
  | none => exact (f.2 x hx e).elim
  | some u => rw [s x u e]; exact fun z => by cases z
theorem Fresh.chg {L S : List Addr} {H H' : Hp} (f : Fresh L H) (s : ChgS S H H') (k : ∀ x ∈ S, H' x ≠ none) : Fresh L H' := by
  refine ⟨f.1, fun x hx => ?_⟩
  by_cases m : x ∈ S
  · exact k x m
  · cases e : H x with
    | none => exact (f.2 x hx e).elim
    | some u => rw [s x u m e]; exact fun z => by cases z
section
variable {P : Program} {w : World} {K : PySem.W.Frag} {mg : Str → Option Value} {base : Heap} {C : Addr}
/-! ### _law_done -/
def St2 (s : Str) : Prop := s = "out" ∨ s = "in"
def spDone (C : Addr) : Sp := fun vs H Q _ => ∃ (p a g dx : Addr) (m : Int) (st : Str) (b : Bool) (gs : List Int) (n : Nat), vs = [.ref p, .ref a, .ref g] ∧
  PotAt n H p ∧ n < 800000 ∧ H a = some (.ins C dx (seatF m st b)) ∧ 0 ≤ m ∧ m < 60 ∧ St2 st ∧ H g = some (.lst (gs.map V.int)) ∧ m ∉ gs ∧ gs.length ≤ 1000 ∧ p ≠ g ∧
  ∀ (r t : Addr) (H' : Hp) (gs' : List Int) (su : Str), H r = none → H t = none → H' r = some (.lst [.ref t, .str su]) → H' t = some (.lst []) → ChgS [p, g, a] H H' →
    PotAt (n + 350) H' p → H' g = some (.lst (gs'.map V.int)) → m ∉ gs' → gs'.length ≤ gs.length + 1 → H' a = some (.ins C dx (seatF m su b)) → St2 su → Q (.ref r) H'
theorem sc_law_done : FnScope ["pot", "seat", "gone", "state"] ["pot", "seat", "gone"] (defScope s_law_done) :=
  ⟨rfl, rfl, rfl, by decide +kernel, rfl, by decide +kernel, by decide +kernel⟩
theorem ok_done (F : Fn K mg "_law_done" s_law_done) (T : Bl mg) (S : SeatT K mg C) (C_take : Cal P w K mg base "_law_take" 1 ["pot", "many"] spT)
    (C_heard : Cal P w K mg base "_law_heard" 8 ["pot", "seat", "many", "gone"] (spHeard C))
    (MA : Me P w K mg base C "ask" 1 ["self"] (spTurn C "in")) (ML : Me P w K mg base C "leave" 1 ["self"] (spTurn C "out")) :
    Cal P w K mg base "_law_done" 9 ["pot", "seat", "gone"] (spDone C) := by
  obtain ⟨fA, fdA, GA, bA, mA⟩ := MA
  obtain ⟨fL, fdL, GL, bL, mL⟩ := ML
  refine cal_of F sc_law_done
    (fun _ _ _ _ _ _ us hl => match us, hl with | [_, _, _], _ => rfl) ?_ ?_
  · rintro vs H Q E ⟨p, a, g, dx, m, st, b, gs, n, rfl, _⟩
    rfl
  rintro f cdv A outer s H vs Q E free hr ⟨p, a, g, dx, m, st, b, gs, n, rfl, hP, hn, ha, m0, m60, hst, hg, mgs, gl, pg, q⟩
  have hr1 : Room 1 _ := hr.mono (by decide)
  have ap : a ≠ p := by obtain ⟨xs, h, _⟩ := hP; exact ne_of ha h (by intro z; cases z)
  have ag : a ≠ g := ne_of ha hg (by intro z; cases z)
  refine ⟨_, (pss_cons (ps_set (i := 3) sc_law_done.nd rfl (Or.inl rfl) (pe_fld (pv 1) (by rfl)))
    (pss_cons (ps_if (pt_cmpR op_eq (pe_cal C_take free (hr.mono (by decide)) (pa_cons (pv 0) (pa_cons pe_int pa_nil))) pe_int (nomark _))
    (pss_one (ps_ret (pe_lst (pa_cons (pe_cal C_heard free (hr.mono (by decide)) (pa_cons (pv 0) (pa_cons (pv 1) (pa_cons pe_int (pa_cons (pv 2) pa_nil))))) (pa_cons (pv 3) pa_nil)))))
    pss_nil)
    (pss_cons (ps_if (pt_cmpR op_eq (pv 3) pe_str (nomark _))
    (pss_one (ps_ret (pe_lst (pa_cons (pe_meth0 (pv 1) S.cl mA GA hr1 bA .nil pass0) (pa_cons pe_str pa_nil)))))
    pss_nil)
    (pss_one (ps_ret (pe_lst (pa_cons (pe_meth0 (pv 1) S.cl mL GL hr1 bL .nil pass0) (pa_cons pe_str pa_nil)))))))), ?_⟩
  refine ⟨_, rfl, a, C, dx, _, _, rfl, ha, S.cl, S.nState, seatF_state _ _ _, ?_⟩
  refine ⟨_, rfl, p, 2, n, rfl, by decide, by decide, hP, by omega, fun d H1 d0 d1 c1 P1 => ?_⟩
  have cS : ChgS [p, g, a] H H1 := c1.s (by simp)
  have ha1 : H1 a = some (.ins C dx (seatF m st b)) := c1 _ _ ap ha
  have hg1 : H1 g = some (.lst (gs.map V.int)) := c1 _ _ pg.symm hg
  refine ⟨rfl, _, rfl, ?_⟩
  refine ite2 (fun c => ?_) (fun c => ?_)
  · refine ⟨_, rfl, _, rfl, _, rfl, p, a, g, dx, m, st, b, gs, n + 1, rfl, P1, by omega, ha1, m0, m60, hg1, mgs, gl, pg, fun l H2 gs' hl ht c2 P2 hg2 mg2 gl2 => ?_⟩
    refine ⟨_, rfl, by show 2 ≤ sizeLine; decide, fun r hr' => ?_⟩
    have c2' : ChgS [p, g, a] H H2 := cS.trans (c2.mono (by simp))
    have ha2 : H2 a = some (.ins C dx (seatF m st b)) := c2 _ _ (by simp [ap, ag]) ha1
    have rp : r ≠ p := (P2.neD hr').symm
    have rg : r ≠ g := (ne_of_none hg2 hr').symm
    have ra : r ≠ a := (ne_of_none ha2 hr').symm
    have rl : r ≠ l := (ne_of_none ht hr').symm
    have lp : l ≠ p := by intro z; rw [z] at hl; obtain ⟨xs, h, _⟩ := P1; rw [h] at hl; cases hl
    have lg : l ≠ g := by intro z; rw [z] at hl; rw [hg1] at hl; cases hl
    have la : l ≠ a := by intro z; rw [z] at hl; rw [ha1] at hl; cases hl
    refine q r l _ gs' st (c2'.back hr' (by simp [rp, rg, ra])) (cS.back hl (by simp [lp, lg, la])) upd_same (by rw [upd_ne rl.symm]; exact ht) (c2'.new hr')
      ((P2.new hr').mono (by omega)) (by rw [upd_ne rg.symm]; exact hg2) mg2 gl2 (by rw [upd_ne ra.symm]; exact ha2) hst
  · refine ⟨_, rfl, rfl, _, rfl, ?_⟩
    refine ite2 (fun c2 => ?_) (fun c2 => ?_)
    · skip
      refine ⟨_, rfl, a, dx, _, rfl, ha1, seatF_no _ _ _ (by decide) (by decide) (by decide), a, dx, m, st, b, rfl, ha1, fun l hl => ?_⟩
      refine ⟨by show 2 ≤ sizeLine; decide, fun r hr' => ?_⟩
      have la : l ≠ a := (ne_of_none ha1 hl).symm
      have hl1 : H1 l = none := hl
      have lp : l ≠ p := (P1.neD hl1).symm
      have lg : l ≠ g := (ne_of_none hg1 hl1).symm
      have rl : r ≠ l := by intro z; rw [z, upd_same] at hr'; cases hr'
      have hr2 : upd H1 a (.ins C dx (seatF m "in" b)) r = none := by rw [upd_ne rl] at hr'; exact hr'
      have ra : r ≠ a := by intro z; rw [z, upd_same] at hr2; cases hr2
      have hr1' : H1 r = none := by rw [upd_ne ra] at hr2; exact hr2
      have rp : r ≠ p := (P1.neD hr1').symm
      have rg : r ≠ g := (ne_of_none hg1 hr1').symm
      refine q r l _ gs "in" (cS.back hr1' (by simp [rp, rg, ra])) (cS.back hl1 (by simp [lp, lg, la])) upd_same (by rw [upd_ne rl.symm, upd_same]) (((cS.put (by simp)).new (by rw [upd_ne la]; exact hl)).new hr')
        ((((P1.ne ap.symm rfl).new (by rw [upd_ne la]; exact hl)).new hr').mono (by omega)) (by rw [upd_ne rg.symm, upd_ne lg.symm, upd_ne ag.symm]; exact hg1) mgs (by omega)
        (by rw [upd_ne ra.symm, upd_ne la.symm, upd_same]) (.inr rfl)
    · skip
      refine ⟨_, rfl, a, dx, _, rfl, ha1, seatF_no _ _ _ (by decide) (by decide) (by decide), a, dx, m, st, b, rfl, ha1, fun l hl => ?_⟩
      refine ⟨by show 2 ≤ sizeLine; decide, fun r hr' => ?_⟩
      have la : l ≠ a := (ne_of_none ha1 hl).symm
      have hl1 : H1 l = none := hl
      have lp : l ≠ p := (P1.neD hl1).symm
      have lg : l ≠ g := (ne_of_none hg1 hl1).symm
      have rl : r ≠ l := by intro z; rw [z, upd_same] at hr'; cases hr'
      have hr2 : upd H1 a (.ins C dx (seatF m "out" b)) r = none := by rw [upd_ne rl] at hr'; exact hr'
      have ra : r ≠ a := by intro z; rw [z, upd_same] at hr2; cases hr2
      have hr1' : H1 r = none := by rw [upd_ne ra] at hr2; exact hr2
      have rp : r ≠ p := (P1.neD hr1').symm
      have rg : r ≠ g := (ne_of_none hg1 hr1').symm
      refine q r l _ gs "out" (cS.back hr1' (by simp [rp, rg, ra])) (cS.back hl1 (by simp [lp, lg, la])) upd_same (by rw [upd_ne rl.symm, upd_same]) (((cS.put (by simp)).new (by rw [upd_ne la]; exact hl)).new hr')
        ((((P1.ne ap.symm rfl).new (by rw [upd_ne la]; exact hl)).new hr').mono (by omega)) (by rw [upd_ne rg.symm, upd_ne lg.symm, upd_ne ag.symm]; exact hg1) mgs (by omega)
        (by rw [upd_ne ra.symm, upd_ne la.symm, upd_same]) (.inl rfl)
end

end G0
namespace G0
open PySem PySem.Spec PyProof.Rows L2
theorem nd_at {L : List Addr} (h : L.Nodup) (i j : Nat) {a b : Addr} (hi : L[i]? = some a := by rfl) (hj : L[j]? = some b := by rfl) (n : i ≠ j := by decide) : a ≠ b := by
  intro e
  obtain ⟨hi1, hi2⟩ := List.getElem?_eq_some_iff.mp hi
  obtain ⟨hj1, hj2⟩ := List.getElem?_eq_some_iff.mp hj
  have all := List.pairwise_iff_getElem.mp h
  rcases Nat.lt_or_gt_of_ne n with l | l
  · exact all i j hi1 hj1 l (by rw [hi2, hj2, e])
  · exact all j i hj1 hi1 l (by rw [hi2, hj2, e])
/-! ### what is shown -/
def row5 (n : Int) (st : Str) : PyData := .list [.int n, .str st, .bool false]
def dd (n0 n1 : Int) (s0 s1 : Str) : PyData := .list [row5 n0 s0, row5 n1 s1]
theorem dd_deep {n0 n1 : Int} {s0 s1 : Str} : (dd n0 n1 s0 s1).depth ≤ 64 := by simp [dd, row5, PyData.depth, PyData.depthAll]
theorem ne_self (z : Str) : V.bl (!decide (V.str z = V.str z)) = V.bl false := by simp
theorem log60 {n : Int} (h0 : 0 ≤ n) (h1 : n < 60) : n.natAbs.log2 < 1920 := by
  by_cases z : n.natAbs = 0
  · rw [z]; decide
  · exact (Nat.log2_lt z).mpr (Nat.lt_of_lt_of_le (show n.natAbs < 2 ^ 6 by omega) (Nat.pow_le_pow_right (by decide) (by decide)))
theorem dd_show {n0 n1 : Int} {s0 s1 : Str} (a0 : 0 ≤ n0) (a1 : n0 < 60) (b0 : 0 ≤ n1) (b1 : n1 < 60) : (dd n0 n1 s0 s1).showable = true := by
  simp [dd, row5, PyData.showable, PyData.showableAll, log60 a0 a1, log60 b0 b1]
theorem st2_ok {s : Str} (h : St2 s) : PyData.strOk s = true ∧ s.length ≤ 3 := by
  rcases h with rfl | rfl <;> exact ⟨by decide +kernel, by decide +kernel⟩
theorem dd_len {n0 n1 : Int} {s0 s1 : Str} (a0 : 0 ≤ n0) (a1 : n0 < 60) (b0 : 0 ≤ n1) (b1 : n1 < 60) (h0 : St2 s0) (h1 : St2 s1) : (dd n0 n1 s0 s1).shown.length ≤ sizeLine := by
  have l0 := st2_ok h0
  have l1 := st2_ok h1
  refine Nat.le_trans (shown_le _ (dd_show a0 a1 b0 b1) ?_) ?_
  · simp [dd, row5, PyData.canLay0, PyData.canLayAll0, l0.1, l1.1]
  · have e : sizeLine = 16777216 := by decide
    simp only [dd, row5, cost, costs]
    omega
section
variable {P : Program} {w : World} {K : PySem.W.Frag} {mg : Str → Option Value} {base : Heap} {C : Addr}
def spLaw (K : PySem.W.Frag) : Sp := fun vs H Q _ => ∃ (a : Addr) (ns : List Int), vs = [.ref a] ∧ SqL K H a (ns.map V.int) ∧ ns.length ≤ 63 ∧ ∀ H', Q (.bl true) H'
/-- what stands between two turns -/
structure Wd (C p S U W x0 x1 dx0 dx1 d0 d1 g0 g1 : Addr) (n0 n1 : Int) (H G : Hp) (j : Nat) (st0 st1 : Str) (gs0 gs1 : List Int) : Prop where
  pot : PotAt (3 + j * 360) G p
  seats : G S = some (.lst [.ref x0, .ref x1])
  s0 : G x0 = some (.ins C dx0 (seatF n0 st0 false))
  s1 : G x1 = some (.ins C dx1 (seatF n1 st1 false))
  h0 : St2 st0
  h1 : St2 st1
  due : G U = some (.lst [.ref d0, .ref d1])
  r0 : G d0 = some (.lst [.int n0, .str st0, .bl false])
  r1 : G d1 = some (.lst [.int n1, .str st1, .bl false])
  gone : G W = some (.lst [.ref g0, .ref g1])
  l0 : G g0 = some (.lst (gs0.map V.int))
  l1 : G g1 = some (.lst (gs1.map V.int))
  m0 : n0 ∉ gs0
  m1 : n1 ∉ gs1
  k0 : gs0.length ≤ j
  k1 : gs1.length ≤ j
  same : Same H G
theorem sc_law : FnScope ["script", "k", "pot", "numbers", "seats", "due", "gone", "turn", "which", "told", "state"] ["script"] (defScope s_law) :=
  ⟨rfl, rfl, rfl, by decide +kernel, rfl, by decide +kernel, by decide +kernel⟩
theorem ok_law (F : Fn K mg "law" s_law) (T : Bl mg) (S : SeatT K mg C) (C_take : Cal P w K mg base "_law_take" 1 ["pot", "many"] spT)
    (C_pot : Cal P w K mg base "_law_pot" 1 ["script", "k"] (spPot K)) (C_done : Cal P w K mg base "_law_done" 9 ["pot", "seat", "gone"] (spDone C))
    (C_seen : Cal P w K mg base "_law_seen" 1 ["seat"] (spSeen C))
    (MK : ∃ f fd, FnOk P w K mg base CX0 1 f fd ["self", "me"] (spInit C) ∧ Binds K fd ["self", "me"] [] ∧ Mk K C f) :
    Cal P w K mg base "law" 10 ["script"] (spLaw K) := by
  obtain ⟨fI, fdI, GI, bI, MI⟩ := MK
  refine cal_of F sc_law
    (fun _ _ _ _ _ _ us hl => match us, hl with | [_], _ => rfl) ?_ ?_
  · rintro vs H Q E ⟨a, ns, rfl, _⟩
    rfl
  rintro f cdv A outer s H vs Q E free hr ⟨a, ns, rfl, hS, hlen, q⟩
  have hr2 : Room 2 _ := hr.mono (by decide)
  refine ⟨_, (pss_cons (ps_for PassesOwn.never rfl (pi_range1 (by rfl) T.range (pa_cons (pe_callB (call_max2 rfl) (by rfl) T.max (by decide +kernel) (pa_cons pe_int (pa_cons (pe_callB (call_min2 rfl) (by rfl) T.min (by decide +kernel) (pa_cons (pe_callB call_len_seq (by rfl) T.len (by decide +kernel) (pa_cons (pv 0) pa_nil)) (pa_cons pe_int pa_nil))) pa_nil))) pa_nil)) (pg_name (i := 1) sc_law.nd rfl (Or.inl rfl))
    (pss_cons (ps_set (i := 2) sc_law.nd rfl (Or.inl rfl) (pe_cal C_pot free (hr.mono (by decide)) (pa_cons (pv 0) (pa_cons (pv 1) pa_nil))))
    (pss_cons (ps_set (i := 3) sc_law.nd rfl (Or.inl rfl) (pe_lst (pa_cons (pe_cal C_take free (hr.mono (by decide)) (pa_cons (pv 2) (pa_cons pe_int pa_nil))) (pa_cons (pe_cal C_take free (hr.mono (by decide)) (pa_cons (pv 2) (pa_cons pe_int pa_nil))) pa_nil))))
    (pss_cons (ps_set (i := 4) sc_law.nd rfl (Or.inl rfl) (pe_lst (pa_cons (pe_make MI GI hr2 (by rfl) S.mgC bI .nil pass0 (pa_cons (pe_ix ix_list (pv 3) pe_int (fun _ _ => rfl)) pa_nil)) (pa_cons (pe_make MI GI hr2 (by rfl) S.mgC bI .nil pass0 (pa_cons (pe_ix ix_list (pv 3) pe_int (fun _ _ => rfl)) pa_nil)) pa_nil))))
    (pss_cons (ps_set (i := 5) sc_law.nd rfl (Or.inl rfl) (pe_lst (pa_cons (pe_lst (pa_cons (pe_ix ix_list (pv 3) pe_int (fun _ _ => rfl)) (pa_cons pe_str (pa_cons pe_bl pa_nil)))) (pa_cons (pe_lst (pa_cons (pe_ix ix_list (pv 3) pe_int (fun _ _ => rfl)) (pa_cons pe_str (pa_cons pe_bl pa_nil)))) pa_nil))))
    (pss_cons (ps_set (i := 6) sc_law.nd rfl (Or.inl rfl) (pe_lst (pa_cons (pe_lst pa_nil) (pa_cons (pe_lst pa_nil) pa_nil))))
    (pss_one (ps_for PassesOwn.never rfl (pi_range1 (by rfl) T.range (pa_cons (pe_op op_add pe_int (pe_cal C_take free (hr.mono (by decide)) (pa_cons (pv 2) (pa_cons pe_int pa_nil)))) pa_nil)) (pg_name (i := 7) sc_law.nd rfl (Or.inl rfl))
    (pss_cons (ps_set (i := 8) sc_law.nd rfl (Or.inl rfl) (pe_cal C_take free (hr.mono (by decide)) (pa_cons (pv 2) (pa_cons pe_int pa_nil))))
    (pss_cons (ps_asg (pe_cal C_done free (hr.mono (by decide)) (pa_cons (pv 2) (pa_cons (pe_ix ix_list (pv 4) (pv 8) (fun _ _ => rfl)) (pa_cons (pe_ix ix_list (pv 6) (pv 8) (fun _ _ => rfl)) pa_nil)))) (pg_unl (by rfl) (pgs_cons (pg_name (i := 9) sc_law.nd rfl (Or.inl rfl)) (pgs_cons (pg_name (i := 10) sc_law.nd rfl (Or.inl rfl)) pgs_nil))))
    (pss_cons (ps_asg (pv 10) (pg_sub (pe_ix ix_list (pv 5) (pv 8) (fun _ _ => rfl)) pe_int set_list))
    (pss_cons (ps_if (PW.pt (pw_or (pt_cmpR op_ne (pe_callB (call_rep free (u66 hr)) (by rfl) T.repr (by decide +kernel) (pa_cons (pv 9) pa_nil)) pe_str (nomark _)) (pw_or1 (pt_cmpR op_ne (pe_callB (call_rep free (u66 hr)) (by rfl) T.repr (by decide +kernel) (pa_cons (pe_lst (pa_cons (pe_cal C_seen free (hr.mono (by decide)) (pa_cons (pe_ix ix_list (pv 4) pe_int (fun _ _ => rfl)) pa_nil)) (pa_cons (pe_cal C_seen free (hr.mono (by decide)) (pa_cons (pe_ix ix_list (pv 4) pe_int (fun _ _ => rfl)) pa_nil)) pa_nil))) pa_nil)) (pe_callB (call_rep free (u66 hr)) (by rfl) T.repr (by decide +kernel) (pa_cons (pv 5) pa_nil)) (nomark _)))))
    (pss_one (ps_ret pe_bl))
    pss_nil)
    (pss_one (ps_expr (pe_bm PySem.F.plainAttrs_list PySem.F.slot_list_append PySem.F.type_list_append mt_append (pv 9) (pa_cons (pe_tup (pa_cons pe_int (pa_cons (pe_tup (pa_cons pe_str pa_nil)) pa_nil))) pa_nil))))))))))))))))
    (pss_one (ps_ret pe_bl))), ?_⟩
  refine ⟨_, rfl, a, _, rfl, .inl hS, _, _, rfl, _, _, rfl, ?_⟩
  have hl : (ns.map V.int).length = ns.length := List.length_map _
  have many : ∃ J : Int, (if (if (63 : Int) < (((ns.map V.int).length : Nat) : Int) then 63 else (((ns.map V.int).length : Nat) : Int)) > 3 then (if (63 : Int) < (((ns.map V.int).length : Nat) : Int) then 63 else (((ns.map V.int).length : Nat) : Int)) else 3) = J ∧ 0 ≤ J ∧ J ≤ 63 := by
    refine ⟨_, rfl, ?_, ?_⟩
    · split <;> omega
    · split
      · split <;> omega
      · omega
  obtain ⟨J, eJ, J0, J63⟩ := many
  refine ⟨J, congrArg (fun z => [V.int z]) eJ, by omega, by omega, ?_⟩
  refine for_range (lo := 0) (n := J.toNat) (fun _ σ G => (∃ v1 v2 v3 v4 v5 v6 v7 v8 v9 v10, σ = [some (V.ref a), v1, v2, v3, v4, v5, v6, v7, v8, v9, v10]) ∧ Same H G)
    ⟨⟨_, _, _, _, _, _, _, _, _, _, rfl⟩, Same.refl H⟩ ?_ (fun σ G _ => q G)
  rintro i σ G hi ⟨⟨v1, v2, v3, v4, v5, v6, v7, v8, v9, v10, rfl⟩, sG⟩
  refine ⟨_, rfl, _, rfl, a, _, ns, rfl, sG.seq hS, by omega, by omega, fun p G1 hp s1 P1 => ?_⟩
  refine ⟨_, rfl, p, 60, 0, rfl, by decide, by decide, P1, by omega, fun n0 G2 a0 a1 c2 P2 => ?_⟩
  refine ⟨_, rfl, p, 60, 1, rfl, by decide, by decide, P2, by omega, fun n1 G3 b0 b1 c3 P3 => ?_⟩
  have sG3 : Same G G3 := fun b o e => c3 _ _ (ne_of_none e hp) (c2 _ _ (ne_of_none e hp) (s1 _ _ e))
  have fG3 : Fresh [p] G3 := by
    refine ⟨List.nodup_cons.mpr ⟨List.not_mem_nil, List.nodup_nil⟩, fun x hx => ?_⟩
    rw [List.mem_singleton.mp hx]
    obtain ⟨xs, h, _⟩ := P3
    rw [h]; exact fun z => by cases z
  refine ⟨by show 2 ≤ sizeLine; decide, fun N hN => ?_⟩
  obtain ⟨G4, eG4⟩ : ∃ G4, G4 = upd G3 N (.lst [.int n0, .int n1]) := ⟨_, rfl⟩
  rw [← eG4]
  have sG4 : Same G3 G4 := by rw [eG4]; exact same_upd hN
  have fG4 := Fresh.new (o := (.lst [.int n0, .int n1])) fG3 hN
  rw [← eG4] at fG4
  have vN : G4 N = some (.lst [.int n0, .int n1]) := by rw [eG4]; exact upd_same
  -- the seats
  refine ⟨_, rfl, N, _, _, _, rfl, rfl, SqL.of vN, rfl, fun x0 dx0 nx0 ndx0 ne0 => ⟨x0, dx0, n0, rfl, upd_same, rfl, ?_⟩⟩
  rw [upd_upd]
  have smG5 : Same G4 (upd G4 dx0 (.own x0)) := same_upd ndx0
  have nmG5 : upd G4 dx0 (.own x0) x0 = none := by rw [upd_ne ne0.symm]; exact nx0
  obtain ⟨G5, eG5⟩ : ∃ G5, G5 = upd (upd G4 dx0 (.own x0)) x0 (.ins C dx0 (seatF n0 "out" false)) := ⟨_, rfl⟩
  rw [← eG5]
  have sG5 : Same G4 G5 := by rw [eG5]; exact smG5.trans (same_upd nmG5)
  have fG5 := Fresh.new (o := .ins C dx0 (seatF n0 "out" false)) (fG4.same smG5) nmG5
  rw [← eG5] at fG5
  have vG5 : G5 x0 = some (.ins C dx0 (seatF n0 "out" false)) := by rw [eG5]; exact upd_same
  refine ⟨_, rfl, N, _, _, _, rfl, rfl, SqL.of (sG5 _ _ vN), rfl, fun x1 dx1 nx1 ndx1 ne1 => ⟨x1, dx1, n1, rfl, upd_same, rfl, ?_⟩⟩
  rw [upd_upd]
  have smG6 : Same G5 (upd G5 dx1 (.own x1)) := same_upd ndx1
  have nmG6 : upd G5 dx1 (.own x1) x1 = none := by rw [upd_ne ne1.symm]; exact nx1
  obtain ⟨G6, eG6⟩ : ∃ G6, G6 = upd (upd G5 dx1 (.own x1)) x1 (.ins C dx1 (seatF n1 "out" false)) := ⟨_, rfl⟩
  rw [← eG6]
  have sG6 : Same G5 G6 := by rw [eG6]; exact smG6.trans (same_upd nmG6)
  have fG6 := Fresh.new (o := .ins C dx1 (seatF n1 "out" false)) (fG5.same smG6) nmG6
  rw [← eG6] at fG6
  have vG6 : G6 x1 = some (.ins C dx1 (seatF n1 "out" false)) := by rw [eG6]; exact upd_same
  refine ⟨by show 2 ≤ sizeLine; decide, fun SS hSS => ?_⟩
  obtain ⟨G7, eG7⟩ : ∃ G7, G7 = upd G6 SS (.lst [.ref x0, .ref x1]) := ⟨_, rfl⟩
  rw [← eG7]
  have sG7 : Same G6 G7 := by rw [eG7]; exact same_upd hSS
  have fG7 := Fresh.new (o := (.lst [.ref x0, .ref x1])) fG6 hSS
  rw [← eG7] at fG7
  have vSS : G7 SS = some (.lst [.ref x0, .ref x1]) := by rw [eG7]; exact upd_same
  have N7 : G7 N = some (.lst [.int n0, .int n1]) := sG7 _ _ (sG6 _ _ (sG5 _ _ vN))
  -- due
  refine ⟨_, rfl, N, _, _, _, rfl, rfl, SqL.of N7, rfl, by show 3 ≤ sizeLine; decide, fun d0 hd0 => ?_⟩
  obtain ⟨G8, eG8⟩ : ∃ G8, G8 = upd G7 d0 (.lst [.int n0, .str "out", .bl false]) := ⟨_, rfl⟩
  rw [← eG8]
  have sG8 : Same G7 G8 := by rw [eG8]; exact same_upd hd0
  have fG8 := Fresh.new (o := (.lst [.int n0, .str "out", .bl false])) fG7 hd0
  rw [← eG8] at fG8
  have vd0 : G8 d0 = some (.lst [.int n0, .str "out", .bl false]) := by rw [eG8]; exact upd_same
  refine ⟨_, rfl, N, _, _, _, rfl, rfl, SqL.of (sG8 _ _ N7), rfl, by show 3 ≤ sizeLine; decide, fun d1 hd1 => ?_⟩
  obtain ⟨G9, eG9⟩ : ∃ G9, G9 = upd G8 d1 (.lst [.int n1, .str "out", .bl false]) := ⟨_, rfl⟩
  rw [← eG9]
  have sG9 : Same G8 G9 := by rw [eG9]; exact same_upd hd1
  have fG9 := Fresh.new (o := (.lst [.int n1, .str "out", .bl false])) fG8 hd1
  rw [← eG9] at fG9
  have vd1 : G9 d1 = some (.lst [.int n1, .str "out", .bl false]) := by rw [eG9]; exact upd_same
  refine ⟨by show 2 ≤ sizeLine; decide, fun U hU => ?_⟩
  obtain ⟨G10, eG10⟩ : ∃ G10, G10 = upd G9 U (.lst [.ref d0, .ref d1]) := ⟨_, rfl⟩
  rw [← eG10]
  have sG10 : Same G9 G10 := by rw [eG10]; exact same_upd hU
  have fG10 := Fresh.new (o := (.lst [.ref d0, .ref d1])) fG9 hU
  rw [← eG10] at fG10
  have vU : G10 U = some (.lst [.ref d0, .ref d1]) := by rw [eG10]; exact upd_same
  -- gone
  refine ⟨Nat.zero_le _, fun g0 hg0 => ?_⟩
  obtain ⟨G11, eG11⟩ : ∃ G11, G11 = upd G10 g0 (.lst []) := ⟨_, rfl⟩
  rw [← eG11]
  have sG11 : Same G10 G11 := by rw [eG11]; exact same_upd hg0
  have fG11 := Fresh.new (o := (.lst [])) fG10 hg0
  rw [← eG11] at fG11
  have vg0 : G11 g0 = some (.lst []) := by rw [eG11]; exact upd_same
  refine ⟨Nat.zero_le _, fun g1 hg1 => ?_⟩
  obtain ⟨G12, eG12⟩ : ∃ G12, G12 = upd G11 g1 (.lst []) := ⟨_, rfl⟩
  rw [← eG12]
  have sG12 : Same G11 G12 := by rw [eG12]; exact same_upd hg1
  have fG12 := Fresh.new (o := (.lst [])) fG11 hg1
  rw [← eG12] at fG12
  have vg1 : G12 g1 = some (.lst []) := by rw [eG12]; exact upd_same
  refine ⟨by show 2 ≤ sizeLine; decide, fun W hW => ?_⟩
  obtain ⟨G13, eG13⟩ : ∃ G13, G13 = upd G12 W (.lst [.ref g0, .ref g1]) := ⟨_, rfl⟩
  rw [← eG13]
  have sG13 : Same G12 G13 := by rw [eG13]; exact same_upd hW
  have fG13 := Fresh.new (o := (.lst [.ref g0, .ref g1])) fG12 hW
  rw [← eG13] at fG13
  have vW : G13 W = some (.lst [.ref g0, .ref g1]) := by rw [eG13]; exact upd_same
  -- the turns
  have s412 : Same G11 G13 := sG12.trans sG13
  have s1013 : Same G10 G13 := sG11.trans s412
  have s913 : Same G9 G13 := sG10.trans s1013
  have s813 : Same G8 G13 := sG9.trans s913
  have s713 : Same G7 G13 := sG8.trans s813
  have s613 : Same G6 G13 := sG7.trans s713
  have s513 : Same G5 G13 := sG6.trans s613
  have s313 : Same G3 G13 := (sG4.trans sG5).trans s513
  have P13 : PotAt 2 G13 p := P3.keep s313
  refine ⟨_, rfl, p, 9, 2, rfl, by decide, by decide, P13, by omega, fun t G14 t0 t1 c14 P14 => ?_⟩
  have ND := fG13.1
  have keep14 : ∀ b o, b ≠ p → G13 b = some o → G14 b = some o := fun b o n e => c14 b o n e
  have nH : ∀ b o, H b = some o → b ≠ p ∧ b ≠ x0 ∧ b ≠ x1 ∧ b ≠ g0 ∧ b ≠ g1 ∧ b ≠ d0 ∧ b ≠ d1 := fun b o e => by
    have h3 : G3 b = some o := sG3 _ _ (sG _ _ e)
    have h4 := sG4 _ _ h3
    have h5 := sG5 _ _ h4
    have h7 := sG7 _ _ (sG6 _ _ h5)
    have h8 := sG8 _ _ h7
    have h10 := sG10 _ _ (sG9 _ _ h8)
    have h11 := sG11 _ _ h10
    exact ⟨ne_of_none (sG _ _ e) hp, ne_of_none h4 nx0, ne_of_none h5 nx1, ne_of_none h10 hg0, ne_of_none h11 hg1, ne_of_none h7 hd0, ne_of_none h8 hd1⟩
  refine ⟨_, _, rfl, rfl, _, rfl, by omega, by omega, ?_⟩
  refine for_range (lo := 0) (n := (1 + t).toNat) (fun j σ G' => (∃ u7 u8 u9 u10 : Option V, σ = [some (V.ref a), some (.int (0 + (i : Int))), some (.ref p), some (.ref N), some (.ref SS), some (.ref U), some (.ref W), u7, u8, u9, u10]) ∧
    ∃ st0 st1 gs0 gs1, Wd C p SS U W x0 x1 dx0 dx1 d0 d1 g0 g1 n0 n1 H G' j st0 st1 gs0 gs1)
    ⟨⟨_, _, _, _, rfl⟩, "out", "out", [], [], ?_⟩ ?_ ?_
  · refine ⟨P14.mono (by omega), keep14 _ _ (nd_at ND 6 10) (s713 _ _ vSS), keep14 _ _ (nd_at ND 8 10) (s513 _ _ vG5), keep14 _ _ (nd_at ND 7 10) (s613 _ _ vG6), .inl rfl, .inl rfl,
      keep14 _ _ (nd_at ND 3 10) (s1013 _ _ vU), keep14 _ _ (nd_at ND 5 10) (s813 _ _ vd0), keep14 _ _ (nd_at ND 4 10) (s913 _ _ vd1), keep14 _ _ (nd_at ND 0 10) vW, keep14 _ _ (nd_at ND 2 10) (s412 _ _ vg0),
      keep14 _ _ (nd_at ND 1 10) (sG13 _ _ vg1), List.not_mem_nil, List.not_mem_nil, Nat.le_refl _, Nat.le_refl _, fun b o e => ?_⟩
    exact keep14 _ _ (ne_of_none (sG _ _ e) hp) (s313 _ _ (sG3 _ _ (sG _ _ e)))
  · rintro j σ' G' hj ⟨⟨u7, u8, u9, u10, rfl⟩, st0, st1, gs0, gs1, D⟩
    refine ⟨_, rfl, p, 2, _, rfl, by decide, by decide, D.pot, by omega, fun d K1 k0 k1 c1 Q1 => ?_⟩
    have kk : ∀ b o, b ≠ p → G' b = some o → K1 b = some o := fun b o n e => c1 b o n e
    have two : d = 0 ∨ d = 1 := by omega
    rcases two with rfl | rfl
    · skip
      refine ⟨_, rfl, _, rfl, _, rfl, SS, _, _, _, rfl, rfl, SqL.of (kk _ _ (nd_at ND 6 10) D.seats), rfl, _, rfl, _, rfl, W, _, _, _, rfl, rfl, SqL.of (kk _ _ (nd_at ND 0 10) D.gone), rfl, ?_⟩
      have small : 3 + j * 360 + 1 < 800000 := by
        have : j ≤ 9 := by omega
        omega
      have gl : gs0.length ≤ 1000 := by have := D.k0; omega
      refine ⟨p, x0, g0, dx0, n0, st0, false, gs0, _, rfl, Q1, small, kk _ _ (nd_at ND 8 10) D.s0, a0, a1, D.h0, kk _ _ (nd_at ND 2 10) D.l0, D.m0, gl, (nd_at ND 10 2), fun r v K2 gs' su hr' hv' er ev c2 Q2 eg mg' lg' es hsu => ?_⟩
      have k2 : ∀ b o, b ≠ p → b ≠ g0 → b ≠ x0 → G' b = some o → K2 b = some o := fun b o n1 n2 n3 e => c2 b o (by
        simp only [List.mem_cons, List.not_mem_nil, or_false, not_or]; exact ⟨n1, n2, n3⟩) (kk _ _ n1 e)
      refine ⟨r, _, rfl, SqL.of er, rfl, _, _, rfl, _, _, rfl, rfl, ?_⟩
      -- due[which][1] = state
      refine ⟨_, rfl, _, rfl, _, rfl, U, _, _, _, rfl, rfl, SqL.of (k2 _ _ (nd_at ND 3 10) (nd_at ND 3 2) (nd_at ND 3 8) D.due), rfl, d0, _, _, _, rfl, rfl, k2 _ _ (nd_at ND 5 10) (nd_at ND 5 2) (nd_at ND 5 8) D.r0, rfl, ?_⟩
      obtain ⟨K3, eK3⟩ : ∃ K3, K3 = upd K2 d0 (.lst (List.set [V.int n0, .str st0, .bl false] 1 (.str su))) := ⟨_, rfl⟩
      first
        | rw [← eK3]
        | rw [← (show K3 = upd K2 d0 (.lst (List.set [V.int n0, .str st0, .bl false] (Int.toNat 1) (.str su))) from eK3)]
      have vd3 : K3 d0 = some (.lst [.int n0, .str su, .bl false]) := by rw [eK3]; exact upd_same
      have v3 : ∀ b, b ≠ d0 → K3 b = K2 b := fun b n => by rw [eK3]; exact upd_ne n
      have k3 : ∀ b o, b ≠ p → b ≠ g0 → b ≠ x0 → b ≠ d0 → G' b = some o → K3 b = some o := fun b o n1 n2 n3 n4 e => by rw [v3 b n4]; exact k2 b o n1 n2 n3 e
      -- what came to be told is new
      have fresh : ∀ b, G' b ≠ none → b ≠ r ∧ b ≠ v := fun b nb => by
        have hb : K1 b ≠ none := by
          by_cases e : b = p
          · rw [e]; obtain ⟨xs, h, _⟩ := Q1; rw [h]; exact fun z => by cases z
          · cases e2 : G' b with
            | none => exact (nb e2).elim
            | some o => rw [kk b o e e2]; exact fun z => by cases z
        exact ⟨fun e => hb (e ▸ hr'), fun e => hb (e ▸ hv')⟩
      have some_ne : ∀ {b : Addr} {o : HO}, G' b = some o → G' b ≠ none := fun e z => by rw [e] at z; cases z
      obtain ⟨pot0, hpot0, _⟩ := D.pot
      have vd := (fresh _ (some_ne D.r0)).2
      have v3v : K3 v = some (.lst []) := by rw [v3 v vd.symm]; exact ev
      have hx0 : K3 x0 = some (.ins C dx0 (seatF n0 su false)) := by rw [v3 _ (nd_at ND 8 5)]; exact es
      have hx1 : K3 x1 = some (.ins C dx1 (seatF n1 st1 false)) := k3 _ _ (nd_at ND 7 10) (nd_at ND 7 2) (nd_at ND 7 8) (nd_at ND 7 5) D.s1
      have vd4 : K3 d1 = some (.lst [.int n1, .str st1, .bl false]) := k3 _ _ (nd_at ND 4 10) (nd_at ND 4 2) (nd_at ND 4 8) (nd_at ND 4 5) D.r1
      have hSS : K3 SS = some (.lst [.ref x0, .ref x1]) := k3 _ _ (nd_at ND 6 10) (nd_at ND 6 2) (nd_at ND 6 8) (nd_at ND 6 5) D.seats
      have hUU : K3 U = some (.lst [.ref d0, .ref d1]) := k3 _ _ (nd_at ND 3 10) (nd_at ND 3 2) (nd_at ND 3 8) (nd_at ND 3 5) D.due
      -- repr(told) != '[]'
      refine ⟨_, rfl, .ref v, .list [], rfl, .lst (SqL.of v3v) .nil, by decide, by decide, by decide, by decide +kernel, rfl, _, rfl, ?_⟩
      refine iteF' (by decide +kernel) ?_
      -- repr of both
      refine ⟨_, rfl, SS, _, _, _, rfl, rfl, SqL.of hSS, rfl, x0, dx0, n0, _, false, rfl, hx0, fun l0 hl0 => ?_⟩
      have q0 := same_upd (o := .lst [.int n0, .str su, .bl false]) hl0
      refine ⟨_, rfl, SS, _, _, _, rfl, rfl, SqL.of (q0 _ _ hSS), rfl, x1, dx1, n1, _, false, rfl, q0 _ _ hx1, fun l1 hl1 => ?_⟩
      have q1 := q0.trans (same_upd (o := .lst [.int n1, .str st1, .bl false]) hl1)
      refine ⟨by show 2 ≤ sizeLine; decide, fun l2 hl2 => ?_⟩
      have q2 := q1.trans (same_upd (o := .lst [.ref l0, .ref l1]) hl2)
      have w1 : upd (upd (upd K3 l0 (.lst [.int n0, .str su, .bl false])) l1 (.lst [.int n1, .str st1, .bl false])) l2 (.lst [.ref l0, .ref l1]) l1 = some (.lst [.int n1, .str st1, .bl false]) := same_upd hl2 _ _ upd_same
      have w0 : upd (upd (upd K3 l0 (.lst [.int n0, .str su, .bl false])) l1 (.lst [.int n1, .str st1, .bl false])) l2 (.lst [.ref l0, .ref l1]) l0 = some (.lst [.int n0, .str su, .bl false]) := same_upd hl2 _ _ (same_upd hl1 _ _ upd_same)
      refine ⟨.ref l2, dd n0 n1 su st1, rfl, .lst (SqL.of upd_same) (.cons (.lst (SqL.of w0) (.cons (.int _) (.cons (.str _) (.cons (.bl _) .nil)))) (.cons (.lst (SqL.of w1) (.cons (.int _) (.cons (.str _) (.cons (.bl _) .nil)))) .nil)),
        dd_show a0 a1 b0 b1, rfl, dd_deep, dd_len a0 a1 b0 b1 hsu D.h1, ?_⟩
      refine ⟨_, rfl, .ref U, dd n0 n1 su st1, rfl, .lst (SqL.of (q2 _ _ hUU)) (.cons (.lst (SqL.of (q2 _ _ vd3)) (.cons (.int _) (.cons (.str _) (.cons (.bl _) .nil)))) (.cons (.lst (SqL.of (q2 _ _ vd4)) (.cons (.int _) (.cons (.str _) (.cons (.bl _) .nil)))) .nil)),
        dd_show a0 a1 b0 b1, rfl, dd_deep, dd_len a0 a1 b0 b1 hsu D.h1, rfl, false, ne_self _, ?_⟩
      refine iteF ?_
      -- told.append(..)
      have vne : ∀ {b : Addr} {o : HO}, G' b = some o → b ≠ v := fun e => (fresh _ (some_ne e)).2
      refine ⟨_, rfl, .inl ⟨rfl, _, SqL.of (q2 _ _ v3v)⟩, by show 1 ≤ sizeLine; decide, fun l3 hl3 => ?_⟩
      have q3 := q2.trans (same_upd (o := .tup [.str "more"]) hl3)
      refine ⟨by show 2 ≤ sizeLine; decide, fun l4 hl4 => ?_⟩
      have q4 := q3.trans (same_upd (o := .tup [.int 0, .ref l3]) hl4)
      refine ⟨v, _, _, rfl, rfl, q4 _ _ v3v, by decide, ?_⟩
      generalize hK4 : upd (upd (upd (upd (upd K3 l0 (.lst [.int n0, .str su, .bl false])) l1 (.lst [.int n1, .str st1, .bl false])) l2 (.lst [.ref l0, .ref l1])) l3 (.tup [.str "more"])) l4 (.tup [.int 0, .ref l3]) = K4 at q4
      have fin : ∀ {b : Addr} {o : HO}, b ≠ v → K3 b = some o → upd K4 v (.lst ([] ++ [.ref l4])) b = some o := fun n e => by rw [upd_ne n]; exact q4 _ _ e
      have all : ∀ {b : Addr} {o : HO}, b ≠ p → b ≠ g0 → b ≠ x0 → b ≠ d0 → G' b = some o → upd K4 v (.lst ([] ++ [.ref l4])) b = some o :=
        fun n1 n2 n3 n4 e => fin (vne e) (k3 _ _ n1 n2 n3 n4 e)
      refine ⟨⟨_, _, _, _, rfl⟩, su, st1, gs', gs1, ?_⟩
      have hgA : upd K4 v (.lst ([] ++ [.ref l4])) g0 = some (.lst (gs'.map V.int)) := fin (vne D.l0) (by rw [v3 _ (nd_at ND 2 5)]; exact eg)
      have hgB : upd K4 v (.lst ([] ++ [.ref l4])) g1 = some (.lst (gs1.map V.int)) := all (nd_at ND 1 10) (nd_at ND 1 2) (nd_at ND 1 8) (nd_at ND 1 5) D.l1
      have kA : gs'.length ≤ j + 1 := by have := D.k0; omega
      have kB : gs1.length ≤ j + 1 := by have := D.k1; omega
      have mB := D.m1
      have pp : PotAt (3 + (j + 1) * 360) (upd K4 v (.lst ([] ++ [.ref l4]))) p := by
        obtain ⟨xs, e, h⟩ := Q2
        exact ⟨xs, fin (vne hpot0) (by rw [v3 _ (nd_at ND 10 5)]; exact e), h.mono (by omega)⟩
      refine ⟨pp, all (nd_at ND 6 10) (nd_at ND 6 2) (nd_at ND 6 8) (nd_at ND 6 5) D.seats, fin (vne D.s0) hx0, fin (vne D.s1) hx1, hsu, D.h1,
        all (nd_at ND 3 10) (nd_at ND 3 2) (nd_at ND 3 8) (nd_at ND 3 5) D.due, fin (vne D.r0) vd3, fin (vne D.r1) vd4, all (nd_at ND 0 10) (nd_at ND 0 2) (nd_at ND 0 8) (nd_at ND 0 5) D.gone,
        hgA, hgB, mg', mB, kA, kB, fun b o e => ?_⟩
      obtain ⟨z1, z2, z3, z4, z5, z6, z7⟩ := nH b o e
      exact all z1 z4 z2 z6 (D.same b o e)
    · skip
      refine ⟨_, rfl, _, rfl, _, rfl, SS, _, _, _, rfl, rfl, SqL.of (kk _ _ (nd_at ND 6 10) D.seats), rfl, _, rfl, _, rfl, W, _, _, _, rfl, rfl, SqL.of (kk _ _ (nd_at ND 0 10) D.gone), rfl, ?_⟩
      have small : 3 + j * 360 + 1 < 800000 := by
        have : j ≤ 9 := by omega
        omega
      have gl : gs1.length ≤ 1000 := by have := D.k1; omega
      refine ⟨p, x1, g1, dx1, n1, st1, false, gs1, _, rfl, Q1, small, kk _ _ (nd_at ND 7 10) D.s1, b0, b1, D.h1, kk _ _ (nd_at ND 1 10) D.l1, D.m1, gl, (nd_at ND 10 1), fun r v K2 gs' su hr' hv' er ev c2 Q2 eg mg' lg' es hsu => ?_⟩
      have k2 : ∀ b o, b ≠ p → b ≠ g1 → b ≠ x1 → G' b = some o → K2 b = some o := fun b o n1 n2 n3 e => c2 b o (by
        simp only [List.mem_cons, List.not_mem_nil, or_false, not_or]; exact ⟨n1, n2, n3⟩) (kk _ _ n1 e)
      refine ⟨r, _, rfl, SqL.of er, rfl, _, _, rfl, _, _, rfl, rfl, ?_⟩
      -- due[which][1] = state
      refine ⟨_, rfl, _, rfl, _, rfl, U, _, _, _, rfl, rfl, SqL.of (k2 _ _ (nd_at ND 3 10) (nd_at ND 3 1) (nd_at ND 3 7) D.due), rfl, d1, _, _, _, rfl, rfl, k2 _ _ (nd_at ND 4 10) (nd_at ND 4 1) (nd_at ND 4 7) D.r1, rfl, ?_⟩
      obtain ⟨K3, eK3⟩ : ∃ K3, K3 = upd K2 d1 (.lst (List.set [V.int n1, .str st1, .bl false] 1 (.str su))) := ⟨_, rfl⟩
      first
        | rw [← eK3]
        | rw [← (show K3 = upd K2 d1 (.lst (List.set [V.int n1, .str st1, .bl false] (Int.toNat 1) (.str su))) from eK3)]
      have vd3 : K3 d1 = some (.lst [.int n1, .str su, .bl false]) := by rw [eK3]; exact upd_same
      have v3 : ∀ b, b ≠ d1 → K3 b = K2 b := fun b n => by rw [eK3]; exact upd_ne n
      have k3 : ∀ b o, b ≠ p → b ≠ g1 → b ≠ x1 → b ≠ d1 → G' b = some o → K3 b = some o := fun b o n1 n2 n3 n4 e => by rw [v3 b n4]; exact k2 b o n1 n2 n3 e
      -- what came to be told is new
      have fresh : ∀ b, G' b ≠ none → b ≠ r ∧ b ≠ v := fun b nb => by
        have hb : K1 b ≠ none := by
          by_cases e : b = p
          · rw [e]; obtain ⟨xs, h, _⟩ := Q1; rw [h]; exact fun z => by cases z
          · cases e2 : G' b with
            | none => exact (nb e2).elim
            | some o => rw [kk b o e e2]; exact fun z => by cases z
        exact ⟨fun e => hb (e ▸ hr'), fun e => hb (e ▸ hv')⟩
      have some_ne : ∀ {b : Addr} {o : HO}, G' b = some o → G' b ≠ none := fun e z => by rw [e] at z; cases z
      obtain ⟨pot0, hpot0, _⟩ := D.pot
      have vd := (fresh _ (some_ne D.r1)).2
      have v3v : K3 v = some (.lst []) := by rw [v3 v vd.symm]; exact ev
      have hx1 : K3 x1 = some (.ins C dx1 (seatF n1 su false)) := by rw [v3 _ (nd_at ND 7 4)]; exact es
      have hx0 : K3 x0 = some (.ins C dx0 (seatF n0 st0 false)) := k3 _ _ (nd_at ND 8 10) (nd_at ND 8 1) (nd_at ND 8 7) (nd_at ND 8 4) D.s0
      have vd4 : K3 d0 = some (.lst [.int n0, .str st0, .bl false]) := k3 _ _ (nd_at ND 5 10) (nd_at ND 5 1) (nd_at ND 5 7) (nd_at ND 5 4) D.r0
      have hSS : K3 SS = some (.lst [.ref x0, .ref x1]) := k3 _ _ (nd_at ND 6 10) (nd_at ND 6 1) (nd_at ND 6 7) (nd_at ND 6 4) D.seats
      have hUU : K3 U = some (.lst [.ref d0, .ref d1]) := k3 _ _ (nd_at ND 3 10) (nd_at ND 3 1) (nd_at ND 3 7) (nd_at ND 3 4) D.due
      -- repr(told) != '[]'
      refine ⟨_, rfl, .ref v, .list [], rfl, .lst (SqL.of v3v) .nil, by decide, by decide, by decide, by decide +kernel, rfl, _, rfl, ?_⟩
      refine iteF' (by decide +kernel) ?_
      -- repr of both
      refine ⟨_, rfl, SS, _, _, _, rfl, rfl, SqL.of hSS, rfl, x0, dx0, n0, _, false, rfl, hx0, fun l0 hl0 => ?_⟩
      have q0 := same_upd (o := .lst [.int n0, .str st0, .bl false]) hl0
      refine ⟨_, rfl, SS, _, _, _, rfl, rfl, SqL.of (q0 _ _ hSS), rfl, x1, dx1, n1, _, false, rfl, q0 _ _ hx1, fun l1 hl1 => ?_⟩
      have q1 := q0.trans (same_upd (o := .lst [.int n1, .str su, .bl false]) hl1)
      refine ⟨by show 2 ≤ sizeLine; decide, fun l2 hl2 => ?_⟩
      have q2 := q1.trans (same_upd (o := .lst [.ref l0, .ref l1]) hl2)
      have w1 : upd (upd (upd K3 l0 (.lst [.int n0, .str st0, .bl false])) l1 (.lst [.int n1, .str su, .bl false])) l2 (.lst [.ref l0, .ref l1]) l1 = some (.lst [.int n1, .str su, .bl false]) := same_upd hl2 _ _ upd_same
      have w0 : upd (upd (upd K3 l0 (.lst [.int n0, .str st0, .bl false])) l1 (.lst [.int n1, .str su, .bl false])) l2 (.lst [.ref l0, .ref l1]) l0 = some (.lst [.int n0, .str st0, .bl false]) := same_upd hl2 _ _ (same_upd hl1 _ _ upd_same)
      refine ⟨.ref l2, dd n0 n1 st0 su, rfl, .lst (SqL.of upd_same) (.cons (.lst (SqL.of w0) (.cons (.int _) (.cons (.str _) (.cons (.bl _) .nil)))) (.cons (.lst (SqL.of w1) (.cons (.int _) (.cons (.str _) (.cons (.bl _) .nil)))) .nil)),
        dd_show a0 a1 b0 b1, rfl, dd_deep, dd_len a0 a1 b0 b1 D.h0 hsu, ?_⟩
      refine ⟨_, rfl, .ref U, dd n0 n1 st0 su, rfl, .lst (SqL.of (q2 _ _ hUU)) (.cons (.lst (SqL.of (q2 _ _ vd4)) (.cons (.int _) (.cons (.str _) (.cons (.bl _) .nil)))) (.cons (.lst (SqL.of (q2 _ _ vd3)) (.cons (.int _) (.cons (.str _) (.cons (.bl _) .nil)))) .nil)),
        dd_show a0 a1 b0 b1, rfl, dd_deep, dd_len a0 a1 b0 b1 D.h0 hsu, rfl, false, ne_self _, ?_⟩
      refine iteF ?_
      -- told.append(..)
      have vne : ∀ {b : Addr} {o : HO}, G' b = some o → b ≠ v := fun e => (fresh _ (some_ne e)).2
      refine ⟨_, rfl, .inl ⟨rfl, _, SqL.of (q2 _ _ v3v)⟩, by show 1 ≤ sizeLine; decide, fun l3 hl3 => ?_⟩
      have q3 := q2.trans (same_upd (o := .tup [.str "more"]) hl3)
      refine ⟨by show 2 ≤ sizeLine; decide, fun l4 hl4 => ?_⟩
      have q4 := q3.trans (same_upd (o := .tup [.int 0, .ref l3]) hl4)
      refine ⟨v, _, _, rfl, rfl, q4 _ _ v3v, by decide, ?_⟩
      generalize hK4 : upd (upd (upd (upd (upd K3 l0 (.lst [.int n0, .str st0, .bl false])) l1 (.lst [.int n1, .str su, .bl false])) l2 (.lst [.ref l0, .ref l1])) l3 (.tup [.str "more"])) l4 (.tup [.int 0, .ref l3]) = K4 at q4
      have fin : ∀ {b : Addr} {o : HO}, b ≠ v → K3 b = some o → upd K4 v (.lst ([] ++ [.ref l4])) b = some o := fun n e => by rw [upd_ne n]; exact q4 _ _ e
      have all : ∀ {b : Addr} {o : HO}, b ≠ p → b ≠ g1 → b ≠ x1 → b ≠ d1 → G' b = some o → upd K4 v (.lst ([] ++ [.ref l4])) b = some o :=
        fun n1 n2 n3 n4 e => fin (vne e) (k3 _ _ n1 n2 n3 n4 e)
      refine ⟨⟨_, _, _, _, rfl⟩, st0, su, gs0, gs', ?_⟩
      have hgA : upd K4 v (.lst ([] ++ [.ref l4])) g1 = some (.lst (gs'.map V.int)) := fin (vne D.l1) (by rw [v3 _ (nd_at ND 1 4)]; exact eg)
      have hgB : upd K4 v (.lst ([] ++ [.ref l4])) g0 = some (.lst (gs0.map V.int)) := all (nd_at ND 2 10) (nd_at ND 2 1) (nd_at ND 2 7) (nd_at ND 2 4) D.l0
      have kA : gs'.length ≤ j + 1 := by have := D.k1; omega
      have kB : gs0.length ≤ j + 1 := by have := D.k0; omega
      have mB := D.m0
      have pp : PotAt (3 + (j + 1) * 360) (upd K4 v (.lst ([] ++ [.ref l4]))) p := by
        obtain ⟨xs, e, h⟩ := Q2
        exact ⟨xs, fin (vne hpot0) (by rw [v3 _ (nd_at ND 10 4)]; exact e), h.mono (by omega)⟩
      refine ⟨pp, all (nd_at ND 6 10) (nd_at ND 6 1) (nd_at ND 6 7) (nd_at ND 6 4) D.seats, fin (vne D.s0) hx0, fin (vne D.s1) hx1, D.h0, hsu,
        all (nd_at ND 3 10) (nd_at ND 3 1) (nd_at ND 3 7) (nd_at ND 3 4) D.due, fin (vne D.r0) vd4, fin (vne D.r1) vd3, all (nd_at ND 0 10) (nd_at ND 0 1) (nd_at ND 0 7) (nd_at ND 0 4) D.gone,
        hgB, hgA, mB, mg', kB, kA, fun b o e => ?_⟩
      obtain ⟨z1, z2, z3, z4, z5, z6, z7⟩ := nH b o e
      exact all z1 z5 z3 z7 (D.same b o e)
  · rintro σ' G' ⟨⟨u7, u8, u9, u10, rfl⟩, st0, st1, gs0, gs1, D⟩
    exact ⟨⟨_, _, _, _, _, _, _, _, _, _, rfl⟩, D.same⟩
end

end G0
namespace G0
open PySem PySem.Spec PyProof.Rows L2

theorem me_of {P : Program} {w : World} {K : PySem.W.Frag} {mg : Str → Option Value} {base : Heap} {C : Addr} {x qual : Str} {st : Stmt} {k : Nat} {ps : List Str} {sp : Sp}
    (F : Fm K C x qual st) (ok : ∀ f fd, Fun K x qual st f fd → FnOk P w K mg base CX0 k f fd ps sp)
    (bd : ∀ (kV doc pm : Value) (an : Option Addr) (cdv ct : Value) (us : List Value), us.length = ps.length →
      bindArgs (PySem.W.fnOf x qual (defArgs st) (defBody st) (defScope st) .none kV doc pm an cdv ct) ⟨us, []⟩ = pure (ps.zip us)) :
    Me P w K mg base C x k ps sp := by
  obtain ⟨f, fd, F, m⟩ := F
  exact ⟨f, fd, ok f fd F, F.binds bd, m⟩
theorem whole {P : Program} {w : World} {K : PySem.W.Frag} {mg : Str → Option Value} {base : Heap} {C : Addr} (T : Bl mg) (S : SeatT K mg C)
    (F_pot : Fn K mg "_law_pot" s_law_pot) (F_take : Fn K mg "_law_take" s_law_take) (F_number : Fn K mg "_law_number" s_law_number)
    (F_thing : Fn K mg "_law_thing" s_law_thing) (F_letter : Fn K mg "_law_letter" s_law_letter) (F_heard : Fn K mg "_law_heard" s_law_heard)
    (F_done : Fn K mg "_law_done" s_law_done) (F_seen : Fn K mg "_law_seen" s_law_seen) (F_law : Fn K mg "law" s_law)
    (M_init : Fm K C "__init__" "Seat.__init__" s_Seat__init) (M_ask : Fm K C "ask" "Seat.ask" s_Seat_ask) (M_leave : Fm K C "leave" "Seat.leave" s_Seat_leave)
    (M_hear : Fm K C "hear" "Seat.hear" s_Seat_hear) (M_gone : Fm K C "gone" "Seat.gone" s_Seat_gone)
    (mk : PySem.W.makesIn K C = true) (kc : PySem.W.keepIn K (.ref C) = true) : Cal P w K mg base "law" 10 ["script"] (spLaw K) := by
  have C_take := ok_t (P := P) (w := w) (base := base) F_take
  have C_number := ok_num F_number C_take
  have C_thing := ok_things F_thing T C_take C_number 4
  have C_letter := ok_letter F_letter T C_take C_thing
  have A := me_of (P := P) (w := w) (mg := mg) (base := base) (ps := ["self"]) M_ask (fun f fd F => ok_ask F S) (fun _ _ _ _ _ _ us hl => match us, hl with | [_], _ => rfl) 
  have L := me_of (P := P) (w := w) (mg := mg) (base := base) (ps := ["self"]) M_leave (fun f fd F => ok_leave F S) (fun _ _ _ _ _ _ us hl => match us, hl with | [_], _ => rfl) 
  have E := me_of (P := P) (w := w) (mg := mg) (base := base) (ps := ["self", "sender", "letter"]) M_hear (fun f fd F => ok_hear F) (fun _ _ _ _ _ _ us hl => match us, hl with | [_, _, _], _ => rfl) 
  have G := me_of (P := P) (w := w) (mg := mg) (base := base) (ps := ["self", "seat"]) M_gone (fun f fd F => ok_gone F) (fun _ _ _ _ _ _ us hl => match us, hl with | [_, _], _ => rfl) 
  have I := me_of (P := P) (w := w) (mg := mg) (base := base) (ps := ["self", "me"]) M_init (fun f fd F => ok_init F S) (fun _ _ _ _ _ _ us hl => match us, hl with | [_, _], _ => rfl) 
  obtain ⟨f, fd, GI, bI, mI⟩ := I
  exact ok_law F_law T S C_take (ok_pot F_pot T) (ok_done F_done T S C_take (ok_heard F_heard T S C_take C_letter E G) A L) (ok_seen F_seen S) ⟨f, fd, GI, bI, ⟨mk, mI.at_, mI.fn, kc⟩⟩
theorem all_mk {P : Program} {w : World} {K : PySem.W.Frag} {h : Heap} {mg : Str → Option Value} {fa : Addr}
    {C_Seat : Addr} {f1 : Addr} {od1 an1 : Option Addr} {sl1 : Array (Option Value)} {oc1 kV1 dc1 pm1 cd1 ct1 : Value} {f2 : Addr} {od2 an2 : Option Addr} {sl2 : Array (Option Value)} {oc2 kV2 dc2 pm2 cd2 ct2 : Value} {f3 : Addr} {od3 an3 : Option Addr} {sl3 : Array (Option Value)} {oc3 kV3 dc3 pm3 cd3 ct3 : Value} {f4 : Addr} {od4 an4 : Option Addr} {sl4 : Array (Option Value)} {oc4 kV4 dc4 pm4 cd4 ct4 : Value} {f5 : Addr} {od5 an5 : Option Addr} {sl5 : Array (Option Value)} {oc5 kV5 dc5 pm5 cd5 ct5 : Value} {f6 : Addr} {od6 an6 : Option Addr} {sl6 : Array (Option Value)} {oc6 kV6 dc6 pm6 cd6 ct6 : Value} {f7 : Addr} {od7 an7 : Option Addr} {sl7 : Array (Option Value)} {oc7 kV7 dc7 pm7 cd7 ct7 : Value} {f8 : Addr} {od8 an8 : Option Addr} {sl8 : Array (Option Value)} {oc8 kV8 dc8 pm8 cd8 ct8 : Value} {f9 : Addr} {od9 an9 : Option Addr} {sl9 : Array (Option Value)} {oc9 kV9 dc9 pm9 cd9 ct9 : Value} {f10 : Addr} {od10 an10 : Option Addr} {sl10 : Array (Option Value)} {oc10 kV10 dc10 pm10 cd10 ct10 : Value} {f11 : Addr} {od11 an11 : Option Addr} {sl11 : Array (Option Value)} {oc11 kV11 dc11 pm11 cd11 ct11 : Value} {f12 : Addr} {od12 an12 : Option Addr} {sl12 : Array (Option Value)} {oc12 kV12 dc12 pm12 cd12 ct12 : Value} {f13 : Addr} {od13 an13 : Option Addr} {sl13 : Array (Option Value)} {oc13 kV13 dc13 pm13 cd13 ct13 : Value} {f14 : Addr} {od14 an14 : Option Addr} {sl14 : Array (Option Value)} {oc14 kV14 dc14 pm14 cd14 ct14 : Value}
    (X : K.In h) (G : h.Ns mainGlobals mg) (hfa : mg "law" = some (.ref fa))
    (aC_Seat : PySem.W.nsIn K mainGlobals "Seat" = some (some (.ref C_Seat)))
    (pg_Seat : PySem.W.plainGet K C_Seat Str.empty = true)
    (hd_Seat : PySem.W.hasDictIn K C_Seat = true)
    (po_Seat : PySem.W.plainOver K C_Seat = true)
    (sa_Seat : PySem.W.findIn K (.ref C_Seat) "__setattr__" = some (some (.builtin "object.__setattr__")))
    (mk_Seat : PySem.W.makesIn K C_Seat = true)
    (kc_Seat : PySem.W.keepIn K (.ref C_Seat) = true)
    (a1 : PySem.W.nsIn K mainGlobals "_law_pot" = some (some (.ref f1)))
    (l1 : K.lookup f1 = some ⟨oc1, od1, .func (PySem.W.fnOf "_law_pot" "_law_pot" (defArgs s_law_pot) (defBody s_law_pot) (defScope s_law_pot) .none kV1 dc1 pm1 an1 cd1 ct1), sl1⟩)
    (c1 : PySem.W.codeIn K cd1 "_law_pot" = true)
    (k1 : PySem.W.keepIn K (.ref f1) = true)
    (a2 : PySem.W.nsIn K mainGlobals "_law_take" = some (some (.ref f2)))
    (l2 : K.lookup f2 = some ⟨oc2, od2, .func (PySem.W.fnOf "_law_take" "_law_take" (defArgs s_law_take) (defBody s_law_take) (defScope s_law_take) .none kV2 dc2 pm2 an2 cd2 ct2), sl2⟩)
    (c2 : PySem.W.codeIn K cd2 "_law_take" = true)
    (k2 : PySem.W.keepIn K (.ref f2) = true)
    (a3 : PySem.W.nsIn K mainGlobals "_law_number" = some (some (.ref f3)))
    (l3 : K.lookup f3 = some ⟨oc3, od3, .func (PySem.W.fnOf "_law_number" "_law_number" (defArgs s_law_number) (defBody s_law_number) (defScope s_law_number) .none kV3 dc3 pm3 an3 cd3 ct3), sl3⟩)
    (c3 : PySem.W.codeIn K cd3 "_law_number" = true)
    (k3 : PySem.W.keepIn K (.ref f3) = true)
    (a4 : PySem.W.nsIn K mainGlobals "_law_thing" = some (some (.ref f4)))
    (l4 : K.lookup f4 = some ⟨oc4, od4, .func (PySem.W.fnOf "_law_thing" "_law_thing" (defArgs s_law_thing) (defBody s_law_thing) (defScope s_law_thing) .none kV4 dc4 pm4 an4 cd4 ct4), sl4⟩)
    (c4 : PySem.W.codeIn K cd4 "_law_thing" = true)
    (k4 : PySem.W.keepIn K (.ref f4) = true)
    (a5 : PySem.W.nsIn K mainGlobals "_law_letter" = some (some (.ref f5)))
    (l5 : K.lookup f5 = some ⟨oc5, od5, .func (PySem.W.fnOf "_law_letter" "_law_letter" (defArgs s_law_letter) (defBody s_law_letter) (defScope s_law_letter) .none kV5 dc5 pm5 an5 cd5 ct5), sl5⟩)
    (c5 : PySem.W.codeIn K cd5 "_law_letter" = true)
    (k5 : PySem.W.keepIn K (.ref f5) = true)
    (a6 : PySem.W.nsIn K mainGlobals "_law_heard" = some (some (.ref f6)))
    (l6 : K.lookup f6 = some ⟨oc6, od6, .func (PySem.W.fnOf "_law_heard" "_law_heard" (defArgs s_law_heard) (defBody s_law_heard) (defScope s_law_heard) .none kV6 dc6 pm6 an6 cd6 ct6), sl6⟩)
    (c6 : PySem.W.codeIn K cd6 "_law_heard" = true)
    (k6 : PySem.W.keepIn K (.ref f6) = true)
    (a7 : PySem.W.nsIn K mainGlobals "_law_done" = some (some (.ref f7)))
    (l7 : K.lookup f7 = some ⟨oc7, od7, .func (PySem.W.fnOf "_law_done" "_law_done" (defArgs s_law_done) (defBody s_law_done) (defScope s_law_done) .none kV7 dc7 pm7 an7 cd7 ct7), sl7⟩)
    (c7 : PySem.W.codeIn K cd7 "_law_done" = true)
    (k7 : PySem.W.keepIn K (.ref f7) = true)
    (a8 : PySem.W.nsIn K mainGlobals "_law_seen" = some (some (.ref f8)))
    (l8 : K.lookup f8 = some ⟨oc8, od8, .func (PySem.W.fnOf "_law_seen" "_law_seen" (defArgs s_law_seen) (defBody s_law_seen) (defScope s_law_seen) .none kV8 dc8 pm8 an8 cd8 ct8), sl8⟩)
    (c8 : PySem.W.codeIn K cd8 "_law_seen" = true)
    (k8 : PySem.W.keepIn K (.ref f8) = true)
    (a9 : PySem.W.nsIn K mainGlobals "law" = some (some (.ref f9)))
    (l9 : K.lookup f9 = some ⟨oc9, od9, .func (PySem.W.fnOf "law" "law" (defArgs s_law) (defBody s_law) (defScope s_law) .none kV9 dc9 pm9 an9 cd9 ct9), sl9⟩)
    (c9 : PySem.W.codeIn K cd9 "law" = true)
    (k9 : PySem.W.keepIn K (.ref f9) = true)
    (a10 : PySem.W.findIn K (.ref C_Seat) "__init__" = some (some (.ref f10)))
    (i10 : PySem.W.isFn K (.ref f10) = true)
    (l10 : K.lookup f10 = some ⟨oc10, od10, .func (PySem.W.fnOf "__init__" "Seat.__init__" (defArgs s_Seat__init) (defBody s_Seat__init) (defScope s_Seat__init) .none kV10 dc10 pm10 an10 cd10 ct10), sl10⟩)
    (c10 : PySem.W.codeIn K cd10 "Seat.__init__" = true)
    (k10 : PySem.W.keepIn K (.ref f10) = true)
    (a11 : PySem.W.findIn K (.ref C_Seat) "ask" = some (some (.ref f11)))
    (i11 : PySem.W.isFn K (.ref f11) = true)
    (l11 : K.lookup f11 = some ⟨oc11, od11, .func (PySem.W.fnOf "ask" "Seat.ask" (defArgs s_Seat_ask) (defBody s_Seat_ask) (defScope s_Seat_ask) .none kV11 dc11 pm11 an11 cd11 ct11), sl11⟩)
    (c11 : PySem.W.codeIn K cd11 "Seat.ask" = true)
    (k11 : PySem.W.keepIn K (.ref f11) = true)
    (a12 : PySem.W.findIn K (.ref C_Seat) "leave" = some (some (.ref f12)))
    (i12 : PySem.W.isFn K (.ref f12) = true)
    (l12 : K.lookup f12 = some ⟨oc12, od12, .func (PySem.W.fnOf "leave" "Seat.leave" (defArgs s_Seat_leave) (defBody s_Seat_leave) (defScope s_Seat_leave) .none kV12 dc12 pm12 an12 cd12 ct12), sl12⟩)
    (c12 : PySem.W.codeIn K cd12 "Seat.leave" = true)
    (k12 : PySem.W.keepIn K (.ref f12) = true)
    (a13 : PySem.W.findIn K (.ref C_Seat) "hear" = some (some (.ref f13)))
    (i13 : PySem.W.isFn K (.ref f13) = true)
    (l13 : K.lookup f13 = some ⟨oc13, od13, .func (PySem.W.fnOf "hear" "Seat.hear" (defArgs s_Seat_hear) (defBody s_Seat_hear) (defScope s_Seat_hear) .none kV13 dc13 pm13 an13 cd13 ct13), sl13⟩)
    (c13 : PySem.W.codeIn K cd13 "Seat.hear" = true)
    (k13 : PySem.W.keepIn K (.ref f13) = true)
    (a14 : PySem.W.findIn K (.ref C_Seat) "gone" = some (some (.ref f14)))
    (i14 : PySem.W.isFn K (.ref f14) = true)
    (l14 : K.lookup f14 = some ⟨oc14, od14, .func (PySem.W.fnOf "gone" "Seat.gone" (defArgs s_Seat_gone) (defBody s_Seat_gone) (defScope s_Seat_gone) .none kV14 dc14 pm14 an14 cd14 ct14), sl14⟩)
    (c14 : PySem.W.codeIn K cd14 "Seat.gone" = true)
    (k14 : PySem.W.keepIn K (.ref f14) = true)
    (n_Seat_me : PySem.W.findIn K (.ref C_Seat) "me" = some none)
    (n_Seat_state : PySem.W.findIn K (.ref C_Seat) "state" = some none)
    (n_Seat_sits : PySem.W.findIn K (.ref C_Seat) "sits" = some none)
    (b_len : PySem.W.nsIn K mainGlobals "len" = some none)
    (b_range : PySem.W.nsIn K mainGlobals "range" = some none)
    (b_max : PySem.W.nsIn K mainGlobals "max" = some none)
    (b_min : PySem.W.nsIn K mainGlobals "min" = some none)
    (b_repr : PySem.W.nsIn K mainGlobals "repr" = some none)
    (b_tuple : PySem.W.nsIn K mainGlobals "tuple" = some none) :
    ∃ fd : FuncData, (∀ (s : Shared) (v : Value), BindsTo s fd ⟨[v], []⟩ [("script", v)]) ∧
      ∀ base : Heap, K.In base → base.Ns mainGlobals mg → FnG P w K mg base CX0 10 fa fd ["script"] (spLaw K) := by
  have F_law_pot : Fn K mg "_law_pot" s_law_pot := fn_top X G a1 l1 c1 k1
  have F_law_take : Fn K mg "_law_take" s_law_take := fn_top X G a2 l2 c2 k2
  have F_law_number : Fn K mg "_law_number" s_law_number := fn_top X G a3 l3 c3 k3
  have F_law_thing : Fn K mg "_law_thing" s_law_thing := fn_top X G a4 l4 c4 k4
  have F_law_letter : Fn K mg "_law_letter" s_law_letter := fn_top X G a5 l5 c5 k5
  have F_law_heard : Fn K mg "_law_heard" s_law_heard := fn_top X G a6 l6 c6 k6
  have F_law_done : Fn K mg "_law_done" s_law_done := fn_top X G a7 l7 c7 k7
  have F_law_seen : Fn K mg "_law_seen" s_law_seen := fn_top X G a8 l8 c8 k8
  have F_law : Fn K mg "law" s_law := fn_top X G a9 l9 c9 k9
  have M_Seat__init : Fm K C_Seat "__init__" "Seat.__init__" s_Seat__init := fm_top a10 i10 l10 c10 k10
  have M_Seat_ask : Fm K C_Seat "ask" "Seat.ask" s_Seat_ask := fm_top a11 i11 l11 c11 k11
  have M_Seat_leave : Fm K C_Seat "leave" "Seat.leave" s_Seat_leave := fm_top a12 i12 l12 c12 k12
  have M_Seat_hear : Fm K C_Seat "hear" "Seat.hear" s_Seat_hear := fm_top a13 i13 l13 c13 k13
  have M_Seat_gone : Fm K C_Seat "gone" "Seat.gone" s_Seat_gone := fm_top a14 i14 l14 c14 k14
  have B_len := PySem.W.mg_none_of X G b_len
  have B_range := PySem.W.mg_none_of X G b_range
  have B_max := PySem.W.mg_none_of X G b_max
  have B_min := PySem.W.mg_none_of X G b_min
  have B_repr := PySem.W.mg_none_of X G b_repr
  have B_tuple := PySem.W.mg_none_of X G b_tuple
  have T_Seat : Cls K C_Seat := ⟨pg_Seat, hd_Seat, po_Seat, sa_Seat⟩
  have G_Seat := PySem.W.mg_of X G aC_Seat
  exact law_end F_law hfa (fun _ _ _ _ _ _ s v => .of_eq rfl) fun base _ _ => whole ⟨B_len, B_range, B_max, B_min, B_repr, B_tuple⟩ ⟨T_Seat, n_Seat_me, n_Seat_state, n_Seat_sits, G_Seat⟩
    F_law_pot F_law_take F_law_number F_law_thing F_law_letter F_law_heard F_law_done F_law_seen F_law M_Seat__init M_Seat_ask M_Seat_leave M_Seat_hear M_Seat_gone mk_Seat kc_Seat
end G0
open PySem PySem.W PyProof.Rows in
set_option maxRecDepth 100000 in
set_option maxHeartbeats 0 in
theorem PySem.Challenge.cw_soleseat_k05_seats_alone_holds : PySem.Challenge.rw_soleseat_k05_seats_alone.Holds := by
  w_on; o_law; k_head; (case hw => w_witness2)
  k_fill
  refine G0.walk_ofG (l := PySem.Challenge.rw_soleseat_k05_seats_alone) (n := 63) (k := 10) (x := "script") (sp := G0.spLaw) rfl (by decide) rfl ⟨rfl, by decide, by decide⟩ (fun w h Y => PySem.W.kIn_of Y) ?F (fun K H a ns hl _ hS => ⟨a, ns, rfl, hS, hl, fun _ => rfl⟩)
  case F =>
    intro w mg fa h KX G hmg
    refine' G0.all_mk KX G hmg ?aC_Seat ?pg_Seat ?hd_Seat ?po_Seat ?sa_Seat ?mk_Seat ?kc_Seat ?a1 ?l1 ?c1 ?k1 ?a2 ?l2 ?c2 ?k2 ?a3 ?l3 ?c3 ?k3 ?a4 ?l4 ?c4 ?k4 ?a5 ?l5 ?c5 ?k5 ?a6 ?l6 ?c6 ?k6 ?a7 ?l7 ?c7 ?k7 ?a8 ?l8 ?c8 ?k8 ?a9 ?l9 ?c9 ?k9 ?a10 ?i10 ?l10 ?c10 ?k10 ?a11 ?i11 ?l11 ?c11 ?k11 ?a12 ?i12 ?l12 ?c12 ?k12 ?a13 ?i13 ?l13 ?c13 ?k13 ?a14 ?i14 ?l14 ?c14 ?k14 ?n_Seat_me ?n_Seat_state ?n_Seat_sits ?b_len ?b_range ?b_max ?b_min ?b_repr ?b_tuple
    (case aC_Seat => k_is)
    (case pg_Seat => k_is)
    (case hd_Seat => k_is)
    (case po_Seat => k_is)
    (case sa_Seat => k_is)
    (case mk_Seat => k_is)
    (case kc_Seat => k_is)
    (case a1 => k_is)
    (case l1 => k_is)
    (case c1 => k_is)
    (case k1 => k_is)
    (case a2 => k_is)
    (case l2 => k_is)
    (case c2 => k_is)
    (case k2 => k_is)
    (case a3 => k_is)
    (case l3 => k_is)
    (case c3 => k_is)
    (case k3 => k_is)
    (case a4 => k_is)
    (case l4 => k_is)
    (case c4 => k_is)
    (case k4 => k_is)
    (case a5 => k_is)
    (case l5 => k_is)
    (case c5 => k_is)
    (case k5 => k_is)
    (case a6 => k_is)
    (case l6 => k_is)
    (case c6 => k_is)
    (case k6 => k_is)
    (case a7 => k_is)
    (case l7 => k_is)
    (case c7 => k_is)
    (case k7 => k_is)
    (case a8 => k_is)
    (case l8 => k_is)
    (case c8 => k_is)
    (case k8 => k_is)
    (case a9 => k_is)
    (case l9 => k_is)
    (case c9 => k_is)
    (case k9 => k_is)
    (case a10 => k_is)
    (case i10 => k_is)
    (case l10 => k_is)
    (case c10 => k_is)
    (case k10 => k_is)
    (case a11 => k_is)
    (case i11 => k_is)
    (case l11 => k_is)
    (case c11 => k_is)
    (case k11 => k_is)
    (case a12 => k_is)
    (case i12 => k_is)
    (case l12 => k_is)
    (case c12 => k_is)
    (case k12 => k_is)
    (case a13 => k_is)
    (case i13 => k_is)
    (case l13 => k_is)
    (case c13 => k_is)
    (case k13 => k_is)
    (case a14 => k_is)
    (case i14 => k_is)
    (case l14 => k_is)
    (case c14 => k_is)
    (case k14 => k_is)
    (case n_Seat_me => k_is)
    (case n_Seat_state => k_is)
    (case n_Seat_sits => k_is)
    (case b_len => k_is)
    (case b_range => k_is)
    (case b_max => k_is)
    (case b_min => k_is)
    (case b_repr => k_is)
    (case b_tuple => k_is)
#print axioms PySem.Challenge.cw_soleseat_k05_seats_alone_holds
namespace G0

end G0
