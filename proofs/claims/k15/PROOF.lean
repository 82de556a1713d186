import PyProof.Rows.All
import Wide.All
import OpenK.AllK
import Wide.FinOn
import HandS.ForMost
import HandS.Wide
import HandS.Conv
import HandS.TupAny
import HandS.Deep
import HandS.Steps
import HandS.NoneIn
import HandS.IsInst
import HandS.More
import HandS.Defaults
import PySem.Challenge.RW_soleseat_k15_rows_are_told
set_option Elab.async false
set_option maxRecDepth 100000
set_option maxHeartbeats 1000000
set_option linter.all false
/-! Calls where nothing is under repr around: the layer's defs, with one premise more (no guard around). -/
namespace G0
open PySem PySem.Spec PyProof.Rows L2
structure FnG (P : Program) (w : World) (K : PySem.W.Frag) (mg : Str → Option Value) (base : Heap) (CX : CXT)
    (k : Nat) (f : Addr) (fd : FuncData) (ps : List Str) (sp : Sp) : Prop where
  args : ∀ zs G R W, sp zs G R W → zs.length = ps.length
  runs : ∀ (B : Around) (around : List Env) (t : Shared) (G : Hp) (given : Args) (bound : List Value) (zs : List V) (R : VK) (W : XK),
    B.guards = some [] → Room k B → Env0 P w K mg base B around t G →
    BindsTo t fd given (ps.zip bound) → Vals zs bound → sp zs G R W →
    codeAny (model P w) B (.call (.ref f) given) (CR CX around P w G t R W) t
theorem FnG.of {P : Program} {w : World} {K : PySem.W.Frag} {mg : Str → Option Value} {base : Heap} {CX : CXT}
    {k : Nat} {f : Addr} {fd : FuncData} {ps : List Str} {sp : Sp} (F : FnOk P w K mg base CX k f fd ps sp) :
    FnG P w K mg base CX k f fd ps sp :=
  ⟨F.len, fun B around t G given bound zs R W _ hr => F.run B around t G given bound zs R W hr⟩
theorem FnG.mono {P : Program} {w : World} {K : PySem.W.Frag} {mg : Str → Option Value} {base : Heap} {CX : CXT}
    {j k : Nat} {f : Addr} {fd : FuncData} {ps : List Str} {sp : Sp} (F : FnG P w K mg base CX j f fd ps sp) (h : j ≤ k) :
    FnG P w K mg base CX k f fd ps sp :=
  ⟨F.args, fun B around t G given bound zs R W hg hr => F.runs B around t G given bound zs R W hg (hr.mono h)⟩
section
variable {X : Cx} {CX : CXT} {k : Nat} {f : Addr} {fd : FuncData} {ps : List Str} {sp : Sp}
  {dvs : List V} {ds : List Value} {E : XK} {x : Str} {p pos : Pos} {e : Expr} {es : List Expr} {t : TA}
theorem goes {pins : List (Addr × Obj)} {σ : L2.St} {H : Hp} {s : Shared} {Q : VK} {us : List Value} {vs : List V}
    (F : FnG X.prog X.w X.K X.mg X.base CX k f fd ps sp) (free : X.A.guards = some []) (hr : Room k X.A)
    (hb : Binds X.K fd ps ds) (hd : Vals dvs ds) (hx : Passes CX X E)
    (I : Inv X pins σ H s) (r : Vals vs us) (h : sp (vs ++ dvs) H Q E) :
    wpAny (model X.prog X.w) X.A (call (.ref f) us) (EP X pins σ Q) X.xe s := by
  have both : Vals (vs ++ dvs) (us ++ ds) := r.append hd
  have many : (us ++ ds).length = ps.length := both.length.symm.trans (F.args _ _ _ _ h)
  have it := F.runs X.A X.stack s H ⟨us, []⟩ (us ++ ds) (vs ++ dvs) Q E free hr I.env0 (hb s us I.kIn many) both h
  refine wpAny_call (codeAny_mono it fun out s' told => ?_)
  match out, told with
  | .error e, told => exact hx pins σ H s e s' I told
  | .ok (.ret u), told => exact I.after told
  | .ok .next, told => exact told.elim
  | .ok .brk, told => exact told.elim
  | .ok .cont, told => exact told.elim
theorem pe_callG (F : FnG X.prog X.w X.K X.mg X.base CX k f fd ps sp) (free : X.A.guards = some []) (hr : Room k X.A)
    (hg : Gl X x) (hm : X.mg x = some (.ref f)) (hk : PySem.W.keepIn X.K (.ref f) = true)
    (hb : Binds X.K fd ps ds) (hd : Vals dvs ds) (hx : Passes CX X E) (ha : PA X (e :: es) t)
    (n1 : (x == ("__debug__" : Str)) = false := by decide)
    (n2 : starEach (e :: es) X.env = (false, eval e X.env) :: starEach es X.env := by rfl)
    (n3 : (backTo pos (starEach es X.env)).any (·.1) = false := by rfl) :
    PE X (.Call (.Name x p) (e :: es) [] pos) (tCall sp dvs E t) :=
  ⟨fun pins s σ H Q I h => wpAny_Call_Name_kw (ld_glob I hg hm
    (PySem.W.callWith_K (h₀ := X.base) I.ok.mod.kin hk
      (thn (ha.run pos pins s σ H _ I h) fun us s1 ⟨vs, H1, I1, r, q⟩ =>
        ⟨I1.kIn, goes F free hr hb hd hx I1 r q⟩) n2 n3) n1)⟩
end
/-- a def's body, where nothing is under repr -/
theorem fnG_of {CX : CXT} {P : Program} {w : World} {K : PySem.W.Frag} {mg : Str → Option Value} {base : Heap} {k : Nat}
    {f : Addr} {name qual : Str} {params : Arguments} {body : List Stmt} {scope : Scope} {dV kV doc pm cdv ct oc : Value}
    {an od : Option Addr} {osl : Array (Option Value)} {N ps : List Str} {sp : Sp}
    (lk : K.lookup f = some ⟨oc, od, .func (PySem.W.fnOf name qual params body scope dV kV doc pm an cdv ct), osl⟩)
    (coded : PySem.W.codeIn K cdv qual = true) (S : FnScope N ps scope)
    (len : ∀ zs G R W, sp zs G R W → zs.length = ps.length)
    (inner : ∀ (B : Around) (around : List Env) (t : Shared) (G : Hp) (zs : List V) (R : VK) (W : XK), B.guards = some [] →
      Room k (B.deeper (envOfC qual scope t.heap.objs.size f cdv)) → sp zs G R W →
      ∃ tb, PSs (cxOf CX P w K mg base N qual scope f cdv B around t G W) body tb ∧
        tb { nx := fun _ G' => R .non G', rt := R } (start N zs) G) :
    FnG P w K mg base CX (k + 1) f (PySem.W.fnOf name qual params body scope dV kV doc pm an cdv ct) ps sp := by
  refine ⟨len, fun B around t G given bound zs R W free room e0 bd rel asked => ?_⟩
  have many := len _ _ _ _ asked
  have KX : K.In t.heap := e0.mod.kin.keeps fun b o z => (e0.bs b o z).1
  have lim : t.heap.NoLimit := e0.mod.nolimit.keeps fun b o z => (e0.bs b o z).1
  have kinds : ∀ y ∈ ps.zip bound, scope.names.lookup y.1 = some .local ∨
      (scope.names.lookup y.1 = some .cell ∧ ((cellsFrom (t.heap.objs.size + 1) scope.names []).lookup y.1).isSome = true) := by
    intro y hy
    cases S.par y.1 (List.of_mem_zip hy).1 with
    | inl q => exact .inl q
    | inr q => exact .inr ⟨q, PySem.W.cellsFrom_some _ _ _ (.inl q)⟩
  refine codeAny_call_function room.depth (KX _ _ lk) rfl S.co S.gen rfl (PySem.W.codeRec_of KX coded) (bd _ _ _ _ ?_)
  refine wpAny_newFunctionEnv_cells S.kind kinds fun env same t1 made => ?_
  subst same
  refine ⟨lim.keeps made.toInCall.keep, codeAny_func ?_⟩
  obtain ⟨tb, derived, holds⟩ := inner B around t G zs R W free (room.deeper _) asked
  have J : Inv (cxOf CX P w K mg base N qual scope f cdv B around t G W) [] (start N zs) G t1 :=
    inv_start S room.hd e0 many rel made
  refine wpAny_mono (derived.run [] t1 (start N zs) G _ J holds) (fun fl t' told => ?_) fun e t' told => told
  match fl, told with
  | .ret u, ⟨v, σ', G', J', rv, q⟩ => exact ⟨v, G', J'.os, J'.bare, J'.base, J'.hok, rv, q⟩
  | .next, ⟨σ', G', J', q⟩ => exact ⟨V.non, G', J'.os, J'.bare, J'.base, J'.hok, (rfl : Value.none = Value.none), q⟩
  | .brk, ⟨_, _, _, q⟩ => exact q.elim
  | .cont, ⟨_, _, _, q⟩ => exact q.elim
theorem okG {P : Program} {w : World} {K : PySem.W.Frag} {mg : Str → Option Value} {base : Heap} {x qual : Str} {st : Stmt}
    {f : Addr} {fd : FuncData} {N ps : List Str} {k : Nat} {sp : Sp} (F : Fun K x qual st f fd) (S : FnScope N ps (defScope st))
    (len : ∀ zs G R W, sp zs G R W → zs.length = ps.length)
    (inner : ∀ (cdv : Value) (B : Around) (around : List Env) (t : Shared) (G : Hp) (zs : List V) (R : VK) (W : XK), B.guards = some [] →
      Room k (B.deeper (envOfC qual (defScope st) t.heap.objs.size f cdv)) → sp zs G R W →
      ∃ tb, PSs (cxOf CX0 P w K mg base N qual (defScope st) f cdv B around t G W).nox (defBody st) tb ∧
        tb { nx := fun _ G' => R .non G', rt := R } (start N zs) G) :
    FnG P w K mg base CX0 (k + 1) f fd ps sp := by
  obtain ⟨oc, od, kV, doc, pm, an, cdv, ct, osl, rfl, lk, coded⟩ := F.ex
  refine fnG_of lk coded S len fun B around t G zs R W free room asked => ?_
  obtain ⟨tb, derived, holds⟩ := inner cdv B around t G zs R W free room asked
  exact ⟨tb, derived.nox, holds⟩
/-- the law's own call -/
theorem law_callG {P : Program} {w : World} {K : PySem.W.Frag} {mg mb : Str → Option Value} {CX : CXT} {k : Nat} {fa a : Addr}
    {fd : FuncData} {x : Str} {sp : Sp} {s₁ : Shared} {vs : List Value} {ns : List Int}
    (KX : K.In s₁.heap) (gl : s₁.heap.Ns mainGlobals mg) (bl : s₁.heap.Ns builtinsNs mb)
    (boot : ∀ x : Str, x ≠ "__name__" → mb x = bootBuiltins x) (lim : s₁.heap.NoLimit) (nogens : s₁.gens = #[])
    (at_ : s₁.heap.get? a = some { cls := .type "list", data := .seq vs.toArray }) (nums : IntsAre vs ns) (short : ns.length ≤ sizeLine)
    (room : Room k callerA)
    (F : ∀ base : Heap, K.In base → base.Ns mainGlobals mg → FnG P w K mg base CX k fa fd [x] sp)
    (bound : ∀ (s : Shared) (u : Value), BindsTo s fd ⟨[u], []⟩ [(x, u)])
    (asked : ∀ H : Hp, Only H → SqL K H a (ns.map V.int) → sp [.ref a] H (fun v _ => v = .bl true) fun _ _ _ => False)
    (never : ∀ H e s', CX [] H s₁ (fun _ _ _ => False) e s' → False) :
    codeAny (model P w) callerA (.call (.ref fa) ⟨[.ref a], []⟩)
      (fun r s' => r = .ok (.ret (.bool true)) ∧ OldK s₁.heap s'.heap ∧ s'.os = s₁.os ∧ AllBare s'.gens) s₁ := by
  have rel := vals_ints nums
  have many := nums.length
  have from_ : ∀ H : Hp, Only H → SqL K H a (ns.map V.int) → HOk P w H s₁.heap → (∀ b, H b ≠ none → b = a) →
      (H a ≠ none → K.lookup a = none) → codeAny (model P w) callerA (.call (.ref fa) ⟨[.ref a], []⟩)
        (fun r s' => r = .ok (.ret (.bool true)) ∧ OldK s₁.heap s'.heap ∧ s'.os = s₁.os ∧ AllBare s'.gens) s₁ := by
    intro H only seq fine one away
    have down : ∀ {b : Addr} {o : Obj}, s₁.heap.get? b = some o → H b = none →
      (hidT s₁.heap H).get? b = some o := fun e n => hidT_get e n
    have untracked : ∀ {b : Addr} {o : Obj}, s₁.heap.get? b = some o → (b = a → False) → H b = none := by
      intro b o _ n
      by_cases q : H b = none
      · exact q
      · exact (n (one b q)).elim
    have nodict : ∀ {b : Addr} {o : Obj} {es : Array DictEntry} {ep : Nat},
        s₁.heap.get? b = some o → o.data = .dict es ep → H b = none := by
      intro b o es ep e d
      refine untracked e fun q => ?_
      rw [q, at_] at e
      have e' := Option.some.inj e
      rw [← e'] at d
      have d' : Data.seq vs.toArray _ = Data.dict es ep := d
      exact absurd d' (fun h => by cases h)
    have spaces : ∀ {b : Addr} {m : Str → Option Value}, s₁.heap.Ns b m → (hidT s₁.heap H).Ns b m := by
      intro b m ns
      obtain ⟨o, es, ep, e, d, r⟩ := ns
      exact ⟨o, es, ep, down e (nodict e d), d, r⟩
    have written : K.In (hidT s₁.heap H) := by
      intro b o e
      refine down (KX b o e) ?_
      by_cases q : H b = none
      · exact q
      · have same := one b q
        rw [same] at q e
        rw [away q] at e
        cases e
    have md : Mod K mg (hidT s₁.heap H) := by
      obtain ⟨mc, h1, h2⟩ := lim
      exact ⟨written, spaces gl, ⟨mb, spaces bl, boot⟩, ⟨mc, spaces h1, h2⟩⟩
    have e0 : Env0 P w K mg (hidT s₁.heap H) callerA [] s₁ H :=
      ⟨rfl, md, fun b o e => of_hidT e, Nat.le_of_eq (hidT_size _ _), trivial,
        fun b hb => (List.not_mem_nil (show b ∈ ([] : List Addr) from hb)).elim, fine, .of_eq nogens⟩
    have it := (F _ written (spaces gl)).runs callerA [] s₁ H ⟨[.ref a], []⟩ [.ref a] [.ref a] _ _ rfl room e0
      (bound s₁ (.ref a)) (.cons rfl .nil) (asked H only seq)
    refine codeAny_mono it fun out s' told => ?_
    match out, told with
    | .error e, told => exact (never H e s' told).elim
    | .ok .next, told => exact told.elim
    | .ok .brk, told => exact told.elim
    | .ok .cont, told => exact told.elim
    | .ok (.ret u), ⟨v, H', os, bare, un, fine', r', q⟩ =>
      have q' : v = .bl true := q
      subst q'
      have u' : u = Value.bool true := r'
      subst u'
      refine ⟨rfl, OldK.of_keep fun b o e => ?_, os, bare⟩
      cases q : H b with
      | none => exact un.keep b o e q (fun z => (List.not_mem_nil (show b ∈ ([] : List Addr) from z)).elim) (List.not_mem_nil)
      | some u =>
        rcases only b with z | ⟨ob, xs, z⟩
        · have z1 := q.symm.trans z
          cases z1
        · have z' := un.frzs b ob _ z
          have e1 := (fine b _ z).1
          have e2 := (fine' b _ z').1
          exact e2.trans (e1.symm.trans e)
  cases known : K.lookup a with
  | some o =>
    have e := (KX a o known).symm.trans at_
    have e' := Option.some.inj e
    subst e'
    refine from_ (fun _ => none) (fun _ => .inl rfl) (.inr ⟨_, vs.toArray, _, known, rfl, rfl, rfl, ?_, ?_⟩)
      (fun b u z => by have z1 : (none : Option HO) = some u := z; cases z1) (fun b z => (z rfl).elim) fun z => (z rfl).elim
    · rw [List.size_toArray, many]; exact short
    · simpa using rel
  | none =>
    have self : (fun b => if b = a then some (HO.frz { cls := .type "list", data := .seq vs.toArray } (.lst (ns.map V.int))) else none) a
        = some (HO.frz { cls := .type "list", data := .seq vs.toArray } (.lst (ns.map V.int))) := if_pos rfl
    refine from_ (fun b => if b = a then some (HO.frz { cls := .type "list", data := .seq vs.toArray } (.lst (ns.map V.int))) else none)
      (fun b => ?_) (.inl (.inr ⟨_, self⟩)) (fun b u z => ?_) (fun b z => ?_) fun _ => known
    · by_cases same : b = a
      · exact .inr ⟨_, _, if_pos same⟩
      · exact .inl (if_neg same)
    · by_cases same : b = a
      · subst same
        have z' := Option.some.inj ((if_pos rfl).symm.trans z)
        subst z'
        exact ⟨at_, by rw [List.length_map]; exact short, vs, _, rel, at_⟩
      · have z1 := (if_neg same).symm.trans z
        cases z1
    · by_cases same : b = a
      · exact same
      · exact (z (if_neg same)).elim
theorem walk_ofG {l : PySem.W.OpenLaw} {n k : Nat} {q : Program} {loose : List Str} {XP : (Str → Option Value) → Heap → Prop}
    {YP : World → Heap → Prop} {d : DefRec} {K : Params → PySem.W.Frag} {sp : PySem.W.Frag → Sp} {x : Str}
    (hn : l.most = some n) (hn2 : n ≤ sizeLine) (hdf : d.params.defaults = []) (room : Room k callerA)
    (hY : ∀ (w : World) (h : Heap), YP w h → (K w.params).In h)
    (F : ∀ (w : World) (mg : Str → Option Value) (fa : Addr) (h : Heap), (K w.params).In h → h.Ns mainGlobals mg →
      mg d.name = some (.ref fa) → ∃ fd : FuncData, (∀ (s : Shared) (u : Value), BindsTo s fd ⟨[u], []⟩ [(x, u)]) ∧
        ∀ base : Heap, (K w.params).In base → base.Ns mainGlobals mg →
          FnG l.prog w (K w.params) mg base CX0 k fa fd [x] (sp (K w.params)))
    (asked : ∀ (K : PySem.W.Frag) (H : Hp) (a : Addr) (ns : List Int), ns.length ≤ n → Only H → SqL K H a (ns.map V.int) →
      sp K [.ref a] H (fun v _ => v = .bl true) fun _ _ _ => False) :
    PySem.W.WalkO q loose XP YP l.row.toRowW d [] (fun f vs => PySem.call f vs) := by
  refine Att.attach_call hn hdf fun w s₀ s₁ mg mb fa o pm cd doc a vs ns G Y ho hd hcd named obj nums few nogens => ?_
  have KX := hY w _ Y
  obtain ⟨fd, bound, all⟩ := F w mg fa _ KX G.T.g named
  exact law_callG KX G.T.g G.T.b G.T.builtins G.T.nolimit nogens obj nums (Nat.le_trans few hn2) room all bound
    (fun H only seq => asked _ H a ns few only seq) fun H e s' z => z
end G0
namespace G0
open PySem PySem.Spec PyProof.Rows L2
/-! ### a def of the module's top, by its name -/
def Fn (K : PySem.W.Frag) (mg : Str → Option Value) (x : Str) (st : Stmt) : Prop :=
  ∃ f fd, Fun K x x st f fd ∧ mg x = some (.ref f)
def Cal (P : Program) (w : World) (K : PySem.W.Frag) (mg : Str → Option Value) (base : Heap) (x : Str) (k : Nat) (ps : List Str) (sp : Sp) : Prop :=
  ∃ f fd, FnG P w K mg base CX0 k f fd ps sp ∧ Binds K fd ps [] ∧ mg x = some (.ref f) ∧ PySem.W.keepIn K (.ref f) = true ∧
    ∃ oc od osl, K.lookup f = some ⟨oc, od, .func fd, osl⟩
theorem fn_top {K : PySem.W.Frag} {h : Heap} {mg : Str → Option Value} {x : Str} {st : Stmt} {f : Addr} {oc : Value} {od an : Option Addr}
    {osl : Array (Option Value)} {kV doc pm cdv ct : Value} (X : K.In h) (G : h.Ns mainGlobals mg)
    (a : PySem.W.nsIn K mainGlobals x = some (some (.ref f)))
    (l : K.lookup f = some ⟨oc, od, .func (PySem.W.fnOf x x (defArgs st) (defBody st) (defScope st) .none kV doc pm an cdv ct), osl⟩)
    (c : PySem.W.codeIn K cdv x = true) (k : PySem.W.keepIn K (.ref f) = true) : Fn K mg x st :=
  ⟨f, _, fun_mk l c k, PySem.W.mg_of X G a⟩
/-- a method of the class at C -/
def Fm (K : PySem.W.Frag) (C : Addr) (x qual : Str) (st : Stmt) : Prop := ∃ f fd, Fun K x qual st f fd ∧ Meth K C x f
theorem fm_top {K : PySem.W.Frag} {C : Addr} {x qual : Str} {st : Stmt} {f : Addr} {oc : Value} {od an : Option Addr}
    {osl : Array (Option Value)} {kV doc pm cdv ct : Value}
    (a : PySem.W.findIn K (.ref C) x = some (some (.ref f))) (i : PySem.W.isFn K (.ref f) = true)
    (l : K.lookup f = some ⟨oc, od, .func (PySem.W.fnOf x qual (defArgs st) (defBody st) (defScope st) .none kV doc pm an cdv ct), osl⟩)
    (c : PySem.W.codeIn K cdv qual = true) (k : PySem.W.keepIn K (.ref f) = true) : Fm K C x qual st :=
  ⟨f, _, fun_mk l c k, ⟨a, i, k⟩⟩
section
variable {P : Program} {w : World} {K : PySem.W.Frag} {mg : Str → Option Value} {base : Heap}
theorem cal_of {x : Str} {st : Stmt} {N ps : List Str} {k : Nat} {sp : Sp} (F : Fn K mg x st) (S : FnScope N ps (defScope st))
    (bd : ∀ (kV doc pm : Value) (an : Option Addr) (cdv ct : Value) (us : List Value), us.length = ps.length →
      bindArgs (PySem.W.fnOf x x (defArgs st) (defBody st) (defScope st) .none kV doc pm an cdv ct) ⟨us, []⟩ = pure (ps.zip us))
    (len : ∀ zs G R W, sp zs G R W → zs.length = ps.length)
    (inner : ∀ (f : Addr) (cdv : Value) (B : Around) (around : List Env) (t : Shared) (G : Hp) (zs : List V) (R : VK) (W : XK), B.guards = some [] →
      Room k (B.deeper (envOfC x (defScope st) t.heap.objs.size f cdv)) → sp zs G R W →
      ∃ tb, PSs (cxOf CX0 P w K mg base N x (defScope st) f cdv B around t G W).nox (defBody st) tb ∧
        tb { nx := fun _ G' => R .non G', rt := R } (start N zs) G) :
    Cal P w K mg base x (k + 1) ps sp := by
  obtain ⟨f, fd, F, m⟩ := F
  obtain ⟨oc, od, kV, doc, pm, an, cdv, ct, osl, e, lk, c⟩ := id F.ex
  exact ⟨f, fd, okG F S len (inner f), F.binds bd, m, F.kp, oc, od, osl, lk⟩
theorem Cal.mono {x : Str} {j k : Nat} {ps : List Str} {sp : Sp} (C : Cal P w K mg base x j ps sp) (h : j ≤ k) : Cal P w K mg base x k ps sp := by
  obtain ⟨f, fd, F, r⟩ := C
  exact ⟨f, fd, F.mono h, r⟩
/-- the law itself, at the end -/
theorem law_end {st : Stmt} {k : Nat} {sp : Sp} {fa : Addr} (F : Fn K mg "law" st) (hm : mg "law" = some (.ref fa))
    (bt : ∀ (kV doc pm : Value) (an : Option Addr) (cdv ct : Value) (s : Shared) (v : Value),
      BindsTo s (PySem.W.fnOf "law" "law" (defArgs st) (defBody st) (defScope st) .none kV doc pm an cdv ct) ⟨[v], []⟩ [("script", v)])
    (C : ∀ base : Heap, K.In base → base.Ns mainGlobals mg → Cal P w K mg base "law" k ["script"] sp) :
    ∃ fd : FuncData, (∀ (s : Shared) (v : Value), BindsTo s fd ⟨[v], []⟩ [("script", v)]) ∧
      ∀ base : Heap, K.In base → base.Ns mainGlobals mg → FnG P w K mg base CX0 k fa fd ["script"] sp := by
  obtain ⟨f, fd, F, m⟩ := F
  obtain ⟨oc, od, kV, doc, pm, an, cdv, ct, osl, e, lk, c⟩ := id F.ex
  have ef := m.symm.trans hm
  cases ef
  refine ⟨fd, fun s v => by rw [e]; exact bt _ _ _ _ _ _ s v, fun base kin ns => ?_⟩
  obtain ⟨f', fd', G, _, m', _, oc', od', osl', lk'⟩ := C base kin ns
  have ef := m.symm.trans m'
  cases ef
  have ed := lk.symm.trans lk'
  cases ed
  exact G
end
section
variable {X : Cx} {k : Nat} {ps : List Str} {sp : Sp} {x : Str} {p pos : Pos} {e : Expr} {es : List Expr} {t : TA}
theorem pe_cal (C : Cal X.prog X.w X.K X.mg X.base x k ps sp) (free : X.A.guards = some []) (hr : Room k X.A)
    (ha : PA X (e :: es) t) (hg : Gl X x := by rfl) (n1 : (x == ("__debug__" : Str)) = false := by decide)
    (n2 : starEach (e :: es) X.env = (false, eval e X.env) :: starEach es X.env := by rfl)
    (n3 : (backTo pos (starEach es X.env)).any (·.1) = false := by rfl) (hx : Passes CX0 X E0 := by exact pass0) :
    PE X (.Call (.Name x p) (e :: es) [] pos) (tCall sp [] E0 t) := by
  obtain ⟨f, fd, F, b, m, kp, _⟩ := C
  exact pe_callG F free hr hg m kp b .nil hx ha n1 n2 n3
/-! ### repr of data -/
def rRep (K : PySem.W.Frag) : List V → Hp → VK → Prop := fun xs H Q => ∃ (x : V) (d : PyData), xs = [x] ∧ Dp K H x d ∧
  d.showable = true ∧ d.hasDict = false ∧ d.depth ≤ 64 ∧ d.shown.length ≤ sizeLine ∧ Q (.str d.shown) H
theorem call_rep (free : X.A.guards = some []) (hu : X.A.units + 66 < cLine) : CallR X (.builtin "repr") (rRep X.K) := by
  intro pins s σ H xs us Q I r h
  obtain ⟨x, d, rfl, hd, hs, hn, h64, hz, q⟩ := h
  obtain ⟨u, rfl, rx⟩ := vals1 r
  have viaRef : ∀ (a : Addr), x = .ref a → wpAny (model X.prog X.w) X.A (call (.builtin "repr") [u]) (EP X pins σ Q) X.xe s := by
    intro a e
    subst e
    obtain rfl : u = Value.ref a := rx
    obtain ⟨as, rd⟩ := Dp.reads I d _ _ hd (rfl : RelV (.ref a) (.ref a))
    exact repr_of_reads' rd hs (PyData.noDict_hsm hn) free (by omega) (fun _ _ e => e)
      (fun h' w t kp => ⟨.str d.shown, H, I.kept (t' := t) kp, ⟨_, rfl⟩, q⟩) hz
  cases hd with
  | non =>
    obtain rfl : u = Value.none := rx
    exact PySem.P.repr_of_none ⟨.str _, H, I.tok _, ⟨_, rfl⟩, by simpa only [PyData.shown] using q⟩
  | bl b =>
    obtain rfl : u = Value.bool b := rx
    exact PySem.P.repr_of_bool ⟨.str _, H, I.tok _, ⟨_, rfl⟩, by simpa only [PyData.shown] using q⟩
  | int i =>
    obtain ⟨t, rfl⟩ := rx
    exact PySem.P.repr_of_int (by simpa [PyData.showable] using hs) ⟨.str _, H, I.tok _, ⟨_, rfl⟩, by simpa only [PyData.shown] using q⟩
  | str z =>
    obtain ⟨t, rfl⟩ := rx
    exact PySem.P.repr_of_str ⟨.str _, H, I.tok _, ⟨_, rfl⟩, by simpa only [PyData.shown] using q⟩ (by simpa only [PyData.shown] using hz)
  | lst _ _ => exact viaRef _ rfl
  | tup _ _ => exact viaRef _ rfl
/-! ### operators of several kinds in one -/
theorem u_eq (hu : X.A.units + 64 < cLine) : OpR X (compareOp .Eq) (fun x y H Q => rEq x y H Q ∨ rEqD X.K x y H Q) := op_eq.or (op_eqD hu)
theorem u_ne (hu : X.A.units + 64 < cLine) : OpR X (compareOp .NotEq) (fun x y H Q => rNe x y H Q ∨ rNeD X.K x y H Q) := op_ne.or (op_neD hu)
theorem u_in : OpR X (compareOp .In) (fun x y H Q => rIn X.K false x y H Q ∨ rInS x y H Q) := op_in_seq.or op_inS
theorem u_notin : OpR X (compareOp .NotIn) (fun x y H Q => rIn X.K true x y H Q ∨ rNotInS x y H Q) := op_notIn_seq.or op_notInS
end
theorem pe_fldK {X : Cx} {e : Expr} {f : Str} {pos : Pos} {ta : TE} (K : PySem.W.Frag) (ha : PE X e ta) (hK : X.K = K := by rfl)
    (hb : attributeBase e f X.env (eval e X.env) = eval e X.env := by rfl) : PE X (.Attribute e f pos) (tFld K ta f) := by
  subst hK
  exact pe_fld ha hb
/-! ### the written part named, for what stands within a comprehension -/
theorem op_K {X : Cx} {f : Value → Value → Sem Value} (r : PySem.W.Frag → R2) (K : PySem.W.Frag) (ho : OpR X f (r X.K)) (hK : X.K = K) : OpR X f (r K) := hK ▸ ho
theorem ix_K {X : Cx} (r : PySem.W.Frag → R2) (K : PySem.W.Frag) (ho : IxR X (r X.K)) (hK : X.K = K) : IxR X (r K) := hK ▸ ho
theorem call_K {X : Cx} {f : Value} (r : PySem.W.Frag → List V → Hp → VK → Prop) (K : PySem.W.Frag) (ho : CallR X f (r X.K)) (hK : X.K = K) : CallR X f (r K) := hK ▸ ho
section
variable {X : Cx} (K : PySem.W.Frag)
theorem u_inK (hK : X.K = K := by rfl) : OpR X (compareOp .In) (fun x y H Q => rIn K false x y H Q ∨ rInS x y H Q) := op_K (fun K x y H Q => rIn K false x y H Q ∨ rInS x y H Q) K u_in hK
theorem u_notinK (hK : X.K = K := by rfl) : OpR X (compareOp .NotIn) (fun x y H Q => rIn K true x y H Q ∨ rNotInS x y H Q) := op_K (fun K x y H Q => rIn K true x y H Q ∨ rNotInS x y H Q) K u_notin hK
theorem ix_listK (hK : X.K = K := by rfl) : IxR X (rIxL K) := ix_K rIxL K ix_list hK
theorem ix_tupK (hK : X.K = K := by rfl) : IxR X (rIxT K) := ix_K rIxT K ix_tup hK
theorem ix_seqK (hK : X.K = K := by rfl) : IxR X (rIx K) := ix_K rIx K ix_seq hK
theorem call_len_seqK (hK : X.K = K := by rfl) : CallR X (.builtin "len") (fun xs H Q => ∃ p ys, xs = [.ref p] ∧ (SqL K H p ys ∨ SqT K H p ys) ∧ Q (.int ys.length) H) :=
  call_K (fun K xs H Q => ∃ p ys, xs = [.ref p] ∧ (SqL K H p ys ∨ SqT K H p ys) ∧ Q (.int ys.length) H) K call_len_seq hK
end
/-! ### what changes: one list -/
/-- all that is tracked but p stays -/
def Chg (p : Addr) (H H' : Hp) : Prop := ∀ b o, b ≠ p → H b = some o → H' b = some o
theorem Chg.refl (p : Addr) (H : Hp) : Chg p H H := fun _ _ _ e => e
theorem Chg.trans {p : Addr} {H H1 H2 : Hp} (a : Chg p H H1) (b : Chg p H1 H2) : Chg p H H2 := fun c o n e => b c o n (a c o n e)
theorem Chg.self {p : Addr} {H : Hp} {o : HO} : Chg p H (upd H p o) := fun b u n e => by rw [upd_ne n]; exact e
theorem Chg.new {p q : Addr} {H H1 : Hp} {o : HO} (a : Chg p H H1) (n : H1 q = none) : Chg p H (upd H1 q o) := fun b u m e => by
  rw [upd_ne (ne_of_none (a b u m e) n)]; exact a b u m e
theorem Chg.same {p : Addr} {H H1 : Hp} (a : Same H H1) : Chg p H H1 := fun b o _ e => a b o e
theorem same_upd {H : Hp} {q : Addr} {o : HO} (n : H q = none) : Same H (upd H q o) := fun b u e => by
  rw [upd_ne (ne_of_none e n)]; exact e
/-! ### a law's draws: the pot -/
def PotL (n : Nat) (xs : List V) : Prop := ∃ a b c : Int, xs = [.int a, .int b, .int c] ∧ 0 ≤ a ∧ 0 ≤ b ∧ b < 2305843009213693951 ∧ 0 ≤ c ∧ c ≤ n
def PotAt (n : Nat) (H : Hp) (p : Addr) : Prop := ∃ xs, H p = some (.lst xs) ∧ PotL n xs
theorem PotL.mono {n m : Nat} {xs : List V} (h : PotL n xs) (le : n ≤ m) : PotL m xs := by
  obtain ⟨a, b, c, e, h1, h2, h3, h4, h5⟩ := h
  exact ⟨a, b, c, e, h1, h2, h3, h4, by omega⟩
theorem PotAt.mono {n m : Nat} {H : Hp} {p : Addr} (h : PotAt n H p) (le : n ≤ m) : PotAt m H p := by
  obtain ⟨xs, e, h⟩ := h
  exact ⟨xs, e, h.mono le⟩
theorem PotAt.keep {n : Nat} {H H' : Hp} {p : Addr} (h : PotAt n H p) (s : Same H H') : PotAt n H' p := by
  obtain ⟨xs, e, h⟩ := h
  exact ⟨xs, s _ _ e, h⟩
theorem PotAt.at {n : Nat} {H : Hp} {p : Addr} {xs : List V} (h : PotL n xs) : PotAt n (upd H p (.lst xs)) p := ⟨xs, upd_same, h⟩
end G0
namespace G0
open PySem PySem.Spec PyProof.Rows L2
/-! ### data -/
mutual
def noL : PyData → Bool
  | .none | .bool _ | .int _ | .str _ => true
  | .list _ | .dict _ => false
  | .tuple xs => noLs xs
def noLs : List PyData → Bool
  | [] => true
  | x :: xs => noL x && noLs xs
end
section
variable {K : PySem.W.Frag} {H H' : Hp} {p : Addr}
theorem sqt_chg (hp : ∃ xs, H p = some (.lst xs)) (c : Chg p H H') {a : Addr} {xs : List V} (h : SqT K H a xs) : SqT K H' a xs := by
  obtain ⟨ys, hp⟩ := hp
  rcases h with (h | ⟨o, h⟩) | h
  · exact .inl (.inl (c _ _ (ne_of h hp (by intro z; cases z)) h))
  · exact .inl (.inr ⟨o, c _ _ (ne_of h hp (by intro z; cases z)) h⟩)
  · exact .inr h
theorem sqt_same (c : Same H H') {a : Addr} {xs : List V} (h : SqT K H a xs) : SqT K H' a xs := by
  rcases h with (h | ⟨o, h⟩) | h
  · exact .inl (.inl (c _ _ h))
  · exact .inl (.inr ⟨o, c _ _ h⟩)
  · exact .inr h
mutual
theorem dp_chg (hp : ∃ xs, H p = some (.lst xs)) (c : Chg p H H') : ∀ (d : PyData) (v : V), noL d = true → Dp K H v d → Dp K H' v d
  | .none, _, _, h => by cases h; exact .non
  | .bool _, _, _, h => by cases h; exact .bl _
  | .int _, _, _, h => by cases h; exact .int _
  | .str _, _, _, h => by cases h; exact .str _
  | .list _, _, n, _ => by simp [noL] at n
  | .dict _, _, n, _ => by simp [noL] at n
  | .tuple ds, _, n, h => by
    cases h with
    | tup hs ha => exact .tup (sqt_chg hp c hs) (dps_chg hp c ds _ (by simpa [noL] using n) ha)
theorem dps_chg (hp : ∃ xs, H p = some (.lst xs)) (c : Chg p H H') : ∀ (ds : List PyData) (vs : List V), noLs ds = true → DpAll K H vs ds → DpAll K H' vs ds
  | [], _, _, h => by cases h; exact .nil
  | d :: ds, _, n, h => by
    simp only [noLs, Bool.and_eq_true] at n
    cases h with
    | cons h1 h2 => exact .cons (dp_chg hp c d _ n.1 h1) (dps_chg hp c ds _ n.2 h2)
end
mutual
theorem dp_same (c : Same H H') : ∀ (d : PyData) (v : V), Dp K H v d → Dp K H' v d
  | .none, _, h => by cases h; exact .non
  | .bool _, _, h => by cases h; exact .bl _
  | .int _, _, h => by cases h; exact .int _
  | .str _, _, h => by cases h; exact .str _
  | .list ds, _, h => by
    cases h with
    | lst hs ha => exact .lst (c.seq hs) (dps_same c ds _ ha)
  | .dict _, _, h => by cases h
  | .tuple ds, _, h => by
    cases h with
    | tup hs ha => exact .tup (sqt_same c hs) (dps_same c ds _ ha)
theorem dps_same (c : Same H H') : ∀ (ds : List PyData) (vs : List V), DpAll K H vs ds → DpAll K H' vs ds
  | [], _, h => by cases h; exact .nil
  | d :: ds, _, h => by
    cases h with
    | cons h1 h2 => exact .cons (dp_same c d _ h1) (dps_same c ds _ h2)
end
theorem dps_app {vs ws : List V} {ds es : List PyData} : DpAll K H vs ds → DpAll K H ws es → DpAll K H (vs ++ ws) (ds ++ es) := by
  intro h g
  match vs, ds, h with
  | [], [], _ => exact g
  | _ :: _, _ :: _, .cons h1 h2 => exact .cons h1 (dps_app h2 g)
theorem dps_len {vs : List V} {ds : List PyData} : DpAll K H vs ds → vs.length = ds.length := by
  intro h
  match vs, ds, h with
  | [], [], _ => rfl
  | _ :: _, _ :: _, .cons _ h2 => exact congrArg (· + 1) (dps_len h2)
end
theorem noLs_of : ∀ {ds : List PyData}, (∀ d ∈ ds, noL d = true) → noLs ds = true
  | [], _ => rfl
  | d :: ds, h => by
    simp only [noLs, Bool.and_eq_true]
    exact ⟨h d (List.mem_cons_self ..), noLs_of fun x hx => h x (List.mem_cons_of_mem _ hx)⟩
/-! ### things and letters -/
inductive Thing : Nat → PyData → Prop
  | num {n : Nat} {i : Int} : 0 ≤ i → i < 10 ^ 60 → Thing n (.int i)
  | tup {n : Nat} {ds : List PyData} : ds.length ≤ 2 → (∀ d ∈ ds, Thing n d) → Thing (n + 1) (.tuple ds)
theorem Thing.noL {n : Nat} {d : PyData} (h : Thing n d) : noL d = true := by
  induction h with
  | num _ _ => rfl
  | tup _ _ ih =>
    simp only [G0.noL]
    exact noLs_of ih
theorem Thing.mono {n m : Nat} {d : PyData} (h : Thing n d) (le : n ≤ m) : Thing m d := by
  induction h generalizing m with
  | num a b => exact .num a b
  | tup l _ ih =>
    cases m with
    | zero => omega
    | succ m => exact .tup l fun d hd => ih d hd (by omega)
def WordOk (z : Str) : Prop := 1 ≤ z.length ∧ z.length ≤ 8 ∧ (∀ c ∈ z.cps.toList, 97 ≤ c ∧ c ≤ 122) ∧ z ≠ "gone"
def LetterD (d : PyData) : Prop := ∃ (z : Str) (ds : List PyData), d = .tuple (.str z :: ds) ∧ WordOk z ∧ ds.length ≤ 5 ∧ ∀ x ∈ ds, Thing 3 x
theorem LetterD.noL {d : PyData} (h : LetterD d) : noL d = true := by
  obtain ⟨z, ds, rfl, _, _, hd⟩ := h
  simp only [G0.noL, noLs, Bool.true_and]
  exact noLs_of fun x hx => (hd x hx).noL
theorem Chg.mut {p D : Addr} {H0 H1 : Hp} {o : HO} (a : Chg p H0 H1) (n : H0 D = none) : Chg p H0 (upd H1 D o) := fun b u m e => by
  rw [upd_ne (ne_of_none e n)]; exact a b u m e
theorem PotAt.ne {n : Nat} {H H' : Hp} {p D : Addr} {o : HO} (h : PotAt n H p) (d : p ≠ D) (e : H' = upd H D o) : PotAt n H' p := by
  obtain ⟨xs, q, r⟩ := h
  exact ⟨xs, by rw [e, upd_ne d]; exact q, r⟩
theorem PotAt.new {n : Nat} {H : Hp} {p D : Addr} {o : HO} (h : PotAt n H p) (d : H D = none) : PotAt n (upd H D o) p := h.keep (same_upd d)
theorem PotAt.neD {n : Nat} {H : Hp} {p D : Addr} (h : PotAt n H p) (d : H D = none) : p ≠ D := by
  obtain ⟨xs, q, r⟩ := h
  exact ne_of_none q d
theorem PotAt.lst {n : Nat} {H : Hp} {p : Addr} (h : PotAt n H p) : ∃ xs, H p = some (.lst xs) := by
  obtain ⟨xs, q, r⟩ := h
  exact ⟨xs, q⟩
theorem PotAt.neT {n : Nat} {H : Hp} {p t : Addr} {xs : List V} (h : PotAt n H p) (d : H t = some (.tup xs)) : t ≠ p := by
  obtain ⟨ys, q, r⟩ := h
  exact ne_of d q (by intro z; cases z)
theorem Cal.imp {P : Program} {w : World} {K : PySem.W.Frag} {mg : Str → Option Value} {base : Heap} {x : Str} {k : Nat} {ps : List Str} {sp sp' : Sp}
    (C : Cal P w K mg base x k ps sp) (h : ∀ vs H Q E, sp' vs H Q E → sp vs H Q E) : Cal P w K mg base x k ps sp' := by
  obtain ⟨f, fd, F, r⟩ := C
  exact ⟨f, fd, ⟨fun a b c d q => F.args _ _ _ _ (h _ _ _ _ q), fun A o s H args us vs Q E fr hr he hb hv hs => F.runs A o s H args us vs Q E fr hr he hb hv (h _ _ _ _ hs)⟩, r⟩
theorem cal_no {P : Program} {w : World} {K : PySem.W.Frag} {mg : Str → Option Value} {base : Heap} {x : Str} {st : Stmt} {ps : List Str} (F : Fn K mg x st)
    (bd : ∀ (kV doc pm : Value) (an : Option Addr) (cdv ct : Value) (us : List Value), us.length = ps.length →
      bindArgs (PySem.W.fnOf x x (defArgs st) (defBody st) (defScope st) .none kV doc pm an cdv ct) ⟨us, []⟩ = pure (ps.zip us)) :
    Cal P w K mg base x 0 ps (fun _ _ _ _ => False) := by
  obtain ⟨f, fd, F, m⟩ := F
  obtain ⟨oc, od, kV, doc, pm, an, cdv, ct, osl, e, lk, c⟩ := id F.ex
  exact ⟨f, fd, ⟨fun _ _ _ _ h => h.elim, fun _ _ _ _ _ _ _ _ _ _ _ _ _ _ h => h.elim⟩, F.binds bd, m, F.kp, oc, od, osl, lk⟩
/-! ### texts of small letters -/
theorem az : ∀ j : Fin 26, (("abcdefghijklmnopqrstuvwxyz" : Str).cps.toList)[j.val]? = some (97 + j.val) := by decide +kernel
theorem az_at {d : Int} (h0 : 0 ≤ d) (h1 : d < 26) : atI ("abcdefghijklmnopqrstuvwxyz" : Str).cps.toList d = some (97 + d.toNat) := by
  have e : d = ((d.toNat : Nat) : Int) := by omega
  have q := az ⟨d.toNat, by omega⟩
  rw [e]
  exact atI_nat q
def sg (c : Nat) : Str := ⟨#[c]⟩
open TL in
theorem joinL_sg : ∀ cs : List Nat, joinL [] (cs.map fun c => [c]) = cs
  | [] => rfl
  | [c] => rfl
  | c :: d :: r => by
    show [c] ++ ([] ++ joinL [] ((d :: r).map fun c => [c])) = c :: d :: r
    rw [joinL_sg (d :: r)]
    rfl
open TL in
theorem tl_of (z : Str) : tl z = z.cps.toList := rfl
open TL in
theorem join_sg (cs : List Nat) : (Txt.join "" (cs.map sg)).cps.toList = cs := by
  rw [join_eq, ← tl_of, tl_join]
  have e : (cs.map sg).map tl = cs.map fun c => [c] := by rw [List.map_map]; rfl
  rw [e]
  exact joinL_sg cs
open TL in
theorem join_sg_len (cs : List Nat) : (Txt.join "" (cs.map sg)).length = cs.length := by
  have e := congrArg List.length (join_sg cs)
  rw [← e]
  show _ = (Txt.join "" (cs.map sg)).cps.toList.length
  simp [Str.length]
theorem sum_sg : ∀ cs : List Nat, ((cs.map sg).map (·.length)).sum = cs.length
  | [] => rfl
  | c :: r => by
    show 1 + ((r.map sg).map (·.length)).sum = r.length + 1
    rw [sum_sg r]; omega

end G0
namespace G0
open PySem PySem.Spec PyProof.Rows L2
theorem iteF' {c : Bool} {A B : Prop} (e : c = false) (h : B) : if c = true then A else B := by rw [e]; exact iteF h
theorem iteT' {c : Bool} {A B : Prop} (e : c = true) (h : A) : if c = true then A else B := by rw [e]; exact iteT h
/-! ### several lists may change -/
def ChgS (S : List Addr) (H H' : Hp) : Prop := ∀ b o, b ∉ S → H b = some o → H' b = some o
section
variable {S : List Addr} {p q : Addr} {H H' H0 H1 H2 : Hp} {o : HO}
theorem ChgS.refl : ChgS S H H := fun _ _ _ e => e
theorem ChgS.trans (a : ChgS S H H1) (b : ChgS S H1 H2) : ChgS S H H2 := fun c o n e => b c o n (a c o n e)
theorem Chg.s (h : Chg p H H') (m : p ∈ S) : ChgS S H H' := fun b o n e => h b o (fun z => n (z ▸ m)) e
theorem Same.s (h : Same H H') : ChgS S H H' := fun b o _ e => h b o e
theorem ChgS.mono {T : List Addr} (h : ChgS S H H') (m : ∀ b ∈ S, b ∈ T) : ChgS T H H' := fun b o n e => h b o (fun z => n (m b z)) e
theorem ChgS.new (a : ChgS S H H1) (n : H1 q = none) : ChgS S H (upd H1 q o) := fun b u m e => by
  rw [upd_ne (ne_of_none (a b u m e) n)]; exact a b u m e
theorem ChgS.mut (a : ChgS S H H1) (n : H q = none) : ChgS S H (upd H1 q o) := fun b u m e => by
  rw [upd_ne (ne_of_none e n)]; exact a b u m e
theorem ChgS.put (a : ChgS S H H1) (m : q ∈ S) : ChgS S H (upd H1 q o) := fun b u n e => by
  have nb : b ≠ q := fun z => n (by rw [z]; exact m)
  rw [upd_ne nb]; exact a b u n e
/-- what is new behind was new ahead -/
theorem ChgS.back (a : ChgS S H H1) (n : H1 q = none) (m : q ∉ S) : H q = none := by
  cases e : H q with
  | none => rfl
  | some u => rw [a q u m e] at n; cases n
theorem Chg.back (a : Chg p H H1) (n : H1 q = none) (m : q ≠ p) : H q = none := by
  cases e : H q with
  | none => rfl
  | some u => rw [a q u m e] at n; cases n
theorem PotAt.keepS {n : Nat} (h : PotAt n H p) (s : ChgS S H H') (m : p ∉ S) : PotAt n H' p := by
  obtain ⟨xs, e, h⟩ := h
  exact ⟨xs, s _ _ m e, h⟩
end
/-! ### lists of ints -/
section
variable {K : PySem.W.Frag} {H : Hp}
theorem dps_ints : ∀ ns : List Int, DpAll K H (ns.map V.int) (ns.map PyData.int)
  | [] => .nil
  | n :: r => .cons (.int n) (dps_ints r)
theorem dp_ints {a : Addr} {ns : List Int} (h : H a = some (.lst (ns.map V.int))) : Dp K H (.ref a) (.list (ns.map PyData.int)) := .lst (SqL.of h) (dps_ints ns)
theorem lay_ints : ∀ ns : List Int, PyData.canLayAll0 (ns.map PyData.int) = true
  | [] => by simp [PyData.canLayAll0]
  | n :: r => by simp [PyData.canLayAll0, PyData.canLay0, lay_ints r]
theorem deep_ints : ∀ ns : List Int, PyData.depthAll (ns.map PyData.int) = 0
  | [] => by simp [PyData.depthAll]
  | n :: r => by simp [PyData.depthAll, PyData.depth, deep_ints r]
theorem shaped_ints (ns : List Int) : SeqAt.shaped (.list (ns.map PyData.int)) = true := by
  show ((PyData.list (ns.map PyData.int)).canLay0 && decide ((PyData.list (ns.map PyData.int)).depth ≤ 64)) = true
  simp [PyData.canLay0, PyData.depth, lay_ints, deep_ints]
theorem flat_ints : ∀ ns : List Int, (ns.map V.int).all flatV = true
  | [] => rfl
  | n :: r => by simp [flatV, flat_ints r]
theorem inV_ints (v : Int) : ∀ ns : List Int, inV (.int v) (ns.map V.int) = decide (v ∈ ns)
  | [] => by simp [inV]
  | n :: r => by
    have ih := inV_ints v r
    unfold inV at ih ⊢
    rw [List.map_cons, List.any_cons, ih]
    show ((n == v) || decide (v ∈ r)) = decide (v ∈ n :: r)
    by_cases e : n = v
    · subst e; simp
    · have e' : ¬ v = n := fun z => e z.symm
      simp [e, e']
theorem at_ints {ns : List Int} {d : Int} (h0 : 0 ≤ d) (h1 : d < ns.length) : ∃ v, v ∈ ns ∧ atI (ns.map V.int) d = some (.int v) := by
  have hk : d.toNat < ns.length := by omega
  have ek : d = ((d.toNat : Nat) : Int) := by omega
  refine ⟨ns[d.toNat], List.getElem_mem hk, ?_⟩
  have q : atI (ns.map V.int) ((d.toNat : Nat) : Int) = some (.int ns[d.toNat]) := atI_nat (by rw [List.getElem?_map, List.getElem?_eq_getElem hk] <;> rfl)
  rw [← ek] at q
  exact q
end
/-! ### how long a repr is -/
mutual
def cost : PyData → Nat
  | .none => 4
  | .bool _ => 5
  | .int _ => 1921
  | .str x => 10 * x.length + 2
  | .list xs => 2 + costs xs
  | .tuple xs => 4 + costs xs
  | .dict _ => 0
def costs : List PyData → Nat
  | [] => 0
  | x :: xs => cost x + 2 + costs xs
end
theorem from_le : ∀ (ts : List Str) (k : Nat) (acc : Str), (textFrom k acc ts).length ≤ acc.length + (ts.map fun t => t.length + 2).sum
  | [], k, acc => by show acc.length ≤ _; simp
  | t :: r, k, acc => by
    have ih := from_le r (k + 1) (acc ++ (if k > 0 then ", " else "" : String) ++ t)
    show (textFrom (k + 1) _ r).length ≤ _
    rw [List.map_cons, List.sum_cons]
    rw [Str.length_append, Str.length_append] at ih
    have sep : (Str.ofString (if k > 0 then ", " else "")).length ≤ 2 := by split <;> decide
    omega
theorem join_le : ∀ ts : List Str, (Str.join ", " ts).length ≤ (ts.map fun t => t.length + 2).sum
  | [] => by decide
  | [x] => by show x.length ≤ _; simp
  | x :: y :: r => by
    have ih := join_le (y :: r)
    show (x ++ (", " : Str) ++ Str.join ", " (y :: r)).length ≤ _
    rw [Str.length_append, Str.length_append, List.map_cons, List.sum_cons]
    have : (", " : Str).length = 2 := by decide
    omega
theorem small_cps {x : Str} (h : PyData.strOk x = true) : ∀ c ∈ x.cps.toList, c < 16 ^ 8 := fun c hc => by
  unfold PyData.strOk at h
  rw [Array.all_eq_true_iff_forall_mem] at h
  have := of_decide_eq_true (h c (Array.mem_toList_iff.mp hc))
  omega
mutual
theorem shown_le : ∀ d : PyData, d.showable = true → d.canLay0 = true → d.shown.length ≤ cost d
  | .none, _, _ => by show (("None" : Str)).length ≤ 4; decide
  | .bool b, _, _ => by cases b <;> (simp only [PyData.shown, cost]; decide)
  | .int i, h, _ => by
    simp only [PyData.shown, cost]
    exact int_text_len_1921 (by simpa [PyData.showable] using h)
  | .str x, _, h => by
    simp only [PyData.shown, cost]
    exact StrLaws.reprText_len x (small_cps (by simpa [PyData.canLay0] using h))
  | .list xs, h, l => by
    have ih := shown_les xs (by simpa [PyData.showable] using h) (by simpa [PyData.canLay0] using l)
    simp only [PyData.shown, cost]
    show (textFrom 0 "[" (PyData.shownAll xs) ++ ("]" : Str)).length ≤ _
    have := from_le (PyData.shownAll xs) 0 "["
    have a : ("[" : Str).length = 1 := by decide
    have b : ("]" : Str).length = 1 := by decide
    rw [Str.length_append]
    omega
  | .tuple xs, h, l => by
    have ih := shown_les xs (by simpa [PyData.showable] using h) (by simpa [PyData.canLay0] using l)
    simp only [PyData.shown, cost]
    show (("(" : Str) ++ Str.join ", " (PyData.shownAll xs) ++ (Str.ofString (if (PyData.shownAll xs).length == 1 then ",)" else ")"))).length ≤ _
    have := join_le (PyData.shownAll xs)
    have a : ("(" : Str).length = 1 := by decide
    have b : (Str.ofString (if (PyData.shownAll xs).length == 1 then ",)" else ")")).length ≤ 2 := by split <;> decide
    rw [Str.length_append, Str.length_append]
    omega
  | .dict _, _, h => by simp [PyData.canLay0] at h
theorem shown_les : ∀ ds : List PyData, PyData.showableAll ds = true → PyData.canLayAll0 ds = true → ((PyData.shownAll ds).map fun t => t.length + 2).sum ≤ costs ds
  | [], _, _ => Nat.le_refl _
  | d :: ds, h, l => by
    simp only [PyData.showableAll, Bool.and_eq_true] at h
    simp only [PyData.canLayAll0, Bool.and_eq_true] at l
    have h1 := shown_le d h.1 l.1
    have h2 := shown_les ds h.2 l.2
    simp only [PyData.shownAll, costs, List.map_cons, List.sum_cons]
    omega
end

end G0
namespace G0
open PySem PySem.Spec PyProof.Rows L2
theorem small_of' {n : Nat} (h : n ≤ 10000) : n < sizeLine := Nat.lt_of_le_of_lt h (by decide)
/-! ### xs == [], t == () -/
def rEqNil (K : PySem.W.Frag) : R2 := fun x y H Q => ∃ (a b : Addr) (xs : List V), x = .ref a ∧ y = .ref b ∧
  ((SqL K H a xs ∧ SqL K H b []) ∨ (SqT K H a xs ∧ SqT K H b [])) ∧ Q (.bl xs.isEmpty) H
theorem op_eqNil {X : Cx} (hu : X.A.units < cLine) : OpR X (compareOp .Eq) (rEqNil X.K) := by
  intro pins s σ H x y v u Q I rx ry h
  obtain ⟨a, b, xs, rfl, rfl, two, q⟩ := h
  obtain rfl : v = Value.ref a := rx
  obtain rfl : u = Value.ref b := ry
  rcases two with ⟨h1, h2⟩ | ⟨h1, h2⟩
  · obtain ⟨its, r, pl, hz⟩ := I.list h1
    obtain ⟨its2, r2, pl2, hz2⟩ := I.list h2
    have e2 : its2 = [] := by cases r2; rfl
    subst e2
    cases r with
    | nil =>
      refine SeqAt.eq_listAt (e := fun _ => true) pl.isList pl2.isList rfl hu (fun j h => absurd h (Nat.not_lt_zero j)) ⟨.bl true, H, I, rfl, q⟩
    | cons _ _ =>
      exact SeqAt.eq_list_lengthsAt pl.isList pl2.isList (by simp) hu ⟨.bl false, H, I, rfl, q⟩
  · obtain ⟨its, r, pl, hz⟩ := I.tuple h1
    obtain ⟨its2, r2, pl2, hz2⟩ := I.tuple h2
    have e2 : its2 = [] := by cases r2; rfl
    subst e2
    cases r with
    | nil =>
      refine SeqAt.eq_tupleAt (e := fun _ => true) pl pl2 hu (fun j h => absurd h (Nat.not_lt_zero j)) ⟨.bl true, H, I, rfl, q⟩
    | cons _ _ =>
      refine SeqAt.eq_tupleAt (e := fun _ => true) pl pl2 hu (fun j _ h => absurd h (Nat.not_lt_zero j)) ⟨.bl false, H, I, ?_, q⟩
      simp [L2.RelV]
/-! ### data of any kind -/
inductive GD where
  | non | bl (b : Bool) | int (i : Int) | str (z : Str) | lst | dct | tup (gs : List GD)
mutual
inductive Gv (K : PySem.W.Frag) (H : Hp) : V → GD → Prop
  | non : Gv K H .non .non
  | bl (b : Bool) : Gv K H (.bl b) (.bl b)
  | int (i : Int) : Gv K H (.int i) (.int i)
  | str {z : Str} : z.length ≤ 1000 → Gv K H (.str z) (.str z)
  | lst {a : Addr} {xs : List V} : H a = some (.lst xs) → Gv K H (.ref a) .lst
  | dct {a : Addr} {kvs : List (Key × V)} : H a = some (.dK kvs) → Gv K H (.ref a) .dct
  | tup {a : Addr} {xs : List V} {gs : List GD} : SqT K H a xs → xs.length ≤ 1000 → GvAll K H xs gs → Gv K H (.ref a) (.tup gs)
inductive GvAll (K : PySem.W.Frag) (H : Hp) : List V → List GD → Prop
  | nil : GvAll K H [] []
  | cons {v : V} {vs : List V} {g : GD} {gs : List GD} : Gv K H v g → GvAll K H vs gs → GvAll K H (v :: vs) (g :: gs)
end
section
variable {K : PySem.W.Frag} {H H' : Hp}
mutual
theorem gv_same (c : Same H H') : ∀ (g : GD) (v : V), Gv K H v g → Gv K H' v g
  | .non, _, h => by cases h; exact .non
  | .bl _, _, h => by cases h; exact .bl _
  | .int _, _, h => by cases h; exact .int _
  | .str _, _, h => by cases h with | str z => exact .str z
  | .lst, _, h => by cases h with | lst e => exact .lst (c _ _ e)
  | .dct, _, h => by cases h with | dct e => exact .dct (c _ _ e)
  | .tup gs, _, h => by
    cases h with
    | tup e l a => exact .tup (sqt_same c e) l (gvs_same c gs _ a)
theorem gvs_same (c : Same H H') : ∀ (gs : List GD) (vs : List V), GvAll K H vs gs → GvAll K H' vs gs
  | [], _, h => by cases h; exact .nil
  | g :: gs, _, h => by
    cases h with
    | cons h1 h2 => exact .cons (gv_same c g _ h1) (gvs_same c gs _ h2)
end
theorem gvs_len {vs : List V} {gs : List GD} (h : GvAll K H vs gs) : vs.length = gs.length := by
  match vs, gs, h with
  | [], [], _ => rfl
  | _ :: _, _ :: _, .cons _ h2 => exact congrArg (· + 1) (gvs_len h2)
theorem gvs_get {vs : List V} {gs : List GD} (h : GvAll K H vs gs) : ∀ {i : Nat} {v : V}, vs[i]? = some v → ∃ g, gs[i]? = some g ∧ Gv K H v g := by
  match vs, gs, h with
  | [], [], _ => intro i v e; simp at e
  | v :: vs, g :: gs, .cons h1 h2 =>
    intro i w e
    cases i with
    | zero => simp at e; subst e; exact ⟨g, rfl, h1⟩
    | succ i => exact gvs_get h2 (by simpa using e)
theorem ty_sqt {a : Addr} {xs : List V} (h : SqT K H a xs) : TyX K H (.ref a) (.type "tuple") := by
  rcases h with (h | ⟨o, h⟩) | ⟨o, its, n, h1, h2, _⟩
  · exact .base (.tup h)
  · exact .fTuple h
  · exact .kTuple h1 h2
/-- the built-in class of a thing -/
def GD.ty : GD → String
  | .non => "NoneType" | .bl _ => "bool" | .int _ => "int" | .str _ => "str" | .lst => "list" | .dct => "dict" | .tup _ => "tuple"
theorem gv_ty {v : V} {g : GD} (h : Gv K H v g) : TyX K H v (.type g.ty) := by
  cases h with
  | non => exact .base .non
  | bl b => exact .base (.bl b)
  | int i => exact .base (.int i)
  | str _ => exact .base (.str _)
  | lst e => exact .base (.lst e)
  | dct e => exact .base (.dK e)
  | tup e _ _ => exact ty_sqt e
def GD.isInt : GD → Bool | .int _ => true | .bl _ => true | _ => false
def GD.isBool : GD → Bool | .bl _ => true | _ => false
def GD.isTup : GD → Bool | .tup _ => true | _ => false
def GD.isStr : GD → Bool | .str _ => true | _ => false
theorem kit_int (g : GD) : PySem.W.kitOne K (.type g.ty) (.type "int") = some g.isInt := by cases g <;> exact kit_ty (by simp only [GD.ty, GD.isInt, GD.isBool, GD.isTup, GD.isStr]; decide +kernel)
theorem kit_bool (g : GD) : PySem.W.kitOne K (.type g.ty) (.type "bool") = some g.isBool := by cases g <;> exact kit_ty (by simp only [GD.ty, GD.isInt, GD.isBool, GD.isTup, GD.isStr]; decide +kernel)
theorem kit_tup (g : GD) : PySem.W.kitOne K (.type g.ty) (.type "tuple") = some g.isTup := by cases g <;> exact kit_ty (by simp only [GD.ty, GD.isInt, GD.isBool, GD.isTup, GD.isStr]; decide +kernel)
theorem kit_str (g : GD) : PySem.W.kitOne K (.type g.ty) (.type "str") = some g.isStr := by cases g <;> exact kit_ty (by simp only [GD.ty, GD.isInt, GD.isBool, GD.isTup, GD.isStr]; decide +kernel)
end
/-! ### what is asked of data -/
def GD.less (t : Int) : GD → Bool | .int i => decide (0 ≤ i ∧ i < t) | _ => false
def signs : List Nat := ("abcdefghijklmnopqrstuvwxyz" : Str).cps.toList
def wordB (z : Str) : Bool := decide (1 ≤ z.length) && decide (z.length ≤ 8) && z.cps.toList.all (fun c => decide (c ∈ signs)) && !decide (z = "gone")
def GD.word : GD → Bool | .str z => wordB z | _ => false
mutual
def GD.part : Nat → GD → Bool
  | _, .int i => decide (0 ≤ i ∧ i < 10 ^ 60)
  | 0, .tup _ => false
  | n + 1, .tup gs => GD.parts n gs
  | _, _ => false
def GD.parts : Nat → List GD → Bool
  | _, [] => true
  | n, g :: gs => GD.part n g && GD.parts n gs
end
def bad1 (k : Nat) : List GD → Option Nat
  | [] => none
  | g :: gs => if g.part 3 then bad1 (k + 1) gs else some k
def GD.fault : GD → Option Nat
  | .tup (w :: gs) => if w.word then bad1 1 gs else some 0
  | _ => some 0
def oV : Option Nat → V
  | none => .non
  | some k => .int k

end G0
namespace G0
open PySem PySem.Spec PyProof.Rows L2
section
variable {K : PySem.W.Frag} {H H' : Hp} {p : Addr}
mutual
theorem gv_chg (hp : ∃ xs, H p = some (.lst xs)) (hp' : ∃ xs, H' p = some (.lst xs)) (c : Chg p H H') : ∀ (g : GD) (v : V), Gv K H v g → Gv K H' v g
  | .non, _, h => by cases h; exact .non
  | .bl _, _, h => by cases h; exact .bl _
  | .int _, _, h => by cases h; exact .int _
  | .str _, _, h => by cases h with | str z => exact .str z
  | .lst, _, h => by
    cases h with
    | lst e =>
      rename_i a xs
      by_cases q : a = p
      · obtain ⟨ys, hy⟩ := hp'
        rw [q]
        exact .lst hy
      · exact .lst (c _ _ q e)
  | .dct, _, h => by
    cases h with
    | dct e =>
      obtain ⟨ys, hy⟩ := hp
      exact .dct (c _ _ (ne_of e hy (by intro z; cases z)) e)
  | .tup gs, _, h => by
    cases h with
    | tup e l a => exact .tup (sqt_chg hp c e) l (gvs_chg hp hp' c gs _ a)
theorem gvs_chg (hp : ∃ xs, H p = some (.lst xs)) (hp' : ∃ xs, H' p = some (.lst xs)) (c : Chg p H H') : ∀ (gs : List GD) (vs : List V), GvAll K H vs gs → GvAll K H' vs gs
  | [], _, h => by cases h; exact .nil
  | g :: gs, _, h => by
    cases h with
    | cons h1 h2 => exact .cons (gv_chg hp hp' c g _ h1) (gvs_chg hp hp' c gs _ h2)
end
theorem gvs_app {vs ws : List V} {gs hs : List GD} : GvAll K H vs gs → GvAll K H ws hs → GvAll K H (vs ++ ws) (gs ++ hs) := by
  intro h k
  match vs, gs, h with
  | [], [], _ => exact k
  | _ :: _, _ :: _, .cons h1 h2 => exact .cons h1 (gvs_app h2 k)
theorem gvs_drop {vs : List V} {gs : List GD} : ∀ n : Nat, GvAll K H vs gs → GvAll K H (vs.drop n) (gs.drop n) := by
  intro n h
  match n, vs, gs, h with
  | 0, _, _, h => exact h
  | n + 1, [], [], _ => simpa using GvAll.nil
  | n + 1, _ :: _, _ :: _, .cons _ h2 => exact gvs_drop n h2
theorem gvs_take {vs : List V} {gs : List GD} : ∀ n : Nat, GvAll K H vs gs → GvAll K H (vs.take n) (gs.take n) := by
  intro n h
  match n, vs, gs, h with
  | 0, _, _, _ => simpa using GvAll.nil
  | n + 1, [], [], _ => simpa using GvAll.nil
  | n + 1, _ :: _, _ :: _, .cons h1 h2 => exact .cons h1 (gvs_take n h2)
theorem gvs_cut {vs : List V} {gs : List GD} (h : GvAll K H vs gs) (lo hi : Option Int) : ∃ hs, GvAll K H (cutV vs lo hi) hs := ⟨_, gvs_take _ (gvs_drop _ h)⟩
/-- any slice of a tuple -/
theorem sl_any {a : Addr} {xs : List V} {lo hi : Option Int} {Q : VK} (h : SqT K H a xs) (q : ∀ r H', Same H H' → SqT K H' r (cutV xs lo hi) → Q (.ref r) H') : rSlA K (.ref a) lo hi H Q := by
  refine ⟨a, xs, rfl, h, fun ⟨e1, e2⟩ => ?_, fun _ r hr => q r _ (same_upd hr) (SqT.of upd_same)⟩
  refine q a H (Same.refl H) ?_
  unfold cutV
  rw [e1, e2, List.drop_zero, Nat.sub_zero, List.take_length]
  exact h
theorem sl_none {σ : L2.St} {a : Addr} {xs : List V} {lo : Option Int} {Q : VK} (h : SqT K H a xs) (q : ∀ r H', Same H H' → SqT K H' r (cutV xs lo none) → Q (.ref r) H') :
    tNoPart σ H fun u H3 => rSlA K (.ref a) lo u H3 Q := sl_any h q
/-- any two tuples together -/
theorem cat_any {a b : Addr} {xs ys : List V} {Q : VK} (h1 : SqT K H a xs) (h2 : SqT K H b ys) (l : xs.length + ys.length ≤ 10000)
    (q : ∀ r H', Same H H' → SqT K H' r (xs ++ ys) → Q (.ref r) H') : rCatA K (.ref a) (.ref b) H Q := by
  refine ⟨a, b, xs, ys, rfl, rfl, h1, h2, Nat.le_of_lt (small_of' l), fun e => ?_, fun _ e => ?_, fun _ _ r hr => q r _ (same_upd hr) (SqT.of upd_same)⟩
  · subst e
    exact q b H (Same.refl H) h2
  · subst e
    exact q a H (Same.refl H) (by rw [List.append_nil]; exact h1)
/-- an item at any place -/
theorem at_any {xs : List V} {d : Int} (h0 : 0 ≤ d) (h1 : d < xs.length) : ∃ v, v ∈ xs ∧ atI xs d = some v := by
  have hk : d.toNat < xs.length := by omega
  have q : atI xs ((d.toNat : Nat) : Int) = some xs[d.toNat] := atI_nat (List.getElem?_eq_getElem hk)
  rw [show ((d.toNat : Nat) : Int) = d by omega] at q
  exact ⟨_, List.getElem_mem hk, q⟩
/-! ### letters as data of any kind -/
theorem thing_gv : ∀ {n : Nat} {d : PyData}, Thing n d → ∀ {v : V}, Dp K H v d → ∃ g, Gv K H v g := by
  intro n d h
  induction h with
  | num _ _ =>
    intro v hd
    cases hd
    exact ⟨_, .int _⟩
  | tup l _ ih =>
    intro v hd
    cases hd with
    | tup hs ha =>
      rename_i ds _ xs a
      have all : ∀ (ds' : List PyData) (xs : List V), (∀ d ∈ ds', d ∈ ds) → DpAll K H xs ds' → ∃ gs, GvAll K H xs gs := by
        intro ds'
        induction ds' with
        | nil => intro xs _ h; cases h; exact ⟨[], .nil⟩
        | cons d ds' ih2 =>
          intro xs mem h
          cases h with
          | cons h1 h2 =>
            obtain ⟨g, hg⟩ := ih d (mem d (List.mem_cons_self ..)) h1
            obtain ⟨gs, hgs⟩ := ih2 _ (fun x hx => mem x (List.mem_cons_of_mem _ hx)) h2
            exact ⟨g :: gs, .cons hg hgs⟩
      obtain ⟨gs, hgs⟩ := all ds _ (fun _ h => h) ha
      have := dps_len ha
      exact ⟨.tup gs, .tup hs (by omega) hgs⟩
theorem things_gv {n : Nat} : ∀ {ds : List PyData} {vs : List V}, (∀ d ∈ ds, Thing n d) → DpAll K H vs ds → ∃ gs, GvAll K H vs gs
  | [], _, _, h => by cases h; exact ⟨[], .nil⟩
  | d :: ds, _, m, h => by
    cases h with
    | cons h1 h2 =>
      obtain ⟨g, hg⟩ := thing_gv (m d (List.mem_cons_self ..)) h1
      obtain ⟨gs, hgs⟩ := things_gv (fun x hx => m x (List.mem_cons_of_mem _ hx)) h2
      exact ⟨g :: gs, .cons hg hgs⟩
theorem letter_gv {v : V} {d : PyData} (h : LetterD d) (hd : Dp K H v d) : ∃ a xs gs, v = .ref a ∧ SqT K H a xs ∧ GvAll K H xs gs ∧ 1 ≤ xs.length ∧ xs.length ≤ 6 := by
  obtain ⟨z, ds, rfl, hw, l, m⟩ := h
  cases hd with
  | tup hs ha =>
    have hl := dps_len ha
    cases ha with
    | cons h1 h2 =>
      obtain ⟨gs, hgs⟩ := things_gv m h2
      cases h1
      simp at hl
      exact ⟨_, _, _, rfl, hs, .cons (.str (by have := hw.2.1; omega)) hgs, by simp, by simp; omega⟩
end

end G0
namespace G0
open PySem PySem.Spec PyProof.Rows L2
/-! ### displays -/
section
variable {K : PySem.W.Frag} {σ : L2.St} {te tf : TE} {ta : TA} {g : GD} {gs : List GD}
def EvG (K : PySem.W.Frag) (σ : L2.St) (te : TE) (g : GD) : Prop := ∀ (H : Hp) (Q : VK), (∀ v H', Same H H' → Gv K H' v g → Q v H') → te σ H Q
def EvGs (K : PySem.W.Frag) (σ : L2.St) (ta : TA) (gs : List GD) : Prop := ∀ (H : Hp) (Q : List V → Hp → Prop), (∀ vs H', Same H H' → GvAll K H' vs gs → Q vs H') → ta σ H Q
def EvL (K : PySem.W.Frag) (σ : L2.St) (te : TE) (gs : List GD) : Prop :=
  ∀ (H : Hp) (Q : VK), (∀ l vs H', Same H H' → H l = none → H' l = some (.lst vs) → GvAll K H' vs gs → Q (.ref l) H') → te σ H Q
theorem evs_nil : EvGs K σ tNil [] := fun H Q q => q [] H (Same.refl H) .nil
theorem evs_cons (h : EvG K σ te g) (hs : EvGs K σ ta gs) : EvGs K σ (tCons te ta) (g :: gs) := fun H Q q =>
  h H _ fun v H1 s1 h1 => hs H1 _ fun vs H2 s2 h2 => q (v :: vs) H2 (s1.trans s2) (.cons (gv_same s2 _ _ h1) h2)
theorem ev_int {i : Int} : EvG K σ (tC (.int i)) (.int i) := fun H Q q => q _ H (Same.refl H) (.int i)
theorem ev_bl {b : Bool} : EvG K σ (tC (.bl b)) (.bl b) := fun H Q q => q _ H (Same.refl H) (.bl b)
theorem ev_non : EvG K σ (tC .non) .non := fun H Q q => q _ H (Same.refl H) .non
theorem ev_str {z : Str} (h : z.length ≤ 1000) : EvG K σ (tC (.str z)) (.str z) := fun H Q q => q _ H (Same.refl H) (.str h)
theorem ev_neg {i : Int} : EvG K σ (tUn (rU fun i => .int (-i)) (tC (.int i))) (.int (-i)) := fun H Q q => ⟨i, rfl, q _ H (Same.refl H) (.int _)⟩
theorem ev_pow {i j : Int} (c : CPow i j) : EvG K σ (tOp (rI CPow fun i j => .int (i ^ j.toNat)) (tC (.int i)) (tC (.int j))) (.int (i ^ j.toNat)) :=
  fun H Q q => ⟨i, j, rfl, rfl, c, q _ H (Same.refl H) (.int _)⟩
theorem ev_pow1 {i j k : Int} (c : CPow i j) : EvG K σ (tOp (rI0 fun i j => .int (i - j)) (tOp (rI CPow fun i j => .int (i ^ j.toNat)) (tC (.int i)) (tC (.int j))) (tC (.int k))) (.int (i ^ j.toNat - k)) :=
  fun H Q q => ⟨i, j, rfl, rfl, c, _, _, rfl, rfl, q _ H (Same.refl H) (.int _)⟩
theorem ev_var {i : Nat} {k : Int} (h : σ[i]? = some (some (.int k))) : EvG K σ (tVar i) (.int k) := fun H Q q => ⟨_, h, q _ H (Same.refl H) (.int k)⟩
theorem ev_tup (h : EvGs K σ ta gs) (l : gs.length ≤ 1000) : EvG K σ (tTup ta) (.tup gs) := fun H Q q =>
  h H _ fun vs H1 s1 h1 => ⟨by have := gvs_len h1; exact Nat.le_of_lt (small1000 (by omega)), fun p hp =>
    q (.ref p) _ (s1.trans (same_upd hp)) (.tup (SqT.of upd_same) (by have := gvs_len h1; omega) (gvs_same (same_upd hp) _ _ h1))⟩
theorem ev_lst (h : EvGs K σ ta gs) (l : gs.length ≤ 1000) : EvL K σ (tLst ta) gs := fun H Q q =>
  h H _ fun vs H1 s1 h1 => ⟨by have := gvs_len h1; exact Nat.le_of_lt (small1000 (by omega)), fun p hp =>
    q p vs _ (s1.trans (same_upd hp)) (s1.free hp) upd_same (gvs_same (same_upd hp) _ _ h1)⟩
theorem ev_lstG (h : EvGs K σ ta gs) (l : gs.length ≤ 1000) : EvG K σ (tLst ta) .lst := fun H Q q =>
  ev_lst h l H Q fun l vs H' s _ e _ => q _ H' s (.lst e)
/-- a list and a displayed one behind it -/
theorem ev_cat {i : Nat} {a : Addr} {xs : List V} {hs : List GD} {H : Hp} {Q : VK} (h : σ[i]? = some (some (.ref a))) (ha : H a = some (.lst xs)) (hx : GvAll K H xs hs) (l : hs.length ≤ 1000)
    (hd : EvL K σ tf gs) (l2 : gs.length ≤ 1000) (q : ∀ p vs H', Same H H' → H p = none → H' p = some (.lst vs) → GvAll K H' vs (hs ++ gs) → Q (.ref p) H') : tOp rCat (tVar i) tf σ H Q :=
  ⟨_, h, hd H _ fun b ys H1 s1 _ hb hg => ⟨a, b, xs, ys, rfl, rfl, s1 _ _ ha, hb, by
    have e1 := gvs_len hx
    have e2 := gvs_len hg
    exact Nat.le_trans (show xs.length + ys.length ≤ 2000 by omega) (by decide), fun p hp =>
      q p _ _ (s1.trans (same_upd hp)) (s1.free hp) upd_same (gvs_app (gvs_same (s1.trans (same_upd hp)) _ _ hx) (gvs_same (same_upd hp) _ _ hg))⟩⟩
end

end G0
namespace G0
open PySem PySem.Spec PyProof.Rows L2
def top (i : Nat) : Stmt := PySem.Challenge.pw_soleseat_k15_rows_are_told.main.body.getD i (.Pass ⟨0, 0, 0, 0⟩)
abbrev s_is_below : Stmt := top 1
abbrev s_is_letter : Stmt := top 8
abbrev s_letter_fault : Stmt := top 9
abbrev s_is_word : Stmt := top 10
abbrev s_is_thing : Stmt := top 11
abbrev s_is_row : Stmt := top 16
abbrev s_seat_of : Stmt := top 17
abbrev s_law_feed : Stmt := top 19
abbrev s_law_more : Stmt := top 20
abbrev s_law_step : Stmt := top 21
abbrev s_law_draw : Stmt := top 22
abbrev s_law_same : Stmt := top 23
abbrev s_law_number : Stmt := top 24
abbrev s_law_thing : Stmt := top 25
abbrev s_law_word : Stmt := top 26
abbrev s_law_letter : Stmt := top 27
abbrev s_law_many : Stmt := top 28
abbrev s_law_seat : Stmt := top 29
abbrev s_law_any_row : Stmt := top 30
abbrev s_law_odd : Stmt := top 31
abbrev s_law_is_number : Stmt := top 32
abbrev s_law_is_thing : Stmt := top 33
abbrev s_law_is_letter : Stmt := top 34
abbrev s_law_is_row : Stmt := top 35
abbrev s_law_right : Stmt := top 36
abbrev s_law : Stmt := top 37
section
structure Bl (mg : Str → Option Value) : Prop where
  len : mg "len" = none
  range : mg "range" = none
  tuple : mg "tuple" = none
  list : mg "list" = none
  abs : mg "abs" = none
  int : mg "int" = none
  isinstance : mg "isinstance" = none
  bool : mg "bool" = none
  str : mg "str" = none
  all : mg "all" = none
theorem u64 {k : Nat} {A : Around} (hr : Room k A) : A.units + 64 < cLine := by have := hr.un; omega
theorem u66 {k : Nat} {A : Around} (hr : Room k A) : A.units + 66 < cLine := by have := hr.un; omega
/-! ### the feed -/
def FeedL (n : Nat) (c : Addr) (xs : List V) : Prop := ∃ f0 f1 f2 f3 : Int, xs = [.int f0, .int f1, .int f2, .int f3, .ref c] ∧ 0 ≤ f0 ∧ 0 ≤ f1 ∧ 0 ≤ f2 ∧ f2 ≤ n ∧ 0 ≤ f3 ∧ f3 < 2 ^ 62
def FeedAt (n : Nat) (c : Addr) (H : Hp) (p : Addr) : Prop := ∃ xs, H p = some (.lst xs) ∧ FeedL n c xs
variable {P : Program} {w : World} {K : PySem.W.Frag} {mg : Str → Option Value} {base : Heap} {n m : Nat} {c p D : Addr} {H H' : Hp} {o : HO}
theorem FeedAt.mono (h : FeedAt n c H p) (le : n ≤ m) : FeedAt m c H p := by
  obtain ⟨xs, e, f0, f1, f2, f3, r, h0, h1, h2, h3, h4, h5⟩ := h
  exact ⟨xs, e, f0, f1, f2, f3, r, h0, h1, h2, by omega, h4, h5⟩
theorem FeedAt.keep (h : FeedAt n c H p) (s : Same H H') : FeedAt n c H' p := by
  obtain ⟨xs, e, h⟩ := h
  exact ⟨xs, s _ _ e, h⟩
theorem FeedAt.new (h : FeedAt n c H p) (d : H D = none) : FeedAt n c (upd H D o) p := h.keep (same_upd d)
theorem FeedAt.neD (h : FeedAt n c H p) (d : H D = none) : p ≠ D := by
  obtain ⟨xs, e, h⟩ := h
  exact ne_of_none e d
theorem FeedAt.ne (h : FeedAt n c H p) (d : p ≠ D) (e : H' = upd H D o) : FeedAt n c H' p := by
  obtain ⟨xs, q, r⟩ := h
  exact ⟨xs, by rw [e, upd_ne d]; exact q, r⟩
theorem FeedAt.lst (h : FeedAt n c H p) : ∃ xs, H p = some (.lst xs) := by
  obtain ⟨xs, e, h⟩ := h
  exact ⟨xs, e⟩
/-! ### _law_draw -/
def spD : Sp := fun vs H Q _ => ∃ (p c : Addr) (m : Int) (n : Nat), vs = [.ref p, .int m] ∧ 0 < m ∧ m.natAbs < 2 ^ 250 ∧ FeedAt n c H p ∧ n < 1000000000 ∧
  ∀ (d : Int) (H' : Hp), 0 ≤ d → d < m → Chg p H H' → FeedAt (n + 1) c H' p → Q (.int d) H'
theorem sc_law_draw : FnScope ["feed", "many", "digit", "at", "first", "second"] ["feed", "many"] (defScope s_law_draw) :=
  ⟨rfl, rfl, rfl, by decide +kernel, rfl, by decide +kernel, by decide +kernel⟩
theorem ok_draw (F : Fn K mg "_law_draw" s_law_draw) : Cal P w K mg base "_law_draw" 1 ["feed", "many"] spD := by
  refine cal_of F sc_law_draw
    (fun _ _ _ _ _ _ us hl => match us, hl with | [_, _], _ => rfl) ?_ ?_
  · rintro vs H Q E ⟨p, c, m, n, rfl, _⟩
    rfl
  rintro f cdv A outer s H vs Q E free hr ⟨p, c, m, n, rfl, m0, mb, ⟨_, hp, f0, f1, f2, f3, rfl, h0, h1, h2, h3, h4, h5⟩, hn, q⟩
  have hL := SqL.of (K := K) hp
  refine ⟨_, (pss_cons (ps_asg (pe_op op_add (pe_ix ix_list (pv 0) pe_int (fun _ _ => rfl)) pe_int) (pg_sub (pv 0) pe_int set_list))
    (pss_cons (ps_if (pt_cmpR op_gt (pe_ix ix_list (pv 0) pe_int (fun _ _ => rfl)) pe_int (nomark _))
    (pss_cons (ps_set (i := 2) sc_law_draw.nd rfl (Or.inl rfl) (pe_op op_mod (pe_ix ix_list (pv 0) pe_int (fun _ _ => rfl)) (pv 1)))
    (pss_cons (ps_asg (pe_op op_fdivW (pe_ix ix_list (pv 0) pe_int (fun _ _ => rfl)) (pv 1)) (pg_sub (pv 0) pe_int set_list))
    (pss_one (ps_ret (pv 2)))))
    pss_nil)
    (pss_cons (ps_set (i := 3) sc_law_draw.nd rfl (Or.inl rfl) (pe_ix ix_list (pv 0) pe_int (fun _ _ => rfl)))
    (pss_cons (ps_set (i := 4) sc_law_draw.nd rfl (Or.inl rfl) (pe_op op_mod (pe_op op_add (pe_op op_add (pe_op op_mul (pe_ix ix_list (pv 0) pe_int (fun _ _ => rfl)) pe_int) (pe_op op_mul (pe_op op_mul (pv 3) (pv 3)) pe_int)) (pv 3)) pe_int))
    (pss_cons (ps_set (i := 5) sc_law_draw.nd rfl (Or.inl rfl) (pe_op op_mod (pe_op op_add (pe_op op_add (pe_op op_mul (pv 4) (pv 4)) (pe_ix ix_list (pv 0) pe_int (fun _ _ => rfl))) (pe_op op_mul pe_int (pv 3))) pe_int))
    (pss_one (ps_ret (pe_op op_mod (pe_op op_fdivW (pe_op op_mod (pe_op op_mul (pv 5) pe_int) pe_int) pe_int) (pv 1))))))))), ?_⟩
  refine ⟨_, rfl, p, _, _, _, rfl, rfl, hL, rfl, _, _, rfl, rfl, ?_⟩
  refine ⟨_, rfl, p, _, _, _, rfl, rfl, hp, rfl, ?_⟩
  have hp' : upd H p (.lst [.int f0, .int f1, .int (f2 + 1), .int f3, .ref c]) p = some (.lst [.int f0, .int f1, .int (f2 + 1), .int f3, .ref c]) := upd_same
  have hL' := SqL.of (K := K) hp'
  refine ⟨_, rfl, p, _, _, _, rfl, rfl, hL', rfl, _, _, rfl, rfl, _, rfl, ?_⟩
  refine ite2 (fun c1 => ?_) (fun c1 => ?_)
  · refine ⟨_, rfl, p, _, _, _, rfl, rfl, hL', rfl, _, rfl, _, _, rfl, rfl, m0, ?_⟩
    refine ⟨_, rfl, p, _, _, _, rfl, rfl, hL', rfl, _, rfl, _, _, rfl, rfl, wide_div m0 mb (by decide) (by decide), ?_⟩
    refine ⟨_, rfl, p, _, _, _, rfl, rfl, hp', rfl, ?_⟩
    refine ⟨_, rfl, ?_⟩
    refine q _ _ (Int.emod_nonneg _ (by omega)) (Int.emod_lt_of_pos _ m0) ?_ ⟨_, upd_same, _, f1, f2 + 1, f3, rfl, Int.ediv_nonneg h0 (by omega), h1, by omega, by omega, h4, h5⟩
    exact fun b o nb e => by rw [upd_ne nb, upd_ne nb]; exact e
  · refine ⟨_, rfl, p, _, _, _, rfl, rfl, hL', rfl, ?_⟩
    refine ⟨_, rfl, p, _, _, _, rfl, rfl, hL', rfl, _, _, rfl, rfl, .inr ⟨by decide, by decide⟩, _, rfl, _, rfl, _, _, rfl, rfl, .inl ⟨by omega, by omega⟩, _, _, rfl, rfl, .inr ⟨by decide, by decide⟩, _, _, rfl, rfl,
      _, rfl, _, _, rfl, rfl, _, _, rfl, rfl, (by show (0 : Int) < 2147483647; decide), ?_⟩
    generalize hf : (f3 * 1000003 + (f2 + 1) * (f2 + 1) * 7919 + (f2 + 1)) % 2147483647 = first
    have o0 : 0 ≤ first := by rw [← hf]; exact Int.emod_nonneg _ (by decide)
    have o1 : first < 2147483647 := by rw [← hf]; exact Int.emod_lt_of_pos _ (by decide)
    refine ⟨_, rfl, _, rfl, _, _, rfl, rfl, .inl ⟨by omega, by omega⟩, _, rfl, p, _, _, _, rfl, rfl, hL', rfl, _, _, rfl, rfl, _, rfl, _, _, rfl, rfl, .inl ⟨by decide, by decide⟩, _, _, rfl, rfl, _, _, rfl, rfl, (by show (0 : Int) < 998244353; decide), ?_⟩
    generalize hs : (first * first + f3 + 31 * (f2 + 1)) % 998244353 = second
    refine ⟨_, rfl, _, _, rfl, rfl, .inr ⟨by decide, by decide⟩, _, _, rfl, rfl, (by show (0 : Int) < 1000000007; decide), _, _, rfl, rfl, ⟨by decide, by decide⟩, _, rfl, _, _, rfl, rfl, m0, ?_⟩
    exact q _ _ (Int.emod_nonneg _ (by omega)) (Int.emod_lt_of_pos _ m0) Chg.self ⟨_, upd_same, f0, f1, f2 + 1, f3, rfl, h0, h1, by omega, by omega, h4, h5⟩
/-! ### _law_number -/
def spNum : Sp := fun vs H Q _ => ∃ (p c : Addr) (n : Nat), vs = [.ref p] ∧ FeedAt n c H p ∧ n < 100000000 ∧
  ∀ (i : Int) (H' : Hp), 0 ≤ i → i < 10 ^ 60 → Chg p H H' → FeedAt (n + 2) c H' p → Q (.int i) H'
theorem sc_law_number : FnScope ["feed", "way"] ["feed"] (defScope s_law_number) :=
  ⟨rfl, rfl, rfl, by decide +kernel, rfl, by decide +kernel, by decide +kernel⟩
theorem ok_num (F : Fn K mg "_law_number" s_law_number) (C_draw : Cal P w K mg base "_law_draw" 1 ["feed", "many"] spD) :
    Cal P w K mg base "_law_number" 2 ["feed"] spNum := by
  refine cal_of F sc_law_number
    (fun _ _ _ _ _ _ us hl => match us, hl with | [_], _ => rfl) ?_ ?_
  · rintro vs H Q E ⟨p, c, n, rfl, _⟩
    rfl
  rintro f cdv A outer s H vs Q E free hr ⟨p, c, n, rfl, hP, hn, q⟩
  refine ⟨_, (pss_cons (ps_set (i := 1) sc_law_number.nd rfl (Or.inl rfl) (pe_cal C_draw free (hr.mono (by decide)) (pa_cons (pv 0) (pa_cons pe_int pa_nil))))
    (pss_cons (ps_if (pt_cmpR op_eq (pv 1) pe_int (nomark _))
    (pss_one (ps_ret (pe_cal C_draw free (hr.mono (by decide)) (pa_cons (pv 0) (pa_cons pe_int pa_nil)))))
    pss_nil)
    (pss_cons (ps_if (pt_cmpR op_eq (pv 1) pe_int (nomark _))
    (pss_one (ps_ret (pe_op op_sub (pe_op op_sub (pe_op op_pow pe_int pe_int) pe_int) (pe_cal C_draw free (hr.mono (by decide)) (pa_cons (pv 0) (pa_cons pe_int pa_nil))))))
    pss_nil)
    (pss_cons (ps_if (pt_cmpR op_eq (pv 1) pe_int (nomark _))
    (pss_one (ps_ret (pe_cal C_draw free (hr.mono (by decide)) (pa_cons (pv 0) (pa_cons (pe_op op_pow pe_int pe_int) pa_nil)))))
    pss_nil)
    (pss_one (ps_ret (pe_cal C_draw free (hr.mono (by decide)) (pa_cons (pv 0) (pa_cons pe_int pa_nil))))))))), ?_⟩
  refine ⟨_, rfl, p, c, 4, n, rfl, by decide, by decide, hP, by omega, fun d H1 d0 d1 c1 P1 => ?_⟩
  refine ⟨_, rfl, rfl, _, rfl, ?_⟩
  refine ite2 (fun _ => ?_) (fun _ => ?_)
  · exact ⟨_, rfl, p, c, 3, n + 1, rfl, by decide, by decide, P1, by omega, fun e H2 e0 e1 c2 P2 => q e H2 e0 (by omega) (c1.trans c2) P2⟩
  · refine ⟨_, rfl, rfl, _, rfl, ?_⟩
    refine ite2 (fun _ => ?_) (fun _ => ?_)
    · refine ⟨_, _, rfl, rfl, ⟨by decide, by decide, by decide⟩, _, _, rfl, rfl, _, rfl, p, c, 5, n + 1, rfl, by decide, by decide, P1, by omega, fun e H2 e0 e1 c2 P2 => ⟨_, _, rfl, rfl, ?_⟩⟩
      have t60 : (10 : Int) ^ (Int.toNat 60) = 10 ^ 60 := rfl
      exact q _ H2 (by rw [t60]; omega) (by rw [t60]; omega) (c1.trans c2) P2
    · refine ⟨_, rfl, rfl, _, rfl, ?_⟩
      refine ite2 (fun _ => ?_) (fun _ => ?_)
      · refine ⟨_, rfl, _, _, rfl, rfl, ⟨by decide, by decide, by decide⟩, p, c, _, n + 1, rfl, by decide, by decide, P1, by omega, fun e H2 e0 e1 c2 P2 => q e H2 e0 e1 (c1.trans c2) P2⟩
      · exact ⟨_, rfl, p, c, 101, n + 1, rfl, by decide, by decide, P1, by omega, fun e H2 e0 e1 c2 P2 => q e H2 e0 (by omega) (c1.trans c2) P2⟩
/-! ### _law_thing -/
def cst : Nat → Nat
  | 0 => 4
  | l + 1 => 2 * cst l + 4
theorem cst_ge : ∀ l, 4 ≤ cst l
  | 0 => by decide
  | l + 1 => by have := cst_ge l; show 4 ≤ 2 * cst l + 4; omega
def spThing (K : PySem.W.Frag) : Nat → Sp
  | 0 => fun _ _ _ _ => False
  | l + 1 => fun vs H Q _ => ∃ (p c : Addr) (n : Nat), vs = [.ref p, .int l] ∧ l ≤ 4 ∧ FeedAt n c H p ∧ n + cst l < 100000000 ∧
    ∀ (v : V) (d : PyData) (H' : Hp), Dp K H' v d → Thing l d → Chg p H H' → FeedAt (n + cst l) c H' p → Q v H'
theorem sc_law_thing : FnScope ["feed", "deep", "k"] ["feed", "deep"] (defScope s_law_thing) :=
  ⟨rfl, rfl, rfl, by decide +kernel, rfl, by decide +kernel, by decide +kernel⟩
theorem ok_thing (l : Nat) (F : Fn K mg "_law_thing" s_law_thing) (T : Bl mg) (C_draw : Cal P w K mg base "_law_draw" 1 ["feed", "many"] spD)
    (C_number : Cal P w K mg base "_law_number" 2 ["feed"] spNum)
    (C_thing : Cal P w K mg base "_law_thing" (l + 2) ["feed", "deep"] (spThing K l)) :
    Cal P w K mg base "_law_thing" (l + 1 + 2) ["feed", "deep"] (spThing K (l + 1)) := by
  refine cal_of F sc_law_thing
    (fun _ _ _ _ _ _ us hl => match us, hl with | [_, _], _ => rfl) ?_ ?_
  · rintro vs H Q E ⟨p, c, n, rfl, _⟩
    rfl
  rintro f cdv A outer s H vs Q E free hr ⟨p, c, n, rfl, l4, hP, hn, q⟩
  refine ⟨_, (pss_cons (ps_if (PW.pt (pw_or (pt_cmpR op_eq (pv 1) pe_int (nomark _)) (pw_or1 (pt_cmpR op_lt (pe_cal C_draw free (hr.mono (by omega)) (pa_cons (pv 0) (pa_cons pe_int pa_nil))) pe_int (nomark _)))))
    (pss_one (ps_ret (pe_cal C_number free (hr.mono (by omega)) (pa_cons (pv 0) pa_nil))))
    pss_nil)
    (pss_one (ps_ret (pe_callTy call_tuple_of (by rfl) T.tuple (by decide +kernel) (pa_cons (pe_lc (own := [("k", 2)]) (g := gName 2) (tt := tYes) (by rfl) sc_law_thing.nd (pi_range1 (by rfl) T.range (pa_cons (pe_cal C_draw free (hr.mono (by omega)) (pa_cons (pv 0) (pa_cons pe_int pa_nil))) pa_nil)) (blkOk_by (N := ["feed", "deep", "k"]) (sc := defScope s_law_thing) (by decide +kernel)) (fun _ _ _ _ _ => pg_name (i := 2) sc_law_thing.nd rfl (Or.inl rfl)) (fun _ _ _ _ _ => pts_nil) (fun _ _ _ _ _ => (pe_cal C_thing free hr (pa_cons (pv 0) (pa_cons (pe_op op_sub (pv 1) pe_int) pa_nil))))) pa_nil))))), ?_⟩
  have cl := cst_ge l
  have fin : ∀ (H1 : Hp) (m : Nat), Chg p H H1 → FeedAt m c H1 p → m + 2 ≤ n + cst l → ∀ R : VK, (∀ v H2, Q v H2 → R v H2) →
      ∃ (pp cc : Addr) (mm : Nat), [V.ref p] = [V.ref pp] ∧ FeedAt mm cc H1 pp ∧ mm < 100000000 ∧ ∀ (i : Int) (H' : Hp), 0 ≤ i → i < 10 ^ 60 → Chg pp H1 H' → FeedAt (mm + 2) cc H' pp → R (.int i) H' := by
    intro H1 m c1 P1 le R hR
    refine ⟨p, c, m, rfl, P1, by omega, fun i H2 i0 i1 c2 P2 => hR _ _ ?_⟩
    exact q _ (.int i) H2 (.int i) (.num i0 i1) (c1.trans c2) (P2.mono le)
  refine ⟨_, rfl, rfl, _, rfl, ?_⟩
  refine ite2 (fun _ => ⟨_, rfl, fin H n (Chg.refl _ _) hP (by omega) _ fun _ _ z => z⟩) (fun e0 => ?_)
  have l0 : l ≠ 0 := fun z => e0 (by subst z; rfl)
  obtain ⟨m, rfl⟩ : ∃ m, l = m + 1 := ⟨l - 1, by omega⟩
  refine ⟨_, rfl, p, c, 3, n, rfl, by decide, by decide, hP, by omega, fun d H1 d0 d1 c1 P1 => ?_⟩
  refine ⟨_, _, rfl, rfl, _, rfl, ?_⟩
  refine ite2 (fun _ => ⟨_, rfl, fin H1 (n + 1) c1 P1 (by omega) _ fun _ _ z => z⟩) (fun _ => ?_)
  refine ⟨_, rfl, p, c, 3, n + 1, rfl, by decide, by decide, P1, by omega, fun t H2 t0 t1 c2 P2 => ?_⟩
  refine ⟨_, rfl, by omega, by omega, fun D hD => ?_⟩
  have pD : p ≠ D := P2.neD hD
  have cs : cst (m + 1) = 2 * cst m + 4 := rfl
  have tn : t.toNat ≤ 2 := by omega
  refine lc_range (lo := 0) (n := t.toNat) (fun i G => ∃ (vs : List V) (ds : List PyData), G D = some (.lst vs) ∧ DpAll K G vs ds ∧ (∀ x ∈ ds, Thing m x) ∧ ds.length = i ∧
    FeedAt (n + 2 + i * cst m) c G p ∧ Chg p H2 G) ⟨[], [], upd_same, .nil, fun _ h => (List.not_mem_nil h).elim, rfl, (P2.new hD).mono (by omega), (Chg.refl _ _).mut hD⟩ ?_ ?_
  · rintro i G hi ⟨vs, ds, hG, hA, hT, hlen, hPG, hC⟩
    have ib : i * cst m ≤ 1 * cst m := Nat.mul_le_mul_right _ (by omega)
    refine ⟨rfl, _, rfl, _, rfl, _, _, rfl, rfl, p, c, n + 2 + i * cst m, (by show [V.ref p, V.int (((m + 1 : Nat) : Int) - 1)] = _; rw [show (((m + 1 : Nat) : Int) - 1) = (m : Int) by omega]), by omega, hPG, by omega, fun v d G2 hd hT2 c3 P3 => ?_⟩
    have hG2 : G2 D = some (.lst vs) := c3 _ _ pD.symm hG
    have hl := dps_len hA
    have vl : vs.length ≤ 2 := by omega
    refine ⟨vs, hG2, Nat.lt_of_le_of_lt vl (by decide), vs ++ [v], ds ++ [d], upd_same, ?_, ?_, ?_, ?_, ?_⟩
    · have a1 : DpAll K G2 (vs ++ [v]) (ds ++ [d]) := dps_app (dps_chg hPG.lst c3 ds vs (noLs_of fun x hx => (hT x hx).noL) hA) (.cons hd .nil)
      exact dps_chg ⟨vs, hG2⟩ Chg.self _ _ (noLs_of fun x hx => by
        rcases List.mem_append.mp hx with h | h
        · exact (hT x h).noL
        · rw [List.mem_singleton.mp h]; exact hT2.noL) a1
    · intro x hx
      rcases List.mem_append.mp hx with h | h
      · exact hT x h
      · rw [List.mem_singleton.mp h]; exact hT2
    · rw [List.length_append, List.length_singleton]; omega
    · refine (P3.ne pD rfl).mono ?_
      rw [Nat.add_mul, Nat.one_mul]; omega
    · exact (hC.trans c3).mut hD
  · rintro G ⟨vs, ds, hG, hA, hT, hlen, hPG, hC⟩
    refine ⟨D, vs, rfl, .inl ⟨SqL.of hG, fun t' ht => ?_⟩⟩
    have ib : t.toNat * cst m ≤ 2 * cst m := Nat.mul_le_mul_right _ (by omega)
    refine q _ (.tuple ds) _ (.tup (.inl (.inl upd_same)) (dps_same (same_upd ht) ds vs hA)) (.tup (by omega) hT) ?_ ((hPG.new ht).mono (by omega))
    exact ((c1.trans c2).trans hC).new ht
theorem ok_things (F : Fn K mg "_law_thing" s_law_thing) (T : Bl mg) (C_draw : Cal P w K mg base "_law_draw" 1 ["feed", "many"] spD)
    (C_number : Cal P w K mg base "_law_number" 2 ["feed"] spNum) : ∀ l, Cal P w K mg base "_law_thing" (l + 2) ["feed", "deep"] (spThing K l)
  | 0 => (cal_no F (fun _ _ _ _ _ _ us hl => match us, hl with | [_, _], _ => rfl) ).mono (by decide)
  | l + 1 => ok_thing l F T C_draw C_number (ok_things F T C_draw C_number l)
end

end G0
namespace G0
open PySem PySem.Spec PyProof.Rows L2
section
variable {P : Program} {w : World} {K : PySem.W.Frag} {mg : Str → Option Value} {base : Heap}
/-! ### _law_word -/
theorem add_sign (z : Str) (c : Nat) : (z ++ (⟨#[c]⟩ : Str)).length = z.length + 1 ∧ (z ++ (⟨#[c]⟩ : Str)).cps.toList = z.cps.toList ++ [c] := by
  constructor
  · rw [Str.length_append]; rfl
  · rw [Str.cps_append]; simp
def spWordD : Sp := fun vs H Q _ => ∃ (p c : Addr) (n : Nat), vs = [.ref p] ∧ FeedAt n c H p ∧ n < 10000000 ∧
  ∀ (z : Str) (H' : Hp), WordOk z → Chg p H H' → FeedAt (n + 10) c H' p → Q (.str z) H'
theorem sc_law_word : FnScope ["feed", "word", "k"] ["feed"] (defScope s_law_word) :=
  ⟨rfl, rfl, rfl, by decide +kernel, rfl, by decide +kernel, by decide +kernel⟩
theorem ok_wordd (F : Fn K mg "_law_word" s_law_word) (T : Bl mg) (C_draw : Cal P w K mg base "_law_draw" 1 ["feed", "many"] spD) : Cal P w K mg base "_law_word" 2 ["feed"] spWordD := by
  refine cal_of F sc_law_word
    (fun _ _ _ _ _ _ us hl => match us, hl with | [_], _ => rfl) ?_ ?_
  · rintro vs H Q E ⟨p, c, n, rfl, _⟩
    rfl
  rintro f cdv A outer s H vs Q E free hr ⟨p, c, n, rfl, hP, hn, q⟩
  refine ⟨_, (pss_cons (ps_set (i := 1) sc_law_word.nd rfl (Or.inl rfl) pe_str)
    (pss_cons (ps_for PassesOwn.never rfl (pi_range1 (by rfl) T.range (pa_cons (pe_op op_add pe_int (pe_cal C_draw free (hr.mono (by decide)) (pa_cons (pv 0) (pa_cons pe_int pa_nil)))) pa_nil)) (pg_name (i := 2) sc_law_word.nd rfl (Or.inl rfl))
    (pss_one (ps_set (i := 1) sc_law_word.nd rfl (Or.inl rfl) (pe_op op_add_str (pv 1) (pe_ix ix_str pe_str (pe_cal C_draw free (hr.mono (by decide)) (pa_cons (pv 0) (pa_cons pe_int pa_nil))) (fun _ _ => rfl))))))
    (pss_cons (ps_if (pt_cmpR op_eq (pv 1) pe_str (nomark _))
    (pss_one (ps_set (i := 1) sc_law_word.nd rfl (Or.inl rfl) pe_str))
    pss_nil)
    (pss_one (ps_ret (pv 1)))))), ?_⟩
  refine ⟨_, rfl, p, c, 8, n, rfl, by decide, by decide, hP, by omega, fun d H1 d0 d1 c1 P1 => ⟨_, _, rfl, rfl, _, rfl, by omega, by omega, ?_⟩⟩
  refine for_range (lo := 0) (n := (1 + d).toNat) (fun i σ G => ∃ (z : Str) (u : Option V), σ = [some (.ref p), some (.str z), u] ∧ z.length = i ∧ (∀ c ∈ z.cps.toList, 97 ≤ c ∧ c ≤ 122) ∧ FeedAt (n + 1 + i) c G p ∧ Chg p H1 G)
    ⟨"", none, rfl, rfl, fun c h => by rw [show ("" : Str).cps.toList = [] by decide +kernel] at h; exact (List.not_mem_nil h).elim, P1, Chg.refl _ _⟩ ?_ ?_
  · rintro i σ G hi ⟨z, u, rfl, zl, zc, PG, cG⟩
    refine ⟨_, rfl, _, rfl, p, c, 26, n + 1 + i, rfl, by decide, by decide, PG, by omega, fun e G2 e0 e1 c2 P2 => ?_⟩
    refine ⟨_, _, _, rfl, rfl, by decide, az_at e0 e1, _, _, rfl, rfl, ?_, z ++ ⟨#[97 + e.toNat]⟩, _, rfl, ?_, ?_, P2, cG.trans c2⟩
    · show z.length + 1 ≤ sizeLine
      exact Nat.le_of_lt (small1000 (by omega))
    · rw [(add_sign z _).1]; omega
    · intro x hx
      rw [(add_sign z _).2] at hx
      rcases List.mem_append.mp hx with h | h
      · exact zc x h
      · rw [List.mem_singleton.mp h]; omega
  · rintro σ G ⟨z, u, rfl, zl, zc, PG, cG⟩
    refine ⟨_, rfl, rfl, _, rfl, ?_⟩
    refine ite2 (fun _ => ?_) (fun ng => ?_)
    · exact ⟨_, rfl, q "gones" G ⟨by decide, by decide, by decide, by decide⟩ (c1.trans cG) (PG.mono (by omega))⟩
    · exact ⟨_, rfl, q z G ⟨by omega, by omega, zc, fun e => ng (decide_eq_true (congrArg V.str e))⟩ (c1.trans cG) (PG.mono (by omega))⟩
/-! ### _law_letter -/
def spLetterD (K : PySem.W.Frag) : Sp := fun vs H Q _ => ∃ (p c : Addr) (n : Nat), vs = [.ref p] ∧ FeedAt n c H p ∧ n < 1000000 ∧
  ∀ (v : V) (d : PyData) (H' : Hp), Dp K H' v d → LetterD d → Chg p H H' → FeedAt (n + 150) c H' p → Q v H'
theorem sc_law_letter : FnScope ["feed", "k"] ["feed"] (defScope s_law_letter) :=
  ⟨rfl, rfl, rfl, by decide +kernel, rfl, by decide +kernel, by decide +kernel⟩
theorem ok_letterd (F : Fn K mg "_law_letter" s_law_letter) (T : Bl mg) (C_draw : Cal P w K mg base "_law_draw" 1 ["feed", "many"] spD)
    (C_word : Cal P w K mg base "_law_word" 2 ["feed"] spWordD) (C_thing : Cal P w K mg base "_law_thing" 6 ["feed", "deep"] (spThing K 4)) : Cal P w K mg base "_law_letter" 7 ["feed"] (spLetterD K) := by
  refine cal_of F sc_law_letter
    (fun _ _ _ _ _ _ us hl => match us, hl with | [_], _ => rfl) ?_ ?_
  · rintro vs H Q E ⟨p, c, n, rfl, _⟩
    rfl
  rintro f cdv A outer s H vs Q E free hr ⟨p, c, n, rfl, hP, hn, q⟩
  refine ⟨_, (pss_cons (ps_if (pt_cmpR op_eq (pe_cal C_draw free (hr.mono (by decide)) (pa_cons (pv 0) (pa_cons pe_int pa_nil))) pe_int (nomark _))
    (pss_one (ps_ret (pe_tup (pa_cons pe_str (pa_cons (pe_cal C_draw free (hr.mono (by decide)) (pa_cons (pv 0) (pa_cons pe_int pa_nil))) pa_nil)))))
    pss_nil)
    (pss_one (ps_ret (pe_op op_catA (pe_tup (pa_cons (pe_cal C_word free (hr.mono (by decide)) (pa_cons (pv 0) pa_nil)) pa_nil)) (pe_callTy call_tuple_of (by rfl) T.tuple (by decide +kernel) (pa_cons (pe_lc (own := [("k", 1)]) (g := gName 1) (tt := tYes) (by rfl) sc_law_letter.nd (pi_range1 (by rfl) T.range (pa_cons (pe_cal C_draw free (hr.mono (by decide)) (pa_cons (pv 0) (pa_cons pe_int pa_nil))) pa_nil)) (blkOk_by (N := ["feed", "k"]) (sc := defScope s_law_letter) (by decide +kernel)) (fun _ _ _ _ _ => pg_name (i := 1) sc_law_letter.nd rfl (Or.inl rfl)) (fun _ _ _ _ _ => pts_nil) (fun _ _ _ _ _ => (pe_cal C_thing free (hr.mono (by decide)) (pa_cons (pv 0) (pa_cons pe_int pa_nil))))) pa_nil)))))), ?_⟩
  refine ⟨_, rfl, p, c, 2, n, rfl, by decide, by decide, hP, by omega, fun d H1 d0 d1 c1 P1 => ?_⟩
  refine ⟨rfl, _, rfl, ?_⟩
  refine ite2 (fun _ => ?_) (fun _ => ?_)
  · refine ⟨_, rfl, p, c, 2, n + 1, rfl, by decide, by decide, P1, by omega, fun e H2 e0 e1 c2 P2 => ⟨by show 2 ≤ sizeLine; decide, fun t ht => ?_⟩⟩
    exact q _ (.tuple [.str "a", .int e]) _ (.tup (SqT.of upd_same) (.cons (.str _) (.cons (.int _) .nil))) ⟨"a", [.int e], rfl, ⟨by decide, by decide, by decide, by decide⟩, by simp, fun x hx => by
      rw [List.mem_singleton.mp hx]; exact .num e0 (by omega)⟩ ((c1.trans c2).new ht) ((P2.new ht).mono (by omega))
  · refine ⟨_, rfl, p, c, n + 1, rfl, P1, by omega, fun z H2 hz c2 P2 => ⟨by show 1 ≤ sizeLine; decide, fun t ht => ?_⟩⟩
    have Pt := fun o => P2.new (o := o) ht
    have tp : t ≠ p := (P2.neD ht).symm
    refine ⟨_, rfl, p, c, 3, n + 11, rfl, by decide, by decide, Pt _, by omega, fun m G1 g0 g1 c4 P4 => ?_⟩
    refine ⟨_, rfl, by omega, by omega, fun D2 hD2 => ?_⟩
    have pD2 : p ≠ D2 := P4.neD hD2
    refine lc_range (lo := 0) (n := m.toNat) (fun i G => ∃ (vs : List V) (ds : List PyData), G D2 = some (.lst vs) ∧ DpAll K G vs ds ∧ (∀ x ∈ ds, Thing 3 x) ∧ ds.length = i ∧
      FeedAt (n + 12 + i * 60) c G p ∧ Chg p G1 G) ⟨[], [], upd_same, .nil, fun _ h => (List.not_mem_nil h).elim, rfl, (P4.new hD2).mono (by omega), (Chg.refl _ _).mut hD2⟩ ?_ ?_
    · rintro i G2 hi ⟨vs, ds, hG2, hA, hT, hlen2, hPG2, hC2⟩
      have ib : i * 60 ≤ 1 * 60 := Nat.mul_le_mul_right _ (by omega)
      refine ⟨rfl, _, rfl, p, c, n + 12 + i * 60, rfl, by decide, hPG2, (by show n + 12 + i * 60 + 60 < 100000000; omega), fun v d G3 hd hT2 c5 P5 => ?_⟩
      have hG3 : G3 D2 = some (.lst vs) := c5 _ _ pD2.symm hG2
      have hl := dps_len hA
      have vl : vs.length ≤ 4 := by omega
      refine ⟨vs, hG3, Nat.lt_of_le_of_lt vl (by decide), vs ++ [v], ds ++ [d], upd_same, ?_, ?_, ?_, ?_, ?_⟩
      · have a1 : DpAll K G3 (vs ++ [v]) (ds ++ [d]) := dps_app (dps_chg hPG2.lst c5 ds vs (noLs_of fun x hx => (hT x hx).noL) hA) (.cons hd .nil)
        exact dps_chg ⟨vs, hG3⟩ Chg.self _ _ (noLs_of fun x hx => by
          rcases List.mem_append.mp hx with h | h
          · exact (hT x h).noL
          · rw [List.mem_singleton.mp h]; exact hT2.noL) a1
      · intro x hx
        rcases List.mem_append.mp hx with h | h
        · exact hT x h
        · rw [List.mem_singleton.mp h]; exact hT2
      · rw [List.length_append, List.length_singleton]; omega
      · have P5' : FeedAt (n + 12 + i * 60 + 60) c G3 p := P5
        exact (P5'.ne pD2 rfl).mono (by omega)
      · exact (hC2.trans c5).mut hD2
    · rintro G2 ⟨vs, ds, hG2, hA, hT, hlen2, hPG2, hC2⟩
      have ib : m.toNat * 60 ≤ 2 * 60 := Nat.mul_le_mul_right _ (by omega)
      have ct : Chg p H2 G1 := ((Chg.refl p H2).new ht).trans c4
      have c3 := c1.trans c2
      have hl := dps_len hA
      refine ⟨D2, vs, rfl, .inl ⟨SqL.of hG2, fun u hu => ?_⟩⟩
      have htu := same_upd (o := .tup vs) hu t _ (hC2 t _ tp (c4 t _ tp upd_same))
      refine cat_any (SqT.of htu) (SqT.of upd_same) (by simp; omega) fun r H9 s9 h9 => ?_
      have hA' := dps_same s9 ds vs (dps_same (same_upd (o := .tup vs) hu) ds vs hA)
      exact q _ (.tuple (.str z :: ds)) _ (.tup h9 (.cons (.str _) hA')) ⟨_, ds, rfl, hz, by omega, hT⟩
        ((((c3.trans ct).trans hC2).new hu).trans (Chg.same s9)) (((hPG2.new hu).keep s9).mono (by omega))
/-! ### _law_many -/
def spMany : Sp := fun vs H Q _ => ∃ (p c : Addr) (n : Nat), vs = [.ref p] ∧ FeedAt n c H p ∧ n < 1000000 ∧
  ∀ (d : Int) (H' : Hp), 1 ≤ d → d ≤ 60 → Chg p H H' → FeedAt (n + 2) c H' p → Q (.int d) H'
theorem sc_law_many : FnScope ["feed"] ["feed"] (defScope s_law_many) :=
  ⟨rfl, rfl, rfl, by decide +kernel, rfl, by decide +kernel, by decide +kernel⟩
theorem ok_many (F : Fn K mg "_law_many" s_law_many) (C_draw : Cal P w K mg base "_law_draw" 1 ["feed", "many"] spD) : Cal P w K mg base "_law_many" 2 ["feed"] spMany := by
  refine cal_of F sc_law_many
    (fun _ _ _ _ _ _ us hl => match us, hl with | [_], _ => rfl) ?_ ?_
  · rintro vs H Q E ⟨p, c, n, rfl, _⟩
    rfl
  rintro f cdv A outer s H vs Q E free hr ⟨p, c, n, rfl, hP, hn, q⟩
  refine ⟨_, (pss_cons (ps_if (pt_cmpR op_eq (pe_cal C_draw free (hr.mono (by decide)) (pa_cons (pv 0) (pa_cons pe_int pa_nil))) pe_int (nomark _))
    (pss_one (ps_ret (pe_op op_add pe_int (pe_cal C_draw free (hr.mono (by decide)) (pa_cons (pv 0) (pa_cons pe_int pa_nil))))))
    pss_nil)
    (pss_one (ps_ret (pe_op op_add pe_int (pe_cal C_draw free (hr.mono (by decide)) (pa_cons (pv 0) (pa_cons pe_int pa_nil))))))), ?_⟩
  refine ⟨_, rfl, p, c, 8, n, rfl, by decide, by decide, hP, by omega, fun d H1 d0 d1 c1 P1 => ⟨rfl, _, rfl, ?_⟩⟩
  refine ite2 (fun _ => ?_) (fun _ => ?_)
  · exact ⟨_, rfl, p, c, 60, n + 1, rfl, by decide, by decide, P1, by omega, fun e H2 e0 e1 c2 P2 => ⟨_, _, rfl, rfl, q _ H2 (by omega) (by omega) (c1.trans c2) P2⟩⟩
  · exact ⟨_, rfl, p, c, 5, n + 1, rfl, by decide, by decide, P1, by omega, fun e H2 e0 e1 c2 P2 => ⟨_, _, rfl, rfl, q _ H2 (by omega) (by omega) (c1.trans c2) P2⟩⟩
/-! ### _law_any_row -/
inductive RowG : List GD → Prop
  | one {w : Str} {s : Int} : (w = "ask" ∨ w = "in" ∨ w = "out" ∨ w = "fell") → 0 ≤ s → s < 60 → RowG [.str w, .int s]
  | gone {s t : Int} : 0 ≤ s → s < 60 → 0 ≤ t → t < 60 → RowG [.str "gone", .int s, .int t]
  | let {w : Str} {s t : Int} {gs : List GD} : (w = "put" ∨ w = "came") → 0 ≤ s → s < 60 → 0 ≤ t → t < 60 → RowG [.str w, .int s, .int t, .tup gs]
def words7 : List V := [.str "ask", .str "in", .str "out", .str "fell", .str "gone", .str "put", .str "came"]
theorem word7 {d : Int} (h0 : 0 ≤ d) (h1 : d < 7) : ∃ w : Str, atI words7 d = some (.str w) ∧ w.length ≤ 1000 ∧
    (((w = "ask" ∨ w = "in" ∨ w = "out" ∨ w = "fell") ∧ inV (.str w) [.str "gone", .str "put", .str "came"] = false ∧ inV (.str w) [.str "put", .str "came"] = false) ∨
     (w = "gone" ∧ inV (.str w) [.str "gone", .str "put", .str "came"] = true ∧ inV (.str w) [.str "put", .str "came"] = false) ∨
     ((w = "put" ∨ w = "came") ∧ inV (.str w) [.str "gone", .str "put", .str "came"] = true ∧ inV (.str w) [.str "put", .str "came"] = true)) := by
  have : d = 0 ∨ d = 1 ∨ d = 2 ∨ d = 3 ∨ d = 4 ∨ d = 5 ∨ d = 6 := by omega
  rcases this with rfl | rfl | rfl | rfl | rfl | rfl | rfl
  · exact ⟨"ask", rfl, by decide, .inl ⟨.inl rfl, by decide +kernel, by decide +kernel⟩⟩
  · exact ⟨"in", rfl, by decide, .inl ⟨.inr (.inl rfl), by decide +kernel, by decide +kernel⟩⟩
  · exact ⟨"out", rfl, by decide, .inl ⟨.inr (.inr (.inl rfl)), by decide +kernel, by decide +kernel⟩⟩
  · exact ⟨"fell", rfl, by decide, .inl ⟨.inr (.inr (.inr rfl)), by decide +kernel, by decide +kernel⟩⟩
  · exact ⟨"gone", rfl, by decide, .inr (.inl ⟨rfl, by decide +kernel, by decide +kernel⟩)⟩
  · exact ⟨"put", rfl, by decide, .inr (.inr ⟨.inl rfl, by decide +kernel, by decide +kernel⟩)⟩
  · exact ⟨"came", rfl, by decide, .inr (.inr ⟨.inr rfl, by decide +kernel, by decide +kernel⟩)⟩
def spRow (K : PySem.W.Frag) : Sp := fun vs H Q _ => ∃ (p c : Addr) (m : Int) (n : Nat), vs = [.ref p, .int m] ∧ 1 ≤ m ∧ m ≤ 60 ∧ FeedAt n c H p ∧ n < 100000 ∧
  ∀ (r : Addr) (xs : List V) (gs : List GD) (H' : Hp), SqT K H' r xs → GvAll K H' xs gs → RowG gs → Chg p H H' → FeedAt (n + 153) c H' p → Q (.ref r) H'
theorem sc_law_any_row : FnScope ["feed", "wide", "word", "row"] ["feed", "wide"] (defScope s_law_any_row) :=
  ⟨rfl, rfl, rfl, by decide +kernel, rfl, by decide +kernel, by decide +kernel⟩
theorem ok_anyrow (F : Fn K mg "_law_any_row" s_law_any_row) (C_draw : Cal P w K mg base "_law_draw" 1 ["feed", "many"] spD)
    (C_letter : Cal P w K mg base "_law_letter" 7 ["feed"] (spLetterD K)) : Cal P w K mg base "_law_any_row" 8 ["feed", "wide"] (spRow K) := by
  refine cal_of F sc_law_any_row
    (fun _ _ _ _ _ _ us hl => match us, hl with | [_, _], _ => rfl) ?_ ?_
  · rintro vs H Q E ⟨p, c, m, n, rfl, _⟩
    rfl
  rintro f cdv A outer s H vs Q E free hr ⟨p, c, m, n, rfl, m1, m60, hP, hn, q⟩
  refine ⟨_, (pss_cons (ps_set (i := 2) sc_law_any_row.nd rfl (Or.inl rfl) (pe_ix ix_list (pe_lst (pa_cons pe_str (pa_cons pe_str (pa_cons pe_str (pa_cons pe_str (pa_cons pe_str (pa_cons pe_str (pa_cons pe_str pa_nil)))))))) (pe_cal C_draw free (hr.mono (by decide)) (pa_cons (pv 0) (pa_cons pe_int pa_nil))) (fun _ _ => rfl)))
    (pss_cons (ps_set (i := 3) sc_law_any_row.nd rfl (Or.inl rfl) (pe_tup (pa_cons (pv 2) (pa_cons (pe_cal C_draw free (hr.mono (by decide)) (pa_cons (pv 0) (pa_cons (pv 1) pa_nil))) pa_nil))))
    (pss_cons (ps_if (pt_cmpR op_in_seq (pv 2) (pe_lst (pa_cons pe_str (pa_cons pe_str (pa_cons pe_str pa_nil)))) (by rfl))
    (pss_one (ps_set (i := 3) sc_law_any_row.nd rfl (Or.inl rfl) (pe_op op_catA (pv 3) (pe_tup (pa_cons (pe_cal C_draw free (hr.mono (by decide)) (pa_cons (pv 0) (pa_cons (pv 1) pa_nil))) pa_nil)))))
    pss_nil)
    (pss_cons (ps_if (pt_cmpR op_in_seq (pv 2) (pe_lst (pa_cons pe_str (pa_cons pe_str pa_nil))) (by rfl))
    (pss_one (ps_set (i := 3) sc_law_any_row.nd rfl (Or.inl rfl) (pe_op op_catA (pv 3) (pe_tup (pa_cons (pe_cal C_letter free (hr.mono (by decide)) (pa_cons (pv 0) pa_nil)) pa_nil)))))
    pss_nil)
    (pss_one (ps_ret (pv 3))))))), ?_⟩
  refine ⟨by show 7 ≤ sizeLine; decide, fun L hL => ?_⟩
  have cL : Chg p H (upd H L (.lst words7)) := (Chg.refl _ _).new hL
  have PL : FeedAt n c (upd H L (.lst words7)) p := hP.new hL
  refine ⟨_, rfl, p, c, 7, n, rfl, by decide, by decide, PL, by omega, fun d H1 d0 d1 c1 P1 => ?_⟩
  obtain ⟨wd, hw, wl, kinds⟩ := word7 d0 d1
  refine ⟨L, _, _, _, rfl, rfl, SqL.of (c1 _ _ (hP.neD hL).symm upd_same), hw, ?_⟩
  refine ⟨_, rfl, _, rfl, _, rfl, p, c, m, n + 1, rfl, by omega, by omega, P1, by omega, fun sx H2 s0 s1 c2 P2 => ⟨by show 2 ≤ sizeLine; decide, fun r1 hr1 => ?_⟩⟩
  have C2 := ((cL.trans c1).trans c2)
  have g1 : GvAll K (upd H2 r1 (.tup [.str wd, .int sx])) [.str wd, .int sx] [.str wd, .int sx] := .cons (.str wl) (.cons (.int _) .nil)
  have P3 := P2.new (o := .tup [.str wd, .int sx]) hr1
  have C3 : Chg p H (upd H2 r1 (.tup [.str wd, .int sx])) := C2.new hr1
  obtain ⟨H3, e3⟩ : ∃ H3, H3 = upd H2 r1 (.tup [.str wd, .int sx]) := ⟨_, rfl⟩
  have v1 : H3 r1 = some (.tup [.str wd, .int sx]) := by rw [e3]; exact upd_same
  rw [← e3] at g1 P3 C3
  rw [← e3]
  -- word in ['gone', 'put', 'came']
  refine ⟨_, rfl, by show 3 ≤ sizeLine; decide, fun L2 hL2 => ⟨L2, _, rfl, .inl (SqL.of upd_same), rfl, rfl, _, rfl, ?_⟩⟩
  have u1 := same_upd (o := .lst [.str "gone", .str "put", .str "came"]) hL2
  rcases kinds with ⟨kw, i3, i2⟩ | ⟨kw, i3, i2⟩ | ⟨kw, i3, i2⟩
  · refine iteF' i3 ?_
    refine ⟨_, rfl, by show 2 ≤ sizeLine; decide, fun L3 hL3 => ⟨L3, _, rfl, .inl (SqL.of upd_same), rfl, rfl, _, rfl, iteF' i2 ?_⟩⟩
    have u := u1.trans (same_upd (o := .lst [.str "put", .str "came"]) hL3)
    exact ⟨_, rfl, q r1 _ _ _ (SqT.of (u _ _ v1)) (gvs_same u _ _ g1) (.one kw s0 (by omega)) (C3.trans (Chg.same u)) ((P3.keep u).mono (by omega))⟩
  · refine iteT' i3 ?_
    refine ⟨_, rfl, _, rfl, _, rfl, p, c, m, n + 2, rfl, by omega, by omega, P3.keep u1, by omega, fun tx H4 t0 t1 c4 P4 => ⟨by show 1 ≤ sizeLine; decide, fun r2 hr2 => ?_⟩⟩
    have u2 := same_upd (o := .tup [.int tx]) hr2
    refine cat_any (sqt_same u2 (sqt_chg (P3.keep u1).lst c4 (SqT.of (u1 _ _ v1)))) (SqT.of upd_same) (by simp) fun r3 H5 s5 h5 => ?_
    have g5 : GvAll K H5 ([.str wd, .int sx] ++ [.int tx]) [.str wd, .int sx, .int tx] := .cons (.str wl) (.cons (.int _) (.cons (.int _) .nil))
    refine ⟨_, rfl, by show 2 ≤ sizeLine; decide, fun L3 hL3 => ⟨L3, _, rfl, .inl (SqL.of upd_same), rfl, rfl, _, rfl, iteF' i2 ?_⟩⟩
    have u3 := same_upd (o := .lst [.str "put", .str "came"]) hL3
    subst kw
    exact ⟨_, rfl, q r3 _ _ _ (sqt_same u3 h5) (gvs_same u3 _ _ g5) (.gone s0 (by omega) t0 (by omega)) (((C3.trans (Chg.same u1)).trans c4).trans (Chg.same ((u2.trans s5).trans u3))) ((P4.keep ((u2.trans s5).trans u3)).mono (by omega))⟩
  · refine iteT' i3 ?_
    refine ⟨_, rfl, _, rfl, _, rfl, p, c, m, n + 2, rfl, by omega, by omega, P3.keep u1, by omega, fun tx H4 t0 t1 c4 P4 => ⟨by show 1 ≤ sizeLine; decide, fun r2 hr2 => ?_⟩⟩
    have u2 := same_upd (o := .tup [.int tx]) hr2
    refine cat_any (sqt_same u2 (sqt_chg (P3.keep u1).lst c4 (SqT.of (u1 _ _ v1)))) (SqT.of upd_same) (by simp) fun r3 H5 s5 h5 => ?_
    have u3 := u2.trans s5
    refine ⟨_, rfl, by show 2 ≤ sizeLine; decide, fun L3 hL3 => ⟨L3, _, rfl, .inl (SqL.of upd_same), rfl, rfl, _, rfl, iteT' i2 ?_⟩⟩
    have u4 := u3.trans (same_upd (o := .lst [.str "put", .str "came"]) hL3)
    have h5' := sqt_same (same_upd (o := .lst [.str "put", .str "came"]) hL3) h5
    refine ⟨_, rfl, _, rfl, p, c, n + 3, rfl, P4.keep u4, by omega, fun lv ld H6 hd hL c6 P6 => ⟨by show 1 ≤ sizeLine; decide, fun r4 hr4 => ?_⟩⟩
    obtain ⟨la, lx, lg, rfl, hx, hgs, l1, l6⟩ := letter_gv hL hd
    have u5 := same_upd (o := .tup [.ref la]) hr4
    refine cat_any (sqt_same u5 (sqt_chg (P4.keep u4).lst c6 h5')) (SqT.of upd_same) (by simp) fun r5 H7 s7 h7 => ?_
    have u6 := u5.trans s7
    have g7 : GvAll K H7 (([.str wd, .int sx] ++ [.int tx]) ++ [.ref la]) [.str wd, .int sx, .int tx, .tup lg] :=
      .cons (.str wl) (.cons (.int _) (.cons (.int _) (.cons (.tup (sqt_same u6 hx) (by omega) (gvs_same u6 _ _ hgs)) .nil)))
    exact ⟨_, rfl, q r5 _ _ _ h7 g7 (.let kw s0 (by omega) t0 (by omega)) (((((C3.trans (Chg.same u1)).trans c4).trans (Chg.same u4)).trans c6).trans (Chg.same u6)) ((P6.keep u6).mono (by omega))⟩
end

end G0
namespace G0
open PySem PySem.Spec PyProof.Rows L2
abbrev Bk (mg : Str → Option Value) : Prop := Bl mg

end G0
namespace G0
open PySem PySem.Spec PyProof.Rows L2
/-- the letters' constants -/
structure Lc (K : PySem.W.Frag) (mg : Str → Option Value) : Prop where
  longest : ∃ t, mg "LONGEST" = some (.int 8 t)
  deepest : ∃ t, mg "DEEPEST" = some (.int 4 t)
  top : ∃ t, mg "TOP" = some (.int (10 ^ 60) t)
  signs : ∃ t, mg "SIGNS" = some (.str "abcdefghijklmnopqrstuvwxyz" t)
  mark : ∃ e, mg "END_MARK" = some (.ref e) ∧ ∀ H, SqT K H e [.str "gone"]
theorem lc_str {x : Str} {g : TG} {tt : TT} {te : TE} {vs : List Nat} {σ : L2.St} {H1 : Hp} {D : Addr} {Qd : Hp → Prop} (Pv : Nat → Hp → Prop)
    (start : Pv 0 (upd H1 D (.lst [])))
    (turn : ∀ i c H, x.cps[i]? = some c → Pv i H → g (.str ⟨#[c]⟩) (wipe σ vs) H fun σ2 H2 => wipe σ2 vs = wipe σ vs ∧ tt σ2 H2 fun b H3 =>
      if b = true then te σ2 H3 fun y H4 => ∃ acc, H4 D = some (.lst acc) ∧ acc.length < sizeLine ∧ Pv (i + 1) (upd H4 D (.lst (acc ++ [y]))) else Pv (i + 1) H3)
    (done : ∀ H, Pv x.cps.size H → Qd H) :
    ∃ W : Nat → Nat → Hp → Prop, (∃ m, W 0 m (upd H1 D (.lst []))) ∧ ∀ i m H, W i m H →
      ((Its x).stop i H ∧ Qd H) ∨ ((Its x).go i H ∧ ∃ Nx : Hp → Prop, (∀ H', Nx H' → ∃ m', m' < m ∧ W (i + 1) m' H') ∧
        ∀ y H', (Its x).yld i H y H' → g y (wipe σ vs) H' fun σ2 H2 => wipe σ2 vs = wipe σ vs ∧ tt σ2 H2 fun b H3 =>
          if b = true then te σ2 H3 fun y H4 => ∃ acc, H4 D = some (.lst acc) ∧ acc.length < sizeLine ∧ Nx (upd H4 D (.lst (acc ++ [y]))) else Nx H3) := by
  refine ⟨fun i m H => m = x.cps.size - i ∧ i ≤ x.cps.size ∧ Pv i H, ⟨x.cps.size, by simp, Nat.zero_le _, start⟩, ?_⟩
  rintro i m H ⟨rfl, le, pv⟩
  rcases Nat.lt_or_ge i x.cps.size with lt | ge
  · refine .inr ⟨lt, Pv (i + 1), fun H' pv' => ⟨x.cps.size - (i + 1), by omega, rfl, lt, pv'⟩, fun y H' told => ?_⟩
    obtain ⟨rfl, c, hc, rfl⟩ := told
    exact turn i c H' hc pv
  · have e : i = x.cps.size := by omega
    exact .inl ⟨ge, done H (e ▸ pv)⟩
section
variable {P : Program} {w : World} {K : PySem.W.Frag} {mg : Str → Option Value} {base : Heap}
/-! ### is_below -/
def spBelow (K : PySem.W.Frag) : Sp := fun vs H Q _ => ∃ (x : V) (t : Int) (g : GD), vs = [x, .int t] ∧ Gv K H x g ∧ Q (.bl (g.less t)) H
theorem sc_is_below : FnScope ["thing", "top"] ["thing", "top"] (defScope s_is_below) :=
  ⟨rfl, rfl, rfl, by decide +kernel, rfl, by decide +kernel, by decide +kernel⟩
theorem ok_below (F : Fn K mg "is_below" s_is_below) (T : Bk mg) : Cal P w K mg base "is_below" 1 ["thing", "top"] (spBelow K) := by
  refine cal_of F sc_is_below
    (fun _ _ _ _ _ _ us hl => match us, hl with | [_, _], _ => rfl) ?_ ?_
  · rintro vs H Q E ⟨x, t, g, rfl, _⟩
    rfl
  rintro f cdv A outer s H vs Q E free hr ⟨x, t, g, rfl, hx, q⟩
  refine ⟨_, (pss_one (ps_ret (pe_and (pe_callB call_isi (by rfl) T.isinstance (by decide +kernel) (pa_cons (pv 0) (pa_cons (pe_bltn (v := .ty "int") (by rfl) T.int (by decide +kernel) rfl) pa_nil))) (pe_and (pe_not (pe_callB call_isi (by rfl) T.isinstance (by decide +kernel) (pa_cons (pv 0) (pa_cons (pe_bltn (v := .ty "bool") (by rfl) T.bool (by decide +kernel) rfl) pa_nil)))) (pe_one (pe_chain op_le op_lt pe_int (pv 0) (pv 1))))))), ?_⟩
  refine ⟨_, rfl, x, .ty "int", _, _, _, rfl, .ty _, gv_ty hx, kit_int g, _, rfl, ?_⟩
  cases hx with
  | int i =>
    refine iteT' rfl ⟨_, rfl, _, .ty "bool", _, _, _, rfl, .ty _, .base (.int i), kit_bool (.int i), _, rfl, _, rfl, iteT' rfl ⟨_, rfl, _, _, rfl, rfl, _, rfl, ?_⟩⟩
    refine ite2 (fun c => ⟨_, rfl, _, _, rfl, rfl, ?_⟩) (fun c => ?_)
    · have c' : 0 ≤ i := of_decide_eq_true c
      simpa [GD.less, c'] using q
    · have c' : ¬ 0 ≤ i := fun z => c (decide_eq_true z)
      simpa [GD.less, c'] using q
  | bl b => exact iteT' rfl ⟨_, rfl, _, .ty "bool", _, _, _, rfl, .ty _, .base (.bl b), kit_bool (.bl b), _, rfl, _, rfl, iteF' rfl q⟩
  | non => exact iteF' rfl q
  | str _ => exact iteF' rfl q
  | lst _ => exact iteF' rfl q
  | dct _ => exact iteF' rfl q
  | tup _ _ _ => exact iteF' rfl q
/-! ### _is_word -/
theorem all_signs {z : Str} : (z.cps.toList.map fun c => decide (c ∈ signs)).all id = z.cps.toList.all fun c => decide (c ∈ signs) := by
  rw [List.all_map]; rfl
def spWord (K : PySem.W.Frag) : Sp := fun vs H Q _ => ∃ (x : V) (g : GD), vs = [x] ∧ Gv K H x g ∧ ∀ H', Same H H' → Q (.bl g.word) H'
theorem sc_is_word : FnScope ["thing", "sign"] ["thing"] (defScope s_is_word) :=
  ⟨rfl, rfl, rfl, by decide +kernel, rfl, by decide +kernel, by decide +kernel⟩
theorem ok_word (F : Fn K mg "_is_word" s_is_word) (T : Bk mg) (L : Lc K mg) : Cal P w K mg base "_is_word" 1 ["thing"] (spWord K) := by
  obtain ⟨t1, hLo⟩ := L.longest
  obtain ⟨t2, hSi⟩ := L.signs
  obtain ⟨e, hMa, sMa⟩ := L.mark
  refine cal_of F sc_is_word
    (fun _ _ _ _ _ _ us hl => match us, hl with | [_], _ => rfl) ?_ ?_
  · rintro vs H Q E ⟨x, g, rfl, _⟩
    rfl
  rintro f cdv A outer s H vs Q E free hr ⟨x, g, rfl, hx, q⟩
  refine ⟨_, (pss_cons (ps_if (PW.pt (pw_or (pt_not (pt_val (pe_callB call_isi (by rfl) T.isinstance (by decide +kernel) (pa_cons (pv 0) (pa_cons (pe_bltn (v := .ty "str") (by rfl) T.str (by decide +kernel) rfl) pa_nil))))) (pw_or1 (pt_not (pt_chain op_le op_le pe_int (pe_callB call_len_str (by rfl) T.len (by decide +kernel) (pa_cons (pv 0) pa_nil)) (pe_glob (v := .int 8) (by rfl) hLo ⟨_, rfl⟩))))))
    (pss_one (ps_ret pe_bl))
    pss_nil)
    (pss_one (ps_ret (pe_and (pe_callB (cr_all (by rfl)) (by rfl) T.all (by decide +kernel) (pa_cons (pe_lc (own := [("sign", 1)]) (g := gName 1) (tt := tYes) (by rfl) sc_is_word.nd (pi_str (pv 0)) (blkOk_by (N := ["thing", "sign"]) (sc := defScope s_is_word) (by decide +kernel)) (fun _ _ _ _ _ => pg_name (i := 1) sc_is_word.nd rfl (Or.inl rfl)) (fun _ _ _ _ _ => pts_nil) (fun _ _ _ _ _ => (pe_cmpR op_inS (pv 1) (pe_glob (v := .str "abcdefghijklmnopqrstuvwxyz") (by rfl) hSi ⟨_, rfl⟩) (by rfl)))) pa_nil)) (pe_one (pe_cmpR op_ne (pv 0) (pe_ix ix_tup (pe_glob (v := .ref e) (by rfl) hMa rfl) pe_int (fun _ _ => rfl)) (nomark _))))))), ?_⟩
  refine ⟨_, rfl, x, .ty "str", _, _, _, rfl, .ty _, gv_ty hx, kit_str g, _, rfl, ?_⟩
  cases hx with
  | str hz =>
    rename_i z
    have zl : z.length ≤ sizeLine := Nat.le_trans hz (by decide)
    refine iteF' rfl ⟨_, rfl, z, rfl, zl, _, _, rfl, rfl, _, rfl, ?_⟩
    have no : wordB z = false → Q (.bl false) H := fun e => by
      have := q H (Same.refl H)
      simp only [GD.word] at this
      rwa [e] at this
    refine ite2 (fun c1 => ?_) (fun c1 => ?_)
    · have l1 : 1 ≤ z.length := by have := of_decide_eq_true c1; omega
      refine ⟨_, _, rfl, rfl, _, rfl, ?_⟩
      by_cases l8 : z.length ≤ 8
      · refine iteF' (c := !decide (((z.length : Nat) : Int) ≤ 8)) (by simp; omega) ?_
        refine ⟨_, rfl, z, rfl, fun D hD => ?_⟩
        have zs : z.cps.toList.length = z.length := by simp [Str.length]
        refine lc_str (fun i G => Same H G ∧ G D = some (.lst (((z.cps.toList.take i).map fun c => decide (c ∈ signs)).map V.bl))) ⟨same_upd hD, upd_same⟩ ?_ ?_
        · rintro i c G hc ⟨sG, hG⟩
          have hc' : z.cps.toList[i]? = some c := by rw [Array.getElem?_toList]; exact hc
          refine ⟨rfl, _, rfl, c, _, rfl, rfl, _, hG, ?_, fun b o e => ?_, ?_⟩
          · rw [List.length_map, List.length_map, List.length_take]
            exact small_of' (by omega)
          · rw [upd_ne (ne_of_none e hD)]; exact sG b o e
          · rw [upd_same, List.take_succ, hc', List.map_append, List.map_append]; rfl
        · rintro G ⟨sG, hG⟩
          have ez : z.cps.toList.take z.cps.size = z.cps.toList := List.take_of_length_le (by simp)
          rw [ez] at hG
          refine ⟨D, _, rfl, SqL.of hG, _, rfl, ?_⟩
          rw [all_signs]
          have wz : wordB z = (z.cps.toList.all (fun c => decide (c ∈ signs)) && !decide (z = "gone")) := by
            simp [wordB, l1, l8]
          have q' := q G sG
          simp only [GD.word, wz] at q'
          cases al : z.cps.toList.all fun c => decide (c ∈ signs) with
          | true =>
            rw [al] at q'
            refine iteT ⟨_, rfl, e, _, _, _, rfl, rfl, sMa _, rfl, rfl, ?_⟩
            simpa using q'
          | false =>
            rw [al] at q'
            exact iteF q'
      · refine iteT' (c := !decide (((z.length : Nat) : Int) ≤ 8)) (by simp; omega) ?_
        exact no (by simp [wordB, l8])
    · refine ⟨_, rfl, iteT' rfl ?_⟩
      have l1 : ¬ 1 ≤ z.length := fun h => c1 (decide_eq_true (by omega))
      exact no (by simp [wordB, l1])
  | bl b => exact iteT' rfl (q H (Same.refl H))
  | non => exact iteT' rfl (q H (Same.refl H))
  | int i => exact iteT' rfl (q H (Same.refl H))
  | lst _ => exact iteT' rfl (q H (Same.refl H))
  | dct _ => exact iteT' rfl (q H (Same.refl H))
  | tup _ _ _ => exact iteT' rfl (q H (Same.refl H))
/-! ### _is_thing -/
theorem parts_all (n : Nat) : ∀ gs : List GD, GD.parts n gs = (gs.map (GD.part n)).all id
  | [] => by simp [GD.parts]
  | g :: gs => by simp [GD.parts, parts_all n gs]
theorem part_not {n : Nat} {g : GD} (h : g.isTup = false) : g.part n = g.less (10 ^ 60) := by
  cases g <;> cases n <;> simp_all [GD.part, GD.less, GD.isTup]
def spIsThing (K : PySem.W.Frag) : Nat → Sp
  | 0 => fun _ _ _ _ => False
  | n + 1 => fun vs H Q _ => ∃ (x : V) (g : GD), vs = [x, .int (4 - (n : Int))] ∧ n ≤ 3 ∧ Gv K H x g ∧ (∀ H', Same H H' → Q (.bl (g.part n)) H')
theorem sc_is_thing : FnScope ["thing", "around", "part"] ["thing", "around"] (defScope s_is_thing) :=
  ⟨rfl, rfl, rfl, by decide +kernel, rfl, by decide +kernel, by decide +kernel⟩
theorem ok_isthing (n : Nat) (F : Fn K mg "_is_thing" s_is_thing) (T : Bk mg) (L : Lc K mg) (C_below : Cal P w K mg base "is_below" 1 ["thing", "top"] (spBelow K))
    (C_thing : Cal P w K mg base "_is_thing" (n + 1) ["thing", "around"] (spIsThing K n)) : Cal P w K mg base "_is_thing" (n + 1 + 1) ["thing", "around"] (spIsThing K (n + 1)) := by
  obtain ⟨t1, hDe⟩ := L.deepest
  obtain ⟨t2, hTo⟩ := L.top
  refine cal_of F sc_is_thing
    (fun _ _ _ _ _ _ us hl => match us, hl with | [_, _], _ => rfl) ?_ ?_
  · rintro vs H Q E ⟨x, g, rfl, _⟩
    rfl
  rintro f cdv A outer s H vs Q E free hr ⟨x, g, rfl, n3, hx, q⟩
  refine ⟨_, (pss_cons (ps_if (pt_not (pt_val (pe_callB call_isi (by rfl) T.isinstance (by decide +kernel) (pa_cons (pv 0) (pa_cons (pe_bltn (v := .ty "tuple") (by rfl) T.tuple (by decide +kernel) rfl) pa_nil)))))
    (pss_one (ps_ret (pe_cal C_below free (hr.mono (by omega)) (pa_cons (pv 0) (pa_cons (pe_glob (v := .int (10 ^ 60)) (by rfl) hTo ⟨_, rfl⟩) pa_nil)))))
    pss_nil)
    (pss_cons (ps_if (pt_cmpR op_eq (pv 1) (pe_glob (v := .int 4) (by rfl) hDe ⟨_, rfl⟩) (nomark _))
    (pss_one (ps_ret pe_bl))
    pss_nil)
    (pss_one (ps_ret (pe_callB (cr_all (by rfl)) (by rfl) T.all (by decide +kernel) (pa_cons (pe_lc (own := [("part", 2)]) (g := gName 2) (tt := tYes) (by rfl) sc_is_thing.nd (pi_tup (pv 0)) (blkOk_by (N := ["thing", "around", "part"]) (sc := defScope s_is_thing) (by decide +kernel)) (fun _ _ _ _ _ => pg_name (i := 2) sc_is_thing.nd rfl (Or.inl rfl)) (fun _ _ _ _ _ => pts_nil) (fun _ _ _ _ _ => (pe_cal C_thing free hr (pa_cons (pv 2) (pa_cons (pe_op op_add (pv 1) pe_int) pa_nil))))) pa_nil)))))), ?_⟩
  refine ⟨_, rfl, x, .ty "tuple", _, _, _, rfl, .ty _, gv_ty hx, kit_tup g, _, rfl, ?_⟩
  cases tg : g.isTup with
  | false =>
    refine iteT' rfl ⟨_, rfl, x, 10 ^ 60, g, rfl, hx, ?_⟩
    rw [← part_not (n := n) tg]
    exact q H (Same.refl H)
  | true =>
    refine iteF' rfl ?_
    cases hx with
    | non => cases tg
    | bl _ => cases tg
    | int _ => cases tg
    | str _ => cases tg
    | lst _ => cases tg
    | dct _ => cases tg
    | tup e xl a =>
      rename_i p xs gs
      refine ⟨_, rfl, rfl, _, rfl, ?_⟩
      refine ite2 (fun c => ?_) (fun c => ?_)
      · have n0 : n = 0 := by
          have := of_decide_eq_true c
          have e4 : (4 : Int) - (n : Int) = 4 := V.int.inj this
          omega
        subst n0
        exact q H (Same.refl H)
      · obtain ⟨m, rfl⟩ : ∃ m, n = m + 1 := by
          refine ⟨n - 1, ?_⟩
          have : n ≠ 0 := fun z => c (by subst z; rfl)
          omega
        refine ⟨_, rfl, p, rfl, ⟨_, e⟩, fun D hD => ?_⟩
        have hl := gvs_len a
        refine lc_tup (K := K) (a := p) (xs := xs) (fun i G => Same H G ∧ G D = some (.lst (((gs.take i).map (GD.part m)).map V.bl))) ⟨same_upd hD, upd_same⟩ (fun i G _ h => sqt_same h.1 e) ?_ ?_
        · rintro i y G hi ⟨sG, hG⟩
          obtain ⟨gi, hgi, hy⟩ := gvs_get a hi
          refine ⟨rfl, _, rfl, _, rfl, _, _, rfl, rfl, y, gi, (by show [y, V.int (4 - ((m + 1 : Nat) : Int) + 1)] = _; rw [show (4 - ((m + 1 : Nat) : Int) + 1) = 4 - (m : Int) by omega]), by omega, gv_same sG _ _ hy, fun G2 s2 => ?_⟩
          refine ⟨_, s2 _ _ hG, ?_, fun b o z => ?_, ?_⟩
          · rw [List.length_map, List.length_map, List.length_take]
            exact small_of' (by omega)
          · rw [upd_ne (ne_of_none z hD)]; exact s2 _ _ (sG b o z)
          · rw [upd_same, List.take_succ, hgi, List.map_append, List.map_append]; rfl
        · rintro G ⟨sG, hG⟩
          refine ⟨D, _, rfl, SqL.of hG, ?_⟩
          have eg : gs.take xs.length = gs := List.take_of_length_le (by omega)
          rw [eg, ← parts_all]
          have := q G sG
          simpa only [GD.part] using this
theorem ok_isthings (F : Fn K mg "_is_thing" s_is_thing) (T : Bk mg) (L : Lc K mg) (C_below : Cal P w K mg base "is_below" 1 ["thing", "top"] (spBelow K)) :
    ∀ n, Cal P w K mg base "_is_thing" (n + 1) ["thing", "around"] (spIsThing K n)
  | 0 => (cal_no F (fun _ _ _ _ _ _ us hl => match us, hl with | [_, _], _ => rfl) ).mono (by decide)
  | n + 1 => ok_isthing n F T L C_below (ok_isthings F T L C_below n)
/-! ### letter_fault, is_letter -/
def spFault (K : PySem.W.Frag) : Sp := fun vs H Q _ => ∃ (x : V) (g : GD), vs = [x] ∧ Gv K H x g ∧ ∀ H', Same H H' → Q (oV g.fault) H'
theorem bad1_at : ∀ (gs : List GD) (k i : Nat), (∀ j, j < i → ∀ g : GD, gs[j]? = some g → GD.part 3 g = true) → ∀ g : GD, gs[i]? = some g → GD.part 3 g = false → bad1 k gs = some (k + i)
  | [], k, i, _, g, h, _ => by simp at h
  | a :: gs, k, 0, _, g, h, b => by
    simp at h; subst h
    simp [bad1, b]
  | a :: gs, k, i + 1, p, g, h, b => by
    have a3 := p 0 (Nat.succ_pos i) a rfl
    have ih := bad1_at gs (k + 1) i (fun j hj g' hg => p (j + 1) (by omega) g' (by simpa using hg)) g (by simpa using h) b
    simp [bad1, a3, ih]; omega
theorem bad1_no : ∀ (gs : List GD) (k : Nat), (∀ (j : Nat) (g : GD), gs[j]? = some g → GD.part 3 g = true) → bad1 k gs = none
  | [], k, _ => rfl
  | a :: gs, k, p => by
    have a3 := p 0 a rfl
    have ih := bad1_no gs (k + 1) (fun j g' hg => p (j + 1) g' (by simpa using hg))
    simp [bad1, a3, ih]
theorem sc_letter_fault : FnScope ["thing", "at"] ["thing"] (defScope s_letter_fault) :=
  ⟨rfl, rfl, rfl, by decide +kernel, rfl, by decide +kernel, by decide +kernel⟩
theorem ok_fault (F : Fn K mg "letter_fault" s_letter_fault) (T : Bk mg) (C_word : Cal P w K mg base "_is_word" 1 ["thing"] (spWord K))
    (C_thing : Cal P w K mg base "_is_thing" 5 ["thing", "around"] (spIsThing K 4)) : Cal P w K mg base "letter_fault" 6 ["thing"] (spFault K) := by
  refine cal_of F sc_letter_fault
    (fun _ _ _ _ _ _ us hl => match us, hl with | [_], _ => rfl) ?_ ?_
  · rintro vs H Q E ⟨x, g, rfl, _⟩
    rfl
  rintro f cdv A outer s H vs Q E free hr ⟨x, g, rfl, hx, q⟩
  refine ⟨_, (pss_cons (ps_if (PW.pt (pw_or (pt_not (pt_val (pe_callB call_isi (by rfl) T.isinstance (by decide +kernel) (pa_cons (pv 0) (pa_cons (pe_bltn (v := .ty "tuple") (by rfl) T.tuple (by decide +kernel) rfl) pa_nil))))) (pw_or (pt_cmpR op_eq (pe_callB call_len_seq (by rfl) T.len (by decide +kernel) (pa_cons (pv 0) pa_nil)) pe_int (nomark _)) (pw_or1 (pt_not (pt_val (pe_cal C_word free (hr.mono (by decide)) (pa_cons (pe_ix ix_tup (pv 0) pe_int (fun _ _ => rfl)) pa_nil))))))))
    (pss_one (ps_ret pe_int))
    pss_nil)
    (pss_cons (ps_for PassesOwn.never rfl (pi_range2 (by rfl) T.range (pa_cons pe_int (pa_cons (pe_callB call_len_seq (by rfl) T.len (by decide +kernel) (pa_cons (pv 0) pa_nil)) pa_nil))) (pg_name (i := 1) sc_letter_fault.nd rfl (Or.inl rfl))
    (pss_one (ps_if (pt_not (pt_val (pe_cal C_thing free hr (pa_cons (pe_ix ix_tup (pv 0) (pv 1) (fun _ _ => rfl)) (pa_cons pe_int pa_nil)))))
    (pss_one (ps_ret (pv 1)))
    pss_nil)))
    (pss_one (ps_ret pe_non)))), ?_⟩
  refine ⟨_, rfl, x, .ty "tuple", _, _, _, rfl, .ty _, gv_ty hx, kit_tup g, _, rfl, ?_⟩
  cases hx with
  | non => exact iteT' rfl (q H (Same.refl H))
  | bl _ => exact iteT' rfl (q H (Same.refl H))
  | int _ => exact iteT' rfl (q H (Same.refl H))
  | str _ => exact iteT' rfl (q H (Same.refl H))
  | lst _ => exact iteT' rfl (q H (Same.refl H))
  | dct _ => exact iteT' rfl (q H (Same.refl H))
  | tup e xl a =>
    rename_i p xs gs
    refine iteF' rfl ⟨_, rfl, p, _, rfl, .inr e, rfl, _, rfl, ?_⟩
    have hl := gvs_len a
    cases a with
    | nil => exact iteT' rfl (q H (Same.refl H))
    | cons hw ha =>
      rename_i v vs g gs
      refine iteF' (by simp; omega) ?_
      refine ⟨_, rfl, p, _, _, _, rfl, rfl, e, atI_nat (j := 0) rfl, v, g, rfl, hw, fun H1 s1 => ?_⟩
      refine ⟨_, rfl, ?_⟩
      cases wg : g.word with
      | false =>
        refine iteT' rfl ?_
        have z : Q (.int 0) H1 := by simpa [GD.fault, wg, oV] using q H1 s1
        exact z
      | true =>
        refine iteF' rfl ?_
        have l' : vs.length = gs.length := by simpa using hl
        refine ⟨_, rfl, p, _, rfl, .inr (sqt_same s1 e), _, _, rfl, by simp at xl ⊢; omega, ?_⟩
        have fa : GD.fault (.tup (g :: gs)) = bad1 1 gs := by simp [GD.fault, wg]
        refine for_range (lo := 1) (n := ((((v :: vs).length : Nat) : Int) - 1).toNat) (fun i σ G => (∃ z : Option V, σ = [some (.ref p), z]) ∧ Same H G ∧ ∀ j, j < i → ∀ g : GD, gs[j]? = some g → GD.part 3 g = true)
          ⟨⟨_, rfl⟩, s1, fun j h => absurd h (Nat.not_lt_zero j)⟩ ?_ ?_
        · rintro i σ G hi ⟨⟨z, rfl⟩, sG, hp⟩
          have hi' : i < vs.length := by simp at hi; omega
          have at1 : (v :: vs)[1 + i]? = some vs[i] := by rw [show 1 + i = i + 1 by omega, List.getElem?_cons_succ, List.getElem?_eq_getElem hi']
          have at2 : atI (v :: vs) ((1 : Int) + (i : Int)) = some vs[i] := by
            have := atI_nat at1
            rwa [show ((1 + i : Nat) : Int) = 1 + (i : Int) by omega] at this
          obtain ⟨gi, hgi, hy⟩ := gvs_get ha (List.getElem?_eq_getElem hi')
          refine ⟨_, rfl, _, rfl, p, _, _, _, rfl, rfl, sqt_same sG e, at2, _, gi, rfl, by decide, gv_same sG _ _ hy, fun G2 s2 => ?_⟩
          refine ⟨_, rfl, ?_⟩
          cases pg : GD.part 3 gi with
          | true =>
            refine iteF' rfl ⟨⟨_, rfl⟩, sG.trans s2, fun j hj g' hg' => ?_⟩
            rcases Nat.lt_or_ge j i with lt | ge
            · exact hp j lt g' hg'
            · have : j = i := by omega
              subst this
              rw [hgi] at hg'
              cases hg'
              exact pg
          | false =>
            refine iteT' rfl ?_
            have b := bad1_at gs 1 i hp gi hgi pg
            have := q G2 (sG.trans s2)
            rw [fa, b] at this
            exact ⟨_, rfl, by simpa [oV] using this⟩
        · rintro σ G ⟨⟨z, rfl⟩, sG, hp⟩
          have b := bad1_no gs 1 (fun j g' hg' => hp j (by
            have := (List.getElem?_eq_some_iff.mp hg').1
            simp; omega) g' hg')
          have := q G sG
          rw [fa, b] at this
          exact this
def spIsLetter (K : PySem.W.Frag) : Sp := fun vs H Q _ => ∃ (x : V) (g : GD), vs = [x] ∧ Gv K H x g ∧ ∀ H', Same H H' → Q (.bl (decide (g.fault = none))) H'
theorem sc_is_letter : FnScope ["thing"] ["thing"] (defScope s_is_letter) :=
  ⟨rfl, rfl, rfl, by decide +kernel, rfl, by decide +kernel, by decide +kernel⟩
theorem ok_isletter (F : Fn K mg "is_letter" s_is_letter) (C_letter_fault : Cal P w K mg base "letter_fault" 6 ["thing"] (spFault K)) :
    Cal P w K mg base "is_letter" 7 ["thing"] (spIsLetter K) := by
  refine cal_of F sc_is_letter
    (fun _ _ _ _ _ _ us hl => match us, hl with | [_], _ => rfl) ?_ ?_
  · rintro vs H Q E ⟨x, g, rfl, _⟩
    rfl
  rintro f cdv A outer s H vs Q E free hr ⟨x, g, rfl, hx, q⟩
  refine ⟨_, (pss_one (ps_ret (pe_cmpR op_isN (pe_cal C_letter_fault free hr (pa_cons (pv 0) pa_nil)) pe_non (nomark _)))), ?_⟩
  refine ⟨_, rfl, x, g, rfl, hx, fun H1 s1 => ⟨rfl, ?_⟩⟩
  have := q H1 s1
  cases e : g.fault <;> simpa [e, oV] using this
end

end G0
namespace G0
open PySem PySem.Spec PyProof.Rows L2
/-! ### what a row is -/
def kindN (w : Str) : Option Nat :=
  if w = "ask" ∨ w = "in" ∨ w = "out" ∨ w = "fell" then some 1 else if w = "put" ∨ w = "came" ∨ w = "gone" then some 2 else none
def lettered (w : Str) : Bool := decide (w = "put" ∨ w = "came")
def GD.letter (g : GD) : Bool := decide (g.fault = none)
def rowTail (w : Str) (t : Int) (gs : List GD) (k : Nat) : Bool :=
  (gs.take k).all (GD.less t) && (if lettered w then decide (gs.length = k + 1) && (match gs[k]? with | some l => l.letter | none => false) else decide (gs.length = k))
def GD.row (t : Int) : GD → Bool
  | .tup (.str w :: gs) => (match kindN w with | none => false | some k => rowTail w t gs k)
  | _ => false
structure Rc (K : PySem.W.Frag) (w : World) (mg : Str → Option Value) : Prop where
  words : ∃ d es n, mg "WORDS" = some (.ref d) ∧ KDict K w d es n ∧ ∀ z : Str, (kindN z = none → PySem.W.nsIn K d z = some none) ∧ ∀ k, kindN z = some k → ∃ t, PySem.W.nsIn K d z = some (some (.int (k : Nat) t))
  lettered : ∃ e, mg "LETTERED" = some (.ref e) ∧ ∀ H, SqT K H e [.str "put", .str "came"]
theorem in_lettered (w : Str) : inV (.str w) [.str "put", .str "came"] = lettered w := by
  unfold inV lettered
  simp [eqV]
  by_cases h1 : w = "put"
  · simp [h1]
  · by_cases h2 : w = "came"
    · simp [h2]
    · have a : ¬ (("put" : Str) = w) := fun z => h1 z.symm
      have b : ¬ (("came" : Str) = w) := fun z => h2 z.symm
      simp [h1, h2, a, b]
theorem cut1 (v : V) (vs : List V) (k : Nat) : cutV (v :: vs) (some 1) (some ((k : Int) + 1)) = vs.take k := by
  unfold cutV
  rw [show ((k : Int) + 1) = ((k + 1 : Nat) : Int) by omega, show (1 : Int) = ((1 : Nat) : Int) by rfl, HT.sIx_nat, HT.sIx_nat]
  have e1 : min 1 (v :: vs).length = 1 := by simp
  rw [e1, List.drop_one, List.tail_cons]
  rcases Nat.lt_or_ge k vs.length with h | h
  · rw [show min (k + 1) (v :: vs).length - 1 = k by simp; omega]
  · rw [show min (k + 1) (v :: vs).length - 1 = vs.length by simp; omega, List.take_length, List.take_of_length_le h]
theorem all_less (t : Int) (gs : List GD) : (gs.map (GD.less t)).all id = gs.all (GD.less t) := by rw [List.all_map]; rfl
section
variable {P : Program} {w : World} {K : PySem.W.Frag} {mg : Str → Option Value} {base : Heap}
/-! ### is_row -/
def spIsRow (K : PySem.W.Frag) : Sp := fun vs H Q _ => ∃ (x : V) (t : Int) (g : GD), vs = [x, .int t] ∧ Gv K H x g ∧ ∀ H', Same H H' → Q (.bl (g.row t)) H'
theorem sc_is_row : FnScope ["thing", "seats", "word", "many", "part"] ["thing", "seats"] (defScope s_is_row) :=
  ⟨rfl, rfl, rfl, by decide +kernel, rfl, by decide +kernel, by decide +kernel⟩
theorem row_body (T : Bk mg) (R : Rc K w mg) (C_is_below : Cal P w K mg base "is_below" 1 ["thing", "top"] (spBelow K)) (C_is_letter : Cal P w K mg base "is_letter" 7 ["thing"] (spIsLetter K)) :
    ∀ (f : Addr) (cdv : Value) (B : Around) (around : List Env) (tt : Shared) (G : Hp) (zs : List V) (RR : VK) (W : XK), B.guards = some [] →
      Room 7 (B.deeper (envOfC "is_row" (defScope s_is_row) tt.heap.objs.size f cdv)) → spIsRow K zs G RR W →
      ∃ tb, PSs (cxOf CX0 P w K mg base ["thing", "seats", "word", "many", "part"] "is_row" (defScope s_is_row) f cdv B around tt G W).nox (defBody s_is_row) tb ∧
        tb { nx := fun _ G' => RR .non G', rt := RR } (start ["thing", "seats", "word", "many", "part"] zs) G := by
  obtain ⟨d, es, dn, hWo, D, wo⟩ := R.words
  obtain ⟨e, hLe, sLe⟩ := R.lettered
  rintro f cdv A outer s H vs Q E free hr ⟨x, t, g, rfl, hx, q⟩
  refine ⟨_, (pss_cons (ps_if (PW.pt (pw_or (pt_not (pt_val (pe_callB call_isi (by rfl) T.isinstance (by decide +kernel) (pa_cons (pv 0) (pa_cons (pe_bltn (v := .ty "tuple") (by rfl) T.tuple (by decide +kernel) rfl) pa_nil))))) (pw_or (pt_cmpR op_eq (pe_callB call_len_seq (by rfl) T.len (by decide +kernel) (pa_cons (pv 0) pa_nil)) pe_int (nomark _)) (pw_or1 (pt_not (pt_val (pe_callB call_isi (by rfl) T.isinstance (by decide +kernel) (pa_cons (pe_ix ix_tup (pv 0) pe_int (fun _ _ => rfl)) (pa_cons (pe_bltn (v := .ty "str") (by rfl) T.str (by decide +kernel) rfl) pa_nil)))))))))
    (pss_one (ps_ret pe_bl))
    pss_nil)
    (pss_cons (ps_set (i := 2) sc_is_row.nd rfl (Or.inl rfl) (pe_ix ix_tup (pv 0) pe_int (fun _ _ => rfl)))
    (pss_cons (ps_if (pt_cmpR (op_notIn_kd D) (pv 2) (pe_glob (v := .ref d) (by rfl) hWo rfl) (by rfl))
    (pss_one (ps_ret pe_bl))
    pss_nil)
    (pss_cons (ps_set (i := 3) sc_is_row.nd rfl (Or.inl rfl) (pe_ix ix_kdict (pe_glob (v := .ref d) (by rfl) hWo rfl) (pv 2) (fun _ _ => rfl)))
    (pss_cons (ps_if (pt_not (pt_val (pe_callB (cr_all (by rfl)) (by rfl) T.all (by decide +kernel) (pa_cons (pe_lc (own := [("part", 4)]) (g := gName 4) (tt := tYes) (by rfl) sc_is_row.nd (pi_tup (pe_slice sl_tupA (pv 0) (po_some pe_int) (po_some (pe_op op_add (pv 3) pe_int)))) (blkOk_by (N := ["thing", "seats", "word", "many", "part"]) (sc := defScope s_is_row) (by decide +kernel)) (fun _ _ _ _ _ => pg_name (i := 4) sc_is_row.nd rfl (Or.inl rfl)) (fun _ _ _ _ _ => pts_nil) (fun _ _ _ _ _ => (pe_cal C_is_below free (hr.mono (by decide)) (pa_cons (pv 4) (pa_cons (pv 1) pa_nil))))) pa_nil))))
    (pss_one (ps_ret pe_bl))
    pss_nil)
    (pss_cons (ps_if (pt_cmpR op_in_seq (pv 2) (pe_glob (v := .ref e) (by rfl) hLe rfl) (by rfl))
    (pss_one (ps_ret (pe_and (pe_cmpR op_eq (pe_callB call_len_seq (by rfl) T.len (by decide +kernel) (pa_cons (pv 0) pa_nil)) (pe_op op_add (pv 3) pe_int) (nomark _)) (pe_one (pe_cal C_is_letter free hr (pa_cons (pe_ix ix_tup (pv 0) (pe_op op_add (pv 3) pe_int) (fun _ _ => rfl)) pa_nil))))))
    pss_nil)
    (pss_one (ps_ret (pe_cmpR op_eq (pe_callB call_len_seq (by rfl) T.len (by decide +kernel) (pa_cons (pv 0) pa_nil)) (pe_op op_add (pv 3) pe_int) (nomark _)))))))))), ?_⟩
  have q0 := q H (Same.refl H)
  refine ⟨_, rfl, x, .ty "tuple", _, _, _, rfl, .ty _, gv_ty hx, kit_tup g, _, rfl, ?_⟩
  cases hx with
  | non => exact iteT' rfl q0
  | bl _ => exact iteT' rfl q0
  | int _ => exact iteT' rfl q0
  | str _ => exact iteT' rfl q0
  | lst _ => exact iteT' rfl q0
  | dct _ => exact iteT' rfl q0
  | tup e1 xl a =>
    rename_i p xs gs
    refine iteF' rfl ⟨_, rfl, p, _, rfl, .inr e1, rfl, _, rfl, ?_⟩
    have hl := gvs_len a
    cases a with
    | nil => exact iteT' rfl q0
    | cons hw ha =>
      rename_i v vs g gs
      refine iteF' (by simp; omega) ?_
      refine ⟨_, rfl, p, _, _, _, rfl, rfl, e1, atI_nat (j := 0) rfl, v, .ty "str", _, _, _, rfl, .ty _, gv_ty hw, kit_str g, _, rfl, ?_⟩
      cases hw with
      | non => exact iteT' rfl q0
      | bl _ => exact iteT' rfl q0
      | int _ => exact iteT' rfl q0
      | lst _ => exact iteT' rfl q0
      | dct _ => exact iteT' rfl q0
      | tup _ _ _ => exact iteT' rfl q0
      | str zl =>
        rename_i z
        refine iteF' rfl ⟨_, rfl, p, _, _, _, rfl, rfl, e1, atI_nat (j := 0) rfl, ?_⟩
        cases hk : kindN z with
        | none =>
          refine ⟨_, rfl, z, none, rfl, rfl, (wo z).1 hk, _, rfl, iteT' rfl ?_⟩
          have z0 : Q (.bl false) H := by simpa [GD.row, hk] using q0
          exact z0
        | some k =>
          obtain ⟨tk, hn⟩ := (wo z).2 k hk
          refine ⟨_, rfl, z, _, rfl, rfl, hn, _, rfl, iteF' rfl ?_⟩
          refine ⟨_, rfl, d, z, .int (k : Nat), rfl, rfl, ⟨es, dn, _, D.at_, D.lit, hn, ⟨_, rfl⟩⟩, ?_⟩
          refine ⟨_, rfl, _, rfl, _, rfl, _, _, rfl, rfl, _, rfl, sl_any e1 fun r G s1 h1 => ⟨r, rfl, ⟨_, h1⟩, fun L hL => ?_⟩⟩
          rw [cut1] at h1
          have hA : GvAll K G (vs.take k) (gs.take k) := gvs_take k (gvs_same s1 _ _ ha)
          have hlA := gvs_len hA
          have l' : vs.length = gs.length := by simpa using hl
          have vl : (vs.take k).length ≤ 1000 := by rw [List.length_take]; simp at xl; omega
          refine lc_tup (K := K) (a := r) (xs := vs.take k) (fun i G2 => Same G G2 ∧ G2 L = some (.lst ((((gs.take k).take i).map (GD.less t)).map V.bl))) ⟨same_upd hL, upd_same⟩ (fun i G2 _ h => sqt_same h.1 h1) ?_ ?_
          · rintro i y G2 hi ⟨s2, hG2⟩
            obtain ⟨gi, hgi, hy⟩ := gvs_get hA hi
            refine ⟨rfl, _, rfl, _, rfl, y, t, gi, rfl, gv_same s2 _ _ hy, _, hG2, ?_, fun b o z => ?_, ?_⟩
            · rw [List.length_map, List.length_map, List.length_take]
              exact small_of' (by omega)
            · rw [upd_ne (ne_of_none z hL)]; exact s2 _ _ z
            · rw [upd_same, List.take_succ, hgi, List.map_append, List.map_append]; rfl
          · rintro G2 ⟨s2, hG2⟩
            have s12 := s1.trans s2
            have eg : (gs.take k).take (vs.take k).length = gs.take k := List.take_of_length_le (by omega)
            rw [eg] at hG2
            refine ⟨L, _, rfl, SqL.of hG2, _, rfl, ?_⟩
            rw [all_less]
            have qq : ∀ G', Same H G' → Q (.bl (rowTail z t gs k)) G' := fun G' sG => by
              have := q G' sG
              simpa [GD.row, hk] using this
            cases al : (gs.take k).all (GD.less t) with
            | false =>
              refine iteT' rfl ?_
              have z0 : Q (.bl false) G2 := by simpa [rowTail, al] using qq G2 s12
              exact z0
            | true =>
              refine iteF' rfl ?_
              refine ⟨_, rfl, e, _, rfl, .inr (sLe _), rfl, rfl, _, rfl, ?_⟩
              show (if inV (.str z) [.str "put", .str "came"] = true then _ else _)
              rw [in_lettered]
              cases lz : lettered z with
              | false =>
                refine iteF ⟨_, rfl, p, _, rfl, .inr (sqt_same s12 e1), _, rfl, _, _, rfl, rfl, rfl, ?_⟩
                have z1 := qq G2 s12
                simp only [rowTail, al, lz, Bool.true_and, Bool.false_eq_true, if_false] at z1
                have e2 : decide (V.int (((V.str z :: vs).length : Nat) : Int) = V.int ((k : Int) + 1)) = decide (gs.length = k) := by
                  by_cases h : gs.length = k
                  · have : (((V.str z :: vs).length : Nat) : Int) = (k : Int) + 1 := by simp; omega
                    rw [this, h]; simp
                  · have : ¬ (((V.str z :: vs).length : Nat) : Int) = (k : Int) + 1 := by simp; omega
                    simp only [V.int.injEq, this, h]
                rw [e2]
                exact z1
              | true =>
                refine iteT ⟨_, rfl, p, _, rfl, .inr (sqt_same s12 e1), _, rfl, _, _, rfl, rfl, rfl, _, rfl, ?_⟩
                have z1 : ∀ G', Same H G' → Q (.bl (decide (gs.length = k + 1) && (match gs[k]? with | some l => l.letter | none => false))) G' := fun G' sG => by
                  have := qq G' sG
                  simpa only [rowTail, al, lz, Bool.true_and, if_true] using this
                by_cases h : gs.length = k + 1
                · refine iteT' (by have h2 : (((V.str z :: vs).length : Nat) : Int) = (k : Int) + 2 := (by simp; omega); simp only [h2, decide_true]) ?_
                  have hk1 : k < vs.length := by omega
                  have at1 : atI (V.str z :: vs) ((k : Int) + 1) = some vs[k] := by
                    have h0 : (V.str z :: vs)[k + 1]? = some vs[k] := by rw [List.getElem?_cons_succ, List.getElem?_eq_getElem hk1]
                    have := atI_nat h0
                    rwa [show ((k + 1 : Nat) : Int) = (k : Int) + 1 by omega] at this
                  obtain ⟨gk, hgk, hy⟩ := gvs_get ha (List.getElem?_eq_getElem hk1)
                  refine ⟨_, rfl, _, rfl, _, _, rfl, rfl, p, _, _, _, rfl, rfl, sqt_same s12 e1, at1, _, gk, rfl, gv_same s12 _ _ hy, fun G3 s3 => ?_⟩
                  have := z1 G3 (s12.trans s3)
                  rw [hgk] at this
                  simpa [h, GD.letter] using this
                · refine iteF' (by have h2 : ¬ (((V.str z :: vs).length : Nat) : Int) = (k : Int) + 2 := (by simp; omega); simp only [V.int.injEq, h2, decide_false]) ?_
                  have := z1 G2 s12
                  simpa [h] using this
end

end G0
namespace G0
open PySem PySem.Spec PyProof.Rows L2
/-! ### a call with keywords -/
section
variable {X : Cx} {CX : CXT} {k n : Nat} {f : Addr} {fd : FuncData} {ps ks : List Str} {sp : Sp} {E : XK} {x : Str} {p pos : Pos} {e : Expr} {es : List Expr} {kws : List Keyword} {t tk : TA}
  {g : List Value → List Value → List Value} {gV : List V → List V → List V}
theorem goesN {pins : List (Addr × Obj)} {σ : L2.St} {H : Hp} {s : Shared} {Q : VK} {us ws : List Value} {vs zs : List V} (F : FnG X.prog X.w X.K X.mg X.base CX k f fd ps sp)
    (free : X.A.guards = some []) (hr : Room k X.A) (hb : KBn X.K fd ps n ks g gV) (hx : Passes CX X E) (I : Inv X pins σ H s) (r : Vals vs us) (rz : Vals zs ws)
    (l1 : vs.length = n) (l2 : zs.length = ks.length) (h : sp (gV vs zs) H Q E) : wpAny (model X.prog X.w) X.A (call (.ref f) us (ks.zip ws)) (EP X pins σ Q) X.xe s := by
  have both := hb.rel r rz
  have it := F.runs X.A X.stack s H ⟨us, ks.zip ws⟩ (g us ws) (gV vs zs) Q E free hr I.env0 (hb.to s us ws I.kIn (r.length.symm.trans l1) (rz.length.symm.trans l2)) both h
  refine wpAny_call (codeAny_mono it fun out s' told => ?_)
  match out, told with
  | .error e, told => exact hx pins σ H s e s' I told
  | .ok (.ret u), told => exact I.after told
  | .ok .next, told => exact told.elim
  | .ok .brk, told => exact told.elim
  | .ok .cont, told => exact told.elim
theorem pe_callNG (F : FnG X.prog X.w X.K X.mg X.base CX k f fd ps sp) (free : X.A.guards = some []) (hr : Room k X.A) (hm : X.mg x = some (.ref f)) (hk : PySem.W.keepIn X.K (.ref f) = true)
    (hb : KBn X.K fd ps n ks g gV) (hx : Passes CX X E) (ha : PA X (e :: es) t) (hkw : PK X kws tk) (hg : Gl X x := by rfl)
    (n1 : (backToKw pos (keywordEach kws X.env)).all (·.1.isSome) = true := by rfl) (n2 : (backToKw pos (keywordEach kws X.env)).filterMap (·.1) = ks := by rfl)
    (n3 : (x == ("__debug__" : Str)) = false := by decide) (n4 : starEach (e :: es) X.env = (false, eval e X.env) :: starEach es X.env := by rfl)
    (n5 : ((backTo pos (starEach (e :: es) X.env)).any (·.1) || (backToKw pos (keywordEach kws X.env)).any (·.1.isNone)) = false := by rfl) :
    PE X (.Call (.Name x p) (e :: es) kws pos) (tCallN n ks.length sp gV E t tk) := by
  refine ⟨fun pins s σ H Q I h => wpAny_Call_Name_kw (ld_glob I hg hm ?_ n3)⟩
  refine PySem.W.callWith_KW (h₀ := X.base) I.ok.mod.kin hk n1 (thn (ha.run pos pins s σ H _ I h) fun us s1 got => ?_) n5 n4
  obtain ⟨vs, H1, I1, r, q⟩ := got
  refine thn (hkw.run pos pins s1 σ H1 _ I1 q) fun ws s2 got2 => ?_
  obtain ⟨zs, H2, I2, rz, l1, l2, q2⟩ := got2
  refine ⟨I2.kIn, ?_⟩
  rw [n2]
  exact goesN F free hr hb hx I2 r rz l1 l2 q2
end
/-! ### is_row, called by place and by name -/
def FnK (K : PySem.W.Frag) (mg : Str → Option Value) (x : Str) (st : Stmt) (kws : List (Str × V)) : Prop :=
  ∃ f fd, FunD K x x (defArgs st) (defBody st) (defScope st) [] kws f fd ∧ mg x = some (.ref f)
theorem fnk_top {K : PySem.W.Frag} {h : Heap} {mg : Str → Option Value} {x y : Str} {st : Stmt} {v : V} {u : Value} {f D : Addr} {oc : Value} {od an : Option Addr}
    {osl : Array (Option Value)} {doc pm cdv ct : Value} (X : K.In h) (G : h.Ns mainGlobals mg)
    (a : PySem.W.nsIn K mainGlobals x = some (some (.ref f)))
    (l : K.lookup f = some ⟨oc, od, .func (PySem.W.fnOf x x (defArgs st) (defBody st) (defScope st) .none (.ref D) doc pm an cdv ct), osl⟩)
    (c : PySem.W.codeIn K cdv x = true) (k : PySem.W.keepIn K (.ref f) = true) (dv : PySem.W.nsIn K D y = some (some u)) (r : L2.RelV v u) : FnK K mg x st [(y, v)] :=
  ⟨f, _, ⟨⟨oc, od, .none, .ref D, doc, pm, an, cdv, ct, osl, rfl, l, c, .inl ⟨rfl, rfl⟩, .inr ⟨D, rfl, fun q hq => by
    rw [List.mem_singleton.mp hq]; exact ⟨u, dv, r⟩⟩⟩, k⟩, PySem.W.mg_of X G a⟩
def CalK (P : Program) (w : World) (K : PySem.W.Frag) (mg : Str → Option Value) (base : Heap) (sp : Sp) : Prop :=
  ∃ f fd ds, FnG P w K mg base CX0 8 f fd ["thing", "seats"] sp ∧ Vals [.int 60] ds ∧ Binds K fd ["thing", "seats"] ds ∧
    KBn K fd ["thing", "seats"] 1 ["seats"] (fun us ws => us ++ ws) (fun vs zs => vs ++ zs) ∧ mg "is_row" = some (.ref f) ∧ PySem.W.keepIn K (.ref f) = true
theorem ok_isrow {P : Program} {w : World} {K : PySem.W.Frag} {mg : Str → Option Value} {base : Heap} (F : FnK K mg "is_row" s_is_row [("seats", .int 60)]) (T : Bk mg) (R : Rc K w mg)
    (C_is_below : Cal P w K mg base "is_below" 1 ["thing", "top"] (spBelow K)) (C_is_letter : Cal P w K mg base "is_letter" 7 ["thing"] (spIsLetter K)) : CalK P w K mg base (spIsRow K) := by
  obtain ⟨f, fd, F, m⟩ := F
  obtain ⟨ds, rd, bd⟩ := F.binds0 (ps := ["thing", "seats"]) 1 (by simp) rfl (fun D doc pm an cdv ct us ks h1 h2 => match us, ks, h1, h2 with
    | [_], [_], _, _ => ⟨_, _, _, _, _, _, rfl, rfl, rfl⟩)
  obtain ⟨oc, od, dV, kV, doc, pm, an, cdv, ct, osl, rfl, lk, hcd, hD, _⟩ := id F.ex
  have dV0 : dV = .none := by
    rcases hD with ⟨_, e⟩ | ⟨e, _⟩
    · exact e
    · exact absurd rfl e
  subst dV0
  refine ⟨f, _, ds, ?_, rd, bd, ⟨fun s us ws X l1 l2 => ?_, fun r1 r2 => r1.append r2⟩, m, F.kp⟩
  · refine fnG_of lk hcd sc_is_row (fun zs G R' W h => ?_) fun B around tt G zs RR W free room asked => ?_
    · obtain ⟨x, t, g, rfl, _⟩ := h
      rfl
    · obtain ⟨tb, h1, h2⟩ := row_body T R C_is_below C_is_letter f cdv B around tt G zs RR W free room asked
      exact ⟨tb, h1.nox, h2⟩
  · match us, ws, l1, l2 with
    | [_], [_], _, _ => exact .of_eq rfl
section
variable {X : Cx} {sp : Sp} {p pos : Pos} {e e2 : Expr} {kp : Pos} {te te2 : TE}
theorem pe_row1 (C : CalK X.prog X.w X.K X.mg X.base sp) (free : X.A.guards = some []) (hr : Room 8 X.A) (ha : PE X e te) (hg : Gl X "is_row" := by rfl)
    (n2 : starEach [e] X.env = (false, eval e X.env) :: starEach [] X.env := by rfl) (n3 : (backTo pos (starEach [] X.env)).any (·.1) = false := by rfl) (hx : Passes CX0 X E0 := by exact pass0) :
    PE X (.Call (.Name "is_row" p) [e] [] pos) (tCall sp [.int 60] E0 (tCons te tNil)) := by
  obtain ⟨f, fd, ds, F, rd, b, _, m, k⟩ := C
  exact pe_callG F free hr hg m k b rd hx (pa_cons (hs := n2) ha pa_nil) (by decide) n2 n3
theorem pe_row2 (C : CalK X.prog X.w X.K X.mg X.base sp) (free : X.A.guards = some []) (hr : Room 8 X.A) (ha : PE X e te) (hb : PE X e2 te2) (hg : Gl X "is_row" := by rfl)
    (n1 : (backToKw pos (keywordEach [⟨some "seats", e2, kp⟩] X.env)).all (·.1.isSome) = true := by rfl) (n2 : (backToKw pos (keywordEach [⟨some "seats", e2, kp⟩] X.env)).filterMap (·.1) = ([("seats" : Str)] : List Str) := by rfl)
    (n4 : starEach [e] X.env = (false, eval e X.env) :: starEach [] X.env := by rfl)
    (n5 : ((backTo pos (starEach [e] X.env)).any (·.1) || (backToKw pos (keywordEach [⟨some "seats", e2, kp⟩] X.env)).any (·.1.isNone)) = false := by rfl) (hx : Passes CX0 X E0 := by exact pass0) :
    PE X (.Call (.Name "is_row" p) [e] [⟨some "seats", e2, kp⟩] pos) (tCallN 1 1 sp (fun vs zs => vs ++ zs) E0 (tCons te tNil) (tCons te2 tNil)) := by
  obtain ⟨f, fd, ds, F, rd, _, b, m, k⟩ := C
  exact pe_callNG F free hr m k b hx (pa_cons (hs := n4) ha pa_nil) (pk_cons hb pk_nil) hg n1 n2 (by decide) n4 n5
end

end G0
namespace G0
open PySem PySem.Spec PyProof.Rows L2
section
variable {P : Program} {w : World} {K : PySem.W.Frag} {mg : Str → Option Value} {base : Heap}
/-! ### _law_feed, _law_more, _law_step -/
def CellsAt (ns : List Int) (H : Hp) (c : Addr) : Prop := H c = some (.lst (ns.map V.int)) ∧ ns.length ≤ 63
def spFeed (K : PySem.W.Frag) : Sp := fun vs H Q _ => ∃ (a : Addr) (ns : List Int), vs = [.ref a] ∧ SqL K H a (ns.map V.int) ∧ ns.length ≤ 63 ∧
  ∀ (p c : Addr) (H' : Hp), Same H H' → H p = none → FeedAt 0 c H' p → CellsAt ns H' c → p ≠ c → Q (.ref p) H'
theorem sc_law_feed : FnScope ["cells"] ["cells"] (defScope s_law_feed) :=
  ⟨rfl, rfl, rfl, by decide +kernel, rfl, by decide +kernel, by decide +kernel⟩
theorem ok_feed (F : Fn K mg "_law_feed" s_law_feed) (T : Bl mg) : Cal P w K mg base "_law_feed" 1 ["cells"] (spFeed K) := by
  refine cal_of F sc_law_feed
    (fun _ _ _ _ _ _ us hl => match us, hl with | [_], _ => rfl) ?_ ?_
  · rintro vs H Q E ⟨a, ns, rfl, _⟩
    rfl
  rintro f cdv A outer s H vs Q E free hr ⟨a, ns, rfl, hS, hl, q⟩
  refine ⟨_, (pss_one (ps_ret (pe_lst (pa_cons pe_int (pa_cons pe_int (pa_cons pe_int (pa_cons pe_int (pa_cons (pe_callTy call_list_of (by rfl) T.list (by decide +kernel) (pa_cons (pv 0) pa_nil)) pa_nil)))))))), ?_⟩
  refine ⟨_, rfl, a, _, rfl, .inl hS, fun c hc => ⟨by show 5 ≤ sizeLine; decide, fun p hp => ?_⟩⟩
  have e : upd H c (.lst (ns.map V.int)) c = some (.lst (ns.map V.int)) := upd_same
  exact q p c _ ((same_upd hc).trans (same_upd hp)) ((same_upd hc).free hp) ⟨_, upd_same, 0, 0, 0, 0, rfl, by decide, by decide, by decide, by decide, by decide, by decide⟩ ⟨same_upd hp _ _ e, hl⟩ (ne_of_none e hp).symm
def spMore : Sp := fun vs H Q _ => ∃ (p c : Addr) (n : Nat) (ns : List Int), vs = [.ref p] ∧ FeedAt n c H p ∧ CellsAt ns H c ∧ ∀ b : Bool, Q (.bl b) H
theorem sc_law_more : FnScope ["feed"] ["feed"] (defScope s_law_more) :=
  ⟨rfl, rfl, rfl, by decide +kernel, rfl, by decide +kernel, by decide +kernel⟩
theorem ok_more (F : Fn K mg "_law_more" s_law_more) (T : Bl mg) : Cal P w K mg base "_law_more" 1 ["feed"] spMore := by
  refine cal_of F sc_law_more
    (fun _ _ _ _ _ _ us hl => match us, hl with | [_], _ => rfl) ?_ ?_
  · rintro vs H Q E ⟨p, c, n, ns, rfl, _⟩
    rfl
  rintro f cdv A outer s H vs Q E free hr ⟨p, c, n, ns, rfl, ⟨_, hp, f0, f1, f2, f3, rfl, h0, h1, h2, h3, h4, h5⟩, ⟨hc, hl⟩, q⟩
  have hL := SqL.of (K := K) hp
  refine ⟨_, (pss_one (ps_ret (pe_or (pe_cmpR op_gt (pe_ix ix_list (pv 0) pe_int (fun _ _ => rfl)) pe_int (nomark _)) (pe_one (pe_cmpR op_lt (pe_ix ix_list (pv 0) pe_int (fun _ _ => rfl)) (pe_callB call_len_seq (by rfl) T.len (by decide +kernel) (pa_cons (pe_ix ix_list (pv 0) pe_int (fun _ _ => rfl)) pa_nil)) (nomark _)))))), ?_⟩
  refine ⟨_, rfl, p, _, _, _, rfl, rfl, hL, rfl, _, _, rfl, rfl, _, rfl, ?_⟩
  refine ite2 (fun _ => q _) (fun _ => ?_)
  exact ⟨_, rfl, p, _, _, _, rfl, rfl, hL, rfl, _, rfl, p, _, _, _, rfl, rfl, hL, rfl, c, _, rfl, .inl (SqL.of hc), _, _, rfl, rfl, q _⟩
def spStep : Sp := fun vs H Q _ => ∃ (p c : Addr) (n : Nat) (ns : List Int), vs = [.ref p] ∧ FeedAt n c H p ∧ CellsAt ns H c ∧ ∀ H', Chg p H H' → FeedAt n c H' p → Q .non H'
theorem sc_law_step : FnScope ["feed", "cell"] ["feed"] (defScope s_law_step) :=
  ⟨rfl, rfl, rfl, by decide +kernel, rfl, by decide +kernel, by decide +kernel⟩
theorem ok_step (F : Fn K mg "_law_step" s_law_step) (T : Bl mg) : Cal P w K mg base "_law_step" 1 ["feed"] spStep := by
  refine cal_of F sc_law_step
    (fun _ _ _ _ _ _ us hl => match us, hl with | [_], _ => rfl) ?_ ?_
  · rintro vs H Q E ⟨p, c, n, ns, rfl, _⟩
    rfl
  rintro f cdv A outer s H vs Q E free hr ⟨p, c, n, ns, rfl, ⟨_, hp, f0, f1, f2, f3, rfl, h0, h1, h2, h3, h4, h5⟩, ⟨hc, hl⟩, q⟩
  have hL := SqL.of (K := K) hp
  have pc : c ≠ p := fun z => by
    subst z
    rw [hp] at hc
    injection hc with hc
    injection hc with hc
    have := congrArg (fun l : List V => l[4]?) hc
    simp only [List.getElem?_map] at this
    cases hn : ns[4]? with
    | none => rw [hn] at this; cases this
    | some i => rw [hn] at this; cases this
  refine ⟨_, (pss_one (ps_if (pt_cmpR op_eq (pe_ix ix_list (pv 0) pe_int (fun _ _ => rfl)) pe_int (nomark _))
    (pss_cons (ps_asg pe_int (pg_sub (pv 0) pe_int set_list))
    (pss_one (ps_if (pt_cmpR op_lt (pe_ix ix_list (pv 0) pe_int (fun _ _ => rfl)) (pe_callB call_len_seq (by rfl) T.len (by decide +kernel) (pa_cons (pe_ix ix_list (pv 0) pe_int (fun _ _ => rfl)) pa_nil)) (nomark _))
    (pss_cons (ps_set (i := 1) sc_law_step.nd rfl (Or.inl rfl) (pe_ix ix_list (pe_ix ix_list (pv 0) pe_int (fun _ _ => rfl)) (pe_ix ix_list (pv 0) pe_int (fun _ _ => rfl)) (fun _ _ => rfl)))
    (pss_cons (ps_asg (pe_op op_add (pe_ix ix_list (pv 0) pe_int (fun _ _ => rfl)) pe_int) (pg_sub (pv 0) pe_int set_list))
    (pss_one (ps_if (pt_cmpR op_ge (pe_callB call_abs (by rfl) T.abs (by decide +kernel) (pa_cons (pv 1) pa_nil)) (pe_op op_pow pe_int pe_int) (nomark _))
    (pss_one (ps_asg (pe_callB call_abs (by rfl) T.abs (by decide +kernel) (pa_cons (pv 1) pa_nil)) (pg_sub (pv 0) pe_int set_list)))
    (pss_one (ps_asg (pe_op op_add (pe_op op_mul pe_int (pe_callB call_abs (by rfl) T.abs (by decide +kernel) (pa_cons (pv 1) pa_nil))) (pe_callTy call_int1 (by rfl) T.int (by decide +kernel) (pa_cons (pe_cmpR op_lt (pv 1) pe_int (nomark _)) pa_nil))) (pg_sub (pv 0) pe_int set_list)))))))
    pss_nil)))
    pss_nil)), ?_⟩
  refine ⟨_, rfl, p, _, _, _, rfl, rfl, hL, rfl, rfl, _, rfl, ?_⟩
  refine ite2 (fun c0 => ?_) (fun _ => q H (Chg.refl _ _) ⟨_, hp, f0, f1, f2, f3, rfl, h0, h1, h2, h3, h4, h5⟩)
  have z0 : f0 = 0 := V.int.inj (of_decide_eq_true c0)
  subst z0
  refine ⟨_, rfl, p, _, _, _, rfl, rfl, hp, rfl, ?_⟩
  have hp1 : upd H p (.lst [.int 0, .int f1, .int f2, .int 0, .ref c]) p = some (.lst [.int 0, .int f1, .int f2, .int 0, .ref c]) := upd_same
  have c1 : Chg p H (upd H p (.lst [.int 0, .int f1, .int f2, .int 0, .ref c])) := Chg.self
  have hc1 := c1 _ _ pc hc
  have hL1 := SqL.of (K := K) hp1
  refine ⟨_, rfl, p, _, _, _, rfl, rfl, hL1, rfl, _, rfl, p, _, _, _, rfl, rfl, hL1, rfl, c, _, rfl, .inl (SqL.of hc1), _, _, rfl, rfl, _, rfl, ?_⟩
  refine ite2 (fun cl => ?_) (fun _ => q _ c1 ⟨_, hp1, 0, f1, f2, 0, rfl, by decide, h1, h2, h3, by decide, by decide⟩)
  have lt : f1 < ((ns.map V.int).length : Nat) := of_decide_eq_true cl
  have lt' : f1.toNat < ns.length := by simp at lt; omega
  have at1 : atI (ns.map V.int) f1 = some (.int ns[f1.toNat]) := by
    have := atI_nat (xs := ns.map V.int) (j := f1.toNat) (v := .int ns[f1.toNat]) (by rw [List.getElem?_map, List.getElem?_eq_getElem lt']; rfl)
    rwa [show ((f1.toNat : Nat) : Int) = f1 by omega] at this
  generalize ns[f1.toNat] = i at at1
  refine ⟨_, rfl, p, _, _, _, rfl, rfl, hL1, rfl, _, rfl, p, _, _, _, rfl, rfl, hL1, rfl, c, _, _, _, rfl, rfl, SqL.of hc1, at1, ?_⟩
  refine ⟨_, rfl, p, _, _, _, rfl, rfl, hL1, rfl, _, _, rfl, rfl, ?_⟩
  refine ⟨_, rfl, p, _, _, _, rfl, rfl, hp1, rfl, ?_⟩
  have hp2 : upd (upd H p (.lst [.int 0, .int f1, .int f2, .int 0, .ref c])) p (.lst [.int 0, .int (f1 + 1), .int f2, .int 0, .ref c]) p = some (.lst [.int 0, .int (f1 + 1), .int f2, .int 0, .ref c]) := upd_same
  have c2 : Chg p H (upd (upd H p (.lst [.int 0, .int f1, .int f2, .int 0, .ref c])) p (.lst [.int 0, .int (f1 + 1), .int f2, .int 0, .ref c])) := c1.trans Chg.self
  have hL2 := SqL.of (K := K) hp2
  have t18 : (10 : Int) ^ (Int.toNat 18) = 10 ^ 18 := rfl
  refine ⟨_, rfl, i, rfl, _, _, rfl, rfl, ⟨by decide, by decide, by decide⟩, _, _, rfl, rfl, _, rfl, ?_⟩
  refine ite2 (fun ca => ?_) (fun ca => ?_)
  · refine ⟨_, rfl, i, rfl, _, rfl, p, _, _, _, rfl, rfl, hp2, rfl, ?_⟩
    exact q _ (c2.trans Chg.self) ⟨_, upd_same, _, f1 + 1, f2, 0, rfl, by split <;> omega, by omega, h2, h3, by decide, by decide⟩
  · have ca' : (if i < 0 then -i else i) < 10 ^ 18 := by
      have := fun z => ca (decide_eq_true z)
      rw [t18] at this
      exact Int.not_le.mp this
    generalize hm : (if i < 0 then -i else i) = m at ca'
    have m0 : 0 ≤ m := by rw [← hm]; split <;> omega
    refine ⟨_, rfl, i, rfl, _, _, rfl, rfl, .inl ⟨by decide, by decide⟩, _, rfl, _, _, rfl, rfl, .inr ⟨_, rfl, _, _, rfl, rfl, ?_⟩⟩
    refine ⟨_, rfl, p, _, _, _, rfl, rfl, hp2, rfl, ?_⟩
    have b2 : ∀ k : Int, 0 ≤ k → k ≤ 1 → 0 ≤ 2 * (if i < 0 then -i else i) + k ∧ 2 * (if i < 0 then -i else i) + k < 2 ^ 62 := fun k k0 k1 => by rw [hm]; omega
    have kk : ∀ b : Bool, (0 : Int) ≤ (if b = true then 1 else 0) ∧ (if b = true then (1 : Int) else 0) ≤ 1 := fun b => by cases b <;> decide
    have b3 := b2 _ (kk (decide (i < 0))).1 (kk (decide (i < 0))).2
    exact q _ (c2.trans Chg.self) ⟨_, upd_same, 0, f1 + 1, f2, _, rfl, by decide, by omega, h2, h3, b3.1, b3.2⟩
/-! ### seat_of and _law_seat -/
def RowV (xs : List V) : Prop := ∃ w : Str, ∃ rest : List V, xs = .str w :: rest
def seatV : List V → Option V
  | .str w :: a :: rest => if w = "came" ∨ w = "gone" then rest[0]? else some a
  | _ => none
def spSeat (K : PySem.W.Frag) : Sp := fun vs H Q _ => ∃ (r : Addr) (xs : List V) (k : Int), vs = [.ref r] ∧ SqT K H r xs ∧ seatV xs = some (.int k) ∧ ∀ H', Same H H' → Q (.int k) H'
theorem sc_seat_of : FnScope ["row"] ["row"] (defScope s_seat_of) :=
  ⟨rfl, rfl, rfl, by decide +kernel, rfl, by decide +kernel, by decide +kernel⟩
theorem ok_seatof (F : Fn K mg "seat_of" s_seat_of) : Cal P w K mg base "seat_of" 1 ["row"] (spSeat K) := by
  refine cal_of F sc_seat_of
    (fun _ _ _ _ _ _ us hl => match us, hl with | [_], _ => rfl) ?_ ?_
  · rintro vs H Q E ⟨r, xs, k, rfl, _⟩
    rfl
  rintro f cdv A outer s H vs Q E free hr ⟨r, xs, k, rfl, hS, hk, q⟩
  refine ⟨_, (pss_cons (ps_if (pt_cmpR op_in_seq (pe_ix ix_tup (pv 0) pe_int (fun _ _ => rfl)) (pe_tup (pa_cons pe_str (pa_cons pe_str pa_nil))) (by rfl))
    (pss_one (ps_ret (pe_ix ix_tup (pv 0) pe_int (fun _ _ => rfl))))
    pss_nil)
    (pss_one (ps_ret (pe_ix ix_tup (pv 0) pe_int (fun _ _ => rfl))))), ?_⟩
  unfold seatV at hk
  split at hk
  · rename_i wd a rest
    refine ⟨_, rfl, r, _, _, .str wd, rfl, rfl, hS, atI_nat (j := 0) rfl, by show 2 ≤ sizeLine; decide, fun t ht => ⟨t, _, rfl, .inr (SqT.of upd_same), rfl, rfl, _, rfl, ?_⟩⟩
    have s1 := same_upd (o := .tup [.str "came", .str "gone"]) ht
    have hS1 := sqt_same s1 hS
    have e : inV (.str wd) [.str "came", .str "gone"] = decide (wd = "came" ∨ wd = "gone") := by
      unfold inV
      simp [eqV]
      by_cases h1 : wd = "came"
      · simp [h1]
      · by_cases h2 : wd = "gone"
        · simp [h2]
        · have a : ¬ (("came" : Str) = wd) := fun z => h1 z.symm
          have b : ¬ (("gone" : Str) = wd) := fun z => h2 z.symm
          simp [h1, h2, a, b]
    by_cases c : wd = "came" ∨ wd = "gone"
    · rw [if_pos c] at hk
      refine iteT' (by rw [e]; exact decide_eq_true c) ?_
      have at2 : atI (.str wd :: a :: rest) 2 = some (.int k) := atI_nat (j := 2) (by rw [List.getElem?_cons_succ, List.getElem?_cons_succ]; exact hk)
      exact ⟨_, rfl, r, _, _, _, rfl, rfl, hS1, at2, q _ s1⟩
    · rw [if_neg c] at hk
      refine iteF' (by rw [e]; exact decide_eq_false c) ?_
      have at2 : atI (.str wd :: a :: rest) 1 = some (.int k) := atI_nat (j := 1) (by rw [List.getElem?_cons_succ]; exact hk)
      exact ⟨_, rfl, r, _, _, _, rfl, rfl, hS1, at2, q _ s1⟩
  · cases hk
theorem sc_law_seat : FnScope ["row"] ["row"] (defScope s_law_seat) :=
  ⟨rfl, rfl, rfl, by decide +kernel, rfl, by decide +kernel, by decide +kernel⟩
theorem ok_lseat (F : Fn K mg "_law_seat" s_law_seat) : Cal P w K mg base "_law_seat" 1 ["row"] (spSeat K) := by
  refine cal_of F sc_law_seat
    (fun _ _ _ _ _ _ us hl => match us, hl with | [_], _ => rfl) ?_ ?_
  · rintro vs H Q E ⟨r, xs, k, rfl, _⟩
    rfl
  rintro f cdv A outer s H vs Q E free hr ⟨r, xs, k, rfl, hS, hk, q⟩
  refine ⟨_, (pss_cons (ps_if (PW.pt (pw_or (pt_cmpR op_eq (pe_ix ix_tup (pv 0) pe_int (fun _ _ => rfl)) pe_str (nomark _)) (pw_or1 (pt_cmpR op_eq (pe_ix ix_tup (pv 0) pe_int (fun _ _ => rfl)) pe_str (nomark _)))))
    (pss_one (ps_ret (pe_ix ix_tup (pv 0) pe_int (fun _ _ => rfl))))
    pss_nil)
    (pss_one (ps_ret (pe_ix ix_tup (pv 0) pe_int (fun _ _ => rfl))))), ?_⟩
  unfold seatV at hk
  split at hk
  · rename_i wd a rest
    have q1 := q H (Same.refl H)
    have at1 : wd ≠ "came" → wd ≠ "gone" → atI (.str wd :: a :: rest) 1 = some (.int k) := fun h1 h2 => atI_nat (j := 1) (by
      rw [if_neg (by simp [h1, h2])] at hk
      rw [List.getElem?_cons_succ]; exact hk)
    have at2 : (wd = "came" ∨ wd = "gone") → atI (.str wd :: a :: rest) 2 = some (.int k) := fun h => atI_nat (j := 2) (by
      rw [if_pos h] at hk
      rw [List.getElem?_cons_succ, List.getElem?_cons_succ]; exact hk)
    refine ⟨_, rfl, r, _, _, .str wd, rfl, rfl, hS, atI_nat (j := 0) rfl, rfl, _, rfl, ?_⟩
    refine ite2 (fun c => ?_) (fun c => ?_)
    · exact ⟨_, rfl, r, _, _, _, rfl, rfl, hS, at2 (.inl (V.str.inj (of_decide_eq_true c))), q1⟩
    · have n1 : wd ≠ "came" := fun z => c (decide_eq_true (congrArg V.str z))
      refine ⟨_, rfl, r, _, _, .str wd, rfl, rfl, hS, atI_nat (j := 0) rfl, rfl, _, rfl, ?_⟩
      refine ite2 (fun c => ?_) (fun c => ?_)
      · exact ⟨_, rfl, r, _, _, _, rfl, rfl, hS, at2 (.inr (V.str.inj (of_decide_eq_true c))), q1⟩
      · have n2 : wd ≠ "gone" := fun z => c (decide_eq_true (congrArg V.str z))
        exact ⟨_, rfl, r, _, _, _, rfl, rfl, hS, at1 n1 n2, q1⟩
  · cases hk
end

end G0
namespace G0
open PySem PySem.Spec PyProof.Rows L2
section
variable {P : Program} {w : World} {K : PySem.W.Frag} {mg : Str → Option Value} {base : Heap}
/-! ### _law_odd -/
theorem seq_set {te : TE} {i : Nat} {u : TS} {D} {σ : L2.St} {H : Hp} (h : te σ H fun x H1 => u D (σ.set i (some x)) H1) : tSeq (tAsg te (gName i)) u D σ H := h
theorem ev_lstN {te : TA} {σ : L2.St} {N : Nat} {H : Hp} {Q : VK} (h : ∃ gs, EvGs K σ te gs ∧ gs.length = N) (l : N ≤ 1000)
    (q : ∀ l vs gs H', Same H H' → H l = none → H' l = some (.lst vs) → GvAll K H' vs gs → gs.length = N → Q (.ref l) H') : tLst te σ H Q := by
  obtain ⟨gs, h, rfl⟩ := h
  exact ev_lst h l H Q fun l vs H' s n e g => q l vs gs H' s n e g rfl
theorem ev_catN {te : TA} {σ : L2.St} {N M : Nat} {H : Hp} {Q : VK} {i : Nat} {a : Addr} {xs : List V} {hs : List GD} (h : σ[i]? = some (some (.ref a))) (ha : H a = some (.lst xs)) (hx : GvAll K H xs hs) (hl : hs.length = M) (l : M ≤ 1000)
    (hd : ∃ gs, EvGs K σ te gs ∧ gs.length = N) (l2 : N ≤ 1000) (q : ∀ p vs gs H', Same H H' → H p = none → H' p = some (.lst vs) → GvAll K H' vs gs → gs.length = M + N → Q (.ref p) H') : tOp rCat (tVar i) (tLst te) σ H Q := by
  obtain ⟨gs, hd, rfl⟩ := hd
  subst hl
  exact ev_cat h ha hx l (ev_lst hd l2) l2 fun p vs H' s n e g => q p vs _ H' s n e g (List.length_append ..)
def spOdd (K : PySem.W.Frag) : Sp := fun vs H Q _ => ∃ (p c : Addr) (m : Int) (n : Nat), vs = [.ref p, .int m] ∧ FeedAt n c H p ∧ n < 1000000 ∧
  ∀ (v : V) (g : GD) (H' : Hp), Gv K H' v g → Chg p H H' → FeedAt (n + 1) c H' p → Q v H'
theorem sc_law_odd : FnScope ["feed", "wide", "odd"] ["feed", "wide"] (defScope s_law_odd) :=
  ⟨rfl, rfl, rfl, by decide +kernel, rfl, by decide +kernel, by decide +kernel⟩
theorem ok_odd (F : Fn K mg "_law_odd" s_law_odd) (T : Bl mg) (C_draw : Cal P w K mg base "_law_draw" 1 ["feed", "many"] spD) : Cal P w K mg base "_law_odd" 2 ["feed", "wide"] (spOdd K) := by
  refine cal_of F sc_law_odd
    (fun _ _ _ _ _ _ us hl => match us, hl with | [_, _], _ => rfl) ?_ ?_
  · rintro vs H Q E ⟨p, c, m, n, rfl, _⟩
    rfl
  rintro f cdv A outer s H vs Q E free hr ⟨p, c, m, n, rfl, hP, hn, q⟩
  refine ⟨_, (pss_cons (ps_set (i := 2) sc_law_odd.nd rfl (Or.inl rfl) (pe_lst (pa_cons pe_non (pa_cons pe_bl (pa_cons pe_bl (pa_cons (pe_un un_neg pe_int) (pa_cons (pv 1) (pa_cons pe_int (pa_cons pe_int (pa_cons (pe_op op_pow pe_int pe_int) (pa_cons pe_str (pa_cons pe_str (pa_cons pe_str (pa_cons pe_str (pa_cons pe_str (pa_cons pe_str (pa_cons (pe_tup pa_nil) (pa_cons (pe_tup (pa_cons pe_int pa_nil)) (pa_cons (pe_lst pa_nil) (pa_cons (pe_lst (pa_cons pe_str pa_nil)) pa_nil))))))))))))))))))))
    (pss_cons (ps_set (i := 2) sc_law_odd.nd rfl (Or.inl rfl) (pe_op op_cat (pv 2) (pe_lst (pa_cons (pe_tup (pa_cons pe_str pa_nil)) (pa_cons (pe_tup (pa_cons pe_str pa_nil)) (pa_cons (pe_tup (pa_cons pe_str (pa_cons (pe_un un_neg pe_int) pa_nil))) (pa_cons (pe_tup (pa_cons pe_str (pa_cons (pe_op op_pow pe_int pe_int) pa_nil))) (pa_cons (pe_tup (pa_cons pe_str (pa_cons pe_bl pa_nil))) (pa_cons (pe_tup (pa_cons pe_str (pa_cons pe_non pa_nil))) (pa_cons (pe_tup (pa_cons pe_str (pa_cons pe_str pa_nil))) (pa_cons (pe_tup (pa_cons pe_str (pa_cons (pe_lst (pa_cons pe_int pa_nil)) pa_nil))) pa_nil)))))))))))
    (pss_cons (ps_set (i := 2) sc_law_odd.nd rfl (Or.inl rfl) (pe_op op_cat (pv 2) (pe_lst (pa_cons (pe_tup (pa_cons pe_str pa_nil)) (pa_cons (pe_tup (pa_cons pe_str pa_nil)) (pa_cons (pe_tup (pa_cons pe_str pa_nil)) (pa_cons (pe_tup (pa_cons pe_str pa_nil)) (pa_cons (pe_tup (pa_cons pe_str pa_nil)) (pa_cons (pe_tup (pa_cons pe_str pa_nil)) (pa_cons (pe_tup (pa_cons pe_str (pa_cons pe_int pa_nil))) (pa_cons (pe_tup (pa_cons pe_str pa_nil)) (pa_cons (pe_tup (pa_cons pe_int (pa_cons pe_str pa_nil))) pa_nil))))))))))))
    (pss_cons (ps_set (i := 2) sc_law_odd.nd rfl (Or.inl rfl) (pe_op op_cat (pv 2) (pe_lst (pa_cons (pe_tup (pa_cons pe_str (pa_cons (pe_tup (pa_cons (pe_tup (pa_cons (pe_tup (pa_cons (pe_tup pa_nil) pa_nil)) pa_nil)) pa_nil)) pa_nil))) (pa_cons (pe_tup (pa_cons pe_str (pa_cons (pe_tup (pa_cons (pe_tup (pa_cons (pe_tup pa_nil) pa_nil)) pa_nil)) pa_nil))) (pa_cons (pe_tup (pa_cons pe_str (pa_cons (pe_tup (pa_cons (pe_tup (pa_cons pe_int (pa_cons (pe_tup (pa_cons pe_int (pa_cons (pe_un un_neg pe_int) pa_nil))) pa_nil))) pa_nil)) pa_nil))) (pa_cons (pe_tup (pa_cons pe_str (pa_cons (pe_op op_sub (pe_op op_pow pe_int pe_int) pe_int) pa_nil))) (pa_cons pe_str (pa_cons pe_str pa_nil)))))))))
    (pss_one (ps_ret (pe_ix ix_list (pv 2) (pe_cal C_draw free (hr.mono (by decide)) (pa_cons (pv 0) (pa_cons (pe_callB call_len_seq (by rfl) T.len (by decide +kernel) (pa_cons (pv 2) pa_nil)) pa_nil))) (fun _ _ => rfl)))))))), ?_⟩
  refine seq_set ?_
  refine ev_lstN (K := K) (N := 18) ?h1 (by decide) fun l1 v1 g1 H1 s1 n1 e1 a1 k1 => ?_
  case h1 =>
    apply Exists.intro
    apply And.intro
    case left =>
      repeat' (first
        | exact evs_nil | exact ev_int | exact ev_bl | exact ev_non | exact ev_neg | exact ev_str (by decide) | exact ev_var rfl
        | exact ev_pow ⟨by decide, by decide, by decide⟩ | exact ev_pow1 ⟨by decide, by decide, by decide⟩
        | exact Nat.le_of_ble_eq_true rfl
        | apply ev_tup | apply ev_lstG | apply evs_cons)
    case right => rfl
  refine seq_set ?_
  refine ev_catN (K := K) (N := 8) (M := 18) (by rfl) e1 a1 k1 (by decide) ?h2 (by decide) fun l2 v2 g2 H2 s2 n2 e2 a2 k2 => ?_
  case h2 =>
    apply Exists.intro
    apply And.intro
    case left =>
      repeat' (first
        | exact evs_nil | exact ev_int | exact ev_bl | exact ev_non | exact ev_neg | exact ev_str (by decide) | exact ev_var rfl
        | exact ev_pow ⟨by decide, by decide, by decide⟩ | exact ev_pow1 ⟨by decide, by decide, by decide⟩
        | exact Nat.le_of_ble_eq_true rfl
        | apply ev_tup | apply ev_lstG | apply evs_cons)
    case right => rfl
  refine seq_set ?_
  refine ev_catN (K := K) (N := 9) (M := 26) (by rfl) e2 a2 k2 (by decide) ?h3 (by decide) fun l3 v3 g3 H3 s3 n3 e3 a3 k3 => ?_
  case h3 =>
    apply Exists.intro
    apply And.intro
    case left =>
      repeat' (first
        | exact evs_nil | exact ev_int | exact ev_bl | exact ev_non | exact ev_neg | exact ev_str (by decide) | exact ev_var rfl
        | exact ev_pow ⟨by decide, by decide, by decide⟩ | exact ev_pow1 ⟨by decide, by decide, by decide⟩
        | exact Nat.le_of_ble_eq_true rfl
        | apply ev_tup | apply ev_lstG | apply evs_cons)
    case right => rfl
  refine seq_set ?_
  refine ev_catN (K := K) (N := 6) (M := 35) (by rfl) e3 a3 k3 (by decide) ?h4 (by decide) fun l4 v4 g4 H4 s4 n4 e4 a4 k4 => ?_
  case h4 =>
    apply Exists.intro
    apply And.intro
    case left =>
      repeat' (first
        | exact evs_nil | exact ev_int | exact ev_bl | exact ev_non | exact ev_neg | exact ev_str (by decide) | exact ev_var rfl
        | exact ev_pow ⟨by decide, by decide, by decide⟩ | exact ev_pow1 ⟨by decide, by decide, by decide⟩
        | exact Nat.le_of_ble_eq_true rfl
        | apply ev_tup | apply ev_lstG | apply evs_cons)
    case right => rfl
  have sH := ((s1.trans s2).trans s3).trans s4
  have P4 := hP.keep sH
  have v41 : v4.length = 41 := (gvs_len a4).trans k4
  have pl : l4 ≠ p := by
    obtain ⟨xs, e⟩ := (hP.keep ((s1.trans s2).trans s3)).lst
    intro z
    rw [z, e] at n4
    cases n4
  refine ⟨_, rfl, _, rfl, _, rfl, l4, v4, rfl, .inl (SqL.of e4), p, c, _, n, rfl, by omega, by rw [v41]; decide, P4, by omega, fun d H5 d0 d1 c5 P5 => ?_⟩
  have e5 := c5 _ _ pl e4
  have dn : d.toNat < v4.length := by omega
  have at5 : atI v4 d = some v4[d.toNat] := by
    have := atI_nat (List.getElem?_eq_getElem dn)
    rwa [show ((d.toNat : Nat) : Int) = d by omega] at this
  obtain ⟨gd, _, hgd⟩ := gvs_get (gvs_chg P4.lst P5.lst c5 _ _ a4) (List.getElem?_eq_getElem dn)
  exact ⟨l4, v4, _, _, rfl, rfl, SqL.of e5, at5, q _ gd H5 hgd ((Chg.same sH).trans c5) P5⟩
/-! ### _law_is_number, _law_is_thing -/
def GD.whole : GD → Bool | .int _ => true | _ => false
def spWhole (K : PySem.W.Frag) : Sp := fun vs H Q _ => ∃ (x : V) (g : GD), vs = [x] ∧ Gv K H x g ∧ Q (.bl g.whole) H
theorem sc_law_is_number : FnScope ["thing"] ["thing"] (defScope s_law_is_number) :=
  ⟨rfl, rfl, rfl, by decide +kernel, rfl, by decide +kernel, by decide +kernel⟩
theorem ok_isnum (F : Fn K mg "_law_is_number" s_law_is_number) (T : Bl mg) : Cal P w K mg base "_law_is_number" 1 ["thing"] (spWhole K) := by
  refine cal_of F sc_law_is_number
    (fun _ _ _ _ _ _ us hl => match us, hl with | [_], _ => rfl) ?_ ?_
  · rintro vs H Q E ⟨x, g, rfl, _⟩
    rfl
  rintro f cdv A outer s H vs Q E free hr ⟨x, g, rfl, hx, q⟩
  refine ⟨_, (pss_one (ps_ret (pe_and (pe_callB call_isi (by rfl) T.isinstance (by decide +kernel) (pa_cons (pv 0) (pa_cons (pe_bltn (v := .ty "int") (by rfl) T.int (by decide +kernel) rfl) pa_nil))) (pe_one (pe_not (pe_callB call_isi (by rfl) T.isinstance (by decide +kernel) (pa_cons (pv 0) (pa_cons (pe_bltn (v := .ty "bool") (by rfl) T.bool (by decide +kernel) rfl) pa_nil)))))))), ?_⟩
  refine ⟨_, rfl, x, .ty "int", _, _, _, rfl, .ty _, gv_ty hx, kit_int g, _, rfl, ?_⟩
  cases hx with
  | int i => exact iteT' rfl ⟨_, rfl, _, .ty "bool", _, _, _, rfl, .ty _, .base (.int i), kit_bool (.int i), _, rfl, q⟩
  | bl b => exact iteT' rfl ⟨_, rfl, _, .ty "bool", _, _, _, rfl, .ty _, .base (.bl b), kit_bool (.bl b), _, rfl, q⟩
  | non => exact iteF' rfl q
  | str _ => exact iteF' rfl q
  | lst _ => exact iteF' rfl q
  | dct _ => exact iteF' rfl q
  | tup _ _ _ => exact iteF' rfl q
def spLThing (K : PySem.W.Frag) : Nat → Sp
  | 0 => fun _ _ _ _ => False
  | n + 1 => fun vs H Q _ => ∃ (x : V) (g : GD), vs = [x, .int (n : Int)] ∧ n ≤ 3 ∧ Gv K H x g ∧ (∀ H', Same H H' → Q (.bl (g.part n)) H')
theorem part_num {n : Nat} {g : GD} (h : g.isTup = false) : g.part n = (g.whole && g.less (10 ^ 60)) := by
  cases g <;> cases n <;> simp_all [GD.part, GD.less, GD.isTup, GD.whole]
end

end G0
namespace G0
open PySem PySem.Spec PyProof.Rows L2
section
variable {P : Program} {w : World} {K : PySem.W.Frag} {mg : Str → Option Value} {base : Heap}
theorem sc_law_is_thing : FnScope ["thing", "deep", "one"] ["thing", "deep"] (defScope s_law_is_thing) :=
  ⟨rfl, rfl, rfl, by decide +kernel, rfl, by decide +kernel, by decide +kernel⟩
theorem ok_lthing (n : Nat) (F : Fn K mg "_law_is_thing" s_law_is_thing) (T : Bl mg) (C_is_number : Cal P w K mg base "_law_is_number" 1 ["thing"] (spWhole K))
    (C_thing : Cal P w K mg base "_law_is_thing" (n + 1) ["thing", "deep"] (spLThing K n)) : Cal P w K mg base "_law_is_thing" (n + 1 + 1) ["thing", "deep"] (spLThing K (n + 1)) := by
  refine cal_of F sc_law_is_thing
    (fun _ _ _ _ _ _ us hl => match us, hl with | [_, _], _ => rfl) ?_ ?_
  · rintro vs H Q E ⟨x, g, rfl, _⟩
    rfl
  rintro f cdv A outer s H vs Q E free hr ⟨x, g, rfl, n3, hx, q⟩
  refine ⟨_, (pss_cons (ps_if (pt_val (pe_callB call_isi (by rfl) T.isinstance (by decide +kernel) (pa_cons (pv 0) (pa_cons (pe_bltn (v := .ty "tuple") (by rfl) T.tuple (by decide +kernel) rfl) pa_nil))))
    (pss_one (ps_ret (pe_and (pe_cmpR op_gt (pv 1) pe_int (nomark _)) (pe_one (pe_callB (cr_all (by rfl)) (by rfl) T.all (by decide +kernel) (pa_cons (pe_lc (own := [("one", 2)]) (g := gName 2) (tt := tYes) (by rfl) sc_law_is_thing.nd (pi_tup (pv 0)) (blkOk_by (N := ["thing", "deep", "one"]) (sc := defScope s_law_is_thing) (by decide +kernel)) (fun _ _ _ _ _ => pg_name (i := 2) sc_law_is_thing.nd rfl (Or.inl rfl)) (fun _ _ _ _ _ => pts_nil) (fun _ _ _ _ _ => (pe_cal C_thing free hr (pa_cons (pv 2) (pa_cons (pe_op op_sub (pv 1) pe_int) pa_nil))))) pa_nil))))))
    pss_nil)
    (pss_one (ps_ret (pe_and (pe_cal C_is_number free (hr.mono (by omega)) (pa_cons (pv 0) pa_nil)) (pe_and (pe_cmpR op_le pe_int (pv 0) (nomark _)) (pe_one (pe_cmpR op_lt (pv 0) (pe_op op_pow pe_int pe_int) (nomark _)))))))), ?_⟩
  refine ⟨_, rfl, x, .ty "tuple", _, _, _, rfl, .ty _, gv_ty hx, kit_tup g, _, rfl, ?_⟩
  cases tg : g.isTup with
  | false =>
    refine iteF' rfl ⟨_, rfl, x, g, rfl, hx, _, rfl, ?_⟩
    have q' := q H (Same.refl H)
    rw [part_num tg] at q'
    cases hx with
    | int i =>
      refine iteT' rfl ⟨_, rfl, _, _, rfl, rfl, _, rfl, ?_⟩
      refine ite2 (fun c => ⟨_, rfl, _, _, rfl, rfl, ⟨by decide, by decide, by decide⟩, _, _, rfl, rfl, ?_⟩) (fun c => ?_)
      · have c' : 0 ≤ i := of_decide_eq_true c
        have e60 : ((10 : Int) ^ (Int.toNat 60)) = 10 ^ 60 := rfl
        rw [e60]
        simpa [GD.less, GD.whole, c'] using q'
      · have c' : ¬ 0 ≤ i := fun z => c (decide_eq_true z)
        simpa [GD.less, GD.whole, c'] using q'
    | bl b => exact iteF' rfl q'
    | non => exact iteF' rfl q'
    | str _ => exact iteF' rfl q'
    | lst _ => exact iteF' rfl q'
    | dct _ => exact iteF' rfl q'
    | tup _ _ _ => cases tg
  | true =>
    refine iteT' rfl ?_
    cases hx with
    | non => cases tg
    | bl _ => cases tg
    | int _ => cases tg
    | str _ => cases tg
    | lst _ => cases tg
    | dct _ => cases tg
    | tup e xl a =>
      rename_i p xs gs
      refine ⟨_, rfl, _, _, rfl, rfl, _, rfl, ?_⟩
      refine ite2 (fun c => ?_) (fun c => ?_)
      · obtain ⟨m, rfl⟩ : ∃ m, n = m + 1 := by
          refine ⟨n - 1, ?_⟩
          have : (0 : Int) < (n : Int) := of_decide_eq_true c
          omega
        refine ⟨_, rfl, p, rfl, ⟨_, e⟩, fun D hD => ?_⟩
        have hl := gvs_len a
        refine lc_tup (K := K) (a := p) (xs := xs) (fun i G => Same H G ∧ G D = some (.lst (((gs.take i).map (GD.part m)).map V.bl))) ⟨same_upd hD, upd_same⟩ (fun i G _ h => sqt_same h.1 e) ?_ ?_
        · rintro i y G hi ⟨sG, hG⟩
          obtain ⟨gi, hgi, hy⟩ := gvs_get a hi
          refine ⟨rfl, _, rfl, _, rfl, _, _, rfl, rfl, y, gi, (by show [y, V.int (((m + 1 : Nat) : Int) - 1)] = _; rw [show (((m + 1 : Nat) : Int) - 1) = (m : Int) by omega]), by omega, gv_same sG _ _ hy, fun G2 s2 => ?_⟩
          refine ⟨_, s2 _ _ hG, ?_, fun b o z => ?_, ?_⟩
          · rw [List.length_map, List.length_map, List.length_take]
            exact small_of' (by omega)
          · rw [upd_ne (ne_of_none z hD)]; exact s2 _ _ (sG b o z)
          · rw [upd_same, List.take_succ, hgi, List.map_append, List.map_append]; rfl
        · rintro G ⟨sG, hG⟩
          refine ⟨D, _, rfl, SqL.of hG, ?_⟩
          have eg : gs.take xs.length = gs := List.take_of_length_le (by omega)
          rw [eg, ← parts_all]
          have := q G sG
          simpa only [GD.part] using this
      · have n0 : n = 0 := by
          have : ¬ (0 : Int) < (n : Int) := fun z => c (decide_eq_true z)
          omega
        subst n0
        exact q H (Same.refl H)
theorem ok_lthings (F : Fn K mg "_law_is_thing" s_law_is_thing) (T : Bl mg) (C_is_number : Cal P w K mg base "_law_is_number" 1 ["thing"] (spWhole K)) :
    ∀ n, Cal P w K mg base "_law_is_thing" (n + 1) ["thing", "deep"] (spLThing K n)
  | 0 => (cal_no F (fun _ _ _ _ _ _ us hl => match us, hl with | [_, _], _ => rfl) ).mono (by decide)
  | n + 1 => ok_lthing n F T C_is_number (ok_lthings F T C_is_number n)
/-! ### _law_is_letter -/
theorem bad1_all : ∀ (gs : List GD) (k : Nat), decide (bad1 k gs = none) = (gs.map (GD.part 3)).all id
  | [], _ => rfl
  | g :: gs, k => by
    cases h : GD.part 3 g with
    | true =>
      have := bad1_all gs (k + 1)
      simp only [bad1, h, if_true, List.map_cons, List.all_cons, id, Bool.true_and]
      exact this
    | false => simp [bad1, h]
theorem letter_tup {z : Str} {gs : List GD} : GD.letter (.tup (.str z :: gs)) = (wordB z && (gs.map (GD.part 3)).all id) := by
  have fa : GD.fault (.tup (.str z :: gs)) = if wordB z = true then bad1 1 gs else some 0 := rfl
  unfold GD.letter
  rw [fa]
  cases h : wordB z with
  | true => simpa using bad1_all gs 1
  | false => simp
theorem cut_tail (v : V) (vs : List V) : cutV (v :: vs) (some 1) none = vs := by
  unfold cutV
  rw [show (1 : Int) = ((1 : Nat) : Int) by rfl, HT.sIx_nat]
  have e1 : min 1 (v :: vs).length = 1 := by simp
  rw [e1, List.drop_one, List.tail_cons]
  exact List.take_of_length_le (by show vs.length ≤ (vs.length + 1) - 1; omega)
theorem sc_law_is_letter : FnScope ["thing", "sign", "one"] ["thing"] (defScope s_law_is_letter) :=
  ⟨rfl, rfl, rfl, by decide +kernel, rfl, by decide +kernel, by decide +kernel⟩
theorem ok_lletter (F : Fn K mg "_law_is_letter" s_law_is_letter) (T : Bl mg) (C_is_thing : Cal P w K mg base "_law_is_thing" 5 ["thing", "deep"] (spLThing K 4)) :
    Cal P w K mg base "_law_is_letter" 6 ["thing"] (spIsLetter K) := by
  refine cal_of F sc_law_is_letter
    (fun _ _ _ _ _ _ us hl => match us, hl with | [_], _ => rfl) ?_ ?_
  · rintro vs H Q E ⟨x, g, rfl, _⟩
    rfl
  rintro f cdv A outer s H vs Q E free hr ⟨x, g, rfl, hx, q⟩
  refine ⟨_, (pss_cons (ps_if (PW.pt (pw_or (pt_not (pt_val (pe_callB call_isi (by rfl) T.isinstance (by decide +kernel) (pa_cons (pv 0) (pa_cons (pe_bltn (v := .ty "tuple") (by rfl) T.tuple (by decide +kernel) rfl) pa_nil))))) (pw_or (pt_cmpR (op_eqNil hr.units0) (pv 0) (pe_tup pa_nil) (nomark _)) (pw_or1 (pt_not (pt_val (pe_callB call_isi (by rfl) T.isinstance (by decide +kernel) (pa_cons (pe_ix ix_tup (pv 0) pe_int (fun _ _ => rfl)) (pa_cons (pe_bltn (v := .ty "str") (by rfl) T.str (by decide +kernel) rfl) pa_nil)))))))))
    (pss_one (ps_ret pe_bl))
    pss_nil)
    (pss_cons (ps_if (PW.pt (pw_or (pt_cmpR op_eq (pe_ix ix_tup (pv 0) pe_int (fun _ _ => rfl)) pe_str (nomark _)) (pw_or (pt_cmpR op_gt (pe_callB call_len_str (by rfl) T.len (by decide +kernel) (pa_cons (pe_ix ix_tup (pv 0) pe_int (fun _ _ => rfl)) pa_nil)) pe_int (nomark _)) (pw_or1 (pt_cmpR op_eq (pe_ix ix_tup (pv 0) pe_int (fun _ _ => rfl)) pe_str (nomark _))))))
    (pss_one (ps_ret pe_bl))
    pss_nil)
    (pss_cons (ps_if (pt_not (pt_val (pe_callB (cr_all (by rfl)) (by rfl) T.all (by decide +kernel) (pa_cons (pe_lc (own := [("sign", 1)]) (g := gName 1) (tt := tYes) (by rfl) sc_law_is_letter.nd (pi_str (pe_ix ix_tup (pv 0) pe_int (fun _ _ => rfl))) (blkOk_by (N := ["thing", "sign", "one"]) (sc := defScope s_law_is_letter) (by decide +kernel)) (fun _ _ _ _ _ => pg_name (i := 1) sc_law_is_letter.nd rfl (Or.inl rfl)) (fun _ _ _ _ _ => pts_nil) (fun _ _ _ _ _ => (pe_cmpR op_inS (pv 1) pe_str (by rfl)))) pa_nil))))
    (pss_one (ps_ret pe_bl))
    pss_nil)
    (pss_one (ps_ret (pe_callB (cr_all (by rfl)) (by rfl) T.all (by decide +kernel) (pa_cons (pe_lc (own := [("one", 2)]) (g := gName 2) (tt := tYes) (by rfl) sc_law_is_letter.nd (pi_tup (pe_slice sl_tupA (pv 0) (po_some pe_int) po_none)) (blkOk_by (N := ["thing", "sign", "one"]) (sc := defScope s_law_is_letter) (by decide +kernel)) (fun _ _ _ _ _ => pg_name (i := 2) sc_law_is_letter.nd rfl (Or.inl rfl)) (fun _ _ _ _ _ => pts_nil) (fun _ _ _ _ _ => (pe_cal C_is_thing free hr (pa_cons (pv 2) (pa_cons pe_int pa_nil))))) pa_nil))))))), ?_⟩
  have q0 := q H (Same.refl H)
  refine ⟨_, rfl, x, .ty "tuple", _, _, _, rfl, .ty _, gv_ty hx, kit_tup g, _, rfl, ?_⟩
  cases hx with
  | non => exact iteT' rfl q0
  | bl _ => exact iteT' rfl q0
  | int _ => exact iteT' rfl q0
  | str _ => exact iteT' rfl q0
  | lst _ => exact iteT' rfl q0
  | dct _ => exact iteT' rfl q0
  | tup e xl a =>
    rename_i p xs gs
    refine iteF' rfl ⟨_, rfl, Nat.zero_le _, fun t ht => ⟨p, t, xs, rfl, rfl, .inr ⟨sqt_same (same_upd ht) e, SqT.of upd_same⟩, _, rfl, ?_⟩⟩
    have st := same_upd (o := .tup []) ht
    have hl := gvs_len a
    cases a with
    | nil => exact iteT' rfl (q _ st)
    | cons hw ha =>
      rename_i v vs g gs
      refine iteF' rfl ?_
      have e' := sqt_same st e
      refine ⟨_, rfl, p, _, _, _, rfl, rfl, e', atI_nat (j := 0) rfl, v, .ty "str", _, _, _, rfl, .ty _, gv_ty (gv_same st _ _ hw), kit_str g, _, rfl, ?_⟩
      have q1 := q _ st
      cases hw with
      | non => exact iteT' rfl q1
      | bl _ => exact iteT' rfl q1
      | int _ => exact iteT' rfl q1
      | lst _ => exact iteT' rfl q1
      | dct _ => exact iteT' rfl q1
      | tup _ _ _ => exact iteT' rfl q1
      | str zl =>
        rename_i z
        have q2 : ∀ G, Same H G → Q (.bl (wordB z && (gs.map (GD.part 3)).all id)) G := fun G s => by
          rw [← letter_tup]; exact q G s
        have no : wordB z = false → ∀ G, Same H G → Q (.bl false) G := fun e G s => by
          have := q2 G s
          rwa [e, Bool.false_and] at this
        have zl2 : z.length ≤ sizeLine := Nat.le_trans zl (by decide)
        refine iteF' rfl ⟨_, rfl, p, _, _, .str z, rfl, rfl, e', atI_nat (j := 0) rfl, rfl, _, rfl, ?_⟩
        refine ite2 (fun c => ?_) (fun c1 => ?_)
        · have z0 : z = "" := V.str.inj (of_decide_eq_true c)
          exact no (by rw [z0]; decide +kernel) _ st
        · have l1 : 1 ≤ z.length := by
            rcases Nat.eq_zero_or_pos z.length with h | h
            · refine absurd ?_ c1
              have : z = "" := by
                have h' : z.cps.size = 0 := h
                cases z with
                | mk cs =>
                  have : cs = #[] := Array.eq_empty_of_size_eq_zero h'
                  rw [this]; rfl
              exact decide_eq_true (congrArg V.str this)
            · exact h
          refine ⟨_, rfl, p, _, _, .str z, rfl, rfl, e', atI_nat (j := 0) rfl, z, rfl, zl2, _, _, rfl, rfl, _, rfl, ?_⟩
          refine ite2 (fun c => ?_) (fun c8 => ?_)
          · have : ¬ z.length ≤ 8 := by have := of_decide_eq_true c; omega
            exact no (by simp [wordB, this]) _ st
          · have l8 : z.length ≤ 8 := by
              have : ¬ (8 : Int) < (z.length : Nat) := fun h => c8 (decide_eq_true h)
              omega
            refine ⟨_, rfl, p, _, _, .str z, rfl, rfl, e', atI_nat (j := 0) rfl, rfl, _, rfl, ?_⟩
            refine ite2 (fun c => ?_) (fun cg => ?_)
            · have z0 : z = "gone" := V.str.inj (of_decide_eq_true c)
              exact no (by rw [z0]; decide +kernel) _ st
            · have ng : z ≠ "gone" := fun h => cg (decide_eq_true (congrArg V.str h))
              have wz : wordB z = z.cps.toList.all (fun c => decide (c ∈ signs)) := by simp [wordB, l1, l8, ng]
              refine ⟨_, rfl, p, _, _, .str z, rfl, rfl, e', atI_nat (j := 0) rfl, z, rfl, fun D hD => ?_⟩
              have zs : z.cps.toList.length = z.length := by simp [Str.length]
              refine lc_str (fun i G => Same H G ∧ G D = some (.lst (((z.cps.toList.take i).map fun c => decide (c ∈ signs)).map V.bl))) ⟨st.trans (same_upd hD), upd_same⟩ ?_ ?_
              · rintro i c G hc ⟨sG, hG⟩
                have hc' : z.cps.toList[i]? = some c := by rw [Array.getElem?_toList]; exact hc
                refine ⟨rfl, _, rfl, c, _, rfl, rfl, _, hG, ?_, fun b o e => ?_, ?_⟩
                · rw [List.length_map, List.length_map, List.length_take]
                  exact small_of' (by omega)
                · rw [upd_ne (ne_of_none e (st.free hD))]; exact sG b o e
                · rw [upd_same, List.take_succ, hc', List.map_append, List.map_append]; rfl
              · rintro G ⟨sG, hG⟩
                have ez : z.cps.toList.take z.cps.size = z.cps.toList := List.take_of_length_le (by simp)
                rw [ez] at hG
                refine ⟨D, _, rfl, SqL.of hG, _, rfl, ?_⟩
                rw [all_signs, ← wz]
                cases wzb : wordB z with
                | false => exact iteT' rfl (no wzb _ sG)
                | true =>
                  refine iteF' rfl ⟨_, rfl, _, rfl, sl_none (sqt_same sG e) fun r G1 s1 h1 => ⟨r, rfl, ⟨_, h1⟩, fun L hL => ?_⟩⟩
                  rw [cut_tail] at h1
                  have s01 := sG.trans s1
                  have hA := gvs_same s01 _ _ ha
                  have hlA := gvs_len hA
                  simp at xl
                  refine lc_tup (K := K) (a := r) (xs := vs) (fun i G2 => Same G1 G2 ∧ G2 L = some (.lst (((gs.take i).map (GD.part 3)).map V.bl))) ⟨same_upd hL, upd_same⟩ (fun i G2 _ h => sqt_same h.1 h1) ?_ ?_
                  · rintro i y G2 hi ⟨s2, hG2⟩
                    obtain ⟨gi, hgi, hy⟩ := gvs_get hA hi
                    refine ⟨rfl, _, rfl, y, gi, rfl, by decide, gv_same s2 _ _ hy, fun G3 s3 => ?_⟩
                    refine ⟨_, s3 _ _ hG2, ?_, fun b o z => ?_, ?_⟩
                    · rw [List.length_map, List.length_map, List.length_take]
                      exact small_of' (by omega)
                    · rw [upd_ne (ne_of_none z hL)]; exact s3 _ _ (s2 b o z)
                    · rw [upd_same, List.take_succ, hgi, List.map_append, List.map_append]; rfl
                  · rintro G2 ⟨s2, hG2⟩
                    refine ⟨L, _, rfl, SqL.of hG2, ?_⟩
                    have eg : gs.take vs.length = gs := List.take_of_length_le (by omega)
                    rw [eg]
                    have := q2 G2 (s01.trans s2)
                    rwa [wzb, Bool.true_and] at this
end

end G0
namespace G0
open PySem PySem.Spec PyProof.Rows L2
section
variable {P : Program} {w : World} {K : PySem.W.Frag} {mg : Str → Option Value} {base : Heap}
/-! ### _law_is_row -/
def sizesK : List (Key × V) := [(.inr "ask", .int 2), (.inr "in", .int 2), (.inr "out", .int 2), (.inr "fell", .int 2), (.inr "gone", .int 3), (.inr "put", .int 4), (.inr "came", .int 4)]
theorem merge_sizes : mergeK [] sizesK = sizesK := by decide +kernel
theorem key_ne {a b : Str} (h : ¬ b = a) : ¬ ((Sum.inr a : Key) = .inr b) := fun z => h (Sum.inr.inj z).symm
theorem kinds (z : Str) : (kindN z = none ∧ valV sizesK (.inr z) = none) ∨ (kindN z = some 1 ∧ lettered z = false ∧ valV sizesK (.inr z) = some (.int 2)) ∨
    (kindN z = some 2 ∧ lettered z = false ∧ valV sizesK (.inr z) = some (.int 3)) ∨ (kindN z = some 2 ∧ lettered z = true ∧ valV sizesK (.inr z) = some (.int 4)) := by
  by_cases h1 : z = "ask"
  · subst h1; exact .inr (.inl ⟨by decide +kernel, by decide +kernel, by decide +kernel⟩)
  by_cases h2 : z = "in"
  · subst h2; exact .inr (.inl ⟨by decide +kernel, by decide +kernel, by decide +kernel⟩)
  by_cases h3 : z = "out"
  · subst h3; exact .inr (.inl ⟨by decide +kernel, by decide +kernel, by decide +kernel⟩)
  by_cases h4 : z = "fell"
  · subst h4; exact .inr (.inl ⟨by decide +kernel, by decide +kernel, by decide +kernel⟩)
  by_cases h5 : z = "gone"
  · subst h5; exact .inr (.inr (.inl ⟨by decide +kernel, by decide +kernel, by decide +kernel⟩))
  by_cases h6 : z = "put"
  · subst h6; exact .inr (.inr (.inr ⟨by decide +kernel, by decide +kernel, by decide +kernel⟩))
  by_cases h7 : z = "came"
  · subst h7; exact .inr (.inr (.inr ⟨by decide +kernel, by decide +kernel, by decide +kernel⟩))
  refine .inl ⟨by simp [kindN, h1, h2, h3, h4, h5, h6, h7], ?_⟩
  unfold sizesK
  rw [valV_neg (key_ne h1), valV_neg (key_ne h2), valV_neg (key_ne h3), valV_neg (key_ne h4), valV_neg (key_ne h5), valV_neg (key_ne h6), valV_neg (key_ne h7), valV_nil]
theorem cut_mid (v : V) (vs : List V) : cutV (v :: vs) (some 1) (some 3) = vs.take 2 := cut1 v vs 2
def spLRow (K : PySem.W.Frag) : Sp := fun vs H Q _ => ∃ (x : V) (t : Int) (g : GD), vs = [x, .int t] ∧ Gv K H x g ∧ ∀ H', Same H H' → Q (.bl (g.row t)) H'
theorem sc_law_is_row : FnScope ["thing", "wide", "sizes", "one"] ["thing", "wide"] (defScope s_law_is_row) :=
  ⟨rfl, rfl, rfl, by decide +kernel, rfl, by decide +kernel, by decide +kernel⟩
theorem ok_lrow (F : Fn K mg "_law_is_row" s_law_is_row) (T : Bl mg) (C_is_number : Cal P w K mg base "_law_is_number" 1 ["thing"] (spWhole K))
    (C_is_letter : Cal P w K mg base "_law_is_letter" 6 ["thing"] (spIsLetter K)) : Cal P w K mg base "_law_is_row" 7 ["thing", "wide"] (spLRow K) := by
  refine cal_of F sc_law_is_row
    (fun _ _ _ _ _ _ us hl => match us, hl with | [_, _], _ => rfl) ?_ ?_
  · rintro vs H Q E ⟨x, t, g, rfl, _⟩
    rfl
  rintro f cdv A outer s H vs Q E free hr ⟨x, t, g, rfl, hx, q⟩
  refine ⟨_, (pss_cons (ps_if (PW.pt (pw_or (pt_not (pt_val (pe_callB call_isi (by rfl) T.isinstance (by decide +kernel) (pa_cons (pv 0) (pa_cons (pe_bltn (v := .ty "tuple") (by rfl) T.tuple (by decide +kernel) rfl) pa_nil))))) (pw_or (pt_cmpR (op_eqNil hr.units0) (pv 0) (pe_tup pa_nil) (nomark _)) (pw_or1 (pt_not (pt_val (pe_callB call_isi (by rfl) T.isinstance (by decide +kernel) (pa_cons (pe_ix ix_tup (pv 0) pe_int (fun _ _ => rfl)) (pa_cons (pe_bltn (v := .ty "str") (by rfl) T.str (by decide +kernel) rfl) pa_nil)))))))))
    (pss_one (ps_ret pe_bl))
    pss_nil)
    (pss_cons (ps_set (i := 2) sc_law_is_row.nd rfl (Or.inl rfl) (pe_disp (pps_cons pe_str pe_int (pps_cons pe_str pe_int (pps_cons pe_str pe_int (pps_cons pe_str pe_int (pps_cons pe_str pe_int (pps_cons pe_str pe_int (pps_cons pe_str pe_int pps_nil))))))) (by rfl) (by rfl) (fun z => by cases z) (by decide)))
    (pss_cons (ps_if (PW.pt (pw_or (pt_cmp (pc_dnotin (hu_of hr) (pe_ix ix_tup (pv 0) pe_int (fun _ _ => rfl)) (pv 2))) (pw_or1 (pt_cmpR op_ne (pe_callB call_len_seq (by rfl) T.len (by decide +kernel) (pa_cons (pv 0) pa_nil)) (pe_dget (hu_of hr) (pv 2) (pe_ix ix_tup (pv 0) pe_int (fun _ _ => rfl)) (fun _ _ => rfl)) (nomark _)))))
    (pss_one (ps_ret pe_bl))
    pss_nil)
    (pss_cons (ps_for PassesOwn.never rfl (pi_tup (pe_slice sl_tupA (pv 0) (po_some pe_int) (po_some pe_int))) (pg_name (i := 3) sc_law_is_row.nd rfl (Or.inl rfl))
    (pss_one (ps_if (PW.pt (pw_or (pt_not (pt_val (pe_cal C_is_number free (hr.mono (by decide)) (pa_cons (pv 3) pa_nil)))) (pw_or (pt_cmpR op_lt (pv 3) pe_int (nomark _)) (pw_or1 (pt_cmpR op_ge (pv 3) (pv 1) (nomark _))))))
    (pss_one (ps_ret pe_bl))
    pss_nil)))
    (pss_one (ps_ret (pe_or (pe_cmpR op_lt (pe_callB call_len_seq (by rfl) T.len (by decide +kernel) (pa_cons (pv 0) pa_nil)) pe_int (nomark _)) (pe_one (pe_cal C_is_letter free (hr.mono (by decide)) (pa_cons (pe_ix ix_tup (pv 0) pe_int (fun _ _ => rfl)) pa_nil)))))))))), ?_⟩
  have q0 := q H (Same.refl H)
  refine ⟨_, rfl, x, .ty "tuple", _, _, _, rfl, .ty _, gv_ty hx, kit_tup g, _, rfl, ?_⟩
  cases hx with
  | non => exact iteT' rfl q0
  | bl _ => exact iteT' rfl q0
  | int _ => exact iteT' rfl q0
  | str _ => exact iteT' rfl q0
  | lst _ => exact iteT' rfl q0
  | dct _ => exact iteT' rfl q0
  | tup e xl a =>
    rename_i p xs gs
    refine iteF' rfl ⟨_, rfl, Nat.zero_le _, fun tt ht => ⟨p, tt, xs, rfl, rfl, .inr ⟨sqt_same (same_upd ht) e, SqT.of upd_same⟩, _, rfl, ?_⟩⟩
    have st := same_upd (o := .tup []) ht
    have hl := gvs_len a
    cases a with
    | nil => exact iteT' rfl (q _ st)
    | cons hw ha =>
      rename_i v vs g gs
      refine iteF' rfl ?_
      have e' := sqt_same st e
      refine ⟨_, rfl, p, _, _, _, rfl, rfl, e', atI_nat (j := 0) rfl, v, .ty "str", _, _, _, rfl, .ty _, gv_ty (gv_same st _ _ hw), kit_str g, _, rfl, ?_⟩
      have q1 := q _ st
      cases hw with
      | non => exact iteT' rfl q1
      | bl _ => exact iteT' rfl q1
      | int _ => exact iteT' rfl q1
      | lst _ => exact iteT' rfl q1
      | dct _ => exact iteT' rfl q1
      | tup _ _ _ => exact iteT' rfl q1
      | str zl =>
        rename_i z
        refine iteF' rfl ?_
        show tSeq (tAsg (tDisp _) (gName 2)) _ _ _ _
        refine seq_set ?_
        refine fun d hd => ?_
        refine ⟨upd_same, sizesK, rfl, by decide, ?_⟩
        rw [merge_sizes]
        generalize hHt : upd H tt (.tup []) = Ht at *
        have s1 : Same Ht (upd (upd Ht d (.dK [])) d (.dK sizesK)) := fun b o e => by
          rw [upd_ne (ne_of_none e hd), upd_ne (ne_of_none e hd)]; exact e
        have hD : upd (upd Ht d (.dK [])) d (.dK sizesK) d = some (.dK sizesK) := upd_same
        obtain ⟨Hd, eHd⟩ : ∃ Hd, Hd = upd (upd Ht d (.dK [])) d (.dK sizesK) := ⟨_, rfl⟩
        rw [← eHd] at s1 hD
        have s01 := st.trans s1
        have e1 := sqt_same s1 e'
        have DG : ∀ G, Same Hd G → DGet G d (.str z) (valV sizesK (.inr z)) := fun G s => DGet.k (k := .inr z) (s _ _ hD)
        have qr : ∀ G, Same H G → ∀ b, GD.row t (.tup (.str z :: gs)) = b → Q (.bl b) G := fun G s b e => by rw [← e]; exact q G s
        refine ⟨_, rfl, p, _, _, .str z, rfl, rfl, by rw [← eHd]; exact e1, atI_nat (j := 0) rfl, _, rfl, d, _, rfl, by rw [← eHd]; exact DG _ (Same.refl _), _, rfl, ?_⟩
        rw [← eHd]
        rcases kinds z with ⟨hk, hv⟩ | rest
        · exact iteT' (by rw [hv]; rfl) (qr _ s01 _ (by simp [GD.row, hk]))
        obtain ⟨k, N, hk, hv, hN⟩ : ∃ k N : Nat, kindN z = some k ∧ valV sizesK (.inr z) = some (.int N) ∧ ((k = 1 ∧ lettered z = false ∧ N = 2) ∨ (k = 2 ∧ lettered z = false ∧ N = 3) ∨ (k = 2 ∧ lettered z = true ∧ N = 4)) := by
          rcases rest with ⟨a1, a2, a3⟩ | ⟨a1, a2, a3⟩ | ⟨a1, a2, a3⟩
          · exact ⟨1, 2, a1, a3, .inl ⟨rfl, a2, rfl⟩⟩
          · exact ⟨2, 3, a1, a3, .inr (.inl ⟨rfl, a2, rfl⟩)⟩
          · exact ⟨2, 4, a1, a3, .inr (.inr ⟨rfl, a2, rfl⟩)⟩
        have rw0 : GD.row t (.tup (.str z :: gs)) = rowTail z t gs k := by simp [GD.row, hk]
        have l' : vs.length = gs.length := by simpa using hl
        refine iteF' (by rw [hv]; rfl) ?_
        refine ⟨_, rfl, p, _, rfl, .inr e1, _, rfl, _, rfl, p, _, _, .str z, rfl, rfl, e1, atI_nat (j := 0) rfl, d, .int N, rfl, by rw [← hv]; exact DG _ (Same.refl _), rfl, _, rfl, ?_⟩
        by_cases hlen : gs.length + 1 = N
        · refine iteF' (by have : (((V.str z :: vs).length : Nat) : Int) = (N : Int) := (by simp; omega); rw [this]; simp) ?_
          have tk : gs.take 2 = gs.take k := by
            rcases hN with ⟨k1, _, n2⟩ | ⟨k1, _, _⟩ | ⟨k1, _, _⟩
            · rw [k1, List.take_of_length_le (by omega), List.take_of_length_le (by omega)]
            · rw [k1]
            · rw [k1]
          refine ⟨_, rfl, _, rfl, _, rfl, sl_any e1 fun r G s2 h1 => ⟨r, rfl, ⟨_, h1⟩, ?_⟩⟩
          rw [cut_mid] at h1
          have s02 := s01.trans s2
          have hA : GvAll K G (vs.take 2) (gs.take 2) := gvs_take 2 (gvs_same s02 _ _ ha)
          have hlA := gvs_len hA
          refine for_tup (K := K) (a := r) (xs := vs.take 2) (fun i σ G2 => (∃ z', σ = [some (.ref p), some (.int t), some (.ref d), z']) ∧ Same G G2 ∧ ∀ j, j < i → ∀ g' : GD, (gs.take 2)[j]? = some g' → g'.less t = true)
            ⟨⟨_, rfl⟩, Same.refl _, fun j h => absurd h (Nat.not_lt_zero j)⟩ (fun i σ G2 _ h => sqt_same h.2.1 h1) ?_ ?_
          · rintro i y σ G2 hi ⟨⟨z', rfl⟩, s3, hp⟩
            obtain ⟨gi, hgi, hy⟩ := gvs_get hA hi
            have bad : gi.less t = false → Q (.bl false) G2 := fun b => by
              refine qr _ (s02.trans s3) _ ?_
              rw [rw0]
              unfold rowTail
              rw [← tk]
              have : (gs.take 2).all (GD.less t) = false := by
                rw [List.all_eq_false]
                exact ⟨gi, List.mem_of_getElem? hgi, by rw [b]; simp⟩
              rw [this, Bool.false_and]
            refine ⟨_, rfl, y, gi, rfl, gv_same s3 _ _ hy, _, rfl, ?_⟩
            cases hy with
            | non => exact iteT' rfl (bad rfl)
            | bl _ => exact iteT' rfl (bad rfl)
            | str _ => exact iteT' rfl (bad rfl)
            | lst _ => exact iteT' rfl (bad rfl)
            | dct _ => exact iteT' rfl (bad rfl)
            | tup _ _ _ => exact iteT' rfl (bad rfl)
            | int j =>
              refine iteF' rfl ⟨_, rfl, _, _, rfl, rfl, _, rfl, ?_⟩
              refine ite2 (fun c => ?_) (fun c => ?_)
              · have c' : j < 0 := of_decide_eq_true c
                exact bad (decide_eq_false (by omega))
              · have c' : ¬ j < 0 := fun h => c (decide_eq_true h)
                refine ⟨_, rfl, _, rfl, _, _, rfl, rfl, _, rfl, ?_⟩
                refine ite2 (fun c2 => ?_) (fun c2 => ?_)
                · have c3 : t ≤ j := of_decide_eq_true c2
                  exact bad (decide_eq_false (by omega))
                · have c3 : ¬ t ≤ j := fun h => c2 (decide_eq_true h)
                  refine ⟨⟨_, rfl⟩, s3, fun j' hj g' hg' => ?_⟩
                  rcases Nat.lt_or_ge j' i with lt | ge
                  · exact hp j' lt g' hg'
                  · have : j' = i := by omega
                    subst this
                    rw [hgi] at hg'
                    cases hg'
                    exact decide_eq_true (by omega)
          · rintro σ G2 ⟨⟨z', rfl⟩, s3, hp⟩
            have al : (gs.take k).all (GD.less t) = true := by
              rw [← tk, List.all_eq_true]
              intro g' hg'
              obtain ⟨j, hj, e⟩ := List.getElem_of_mem hg'
              exact hp j (by omega) g' (by rw [List.getElem?_eq_getElem hj, e])
            have s03 := s02.trans s3
            have rw1 : rowTail z t gs k = (if lettered z then decide (gs.length = k + 1) && (match gs[k]? with | some l => l.letter | none => false) else decide (gs.length = k)) := by
              unfold rowTail
              rw [al, Bool.true_and] <;> (cases lettered z <;> rfl)
            refine ⟨_, rfl, p, _, rfl, .inr (sqt_same s03 e), _, _, rfl, rfl, _, rfl, ?_⟩
            rcases hN with ⟨k1, lf, n2⟩ | ⟨k1, lf, n2⟩ | ⟨k1, lf, n2⟩
            · refine iteT' (by simp; omega) ?_
              have := qr G2 s03 true (by rw [rw0, rw1, lf]; simp; omega)
              refine cast ?_ this
              congr 2
            · refine iteT' (by simp; omega) ?_
              have := qr G2 s03 true (by rw [rw0, rw1, lf]; simp; omega)
              refine cast ?_ this
              congr 2
            · refine iteF' (by simp; omega) ?_
              have hk1 : 2 < vs.length := by omega
              have at3 : atI (V.str z :: vs) 3 = some vs[2] := atI_nat (j := 3) (by rw [List.getElem?_cons_succ, List.getElem?_eq_getElem hk1])
              obtain ⟨g3, hg3, hy3⟩ := gvs_get ha (List.getElem?_eq_getElem hk1)
              refine ⟨_, rfl, p, _, _, _, rfl, rfl, sqt_same s03 e, at3, _, g3, rfl, gv_same s03 _ _ hy3, fun G4 s4 => ?_⟩
              refine qr G4 (s03.trans s4) _ ?_
              subst k1
              rw [rw0, rw1, lf, hg3]
              have : gs.length = 3 := by omega
              simp [this, GD.letter]
        · refine iteT' (by have : ¬ (((V.str z :: vs).length : Nat) : Int) = (N : Int) := (by simp; omega); simp only [V.int.injEq, this]; rfl) ?_
          refine qr _ s01 false ?_
          rw [rw0]
          unfold rowTail
          rcases hN with ⟨k1, lf, n2⟩ | ⟨k1, lf, n2⟩ | ⟨k1, lf, n2⟩
          · have : ¬ gs.length = k := by omega
            simp [lf, this]
          · have : ¬ gs.length = k := by omega
            simp [lf, this]
          · have : ¬ gs.length = k + 1 := by omega
            simp [lf, this]
end

end G0
namespace G0
open PySem PySem.Spec PyProof.Rows L2
section
variable {P : Program} {w : World} {K : PySem.W.Frag} {mg : Str → Option Value} {base : Heap}
/-! ### _law_same -/
def spSame : Sp := fun vs H Q _ => ((∃ b : Bool, vs = [.bl b, .bl b]) ∨ ∃ i : Int, vs = [.int i, .int i]) ∧ Q (.bl true) H
theorem sc_law_same : FnScope ["found", "due", "k"] ["found", "due"] (defScope s_law_same) :=
  ⟨rfl, rfl, rfl, by decide +kernel, rfl, by decide +kernel, by decide +kernel⟩
theorem ok_same (F : Fn K mg "_law_same" s_law_same) (T : Bl mg) : Cal P w K mg base "_law_same" 1 ["found", "due"] spSame := by
  have C_same := (cal_no (P := P) (w := w) (base := base) F (ps := ["found", "due"]) (fun _ _ _ _ _ _ us hl => match us, hl with | [_, _], _ => rfl) )
  refine cal_of F sc_law_same
    (fun _ _ _ _ _ _ us hl => match us, hl with | [_, _], _ => rfl) ?_ ?_
  · rintro vs H Q E ⟨⟨b, rfl⟩ | ⟨i, rfl⟩, _⟩ <;> rfl
  rintro f cdv A outer s H vs Q E free hr ⟨ab, q⟩
  refine ⟨_, (pss_cons (ps_if (pt_cmpR op_isN (pv 1) pe_non (nomark _))
    (pss_one (ps_ret (pe_cmpR op_isN (pv 0) pe_non (nomark _))))
    pss_nil)
    (pss_cons (ps_if (pt_val (pe_callB call_isi (by rfl) T.isinstance (by decide +kernel) (pa_cons (pv 1) (pa_cons (pe_bltn (v := .ty "bool") (by rfl) T.bool (by decide +kernel) rfl) pa_nil))))
    (pss_one (ps_ret (pe_and (pe_callB call_isi (by rfl) T.isinstance (by decide +kernel) (pa_cons (pv 0) (pa_cons (pe_bltn (v := .ty "bool") (by rfl) T.bool (by decide +kernel) rfl) pa_nil))) (pe_one (pe_cmpR op_eq (pv 0) (pv 1) (nomark _))))))
    pss_nil)
    (pss_cons (ps_if (pt_val (pe_callB call_isi (by rfl) T.isinstance (by decide +kernel) (pa_cons (pv 1) (pa_cons (pe_bltn (v := .ty "int") (by rfl) T.int (by decide +kernel) rfl) pa_nil))))
    (pss_cons (ps_if (PW.pt (pw_or (pt_val (pe_callB call_isi (by rfl) T.isinstance (by decide +kernel) (pa_cons (pv 0) (pa_cons (pe_bltn (v := .ty "bool") (by rfl) T.bool (by decide +kernel) rfl) pa_nil)))) (pw_or1 (pt_not (pt_val (pe_callB call_isi (by rfl) T.isinstance (by decide +kernel) (pa_cons (pv 0) (pa_cons (pe_bltn (v := .ty "int") (by rfl) T.int (by decide +kernel) rfl) pa_nil))))))))
    (pss_one (ps_ret pe_bl))
    pss_nil)
    (pss_one (ps_ret (pe_cmpR op_eq (pv 0) (pv 1) (nomark _)))))
    pss_nil)
    (pss_cons (ps_if (pt_val (pe_callB call_isi (by rfl) T.isinstance (by decide +kernel) (pa_cons (pv 1) (pa_cons (pe_bltn (v := .ty "str") (by rfl) T.str (by decide +kernel) rfl) pa_nil))))
    (pss_one (ps_ret (pe_and (pe_callB call_isi (by rfl) T.isinstance (by decide +kernel) (pa_cons (pv 0) (pa_cons (pe_bltn (v := .ty "str") (by rfl) T.str (by decide +kernel) rfl) pa_nil))) (pe_one (pe_cmpR op_eq (pv 0) (pv 1) (nomark _))))))
    pss_nil)
    (pss_cons (ps_if (PW.pt (pw_and (pt_val (pe_callB call_isi (by rfl) T.isinstance (by decide +kernel) (pa_cons (pv 1) (pa_cons (pe_bltn (v := .ty "tuple") (by rfl) T.tuple (by decide +kernel) rfl) pa_nil)))) (pw_and1 (pt_not (pt_val (pe_callB call_isi (by rfl) T.isinstance (by decide +kernel) (pa_cons (pv 0) (pa_cons (pe_bltn (v := .ty "tuple") (by rfl) T.tuple (by decide +kernel) rfl) pa_nil))))))))
    (pss_one (ps_ret pe_bl))
    pss_nil)
    (pss_cons (ps_if (PW.pt (pw_and (pt_val (pe_callB call_isi (by rfl) T.isinstance (by decide +kernel) (pa_cons (pv 1) (pa_cons (pe_bltn (v := .ty "list") (by rfl) T.list (by decide +kernel) rfl) pa_nil)))) (pw_and1 (pt_not (pt_val (pe_callB call_isi (by rfl) T.isinstance (by decide +kernel) (pa_cons (pv 0) (pa_cons (pe_bltn (v := .ty "list") (by rfl) T.list (by decide +kernel) rfl) pa_nil))))))))
    (pss_one (ps_ret pe_bl))
    pss_nil)
    (pss_cons (ps_if (pt_cmpR op_ne (pe_callB call_len_seq (by rfl) T.len (by decide +kernel) (pa_cons (pv 0) pa_nil)) (pe_callB call_len_seq (by rfl) T.len (by decide +kernel) (pa_cons (pv 1) pa_nil)) (nomark _))
    (pss_one (ps_ret pe_bl))
    pss_nil)
    (pss_cons (ps_for PassesOwn.never rfl (pi_range1 (by rfl) T.range (pa_cons (pe_callB call_len_seq (by rfl) T.len (by decide +kernel) (pa_cons (pv 1) pa_nil)) pa_nil)) (pg_name (i := 2) sc_law_same.nd rfl (Or.inl rfl))
    (pss_one (ps_if (pt_not (pt_val (pe_cal C_same free hr (pa_cons (pe_ix ix_seq (pv 0) (pv 2) (fun _ _ => rfl)) (pa_cons (pe_ix ix_seq (pv 1) (pv 2) (fun _ _ => rfl)) pa_nil)))))
    (pss_one (ps_ret pe_bl))
    pss_nil)))
    (pss_one (ps_ret pe_bl)))))))))), ?_⟩
  rcases ab with ⟨b, rfl⟩ | ⟨i, rfl⟩
  · refine ⟨_, rfl, rfl, _, rfl, iteF' rfl ?_⟩
    refine ⟨_, rfl, _, .ty "bool", _, _, _, rfl, .ty _, .base (.bl b), kit_bool (.bl b), _, rfl, iteT' rfl ?_⟩
    refine ⟨_, rfl, _, .ty "bool", _, _, _, rfl, .ty _, .base (.bl b), kit_bool (.bl b), _, rfl, iteT' rfl ?_⟩
    refine ⟨_, rfl, _, rfl, rfl, ?_⟩
    rw [decide_eq_true rfl]
    exact q
  · refine ⟨_, rfl, rfl, _, rfl, iteF' rfl ?_⟩
    refine ⟨_, rfl, _, .ty "bool", _, _, _, rfl, .ty _, .base (.int i), kit_bool (.int i), _, rfl, iteF' rfl ?_⟩
    refine ⟨_, rfl, _, .ty "int", _, _, _, rfl, .ty _, .base (.int i), kit_int (.int i), _, rfl, iteT' rfl ?_⟩
    refine ⟨_, rfl, _, .ty "bool", _, _, _, rfl, .ty _, .base (.int i), kit_bool (.int i), _, rfl, iteF' rfl ?_⟩
    refine ⟨_, rfl, _, .ty "int", _, _, _, rfl, .ty _, .base (.int i), kit_int (.int i), _, rfl, iteF' rfl ?_⟩
    refine ⟨_, rfl, _, rfl, rfl, ?_⟩
    rw [decide_eq_true rfl]
    exact q
/-! ### _law_right -/
theorem seat_eq (z : Str) (a : V) (rest : List V) : seatV (.str z :: a :: rest) = if z = "came" ∨ z = "gone" then rest[0]? else some a := rfl
theorem seat_row {H : Hp} {xs : List V} {gs : List GD} (h : RowG gs) (a : GvAll K H xs gs) : ∃ k, seatV xs = some (.int k) := by
  cases h with
  | @one z s wd _ _ =>
    cases a with
    | cons h1 a =>
      cases a with
      | cons h2 a =>
        cases h1
        cases h2
        refine ⟨s, ?_⟩
        have : ¬ (z = "came" ∨ z = "gone") := by rcases wd with rfl | rfl | rfl | rfl <;> decide +kernel
        rw [seat_eq]
        rw [if_neg this]
  | @gone s t _ _ _ _ =>
    cases a with
    | cons h1 a =>
      cases a with
      | cons h2 a =>
        cases a with
        | cons h3 a =>
          cases h1
          cases h2
          cases h3
          refine ⟨t, ?_⟩
          rw [seat_eq]
          rw [if_pos (.inr rfl)]
          rfl
  | @«let» z s t ls wd _ _ _ _ =>
    cases a with
    | cons h1 a =>
      cases a with
      | cons h2 a =>
        cases a with
        | cons h3 a =>
          cases h1
          cases h2
          cases h3
          by_cases c : z = "came" ∨ z = "gone"
          · refine ⟨t, ?_⟩
            rw [seat_eq]
            rw [if_pos c]
            rfl
          · refine ⟨s, ?_⟩
            rw [seat_eq]
            rw [if_neg c]
theorem rowg_len {gs : List GD} (h : RowG gs) : gs.length ≤ 4 := by cases h <;> simp
def spRight : Sp := fun vs H Q _ => ∃ (p c : Addr) (n : Nat), vs = [.ref p] ∧ FeedAt n c H p ∧ n < 50000 ∧ ∀ H', Chg p H H' → FeedAt (n + 160) c H' p → Q (.bl true) H'
theorem sc_law_right : FnScope ["feed", "spoil", "at", "wide", "odd", "row", "thing"] ["feed"] (defScope s_law_right) :=
  ⟨rfl, rfl, rfl, by decide +kernel, rfl, by decide +kernel, by decide +kernel⟩
theorem ok_right (F : Fn K mg "_law_right" s_law_right) (T : Bl mg) (C_draw : Cal P w K mg base "_law_draw" 1 ["feed", "many"] spD) (C_many : Cal P w K mg base "_law_many" 2 ["feed"] spMany)
    (C_odd : Cal P w K mg base "_law_odd" 2 ["feed", "wide"] (spOdd K)) (C_any_row : Cal P w K mg base "_law_any_row" 8 ["feed", "wide"] (spRow K)) (C_same : Cal P w K mg base "_law_same" 1 ["found", "due"] spSame)
    (C_row : CalK P w K mg base (spIsRow K)) (C_is_row : Cal P w K mg base "_law_is_row" 7 ["thing", "wide"] (spLRow K)) (C_seat : Cal P w K mg base "_law_seat" 1 ["row"] (spSeat K))
    (Cseat_of : Cal P w K mg base "seat_of" 1 ["row"] (spSeat K)) : Cal P w K mg base "_law_right" 9 ["feed"] spRight := by
  refine cal_of F sc_law_right
    (fun _ _ _ _ _ _ us hl => match us, hl with | [_], _ => rfl) ?_ ?_
  · rintro vs H Q E ⟨p, c, n, rfl, _⟩
    rfl
  rintro f cdv A outer s H vs Q E free hr ⟨p, c, n, rfl, hP, hn, q⟩
  refine ⟨_, (pss_cons (ps_set (i := 1) sc_law_right.nd rfl (Or.inl rfl) (pe_cal C_draw free (hr.mono (by decide)) (pa_cons (pv 0) (pa_cons pe_int pa_nil))))
    (pss_cons (ps_set (i := 2) sc_law_right.nd rfl (Or.inl rfl) (pe_cal C_draw free (hr.mono (by decide)) (pa_cons (pv 0) (pa_cons pe_int pa_nil))))
    (pss_cons (ps_set (i := 3) sc_law_right.nd rfl (Or.inl rfl) (pe_cal C_many free (hr.mono (by decide)) (pa_cons (pv 0) pa_nil)))
    (pss_cons (ps_set (i := 4) sc_law_right.nd rfl (Or.inl rfl) (pe_cal C_odd free (hr.mono (by decide)) (pa_cons (pv 0) (pa_cons (pv 3) pa_nil))))
    (pss_cons (ps_set (i := 5) sc_law_right.nd rfl (Or.inl rfl) (pe_cal C_any_row free (hr.mono (by decide)) (pa_cons (pv 0) (pa_cons (pv 3) pa_nil))))
    (pss_cons (ps_set (i := 6) sc_law_right.nd rfl (Or.inl rfl) (pv 5))
    (pss_cons (ps_if (pt_cmpR op_eq (pv 1) pe_int (nomark _))
    (pss_one (ps_set (i := 6) sc_law_right.nd rfl (Or.inl rfl) (pe_op op_catA (pe_op op_catA (pe_slice sl_tupA (pv 5) po_none (po_some (pv 2))) (pe_tup (pa_cons (pv 4) pa_nil))) (pe_slice sl_tupA (pv 5) (po_some (pe_op op_add (pv 2) pe_int)) po_none))))
    pss_nil)
    (pss_cons (ps_if (pt_cmpR op_eq (pv 1) pe_int (nomark _))
    (pss_one (ps_set (i := 6) sc_law_right.nd rfl (Or.inl rfl) (pe_op op_catA (pe_slice sl_tupA (pv 5) po_none (po_some (pv 2))) (pe_slice sl_tupA (pv 5) (po_some (pe_op op_add (pv 2) pe_int)) po_none))))
    pss_nil)
    (pss_cons (ps_if (pt_cmpR op_eq (pv 1) pe_int (nomark _))
    (pss_one (ps_set (i := 6) sc_law_right.nd rfl (Or.inl rfl) (pe_op op_catA (pe_op op_catA (pe_slice sl_tupA (pv 5) po_none (po_some (pv 2))) (pe_tup (pa_cons (pv 4) pa_nil))) (pe_slice sl_tupA (pv 5) (po_some (pv 2)) po_none))))
    pss_nil)
    (pss_cons (ps_if (pt_cmpR op_eq (pv 1) pe_int (nomark _))
    (pss_one (ps_set (i := 6) sc_law_right.nd rfl (Or.inl rfl) (pe_ix ix_list (pe_lst (pa_cons (pv 4) (pa_cons (pe_callTy call_list_of (by rfl) T.list (by decide +kernel) (pa_cons (pv 5) pa_nil)) (pa_cons (pe_op op_catA (pv 5) (pv 5)) (pa_cons (pe_tup (pa_cons (pv 5) pa_nil)) pa_nil))))) (pv 2) (fun _ _ => rfl))))
    pss_nil)
    (pss_cons (ps_if (pt_not (pt_val (pe_cal C_same free (hr.mono (by decide)) (pa_cons (pe_row2 C_row free hr (pv 6) (pv 3)) (pa_cons (pe_cal C_is_row free (hr.mono (by decide)) (pa_cons (pv 6) (pa_cons (pv 3) pa_nil))) pa_nil)))))
    (pss_one (ps_ret pe_bl))
    pss_nil)
    (pss_cons (ps_if (pt_not (pt_val (pe_cal C_same free (hr.mono (by decide)) (pa_cons (pe_row1 C_row free hr (pv 6)) (pa_cons (pe_cal C_is_row free (hr.mono (by decide)) (pa_cons (pv 6) (pa_cons pe_int pa_nil))) pa_nil)))))
    (pss_one (ps_ret pe_bl))
    pss_nil)
    (pss_one (ps_ret (pe_cal C_same free (hr.mono (by decide)) (pa_cons (pe_cal Cseat_of free (hr.mono (by decide)) (pa_cons (pv 5) pa_nil)) (pa_cons (pe_cal C_seat free (hr.mono (by decide)) (pa_cons (pv 5) pa_nil)) pa_nil))))))))))))))))), ?_⟩
  refine ⟨_, rfl, p, c, 5, n, rfl, by decide, by decide, hP, by omega, fun d H1 d0 d1 c1 P1 => ?_⟩
  refine ⟨_, rfl, p, c, 4, n + 1, rfl, by decide, by decide, P1, by omega, fun t H2 t0 t1 c2 P2 => ?_⟩
  refine ⟨_, rfl, p, c, n + 2, rfl, P2, by omega, fun m H3 m1 m60 c3 P3 => ?_⟩
  refine ⟨_, rfl, _, rfl, p, c, m, n + 4, rfl, P3, by omega, fun o go H4 ho c4 P4 => ?_⟩
  refine ⟨_, rfl, _, rfl, p, c, m, n + 5, rfl, m1, m60, P4, by omega, fun r xs gs H5 hr5 hgs hG c5 P5 => ?_⟩
  have ho5 := gv_chg P4.lst P5.lst c5 _ _ ho
  have C5 := (((c1.trans c2).trans c3).trans c4).trans c5
  obtain ⟨k, hk⟩ := seat_row hG hgs
  have l4 := rowg_len hG
  have lx := gvs_len hgs
  have cut : ∀ lo hi, (cutV xs lo hi).length ≤ 4 := fun lo hi => Nat.le_trans (cutV_length xs lo hi) (by omega)
  refine ⟨_, rfl, ?_⟩
  have dd : d = 0 ∨ d = 1 ∨ d = 2 ∨ d = 3 ∨ d = 4 := by omega
  rcases dd with rfl | rfl | rfl | rfl | rfl
  · refine ⟨_, rfl, rfl, _, rfl, iteF' rfl ?_⟩
    refine ⟨_, rfl, rfl, _, rfl, iteF' rfl ?_⟩
    refine ⟨_, rfl, rfl, _, rfl, iteF' rfl ?_⟩
    refine ⟨_, rfl, rfl, _, rfl, iteF' rfl ?_⟩
    have hv : Gv K H5 (.ref r) (.tup gs) := .tup hr5 (by omega) hgs
    refine ⟨_, rfl, _, rfl, rfl, rfl, (.ref r), m, (.tup gs), rfl, hv, fun G1 s1 => ?_⟩
    refine ⟨_, rfl, _, rfl, (.ref r), m, (.tup gs), rfl, gv_same s1 _ _ hv, fun G2 s2 => ?_⟩
    refine ⟨.inl ⟨_, rfl⟩, _, rfl, iteF' rfl ?_⟩
    refine ⟨_, rfl, (.ref r), 60, (.tup gs), rfl, gv_same (s1.trans s2) _ _ hv, fun G3 s3 => ?_⟩
    refine ⟨_, rfl, (.ref r), 60, (.tup gs), rfl, gv_same ((s1.trans s2).trans s3) _ _ hv, fun G4 s4 => ?_⟩
    refine ⟨.inl ⟨_, rfl⟩, _, rfl, iteF' rfl ?_⟩
    have sF := (Same.refl H5).trans (((s1.trans s2).trans s3).trans s4)
    refine ⟨_, rfl, r, xs, k, rfl, sqt_same sF hr5, hk, fun G5 s5 => ?_⟩
    refine ⟨_, rfl, r, xs, k, rfl, sqt_same (sF.trans s5) hr5, hk, fun G6 s6 => ?_⟩
    exact ⟨.inr ⟨k, rfl⟩, q _ (C5.trans (Chg.same ((sF.trans s5).trans s6))) ((P5.keep ((sF.trans s5).trans s6)).mono (by omega))⟩
  · refine ⟨_, rfl, rfl, _, rfl, iteT' rfl ?_⟩
    refine ⟨_, rfl, _, rfl, _, rfl, sl_any hr5 fun r1 G4 s4 h4 => ?_⟩
    refine ⟨_, rfl, by show 1 ≤ sizeLine; decide, fun t' ht => ?_⟩
    refine cat_any (sqt_same (same_upd ht) h4) (SqT.of upd_same) (by have := cut none (some t); simp; omega) fun r2 G5 s5 h5 => ?_
    have s45 := (s4.trans (same_upd (o := .tup [o]) ht)).trans s5
    refine ⟨_, rfl, _, rfl, _, _, rfl, rfl, _, rfl, sl_none (sqt_same s45 hr5) fun r3 G6 s6 h6 => ?_⟩
    refine cat_any (sqt_same s6 h5) h6 (by have := cut none (some t); have := cut (some (t + 1)) none; simp; omega) fun r4 G7 s7 h7 => ?_
    have s47 := (s45.trans s6).trans s7
    obtain ⟨h1, hh1⟩ := gvs_cut (gvs_same s47 _ _ hgs) none (some t)
    obtain ⟨h2, hh2⟩ := gvs_cut (gvs_same s47 _ _ hgs) (some (t + 1)) none
    have hv : Gv K G7 (.ref r4) _ := .tup h7 (by have := cut none (some t); have := cut (some (t + 1)) none; simp; omega) (gvs_app (gvs_app hh1 (.cons (gv_same s47 _ _ ho5) .nil)) hh2)
    refine ⟨_, rfl, rfl, _, rfl, iteF' rfl ?_⟩
    refine ⟨_, rfl, rfl, _, rfl, iteF' rfl ?_⟩
    refine ⟨_, rfl, rfl, _, rfl, iteF' rfl ?_⟩
    refine ⟨_, rfl, _, rfl, rfl, rfl, (.ref r4), m, _, rfl, hv, fun G1 s1 => ?_⟩
    refine ⟨_, rfl, _, rfl, (.ref r4), m, _, rfl, gv_same s1 _ _ hv, fun G2 s2 => ?_⟩
    refine ⟨.inl ⟨_, rfl⟩, _, rfl, iteF' rfl ?_⟩
    refine ⟨_, rfl, (.ref r4), 60, _, rfl, gv_same (s1.trans s2) _ _ hv, fun G3 s3 => ?_⟩
    refine ⟨_, rfl, (.ref r4), 60, _, rfl, gv_same ((s1.trans s2).trans s3) _ _ hv, fun G4 s4 => ?_⟩
    refine ⟨.inl ⟨_, rfl⟩, _, rfl, iteF' rfl ?_⟩
    have sF := s47.trans (((s1.trans s2).trans s3).trans s4)
    refine ⟨_, rfl, r, xs, k, rfl, sqt_same sF hr5, hk, fun G5 s5 => ?_⟩
    refine ⟨_, rfl, r, xs, k, rfl, sqt_same (sF.trans s5) hr5, hk, fun G6 s6 => ?_⟩
    exact ⟨.inr ⟨k, rfl⟩, q _ (C5.trans (Chg.same ((sF.trans s5).trans s6))) ((P5.keep ((sF.trans s5).trans s6)).mono (by omega))⟩
  · refine ⟨_, rfl, rfl, _, rfl, iteF' rfl ?_⟩
    refine ⟨_, rfl, rfl, _, rfl, iteT' rfl ?_⟩
    refine ⟨_, rfl, _, rfl, _, rfl, sl_any hr5 fun r1 G4 s4 h4 => ?_⟩
    refine ⟨_, rfl, _, rfl, _, _, rfl, rfl, _, rfl, sl_none (sqt_same s4 hr5) fun r3 G6 s6 h6 => ?_⟩
    refine cat_any (sqt_same s6 h4) h6 (by have := cut none (some t); have := cut (some (t + 1)) none; omega) fun r4 G7 s7 h7 => ?_
    have s47 := (s4.trans s6).trans s7
    obtain ⟨h1, hh1⟩ := gvs_cut (gvs_same s47 _ _ hgs) none (some t)
    obtain ⟨h2, hh2⟩ := gvs_cut (gvs_same s47 _ _ hgs) (some (t + 1)) none
    have hv : Gv K G7 (.ref r4) _ := .tup h7 (by have := cut none (some t); have := cut (some (t + 1)) none; simp; omega) (gvs_app hh1 hh2)
    refine ⟨_, rfl, rfl, _, rfl, iteF' rfl ?_⟩
    refine ⟨_, rfl, rfl, _, rfl, iteF' rfl ?_⟩
    refine ⟨_, rfl, _, rfl, rfl, rfl, (.ref r4), m, _, rfl, hv, fun G1 s1 => ?_⟩
    refine ⟨_, rfl, _, rfl, (.ref r4), m, _, rfl, gv_same s1 _ _ hv, fun G2 s2 => ?_⟩
    refine ⟨.inl ⟨_, rfl⟩, _, rfl, iteF' rfl ?_⟩
    refine ⟨_, rfl, (.ref r4), 60, _, rfl, gv_same (s1.trans s2) _ _ hv, fun G3 s3 => ?_⟩
    refine ⟨_, rfl, (.ref r4), 60, _, rfl, gv_same ((s1.trans s2).trans s3) _ _ hv, fun G4 s4 => ?_⟩
    refine ⟨.inl ⟨_, rfl⟩, _, rfl, iteF' rfl ?_⟩
    have sF := s47.trans (((s1.trans s2).trans s3).trans s4)
    refine ⟨_, rfl, r, xs, k, rfl, sqt_same sF hr5, hk, fun G5 s5 => ?_⟩
    refine ⟨_, rfl, r, xs, k, rfl, sqt_same (sF.trans s5) hr5, hk, fun G6 s6 => ?_⟩
    exact ⟨.inr ⟨k, rfl⟩, q _ (C5.trans (Chg.same ((sF.trans s5).trans s6))) ((P5.keep ((sF.trans s5).trans s6)).mono (by omega))⟩
  · refine ⟨_, rfl, rfl, _, rfl, iteF' rfl ?_⟩
    refine ⟨_, rfl, rfl, _, rfl, iteF' rfl ?_⟩
    refine ⟨_, rfl, rfl, _, rfl, iteT' rfl ?_⟩
    refine ⟨_, rfl, _, rfl, _, rfl, sl_any hr5 fun r1 G4 s4 h4 => ?_⟩
    refine ⟨_, rfl, by show 1 ≤ sizeLine; decide, fun t' ht => ?_⟩
    refine cat_any (sqt_same (same_upd ht) h4) (SqT.of upd_same) (by have := cut none (some t); simp; omega) fun r2 G5 s5 h5 => ?_
    have s45 := (s4.trans (same_upd (o := .tup [o]) ht)).trans s5
    refine ⟨_, rfl, _, rfl, _, rfl, sl_none (sqt_same s45 hr5) fun r3 G6 s6 h6 => ?_⟩
    refine cat_any (sqt_same s6 h5) h6 (by have := cut none (some t); have := cut (some t) none; simp; omega) fun r4 G7 s7 h7 => ?_
    have s47 := (s45.trans s6).trans s7
    obtain ⟨h1, hh1⟩ := gvs_cut (gvs_same s47 _ _ hgs) none (some t)
    obtain ⟨h2, hh2⟩ := gvs_cut (gvs_same s47 _ _ hgs) (some t) none
    have hv : Gv K G7 (.ref r4) _ := .tup h7 (by have := cut none (some t); have := cut (some t) none; simp; omega) (gvs_app (gvs_app hh1 (.cons (gv_same s47 _ _ ho5) .nil)) hh2)
    refine ⟨_, rfl, rfl, _, rfl, iteF' rfl ?_⟩
    refine ⟨_, rfl, _, rfl, rfl, rfl, (.ref r4), m, _, rfl, hv, fun G1 s1 => ?_⟩
    refine ⟨_, rfl, _, rfl, (.ref r4), m, _, rfl, gv_same s1 _ _ hv, fun G2 s2 => ?_⟩
    refine ⟨.inl ⟨_, rfl⟩, _, rfl, iteF' rfl ?_⟩
    refine ⟨_, rfl, (.ref r4), 60, _, rfl, gv_same (s1.trans s2) _ _ hv, fun G3 s3 => ?_⟩
    refine ⟨_, rfl, (.ref r4), 60, _, rfl, gv_same ((s1.trans s2).trans s3) _ _ hv, fun G4 s4 => ?_⟩
    refine ⟨.inl ⟨_, rfl⟩, _, rfl, iteF' rfl ?_⟩
    have sF := s47.trans (((s1.trans s2).trans s3).trans s4)
    refine ⟨_, rfl, r, xs, k, rfl, sqt_same sF hr5, hk, fun G5 s5 => ?_⟩
    refine ⟨_, rfl, r, xs, k, rfl, sqt_same (sF.trans s5) hr5, hk, fun G6 s6 => ?_⟩
    exact ⟨.inr ⟨k, rfl⟩, q _ (C5.trans (Chg.same ((sF.trans s5).trans s6))) ((P5.keep ((sF.trans s5).trans s6)).mono (by omega))⟩
  · refine ⟨_, rfl, rfl, _, rfl, iteF' rfl ?_⟩
    refine ⟨_, rfl, rfl, _, rfl, iteF' rfl ?_⟩
    refine ⟨_, rfl, rfl, _, rfl, iteF' rfl ?_⟩
    refine ⟨_, rfl, rfl, _, rfl, iteT' rfl ?_⟩
    refine ⟨_, rfl, _, rfl, r, xs, rfl, .inr hr5, fun b1 hb1 => ?_⟩
    have u1 := same_upd (o := .lst xs) hb1
    have x1 := sqt_same u1 hr5
    refine ⟨_, rfl, _, rfl, cat_any x1 x1 (by omega) fun r2 G4 s4 h4 => ?_⟩
    refine ⟨_, rfl, by show 1 ≤ sizeLine; decide, fun t2 ht2 => ?_⟩
    have u3 := same_upd (o := .tup [.ref r]) ht2
    have u := (u1.trans s4).trans u3
    refine ⟨by show 4 ≤ sizeLine; decide, fun D hD => ?_⟩
    have u4 := same_upd (o := .lst [o, .ref b1, .ref r2, .ref t2]) hD
    obtain ⟨v, hv, at_⟩ := at_any (xs := [o, V.ref b1, .ref r2, .ref t2]) t0 (by show t < 4; exact t1)
    have all : ∃ g, Gv K (upd (upd G4 t2 (.tup [.ref r])) D (.lst [o, .ref b1, .ref r2, .ref t2])) v g := by
      simp only [List.mem_cons, List.not_mem_nil, or_false] at hv
      rcases hv with rfl | rfl | rfl | rfl
      · exact ⟨_, gv_same (u.trans u4) _ _ ho5⟩
      · exact ⟨.lst, .lst (((s4.trans u3).trans u4) _ _ upd_same)⟩
      · exact ⟨_, .tup (sqt_same (u3.trans u4) h4) (by simp; omega) (gvs_app (gvs_same (u.trans u4) _ _ hgs) (gvs_same (u.trans u4) _ _ hgs))⟩
      · exact ⟨_, .tup (sqt_same u4 (SqT.of upd_same)) (by simp) (.cons (.tup (sqt_same (u.trans u4) hr5) (by omega) (gvs_same (u.trans u4) _ _ hgs)) .nil)⟩
    obtain ⟨g, hg⟩ := all
    refine ⟨_, rfl, D, _, _, v, rfl, rfl, SqL.of upd_same, at_, ?_⟩
    have uD := u.trans u4
    refine ⟨_, rfl, _, rfl, rfl, rfl, v, m, g, rfl, hg, fun G1 s1 => ?_⟩
    refine ⟨_, rfl, _, rfl, v, m, g, rfl, gv_same s1 _ _ hg, fun G2 s2 => ?_⟩
    refine ⟨.inl ⟨_, rfl⟩, _, rfl, iteF' rfl ?_⟩
    refine ⟨_, rfl, v, 60, g, rfl, gv_same (s1.trans s2) _ _ hg, fun G3 s3 => ?_⟩
    refine ⟨_, rfl, v, 60, g, rfl, gv_same ((s1.trans s2).trans s3) _ _ hg, fun G4 s4 => ?_⟩
    refine ⟨.inl ⟨_, rfl⟩, _, rfl, iteF' rfl ?_⟩
    have sF := uD.trans (((s1.trans s2).trans s3).trans s4)
    refine ⟨_, rfl, r, xs, k, rfl, sqt_same sF hr5, hk, fun G5 s5 => ?_⟩
    refine ⟨_, rfl, r, xs, k, rfl, sqt_same (sF.trans s5) hr5, hk, fun G6 s6 => ?_⟩
    exact ⟨.inr ⟨k, rfl⟩, q _ (C5.trans (Chg.same ((sF.trans s5).trans s6))) ((P5.keep ((sF.trans s5).trans s6)).mono (by omega))⟩
end

end G0
namespace G0
open PySem PySem.Spec PyProof.Rows L2
section
variable {P : Program} {w : World} {K : PySem.W.Frag} {mg : Str → Option Value} {base : Heap}
def spLaw (K : PySem.W.Frag) : Sp := fun vs H Q _ => ∃ (a : Addr) (ns : List Int), vs = [.ref a] ∧ SqL K H a (ns.map V.int) ∧ ns.length ≤ 63 ∧ ∀ H', Q (.bl true) H'
theorem sc_law : FnScope ["script", "feed", "turn"] ["script"] (defScope s_law) :=
  ⟨rfl, rfl, rfl, by decide +kernel, rfl, by decide +kernel, by decide +kernel⟩
theorem ok_law (F : Fn K mg "law" s_law) (T : Bl mg) (C_feed : Cal P w K mg base "_law_feed" 1 ["cells"] (spFeed K)) (C_more : Cal P w K mg base "_law_more" 1 ["feed"] spMore)
    (C_step : Cal P w K mg base "_law_step" 1 ["feed"] spStep) (C_right : Cal P w K mg base "_law_right" 9 ["feed"] spRight) : Cal P w K mg base "law" 10 ["script"] (spLaw K) := by
  refine cal_of F sc_law
    (fun _ _ _ _ _ _ us hl => match us, hl with | [_], _ => rfl) ?_ ?_
  · rintro vs H Q E ⟨a, ns, rfl, _⟩
    rfl
  rintro f cdv A outer s H vs Q E free hr ⟨a, ns, rfl, hS, hlen, q⟩
  refine ⟨_, (pss_cons (ps_set (i := 1) sc_law.nd rfl (Or.inl rfl) (pe_cal C_feed free (hr.mono (by decide)) (pa_cons (pv 0) pa_nil)))
    (pss_cons (ps_for PassesOwn.never rfl (pi_range1 (by rfl) T.range (pa_cons pe_int pa_nil)) (pg_name (i := 2) sc_law.nd rfl (Or.inl rfl))
    (pss_cons (ps_expr (pe_cal C_step free (hr.mono (by decide)) (pa_cons (pv 1) pa_nil)))
    (pss_cons (ps_if (pt_not (pt_val (pe_cal C_right free (hr.mono (by decide)) (pa_cons (pv 1) pa_nil))))
    (pss_one (ps_ret pe_bl))
    pss_nil)
    (pss_one (ps_if (pt_not (pt_val (pe_cal C_more free (hr.mono (by decide)) (pa_cons (pv 1) pa_nil))))
    (pss_one ps_break)
    pss_nil)))))
    (pss_one (ps_ret pe_bl)))), ?_⟩
  refine ⟨_, rfl, a, ns, rfl, hS, hlen, fun p c H1 s1 hp P1 hc pc => ?_⟩
  refine ⟨64, rfl, by decide, by decide, ?_⟩
  refine for_range (lo := 0) (n := 64) (fun i σ G => (∃ z, σ = [some (.ref a), some (.ref p), z]) ∧ FeedAt (i * 160) c G p ∧ CellsAt ns G c) ⟨⟨_, rfl⟩, P1, hc⟩ ?_ (fun _ _ _ => q _)
  rintro i σ G hi ⟨⟨z, rfl⟩, PG, hcG⟩
  have ib : i * 160 ≤ 64 * 160 := Nat.mul_le_mul_right _ (by omega)
  refine ⟨_, rfl, p, c, i * 160, ns, rfl, PG, hcG, fun G1 c1 P1 => ?_⟩
  have hc1 : CellsAt ns G1 c := ⟨c1 _ _ pc.symm hcG.1, hcG.2⟩
  refine ⟨_, rfl, p, c, i * 160, rfl, P1, by omega, fun G2 c2 P2 => ⟨_, rfl, iteF' rfl ?_⟩⟩
  have hc2 : CellsAt ns G2 c := ⟨c2 _ _ pc.symm hc1.1, hc1.2⟩
  refine ⟨_, rfl, p, c, i * 160 + 160, ns, rfl, P2, hc2, fun b => ⟨_, rfl, ?_⟩⟩
  cases b with
  | true => exact iteF' rfl ⟨⟨_, rfl⟩, by rw [Nat.add_mul, Nat.one_mul]; exact P2, hc2⟩
  | false => exact iteT' rfl (q _)
theorem whole15 (T : Bl mg) (L : Lc K mg) (R : Rc K w mg) (F_feed : Fn K mg "_law_feed" s_law_feed) (F_more : Fn K mg "_law_more" s_law_more) (F_step : Fn K mg "_law_step" s_law_step)
    (F_draw : Fn K mg "_law_draw" s_law_draw) (F_same : Fn K mg "_law_same" s_law_same) (F_number : Fn K mg "_law_number" s_law_number) (F_thing : Fn K mg "_law_thing" s_law_thing)
    (F_word : Fn K mg "_law_word" s_law_word) (F_letter : Fn K mg "_law_letter" s_law_letter) (F_many : Fn K mg "_law_many" s_law_many) (F_seat : Fn K mg "_law_seat" s_law_seat)
    (F_anyrow : Fn K mg "_law_any_row" s_law_any_row) (F_odd : Fn K mg "_law_odd" s_law_odd) (F_isnum : Fn K mg "_law_is_number" s_law_is_number) (F_lthing : Fn K mg "_law_is_thing" s_law_is_thing)
    (F_lletter : Fn K mg "_law_is_letter" s_law_is_letter) (F_lrow : Fn K mg "_law_is_row" s_law_is_row) (F_right : Fn K mg "_law_right" s_law_right) (F_law : Fn K mg "law" s_law)
    (F_below : Fn K mg "is_below" s_is_below) (F_isletter : Fn K mg "is_letter" s_is_letter) (F_lfault : Fn K mg "letter_fault" s_letter_fault) (F_pword : Fn K mg "_is_word" s_is_word)
    (F_pthing : Fn K mg "_is_thing" s_is_thing) (F_seatof : Fn K mg "seat_of" s_seat_of) (F_isrow : FnK K mg "is_row" s_is_row [("seats", .int 60)]) : Cal P w K mg base "law" 10 ["script"] (spLaw K) := by
  have C_draw := ok_draw (P := P) (w := w) (base := base) F_draw
  have C_number := ok_num F_number C_draw
  have C_thing := ok_things F_thing T C_draw C_number 4
  have C_word := ok_wordd F_word T C_draw
  have C_letter := ok_letterd F_letter T C_draw C_word C_thing
  have C_below := ok_below (P := P) (w := w) (base := base) F_below T
  have C_pword := ok_word (P := P) (w := w) (base := base) F_pword T L
  have C_lf := ok_fault F_lfault T C_pword (ok_isthings F_pthing T L C_below 4)
  have C_il := ok_isletter F_isletter C_lf
  have C_num := ok_isnum (P := P) (w := w) (base := base) F_isnum T
  have C_ll := ok_lletter F_lletter T (ok_lthings F_lthing T C_num 4)
  exact ok_law F_law T (ok_feed F_feed T) (ok_more F_more T) (ok_step F_step T) (ok_right F_right T C_draw (ok_many F_many C_draw) (ok_odd F_odd T C_draw) (ok_anyrow F_anyrow C_draw C_letter)
    (ok_same F_same T) (ok_isrow F_isrow T R C_below C_il) (ok_lrow F_lrow T C_num C_ll) (ok_lseat F_seat) (ok_seatof F_seatof))
end
theorem mark_of {K : PySem.W.Frag} {mg : Str → Option Value} {h : Heap} {e : Addr} {dd : Option Addr} {n : Nat} {sl : Array (Option Value)} {t : Tok} (X : K.In h) (G : h.Ns mainGlobals mg)
    (a : PySem.W.nsIn K mainGlobals "END_MARK" = some (some (.ref e))) (l : K.lookup e = some ⟨.type "tuple", dd, .seq #[.str "gone" t] n, sl⟩) :
    ∃ e, mg "END_MARK" = some (.ref e) ∧ ∀ H, SqT K H e [.str "gone"] :=
  ⟨e, PySem.W.mg_of X G a, fun _ => .inr ⟨_, _, _, l, rfl, rfl, (by show 1 ≤ sizeLine; decide), .cons ⟨_, rfl⟩ .nil⟩⟩
theorem lettered_of {K : PySem.W.Frag} {mg : Str → Option Value} {h : Heap} {e : Addr} {dd : Option Addr} {n : Nat} {sl : Array (Option Value)} {t u : Tok} (X : K.In h) (G : h.Ns mainGlobals mg)
    (a : PySem.W.nsIn K mainGlobals "LETTERED" = some (some (.ref e))) (l : K.lookup e = some ⟨.type "tuple", dd, .seq #[.str "put" t, .str "came" u] n, sl⟩) :
    ∃ e, mg "LETTERED" = some (.ref e) ∧ ∀ H, SqT K H e [.str "put", .str "came"] :=
  ⟨e, PySem.W.mg_of X G a, fun _ => .inr ⟨_, _, _, l, rfl, rfl, (by show 2 ≤ sizeLine; decide), .cons ⟨_, rfl⟩ (.cons ⟨_, rfl⟩ .nil)⟩⟩
theorem words_of {K : PySem.W.Frag} {w : World} {mg : Str → Option Value} {h : Heap} {d : Addr} {n : Nat} {h1 h2 h3 h4 h5 h6 h7 : Int} {t1 t2 t3 t4 t5 t6 t7 u1 u2 u3 u4 u5 u6 u7 : Tok} (X : K.In h) (G : h.Ns mainGlobals mg)
    (a : PySem.W.nsIn K mainGlobals "WORDS" = some (some (.ref d)))
    (l : K.lookup d = some ⟨.type "dict", none, .dict #[⟨h1, .str "ask" t1, .int 1 u1⟩, ⟨h2, .str "in" t2, .int 1 u2⟩, ⟨h3, .str "out" t3, .int 1 u3⟩, ⟨h4, .str "fell" t4, .int 1 u4⟩,
      ⟨h5, .str "put" t5, .int 2 u5⟩, ⟨h6, .str "came" t6, .int 2 u6⟩, ⟨h7, .str "gone" t7, .int 2 u7⟩] n, #[]⟩)
    (low : (d == sysModules) = false)
    (e1 : h1 = PyData.keyHash w.params "ask") (e2 : h2 = PyData.keyHash w.params "in") (e3 : h3 = PyData.keyHash w.params "out") (e4 : h4 = PyData.keyHash w.params "fell")
    (e5 : h5 = PyData.keyHash w.params "put") (e6 : h6 = PyData.keyHash w.params "came") (e7 : h7 = PyData.keyHash w.params "gone") :
    ∃ d es n, mg "WORDS" = some (.ref d) ∧ KDict K w d es n ∧ ∀ z : Str, (kindN z = none → PySem.W.nsIn K d z = some none) ∧ ∀ k, kindN z = some k → ∃ t, PySem.W.nsIn K d z = some (some (.int (k : Nat) t)) := by
  refine ⟨d, _, n, PySem.W.mg_of X G a, ⟨l, ?_, low⟩, fun z => ?_⟩
  · exact ⟨⟨_, _, rfl, e1⟩, ⟨_, _, rfl, e2⟩, ⟨_, _, rfl, e3⟩, ⟨_, _, rfl, e4⟩, ⟨_, _, rfl, e5⟩, ⟨_, _, rfl, e6⟩, ⟨_, _, rfl, e7⟩, trivial⟩
  · have ns : PySem.W.nsIn K d z = (match [(⟨h1, .str "ask" t1, .int 1 u1⟩ : DictEntry), ⟨h2, .str "in" t2, .int 1 u2⟩, ⟨h3, .str "out" t3, .int 1 u3⟩, ⟨h4, .str "fell" t4, .int 1 u4⟩,
      ⟨h5, .str "put" t5, .int 2 u5⟩, ⟨h6, .str "came" t6, .int 2 u6⟩, ⟨h7, .str "gone" t7, .int 2 u7⟩].find? (·.key.isStr z) with
      | some e => some (some e.val)
      | none => some none) := by
      unfold PySem.W.nsIn
      rw [l]
      rfl
    rw [ns]
    by_cases c1 : z = "ask"
    · subst c1; exact ⟨fun h => absurd h (by decide +kernel), fun k hk => ⟨u1, by rw [show kindN "ask" = some 1 by decide +kernel] at hk; cases hk; rfl⟩⟩
    by_cases c2 : z = "in"
    · subst c2; exact ⟨fun h => absurd h (by decide +kernel), fun k hk => ⟨u2, by rw [show kindN "in" = some 1 by decide +kernel] at hk; cases hk; rfl⟩⟩
    by_cases c3 : z = "out"
    · subst c3; exact ⟨fun h => absurd h (by decide +kernel), fun k hk => ⟨u3, by rw [show kindN "out" = some 1 by decide +kernel] at hk; cases hk; rfl⟩⟩
    by_cases c4 : z = "fell"
    · subst c4; exact ⟨fun h => absurd h (by decide +kernel), fun k hk => ⟨u4, by rw [show kindN "fell" = some 1 by decide +kernel] at hk; cases hk; rfl⟩⟩
    by_cases c5 : z = "put"
    · subst c5; exact ⟨fun h => absurd h (by decide +kernel), fun k hk => ⟨u5, by rw [show kindN "put" = some 2 by decide +kernel] at hk; cases hk; rfl⟩⟩
    by_cases c6 : z = "came"
    · subst c6; exact ⟨fun h => absurd h (by decide +kernel), fun k hk => ⟨u6, by rw [show kindN "came" = some 2 by decide +kernel] at hk; cases hk; rfl⟩⟩
    by_cases c7 : z = "gone"
    · subst c7; exact ⟨fun h => absurd h (by decide +kernel), fun k hk => ⟨u7, by rw [show kindN "gone" = some 2 by decide +kernel] at hk; cases hk; rfl⟩⟩
    have hk : kindN z = none := by simp [kindN, c1, c2, c3, c4, c5, c6, c7]
    have n1 : (("ask" : Str) == z) = false := beq_eq_false_iff_ne.mpr fun e => c1 e.symm
    have n2 : (("in" : Str) == z) = false := beq_eq_false_iff_ne.mpr fun e => c2 e.symm
    have n3 : (("out" : Str) == z) = false := beq_eq_false_iff_ne.mpr fun e => c3 e.symm
    have n4 : (("fell" : Str) == z) = false := beq_eq_false_iff_ne.mpr fun e => c4 e.symm
    have n5 : (("put" : Str) == z) = false := beq_eq_false_iff_ne.mpr fun e => c5 e.symm
    have n6 : (("came" : Str) == z) = false := beq_eq_false_iff_ne.mpr fun e => c6 e.symm
    have n7 : (("gone" : Str) == z) = false := beq_eq_false_iff_ne.mpr fun e => c7 e.symm
    refine ⟨fun _ => ?_, fun k h => by rw [hk] at h; cases h⟩
    simp only [List.find?, Value.isStr, n1, n2, n3, n4, n5, n6, n7]

end G0
namespace G0
open PySem PySem.Spec PyProof.Rows L2
theorem all_mk {P : Program} {w : World} {K : PySem.W.Frag} {h : Heap} {mg : Str → Option Value} {fa : Addr}
    {f1 : Addr} {od1 an1 : Option Addr} {sl1 : Array (Option Value)} {oc1 kV1 dc1 pm1 cd1 ct1 : Value} {f2 : Addr} {od2 an2 : Option Addr} {sl2 : Array (Option Value)} {oc2 kV2 dc2 pm2 cd2 ct2 : Value} {f3 : Addr} {od3 an3 : Option Addr} {sl3 : Array (Option Value)} {oc3 kV3 dc3 pm3 cd3 ct3 : Value} {f4 : Addr} {od4 an4 : Option Addr} {sl4 : Array (Option Value)} {oc4 kV4 dc4 pm4 cd4 ct4 : Value} {f5 : Addr} {od5 an5 : Option Addr} {sl5 : Array (Option Value)} {oc5 kV5 dc5 pm5 cd5 ct5 : Value} {f6 : Addr} {od6 an6 : Option Addr} {sl6 : Array (Option Value)} {oc6 kV6 dc6 pm6 cd6 ct6 : Value} {f7 : Addr} {od7 an7 : Option Addr} {sl7 : Array (Option Value)} {oc7 kV7 dc7 pm7 cd7 ct7 : Value} {f8 : Addr} {od8 an8 : Option Addr} {sl8 : Array (Option Value)} {oc8 kV8 dc8 pm8 cd8 ct8 : Value} {f9 : Addr} {od9 an9 : Option Addr} {sl9 : Array (Option Value)} {oc9 kV9 dc9 pm9 cd9 ct9 : Value} {f10 : Addr} {od10 an10 : Option Addr} {sl10 : Array (Option Value)} {oc10 kV10 dc10 pm10 cd10 ct10 : Value} {f11 : Addr} {od11 an11 : Option Addr} {sl11 : Array (Option Value)} {oc11 kV11 dc11 pm11 cd11 ct11 : Value} {f12 : Addr} {od12 an12 : Option Addr} {sl12 : Array (Option Value)} {oc12 kV12 dc12 pm12 cd12 ct12 : Value} {f13 : Addr} {od13 an13 : Option Addr} {sl13 : Array (Option Value)} {oc13 kV13 dc13 pm13 cd13 ct13 : Value} {f14 : Addr} {od14 an14 : Option Addr} {sl14 : Array (Option Value)} {oc14 kV14 dc14 pm14 cd14 ct14 : Value} {f15 : Addr} {od15 an15 : Option Addr} {sl15 : Array (Option Value)} {oc15 kV15 dc15 pm15 cd15 ct15 : Value} {f16 : Addr} {od16 an16 : Option Addr} {sl16 : Array (Option Value)} {oc16 kV16 dc16 pm16 cd16 ct16 : Value} {f17 : Addr} {od17 an17 : Option Addr} {sl17 : Array (Option Value)} {oc17 kV17 dc17 pm17 cd17 ct17 : Value} {f18 : Addr} {od18 an18 : Option Addr} {sl18 : Array (Option Value)} {oc18 kV18 dc18 pm18 cd18 ct18 : Value} {f19 : Addr} {od19 an19 : Option Addr} {sl19 : Array (Option Value)} {oc19 kV19 dc19 pm19 cd19 ct19 : Value} {f20 : Addr} {od20 an20 : Option Addr} {sl20 : Array (Option Value)} {oc20 kV20 dc20 pm20 cd20 ct20 : Value} {f21 : Addr} {od21 an21 : Option Addr} {sl21 : Array (Option Value)} {oc21 kV21 dc21 pm21 cd21 ct21 : Value} {f22 : Addr} {od22 an22 : Option Addr} {sl22 : Array (Option Value)} {oc22 kV22 dc22 pm22 cd22 ct22 : Value} {f23 : Addr} {od23 an23 : Option Addr} {sl23 : Array (Option Value)} {oc23 kV23 dc23 pm23 cd23 ct23 : Value} {f24 : Addr} {od24 an24 : Option Addr} {sl24 : Array (Option Value)} {oc24 kV24 dc24 pm24 cd24 ct24 : Value} {f25 : Addr} {od25 an25 : Option Addr} {sl25 : Array (Option Value)} {oc25 kV25 dc25 pm25 cd25 ct25 : Value} {t1 t2 t3 t4 t5 t6 t7 : Tok} {em el : Addr} {edd ldd : Option Addr} {en ln : Nat} {esl lsl : Array (Option Value)} {wd : Addr} {wn : Nat} {h1 : Int} {h2 : Int} {h3 : Int} {h4 : Int} {h5 : Int} {h6 : Int} {h7 : Int} {x1 y1 x2 y2 x3 y3 x4 y4 x5 y5 x6 y6 x7 y7 : Tok} {fk Dk : Addr} {odk ank : Option Addr} {slk : Array (Option Value)} {ock dck pmk cdk ctk : Value} {td : Tok}
    (X : K.In h) (G : h.Ns mainGlobals mg) (hfa : mg "law" = some (.ref fa))
    (a1 : PySem.W.nsIn K mainGlobals "_law_feed" = some (some (.ref f1)))
    (l1 : K.lookup f1 = some ⟨oc1, od1, .func (PySem.W.fnOf "_law_feed" "_law_feed" (defArgs s_law_feed) (defBody s_law_feed) (defScope s_law_feed) .none kV1 dc1 pm1 an1 cd1 ct1), sl1⟩)
    (c1 : PySem.W.codeIn K cd1 "_law_feed" = true)
    (k1 : PySem.W.keepIn K (.ref f1) = true)
    (a2 : PySem.W.nsIn K mainGlobals "_law_more" = some (some (.ref f2)))
    (l2 : K.lookup f2 = some ⟨oc2, od2, .func (PySem.W.fnOf "_law_more" "_law_more" (defArgs s_law_more) (defBody s_law_more) (defScope s_law_more) .none kV2 dc2 pm2 an2 cd2 ct2), sl2⟩)
    (c2 : PySem.W.codeIn K cd2 "_law_more" = true)
    (k2 : PySem.W.keepIn K (.ref f2) = true)
    (a3 : PySem.W.nsIn K mainGlobals "_law_step" = some (some (.ref f3)))
    (l3 : K.lookup f3 = some ⟨oc3, od3, .func (PySem.W.fnOf "_law_step" "_law_step" (defArgs s_law_step) (defBody s_law_step) (defScope s_law_step) .none kV3 dc3 pm3 an3 cd3 ct3), sl3⟩)
    (c3 : PySem.W.codeIn K cd3 "_law_step" = true)
    (k3 : PySem.W.keepIn K (.ref f3) = true)
    (a4 : PySem.W.nsIn K mainGlobals "_law_draw" = some (some (.ref f4)))
    (l4 : K.lookup f4 = some ⟨oc4, od4, .func (PySem.W.fnOf "_law_draw" "_law_draw" (defArgs s_law_draw) (defBody s_law_draw) (defScope s_law_draw) .none kV4 dc4 pm4 an4 cd4 ct4), sl4⟩)
    (c4 : PySem.W.codeIn K cd4 "_law_draw" = true)
    (k4 : PySem.W.keepIn K (.ref f4) = true)
    (a5 : PySem.W.nsIn K mainGlobals "_law_same" = some (some (.ref f5)))
    (l5 : K.lookup f5 = some ⟨oc5, od5, .func (PySem.W.fnOf "_law_same" "_law_same" (defArgs s_law_same) (defBody s_law_same) (defScope s_law_same) .none kV5 dc5 pm5 an5 cd5 ct5), sl5⟩)
    (c5 : PySem.W.codeIn K cd5 "_law_same" = true)
    (k5 : PySem.W.keepIn K (.ref f5) = true)
    (a6 : PySem.W.nsIn K mainGlobals "_law_number" = some (some (.ref f6)))
    (l6 : K.lookup f6 = some ⟨oc6, od6, .func (PySem.W.fnOf "_law_number" "_law_number" (defArgs s_law_number) (defBody s_law_number) (defScope s_law_number) .none kV6 dc6 pm6 an6 cd6 ct6), sl6⟩)
    (c6 : PySem.W.codeIn K cd6 "_law_number" = true)
    (k6 : PySem.W.keepIn K (.ref f6) = true)
    (a7 : PySem.W.nsIn K mainGlobals "_law_thing" = some (some (.ref f7)))
    (l7 : K.lookup f7 = some ⟨oc7, od7, .func (PySem.W.fnOf "_law_thing" "_law_thing" (defArgs s_law_thing) (defBody s_law_thing) (defScope s_law_thing) .none kV7 dc7 pm7 an7 cd7 ct7), sl7⟩)
    (c7 : PySem.W.codeIn K cd7 "_law_thing" = true)
    (k7 : PySem.W.keepIn K (.ref f7) = true)
    (a8 : PySem.W.nsIn K mainGlobals "_law_word" = some (some (.ref f8)))
    (l8 : K.lookup f8 = some ⟨oc8, od8, .func (PySem.W.fnOf "_law_word" "_law_word" (defArgs s_law_word) (defBody s_law_word) (defScope s_law_word) .none kV8 dc8 pm8 an8 cd8 ct8), sl8⟩)
    (c8 : PySem.W.codeIn K cd8 "_law_word" = true)
    (k8 : PySem.W.keepIn K (.ref f8) = true)
    (a9 : PySem.W.nsIn K mainGlobals "_law_letter" = some (some (.ref f9)))
    (l9 : K.lookup f9 = some ⟨oc9, od9, .func (PySem.W.fnOf "_law_letter" "_law_letter" (defArgs s_law_letter) (defBody s_law_letter) (defScope s_law_letter) .none kV9 dc9 pm9 an9 cd9 ct9), sl9⟩)
    (c9 : PySem.W.codeIn K cd9 "_law_letter" = true)
    (k9 : PySem.W.keepIn K (.ref f9) = true)
    (a10 : PySem.W.nsIn K mainGlobals "_law_many" = some (some (.ref f10)))
    (l10 : K.lookup f10 = some ⟨oc10, od10, .func (PySem.W.fnOf "_law_many" "_law_many" (defArgs s_law_many) (defBody s_law_many) (defScope s_law_many) .none kV10 dc10 pm10 an10 cd10 ct10), sl10⟩)
    (c10 : PySem.W.codeIn K cd10 "_law_many" = true)
    (k10 : PySem.W.keepIn K (.ref f10) = true)
    (a11 : PySem.W.nsIn K mainGlobals "_law_seat" = some (some (.ref f11)))
    (l11 : K.lookup f11 = some ⟨oc11, od11, .func (PySem.W.fnOf "_law_seat" "_law_seat" (defArgs s_law_seat) (defBody s_law_seat) (defScope s_law_seat) .none kV11 dc11 pm11 an11 cd11 ct11), sl11⟩)
    (c11 : PySem.W.codeIn K cd11 "_law_seat" = true)
    (k11 : PySem.W.keepIn K (.ref f11) = true)
    (a12 : PySem.W.nsIn K mainGlobals "_law_any_row" = some (some (.ref f12)))
    (l12 : K.lookup f12 = some ⟨oc12, od12, .func (PySem.W.fnOf "_law_any_row" "_law_any_row" (defArgs s_law_any_row) (defBody s_law_any_row) (defScope s_law_any_row) .none kV12 dc12 pm12 an12 cd12 ct12), sl12⟩)
    (c12 : PySem.W.codeIn K cd12 "_law_any_row" = true)
    (k12 : PySem.W.keepIn K (.ref f12) = true)
    (a13 : PySem.W.nsIn K mainGlobals "_law_odd" = some (some (.ref f13)))
    (l13 : K.lookup f13 = some ⟨oc13, od13, .func (PySem.W.fnOf "_law_odd" "_law_odd" (defArgs s_law_odd) (defBody s_law_odd) (defScope s_law_odd) .none kV13 dc13 pm13 an13 cd13 ct13), sl13⟩)
    (c13 : PySem.W.codeIn K cd13 "_law_odd" = true)
    (k13 : PySem.W.keepIn K (.ref f13) = true)
    (a14 : PySem.W.nsIn K mainGlobals "_law_is_number" = some (some (.ref f14)))
    (l14 : K.lookup f14 = some ⟨oc14, od14, .func (PySem.W.fnOf "_law_is_number" "_law_is_number" (defArgs s_law_is_number) (defBody s_law_is_number) (defScope s_law_is_number) .none kV14 dc14 pm14 an14 cd14 ct14), sl14⟩)
    (c14 : PySem.W.codeIn K cd14 "_law_is_number" = true)
    (k14 : PySem.W.keepIn K (.ref f14) = true)
    (a15 : PySem.W.nsIn K mainGlobals "_law_is_thing" = some (some (.ref f15)))
    (l15 : K.lookup f15 = some ⟨oc15, od15, .func (PySem.W.fnOf "_law_is_thing" "_law_is_thing" (defArgs s_law_is_thing) (defBody s_law_is_thing) (defScope s_law_is_thing) .none kV15 dc15 pm15 an15 cd15 ct15), sl15⟩)
    (c15 : PySem.W.codeIn K cd15 "_law_is_thing" = true)
    (k15 : PySem.W.keepIn K (.ref f15) = true)
    (a16 : PySem.W.nsIn K mainGlobals "_law_is_letter" = some (some (.ref f16)))
    (l16 : K.lookup f16 = some ⟨oc16, od16, .func (PySem.W.fnOf "_law_is_letter" "_law_is_letter" (defArgs s_law_is_letter) (defBody s_law_is_letter) (defScope s_law_is_letter) .none kV16 dc16 pm16 an16 cd16 ct16), sl16⟩)
    (c16 : PySem.W.codeIn K cd16 "_law_is_letter" = true)
    (k16 : PySem.W.keepIn K (.ref f16) = true)
    (a17 : PySem.W.nsIn K mainGlobals "_law_is_row" = some (some (.ref f17)))
    (l17 : K.lookup f17 = some ⟨oc17, od17, .func (PySem.W.fnOf "_law_is_row" "_law_is_row" (defArgs s_law_is_row) (defBody s_law_is_row) (defScope s_law_is_row) .none kV17 dc17 pm17 an17 cd17 ct17), sl17⟩)
    (c17 : PySem.W.codeIn K cd17 "_law_is_row" = true)
    (k17 : PySem.W.keepIn K (.ref f17) = true)
    (a18 : PySem.W.nsIn K mainGlobals "_law_right" = some (some (.ref f18)))
    (l18 : K.lookup f18 = some ⟨oc18, od18, .func (PySem.W.fnOf "_law_right" "_law_right" (defArgs s_law_right) (defBody s_law_right) (defScope s_law_right) .none kV18 dc18 pm18 an18 cd18 ct18), sl18⟩)
    (c18 : PySem.W.codeIn K cd18 "_law_right" = true)
    (k18 : PySem.W.keepIn K (.ref f18) = true)
    (a19 : PySem.W.nsIn K mainGlobals "law" = some (some (.ref f19)))
    (l19 : K.lookup f19 = some ⟨oc19, od19, .func (PySem.W.fnOf "law" "law" (defArgs s_law) (defBody s_law) (defScope s_law) .none kV19 dc19 pm19 an19 cd19 ct19), sl19⟩)
    (c19 : PySem.W.codeIn K cd19 "law" = true)
    (k19 : PySem.W.keepIn K (.ref f19) = true)
    (a20 : PySem.W.nsIn K mainGlobals "is_below" = some (some (.ref f20)))
    (l20 : K.lookup f20 = some ⟨oc20, od20, .func (PySem.W.fnOf "is_below" "is_below" (defArgs s_is_below) (defBody s_is_below) (defScope s_is_below) .none kV20 dc20 pm20 an20 cd20 ct20), sl20⟩)
    (c20 : PySem.W.codeIn K cd20 "is_below" = true)
    (k20 : PySem.W.keepIn K (.ref f20) = true)
    (a21 : PySem.W.nsIn K mainGlobals "is_letter" = some (some (.ref f21)))
    (l21 : K.lookup f21 = some ⟨oc21, od21, .func (PySem.W.fnOf "is_letter" "is_letter" (defArgs s_is_letter) (defBody s_is_letter) (defScope s_is_letter) .none kV21 dc21 pm21 an21 cd21 ct21), sl21⟩)
    (c21 : PySem.W.codeIn K cd21 "is_letter" = true)
    (k21 : PySem.W.keepIn K (.ref f21) = true)
    (a22 : PySem.W.nsIn K mainGlobals "letter_fault" = some (some (.ref f22)))
    (l22 : K.lookup f22 = some ⟨oc22, od22, .func (PySem.W.fnOf "letter_fault" "letter_fault" (defArgs s_letter_fault) (defBody s_letter_fault) (defScope s_letter_fault) .none kV22 dc22 pm22 an22 cd22 ct22), sl22⟩)
    (c22 : PySem.W.codeIn K cd22 "letter_fault" = true)
    (k22 : PySem.W.keepIn K (.ref f22) = true)
    (a23 : PySem.W.nsIn K mainGlobals "_is_word" = some (some (.ref f23)))
    (l23 : K.lookup f23 = some ⟨oc23, od23, .func (PySem.W.fnOf "_is_word" "_is_word" (defArgs s_is_word) (defBody s_is_word) (defScope s_is_word) .none kV23 dc23 pm23 an23 cd23 ct23), sl23⟩)
    (c23 : PySem.W.codeIn K cd23 "_is_word" = true)
    (k23 : PySem.W.keepIn K (.ref f23) = true)
    (a24 : PySem.W.nsIn K mainGlobals "_is_thing" = some (some (.ref f24)))
    (l24 : K.lookup f24 = some ⟨oc24, od24, .func (PySem.W.fnOf "_is_thing" "_is_thing" (defArgs s_is_thing) (defBody s_is_thing) (defScope s_is_thing) .none kV24 dc24 pm24 an24 cd24 ct24), sl24⟩)
    (c24 : PySem.W.codeIn K cd24 "_is_thing" = true)
    (k24 : PySem.W.keepIn K (.ref f24) = true)
    (a25 : PySem.W.nsIn K mainGlobals "seat_of" = some (some (.ref f25)))
    (l25 : K.lookup f25 = some ⟨oc25, od25, .func (PySem.W.fnOf "seat_of" "seat_of" (defArgs s_seat_of) (defBody s_seat_of) (defScope s_seat_of) .none kV25 dc25 pm25 an25 cd25 ct25), sl25⟩)
    (c25 : PySem.W.codeIn K cd25 "seat_of" = true)
    (k25 : PySem.W.keepIn K (.ref f25) = true)
    (m1 : PySem.W.nsIn K mainGlobals "LONGEST" = some (some (.int 8 t1)))
    (m2 : PySem.W.nsIn K mainGlobals "DEEPEST" = some (some (.int 4 t2)))
    (m3 : PySem.W.nsIn K mainGlobals "TOP" = some (some (.int (10 ^ 60) t3)))
    (m4 : PySem.W.nsIn K mainGlobals "SIGNS" = some (some (.str "abcdefghijklmnopqrstuvwxyz" t4)))
    (m5 : PySem.W.nsIn K mainGlobals "END_MARK" = some (some (.ref em)))
    (m6 : K.lookup em = some ⟨.type "tuple", edd, .seq #[.str "gone" t5] en, esl⟩)
    (m7 : PySem.W.nsIn K mainGlobals "LETTERED" = some (some (.ref el)))
    (m8 : K.lookup el = some ⟨.type "tuple", ldd, .seq #[.str "put" t6, .str "came" t7] ln, lsl⟩)
    (w1 : PySem.W.nsIn K mainGlobals "WORDS" = some (some (.ref wd)))
    (w2 : K.lookup wd = some ⟨.type "dict", none, .dict #[⟨h1, .str "ask" x1, .int 1 y1⟩, ⟨h2, .str "in" x2, .int 1 y2⟩, ⟨h3, .str "out" x3, .int 1 y3⟩, ⟨h4, .str "fell" x4, .int 1 y4⟩, ⟨h5, .str "put" x5, .int 2 y5⟩, ⟨h6, .str "came" x6, .int 2 y6⟩, ⟨h7, .str "gone" x7, .int 2 y7⟩] wn, #[]⟩)
    (w3 : (wd == sysModules) = false)
    (q1 : h1 = PyData.keyHash w.params "ask")
    (q2 : h2 = PyData.keyHash w.params "in")
    (q3 : h3 = PyData.keyHash w.params "out")
    (q4 : h4 = PyData.keyHash w.params "fell")
    (q5 : h5 = PyData.keyHash w.params "put")
    (q6 : h6 = PyData.keyHash w.params "came")
    (q7 : h7 = PyData.keyHash w.params "gone")
    (r1 : PySem.W.nsIn K mainGlobals "is_row" = some (some (.ref fk)))
    (r2 : K.lookup fk = some ⟨ock, odk, .func (PySem.W.fnOf "is_row" "is_row" (defArgs s_is_row) (defBody s_is_row) (defScope s_is_row) .none (.ref Dk) dck pmk ank cdk ctk), slk⟩)
    (r3 : PySem.W.codeIn K cdk "is_row" = true)
    (r4 : PySem.W.keepIn K (.ref fk) = true)
    (r5 : PySem.W.nsIn K Dk "seats" = some (some (.int 60 td)))
    (b_len : PySem.W.nsIn K mainGlobals "len" = some none)
    (b_range : PySem.W.nsIn K mainGlobals "range" = some none)
    (b_tuple : PySem.W.nsIn K mainGlobals "tuple" = some none)
    (b_list : PySem.W.nsIn K mainGlobals "list" = some none)
    (b_abs : PySem.W.nsIn K mainGlobals "abs" = some none)
    (b_int : PySem.W.nsIn K mainGlobals "int" = some none)
    (b_isinstance : PySem.W.nsIn K mainGlobals "isinstance" = some none)
    (b_bool : PySem.W.nsIn K mainGlobals "bool" = some none)
    (b_str : PySem.W.nsIn K mainGlobals "str" = some none)
    (b_all : PySem.W.nsIn K mainGlobals "all" = some none) :
    ∃ fd : FuncData, (∀ (s : Shared) (v : Value), BindsTo s fd ⟨[v], []⟩ [("script", v)]) ∧
      ∀ base : Heap, K.In base → base.Ns mainGlobals mg → FnG P w K mg base CX0 10 fa fd ["script"] (spLaw K) := by
  have F_law_feed : Fn K mg "_law_feed" s_law_feed := fn_top X G a1 l1 c1 k1
  have F_law_more : Fn K mg "_law_more" s_law_more := fn_top X G a2 l2 c2 k2
  have F_law_step : Fn K mg "_law_step" s_law_step := fn_top X G a3 l3 c3 k3
  have F_law_draw : Fn K mg "_law_draw" s_law_draw := fn_top X G a4 l4 c4 k4
  have F_law_same : Fn K mg "_law_same" s_law_same := fn_top X G a5 l5 c5 k5
  have F_law_number : Fn K mg "_law_number" s_law_number := fn_top X G a6 l6 c6 k6
  have F_law_thing : Fn K mg "_law_thing" s_law_thing := fn_top X G a7 l7 c7 k7
  have F_law_word : Fn K mg "_law_word" s_law_word := fn_top X G a8 l8 c8 k8
  have F_law_letter : Fn K mg "_law_letter" s_law_letter := fn_top X G a9 l9 c9 k9
  have F_law_many : Fn K mg "_law_many" s_law_many := fn_top X G a10 l10 c10 k10
  have F_law_seat : Fn K mg "_law_seat" s_law_seat := fn_top X G a11 l11 c11 k11
  have F_law_any_row : Fn K mg "_law_any_row" s_law_any_row := fn_top X G a12 l12 c12 k12
  have F_law_odd : Fn K mg "_law_odd" s_law_odd := fn_top X G a13 l13 c13 k13
  have F_law_is_number : Fn K mg "_law_is_number" s_law_is_number := fn_top X G a14 l14 c14 k14
  have F_law_is_thing : Fn K mg "_law_is_thing" s_law_is_thing := fn_top X G a15 l15 c15 k15
  have F_law_is_letter : Fn K mg "_law_is_letter" s_law_is_letter := fn_top X G a16 l16 c16 k16
  have F_law_is_row : Fn K mg "_law_is_row" s_law_is_row := fn_top X G a17 l17 c17 k17
  have F_law_right : Fn K mg "_law_right" s_law_right := fn_top X G a18 l18 c18 k18
  have F_law : Fn K mg "law" s_law := fn_top X G a19 l19 c19 k19
  have F_is_below : Fn K mg "is_below" s_is_below := fn_top X G a20 l20 c20 k20
  have F_is_letter : Fn K mg "is_letter" s_is_letter := fn_top X G a21 l21 c21 k21
  have F_letter_fault : Fn K mg "letter_fault" s_letter_fault := fn_top X G a22 l22 c22 k22
  have F_is_word : Fn K mg "_is_word" s_is_word := fn_top X G a23 l23 c23 k23
  have F_is_thing : Fn K mg "_is_thing" s_is_thing := fn_top X G a24 l24 c24 k24
  have F_seat_of : Fn K mg "seat_of" s_seat_of := fn_top X G a25 l25 c25 k25
  have B_len := PySem.W.mg_none_of X G b_len
  have B_range := PySem.W.mg_none_of X G b_range
  have B_tuple := PySem.W.mg_none_of X G b_tuple
  have B_list := PySem.W.mg_none_of X G b_list
  have B_abs := PySem.W.mg_none_of X G b_abs
  have B_int := PySem.W.mg_none_of X G b_int
  have B_isinstance := PySem.W.mg_none_of X G b_isinstance
  have B_bool := PySem.W.mg_none_of X G b_bool
  have B_str := PySem.W.mg_none_of X G b_str
  have B_all := PySem.W.mg_none_of X G b_all
  exact law_end F_law hfa (fun _ _ _ _ _ _ s v => .of_eq rfl) fun base _ _ => whole15 ⟨B_len, B_range, B_tuple, B_list, B_abs, B_int, B_isinstance, B_bool, B_str, B_all⟩
    ⟨⟨_, PySem.W.mg_of X G m1⟩, ⟨_, PySem.W.mg_of X G m2⟩, ⟨_, PySem.W.mg_of X G m3⟩, ⟨_, PySem.W.mg_of X G m4⟩, mark_of X G m5 m6⟩
    ⟨words_of X G w1 w2 w3 q1 q2 q3 q4 q5 q6 q7, lettered_of X G m7 m8⟩
    F_law_feed F_law_more F_law_step F_law_draw F_law_same F_law_number F_law_thing F_law_word F_law_letter F_law_many F_law_seat F_law_any_row F_law_odd F_law_is_number F_law_is_thing F_law_is_letter F_law_is_row F_law_right F_law F_is_below F_is_letter F_letter_fault F_is_word F_is_thing F_seat_of
    (fnk_top X G r1 r2 r3 r4 r5 ⟨_, rfl⟩)
end G0
open PySem PySem.W PyProof.Rows in
set_option maxRecDepth 100000 in
set_option maxHeartbeats 0 in
theorem PySem.Challenge.cw_soleseat_k15_rows_are_told_holds : PySem.Challenge.rw_soleseat_k15_rows_are_told.Holds := by
  w_on; o_law; k_head; (case hw => w_witness2)
  k_fill
  refine G0.walk_ofG (l := PySem.Challenge.rw_soleseat_k15_rows_are_told) (n := 63) (k := 10) (x := "script") (sp := G0.spLaw) rfl (by decide) rfl ⟨rfl, by decide, by decide⟩ (fun w h Y => PySem.W.kIn_of Y) ?F (fun K H a ns hl _ hS => ⟨a, ns, rfl, hS, hl, fun _ => rfl⟩)
  case F =>
    intro w mg fa h KX G hmg
    refine' G0.all_mk KX G hmg ?a1 ?l1 ?c1 ?k1 ?a2 ?l2 ?c2 ?k2 ?a3 ?l3 ?c3 ?k3 ?a4 ?l4 ?c4 ?k4 ?a5 ?l5 ?c5 ?k5 ?a6 ?l6 ?c6 ?k6 ?a7 ?l7 ?c7 ?k7 ?a8 ?l8 ?c8 ?k8 ?a9 ?l9 ?c9 ?k9 ?a10 ?l10 ?c10 ?k10 ?a11 ?l11 ?c11 ?k11 ?a12 ?l12 ?c12 ?k12 ?a13 ?l13 ?c13 ?k13 ?a14 ?l14 ?c14 ?k14 ?a15 ?l15 ?c15 ?k15 ?a16 ?l16 ?c16 ?k16 ?a17 ?l17 ?c17 ?k17 ?a18 ?l18 ?c18 ?k18 ?a19 ?l19 ?c19 ?k19 ?a20 ?l20 ?c20 ?k20 ?a21 ?l21 ?c21 ?k21 ?a22 ?l22 ?c22 ?k22 ?a23 ?l23 ?c23 ?k23 ?a24 ?l24 ?c24 ?k24 ?a25 ?l25 ?c25 ?k25 ?m1 ?m2 ?m3 ?m4 ?m5 ?m6 ?m7 ?m8 ?w1 ?w2 ?w3 ?q1 ?q2 ?q3 ?q4 ?q5 ?q6 ?q7 ?r1 ?r2 ?r3 ?r4 ?r5 ?b_len ?b_range ?b_tuple ?b_list ?b_abs ?b_int ?b_isinstance ?b_bool ?b_str ?b_all
    (case a1 => k_is)
    (case l1 => k_is)
    (case c1 => k_is)
    (case k1 => k_is)
    (case a2 => k_is)
    (case l2 => k_is)
    (case c2 => k_is)
    (case k2 => k_is)
    (case a3 => k_is)
    (case l3 => k_is)
    (case c3 => k_is)
    (case k3 => k_is)
    (case a4 => k_is)
    (case l4 => k_is)
    (case c4 => k_is)
    (case k4 => k_is)
    (case a5 => k_is)
    (case l5 => k_is)
    (case c5 => k_is)
    (case k5 => k_is)
    (case a6 => k_is)
    (case l6 => k_is)
    (case c6 => k_is)
    (case k6 => k_is)
    (case a7 => k_is)
    (case l7 => k_is)
    (case c7 => k_is)
    (case k7 => k_is)
    (case a8 => k_is)
    (case l8 => k_is)
    (case c8 => k_is)
    (case k8 => k_is)
    (case a9 => k_is)
    (case l9 => k_is)
    (case c9 => k_is)
    (case k9 => k_is)
    (case a10 => k_is)
    (case l10 => k_is)
    (case c10 => k_is)
    (case k10 => k_is)
    (case a11 => k_is)
    (case l11 => k_is)
    (case c11 => k_is)
    (case k11 => k_is)
    (case a12 => k_is)
    (case l12 => k_is)
    (case c12 => k_is)
    (case k12 => k_is)
    (case a13 => k_is)
    (case l13 => k_is)
    (case c13 => k_is)
    (case k13 => k_is)
    (case a14 => k_is)
    (case l14 => k_is)
    (case c14 => k_is)
    (case k14 => k_is)
    (case a15 => k_is)
    (case l15 => k_is)
    (case c15 => k_is)
    (case k15 => k_is)
    (case a16 => k_is)
    (case l16 => k_is)
    (case c16 => k_is)
    (case k16 => k_is)
    (case a17 => k_is)
    (case l17 => k_is)
    (case c17 => k_is)
    (case k17 => k_is)
    (case a18 => k_is)
    (case l18 => k_is)
    (case c18 => k_is)
    (case k18 => k_is)
    (case a19 => k_is)
    (case l19 => k_is)
    (case c19 => k_is)
    (case k19 => k_is)
    (case a20 => k_is)
    (case l20 => k_is)
    (case c20 => k_is)
    (case k20 => k_is)
    (case a21 => k_is)
    (case l21 => k_is)
    (case c21 => k_is)
    (case k21 => k_is)
    (case a22 => k_is)
    (case l22 => k_is)
    (case c22 => k_is)
    (case k22 => k_is)
    (case a23 => k_is)
    (case l23 => k_is)
    (case c23 => k_is)
    (case k23 => k_is)
    (case a24 => k_is)
    (case l24 => k_is)
    (case c24 => k_is)
    (case k24 => k_is)
    (case a25 => k_is)
    (case l25 => k_is)
    (case c25 => k_is)
    (case k25 => k_is)
    (case m1 => k_is)
    (case m2 => k_is)
    (case m3 => k_is)
    (case m4 => k_is)
    (case m5 => k_is)
    (case m6 => k_is)
    (case m7 => k_is)
    (case m8 => k_is)
    (case w1 => first | k_is | exact rfl | decide +kernel)
    (case w2 => first | k_is | exact rfl | decide +kernel)
    (case w3 => first | k_is | exact rfl | decide +kernel)
    (case q1 => first | k_is | exact rfl | decide +kernel)
    (case q2 => first | k_is | exact rfl | decide +kernel)
    (case q3 => first | k_is | exact rfl | decide +kernel)
    (case q4 => first | k_is | exact rfl | decide +kernel)
    (case q5 => first | k_is | exact rfl | decide +kernel)
    (case q6 => first | k_is | exact rfl | decide +kernel)
    (case q7 => first | k_is | exact rfl | decide +kernel)
    (case r1 => k_is)
    (case r2 => k_is)
    (case r3 => k_is)
    (case r4 => k_is)
    (case r5 => k_is)
    (case b_len => k_is)
    (case b_range => k_is)
    (case b_tuple => k_is)
    (case b_list => k_is)
    (case b_abs => k_is)
    (case b_int => k_is)
    (case b_isinstance => k_is)
    (case b_bool => k_is)
    (case b_str => k_is)
    (case b_all => k_is)
#print axioms PySem.Challenge.cw_soleseat_k15_rows_are_told_holds
namespace G0

end G0
