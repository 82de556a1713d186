import PyProof.Rows.All
import Wide.All
import OpenK.AllK
import Wide.FinOn
import HandS.ForMost
import HandS.Wide
import HandS.Conv
import HandS.TupAny
import HandS.Deep
import HandS.Steps
import HandS.NoneIn
import HandS.IsInst
import HandS.More
import HandS.Defaults
import PySem.Challenge.RW_soleseat_k01_letters_known
set_option Elab.async false
set_option maxRecDepth 100000
set_option maxHeartbeats 1000000
set_option linter.all false
/-! Calls where nothing is under repr around: the layer's defs, with one premise more (no guard around). -/
namespace G0
open PySem PySem.Spec PyProof.Rows L2
structure FnG (P : Program) (w : World) (K : PySem.W.Frag) (mg : Str → Option Value) (base : Heap) (CX : CXT)
    (k : Nat) (f : Addr) (fd : FuncData) (ps : List Str) (sp : Sp) : Prop where
  args : ∀ zs G R W, sp zs G R W → zs.length = ps.length
  runs : ∀ (B : Around) (around : List Env) (t : Shared) (G : Hp) (given : Args) (bound : List Value) (zs : List V) (R : VK) (W : XK),
    B.guards = some [] → Room k B → Env0 P w K mg base B around t G →
    BindsTo t fd given (ps.zip bound) → Vals zs bound → sp zs G R W →
    codeAny (model P w) B (.call (.ref f) given) (CR CX around P w G t R W) t
theorem FnG.of {P : Program} {w : World} {K : PySem.W.Frag} {mg : Str → Option Value} {base : Heap} {CX : CXT}
    {k : Nat} {f : Addr} {fd : FuncData} {ps : List Str} {sp : Sp} (F : FnOk P w K mg base CX k f fd ps sp) :
    FnG P w K mg base CX k f fd ps sp :=
  ⟨F.len, fun B around t G given bound zs R W _ hr => F.run B around t G given bound zs R W hr⟩
theorem FnG.mono {P : Program} {w : World} {K : PySem.W.Frag} {mg : Str → Option Value} {base : Heap} {CX : CXT}
    {j k : Nat} {f : Addr} {fd : FuncData} {ps : List Str} {sp : Sp} (F : FnG P w K mg base CX j f fd ps sp) (h : j ≤ k) :
    FnG P w K mg base CX k f fd ps sp :=
  ⟨F.args, fun B around t G given bound zs R W hg hr => F.runs B around t G given bound zs R W hg (hr.mono h)⟩
section
variable {X : Cx} {CX : CXT} {k : Nat} {f : Addr} {fd : FuncData} {ps : List Str} {sp : Sp}
  {dvs : List V} {ds : List Value} {E : XK} {x : Str} {p pos : Pos} {e : Expr} {es : List Expr} {t : TA}
theorem goes {pins : List (Addr × Obj)} {σ : L2.St} {H : Hp} {s : Shared} {Q : VK} {us : List Value} {vs : List V}
    (F : FnG X.prog X.w X.K X.mg X.base CX k f fd ps sp) (free : X.A.guards = some []) (hr : Room k X.A)
    (hb : Binds X.K fd ps ds) (hd : Vals dvs ds) (hx : Passes CX X E)
    (I : Inv X pins σ H s) (r : Vals vs us) (h : sp (vs ++ dvs) H Q E) :
    wpAny (model X.prog X.w) X.A (call (.ref f) us) (EP X pins σ Q) X.xe s := by
  have both : Vals (vs ++ dvs) (us ++ ds) := r.append hd
  have many : (us ++ ds).length = ps.length := both.length.symm.trans (F.args _ _ _ _ h)
  have it := F.runs X.A X.stack s H ⟨us, []⟩ (us ++ ds) (vs ++ dvs) Q E free hr I.env0 (hb s us I.kIn many) both h
  refine wpAny_call (codeAny_mono it fun out s' told => ?_)
  match out, told with
  | .error e, told => exact hx pins σ H s e s' I told
  | .ok (.ret u), told => exact I.after told
  | .ok .next, told => exact told.elim
  | .ok .brk, told => exact told.elim
  | .ok .cont, told => exact told.elim
theorem pe_callG (F : FnG X.prog X.w X.K X.mg X.base CX k f fd ps sp) (free : X.A.guards = some []) (hr : Room k X.A)
    (hg : Gl X x) (hm : X.mg x = some (.ref f)) (hk : PySem.W.keepIn X.K (.ref f) = true)
    (hb : Binds X.K fd ps ds) (hd : Vals dvs ds) (hx : Passes CX X E) (ha : PA X (e :: es) t)
    (n1 : (x == ("__debug__" : Str)) = false := by decide)
    (n2 : starEach (e :: es) X.env = (false, eval e X.env) :: starEach es X.env := by rfl)
    (n3 : (backTo pos (starEach es X.env)).any (·.1) = false := by rfl) :
    PE X (.Call (.Name x p) (e :: es) [] pos) (tCall sp dvs E t) :=
  ⟨fun pins s σ H Q I h => wpAny_Call_Name_kw (ld_glob I hg hm
    (PySem.W.callWith_K (h₀ := X.base) I.ok.mod.kin hk
      (thn (ha.run pos pins s σ H _ I h) fun us s1 ⟨vs, H1, I1, r, q⟩ =>
        ⟨I1.kIn, goes F free hr hb hd hx I1 r q⟩) n2 n3) n1)⟩
end
/-- a def's body, where nothing is under repr -/
theorem fnG_of {CX : CXT} {P : Program} {w : World} {K : PySem.W.Frag} {mg : Str → Option Value} {base : Heap} {k : Nat}
    {f : Addr} {name qual : Str} {params : Arguments} {body : List Stmt} {scope : Scope} {dV kV doc pm cdv ct oc : Value}
    {an od : Option Addr} {osl : Array (Option Value)} {N ps : List Str} {sp : Sp}
    (lk : K.lookup f = some ⟨oc, od, .func (PySem.W.fnOf name qual params body scope dV kV doc pm an cdv ct), osl⟩)
    (coded : PySem.W.codeIn K cdv qual = true) (S : FnScope N ps scope)
    (len : ∀ zs G R W, sp zs G R W → zs.length = ps.length)
    (inner : ∀ (B : Around) (around : List Env) (t : Shared) (G : Hp) (zs : List V) (R : VK) (W : XK), B.guards = some [] →
      Room k (B.deeper (envOfC qual scope t.heap.objs.size f cdv)) → sp zs G R W →
      ∃ tb, PSs (cxOf CX P w K mg base N qual scope f cdv B around t G W) body tb ∧
        tb { nx := fun _ G' => R .non G', rt := R } (start N zs) G) :
    FnG P w K mg base CX (k + 1) f (PySem.W.fnOf name qual params body scope dV kV doc pm an cdv ct) ps sp := by
  refine ⟨len, fun B around t G given bound zs R W free room e0 bd rel asked => ?_⟩
  have many := len _ _ _ _ asked
  have KX : K.In t.heap := e0.mod.kin.keeps fun b o z => (e0.bs b o z).1
  have lim : t.heap.NoLimit := e0.mod.nolimit.keeps fun b o z => (e0.bs b o z).1
  have kinds : ∀ y ∈ ps.zip bound, scope.names.lookup y.1 = some .local ∨
      (scope.names.lookup y.1 = some .cell ∧ ((cellsFrom (t.heap.objs.size + 1) scope.names []).lookup y.1).isSome = true) := by
    intro y hy
    cases S.par y.1 (List.of_mem_zip hy).1 with
    | inl q => exact .inl q
    | inr q => exact .inr ⟨q, PySem.W.cellsFrom_some _ _ _ (.inl q)⟩
  refine codeAny_call_function room.depth (KX _ _ lk) rfl S.co S.gen rfl (PySem.W.codeRec_of KX coded) (bd _ _ _ _ ?_)
  refine wpAny_newFunctionEnv_cells S.kind kinds fun env same t1 made => ?_
  subst same
  refine ⟨lim.keeps made.toInCall.keep, codeAny_func ?_⟩
  obtain ⟨tb, derived, holds⟩ := inner B around t G zs R W free (room.deeper _) asked
  have J : Inv (cxOf CX P w K mg base N qual scope f cdv B around t G W) [] (start N zs) G t1 :=
    inv_start S room.hd e0 many rel made
  refine wpAny_mono (derived.run [] t1 (start N zs) G _ J holds) (fun fl t' told => ?_) fun e t' told => told
  match fl, told with
  | .ret u, ⟨v, σ', G', J', rv, q⟩ => exact ⟨v, G', J'.os, J'.bare, J'.base, J'.hok, rv, q⟩
  | .next, ⟨σ', G', J', q⟩ => exact ⟨V.non, G', J'.os, J'.bare, J'.base, J'.hok, (rfl : Value.none = Value.none), q⟩
  | .brk, ⟨_, _, _, q⟩ => exact q.elim
  | .cont, ⟨_, _, _, q⟩ => exact q.elim
theorem okG {P : Program} {w : World} {K : PySem.W.Frag} {mg : Str → Option Value} {base : Heap} {x qual : Str} {st : Stmt}
    {f : Addr} {fd : FuncData} {N ps : List Str} {k : Nat} {sp : Sp} (F : Fun K x qual st f fd) (S : FnScope N ps (defScope st))
    (len : ∀ zs G R W, sp zs G R W → zs.length = ps.length)
    (inner : ∀ (cdv : Value) (B : Around) (around : List Env) (t : Shared) (G : Hp) (zs : List V) (R : VK) (W : XK), B.guards = some [] →
      Room k (B.deeper (envOfC qual (defScope st) t.heap.objs.size f cdv)) → sp zs G R W →
      ∃ tb, PSs (cxOf CX0 P w K mg base N qual (defScope st) f cdv B around t G W).nox (defBody st) tb ∧
        tb { nx := fun _ G' => R .non G', rt := R } (start N zs) G) :
    FnG P w K mg base CX0 (k + 1) f fd ps sp := by
  obtain ⟨oc, od, kV, doc, pm, an, cdv, ct, osl, rfl, lk, coded⟩ := F.ex
  refine fnG_of lk coded S len fun B around t G zs R W free room asked => ?_
  obtain ⟨tb, derived, holds⟩ := inner cdv B around t G zs R W free room asked
  exact ⟨tb, derived.nox, holds⟩
/-- the law's own call -/
theorem law_callG {P : Program} {w : World} {K : PySem.W.Frag} {mg mb : Str → Option Value} {CX : CXT} {k : Nat} {fa a : Addr}
    {fd : FuncData} {x : Str} {sp : Sp} {s₁ : Shared} {vs : List Value} {ns : List Int}
    (KX : K.In s₁.heap) (gl : s₁.heap.Ns mainGlobals mg) (bl : s₁.heap.Ns builtinsNs mb)
    (boot : ∀ x : Str, x ≠ "__name__" → mb x = bootBuiltins x) (lim : s₁.heap.NoLimit) (nogens : s₁.gens = #[])
    (at_ : s₁.heap.get? a = some { cls := .type "list", data := .seq vs.toArray }) (nums : IntsAre vs ns) (short : ns.length ≤ sizeLine)
    (room : Room k callerA)
    (F : ∀ base : Heap, K.In base → base.Ns mainGlobals mg → FnG P w K mg base CX k fa fd [x] sp)
    (bound : ∀ (s : Shared) (u : Value), BindsTo s fd ⟨[u], []⟩ [(x, u)])
    (asked : ∀ H : Hp, Only H → SqL K H a (ns.map V.int) → sp [.ref a] H (fun v _ => v = .bl true) fun _ _ _ => False)
    (never : ∀ H e s', CX [] H s₁ (fun _ _ _ => False) e s' → False) :
    codeAny (model P w) callerA (.call (.ref fa) ⟨[.ref a], []⟩)
      (fun r s' => r = .ok (.ret (.bool true)) ∧ OldK s₁.heap s'.heap ∧ s'.os = s₁.os ∧ AllBare s'.gens) s₁ := by
  have rel := vals_ints nums
  have many := nums.length
  have from_ : ∀ H : Hp, Only H → SqL K H a (ns.map V.int) → HOk P w H s₁.heap → (∀ b, H b ≠ none → b = a) →
      (H a ≠ none → K.lookup a = none) → codeAny (model P w) callerA (.call (.ref fa) ⟨[.ref a], []⟩)
        (fun r s' => r = .ok (.ret (.bool true)) ∧ OldK s₁.heap s'.heap ∧ s'.os = s₁.os ∧ AllBare s'.gens) s₁ := by
    intro H only seq fine one away
    have down : ∀ {b : Addr} {o : Obj}, s₁.heap.get? b = some o → H b = none →
      (hidT s₁.heap H).get? b = some o := fun e n => hidT_get e n
    have untracked : ∀ {b : Addr} {o : Obj}, s₁.heap.get? b = some o → (b = a → False) → H b = none := by
      intro b o _ n
      by_cases q : H b = none
      · exact q
      · exact (n (one b q)).elim
    have nodict : ∀ {b : Addr} {o : Obj} {es : Array DictEntry} {ep : Nat},
        s₁.heap.get? b = some o → o.data = .dict es ep → H b = none := by
      intro b o es ep e d
      refine untracked e fun q => ?_
      rw [q, at_] at e
      have e' := Option.some.inj e
      rw [← e'] at d
      have d' : Data.seq vs.toArray _ = Data.dict es ep := d
      exact absurd d' (fun h => by cases h)
    have spaces : ∀ {b : Addr} {m : Str → Option Value}, s₁.heap.Ns b m → (hidT s₁.heap H).Ns b m := by
      intro b m ns
      obtain ⟨o, es, ep, e, d, r⟩ := ns
      exact ⟨o, es, ep, down e (nodict e d), d, r⟩
    have written : K.In (hidT s₁.heap H) := by
      intro b o e
      refine down (KX b o e) ?_
      by_cases q : H b = none
      · exact q
      · have same := one b q
        rw [same] at q e
        rw [away q] at e
        cases e
    have md : Mod K mg (hidT s₁.heap H) := by
      obtain ⟨mc, h1, h2⟩ := lim
      exact ⟨written, spaces gl, ⟨mb, spaces bl, boot⟩, ⟨mc, spaces h1, h2⟩⟩
    have e0 : Env0 P w K mg (hidT s₁.heap H) callerA [] s₁ H :=
      ⟨rfl, md, fun b o e => of_hidT e, Nat.le_of_eq (hidT_size _ _), trivial,
        fun b hb => (List.not_mem_nil (show b ∈ ([] : List Addr) from hb)).elim, fine, .of_eq nogens⟩
    have it := (F _ written (spaces gl)).runs callerA [] s₁ H ⟨[.ref a], []⟩ [.ref a] [.ref a] _ _ rfl room e0
      (bound s₁ (.ref a)) (.cons rfl .nil) (asked H only seq)
    refine codeAny_mono it fun out s' told => ?_
    match out, told with
    | .error e, told => exact (never H e s' told).elim
    | .ok .next, told => exact told.elim
    | .ok .brk, told => exact told.elim
    | .ok .cont, told => exact told.elim
    | .ok (.ret u), ⟨v, H', os, bare, un, fine', r', q⟩ =>
      have q' : v = .bl true := q
      subst q'
      have u' : u = Value.bool true := r'
      subst u'
      refine ⟨rfl, OldK.of_keep fun b o e => ?_, os, bare⟩
      cases q : H b with
      | none => exact un.keep b o e q (fun z => (List.not_mem_nil (show b ∈ ([] : List Addr) from z)).elim) (List.not_mem_nil)
      | some u =>
        rcases only b with z | ⟨ob, xs, z⟩
        · have z1 := q.symm.trans z
          cases z1
        · have z' := un.frzs b ob _ z
          have e1 := (fine b _ z).1
          have e2 := (fine' b _ z').1
          exact e2.trans (e1.symm.trans e)
  cases known : K.lookup a with
  | some o =>
    have e := (KX a o known).symm.trans at_
    have e' := Option.some.inj e
    subst e'
    refine from_ (fun _ => none) (fun _ => .inl rfl) (.inr ⟨_, vs.toArray, _, known, rfl, rfl, rfl, ?_, ?_⟩)
      (fun b u z => by have z1 : (none : Option HO) = some u := z; cases z1) (fun b z => (z rfl).elim) fun z => (z rfl).elim
    · rw [List.size_toArray, many]; exact short
    · simpa using rel
  | none =>
    have self : (fun b => if b = a then some (HO.frz { cls := .type "list", data := .seq vs.toArray } (.lst (ns.map V.int))) else none) a
        = some (HO.frz { cls := .type "list", data := .seq vs.toArray } (.lst (ns.map V.int))) := if_pos rfl
    refine from_ (fun b => if b = a then some (HO.frz { cls := .type "list", data := .seq vs.toArray } (.lst (ns.map V.int))) else none)
      (fun b => ?_) (.inl (.inr ⟨_, self⟩)) (fun b u z => ?_) (fun b z => ?_) fun _ => known
    · by_cases same : b = a
      · exact .inr ⟨_, _, if_pos same⟩
      · exact .inl (if_neg same)
    · by_cases same : b = a
      · subst same
        have z' := Option.some.inj ((if_pos rfl).symm.trans z)
        subst z'
        exact ⟨at_, by rw [List.length_map]; exact short, vs, _, rel, at_⟩
      · have z1 := (if_neg same).symm.trans z
        cases z1
    · by_cases same : b = a
      · exact same
      · exact (z (if_neg same)).elim
theorem walk_ofG {l : PySem.W.OpenLaw} {n k : Nat} {q : Program} {loose : List Str} {XP : (Str → Option Value) → Heap → Prop}
    {YP : World → Heap → Prop} {d : DefRec} {K : Params → PySem.W.Frag} {sp : PySem.W.Frag → Sp} {x : Str}
    (hn : l.most = some n) (hn2 : n ≤ sizeLine) (hdf : d.params.defaults = []) (room : Room k callerA)
    (hY : ∀ (w : World) (h : Heap), YP w h → (K w.params).In h)
    (F : ∀ (w : World) (mg : Str → Option Value) (fa : Addr) (h : Heap), (K w.params).In h → h.Ns mainGlobals mg →
      mg d.name = some (.ref fa) → ∃ fd : FuncData, (∀ (s : Shared) (u : Value), BindsTo s fd ⟨[u], []⟩ [(x, u)]) ∧
        ∀ base : Heap, (K w.params).In base → base.Ns mainGlobals mg →
          FnG l.prog w (K w.params) mg base CX0 k fa fd [x] (sp (K w.params)))
    (asked : ∀ (K : PySem.W.Frag) (H : Hp) (a : Addr) (ns : List Int), ns.length ≤ n → Only H → SqL K H a (ns.map V.int) →
      sp K [.ref a] H (fun v _ => v = .bl true) fun _ _ _ => False) :
    PySem.W.WalkO q loose XP YP l.row.toRowW d [] (fun f vs => PySem.call f vs) := by
  refine Att.attach_call hn hdf fun w s₀ s₁ mg mb fa o pm cd doc a vs ns G Y ho hd hcd named obj nums few nogens => ?_
  have KX := hY w _ Y
  obtain ⟨fd, bound, all⟩ := F w mg fa _ KX G.T.g named
  exact law_callG KX G.T.g G.T.b G.T.builtins G.T.nolimit nogens obj nums (Nat.le_trans few hn2) room all bound
    (fun H only seq => asked _ H a ns few only seq) fun H e s' z => z
end G0
namespace G0
open PySem PySem.Spec PyProof.Rows L2
/-! ### a def of the module's top, by its name -/
def Fn (K : PySem.W.Frag) (mg : Str → Option Value) (x : Str) (st : Stmt) : Prop :=
  ∃ f fd, Fun K x x st f fd ∧ mg x = some (.ref f)
def Cal (P : Program) (w : World) (K : PySem.W.Frag) (mg : Str → Option Value) (base : Heap) (x : Str) (k : Nat) (ps : List Str) (sp : Sp) : Prop :=
  ∃ f fd, FnG P w K mg base CX0 k f fd ps sp ∧ Binds K fd ps [] ∧ mg x = some (.ref f) ∧ PySem.W.keepIn K (.ref f) = true ∧
    ∃ oc od osl, K.lookup f = some ⟨oc, od, .func fd, osl⟩
theorem fn_top {K : PySem.W.Frag} {h : Heap} {mg : Str → Option Value} {x : Str} {st : Stmt} {f : Addr} {oc : Value} {od an : Option Addr}
    {osl : Array (Option Value)} {kV doc pm cdv ct : Value} (X : K.In h) (G : h.Ns mainGlobals mg)
    (a : PySem.W.nsIn K mainGlobals x = some (some (.ref f)))
    (l : K.lookup f = some ⟨oc, od, .func (PySem.W.fnOf x x (defArgs st) (defBody st) (defScope st) .none kV doc pm an cdv ct), osl⟩)
    (c : PySem.W.codeIn K cdv x = true) (k : PySem.W.keepIn K (.ref f) = true) : Fn K mg x st :=
  ⟨f, _, fun_mk l c k, PySem.W.mg_of X G a⟩
/-- a method of the class at C -/
def Fm (K : PySem.W.Frag) (C : Addr) (x qual : Str) (st : Stmt) : Prop := ∃ f fd, Fun K x qual st f fd ∧ Meth K C x f
theorem fm_top {K : PySem.W.Frag} {C : Addr} {x qual : Str} {st : Stmt} {f : Addr} {oc : Value} {od an : Option Addr}
    {osl : Array (Option Value)} {kV doc pm cdv ct : Value}
    (a : PySem.W.findIn K (.ref C) x = some (some (.ref f))) (i : PySem.W.isFn K (.ref f) = true)
    (l : K.lookup f = some ⟨oc, od, .func (PySem.W.fnOf x qual (defArgs st) (defBody st) (defScope st) .none kV doc pm an cdv ct), osl⟩)
    (c : PySem.W.codeIn K cdv qual = true) (k : PySem.W.keepIn K (.ref f) = true) : Fm K C x qual st :=
  ⟨f, _, fun_mk l c k, ⟨a, i, k⟩⟩
section
variable {P : Program} {w : World} {K : PySem.W.Frag} {mg : Str → Option Value} {base : Heap}
theorem cal_of {x : Str} {st : Stmt} {N ps : List Str} {k : Nat} {sp : Sp} (F : Fn K mg x st) (S : FnScope N ps (defScope st))
    (bd : ∀ (kV doc pm : Value) (an : Option Addr) (cdv ct : Value) (us : List Value), us.length = ps.length →
      bindArgs (PySem.W.fnOf x x (defArgs st) (defBody st) (defScope st) .none kV doc pm an cdv ct) ⟨us, []⟩ = pure (ps.zip us))
    (len : ∀ zs G R W, sp zs G R W → zs.length = ps.length)
    (inner : ∀ (f : Addr) (cdv : Value) (B : Around) (around : List Env) (t : Shared) (G : Hp) (zs : List V) (R : VK) (W : XK), B.guards = some [] →
      Room k (B.deeper (envOfC x (defScope st) t.heap.objs.size f cdv)) → sp zs G R W →
      ∃ tb, PSs (cxOf CX0 P w K mg base N x (defScope st) f cdv B around t G W).nox (defBody st) tb ∧
        tb { nx := fun _ G' => R .non G', rt := R } (start N zs) G) :
    Cal P w K mg base x (k + 1) ps sp := by
  obtain ⟨f, fd, F, m⟩ := F
  obtain ⟨oc, od, kV, doc, pm, an, cdv, ct, osl, e, lk, c⟩ := id F.ex
  exact ⟨f, fd, okG F S len (inner f), F.binds bd, m, F.kp, oc, od, osl, lk⟩
theorem Cal.mono {x : Str} {j k : Nat} {ps : List Str} {sp : Sp} (C : Cal P w K mg base x j ps sp) (h : j ≤ k) : Cal P w K mg base x k ps sp := by
  obtain ⟨f, fd, F, r⟩ := C
  exact ⟨f, fd, F.mono h, r⟩
/-- the law itself, at the end -/
theorem law_end {st : Stmt} {k : Nat} {sp : Sp} {fa : Addr} (F : Fn K mg "law" st) (hm : mg "law" = some (.ref fa))
    (bt : ∀ (kV doc pm : Value) (an : Option Addr) (cdv ct : Value) (s : Shared) (v : Value),
      BindsTo s (PySem.W.fnOf "law" "law" (defArgs st) (defBody st) (defScope st) .none kV doc pm an cdv ct) ⟨[v], []⟩ [("script", v)])
    (C : ∀ base : Heap, K.In base → base.Ns mainGlobals mg → Cal P w K mg base "law" k ["script"] sp) :
    ∃ fd : FuncData, (∀ (s : Shared) (v : Value), BindsTo s fd ⟨[v], []⟩ [("script", v)]) ∧
      ∀ base : Heap, K.In base → base.Ns mainGlobals mg → FnG P w K mg base CX0 k fa fd ["script"] sp := by
  obtain ⟨f, fd, F, m⟩ := F
  obtain ⟨oc, od, kV, doc, pm, an, cdv, ct, osl, e, lk, c⟩ := id F.ex
  have ef := m.symm.trans hm
  cases ef
  refine ⟨fd, fun s v => by rw [e]; exact bt _ _ _ _ _ _ s v, fun base kin ns => ?_⟩
  obtain ⟨f', fd', G, _, m', _, oc', od', osl', lk'⟩ := C base kin ns
  have ef := m.symm.trans m'
  cases ef
  have ed := lk.symm.trans lk'
  cases ed
  exact G
end
section
variable {X : Cx} {k : Nat} {ps : List Str} {sp : Sp} {x : Str} {p pos : Pos} {e : Expr} {es : List Expr} {t : TA}
theorem pe_cal (C : Cal X.prog X.w X.K X.mg X.base x k ps sp) (free : X.A.guards = some []) (hr : Room k X.A)
    (ha : PA X (e :: es) t) (hg : Gl X x := by rfl) (n1 : (x == ("__debug__" : Str)) = false := by decide)
    (n2 : starEach (e :: es) X.env = (false, eval e X.env) :: starEach es X.env := by rfl)
    (n3 : (backTo pos (starEach es X.env)).any (·.1) = false := by rfl) (hx : Passes CX0 X E0 := by exact pass0) :
    PE X (.Call (.Name x p) (e :: es) [] pos) (tCall sp [] E0 t) := by
  obtain ⟨f, fd, F, b, m, kp, _⟩ := C
  exact pe_callG F free hr hg m kp b .nil hx ha n1 n2 n3
/-! ### repr of data -/
def rRep (K : PySem.W.Frag) : List V → Hp → VK → Prop := fun xs H Q => ∃ (x : V) (d : PyData), xs = [x] ∧ Dp K H x d ∧
  d.showable = true ∧ d.hasDict = false ∧ d.depth ≤ 64 ∧ d.shown.length ≤ sizeLine ∧ Q (.str d.shown) H
theorem call_rep (free : X.A.guards = some []) (hu : X.A.units + 66 < cLine) : CallR X (.builtin "repr") (rRep X.K) := by
  intro pins s σ H xs us Q I r h
  obtain ⟨x, d, rfl, hd, hs, hn, h64, hz, q⟩ := h
  obtain ⟨u, rfl, rx⟩ := vals1 r
  have viaRef : ∀ (a : Addr), x = .ref a → wpAny (model X.prog X.w) X.A (call (.builtin "repr") [u]) (EP X pins σ Q) X.xe s := by
    intro a e
    subst e
    obtain rfl : u = Value.ref a := rx
    obtain ⟨as, rd⟩ := Dp.reads I d _ _ hd (rfl : RelV (.ref a) (.ref a))
    exact repr_of_reads' rd hs (PyData.noDict_hsm hn) free (by omega) (fun _ _ e => e)
      (fun h' w t kp => ⟨.str d.shown, H, I.kept (t' := t) kp, ⟨_, rfl⟩, q⟩) hz
  cases hd with
  | non =>
    obtain rfl : u = Value.none := rx
    exact PySem.P.repr_of_none ⟨.str _, H, I.tok _, ⟨_, rfl⟩, by simpa only [PyData.shown] using q⟩
  | bl b =>
    obtain rfl : u = Value.bool b := rx
    exact PySem.P.repr_of_bool ⟨.str _, H, I.tok _, ⟨_, rfl⟩, by simpa only [PyData.shown] using q⟩
  | int i =>
    obtain ⟨t, rfl⟩ := rx
    exact PySem.P.repr_of_int (by simpa [PyData.showable] using hs) ⟨.str _, H, I.tok _, ⟨_, rfl⟩, by simpa only [PyData.shown] using q⟩
  | str z =>
    obtain ⟨t, rfl⟩ := rx
    exact PySem.P.repr_of_str ⟨.str _, H, I.tok _, ⟨_, rfl⟩, by simpa only [PyData.shown] using q⟩ (by simpa only [PyData.shown] using hz)
  | lst _ _ => exact viaRef _ rfl
  | tup _ _ => exact viaRef _ rfl
/-! ### operators of several kinds in one -/
theorem u_eq (hu : X.A.units + 64 < cLine) : OpR X (compareOp .Eq) (fun x y H Q => rEq x y H Q ∨ rEqD X.K x y H Q) := op_eq.or (op_eqD hu)
theorem u_ne (hu : X.A.units + 64 < cLine) : OpR X (compareOp .NotEq) (fun x y H Q => rNe x y H Q ∨ rNeD X.K x y H Q) := op_ne.or (op_neD hu)
theorem u_in : OpR X (compareOp .In) (fun x y H Q => rIn X.K false x y H Q ∨ rInS x y H Q) := op_in_seq.or op_inS
theorem u_notin : OpR X (compareOp .NotIn) (fun x y H Q => rIn X.K true x y H Q ∨ rNotInS x y H Q) := op_notIn_seq.or op_notInS
end
theorem pe_fldK {X : Cx} {e : Expr} {f : Str} {pos : Pos} {ta : TE} (K : PySem.W.Frag) (ha : PE X e ta) (hK : X.K = K := by rfl)
    (hb : attributeBase e f X.env (eval e X.env) = eval e X.env := by rfl) : PE X (.Attribute e f pos) (tFld K ta f) := by
  subst hK
  exact pe_fld ha hb
/-! ### the written part named, for what stands within a comprehension -/
theorem op_K {X : Cx} {f : Value → Value → Sem Value} (r : PySem.W.Frag → R2) (K : PySem.W.Frag) (ho : OpR X f (r X.K)) (hK : X.K = K) : OpR X f (r K) := hK ▸ ho
theorem ix_K {X : Cx} (r : PySem.W.Frag → R2) (K : PySem.W.Frag) (ho : IxR X (r X.K)) (hK : X.K = K) : IxR X (r K) := hK ▸ ho
theorem call_K {X : Cx} {f : Value} (r : PySem.W.Frag → List V → Hp → VK → Prop) (K : PySem.W.Frag) (ho : CallR X f (r X.K)) (hK : X.K = K) : CallR X f (r K) := hK ▸ ho
section
variable {X : Cx} (K : PySem.W.Frag)
theorem u_inK (hK : X.K = K := by rfl) : OpR X (compareOp .In) (fun x y H Q => rIn K false x y H Q ∨ rInS x y H Q) := op_K (fun K x y H Q => rIn K false x y H Q ∨ rInS x y H Q) K u_in hK
theorem u_notinK (hK : X.K = K := by rfl) : OpR X (compareOp .NotIn) (fun x y H Q => rIn K true x y H Q ∨ rNotInS x y H Q) := op_K (fun K x y H Q => rIn K true x y H Q ∨ rNotInS x y H Q) K u_notin hK
theorem ix_listK (hK : X.K = K := by rfl) : IxR X (rIxL K) := ix_K rIxL K ix_list hK
theorem ix_tupK (hK : X.K = K := by rfl) : IxR X (rIxT K) := ix_K rIxT K ix_tup hK
theorem ix_seqK (hK : X.K = K := by rfl) : IxR X (rIx K) := ix_K rIx K ix_seq hK
theorem call_len_seqK (hK : X.K = K := by rfl) : CallR X (.builtin "len") (fun xs H Q => ∃ p ys, xs = [.ref p] ∧ (SqL K H p ys ∨ SqT K H p ys) ∧ Q (.int ys.length) H) :=
  call_K (fun K xs H Q => ∃ p ys, xs = [.ref p] ∧ (SqL K H p ys ∨ SqT K H p ys) ∧ Q (.int ys.length) H) K call_len_seq hK
end
/-! ### what changes: one list -/
/-- all that is tracked but p stays -/
def Chg (p : Addr) (H H' : Hp) : Prop := ∀ b o, b ≠ p → H b = some o → H' b = some o
theorem Chg.refl (p : Addr) (H : Hp) : Chg p H H := fun _ _ _ e => e
theorem Chg.trans {p : Addr} {H H1 H2 : Hp} (a : Chg p H H1) (b : Chg p H1 H2) : Chg p H H2 := fun c o n e => b c o n (a c o n e)
theorem Chg.self {p : Addr} {H : Hp} {o : HO} : Chg p H (upd H p o) := fun b u n e => by rw [upd_ne n]; exact e
theorem Chg.new {p q : Addr} {H H1 : Hp} {o : HO} (a : Chg p H H1) (n : H1 q = none) : Chg p H (upd H1 q o) := fun b u m e => by
  rw [upd_ne (ne_of_none (a b u m e) n)]; exact a b u m e
theorem Chg.same {p : Addr} {H H1 : Hp} (a : Same H H1) : Chg p H H1 := fun b o _ e => a b o e
theorem same_upd {H : Hp} {q : Addr} {o : HO} (n : H q = none) : Same H (upd H q o) := fun b u e => by
  rw [upd_ne (ne_of_none e n)]; exact e
/-! ### a law's draws: the pot -/
def PotL (n : Nat) (xs : List V) : Prop := ∃ a b c : Int, xs = [.int a, .int b, .int c] ∧ 0 ≤ a ∧ 0 ≤ b ∧ b < 2305843009213693951 ∧ 0 ≤ c ∧ c ≤ n
def PotAt (n : Nat) (H : Hp) (p : Addr) : Prop := ∃ xs, H p = some (.lst xs) ∧ PotL n xs
theorem PotL.mono {n m : Nat} {xs : List V} (h : PotL n xs) (le : n ≤ m) : PotL m xs := by
  obtain ⟨a, b, c, e, h1, h2, h3, h4, h5⟩ := h
  exact ⟨a, b, c, e, h1, h2, h3, h4, by omega⟩
theorem PotAt.mono {n m : Nat} {H : Hp} {p : Addr} (h : PotAt n H p) (le : n ≤ m) : PotAt m H p := by
  obtain ⟨xs, e, h⟩ := h
  exact ⟨xs, e, h.mono le⟩
theorem PotAt.keep {n : Nat} {H H' : Hp} {p : Addr} (h : PotAt n H p) (s : Same H H') : PotAt n H' p := by
  obtain ⟨xs, e, h⟩ := h
  exact ⟨xs, s _ _ e, h⟩
theorem PotAt.at {n : Nat} {H : Hp} {p : Addr} {xs : List V} (h : PotL n xs) : PotAt n (upd H p (.lst xs)) p := ⟨xs, upd_same, h⟩
end G0
namespace G0
open PySem PySem.Spec PyProof.Rows L2
def top (i : Nat) : Stmt := PySem.Challenge.pw_soleseat_k01_letters_known.main.body.getD i (.Pass ⟨0, 0, 0, 0⟩)
abbrev s_is_below : Stmt := top 1
abbrev s_is_letter : Stmt := top 8
abbrev s_letter_fault : Stmt := top 9
abbrev s_is_word : Stmt := top 10
abbrev s_is_thing : Stmt := top 11
abbrev s_law_pot : Stmt := top 13
abbrev s_law_take : Stmt := top 14
abbrev s_law_number : Stmt := top 15
abbrev s_law_thing : Stmt := top 16
abbrev s_law_letter : Stmt := top 17
abbrev s_law_whole : Stmt := top 18
abbrev s_law_is_word : Stmt := top 19
abbrev s_law_is_part : Stmt := top 20
abbrev s_law_fault : Stmt := top 21
abbrev s_law_odd : Stmt := top 22
abbrev s_law_odd_word : Stmt := top 23
abbrev s_law_spoilt : Stmt := top 24
abbrev s_law : Stmt := top 25
section
structure Bl (mg : Str → Option Value) : Prop where
  len : mg "len" = none
  range : mg "range" = none
  max : mg "max" = none
  min : mg "min" = none
  repr : mg "repr" = none
  tuple : mg "tuple" = none
variable {P : Program} {w : World} {K : PySem.W.Frag} {mg : Str → Option Value} {base : Heap}
theorem u66 {k : Nat} {A : Around} (hr : Room k A) : A.units + 66 < cLine := by have := hr.un; omega
theorem u64 {k : Nat} {A : Around} (hr : Room k A) : A.units + 64 < cLine := by have := hr.un; omega
/-! ### _law_take -/
def spTake : Sp := fun vs H Q _ => ∃ (p : Addr) (m : Int) (xs : List V) (n : Nat), vs = [.ref p, .int m] ∧ 0 < m ∧ m.natAbs < 2 ^ 250 ∧
  H p = some (.lst xs) ∧ PotL n xs ∧ n < 1000000000 ∧ ∀ (d : Int) (ys : List V), 0 ≤ d → d < m → PotL (n + 1) ys → Q (.int d) (upd H p (.lst ys))
theorem sc_law_take : FnScope ["pot", "many", "digit", "one", "two"] ["pot", "many"] (defScope s_law_take) :=
  ⟨rfl, rfl, rfl, by decide +kernel, rfl, by decide +kernel, by decide +kernel⟩
theorem pow_lt {x : Int} (h : 0 ≤ x) (h2 : x < 2 ^ 63) : x.natAbs < 2 ^ 64 := by omega
theorem ok_take (F : Fn K mg "_law_take" s_law_take) : Cal P w K mg base "_law_take" 1 ["pot", "many"] spTake := by
  refine cal_of F sc_law_take
    (fun _ _ _ _ _ _ us hl => match us, hl with | [_, _], _ => rfl) ?_ ?_
  · rintro vs H Q E ⟨p, m, xs, n, rfl, _⟩
    rfl
  rintro f cdv A outer s H vs Q E free hr ⟨p, m, xs, n, rfl, m0, mb, hp, ⟨a, b, c, rfl, a0, b0, b1, c0, cn⟩, nn, q⟩
  have hL := SqL.of (K := K) hp
  refine ⟨_, (pss_cons (ps_if (pt_cmpR op_gt (pe_ix ix_list (pv 0) pe_int (fun _ _ => rfl)) pe_int (nomark _))
    (pss_cons (ps_set (i := 2) sc_law_take.nd rfl (Or.inl rfl) (pe_op op_mod (pe_ix ix_list (pv 0) pe_int (fun _ _ => rfl)) (pv 1)))
    (pss_cons (ps_asg (pe_op op_fdivW (pe_ix ix_list (pv 0) pe_int (fun _ _ => rfl)) (pv 1)) (pg_sub (pv 0) pe_int set_list))
    (pss_one (ps_ret (pv 2)))))
    pss_nil)
    (pss_cons (ps_asg (pe_op op_add (pe_ix ix_list (pv 0) pe_int (fun _ _ => rfl)) pe_int) (pg_sub (pv 0) pe_int set_list))
    (pss_cons (ps_set (i := 3) sc_law_take.nd rfl (Or.inl rfl) (pe_op op_mod (pe_op op_pow (pe_op op_add (pe_ix ix_list (pv 0) pe_int (fun _ _ => rfl)) (pe_op op_mul pe_int (pe_ix ix_list (pv 0) pe_int (fun _ _ => rfl)))) pe_int) pe_int))
    (pss_cons (ps_set (i := 4) sc_law_take.nd rfl (Or.inl rfl) (pe_op op_mod (pe_op op_pow (pe_op op_add (pe_op op_add (pv 3) (pe_op op_mod (pe_ix ix_list (pv 0) pe_int (fun _ _ => rfl)) pe_int)) (pe_op op_mul pe_int (pe_ix ix_list (pv 0) pe_int (fun _ _ => rfl)))) pe_int) pe_int))
    (pss_one (ps_ret (pe_op op_mod (pe_op op_fdivW (pv 4) pe_int) (pv 1)))))))), ?_⟩
  refine ⟨_, rfl, p, _, _, _, rfl, rfl, hL, rfl, _, _, rfl, rfl, _, rfl, ?_⟩
  refine ite2 (fun c1 => ?_) (fun c1 => ?_)
  · refine ⟨_, rfl, p, _, _, _, rfl, rfl, hL, rfl, _, rfl, _, _, rfl, rfl, m0, ?_⟩
    refine ⟨_, rfl, p, _, _, _, rfl, rfl, hL, rfl, _, rfl, _, _, rfl, rfl, wide_div m0 mb (by decide) (by decide), ?_⟩
    refine ⟨_, rfl, p, _, _, _, rfl, rfl, hp, rfl, ?_⟩
    refine ⟨_, rfl, ?_⟩
    refine q _ _ (Int.emod_nonneg _ (by omega)) (Int.emod_lt_of_pos _ m0) ?_
    exact ⟨_, b, c, rfl, Int.ediv_nonneg a0 (by omega), b0, b1, c0, by omega⟩
  · refine ⟨_, rfl, p, _, _, _, rfl, rfl, hL, rfl, _, _, rfl, rfl, ?_⟩
    refine ⟨_, rfl, p, _, _, _, rfl, rfl, hp, rfl, ?_⟩
    have hp' : upd H p (.lst [.int a, .int b, .int (c + 1)]) p = some (.lst [.int a, .int b, .int (c + 1)]) := upd_same
    have hL' := SqL.of (K := K) hp'
    have z1 : 0 ≤ b + 104729 * (c + 1) := by omega
    have z2 : b + 104729 * (c + 1) < 2 ^ 63 := by omega
    refine ⟨_, rfl, p, _, _, _, rfl, rfl, hL', rfl, _, rfl, p, _, _, _, rfl, rfl, hL', rfl, _, _, rfl, rfl, .inl ⟨by decide, by decide⟩, _, _, rfl, rfl,
      _, _, rfl, rfl, ⟨by decide, by decide, pow_lt z1 z2⟩, _, _, rfl, rfl, (by show (0 : Int) < 2305843009213693921; decide), ?_⟩
    generalize ho : (b + 104729 * (c + 1)) ^ (Int.toNat 3) % 2305843009213693921 = one
    have o0 : 0 ≤ one := by rw [← ho]; exact Int.emod_nonneg _ (by decide)
    have o1 : one < 2305843009213693921 := by rw [← ho]; exact Int.emod_lt_of_pos _ (by decide)
    have o2 : 0 ≤ b % 65537 := Int.emod_nonneg _ (by decide)
    have o3 : b % 65537 < 65537 := Int.emod_lt_of_pos _ (by decide)
    refine ⟨_, rfl, _, rfl, p, _, _, _, rfl, rfl, hL', rfl, _, _, rfl, rfl, (by show (0 : Int) < 65537; decide), _, _, rfl, rfl, _, rfl, p, _, _, _, rfl, rfl, hL', rfl, _, _, rfl, rfl, .inl ⟨by decide, by decide⟩, _, _, rfl, rfl,
      _, _, rfl, rfl, ⟨by decide, by decide, pow_lt (by omega) (by omega)⟩, _, _, rfl, rfl, (by show (0 : Int) < 2305843009213693907; decide), ?_⟩
    refine ⟨_, rfl, _, _, rfl, rfl, ⟨by decide, by decide⟩, _, rfl, _, _, rfl, rfl, m0, ?_⟩
    exact q _ _ (Int.emod_nonneg _ (by omega)) (Int.emod_lt_of_pos _ m0) ⟨a, b, c + 1, rfl, a0, b0, b1, by omega, by omega⟩
end

end G0
namespace G0
open PySem PySem.Spec PyProof.Rows L2
/-! ### data -/
mutual
def noL : PyData → Bool
  | .none | .bool _ | .int _ | .str _ => true
  | .list _ | .dict _ => false
  | .tuple xs => noLs xs
def noLs : List PyData → Bool
  | [] => true
  | x :: xs => noL x && noLs xs
end
section
variable {K : PySem.W.Frag} {H H' : Hp} {p : Addr}
theorem sqt_chg (hp : ∃ xs, H p = some (.lst xs)) (c : Chg p H H') {a : Addr} {xs : List V} (h : SqT K H a xs) : SqT K H' a xs := by
  obtain ⟨ys, hp⟩ := hp
  rcases h with (h | ⟨o, h⟩) | h
  · exact .inl (.inl (c _ _ (ne_of h hp (by intro z; cases z)) h))
  · exact .inl (.inr ⟨o, c _ _ (ne_of h hp (by intro z; cases z)) h⟩)
  · exact .inr h
theorem sqt_same (c : Same H H') {a : Addr} {xs : List V} (h : SqT K H a xs) : SqT K H' a xs := by
  rcases h with (h | ⟨o, h⟩) | h
  · exact .inl (.inl (c _ _ h))
  · exact .inl (.inr ⟨o, c _ _ h⟩)
  · exact .inr h
mutual
theorem dp_chg (hp : ∃ xs, H p = some (.lst xs)) (c : Chg p H H') : ∀ (d : PyData) (v : V), noL d = true → Dp K H v d → Dp K H' v d
  | .none, _, _, h => by cases h; exact .non
  | .bool _, _, _, h => by cases h; exact .bl _
  | .int _, _, _, h => by cases h; exact .int _
  | .str _, _, _, h => by cases h; exact .str _
  | .list _, _, n, _ => by simp [noL] at n
  | .dict _, _, n, _ => by simp [noL] at n
  | .tuple ds, _, n, h => by
    cases h with
    | tup hs ha => exact .tup (sqt_chg hp c hs) (dps_chg hp c ds _ (by simpa [noL] using n) ha)
theorem dps_chg (hp : ∃ xs, H p = some (.lst xs)) (c : Chg p H H') : ∀ (ds : List PyData) (vs : List V), noLs ds = true → DpAll K H vs ds → DpAll K H' vs ds
  | [], _, _, h => by cases h; exact .nil
  | d :: ds, _, n, h => by
    simp only [noLs, Bool.and_eq_true] at n
    cases h with
    | cons h1 h2 => exact .cons (dp_chg hp c d _ n.1 h1) (dps_chg hp c ds _ n.2 h2)
end
mutual
theorem dp_same (c : Same H H') : ∀ (d : PyData) (v : V), Dp K H v d → Dp K H' v d
  | .none, _, h => by cases h; exact .non
  | .bool _, _, h => by cases h; exact .bl _
  | .int _, _, h => by cases h; exact .int _
  | .str _, _, h => by cases h; exact .str _
  | .list ds, _, h => by
    cases h with
    | lst hs ha => exact .lst (c.seq hs) (dps_same c ds _ ha)
  | .dict _, _, h => by cases h
  | .tuple ds, _, h => by
    cases h with
    | tup hs ha => exact .tup (sqt_same c hs) (dps_same c ds _ ha)
theorem dps_same (c : Same H H') : ∀ (ds : List PyData) (vs : List V), DpAll K H vs ds → DpAll K H' vs ds
  | [], _, h => by cases h; exact .nil
  | d :: ds, _, h => by
    cases h with
    | cons h1 h2 => exact .cons (dp_same c d _ h1) (dps_same c ds _ h2)
end
theorem dps_app {vs ws : List V} {ds es : List PyData} : DpAll K H vs ds → DpAll K H ws es → DpAll K H (vs ++ ws) (ds ++ es) := by
  intro h g
  match vs, ds, h with
  | [], [], _ => exact g
  | _ :: _, _ :: _, .cons h1 h2 => exact .cons h1 (dps_app h2 g)
theorem dps_len {vs : List V} {ds : List PyData} : DpAll K H vs ds → vs.length = ds.length := by
  intro h
  match vs, ds, h with
  | [], [], _ => rfl
  | _ :: _, _ :: _, .cons _ h2 => exact congrArg (· + 1) (dps_len h2)
end
theorem noLs_of : ∀ {ds : List PyData}, (∀ d ∈ ds, noL d = true) → noLs ds = true
  | [], _ => rfl
  | d :: ds, h => by
    simp only [noLs, Bool.and_eq_true]
    exact ⟨h d (List.mem_cons_self ..), noLs_of fun x hx => h x (List.mem_cons_of_mem _ hx)⟩
/-! ### things and letters -/
inductive Thing : Nat → PyData → Prop
  | num {n : Nat} {i : Int} : 0 ≤ i → i < 10 ^ 60 → Thing n (.int i)
  | tup {n : Nat} {ds : List PyData} : ds.length ≤ 2 → (∀ d ∈ ds, Thing n d) → Thing (n + 1) (.tuple ds)
theorem Thing.noL {n : Nat} {d : PyData} (h : Thing n d) : noL d = true := by
  induction h with
  | num _ _ => rfl
  | tup _ _ ih =>
    simp only [G0.noL]
    exact noLs_of ih
theorem Thing.mono {n m : Nat} {d : PyData} (h : Thing n d) (le : n ≤ m) : Thing m d := by
  induction h generalizing m with
  | num a b => exact .num a b
  | tup l _ ih =>
    cases m with
    | zero => omega
    | succ m => exact .tup l fun d hd => ih d hd (by omega)
def WordOk (z : Str) : Prop := 1 ≤ z.length ∧ z.length ≤ 8 ∧ (∀ c ∈ z.cps.toList, 97 ≤ c ∧ c ≤ 122) ∧ z ≠ "gone"
def LetterD (d : PyData) : Prop := ∃ (z : Str) (ds : List PyData), d = .tuple (.str z :: ds) ∧ WordOk z ∧ ds.length ≤ 5 ∧ ∀ x ∈ ds, Thing 3 x
theorem LetterD.noL {d : PyData} (h : LetterD d) : noL d = true := by
  obtain ⟨z, ds, rfl, _, _, hd⟩ := h
  simp only [G0.noL, noLs, Bool.true_and]
  exact noLs_of fun x hx => (hd x hx).noL
theorem Chg.mut {p D : Addr} {H0 H1 : Hp} {o : HO} (a : Chg p H0 H1) (n : H0 D = none) : Chg p H0 (upd H1 D o) := fun b u m e => by
  rw [upd_ne (ne_of_none e n)]; exact a b u m e
theorem PotAt.ne {n : Nat} {H H' : Hp} {p D : Addr} {o : HO} (h : PotAt n H p) (d : p ≠ D) (e : H' = upd H D o) : PotAt n H' p := by
  obtain ⟨xs, q, r⟩ := h
  exact ⟨xs, by rw [e, upd_ne d]; exact q, r⟩
theorem PotAt.new {n : Nat} {H : Hp} {p D : Addr} {o : HO} (h : PotAt n H p) (d : H D = none) : PotAt n (upd H D o) p := h.keep (same_upd d)
theorem PotAt.neD {n : Nat} {H : Hp} {p D : Addr} (h : PotAt n H p) (d : H D = none) : p ≠ D := by
  obtain ⟨xs, q, r⟩ := h
  exact ne_of_none q d
theorem PotAt.lst {n : Nat} {H : Hp} {p : Addr} (h : PotAt n H p) : ∃ xs, H p = some (.lst xs) := by
  obtain ⟨xs, q, r⟩ := h
  exact ⟨xs, q⟩
theorem PotAt.neT {n : Nat} {H : Hp} {p t : Addr} {xs : List V} (h : PotAt n H p) (d : H t = some (.tup xs)) : t ≠ p := by
  obtain ⟨ys, q, r⟩ := h
  exact ne_of d q (by intro z; cases z)
theorem Cal.imp {P : Program} {w : World} {K : PySem.W.Frag} {mg : Str → Option Value} {base : Heap} {x : Str} {k : Nat} {ps : List Str} {sp sp' : Sp}
    (C : Cal P w K mg base x k ps sp) (h : ∀ vs H Q E, sp' vs H Q E → sp vs H Q E) : Cal P w K mg base x k ps sp' := by
  obtain ⟨f, fd, F, r⟩ := C
  exact ⟨f, fd, ⟨fun a b c d q => F.args _ _ _ _ (h _ _ _ _ q), fun A o s H args us vs Q E fr hr he hb hv hs => F.runs A o s H args us vs Q E fr hr he hb hv (h _ _ _ _ hs)⟩, r⟩
theorem cal_no {P : Program} {w : World} {K : PySem.W.Frag} {mg : Str → Option Value} {base : Heap} {x : Str} {st : Stmt} {ps : List Str} (F : Fn K mg x st)
    (bd : ∀ (kV doc pm : Value) (an : Option Addr) (cdv ct : Value) (us : List Value), us.length = ps.length →
      bindArgs (PySem.W.fnOf x x (defArgs st) (defBody st) (defScope st) .none kV doc pm an cdv ct) ⟨us, []⟩ = pure (ps.zip us)) :
    Cal P w K mg base x 0 ps (fun _ _ _ _ => False) := by
  obtain ⟨f, fd, F, m⟩ := F
  obtain ⟨oc, od, kV, doc, pm, an, cdv, ct, osl, e, lk, c⟩ := id F.ex
  exact ⟨f, fd, ⟨fun _ _ _ _ h => h.elim, fun _ _ _ _ _ _ _ _ _ _ _ _ _ _ h => h.elim⟩, F.binds bd, m, F.kp, oc, od, osl, lk⟩
/-! ### texts of small letters -/
theorem az : ∀ j : Fin 26, (("abcdefghijklmnopqrstuvwxyz" : Str).cps.toList)[j.val]? = some (97 + j.val) := by decide +kernel
theorem az_at {d : Int} (h0 : 0 ≤ d) (h1 : d < 26) : atI ("abcdefghijklmnopqrstuvwxyz" : Str).cps.toList d = some (97 + d.toNat) := by
  have e : d = ((d.toNat : Nat) : Int) := by omega
  have q := az ⟨d.toNat, by omega⟩
  rw [e]
  exact atI_nat q
def sg (c : Nat) : Str := ⟨#[c]⟩
open TL in
theorem joinL_sg : ∀ cs : List Nat, joinL [] (cs.map fun c => [c]) = cs
  | [] => rfl
  | [c] => rfl
  | c :: d :: r => by
    show [c] ++ ([] ++ joinL [] ((d :: r).map fun c => [c])) = c :: d :: r
    rw [joinL_sg (d :: r)]
    rfl
open TL in
theorem tl_of (z : Str) : tl z = z.cps.toList := rfl
open TL in
theorem join_sg (cs : List Nat) : (Txt.join "" (cs.map sg)).cps.toList = cs := by
  rw [join_eq, ← tl_of, tl_join]
  have e : (cs.map sg).map tl = cs.map fun c => [c] := by rw [List.map_map]; rfl
  rw [e]
  exact joinL_sg cs
open TL in
theorem join_sg_len (cs : List Nat) : (Txt.join "" (cs.map sg)).length = cs.length := by
  have e := congrArg List.length (join_sg cs)
  rw [← e]
  show _ = (Txt.join "" (cs.map sg)).cps.toList.length
  simp [Str.length]
theorem sum_sg : ∀ cs : List Nat, ((cs.map sg).map (·.length)).sum = cs.length
  | [] => rfl
  | c :: r => by
    show 1 + ((r.map sg).map (·.length)).sum = r.length + 1
    rw [sum_sg r]; omega

end G0
namespace G0
open PySem PySem.Spec PyProof.Rows L2
section
variable {P : Program} {w : World} {K : PySem.W.Frag} {mg : Str → Option Value} {base : Heap}
def spT : Sp := fun vs H Q _ => ∃ (p : Addr) (m : Int) (n : Nat), vs = [.ref p, .int m] ∧ 0 < m ∧ m.natAbs < 2 ^ 250 ∧ PotAt n H p ∧ n < 1000000000 ∧
  ∀ (d : Int) (H' : Hp), 0 ≤ d → d < m → Chg p H H' → PotAt (n + 1) H' p → Q (.int d) H'
theorem ok_t (F : Fn K mg "_law_take" s_law_take) : Cal P w K mg base "_law_take" 1 ["pot", "many"] spT :=
  (ok_take F).imp fun vs H Q E h => by
    obtain ⟨p, m, n, rfl, m0, m1, ⟨xs, hp, hx⟩, hn, q⟩ := h
    exact ⟨p, m, xs, n, rfl, m0, m1, hp, hx, hn, fun d ys d0 d1 hy => q d _ d0 d1 Chg.self (.at hy)⟩
/-! ### _law_pot -/
def spPot (K : PySem.W.Frag) : Sp := fun vs H Q _ => ∃ (a : Addr) (k : Int) (ns : List Int), vs = [.ref a, .int k] ∧ SqL K H a (ns.map V.int) ∧ 0 ≤ k ∧ k < 1000000 ∧
  ∀ (r : Addr) (H' : Hp), H r = none → Same H H' → PotAt 0 H' r → Q (.ref r) H'
theorem sc_law_pot : FnScope ["script", "k", "cell"] ["script", "k"] (defScope s_law_pot) :=
  ⟨rfl, rfl, rfl, by decide +kernel, rfl, by decide +kernel, by decide +kernel⟩
theorem ok_pot (F : Fn K mg "_law_pot" s_law_pot) (T : Bl mg) : Cal P w K mg base "_law_pot" 1 ["script", "k"] (spPot K) := by
  refine cal_of F sc_law_pot
    (fun _ _ _ _ _ _ us hl => match us, hl with | [_, _], _ => rfl) ?_ ?_
  · rintro vs H Q E ⟨a, k, ns, rfl, _⟩
    rfl
  rintro f cdv A outer s H vs Q E free hr ⟨a, k, ns, rfl, hS, k0, k1, q⟩
  refine ⟨_, (pss_cons (ps_set (i := 2) sc_law_pot.nd rfl (Or.inl rfl) pe_int)
    (pss_cons (ps_if (pt_cmpR op_lt (pv 1) (pe_callB call_len_seq (by rfl) T.len (by decide +kernel) (pa_cons (pv 0) pa_nil)) (nomark _))
    (pss_one (ps_set (i := 2) sc_law_pot.nd rfl (Or.inl rfl) (pe_ix ix_list (pv 0) (pv 1) (fun _ _ => rfl))))
    pss_nil)
    (pss_one (ps_ret (pe_lst (pa_cons (pe_callB (call_max2 rfl) (by rfl) T.max (by decide +kernel) (pa_cons pe_int (pa_cons (pe_op op_sub (pv 2) (pe_op op_pow pe_int pe_int)) pa_nil))) (pa_cons (pe_op op_mod (pe_op op_pow (pe_op op_add (pe_op op_add (pe_op op_mod (pv 2) pe_int) (pe_op op_mul pe_int (pv 1))) pe_int) pe_int) pe_int) (pa_cons pe_int pa_nil)))))))), ?_⟩
  -- the last row, of any cell
  have fin : ∀ c : Int, (tC (.int 0)) [] H (fun _ _ => True) → ∀ (D : Addr), H D = none →
      PotAt 0 (upd H D (.lst [.int (if c - 10 ^ 18 > 0 then c - 10 ^ 18 else 0), .int ((c % 2147483629 + 7919 * k + 1) ^ (Int.toNat 5) % 2305843009213693951), .int 0])) D := by
    intro c _ D hD
    refine .at ⟨_, _, 0, rfl, ?_, Int.emod_nonneg _ (by decide), Int.emod_lt_of_pos _ (by decide), by decide, by decide⟩
    split <;> omega
  have hl : (ns.map V.int).length = ns.length := List.length_map _
  refine ⟨_, rfl, _, rfl, a, _, rfl, .inl hS, _, _, rfl, rfl, _, rfl, ?_⟩
  have last : ∀ c : Int, 0 ≤ (c % 2147483629 + 7919 * k + 1) ∧ (c % 2147483629 + 7919 * k + 1) < 2 ^ 63 := fun c => by
    have h1 : 0 ≤ c % 2147483629 := Int.emod_nonneg _ (by decide)
    have h2 : c % 2147483629 < 2147483629 := Int.emod_lt_of_pos _ (by decide)
    omega
  refine ite2 (fun c => ?_) (fun c => ?_)
  · have c' : k < (((ns.map V.int).length : Nat) : Int) := of_decide_eq_true c
    have hk : k.toNat < ns.length := by omega
    have ek : k = ((k.toNat : Nat) : Int) := by omega
    have at_ : atI (ns.map V.int) ((k.toNat : Nat) : Int) = some (.int ns[k.toNat]) := atI_nat (by rw [List.getElem?_map, List.getElem?_eq_getElem hk] <;> rfl)
    rw [← ek] at at_
    refine ⟨_, rfl, _, rfl, a, _, _, _, rfl, rfl, hS, at_, ?_⟩
    refine ⟨_, rfl, _, _, rfl, rfl, ⟨by decide, by decide, by decide⟩, _, _, rfl, rfl, _, _, rfl, ?_⟩
    refine ⟨_, rfl, _, _, rfl, rfl, (by show (0 : Int) < 2147483629; decide), _, rfl, _, _, rfl, rfl, .inl ⟨by decide, by decide⟩, _, _, rfl, rfl, _, _, rfl, rfl,
      _, _, rfl, rfl, ⟨by decide, by decide, pow_lt (last _).1 (last _).2⟩, _, _, rfl, rfl, (by show (0 : Int) < 2305843009213693951; decide), ?_⟩
    exact ⟨(by show 3 ≤ sizeLine; decide), fun D hD => q D _ hD (same_upd hD) (fin _ trivial D hD)⟩
  · refine ⟨_, rfl, _, _, rfl, rfl, ⟨by decide, by decide, by decide⟩, _, _, rfl, rfl, _, _, rfl, ?_⟩
    refine ⟨_, rfl, _, _, rfl, rfl, (by show (0 : Int) < 2147483629; decide), _, rfl, _, _, rfl, rfl, .inl ⟨by decide, by decide⟩, _, _, rfl, rfl, _, _, rfl, rfl,
      _, _, rfl, rfl, ⟨by decide, by decide, pow_lt (last _).1 (last _).2⟩, _, _, rfl, rfl, (by show (0 : Int) < 2305843009213693951; decide), ?_⟩
    exact ⟨(by show 3 ≤ sizeLine; decide), fun D hD => q D _ hD (same_upd hD) (fin _ trivial D hD)⟩
/-! ### _law_number -/
def spNum : Sp := fun vs H Q _ => ∃ (p : Addr) (n : Nat), vs = [.ref p] ∧ PotAt n H p ∧ n < 100000000 ∧
  ∀ (i : Int) (H' : Hp), 0 ≤ i → i < 10 ^ 60 → Chg p H H' → PotAt (n + 4) H' p → Q (.int i) H'
theorem sc_law_number : FnScope ["pot", "way"] ["pot"] (defScope s_law_number) :=
  ⟨rfl, rfl, rfl, by decide +kernel, rfl, by decide +kernel, by decide +kernel⟩
theorem ok_num (F : Fn K mg "_law_number" s_law_number) (C_take : Cal P w K mg base "_law_take" 1 ["pot", "many"] spT) :
    Cal P w K mg base "_law_number" 2 ["pot"] spNum := by
  refine cal_of F sc_law_number
    (fun _ _ _ _ _ _ us hl => match us, hl with | [_], _ => rfl) ?_ ?_
  · rintro vs H Q E ⟨p, n, rfl, _⟩
    rfl
  rintro f cdv A outer s H vs Q E free hr ⟨p, n, rfl, hP, hn, q⟩
  refine ⟨_, (pss_cons (ps_set (i := 1) sc_law_number.nd rfl (Or.inl rfl) (pe_cal C_take free (hr.mono (by decide)) (pa_cons (pv 0) (pa_cons pe_int pa_nil))))
    (pss_cons (ps_if (pt_cmpR op_lt (pv 1) pe_int (nomark _))
    (pss_one (ps_ret (pe_cal C_take free (hr.mono (by decide)) (pa_cons (pv 0) (pa_cons pe_int pa_nil)))))
    pss_nil)
    (pss_one (ps_ret (pe_ix ix_list (pe_lst (pa_cons (pe_cal C_take free (hr.mono (by decide)) (pa_cons (pv 0) (pa_cons (pe_op op_pow pe_int pe_int) pa_nil))) (pa_cons (pe_cal C_take free (hr.mono (by decide)) (pa_cons (pv 0) (pa_cons (pe_op op_pow pe_int pe_int) pa_nil))) (pa_cons (pe_op op_sub (pe_op op_sub (pe_op op_pow pe_int pe_int) pe_int) (pe_cal C_take free (hr.mono (by decide)) (pa_cons (pv 0) (pa_cons pe_int pa_nil)))) pa_nil)))) (pe_op op_sub (pv 1) pe_int) (fun _ _ => rfl)))))), ?_⟩
  refine ⟨_, rfl, p, 5, n, rfl, by decide, by decide, hP, by omega, fun d H1 d0 d1 c1 P1 => ?_⟩
  refine ⟨_, rfl, _, _, rfl, rfl, _, rfl, ?_⟩
  refine ite2 (fun c => ?_) (fun c => ?_)
  · refine ⟨_, rfl, p, 10, n + 1, rfl, by decide, by decide, P1, by omega, fun e H2 e0 e1 c2 P2 => ?_⟩
    exact q e H2 e0 (by omega) (c1.trans c2) (P2.mono (by omega))
  · have cc : ¬ d < 2 := fun z => c (decide_eq_true z)
    refine ⟨_, rfl, _, _, rfl, rfl, ⟨by decide, by decide, by decide⟩, p, _, n + 1, rfl, by decide, by decide, P1, by omega, fun e2 H2 e20 e21 c2 P2 => ?_⟩
    refine ⟨_, rfl, _, _, rfl, rfl, ⟨by decide, by decide, by decide⟩, p, _, n + 2, rfl, by decide, by decide, P2, by omega, fun e3 H3 e30 e31 c3 P3 => ?_⟩
    refine ⟨_, _, rfl, rfl, ⟨by decide, by decide, by decide⟩, _, _, rfl, rfl, _, rfl, p, 2, n + 3, rfl, by decide, by decide, P3, by omega, fun e4 H4 e40 e41 c4 P4 => ?_⟩
    refine ⟨_, _, rfl, rfl, (by show 3 ≤ sizeLine; decide), fun D hD => ?_⟩
    have sel : ∃ i : Int, 0 ≤ i ∧ i < 10 ^ 60 ∧ atI [V.int e2, .int e3, .int (10 ^ (Int.toNat 60) - 1 - e4)] (d - 2) = some (.int i) := by
      have t60 : (10 : Int) ^ (Int.toNat 60) = 10 ^ 60 := rfl
      have t9 : (10 : Int) ^ (Int.toNat 9) = 10 ^ 9 := rfl
      rw [t60] at e31
      rw [t9] at e21
      have : d = 2 ∨ d = 3 ∨ d = 4 := by omega
      rcases this with rfl | rfl | rfl
      · exact ⟨e2, e20, by omega, rfl⟩
      · exact ⟨e3, e30, by omega, rfl⟩
      · exact ⟨_, (by rw [t60]; omega), (by rw [t60]; omega), rfl⟩
    obtain ⟨i, i0, i1, hi⟩ := sel
    refine ⟨_, rfl, _, _, rfl, rfl, D, _, _, _, rfl, rfl, SqL.of upd_same, hi, ?_⟩
    exact q i _ i0 i1 ((((c1.trans c2).trans c3).trans c4).new hD) (P4.new hD)
/-! ### _law_thing -/
def cst : Nat → Nat
  | 0 => 6
  | l + 1 => 2 * cst l + 2
theorem cst_ge : ∀ l, 6 ≤ cst l
  | 0 => by decide
  | l + 1 => by have := cst_ge l; show 6 ≤ 2 * cst l + 2; omega
def spThing (K : PySem.W.Frag) : Nat → Sp
  | 0 => fun _ _ _ _ => False
  | l + 1 => fun vs H Q _ => ∃ (p : Addr) (n : Nat), vs = [.ref p, .int l] ∧ l ≤ 4 ∧ PotAt n H p ∧ n + cst l < 100000000 ∧
    ∀ (v : V) (d : PyData) (H' : Hp), Dp K H' v d → Thing l d → Chg p H H' → PotAt (n + cst l) H' p → Q v H'
theorem sc_law_thing : FnScope ["pot", "left", "k"] ["pot", "left"] (defScope s_law_thing) :=
  ⟨rfl, rfl, rfl, by decide +kernel, rfl, by decide +kernel, by decide +kernel⟩
theorem ok_thing (l : Nat) (F : Fn K mg "_law_thing" s_law_thing) (T : Bl mg) (C_take : Cal P w K mg base "_law_take" 1 ["pot", "many"] spT)
    (C_number : Cal P w K mg base "_law_number" 2 ["pot"] spNum)
    (C_thing : Cal P w K mg base "_law_thing" (l + 2) ["pot", "left"] (spThing K l)) :
    Cal P w K mg base "_law_thing" (l + 1 + 2) ["pot", "left"] (spThing K (l + 1)) := by
  refine cal_of F sc_law_thing
    (fun _ _ _ _ _ _ us hl => match us, hl with | [_, _], _ => rfl) ?_ ?_
  · rintro vs H Q E ⟨p, n, rfl, _⟩
    rfl
  rintro f cdv A outer s H vs Q E free hr ⟨p, n, rfl, l4, hP, hn, q⟩
  refine ⟨_, (pss_cons (ps_if (PW.pt (pw_and (pt_cmpR op_gt (pv 1) pe_int (nomark _)) (pw_and1 (pt_cmpR op_eq (pe_cal C_take free (hr.mono (by omega)) (pa_cons (pv 0) (pa_cons pe_int pa_nil))) pe_int (nomark _)))))
    (pss_one (ps_ret (pe_callTy call_tuple_of (by rfl) T.tuple (by decide +kernel) (pa_cons (pe_lc (own := [("k", 2)]) (g := gName 2) (tt := tYes) (by rfl) sc_law_thing.nd (pi_range1 (by rfl) T.range (pa_cons (pe_cal C_take free (hr.mono (by omega)) (pa_cons (pv 0) (pa_cons pe_int pa_nil))) pa_nil)) (blkOk_by (N := ["pot", "left", "k"]) (sc := defScope s_law_thing) (by decide +kernel)) (fun _ _ _ _ _ => pg_name (i := 2) sc_law_thing.nd rfl (Or.inl rfl)) (fun _ _ _ _ _ => pts_nil) (fun _ _ _ _ _ => (pe_cal C_thing free hr (pa_cons (pv 0) (pa_cons (pe_op op_sub (pv 1) pe_int) pa_nil))))) pa_nil))))
    pss_nil)
    (pss_one (ps_ret (pe_cal C_number free (hr.mono (by omega)) (pa_cons (pv 0) pa_nil))))), ?_⟩
  have fin : ∀ (H1 : Hp) (m : Nat), Chg p H H1 → PotAt m H1 p → m + 4 ≤ n + cst l → m < 100000000 → ∀ R : VK, (∀ v H2, Q v H2 → R v H2) →
      ∃ (pp : Addr) (mm : Nat), [V.ref p] = [V.ref pp] ∧ PotAt mm H1 pp ∧ mm < 100000000 ∧ ∀ (i : Int) (H' : Hp), 0 ≤ i → i < 10 ^ 60 → Chg pp H1 H' → PotAt (mm + 4) H' pp → R (.int i) H' := by
    intro H1 m c1 P1 le lt R hR
    refine ⟨p, m, rfl, P1, lt, fun i H2 i0 i1 c2 P2 => hR _ _ ?_⟩
    exact q _ (.int i) H2 (.int i) (.num i0 i1) (c1.trans c2) (P2.mono le)
  have cl := cst_ge l
  refine ⟨_, rfl, _, _, rfl, rfl, _, rfl, ?_⟩
  refine ite2 (fun c => ?_) (fun c => ?_)
  · have c' : (0 : Int) < (l : Int) := of_decide_eq_true c
    obtain ⟨m, rfl⟩ : ∃ m, l = m + 1 := ⟨l - 1, by omega⟩
    refine ⟨_, rfl, p, 3, n, rfl, by decide, by decide, hP, by omega, fun d H1 d0 d1 c1 P1 => ?_⟩
    refine ⟨rfl, _, rfl, ?_⟩
    refine ite2 (fun e => ?_) (fun e => ?_)
    · refine ⟨_, rfl, p, 3, n + 1, rfl, by decide, by decide, P1, by omega, fun t H2 t0 t1 c2 P2 => ?_⟩
      refine ⟨_, rfl, by omega, by omega, fun D hD => ?_⟩
      have pD : p ≠ D := P2.neD hD
      have cs : cst (m + 1) = 2 * cst m + 2 := rfl
      have tn : t.toNat ≤ 2 := by omega
      refine lc_range (lo := 0) (n := t.toNat) (fun i G => ∃ (vs : List V) (ds : List PyData), G D = some (.lst vs) ∧ DpAll K G vs ds ∧ (∀ x ∈ ds, Thing m x) ∧ ds.length = i ∧
        PotAt (n + 2 + i * cst m) G p ∧ Chg p H2 G) ⟨[], [], upd_same, .nil, fun _ h => (List.not_mem_nil h).elim, rfl, (P2.new hD).mono (by omega), (Chg.refl _ _).mut hD⟩ ?_ ?_
      · rintro i G hi ⟨vs, ds, hG, hA, hT, hlen, hPG, hC⟩
        have ib : i * cst m ≤ 1 * cst m := Nat.mul_le_mul_right _ (by omega)
        refine ⟨rfl, _, rfl, _, rfl, _, _, rfl, rfl, p, n + 2 + i * cst m, (by show [V.ref p, V.int (((m + 1 : Nat) : Int) - 1)] = _; rw [show (((m + 1 : Nat) : Int) - 1) = (m : Int) by omega]), by omega, hPG, by omega, fun v d G2 hd hT2 c3 P3 => ?_⟩
        have hG2 : G2 D = some (.lst vs) := c3 _ _ pD.symm hG
        have hl := dps_len hA
        have vl : vs.length ≤ 2 := by omega
        refine ⟨vs, hG2, Nat.lt_of_le_of_lt vl (by decide), vs ++ [v], ds ++ [d], upd_same, ?_, ?_, ?_, ?_, ?_⟩
        · have a1 : DpAll K G2 (vs ++ [v]) (ds ++ [d]) := dps_app (dps_chg hPG.lst c3 ds vs (noLs_of fun x hx => (hT x hx).noL) hA) (.cons hd .nil)
          exact dps_chg ⟨vs, hG2⟩ Chg.self _ _ (noLs_of fun x hx => by
            rcases List.mem_append.mp hx with h | h
            · exact (hT x h).noL
            · rw [List.mem_singleton.mp h]; exact hT2.noL) a1
        · intro x hx
          rcases List.mem_append.mp hx with h | h
          · exact hT x h
          · rw [List.mem_singleton.mp h]; exact hT2
        · rw [List.length_append, List.length_singleton]; omega
        · refine (P3.ne pD rfl).mono ?_
          rw [Nat.add_mul, Nat.one_mul]; omega
        · exact (hC.trans c3).mut hD
      · rintro G ⟨vs, ds, hG, hA, hT, hlen, hPG, hC⟩
        refine ⟨D, vs, rfl, .inl ⟨SqL.of hG, fun t' ht => ?_⟩⟩
        have ib : t.toNat * cst m ≤ 2 * cst m := Nat.mul_le_mul_right _ (by omega)
        refine q _ (.tuple ds) _ (.tup (.inl (.inl upd_same)) (dps_same (same_upd ht) ds vs hA)) (.tup (by omega) hT) ?_ ((hPG.new ht).mono (by omega))
        exact ((c1.trans c2).trans hC).new ht
    · refine ⟨_, rfl, fin H1 (n + 1) c1 P1 (by omega) (by omega) _ fun _ _ z => z⟩
  · refine ⟨_, rfl, fin H n (Chg.refl _ _) hP (by omega) (by omega) _ fun _ _ z => z⟩
theorem ok_things (F : Fn K mg "_law_thing" s_law_thing) (T : Bl mg) (C_take : Cal P w K mg base "_law_take" 1 ["pot", "many"] spT)
    (C_number : Cal P w K mg base "_law_number" 2 ["pot"] spNum) : ∀ l, Cal P w K mg base "_law_thing" (l + 2) ["pot", "left"] (spThing K l)
  | 0 => (cal_no F (fun _ _ _ _ _ _ us hl => match us, hl with | [_, _], _ => rfl) ).mono (by decide)
  | l + 1 => ok_thing l F T C_take C_number (ok_things F T C_take C_number l)
/-! ### _law_letter -/
def spLetter (K : PySem.W.Frag) : Sp := fun vs H Q _ => ∃ (p : Addr) (most : Int) (n : Nat), vs = [.ref p, .int most] ∧ 0 ≤ most ∧ most ≤ 5 ∧ PotAt n H p ∧ n < 1000000 ∧
  ∀ (v : V) (d : PyData) (H' : Hp), Dp K H' v d → LetterD d → Chg p H H' → PotAt (n + 330) H' p → Q v H'
theorem sc_law_letter : FnScope ["pot", "most", "letters", "word", "k"] ["pot", "most"] (defScope s_law_letter) :=
  ⟨rfl, rfl, rfl, by decide +kernel, rfl, by decide +kernel, by decide +kernel⟩
theorem at1248 {d : Int} (h0 : 0 ≤ d) (h1 : d < 4) : ∃ j : Int, 1 ≤ j ∧ j ≤ 8 ∧ atI [V.int 1, .int 2, .int 4, .int 8] d = some (.int j) := by
  have : d = 0 ∨ d = 1 ∨ d = 2 ∨ d = 3 := by omega
  rcases this with rfl | rfl | rfl | rfl
  · exact ⟨1, by decide, by decide, rfl⟩
  · exact ⟨2, by decide, by decide, rfl⟩
  · exact ⟨4, by decide, by decide, rfl⟩
  · exact ⟨8, by decide, by decide, rfl⟩
theorem ok_letter (F : Fn K mg "_law_letter" s_law_letter) (T : Bl mg) (C_take : Cal P w K mg base "_law_take" 1 ["pot", "many"] spT)
    (C_thing : Cal P w K mg base "_law_thing" 6 ["pot", "left"] (spThing K 4)) : Cal P w K mg base "_law_letter" 7 ["pot", "most"] (spLetter K) := by
  refine cal_of F sc_law_letter
    (fun _ _ _ _ _ _ us hl => match us, hl with | [_, _], _ => rfl) ?_ ?_
  · rintro vs H Q E ⟨p, m, n, rfl, _⟩
    rfl
  rintro f cdv A outer s H vs Q E free hr ⟨p, most, n, rfl, m0, m3, hP, hn, q⟩
  refine ⟨_, (pss_cons (ps_set (i := 2) sc_law_letter.nd rfl (Or.inr rfl) pe_str)
    (pss_cons (ps_set (i := 3) sc_law_letter.nd rfl (Or.inl rfl) (pe_join pe_str (pe_lc (own := [("k", 4)]) (g := gName 4) (tt := tYes) (by rfl) sc_law_letter.nd (pi_range1 (by rfl) T.range (pa_cons (pe_ix ix_list (pe_lst (pa_cons pe_int (pa_cons pe_int (pa_cons pe_int (pa_cons pe_int pa_nil))))) (pe_cal C_take free (hr.mono (by decide)) (pa_cons (pv 0) (pa_cons pe_int pa_nil))) (fun _ _ => rfl)) pa_nil)) (blkOk_by (N := ["pot", "most", "letters", "word", "k"]) (sc := defScope s_law_letter) (by decide +kernel)) (fun _ _ _ _ _ => pg_name (i := 4) sc_law_letter.nd rfl (Or.inl rfl)) (fun _ _ _ _ _ => pts_nil) (fun _ _ _ _ _ => (pe_ix ix_str (pv 2) (pe_cal C_take free (hr.mono (by decide)) (pa_cons (pv 0) (pa_cons pe_int pa_nil))) (fun _ _ => rfl))))))
    (pss_cons (ps_if (pt_cmpR op_eq (pv 3) pe_str (nomark _))
    (pss_one (ps_set (i := 3) sc_law_letter.nd rfl (Or.inl rfl) pe_str))
    pss_nil)
    (pss_one (ps_ret (pe_op op_catA (pe_tup (pa_cons (pv 3) pa_nil)) (pe_callTy call_tuple_of (by rfl) T.tuple (by decide +kernel) (pa_cons (pe_lc (own := [("k", 4)]) (g := gName 4) (tt := tYes) (by rfl) sc_law_letter.nd (pi_range1 (by rfl) T.range (pa_cons (pe_cal C_take free (hr.mono (by decide)) (pa_cons (pv 0) (pa_cons (pe_op op_add (pv 1) pe_int) pa_nil))) pa_nil)) (blkOk_by (N := ["pot", "most", "letters", "word", "k"]) (sc := defScope s_law_letter) (by decide +kernel)) (fun _ _ _ _ _ => pg_name (i := 4) sc_law_letter.nd rfl (Or.inl rfl)) (fun _ _ _ _ _ => pts_nil) (fun _ _ _ _ _ => (pe_cal C_thing free (hr.mono (by decide)) (pa_cons (pv 0) (pa_cons pe_int pa_nil))))) pa_nil)))))))), ?_⟩
  refine ⟨⟨_, rfl⟩, by show 4 ≤ sizeLine; decide, fun L hL => ?_⟩
  have hPL := hP.new (o := .lst [.int 1, .int 2, .int 4, .int 8]) hL
  have cL : Chg p H (upd H L (.lst [.int 1, .int 2, .int 4, .int 8])) := (Chg.refl _ _).new hL
  refine ⟨_, rfl, p, 4, n, rfl, by decide, by decide, hPL, by omega, fun d H1 d0 d1 c1 P1 => ?_⟩
  obtain ⟨j, j1, j8, hj⟩ := at1248 d0 d1
  refine ⟨L, _, _, _, rfl, rfl, SqL.of (c1 _ _ (hP.neD hL).symm upd_same), hj, ?_⟩
  refine ⟨_, rfl, by omega, by omega, fun D hD => ?_⟩
  have pD : p ≠ D := P1.neD hD
  refine lc_range (lo := 0) (n := j.toNat) (fun i G => ∃ cs : List Nat, G D = some (.lst ((cs.map sg).map V.str)) ∧ cs.length = i ∧ (∀ c ∈ cs, 97 ≤ c ∧ c ≤ 122) ∧
    PotAt (n + 1 + i) G p ∧ Chg p H1 G) ⟨[], upd_same, rfl, fun _ h => (List.not_mem_nil h).elim, (P1.new hD).mono (by omega), (Chg.refl _ _).mut hD⟩ ?_ ?_
  · rintro i G hi ⟨cs, hG, hlen, hc, hPG, hC⟩
    refine ⟨rfl, _, rfl, _, rfl, p, 26, n + 1 + i, rfl, by decide, by decide, hPG, by omega, fun e G2 e0 e1 c2 P2 => ?_⟩
    have hG2 : G2 D = some (.lst ((cs.map sg).map V.str)) := c2 _ _ pD.symm hG
    refine ⟨_, _, _, rfl, rfl, by decide, az_at e0 e1, _, hG2, ?_, cs ++ [97 + e.toNat], ?_, ?_, ?_, ?_, ?_⟩
    · rw [List.length_map, List.length_map]
      exact Nat.lt_of_lt_of_le (show cs.length < 8 by omega) (by decide)
    · rw [upd_same, List.map_append, List.map_append]; rfl
    · rw [List.length_append, List.length_singleton]; omega
    · intro c hc'
      rcases List.mem_append.mp hc' with h | h
      · exact hc c h
      · rw [List.mem_singleton.mp h]; omega
    · exact (P2.ne pD rfl).mono (by omega)
    · exact (hC.trans c2).mut hD
  · rintro G ⟨cs, hG, hlen, hc, hPG, hC⟩
    have c3 : Chg p H G := (cL.trans c1).trans hC
    refine ⟨_, D, cs.map sg, rfl, rfl, .inl (SqL.of hG), ?_, ?_⟩
    · rw [sum_sg, List.length_map]
      show cs.length + cs.length * 0 ≤ 16777216
      omega
    -- behind the word
    have hz : (Txt.join "" (cs.map sg)).length = cs.length := join_sg_len cs
    have hzc := join_sg cs
    generalize Txt.join "" (cs.map sg) = z at hz hzc
    refine ⟨_, rfl, rfl, _, rfl, ?_⟩
    have wgo : WordOk "go" := by
      refine ⟨by decide, by decide, by decide, by decide⟩
    have wz : ¬ (decide (V.str z = V.str "gone") = true) → WordOk z := fun c =>
      ⟨by omega, by omega, by rw [hzc]; exact hc, fun e => c (decide_eq_true (congrArg V.str e))⟩
    refine ite2 (fun c => have hw := wgo; ?_) (fun c => have hw := wz c; ?_)
    all_goals
      refine ⟨_, rfl, by show 1 ≤ sizeLine; decide, fun t ht => ?_⟩
      have hPt := fun (o : HO) => hPG.new (o := o) ht
      have tp : t ≠ p := (hPG.neD ht).symm
      refine ⟨_, rfl, _, rfl, _, _, rfl, rfl, p, most + 1, _, rfl, by omega, by omega, hPt _, by omega, fun m G1 g0 g1 c4 P4 => ?_⟩
      refine ⟨_, rfl, by omega, by omega, fun D2 hD2 => ?_⟩
      have pD2 : p ≠ D2 := P4.neD hD2
      refine lc_range (lo := 0) (n := m.toNat) (fun i G => ∃ (vs : List V) (ds : List PyData), G D2 = some (.lst vs) ∧ DpAll K G vs ds ∧ (∀ x ∈ ds, Thing 3 x) ∧ ds.length = i ∧
        PotAt (n + 10 + i * 62) G p ∧ Chg p G1 G) ⟨[], [], upd_same, .nil, fun _ h => (List.not_mem_nil h).elim, rfl, (P4.new hD2).mono (by omega), (Chg.refl _ _).mut hD2⟩ ?_ ?_
      · rintro i G2 hi ⟨vs, ds, hG2, hA, hT, hlen2, hPG2, hC2⟩
        have ib : i * 62 ≤ 4 * 62 := Nat.mul_le_mul_right _ (by omega)
        refine ⟨rfl, _, rfl, p, n + 10 + i * 62, rfl, by decide, hPG2, (by show n + 10 + i * 62 + 62 < 100000000; omega), fun v d G3 hd hT2 c5 P5 => ?_⟩
        have hG3 : G3 D2 = some (.lst vs) := c5 _ _ pD2.symm hG2
        have hl := dps_len hA
        have vl : vs.length ≤ 6 := by omega
        refine ⟨vs, hG3, Nat.lt_of_le_of_lt vl (by decide), vs ++ [v], ds ++ [d], upd_same, ?_, ?_, ?_, ?_, ?_⟩
        · have a1 : DpAll K G3 (vs ++ [v]) (ds ++ [d]) := dps_app (dps_chg hPG2.lst c5 ds vs (noLs_of fun x hx => (hT x hx).noL) hA) (.cons hd .nil)
          exact dps_chg ⟨vs, hG3⟩ Chg.self _ _ (noLs_of fun x hx => by
            rcases List.mem_append.mp hx with h | h
            · exact (hT x h).noL
            · rw [List.mem_singleton.mp h]; exact hT2.noL) a1
        · intro x hx
          rcases List.mem_append.mp hx with h | h
          · exact hT x h
          · rw [List.mem_singleton.mp h]; exact hT2
        · rw [List.length_append, List.length_singleton]; omega
        · have P5' : PotAt (n + 10 + i * 62 + 62) G3 p := P5
          exact (P5'.ne pD2 rfl).mono (by omega)
        · exact (hC2.trans c5).mut hD2
      · rintro G2 ⟨vs, ds, hG2, hA, hT, hlen2, hPG2, hC2⟩
        have ib : m.toNat * 62 ≤ 5 * 62 := Nat.mul_le_mul_right _ (by omega)
        have ct : Chg p G G1 := ((Chg.refl p G).new ht).trans c4
        have hl := dps_len hA
        refine ⟨D2, vs, rfl, .inl ⟨SqL.of hG2, fun u hu => ?_⟩⟩
        have htu := same_upd (o := .tup vs) hu t _ (hC2 t _ tp (c4 t _ tp upd_same))
        refine ⟨t, u, _, vs, rfl, rfl, SqT.of htu, SqT.of upd_same, by show 1 + vs.length ≤ sizeLine; exact Nat.le_of_lt (small1000 (by omega)),
          fun z => (List.cons_ne_nil _ _ z).elim, fun _ z => ?_, fun _ _ r hr' => ?_⟩
        · have z' : ds = [] := List.eq_nil_of_length_eq_zero (by rw [← hl, z]; rfl)
          exact q _ (.tuple [.str _]) _ (.tup (SqT.of htu) (.cons (.str _) .nil)) ⟨_, [], rfl, hw, by decide, fun _ h => (List.not_mem_nil h).elim⟩
            (((c3.trans ct).trans hC2).new hu) ((hPG2.new hu).mono (by omega))
        · refine q _ (.tuple (.str _ :: ds)) _ (.tup (SqT.of upd_same) (.cons (.str _) (dps_same (same_upd hr') ds vs (dps_same (same_upd hu) ds vs hA)))) ⟨_, ds, rfl, hw, by omega, hT⟩
            ((((c3.trans ct).trans hC2).new hu).new hr') (((hPG2.new hu).new hr').mono (by omega))
end

end G0
namespace G0
open PySem PySem.Spec PyProof.Rows L2
theorem iteF' {c : Bool} {A B : Prop} (e : c = false) (h : B) : if c = true then A else B := by rw [e]; exact iteF h
theorem iteT' {c : Bool} {A B : Prop} (e : c = true) (h : A) : if c = true then A else B := by rw [e]; exact iteT h
/-! ### several lists may change -/
def ChgS (S : List Addr) (H H' : Hp) : Prop := ∀ b o, b ∉ S → H b = some o → H' b = some o
section
variable {S : List Addr} {p q : Addr} {H H' H0 H1 H2 : Hp} {o : HO}
theorem ChgS.refl : ChgS S H H := fun _ _ _ e => e
theorem ChgS.trans (a : ChgS S H H1) (b : ChgS S H1 H2) : ChgS S H H2 := fun c o n e => b c o n (a c o n e)
theorem Chg.s (h : Chg p H H') (m : p ∈ S) : ChgS S H H' := fun b o n e => h b o (fun z => n (z ▸ m)) e
theorem Same.s (h : Same H H') : ChgS S H H' := fun b o _ e => h b o e
theorem ChgS.mono {T : List Addr} (h : ChgS S H H') (m : ∀ b ∈ S, b ∈ T) : ChgS T H H' := fun b o n e => h b o (fun z => n (m b z)) e
theorem ChgS.new (a : ChgS S H H1) (n : H1 q = none) : ChgS S H (upd H1 q o) := fun b u m e => by
  rw [upd_ne (ne_of_none (a b u m e) n)]; exact a b u m e
theorem ChgS.mut (a : ChgS S H H1) (n : H q = none) : ChgS S H (upd H1 q o) := fun b u m e => by
  rw [upd_ne (ne_of_none e n)]; exact a b u m e
theorem ChgS.put (a : ChgS S H H1) (m : q ∈ S) : ChgS S H (upd H1 q o) := fun b u n e => by
  have nb : b ≠ q := fun z => n (by rw [z]; exact m)
  rw [upd_ne nb]; exact a b u n e
/-- what is new behind was new ahead -/
theorem ChgS.back (a : ChgS S H H1) (n : H1 q = none) (m : q ∉ S) : H q = none := by
  cases e : H q with
  | none => rfl
  | some u => rw [a q u m e] at n; cases n
theorem Chg.back (a : Chg p H H1) (n : H1 q = none) (m : q ≠ p) : H q = none := by
  cases e : H q with
  | none => rfl
  | some u => rw [a q u m e] at n; cases n
theorem PotAt.keepS {n : Nat} (h : PotAt n H p) (s : ChgS S H H') (m : p ∉ S) : PotAt n H' p := by
  obtain ⟨xs, e, h⟩ := h
  exact ⟨xs, s _ _ m e, h⟩
end
/-! ### lists of ints -/
section
variable {K : PySem.W.Frag} {H : Hp}
theorem dps_ints : ∀ ns : List Int, DpAll K H (ns.map V.int) (ns.map PyData.int)
  | [] => .nil
  | n :: r => .cons (.int n) (dps_ints r)
theorem dp_ints {a : Addr} {ns : List Int} (h : H a = some (.lst (ns.map V.int))) : Dp K H (.ref a) (.list (ns.map PyData.int)) := .lst (SqL.of h) (dps_ints ns)
theorem lay_ints : ∀ ns : List Int, PyData.canLayAll0 (ns.map PyData.int) = true
  | [] => by simp [PyData.canLayAll0]
  | n :: r => by simp [PyData.canLayAll0, PyData.canLay0, lay_ints r]
theorem deep_ints : ∀ ns : List Int, PyData.depthAll (ns.map PyData.int) = 0
  | [] => by simp [PyData.depthAll]
  | n :: r => by simp [PyData.depthAll, PyData.depth, deep_ints r]
theorem shaped_ints (ns : List Int) : SeqAt.shaped (.list (ns.map PyData.int)) = true := by
  show ((PyData.list (ns.map PyData.int)).canLay0 && decide ((PyData.list (ns.map PyData.int)).depth ≤ 64)) = true
  simp [PyData.canLay0, PyData.depth, lay_ints, deep_ints]
theorem flat_ints : ∀ ns : List Int, (ns.map V.int).all flatV = true
  | [] => rfl
  | n :: r => by simp [flatV, flat_ints r]
theorem inV_ints (v : Int) : ∀ ns : List Int, inV (.int v) (ns.map V.int) = decide (v ∈ ns)
  | [] => by simp [inV]
  | n :: r => by
    have ih := inV_ints v r
    unfold inV at ih ⊢
    rw [List.map_cons, List.any_cons, ih]
    show ((n == v) || decide (v ∈ r)) = decide (v ∈ n :: r)
    by_cases e : n = v
    · subst e; simp
    · have e' : ¬ v = n := fun z => e z.symm
      simp [e, e']
theorem at_ints {ns : List Int} {d : Int} (h0 : 0 ≤ d) (h1 : d < ns.length) : ∃ v, v ∈ ns ∧ atI (ns.map V.int) d = some (.int v) := by
  have hk : d.toNat < ns.length := by omega
  have ek : d = ((d.toNat : Nat) : Int) := by omega
  refine ⟨ns[d.toNat], List.getElem_mem hk, ?_⟩
  have q : atI (ns.map V.int) ((d.toNat : Nat) : Int) = some (.int ns[d.toNat]) := atI_nat (by rw [List.getElem?_map, List.getElem?_eq_getElem hk] <;> rfl)
  rw [← ek] at q
  exact q
end
/-! ### how long a repr is -/
mutual
def cost : PyData → Nat
  | .none => 4
  | .bool _ => 5
  | .int _ => 1921
  | .str x => 10 * x.length + 2
  | .list xs => 2 + costs xs
  | .tuple xs => 4 + costs xs
  | .dict _ => 0
def costs : List PyData → Nat
  | [] => 0
  | x :: xs => cost x + 2 + costs xs
end
theorem from_le : ∀ (ts : List Str) (k : Nat) (acc : Str), (textFrom k acc ts).length ≤ acc.length + (ts.map fun t => t.length + 2).sum
  | [], k, acc => by show acc.length ≤ _; simp
  | t :: r, k, acc => by
    have ih := from_le r (k + 1) (acc ++ (if k > 0 then ", " else "" : String) ++ t)
    show (textFrom (k + 1) _ r).length ≤ _
    rw [List.map_cons, List.sum_cons]
    rw [Str.length_append, Str.length_append] at ih
    have sep : (Str.ofString (if k > 0 then ", " else "")).length ≤ 2 := by split <;> decide
    omega
theorem join_le : ∀ ts : List Str, (Str.join ", " ts).length ≤ (ts.map fun t => t.length + 2).sum
  | [] => by decide
  | [x] => by show x.length ≤ _; simp
  | x :: y :: r => by
    have ih := join_le (y :: r)
    show (x ++ (", " : Str) ++ Str.join ", " (y :: r)).length ≤ _
    rw [Str.length_append, Str.length_append, List.map_cons, List.sum_cons]
    have : (", " : Str).length = 2 := by decide
    omega
theorem small_cps {x : Str} (h : PyData.strOk x = true) : ∀ c ∈ x.cps.toList, c < 16 ^ 8 := fun c hc => by
  unfold PyData.strOk at h
  rw [Array.all_eq_true_iff_forall_mem] at h
  have := of_decide_eq_true (h c (Array.mem_toList_iff.mp hc))
  omega
mutual
theorem shown_le : ∀ d : PyData, d.showable = true → d.canLay0 = true → d.shown.length ≤ cost d
  | .none, _, _ => by show (("None" : Str)).length ≤ 4; decide
  | .bool b, _, _ => by cases b <;> (simp only [PyData.shown, cost]; decide)
  | .int i, h, _ => by
    simp only [PyData.shown, cost]
    exact int_text_len_1921 (by simpa [PyData.showable] using h)
  | .str x, _, h => by
    simp only [PyData.shown, cost]
    exact StrLaws.reprText_len x (small_cps (by simpa [PyData.canLay0] using h))
  | .list xs, h, l => by
    have ih := shown_les xs (by simpa [PyData.showable] using h) (by simpa [PyData.canLay0] using l)
    simp only [PyData.shown, cost]
    show (textFrom 0 "[" (PyData.shownAll xs) ++ ("]" : Str)).length ≤ _
    have := from_le (PyData.shownAll xs) 0 "["
    have a : ("[" : Str).length = 1 := by decide
    have b : ("]" : Str).length = 1 := by decide
    rw [Str.length_append]
    omega
  | .tuple xs, h, l => by
    have ih := shown_les xs (by simpa [PyData.showable] using h) (by simpa [PyData.canLay0] using l)
    simp only [PyData.shown, cost]
    show (("(" : Str) ++ Str.join ", " (PyData.shownAll xs) ++ (Str.ofString (if (PyData.shownAll xs).length == 1 then ",)" else ")"))).length ≤ _
    have := join_le (PyData.shownAll xs)
    have a : ("(" : Str).length = 1 := by decide
    have b : (Str.ofString (if (PyData.shownAll xs).length == 1 then ",)" else ")")).length ≤ 2 := by split <;> decide
    rw [Str.length_append, Str.length_append]
    omega
  | .dict _, _, h => by simp [PyData.canLay0] at h
theorem shown_les : ∀ ds : List PyData, PyData.showableAll ds = true → PyData.canLayAll0 ds = true → ((PyData.shownAll ds).map fun t => t.length + 2).sum ≤ costs ds
  | [], _, _ => Nat.le_refl _
  | d :: ds, h, l => by
    simp only [PyData.showableAll, Bool.and_eq_true] at h
    simp only [PyData.canLayAll0, Bool.and_eq_true] at l
    have h1 := shown_le d h.1 l.1
    have h2 := shown_les ds h.2 l.2
    simp only [PyData.shownAll, costs, List.map_cons, List.sum_cons]
    omega
end

end G0
namespace G0
open PySem PySem.Spec PyProof.Rows L2
theorem small_of' {n : Nat} (h : n ≤ 10000) : n < sizeLine := Nat.lt_of_le_of_lt h (by decide)
/-! ### xs == [], t == () -/
def rEqNil (K : PySem.W.Frag) : R2 := fun x y H Q => ∃ (a b : Addr) (xs : List V), x = .ref a ∧ y = .ref b ∧
  ((SqL K H a xs ∧ SqL K H b []) ∨ (SqT K H a xs ∧ SqT K H b [])) ∧ Q (.bl xs.isEmpty) H
theorem op_eqNil {X : Cx} (hu : X.A.units < cLine) : OpR X (compareOp .Eq) (rEqNil X.K) := by
  intro pins s σ H x y v u Q I rx ry h
  obtain ⟨a, b, xs, rfl, rfl, two, q⟩ := h
  obtain rfl : v = Value.ref a := rx
  obtain rfl : u = Value.ref b := ry
  rcases two with ⟨h1, h2⟩ | ⟨h1, h2⟩
  · obtain ⟨its, r, pl, hz⟩ := I.list h1
    obtain ⟨its2, r2, pl2, hz2⟩ := I.list h2
    have e2 : its2 = [] := by cases r2; rfl
    subst e2
    cases r with
    | nil =>
      refine SeqAt.eq_listAt (e := fun _ => true) pl.isList pl2.isList rfl hu (fun j h => absurd h (Nat.not_lt_zero j)) ⟨.bl true, H, I, rfl, q⟩
    | cons _ _ =>
      exact SeqAt.eq_list_lengthsAt pl.isList pl2.isList (by simp) hu ⟨.bl false, H, I, rfl, q⟩
  · obtain ⟨its, r, pl, hz⟩ := I.tuple h1
    obtain ⟨its2, r2, pl2, hz2⟩ := I.tuple h2
    have e2 : its2 = [] := by cases r2; rfl
    subst e2
    cases r with
    | nil =>
      refine SeqAt.eq_tupleAt (e := fun _ => true) pl pl2 hu (fun j h => absurd h (Nat.not_lt_zero j)) ⟨.bl true, H, I, rfl, q⟩
    | cons _ _ =>
      refine SeqAt.eq_tupleAt (e := fun _ => true) pl pl2 hu (fun j _ h => absurd h (Nat.not_lt_zero j)) ⟨.bl false, H, I, ?_, q⟩
      simp [L2.RelV]
/-! ### data of any kind -/
inductive GD where
  | non | bl (b : Bool) | int (i : Int) | str (z : Str) | lst | dct | tup (gs : List GD)
mutual
inductive Gv (K : PySem.W.Frag) (H : Hp) : V → GD → Prop
  | non : Gv K H .non .non
  | bl (b : Bool) : Gv K H (.bl b) (.bl b)
  | int (i : Int) : Gv K H (.int i) (.int i)
  | str {z : Str} : z.length ≤ 1000 → Gv K H (.str z) (.str z)
  | lst {a : Addr} {xs : List V} : H a = some (.lst xs) → Gv K H (.ref a) .lst
  | dct {a : Addr} {kvs : List (Key × V)} : H a = some (.dK kvs) → Gv K H (.ref a) .dct
  | tup {a : Addr} {xs : List V} {gs : List GD} : SqT K H a xs → xs.length ≤ 1000 → GvAll K H xs gs → Gv K H (.ref a) (.tup gs)
inductive GvAll (K : PySem.W.Frag) (H : Hp) : List V → List GD → Prop
  | nil : GvAll K H [] []
  | cons {v : V} {vs : List V} {g : GD} {gs : List GD} : Gv K H v g → GvAll K H vs gs → GvAll K H (v :: vs) (g :: gs)
end
section
variable {K : PySem.W.Frag} {H H' : Hp}
mutual
theorem gv_same (c : Same H H') : ∀ (g : GD) (v : V), Gv K H v g → Gv K H' v g
  | .non, _, h => by cases h; exact .non
  | .bl _, _, h => by cases h; exact .bl _
  | .int _, _, h => by cases h; exact .int _
  | .str _, _, h => by cases h with | str z => exact .str z
  | .lst, _, h => by cases h with | lst e => exact .lst (c _ _ e)
  | .dct, _, h => by cases h with | dct e => exact .dct (c _ _ e)
  | .tup gs, _, h => by
    cases h with
    | tup e l a => exact .tup (sqt_same c e) l (gvs_same c gs _ a)
theorem gvs_same (c : Same H H') : ∀ (gs : List GD) (vs : List V), GvAll K H vs gs → GvAll K H' vs gs
  | [], _, h => by cases h; exact .nil
  | g :: gs, _, h => by
    cases h with
    | cons h1 h2 => exact .cons (gv_same c g _ h1) (gvs_same c gs _ h2)
end
theorem gvs_len {vs : List V} {gs : List GD} (h : GvAll K H vs gs) : vs.length = gs.length := by
  match vs, gs, h with
  | [], [], _ => rfl
  | _ :: _, _ :: _, .cons _ h2 => exact congrArg (· + 1) (gvs_len h2)
theorem gvs_get {vs : List V} {gs : List GD} (h : GvAll K H vs gs) : ∀ {i : Nat} {v : V}, vs[i]? = some v → ∃ g, gs[i]? = some g ∧ Gv K H v g := by
  match vs, gs, h with
  | [], [], _ => intro i v e; simp at e
  | v :: vs, g :: gs, .cons h1 h2 =>
    intro i w e
    cases i with
    | zero => simp at e; subst e; exact ⟨g, rfl, h1⟩
    | succ i => exact gvs_get h2 (by simpa using e)
theorem ty_sqt {a : Addr} {xs : List V} (h : SqT K H a xs) : TyX K H (.ref a) (.type "tuple") := by
  rcases h with (h | ⟨o, h⟩) | ⟨o, its, n, h1, h2, _⟩
  · exact .base (.tup h)
  · exact .fTuple h
  · exact .kTuple h1 h2
/-- the built-in class of a thing -/
def GD.ty : GD → String
  | .non => "NoneType" | .bl _ => "bool" | .int _ => "int" | .str _ => "str" | .lst => "list" | .dct => "dict" | .tup _ => "tuple"
theorem gv_ty {v : V} {g : GD} (h : Gv K H v g) : TyX K H v (.type g.ty) := by
  cases h with
  | non => exact .base .non
  | bl b => exact .base (.bl b)
  | int i => exact .base (.int i)
  | str _ => exact .base (.str _)
  | lst e => exact .base (.lst e)
  | dct e => exact .base (.dK e)
  | tup e _ _ => exact ty_sqt e
def GD.isInt : GD → Bool | .int _ => true | .bl _ => true | _ => false
def GD.isBool : GD → Bool | .bl _ => true | _ => false
def GD.isTup : GD → Bool | .tup _ => true | _ => false
def GD.isStr : GD → Bool | .str _ => true | _ => false
theorem kit_int (g : GD) : PySem.W.kitOne K (.type g.ty) (.type "int") = some g.isInt := by cases g <;> exact kit_ty (by simp only [GD.ty, GD.isInt, GD.isBool, GD.isTup, GD.isStr]; decide +kernel)
theorem kit_bool (g : GD) : PySem.W.kitOne K (.type g.ty) (.type "bool") = some g.isBool := by cases g <;> exact kit_ty (by simp only [GD.ty, GD.isInt, GD.isBool, GD.isTup, GD.isStr]; decide +kernel)
theorem kit_tup (g : GD) : PySem.W.kitOne K (.type g.ty) (.type "tuple") = some g.isTup := by cases g <;> exact kit_ty (by simp only [GD.ty, GD.isInt, GD.isBool, GD.isTup, GD.isStr]; decide +kernel)
theorem kit_str (g : GD) : PySem.W.kitOne K (.type g.ty) (.type "str") = some g.isStr := by cases g <;> exact kit_ty (by simp only [GD.ty, GD.isInt, GD.isBool, GD.isTup, GD.isStr]; decide +kernel)
end
/-! ### what is asked of data -/
def GD.less (t : Int) : GD → Bool | .int i => decide (0 ≤ i ∧ i < t) | _ => false
def signs : List Nat := ("abcdefghijklmnopqrstuvwxyz" : Str).cps.toList
def wordB (z : Str) : Bool := decide (1 ≤ z.length) && decide (z.length ≤ 8) && z.cps.toList.all (fun c => decide (c ∈ signs)) && !decide (z = "gone")
def GD.word : GD → Bool | .str z => wordB z | _ => false
mutual
def GD.part : Nat → GD → Bool
  | _, .int i => decide (0 ≤ i ∧ i < 10 ^ 60)
  | 0, .tup _ => false
  | n + 1, .tup gs => GD.parts n gs
  | _, _ => false
def GD.parts : Nat → List GD → Bool
  | _, [] => true
  | n, g :: gs => GD.part n g && GD.parts n gs
end
def bad1 (k : Nat) : List GD → Option Nat
  | [] => none
  | g :: gs => if g.part 3 then bad1 (k + 1) gs else some k
def GD.fault : GD → Option Nat
  | .tup (w :: gs) => if w.word then bad1 1 gs else some 0
  | _ => some 0
def oV : Option Nat → V
  | none => .non
  | some k => .int k

end G0
namespace G0
open PySem PySem.Spec PyProof.Rows L2
section
variable {K : PySem.W.Frag} {H H' : Hp} {p : Addr}
mutual
theorem gv_chg (hp : ∃ xs, H p = some (.lst xs)) (hp' : ∃ xs, H' p = some (.lst xs)) (c : Chg p H H') : ∀ (g : GD) (v : V), Gv K H v g → Gv K H' v g
  | .non, _, h => by cases h; exact .non
  | .bl _, _, h => by cases h; exact .bl _
  | .int _, _, h => by cases h; exact .int _
  | .str _, _, h => by cases h with | str z => exact .str z
  | .lst, _, h => by
    cases h with
    | lst e =>
      rename_i a xs
      by_cases q : a = p
      · obtain ⟨ys, hy⟩ := hp'
        rw [q]
        exact .lst hy
      · exact .lst (c _ _ q e)
  | .dct, _, h => by
    cases h with
    | dct e =>
      obtain ⟨ys, hy⟩ := hp
      exact .dct (c _ _ (ne_of e hy (by intro z; cases z)) e)
  | .tup gs, _, h => by
    cases h with
    | tup e l a => exact .tup (sqt_chg hp c e) l (gvs_chg hp hp' c gs _ a)
theorem gvs_chg (hp : ∃ xs, H p = some (.lst xs)) (hp' : ∃ xs, H' p = some (.lst xs)) (c : Chg p H H') : ∀ (gs : List GD) (vs : List V), GvAll K H vs gs → GvAll K H' vs gs
  | [], _, h => by cases h; exact .nil
  | g :: gs, _, h => by
    cases h with
    | cons h1 h2 => exact .cons (gv_chg hp hp' c g _ h1) (gvs_chg hp hp' c gs _ h2)
end
theorem gvs_app {vs ws : List V} {gs hs : List GD} : GvAll K H vs gs → GvAll K H ws hs → GvAll K H (vs ++ ws) (gs ++ hs) := by
  intro h k
  match vs, gs, h with
  | [], [], _ => exact k
  | _ :: _, _ :: _, .cons h1 h2 => exact .cons h1 (gvs_app h2 k)
theorem gvs_drop {vs : List V} {gs : List GD} : ∀ n : Nat, GvAll K H vs gs → GvAll K H (vs.drop n) (gs.drop n) := by
  intro n h
  match n, vs, gs, h with
  | 0, _, _, h => exact h
  | n + 1, [], [], _ => simpa using GvAll.nil
  | n + 1, _ :: _, _ :: _, .cons _ h2 => exact gvs_drop n h2
theorem gvs_take {vs : List V} {gs : List GD} : ∀ n : Nat, GvAll K H vs gs → GvAll K H (vs.take n) (gs.take n) := by
  intro n h
  match n, vs, gs, h with
  | 0, _, _, _ => simpa using GvAll.nil
  | n + 1, [], [], _ => simpa using GvAll.nil
  | n + 1, _ :: _, _ :: _, .cons h1 h2 => exact .cons h1 (gvs_take n h2)
theorem gvs_cut {vs : List V} {gs : List GD} (h : GvAll K H vs gs) (lo hi : Option Int) : ∃ hs, GvAll K H (cutV vs lo hi) hs := ⟨_, gvs_take _ (gvs_drop _ h)⟩
/-- any slice of a tuple -/
theorem sl_any {a : Addr} {xs : List V} {lo hi : Option Int} {Q : VK} (h : SqT K H a xs) (q : ∀ r H', Same H H' → SqT K H' r (cutV xs lo hi) → Q (.ref r) H') : rSlA K (.ref a) lo hi H Q := by
  refine ⟨a, xs, rfl, h, fun ⟨e1, e2⟩ => ?_, fun _ r hr => q r _ (same_upd hr) (SqT.of upd_same)⟩
  refine q a H (Same.refl H) ?_
  unfold cutV
  rw [e1, e2, List.drop_zero, Nat.sub_zero, List.take_length]
  exact h
theorem sl_none {σ : L2.St} {a : Addr} {xs : List V} {lo : Option Int} {Q : VK} (h : SqT K H a xs) (q : ∀ r H', Same H H' → SqT K H' r (cutV xs lo none) → Q (.ref r) H') :
    tNoPart σ H fun u H3 => rSlA K (.ref a) lo u H3 Q := sl_any h q
/-- any two tuples together -/
theorem cat_any {a b : Addr} {xs ys : List V} {Q : VK} (h1 : SqT K H a xs) (h2 : SqT K H b ys) (l : xs.length + ys.length ≤ 10000)
    (q : ∀ r H', Same H H' → SqT K H' r (xs ++ ys) → Q (.ref r) H') : rCatA K (.ref a) (.ref b) H Q := by
  refine ⟨a, b, xs, ys, rfl, rfl, h1, h2, Nat.le_of_lt (small_of' l), fun e => ?_, fun _ e => ?_, fun _ _ r hr => q r _ (same_upd hr) (SqT.of upd_same)⟩
  · subst e
    exact q b H (Same.refl H) h2
  · subst e
    exact q a H (Same.refl H) (by rw [List.append_nil]; exact h1)
/-- an item at any place -/
theorem at_any {xs : List V} {d : Int} (h0 : 0 ≤ d) (h1 : d < xs.length) : ∃ v, v ∈ xs ∧ atI xs d = some v := by
  have hk : d.toNat < xs.length := by omega
  have q : atI xs ((d.toNat : Nat) : Int) = some xs[d.toNat] := atI_nat (List.getElem?_eq_getElem hk)
  rw [show ((d.toNat : Nat) : Int) = d by omega] at q
  exact ⟨_, List.getElem_mem hk, q⟩
/-! ### letters as data of any kind -/
theorem thing_gv : ∀ {n : Nat} {d : PyData}, Thing n d → ∀ {v : V}, Dp K H v d → ∃ g, Gv K H v g := by
  intro n d h
  induction h with
  | num _ _ =>
    intro v hd
    cases hd
    exact ⟨_, .int _⟩
  | tup l _ ih =>
    intro v hd
    cases hd with
    | tup hs ha =>
      rename_i ds _ xs a
      have all : ∀ (ds' : List PyData) (xs : List V), (∀ d ∈ ds', d ∈ ds) → DpAll K H xs ds' → ∃ gs, GvAll K H xs gs := by
        intro ds'
        induction ds' with
        | nil => intro xs _ h; cases h; exact ⟨[], .nil⟩
        | cons d ds' ih2 =>
          intro xs mem h
          cases h with
          | cons h1 h2 =>
            obtain ⟨g, hg⟩ := ih d (mem d (List.mem_cons_self ..)) h1
            obtain ⟨gs, hgs⟩ := ih2 _ (fun x hx => mem x (List.mem_cons_of_mem _ hx)) h2
            exact ⟨g :: gs, .cons hg hgs⟩
      obtain ⟨gs, hgs⟩ := all ds _ (fun _ h => h) ha
      have := dps_len ha
      exact ⟨.tup gs, .tup hs (by omega) hgs⟩
theorem things_gv {n : Nat} : ∀ {ds : List PyData} {vs : List V}, (∀ d ∈ ds, Thing n d) → DpAll K H vs ds → ∃ gs, GvAll K H vs gs
  | [], _, _, h => by cases h; exact ⟨[], .nil⟩
  | d :: ds, _, m, h => by
    cases h with
    | cons h1 h2 =>
      obtain ⟨g, hg⟩ := thing_gv (m d (List.mem_cons_self ..)) h1
      obtain ⟨gs, hgs⟩ := things_gv (fun x hx => m x (List.mem_cons_of_mem _ hx)) h2
      exact ⟨g :: gs, .cons hg hgs⟩
theorem letter_gv {v : V} {d : PyData} (h : LetterD d) (hd : Dp K H v d) : ∃ a xs gs, v = .ref a ∧ SqT K H a xs ∧ GvAll K H xs gs ∧ 1 ≤ xs.length ∧ xs.length ≤ 6 := by
  obtain ⟨z, ds, rfl, hw, l, m⟩ := h
  cases hd with
  | tup hs ha =>
    have hl := dps_len ha
    cases ha with
    | cons h1 h2 =>
      obtain ⟨gs, hgs⟩ := things_gv m h2
      cases h1
      simp at hl
      exact ⟨_, _, _, rfl, hs, .cons (.str (by have := hw.2.1; omega)) hgs, by simp, by simp; omega⟩
end

end G0
namespace G0
open PySem PySem.Spec PyProof.Rows L2
structure Bk (mg : Str → Option Value) : Prop extends Bl mg where
  isinstance : mg "isinstance" = none
  int : mg "int" = none
  bool : mg "bool" = none
  str : mg "str" = none
  all : mg "all" = none

end G0
namespace G0
open PySem PySem.Spec PyProof.Rows L2
/-- the letters' constants -/
structure Lc (K : PySem.W.Frag) (mg : Str → Option Value) : Prop where
  longest : ∃ t, mg "LONGEST" = some (.int 8 t)
  deepest : ∃ t, mg "DEEPEST" = some (.int 4 t)
  top : ∃ t, mg "TOP" = some (.int (10 ^ 60) t)
  signs : ∃ t, mg "SIGNS" = some (.str "abcdefghijklmnopqrstuvwxyz" t)
  mark : ∃ e, mg "END_MARK" = some (.ref e) ∧ ∀ H, SqT K H e [.str "gone"]
theorem lc_str {x : Str} {g : TG} {tt : TT} {te : TE} {vs : List Nat} {σ : L2.St} {H1 : Hp} {D : Addr} {Qd : Hp → Prop} (Pv : Nat → Hp → Prop)
    (start : Pv 0 (upd H1 D (.lst [])))
    (turn : ∀ i c H, x.cps[i]? = some c → Pv i H → g (.str ⟨#[c]⟩) (wipe σ vs) H fun σ2 H2 => wipe σ2 vs = wipe σ vs ∧ tt σ2 H2 fun b H3 =>
      if b = true then te σ2 H3 fun y H4 => ∃ acc, H4 D = some (.lst acc) ∧ acc.length < sizeLine ∧ Pv (i + 1) (upd H4 D (.lst (acc ++ [y]))) else Pv (i + 1) H3)
    (done : ∀ H, Pv x.cps.size H → Qd H) :
    ∃ W : Nat → Nat → Hp → Prop, (∃ m, W 0 m (upd H1 D (.lst []))) ∧ ∀ i m H, W i m H →
      ((Its x).stop i H ∧ Qd H) ∨ ((Its x).go i H ∧ ∃ Nx : Hp → Prop, (∀ H', Nx H' → ∃ m', m' < m ∧ W (i + 1) m' H') ∧
        ∀ y H', (Its x).yld i H y H' → g y (wipe σ vs) H' fun σ2 H2 => wipe σ2 vs = wipe σ vs ∧ tt σ2 H2 fun b H3 =>
          if b = true then te σ2 H3 fun y H4 => ∃ acc, H4 D = some (.lst acc) ∧ acc.length < sizeLine ∧ Nx (upd H4 D (.lst (acc ++ [y]))) else Nx H3) := by
  refine ⟨fun i m H => m = x.cps.size - i ∧ i ≤ x.cps.size ∧ Pv i H, ⟨x.cps.size, by simp, Nat.zero_le _, start⟩, ?_⟩
  rintro i m H ⟨rfl, le, pv⟩
  rcases Nat.lt_or_ge i x.cps.size with lt | ge
  · refine .inr ⟨lt, Pv (i + 1), fun H' pv' => ⟨x.cps.size - (i + 1), by omega, rfl, lt, pv'⟩, fun y H' told => ?_⟩
    obtain ⟨rfl, c, hc, rfl⟩ := told
    exact turn i c H' hc pv
  · have e : i = x.cps.size := by omega
    exact .inl ⟨ge, done H (e ▸ pv)⟩
section
variable {P : Program} {w : World} {K : PySem.W.Frag} {mg : Str → Option Value} {base : Heap}
/-! ### is_below -/
def spBelow (K : PySem.W.Frag) : Sp := fun vs H Q _ => ∃ (x : V) (t : Int) (g : GD), vs = [x, .int t] ∧ Gv K H x g ∧ Q (.bl (g.less t)) H
theorem sc_is_below : FnScope ["thing", "top"] ["thing", "top"] (defScope s_is_below) :=
  ⟨rfl, rfl, rfl, by decide +kernel, rfl, by decide +kernel, by decide +kernel⟩
theorem ok_below (F : Fn K mg "is_below" s_is_below) (T : Bk mg) : Cal P w K mg base "is_below" 1 ["thing", "top"] (spBelow K) := by
  refine cal_of F sc_is_below
    (fun _ _ _ _ _ _ us hl => match us, hl with | [_, _], _ => rfl) ?_ ?_
  · rintro vs H Q E ⟨x, t, g, rfl, _⟩
    rfl
  rintro f cdv A outer s H vs Q E free hr ⟨x, t, g, rfl, hx, q⟩
  refine ⟨_, (pss_one (ps_ret (pe_and (pe_callB call_isi (by rfl) T.isinstance (by decide +kernel) (pa_cons (pv 0) (pa_cons (pe_bltn (v := .ty "int") (by rfl) T.int (by decide +kernel) rfl) pa_nil))) (pe_and (pe_not (pe_callB call_isi (by rfl) T.isinstance (by decide +kernel) (pa_cons (pv 0) (pa_cons (pe_bltn (v := .ty "bool") (by rfl) T.bool (by decide +kernel) rfl) pa_nil)))) (pe_one (pe_chain op_le op_lt pe_int (pv 0) (pv 1))))))), ?_⟩
  refine ⟨_, rfl, x, .ty "int", _, _, _, rfl, .ty _, gv_ty hx, kit_int g, _, rfl, ?_⟩
  cases hx with
  | int i =>
    refine iteT' rfl ⟨_, rfl, _, .ty "bool", _, _, _, rfl, .ty _, .base (.int i), kit_bool (.int i), _, rfl, _, rfl, iteT' rfl ⟨_, rfl, _, _, rfl, rfl, _, rfl, ?_⟩⟩
    refine ite2 (fun c => ⟨_, rfl, _, _, rfl, rfl, ?_⟩) (fun c => ?_)
    · have c' : 0 ≤ i := of_decide_eq_true c
      simpa [GD.less, c'] using q
    · have c' : ¬ 0 ≤ i := fun z => c (decide_eq_true z)
      simpa [GD.less, c'] using q
  | bl b => exact iteT' rfl ⟨_, rfl, _, .ty "bool", _, _, _, rfl, .ty _, .base (.bl b), kit_bool (.bl b), _, rfl, _, rfl, iteF' rfl q⟩
  | non => exact iteF' rfl q
  | str _ => exact iteF' rfl q
  | lst _ => exact iteF' rfl q
  | dct _ => exact iteF' rfl q
  | tup _ _ _ => exact iteF' rfl q
/-! ### _is_word -/
theorem all_signs {z : Str} : (z.cps.toList.map fun c => decide (c ∈ signs)).all id = z.cps.toList.all fun c => decide (c ∈ signs) := by
  rw [List.all_map]; rfl
def spWord (K : PySem.W.Frag) : Sp := fun vs H Q _ => ∃ (x : V) (g : GD), vs = [x] ∧ Gv K H x g ∧ ∀ H', Same H H' → Q (.bl g.word) H'
theorem sc_is_word : FnScope ["thing", "sign"] ["thing"] (defScope s_is_word) :=
  ⟨rfl, rfl, rfl, by decide +kernel, rfl, by decide +kernel, by decide +kernel⟩
theorem ok_word (F : Fn K mg "_is_word" s_is_word) (T : Bk mg) (L : Lc K mg) : Cal P w K mg base "_is_word" 1 ["thing"] (spWord K) := by
  obtain ⟨t1, hLo⟩ := L.longest
  obtain ⟨t2, hSi⟩ := L.signs
  obtain ⟨e, hMa, sMa⟩ := L.mark
  refine cal_of F sc_is_word
    (fun _ _ _ _ _ _ us hl => match us, hl with | [_], _ => rfl) ?_ ?_
  · rintro vs H Q E ⟨x, g, rfl, _⟩
    rfl
  rintro f cdv A outer s H vs Q E free hr ⟨x, g, rfl, hx, q⟩
  refine ⟨_, (pss_cons (ps_if (PW.pt (pw_or (pt_not (pt_val (pe_callB call_isi (by rfl) T.isinstance (by decide +kernel) (pa_cons (pv 0) (pa_cons (pe_bltn (v := .ty "str") (by rfl) T.str (by decide +kernel) rfl) pa_nil))))) (pw_or1 (pt_not (pt_chain op_le op_le pe_int (pe_callB call_len_str (by rfl) T.len (by decide +kernel) (pa_cons (pv 0) pa_nil)) (pe_glob (v := .int 8) (by rfl) hLo ⟨_, rfl⟩))))))
    (pss_one (ps_ret pe_bl))
    pss_nil)
    (pss_one (ps_ret (pe_and (pe_callB (cr_all (by rfl)) (by rfl) T.all (by decide +kernel) (pa_cons (pe_lc (own := [("sign", 1)]) (g := gName 1) (tt := tYes) (by rfl) sc_is_word.nd (pi_str (pv 0)) (blkOk_by (N := ["thing", "sign"]) (sc := defScope s_is_word) (by decide +kernel)) (fun _ _ _ _ _ => pg_name (i := 1) sc_is_word.nd rfl (Or.inl rfl)) (fun _ _ _ _ _ => pts_nil) (fun _ _ _ _ _ => (pe_cmpR op_inS (pv 1) (pe_glob (v := .str "abcdefghijklmnopqrstuvwxyz") (by rfl) hSi ⟨_, rfl⟩) (by rfl)))) pa_nil)) (pe_one (pe_cmpR op_ne (pv 0) (pe_ix ix_tup (pe_glob (v := .ref e) (by rfl) hMa rfl) pe_int (fun _ _ => rfl)) (nomark _))))))), ?_⟩
  refine ⟨_, rfl, x, .ty "str", _, _, _, rfl, .ty _, gv_ty hx, kit_str g, _, rfl, ?_⟩
  cases hx with
  | str hz =>
    rename_i z
    have zl : z.length ≤ sizeLine := Nat.le_trans hz (by decide)
    refine iteF' rfl ⟨_, rfl, z, rfl, zl, _, _, rfl, rfl, _, rfl, ?_⟩
    have no : wordB z = false → Q (.bl false) H := fun e => by
      have := q H (Same.refl H)
      simp only [GD.word] at this
      rwa [e] at this
    refine ite2 (fun c1 => ?_) (fun c1 => ?_)
    · have l1 : 1 ≤ z.length := by have := of_decide_eq_true c1; omega
      refine ⟨_, _, rfl, rfl, _, rfl, ?_⟩
      by_cases l8 : z.length ≤ 8
      · refine iteF' (c := !decide (((z.length : Nat) : Int) ≤ 8)) (by simp; omega) ?_
        refine ⟨_, rfl, z, rfl, fun D hD => ?_⟩
        have zs : z.cps.toList.length = z.length := by simp [Str.length]
        refine lc_str (fun i G => Same H G ∧ G D = some (.lst (((z.cps.toList.take i).map fun c => decide (c ∈ signs)).map V.bl))) ⟨same_upd hD, upd_same⟩ ?_ ?_
        · rintro i c G hc ⟨sG, hG⟩
          have hc' : z.cps.toList[i]? = some c := by rw [Array.getElem?_toList]; exact hc
          refine ⟨rfl, _, rfl, c, _, rfl, rfl, _, hG, ?_, fun b o e => ?_, ?_⟩
          · rw [List.length_map, List.length_map, List.length_take]
            exact small_of' (by omega)
          · rw [upd_ne (ne_of_none e hD)]; exact sG b o e
          · rw [upd_same, List.take_succ, hc', List.map_append, List.map_append]; rfl
        · rintro G ⟨sG, hG⟩
          have ez : z.cps.toList.take z.cps.size = z.cps.toList := List.take_of_length_le (by simp)
          rw [ez] at hG
          refine ⟨D, _, rfl, SqL.of hG, _, rfl, ?_⟩
          rw [all_signs]
          have wz : wordB z = (z.cps.toList.all (fun c => decide (c ∈ signs)) && !decide (z = "gone")) := by
            simp [wordB, l1, l8]
          have q' := q G sG
          simp only [GD.word, wz] at q'
          cases al : z.cps.toList.all fun c => decide (c ∈ signs) with
          | true =>
            rw [al] at q'
            refine iteT ⟨_, rfl, e, _, _, _, rfl, rfl, sMa _, rfl, rfl, ?_⟩
            simpa using q'
          | false =>
            rw [al] at q'
            exact iteF q'
      · refine iteT' (c := !decide (((z.length : Nat) : Int) ≤ 8)) (by simp; omega) ?_
        exact no (by simp [wordB, l8])
    · refine ⟨_, rfl, iteT' rfl ?_⟩
      have l1 : ¬ 1 ≤ z.length := fun h => c1 (decide_eq_true (by omega))
      exact no (by simp [wordB, l1])
  | bl b => exact iteT' rfl (q H (Same.refl H))
  | non => exact iteT' rfl (q H (Same.refl H))
  | int i => exact iteT' rfl (q H (Same.refl H))
  | lst _ => exact iteT' rfl (q H (Same.refl H))
  | dct _ => exact iteT' rfl (q H (Same.refl H))
  | tup _ _ _ => exact iteT' rfl (q H (Same.refl H))
/-! ### _is_thing -/
theorem parts_all (n : Nat) : ∀ gs : List GD, GD.parts n gs = (gs.map (GD.part n)).all id
  | [] => by simp [GD.parts]
  | g :: gs => by simp [GD.parts, parts_all n gs]
theorem part_not {n : Nat} {g : GD} (h : g.isTup = false) : g.part n = g.less (10 ^ 60) := by
  cases g <;> cases n <;> simp_all [GD.part, GD.less, GD.isTup]
def spIsThing (K : PySem.W.Frag) : Nat → Sp
  | 0 => fun _ _ _ _ => False
  | n + 1 => fun vs H Q _ => ∃ (x : V) (g : GD), vs = [x, .int (4 - (n : Int))] ∧ n ≤ 3 ∧ Gv K H x g ∧ (∀ H', Same H H' → Q (.bl (g.part n)) H')
theorem sc_is_thing : FnScope ["thing", "around", "part"] ["thing", "around"] (defScope s_is_thing) :=
  ⟨rfl, rfl, rfl, by decide +kernel, rfl, by decide +kernel, by decide +kernel⟩
theorem ok_isthing (n : Nat) (F : Fn K mg "_is_thing" s_is_thing) (T : Bk mg) (L : Lc K mg) (C_below : Cal P w K mg base "is_below" 1 ["thing", "top"] (spBelow K))
    (C_thing : Cal P w K mg base "_is_thing" (n + 1) ["thing", "around"] (spIsThing K n)) : Cal P w K mg base "_is_thing" (n + 1 + 1) ["thing", "around"] (spIsThing K (n + 1)) := by
  obtain ⟨t1, hDe⟩ := L.deepest
  obtain ⟨t2, hTo⟩ := L.top
  refine cal_of F sc_is_thing
    (fun _ _ _ _ _ _ us hl => match us, hl with | [_, _], _ => rfl) ?_ ?_
  · rintro vs H Q E ⟨x, g, rfl, _⟩
    rfl
  rintro f cdv A outer s H vs Q E free hr ⟨x, g, rfl, n3, hx, q⟩
  refine ⟨_, (pss_cons (ps_if (pt_not (pt_val (pe_callB call_isi (by rfl) T.isinstance (by decide +kernel) (pa_cons (pv 0) (pa_cons (pe_bltn (v := .ty "tuple") (by rfl) T.tuple (by decide +kernel) rfl) pa_nil)))))
    (pss_one (ps_ret (pe_cal C_below free (hr.mono (by omega)) (pa_cons (pv 0) (pa_cons (pe_glob (v := .int (10 ^ 60)) (by rfl) hTo ⟨_, rfl⟩) pa_nil)))))
    pss_nil)
    (pss_cons (ps_if (pt_cmpR op_eq (pv 1) (pe_glob (v := .int 4) (by rfl) hDe ⟨_, rfl⟩) (nomark _))
    (pss_one (ps_ret pe_bl))
    pss_nil)
    (pss_one (ps_ret (pe_callB (cr_all (by rfl)) (by rfl) T.all (by decide +kernel) (pa_cons (pe_lc (own := [("part", 2)]) (g := gName 2) (tt := tYes) (by rfl) sc_is_thing.nd (pi_tup (pv 0)) (blkOk_by (N := ["thing", "around", "part"]) (sc := defScope s_is_thing) (by decide +kernel)) (fun _ _ _ _ _ => pg_name (i := 2) sc_is_thing.nd rfl (Or.inl rfl)) (fun _ _ _ _ _ => pts_nil) (fun _ _ _ _ _ => (pe_cal C_thing free hr (pa_cons (pv 2) (pa_cons (pe_op op_add (pv 1) pe_int) pa_nil))))) pa_nil)))))), ?_⟩
  refine ⟨_, rfl, x, .ty "tuple", _, _, _, rfl, .ty _, gv_ty hx, kit_tup g, _, rfl, ?_⟩
  cases tg : g.isTup with
  | false =>
    refine iteT' rfl ⟨_, rfl, x, 10 ^ 60, g, rfl, hx, ?_⟩
    rw [← part_not (n := n) tg]
    exact q H (Same.refl H)
  | true =>
    refine iteF' rfl ?_
    cases hx with
    | non => cases tg
    | bl _ => cases tg
    | int _ => cases tg
    | str _ => cases tg
    | lst _ => cases tg
    | dct _ => cases tg
    | tup e xl a =>
      rename_i p xs gs
      refine ⟨_, rfl, rfl, _, rfl, ?_⟩
      refine ite2 (fun c => ?_) (fun c => ?_)
      · have n0 : n = 0 := by
          have := of_decide_eq_true c
          have e4 : (4 : Int) - (n : Int) = 4 := V.int.inj this
          omega
        subst n0
        exact q H (Same.refl H)
      · obtain ⟨m, rfl⟩ : ∃ m, n = m + 1 := by
          refine ⟨n - 1, ?_⟩
          have : n ≠ 0 := fun z => c (by subst z; rfl)
          omega
        refine ⟨_, rfl, p, rfl, ⟨_, e⟩, fun D hD => ?_⟩
        have hl := gvs_len a
        refine lc_tup (K := K) (a := p) (xs := xs) (fun i G => Same H G ∧ G D = some (.lst (((gs.take i).map (GD.part m)).map V.bl))) ⟨same_upd hD, upd_same⟩ (fun i G _ h => sqt_same h.1 e) ?_ ?_
        · rintro i y G hi ⟨sG, hG⟩
          obtain ⟨gi, hgi, hy⟩ := gvs_get a hi
          refine ⟨rfl, _, rfl, _, rfl, _, _, rfl, rfl, y, gi, (by show [y, V.int (4 - ((m + 1 : Nat) : Int) + 1)] = _; rw [show (4 - ((m + 1 : Nat) : Int) + 1) = 4 - (m : Int) by omega]), by omega, gv_same sG _ _ hy, fun G2 s2 => ?_⟩
          refine ⟨_, s2 _ _ hG, ?_, fun b o z => ?_, ?_⟩
          · rw [List.length_map, List.length_map, List.length_take]
            exact small_of' (by omega)
          · rw [upd_ne (ne_of_none z hD)]; exact s2 _ _ (sG b o z)
          · rw [upd_same, List.take_succ, hgi, List.map_append, List.map_append]; rfl
        · rintro G ⟨sG, hG⟩
          refine ⟨D, _, rfl, SqL.of hG, ?_⟩
          have eg : gs.take xs.length = gs := List.take_of_length_le (by omega)
          rw [eg, ← parts_all]
          have := q G sG
          simpa only [GD.part] using this
theorem ok_isthings (F : Fn K mg "_is_thing" s_is_thing) (T : Bk mg) (L : Lc K mg) (C_below : Cal P w K mg base "is_below" 1 ["thing", "top"] (spBelow K)) :
    ∀ n, Cal P w K mg base "_is_thing" (n + 1) ["thing", "around"] (spIsThing K n)
  | 0 => (cal_no F (fun _ _ _ _ _ _ us hl => match us, hl with | [_, _], _ => rfl) ).mono (by decide)
  | n + 1 => ok_isthing n F T L C_below (ok_isthings F T L C_below n)
/-! ### letter_fault, is_letter -/
def spFault (K : PySem.W.Frag) : Sp := fun vs H Q _ => ∃ (x : V) (g : GD), vs = [x] ∧ Gv K H x g ∧ ∀ H', Same H H' → Q (oV g.fault) H'
theorem bad1_at : ∀ (gs : List GD) (k i : Nat), (∀ j, j < i → ∀ g : GD, gs[j]? = some g → GD.part 3 g = true) → ∀ g : GD, gs[i]? = some g → GD.part 3 g = false → bad1 k gs = some (k + i)
  | [], k, i, _, g, h, _ => by simp at h
  | a :: gs, k, 0, _, g, h, b => by
    simp at h; subst h
    simp [bad1, b]
  | a :: gs, k, i + 1, p, g, h, b => by
    have a3 := p 0 (Nat.succ_pos i) a rfl
    have ih := bad1_at gs (k + 1) i (fun j hj g' hg => p (j + 1) (by omega) g' (by simpa using hg)) g (by simpa using h) b
    simp [bad1, a3, ih]; omega
theorem bad1_no : ∀ (gs : List GD) (k : Nat), (∀ (j : Nat) (g : GD), gs[j]? = some g → GD.part 3 g = true) → bad1 k gs = none
  | [], k, _ => rfl
  | a :: gs, k, p => by
    have a3 := p 0 a rfl
    have ih := bad1_no gs (k + 1) (fun j g' hg => p (j + 1) g' (by simpa using hg))
    simp [bad1, a3, ih]
theorem sc_letter_fault : FnScope ["thing", "at"] ["thing"] (defScope s_letter_fault) :=
  ⟨rfl, rfl, rfl, by decide +kernel, rfl, by decide +kernel, by decide +kernel⟩
theorem ok_fault (F : Fn K mg "letter_fault" s_letter_fault) (T : Bk mg) (C_word : Cal P w K mg base "_is_word" 1 ["thing"] (spWord K))
    (C_thing : Cal P w K mg base "_is_thing" 5 ["thing", "around"] (spIsThing K 4)) : Cal P w K mg base "letter_fault" 6 ["thing"] (spFault K) := by
  refine cal_of F sc_letter_fault
    (fun _ _ _ _ _ _ us hl => match us, hl with | [_], _ => rfl) ?_ ?_
  · rintro vs H Q E ⟨x, g, rfl, _⟩
    rfl
  rintro f cdv A outer s H vs Q E free hr ⟨x, g, rfl, hx, q⟩
  refine ⟨_, (pss_cons (ps_if (PW.pt (pw_or (pt_not (pt_val (pe_callB call_isi (by rfl) T.isinstance (by decide +kernel) (pa_cons (pv 0) (pa_cons (pe_bltn (v := .ty "tuple") (by rfl) T.tuple (by decide +kernel) rfl) pa_nil))))) (pw_or (pt_cmpR op_eq (pe_callB call_len_seq (by rfl) T.len (by decide +kernel) (pa_cons (pv 0) pa_nil)) pe_int (nomark _)) (pw_or1 (pt_not (pt_val (pe_cal C_word free (hr.mono (by decide)) (pa_cons (pe_ix ix_tup (pv 0) pe_int (fun _ _ => rfl)) pa_nil))))))))
    (pss_one (ps_ret pe_int))
    pss_nil)
    (pss_cons (ps_for PassesOwn.never rfl (pi_range2 (by rfl) T.range (pa_cons pe_int (pa_cons (pe_callB call_len_seq (by rfl) T.len (by decide +kernel) (pa_cons (pv 0) pa_nil)) pa_nil))) (pg_name (i := 1) sc_letter_fault.nd rfl (Or.inl rfl))
    (pss_one (ps_if (pt_not (pt_val (pe_cal C_thing free hr (pa_cons (pe_ix ix_tup (pv 0) (pv 1) (fun _ _ => rfl)) (pa_cons pe_int pa_nil)))))
    (pss_one (ps_ret (pv 1)))
    pss_nil)))
    (pss_one (ps_ret pe_non)))), ?_⟩
  refine ⟨_, rfl, x, .ty "tuple", _, _, _, rfl, .ty _, gv_ty hx, kit_tup g, _, rfl, ?_⟩
  cases hx with
  | non => exact iteT' rfl (q H (Same.refl H))
  | bl _ => exact iteT' rfl (q H (Same.refl H))
  | int _ => exact iteT' rfl (q H (Same.refl H))
  | str _ => exact iteT' rfl (q H (Same.refl H))
  | lst _ => exact iteT' rfl (q H (Same.refl H))
  | dct _ => exact iteT' rfl (q H (Same.refl H))
  | tup e xl a =>
    rename_i p xs gs
    refine iteF' rfl ⟨_, rfl, p, _, rfl, .inr e, rfl, _, rfl, ?_⟩
    have hl := gvs_len a
    cases a with
    | nil => exact iteT' rfl (q H (Same.refl H))
    | cons hw ha =>
      rename_i v vs g gs
      refine iteF' (by simp; omega) ?_
      refine ⟨_, rfl, p, _, _, _, rfl, rfl, e, atI_nat (j := 0) rfl, v, g, rfl, hw, fun H1 s1 => ?_⟩
      refine ⟨_, rfl, ?_⟩
      cases wg : g.word with
      | false =>
        refine iteT' rfl ?_
        have z : Q (.int 0) H1 := by simpa [GD.fault, wg, oV] using q H1 s1
        exact z
      | true =>
        refine iteF' rfl ?_
        have l' : vs.length = gs.length := by simpa using hl
        refine ⟨_, rfl, p, _, rfl, .inr (sqt_same s1 e), _, _, rfl, by simp at xl ⊢; omega, ?_⟩
        have fa : GD.fault (.tup (g :: gs)) = bad1 1 gs := by simp [GD.fault, wg]
        refine for_range (lo := 1) (n := ((((v :: vs).length : Nat) : Int) - 1).toNat) (fun i σ G => (∃ z : Option V, σ = [some (.ref p), z]) ∧ Same H G ∧ ∀ j, j < i → ∀ g : GD, gs[j]? = some g → GD.part 3 g = true)
          ⟨⟨_, rfl⟩, s1, fun j h => absurd h (Nat.not_lt_zero j)⟩ ?_ ?_
        · rintro i σ G hi ⟨⟨z, rfl⟩, sG, hp⟩
          have hi' : i < vs.length := by simp at hi; omega
          have at1 : (v :: vs)[1 + i]? = some vs[i] := by rw [show 1 + i = i + 1 by omega, List.getElem?_cons_succ, List.getElem?_eq_getElem hi']
          have at2 : atI (v :: vs) ((1 : Int) + (i : Int)) = some vs[i] := by
            have := atI_nat at1
            rwa [show ((1 + i : Nat) : Int) = 1 + (i : Int) by omega] at this
          obtain ⟨gi, hgi, hy⟩ := gvs_get ha (List.getElem?_eq_getElem hi')
          refine ⟨_, rfl, _, rfl, p, _, _, _, rfl, rfl, sqt_same sG e, at2, _, gi, rfl, by decide, gv_same sG _ _ hy, fun G2 s2 => ?_⟩
          refine ⟨_, rfl, ?_⟩
          cases pg : GD.part 3 gi with
          | true =>
            refine iteF' rfl ⟨⟨_, rfl⟩, sG.trans s2, fun j hj g' hg' => ?_⟩
            rcases Nat.lt_or_ge j i with lt | ge
            · exact hp j lt g' hg'
            · have : j = i := by omega
              subst this
              rw [hgi] at hg'
              cases hg'
              exact pg
          | false =>
            refine iteT' rfl ?_
            have b := bad1_at gs 1 i hp gi hgi pg
            have := q G2 (sG.trans s2)
            rw [fa, b] at this
            exact ⟨_, rfl, by simpa [oV] using this⟩
        · rintro σ G ⟨⟨z, rfl⟩, sG, hp⟩
          have b := bad1_no gs 1 (fun j g' hg' => hp j (by
            have := (List.getElem?_eq_some_iff.mp hg').1
            simp; omega) g' hg')
          have := q G sG
          rw [fa, b] at this
          exact this
def spIsLetter (K : PySem.W.Frag) : Sp := fun vs H Q _ => ∃ (x : V) (g : GD), vs = [x] ∧ Gv K H x g ∧ ∀ H', Same H H' → Q (.bl (decide (g.fault = none))) H'
theorem sc_is_letter : FnScope ["thing"] ["thing"] (defScope s_is_letter) :=
  ⟨rfl, rfl, rfl, by decide +kernel, rfl, by decide +kernel, by decide +kernel⟩
theorem ok_isletter (F : Fn K mg "is_letter" s_is_letter) (C_letter_fault : Cal P w K mg base "letter_fault" 6 ["thing"] (spFault K)) :
    Cal P w K mg base "is_letter" 7 ["thing"] (spIsLetter K) := by
  refine cal_of F sc_is_letter
    (fun _ _ _ _ _ _ us hl => match us, hl with | [_], _ => rfl) ?_ ?_
  · rintro vs H Q E ⟨x, g, rfl, _⟩
    rfl
  rintro f cdv A outer s H vs Q E free hr ⟨x, g, rfl, hx, q⟩
  refine ⟨_, (pss_one (ps_ret (pe_cmpR op_isN (pe_cal C_letter_fault free hr (pa_cons (pv 0) pa_nil)) pe_non (nomark _)))), ?_⟩
  refine ⟨_, rfl, x, g, rfl, hx, fun H1 s1 => ⟨rfl, ?_⟩⟩
  have := q H1 s1
  cases e : g.fault <;> simpa [e, oV] using this
end

end G0
namespace G0
open PySem PySem.Spec PyProof.Rows L2
section
variable {P : Program} {w : World} {K : PySem.W.Frag} {mg : Str → Option Value} {base : Heap}
/-! ### the law's own look -/
def GD.whole : GD → Bool | .int _ => true | _ => false
def spWhole (K : PySem.W.Frag) : Sp := fun vs H Q _ => ∃ (x : V) (g : GD), vs = [x] ∧ Gv K H x g ∧ Q (.bl g.whole) H
theorem sc_law_whole : FnScope ["given"] ["given"] (defScope s_law_whole) :=
  ⟨rfl, rfl, rfl, by decide +kernel, rfl, by decide +kernel, by decide +kernel⟩
theorem ok_whole (F : Fn K mg "_law_whole" s_law_whole) (T : Bk mg) : Cal P w K mg base "_law_whole" 1 ["given"] (spWhole K) := by
  refine cal_of F sc_law_whole
    (fun _ _ _ _ _ _ us hl => match us, hl with | [_], _ => rfl) ?_ ?_
  · rintro vs H Q E ⟨x, g, rfl, _⟩
    rfl
  rintro f cdv A outer s H vs Q E free hr ⟨x, g, rfl, hx, q⟩
  refine ⟨_, (pss_one (ps_ret (pe_and (pe_callB call_isi (by rfl) T.isinstance (by decide +kernel) (pa_cons (pv 0) (pa_cons (pe_bltn (v := .ty "int") (by rfl) T.int (by decide +kernel) rfl) pa_nil))) (pe_one (pe_not (pe_callB call_isi (by rfl) T.isinstance (by decide +kernel) (pa_cons (pv 0) (pa_cons (pe_bltn (v := .ty "bool") (by rfl) T.bool (by decide +kernel) rfl) pa_nil)))))))), ?_⟩
  refine ⟨_, rfl, x, .ty "int", _, _, _, rfl, .ty _, gv_ty hx, kit_int g, _, rfl, ?_⟩
  cases hx with
  | int i => exact iteT' rfl ⟨_, rfl, _, .ty "bool", _, _, _, rfl, .ty _, .base (.int i), kit_bool (.int i), _, rfl, q⟩
  | bl b => exact iteT' rfl ⟨_, rfl, _, .ty "bool", _, _, _, rfl, .ty _, .base (.bl b), kit_bool (.bl b), _, rfl, q⟩
  | non => exact iteF' rfl q
  | str _ => exact iteF' rfl q
  | lst _ => exact iteF' rfl q
  | dct _ => exact iteF' rfl q
  | tup _ _ _ => exact iteF' rfl q
/-! ### _law_is_word -/
theorem no_odd : ∀ cs : List Nat, (cs.filter fun c => !decide (c ∈ signs)).isEmpty = cs.all fun c => decide (c ∈ signs)
  | [] => rfl
  | c :: r => by
    by_cases h : c ∈ signs
    · simp [h, no_odd r]
    · simp [h]
theorem sc_law_is_word : FnScope ["given", "sign"] ["given"] (defScope s_law_is_word) :=
  ⟨rfl, rfl, rfl, by decide +kernel, rfl, by decide +kernel, by decide +kernel⟩
theorem ok_lword (F : Fn K mg "_law_is_word" s_law_is_word) (T : Bk mg) : Cal P w K mg base "_law_is_word" 1 ["given"] (spWord K) := by
  refine cal_of F sc_law_is_word
    (fun _ _ _ _ _ _ us hl => match us, hl with | [_], _ => rfl) ?_ ?_
  · rintro vs H Q E ⟨x, g, rfl, _⟩
    rfl
  rintro f cdv A outer s H vs Q E free hr ⟨x, g, rfl, hx, q⟩
  refine ⟨_, (pss_cons (ps_if (PW.pt (pw_or (pt_not (pt_val (pe_callB call_isi (by rfl) T.isinstance (by decide +kernel) (pa_cons (pv 0) (pa_cons (pe_bltn (v := .ty "str") (by rfl) T.str (by decide +kernel) rfl) pa_nil))))) (pw_or (pt_not (pt_chain op_le op_le pe_int (pe_callB call_len_str (by rfl) T.len (by decide +kernel) (pa_cons (pv 0) pa_nil)) pe_int)) (pw_or1 (pt_cmpR op_eq (pv 0) pe_str (nomark _))))))
    (pss_one (ps_ret pe_bl))
    pss_nil)
    (pss_one (ps_ret (pe_cmpR (op_eqNil hr.units0) (pe_lc (own := [("sign", 1)]) (g := gName 1)  (by rfl) sc_law_is_word.nd (pi_str (pv 0)) (blkOk_by (N := ["given", "sign"]) (sc := defScope s_law_is_word) (by decide +kernel)) (fun _ _ _ _ _ => pg_name (i := 1) sc_law_is_word.nd rfl (Or.inl rfl)) (fun _ _ _ _ _ => pts_one (pt_cmpR op_notInS (pv 1) pe_str (by rfl))) (fun _ _ _ _ _ => (pv 1))) (pe_lst pa_nil) (nomark _))))), ?_⟩
  refine ⟨_, rfl, x, .ty "str", _, _, _, rfl, .ty _, gv_ty hx, kit_str g, _, rfl, ?_⟩
  cases hx with
  | str hz =>
    rename_i z
    have zl : z.length ≤ sizeLine := Nat.le_trans hz (by decide)
    have no : wordB z = false → Q (.bl false) H := fun e => by
      have := q H (Same.refl H)
      simp only [GD.word] at this
      rwa [e] at this
    refine iteF' rfl ⟨_, rfl, z, rfl, zl, _, _, rfl, rfl, _, rfl, ?_⟩
    refine ite2 (fun c1 => ?_) (fun c1 => ?_)
    · have l1 : 1 ≤ z.length := by have := of_decide_eq_true c1; omega
      refine ⟨_, _, rfl, rfl, _, rfl, ?_⟩
      by_cases l8 : z.length ≤ 8
      · refine iteF' (c := !decide (((z.length : Nat) : Int) ≤ 8)) (by simp; omega) ?_
        refine ⟨_, rfl, rfl, _, rfl, ?_⟩
        refine ite2 (fun cg => ?_) (fun cg => ?_)
        · exact no (by have : z = "gone" := V.str.inj (of_decide_eq_true cg); simp [wordB, this])
        · have ng : z ≠ "gone" := fun e => cg (decide_eq_true (congrArg V.str e))
          refine ⟨_, rfl, z, rfl, fun D hD => ?_⟩
          have zs : z.cps.toList.length = z.length := by simp [Str.length]
          refine lc_str (fun i G => Same H G ∧ G D = some (.lst (((z.cps.toList.take i).filter fun c => !decide (c ∈ signs)).map fun c => V.str ⟨#[c]⟩))) ⟨same_upd hD, upd_same⟩ ?_ ?_
          · rintro i c G hc ⟨sG, hG⟩
            have hc' : z.cps.toList[i]? = some c := by rw [Array.getElem?_toList]; exact hc
            have hi := (List.getElem?_eq_some_iff.mp hc').1
            refine ⟨rfl, _, rfl, c, _, rfl, rfl, _, rfl, ?_⟩
            show (if (!decide (c ∈ signs)) = true then _ else _)
            refine ite2 (fun k => ?_) (fun k => ?_)
            · refine ⟨_, rfl, _, hG, ?_, fun b o e => ?_, ?_⟩
              · rw [List.length_map]
                refine small_of' (Nat.le_trans (List.length_filter_le _ _) ?_)
                rw [List.length_take]; omega
              · rw [upd_ne (ne_of_none e hD)]; exact sG b o e
              · rw [upd_same, List.take_succ, hc', List.filter_append, List.map_append]
                simp only [Option.toList, List.filter_cons, k, if_true, List.filter_nil, List.map_cons, List.map_nil]
            · refine ⟨sG, ?_⟩
              rw [hG, List.take_succ, hc', List.filter_append]
              simp only [Option.toList, List.filter_cons, if_neg k, List.filter_nil, List.append_nil]
          · rintro G ⟨sG, hG⟩
            have ez : z.cps.toList.take z.cps.size = z.cps.toList := List.take_of_length_le (by simp)
            rw [ez] at hG
            refine ⟨Nat.zero_le _, fun D2 hD2 => ⟨D, D2, _, rfl, rfl, .inl ⟨SqL.of (same_upd hD2 _ _ hG), SqL.of upd_same⟩, ?_⟩⟩
            have q' := q _ (sG.trans (same_upd (o := .lst []) hD2))
            have wz : wordB z = (z.cps.toList.all fun c => decide (c ∈ signs)) := by simp [wordB, l1, l8, ng]
            have ee : (((z.cps.toList.filter fun c => !decide (c ∈ signs)).map fun c => V.str ⟨#[c]⟩)).isEmpty = wordB z := by
              rw [wz, ← no_odd, List.isEmpty_map]
            rw [ee]
            exact q'
      · refine iteT' (c := !decide (((z.length : Nat) : Int) ≤ 8)) (by simp; omega) ?_
        exact no (by simp [wordB, l8])
    · refine ⟨_, rfl, iteT' rfl ?_⟩
      have l1 : ¬ 1 ≤ z.length := fun h => c1 (decide_eq_true (by omega))
      exact no (by simp [wordB, l1])
  | bl b => exact iteT' rfl (q H (Same.refl H))
  | non => exact iteT' rfl (q H (Same.refl H))
  | int i => exact iteT' rfl (q H (Same.refl H))
  | lst _ => exact iteT' rfl (q H (Same.refl H))
  | dct _ => exact iteT' rfl (q H (Same.refl H))
  | tup _ _ _ => exact iteT' rfl (q H (Same.refl H))
end

end G0
namespace G0
open PySem PySem.Spec PyProof.Rows L2
section
variable {P : Program} {w : World} {K : PySem.W.Frag} {mg : Str → Option Value} {base : Heap}
/-! ### _law_is_part -/
def spIsPart (K : PySem.W.Frag) : Nat → Sp
  | 0 => fun _ _ _ _ => False
  | n + 1 => fun vs H Q _ => ∃ (x : V) (g : GD), vs = [x, .int (4 - (n : Int))] ∧ n ≤ 3 ∧ Gv K H x g ∧ (∀ H', Same H H' → Q (.bl (g.part n)) H')
theorem part_num {n : Nat} {g : GD} (h : g.isTup = false) : g.part n = (g.whole && g.less (10 ^ 60)) := by
  cases g <;> cases n <;> simp_all [GD.part, GD.less, GD.isTup, GD.whole]
theorem sc_law_is_part : FnScope ["given", "round_it", "part"] ["given", "round_it"] (defScope s_law_is_part) :=
  ⟨rfl, rfl, rfl, by decide +kernel, rfl, by decide +kernel, by decide +kernel⟩
theorem ok_ispart (n : Nat) (F : Fn K mg "_law_is_part" s_law_is_part) (T : Bk mg) (C_whole : Cal P w K mg base "_law_whole" 1 ["given"] (spWhole K))
    (C_part : Cal P w K mg base "_law_is_part" (n + 1) ["given", "round_it"] (spIsPart K n)) : Cal P w K mg base "_law_is_part" (n + 1 + 1) ["given", "round_it"] (spIsPart K (n + 1)) := by
  refine cal_of F sc_law_is_part
    (fun _ _ _ _ _ _ us hl => match us, hl with | [_, _], _ => rfl) ?_ ?_
  · rintro vs H Q E ⟨x, g, rfl, _⟩
    rfl
  rintro f cdv A outer s H vs Q E free hr ⟨x, g, rfl, n3, hx, q⟩
  refine ⟨_, (pss_cons (ps_if (pt_val (pe_callB call_isi (by rfl) T.isinstance (by decide +kernel) (pa_cons (pv 0) (pa_cons (pe_bltn (v := .ty "tuple") (by rfl) T.tuple (by decide +kernel) rfl) pa_nil))))
    (pss_one (ps_ret (pe_and (pe_cmpR op_lt (pv 1) pe_int (nomark _)) (pe_one (pe_cmpR (op_eqNil hr.units0) (pe_lc (own := [("part", 2)]) (g := gName 2)  (by rfl) sc_law_is_part.nd (pi_tup (pv 0)) (blkOk_by (N := ["given", "round_it", "part"]) (sc := defScope s_law_is_part) (by decide +kernel)) (fun _ _ _ _ _ => pg_name (i := 2) sc_law_is_part.nd rfl (Or.inl rfl)) (fun _ _ _ _ _ => pts_one (pt_not (pt_val (pe_cal C_part free hr (pa_cons (pv 2) (pa_cons (pe_op op_add (pv 1) pe_int) pa_nil)))))) (fun _ _ _ _ _ => (pv 2))) (pe_lst pa_nil) (nomark _))))))
    pss_nil)
    (pss_one (ps_ret (pe_and (pe_cal C_whole free (hr.mono (by omega)) (pa_cons (pv 0) pa_nil)) (pe_one (pe_chain op_le op_lt pe_int (pv 0) (pe_op op_pow pe_int pe_int))))))), ?_⟩
  refine ⟨_, rfl, x, .ty "tuple", _, _, _, rfl, .ty _, gv_ty hx, kit_tup g, _, rfl, ?_⟩
  cases tg : g.isTup with
  | false =>
    refine iteF' rfl ⟨_, rfl, x, g, rfl, hx, _, rfl, ?_⟩
    have q' := q H (Same.refl H)
    rw [part_num tg] at q'
    cases hx with
    | int i =>
      refine iteT' rfl ⟨_, rfl, _, _, rfl, rfl, _, rfl, ?_⟩
      refine ite2 (fun c => ⟨_, _, rfl, rfl, ⟨by decide, by decide, by decide⟩, _, _, rfl, rfl, ?_⟩) (fun c => ?_)
      · have c' : 0 ≤ i := of_decide_eq_true c
        have e60 : ((10 : Int) ^ (Int.toNat 60)) = 10 ^ 60 := rfl
        rw [e60]
        simpa [GD.less, GD.whole, c'] using q'
      · have c' : ¬ 0 ≤ i := fun z => c (decide_eq_true z)
        simpa [GD.less, GD.whole, c'] using q'
    | bl b => exact iteF' rfl q'
    | non => exact iteF' rfl q'
    | str _ => exact iteF' rfl q'
    | lst _ => exact iteF' rfl q'
    | dct _ => exact iteF' rfl q'
    | tup _ _ _ => cases tg
  | true =>
    refine iteT' rfl ?_
    cases hx with
    | non => cases tg
    | bl _ => cases tg
    | int _ => cases tg
    | str _ => cases tg
    | lst _ => cases tg
    | dct _ => cases tg
    | tup e xl a =>
      rename_i p xs gs
      refine ⟨_, rfl, _, _, rfl, rfl, _, rfl, ?_⟩
      refine ite2 (fun c => ?_) (fun c => ?_)
      · obtain ⟨m, rfl⟩ : ∃ m, n = m + 1 := by
          refine ⟨n - 1, ?_⟩
          have : (4 : Int) - (n : Int) < 4 := of_decide_eq_true c
          omega
        refine ⟨_, rfl, p, rfl, ⟨_, e⟩, fun D hD => ?_⟩
        have hl := gvs_len a
        refine lc_tup (K := K) (a := p) (xs := xs) (fun i G => Same H G ∧ ∃ vs : List V, G D = some (.lst vs) ∧ vs.isEmpty = ((gs.take i).map (GD.part m)).all id ∧ vs.length ≤ i)
          ⟨same_upd hD, [], upd_same, rfl, Nat.le_refl _⟩ (fun i G _ h => sqt_same h.1 e) ?_ ?_
        · rintro i y G hi ⟨sG, vs, hG, he, hv⟩
          obtain ⟨gi, hgi, hy⟩ := gvs_get a hi
          have il : i < xs.length := (List.getElem?_eq_some_iff.mp hi).1
          refine ⟨rfl, _, rfl, _, rfl, _, _, rfl, rfl, y, gi, (by show [y, V.int (4 - ((m + 1 : Nat) : Int) + 1)] = _; rw [show (4 - ((m + 1 : Nat) : Int) + 1) = 4 - (m : Int) by omega]), by omega, gv_same sG _ _ hy, fun G2 s2 => ⟨_, rfl, ?_⟩⟩
          have tk : (gs.take (i + 1)).map (GD.part m) = (gs.take i).map (GD.part m) ++ [GD.part m gi] := by rw [List.take_succ, hgi, List.map_append]; rfl
          cases pg : GD.part m gi with
          | true =>
            refine iteF' rfl ⟨sG.trans s2, vs, s2 _ _ hG, ?_, by omega⟩
            rw [tk, List.all_append, ← he, pg]; simp
          | false =>
            refine iteT' rfl ⟨_, rfl, vs, s2 _ _ hG, small_of' (by omega), fun b o z => ?_, vs ++ [y], upd_same, ?_, by rw [List.length_append, List.length_singleton]; omega⟩
            · rw [upd_ne (ne_of_none z hD)]; exact s2 _ _ (sG b o z)
            · rw [tk, List.all_append, pg]; simp
        · rintro G ⟨sG, vs, hG, he, hv⟩
          refine ⟨Nat.zero_le _, fun D2 hD2 => ⟨D, D2, vs, rfl, rfl, .inl ⟨SqL.of (same_upd hD2 _ _ hG), SqL.of upd_same⟩, ?_⟩⟩
          have eg : gs.take xs.length = gs := List.take_of_length_le (by omega)
          rw [eg, ← parts_all] at he
          rw [he]
          have := q _ (sG.trans (same_upd (o := .lst []) hD2))
          simpa only [GD.part] using this
      · have n0 : n = 0 := by
          have : ¬ (4 : Int) - (n : Int) < 4 := fun z => c (decide_eq_true z)
          omega
        subst n0
        exact q H (Same.refl H)
theorem ok_isparts (F : Fn K mg "_law_is_part" s_law_is_part) (T : Bk mg) (C_whole : Cal P w K mg base "_law_whole" 1 ["given"] (spWhole K)) :
    ∀ n, Cal P w K mg base "_law_is_part" (n + 1) ["given", "round_it"] (spIsPart K n)
  | 0 => (cal_no F (fun _ _ _ _ _ _ us hl => match us, hl with | [_, _], _ => rfl) ).mono (by decide)
  | n + 1 => ok_ispart n F T C_whole (ok_isparts F T C_whole n)
end

end G0
namespace G0
open PySem PySem.Spec PyProof.Rows L2
section
variable {P : Program} {w : World} {K : PySem.W.Frag} {mg : Str → Option Value} {base : Heap}
theorem sc_law_fault : FnScope ["given", "place"] ["given"] (defScope s_law_fault) :=
  ⟨rfl, rfl, rfl, by decide +kernel, rfl, by decide +kernel, by decide +kernel⟩
theorem ok_lfault (F : Fn K mg "_law_fault" s_law_fault) (T : Bk mg) (C_is_word : Cal P w K mg base "_law_is_word" 1 ["given"] (spWord K))
    (C_is_part : Cal P w K mg base "_law_is_part" 5 ["given", "round_it"] (spIsPart K 4)) : Cal P w K mg base "_law_fault" 6 ["given"] (spFault K) := by
  refine cal_of F sc_law_fault
    (fun _ _ _ _ _ _ us hl => match us, hl with | [_], _ => rfl) ?_ ?_
  · rintro vs H Q E ⟨x, g, rfl, _⟩
    rfl
  rintro f cdv A outer s H vs Q E free hr ⟨x, g, rfl, hx, q⟩
  refine ⟨_, (pss_cons (ps_if (PW.pt (pw_or (pt_not (pt_val (pe_callB call_isi (by rfl) T.isinstance (by decide +kernel) (pa_cons (pv 0) (pa_cons (pe_bltn (v := .ty "tuple") (by rfl) T.tuple (by decide +kernel) rfl) pa_nil))))) (pw_or (pt_cmpR (op_eqNil hr.units0) (pv 0) (pe_tup pa_nil) (nomark _)) (pw_or1 (pt_not (pt_val (pe_cal C_is_word free (hr.mono (by decide)) (pa_cons (pe_ix ix_tup (pv 0) pe_int (fun _ _ => rfl)) pa_nil))))))))
    (pss_one (ps_ret pe_int))
    pss_nil)
    (pss_cons (ps_for PassesOwn.never rfl (pi_range2 (by rfl) T.range (pa_cons pe_int (pa_cons (pe_callB call_len_seq (by rfl) T.len (by decide +kernel) (pa_cons (pv 0) pa_nil)) pa_nil))) (pg_name (i := 1) sc_law_fault.nd rfl (Or.inl rfl))
    (pss_one (ps_if (pt_not (pt_val (pe_cal C_is_part free (hr.mono (by decide)) (pa_cons (pe_ix ix_tup (pv 0) (pv 1) (fun _ _ => rfl)) (pa_cons pe_int pa_nil)))))
    (pss_one (ps_ret (pv 1)))
    pss_nil)))
    (pss_one (ps_ret pe_non)))), ?_⟩
  refine ⟨_, rfl, x, .ty "tuple", _, _, _, rfl, .ty _, gv_ty hx, kit_tup g, _, rfl, ?_⟩
  cases hx with
  | non => exact iteT' rfl (q H (Same.refl H))
  | bl _ => exact iteT' rfl (q H (Same.refl H))
  | int _ => exact iteT' rfl (q H (Same.refl H))
  | str _ => exact iteT' rfl (q H (Same.refl H))
  | lst _ => exact iteT' rfl (q H (Same.refl H))
  | dct _ => exact iteT' rfl (q H (Same.refl H))
  | tup e xl a =>
    rename_i p xs gs
    refine iteF' rfl ⟨_, rfl, Nat.zero_le _, fun t ht => ⟨p, t, xs, rfl, rfl, .inr ⟨sqt_same (same_upd ht) e, SqT.of upd_same⟩, _, rfl, ?_⟩⟩
    have st := same_upd (o := .tup []) ht
    have hl := gvs_len a
    cases a with
    | nil => exact iteT' rfl (q _ st)
    | cons hw ha =>
      rename_i v vs g gs
      refine iteF' rfl ?_
      refine ⟨_, rfl, p, _, _, _, rfl, rfl, sqt_same st e, atI_nat (j := 0) rfl, v, g, rfl, gv_same st _ _ hw, fun H1 s1' => ?_⟩
      have s1 := st.trans s1'
      refine ⟨_, rfl, ?_⟩
      cases wg : g.word with
      | false =>
        refine iteT' rfl ?_
        have z : Q (.int 0) H1 := by simpa [GD.fault, wg, oV] using q H1 s1
        exact z
      | true =>
        refine iteF' rfl ?_
        have l' : vs.length = gs.length := by simpa using hl
        refine ⟨_, rfl, p, _, rfl, .inr (sqt_same s1 e), _, _, rfl, by simp at xl ⊢; omega, ?_⟩
        have fa : GD.fault (.tup (g :: gs)) = bad1 1 gs := by simp [GD.fault, wg]
        refine for_range (lo := 1) (n := ((((v :: vs).length : Nat) : Int) - 1).toNat) (fun i σ G => (∃ z : Option V, σ = [some (.ref p), z]) ∧ Same H G ∧ ∀ j, j < i → ∀ g : GD, gs[j]? = some g → GD.part 3 g = true)
          ⟨⟨_, rfl⟩, s1, fun j h => absurd h (Nat.not_lt_zero j)⟩ ?_ ?_
        · rintro i σ G hi ⟨⟨z, rfl⟩, sG, hp⟩
          have hi' : i < vs.length := by simp at hi; omega
          have at1 : (v :: vs)[1 + i]? = some vs[i] := by rw [show 1 + i = i + 1 by omega, List.getElem?_cons_succ, List.getElem?_eq_getElem hi']
          have at2 : atI (v :: vs) ((1 : Int) + (i : Int)) = some vs[i] := by
            have := atI_nat at1
            rwa [show ((1 + i : Nat) : Int) = 1 + (i : Int) by omega] at this
          obtain ⟨gi, hgi, hy⟩ := gvs_get ha (List.getElem?_eq_getElem hi')
          refine ⟨_, rfl, _, rfl, p, _, _, _, rfl, rfl, sqt_same sG e, at2, _, gi, rfl, by decide, gv_same sG _ _ hy, fun G2 s2 => ?_⟩
          refine ⟨_, rfl, ?_⟩
          cases pg : GD.part 3 gi with
          | true =>
            refine iteF' rfl ⟨⟨_, rfl⟩, sG.trans s2, fun j hj g' hg' => ?_⟩
            rcases Nat.lt_or_ge j i with lt | ge
            · exact hp j lt g' hg'
            · have : j = i := by omega
              subst this
              rw [hgi] at hg'
              cases hg'
              exact pg
          | false =>
            refine iteT' rfl ?_
            have b := bad1_at gs 1 i hp gi hgi pg
            have := q G2 (sG.trans s2)
            rw [fa, b] at this
            exact ⟨_, rfl, by simpa [oV] using this⟩
        · rintro σ G ⟨⟨z, rfl⟩, sG, hp⟩
          have b := bad1_no gs 1 (fun j g' hg' => hp j (by
            have := (List.getElem?_eq_some_iff.mp hg').1
            simp; omega) g' hg')
          have := q G sG
          rw [fa, b] at this
          exact this
/-! ### odd things -/
def spOdd (K : PySem.W.Frag) : Sp := fun vs H Q _ => ∃ (p : Addr) (n : Nat), vs = [.ref p] ∧ PotAt n H p ∧ n < 100000000 ∧
  ∀ (v : V) (g : GD) (H' : Hp), Gv K H' v g → Chg p H H' → PotAt (n + 1) H' p → Q v H'
theorem sc_law_odd : FnScope ["pot", "some"] ["pot"] (defScope s_law_odd) :=
  ⟨rfl, rfl, rfl, by decide +kernel, rfl, by decide +kernel, by decide +kernel⟩
theorem ok_odd (F : Fn K mg "_law_odd" s_law_odd) (C_take : Cal P w K mg base "_law_take" 1 ["pot", "many"] spT) : Cal P w K mg base "_law_odd" 2 ["pot"] (spOdd K) := by
  refine cal_of F sc_law_odd
    (fun _ _ _ _ _ _ us hl => match us, hl with | [_], _ => rfl) ?_ ?_
  · rintro vs H Q E ⟨p, n, rfl, _⟩
    rfl
  rintro f cdv A outer s H vs Q E free hr ⟨p, n, rfl, hP, hn, q⟩
  refine ⟨_, (pss_cons (ps_set (i := 1) sc_law_odd.nd rfl (Or.inl rfl) (pe_lst (pa_cons (pe_un un_neg pe_int) (pa_cons (pe_op op_pow pe_int pe_int) (pa_cons pe_bl (pa_cons pe_bl (pa_cons pe_str (pa_cons pe_non (pa_cons (pe_lst pa_nil) (pa_cons pe_dnewK (pa_cons (pe_tup (pa_cons pe_bl pa_nil)) (pa_cons (pe_tup (pa_cons (pe_tup (pa_cons (pe_tup (pa_cons (pe_tup pa_nil) pa_nil)) pa_nil)) pa_nil)) (pa_cons (pe_tup (pa_cons (pe_tup (pa_cons (pe_tup pa_nil) pa_nil)) pa_nil)) (pa_cons (pe_tup (pa_cons pe_str pa_nil)) (pa_cons (pe_tup (pa_cons (pe_un un_neg pe_int) pa_nil)) (pa_cons (pe_op op_sub (pe_op op_pow pe_int pe_int) pe_int) pa_nil))))))))))))))))
    (pss_one (ps_ret (pe_ix ix_list (pv 1) (pe_cal C_take free (hr.mono (by decide)) (pa_cons (pv 0) (pa_cons pe_int pa_nil))) (fun _ _ => rfl))))), ?_⟩
  refine ⟨_, rfl, _, _, rfl, rfl, ⟨by decide, by decide, by decide⟩, Nat.zero_le _, fun a1 ha1 => ?_⟩
  obtain ⟨H1, eH1⟩ : ∃ H1, H1 = upd H a1 (.lst []) := ⟨_, rfl⟩
  rw [← eH1]
  have sH1 : Same H H1 := by rw [eH1]; exact same_upd ha1
  have va1 : H1 a1 = some (.lst []) := by rw [eH1]; exact upd_same
  intro a2 ha2
  obtain ⟨H2, eH2⟩ : ∃ H2, H2 = upd H1 a2 (.dK []) := ⟨_, rfl⟩
  rw [← eH2]
  have sH2 : Same H1 H2 := by rw [eH2]; exact same_upd ha2
  have va2 : H2 a2 = some (.dK []) := by rw [eH2]; exact upd_same
  refine ⟨by show 1 ≤ sizeLine; decide, fun a3 ha3 => ?_⟩
  obtain ⟨H3, eH3⟩ : ∃ H3, H3 = upd H2 a3 (.tup [.bl true]) := ⟨_, rfl⟩
  rw [← eH3]
  have sH3 : Same H2 H3 := by rw [eH3]; exact same_upd ha3
  have va3 : H3 a3 = some (.tup [.bl true]) := by rw [eH3]; exact upd_same
  refine ⟨Nat.zero_le _, fun a4 ha4 => ?_⟩
  obtain ⟨H4, eH4⟩ : ∃ H4, H4 = upd H3 a4 (.tup []) := ⟨_, rfl⟩
  rw [← eH4]
  have sH4 : Same H3 H4 := by rw [eH4]; exact same_upd ha4
  have va4 : H4 a4 = some (.tup []) := by rw [eH4]; exact upd_same
  refine ⟨by show 1 ≤ sizeLine; decide, fun a5 ha5 => ?_⟩
  obtain ⟨H5, eH5⟩ : ∃ H5, H5 = upd H4 a5 (.tup [.ref a4]) := ⟨_, rfl⟩
  rw [← eH5]
  have sH5 : Same H4 H5 := by rw [eH5]; exact same_upd ha5
  have va5 : H5 a5 = some (.tup [.ref a4]) := by rw [eH5]; exact upd_same
  refine ⟨by show 1 ≤ sizeLine; decide, fun a6 ha6 => ?_⟩
  obtain ⟨H6, eH6⟩ : ∃ H6, H6 = upd H5 a6 (.tup [.ref a5]) := ⟨_, rfl⟩
  rw [← eH6]
  have sH6 : Same H5 H6 := by rw [eH6]; exact same_upd ha6
  have va6 : H6 a6 = some (.tup [.ref a5]) := by rw [eH6]; exact upd_same
  refine ⟨by show 1 ≤ sizeLine; decide, fun a7 ha7 => ?_⟩
  obtain ⟨H7, eH7⟩ : ∃ H7, H7 = upd H6 a7 (.tup [.ref a6]) := ⟨_, rfl⟩
  rw [← eH7]
  have sH7 : Same H6 H7 := by rw [eH7]; exact same_upd ha7
  have va7 : H7 a7 = some (.tup [.ref a6]) := by rw [eH7]; exact upd_same
  refine ⟨Nat.zero_le _, fun a8 ha8 => ?_⟩
  obtain ⟨H8, eH8⟩ : ∃ H8, H8 = upd H7 a8 (.tup []) := ⟨_, rfl⟩
  rw [← eH8]
  have sH8 : Same H7 H8 := by rw [eH8]; exact same_upd ha8
  have va8 : H8 a8 = some (.tup []) := by rw [eH8]; exact upd_same
  refine ⟨by show 1 ≤ sizeLine; decide, fun a9 ha9 => ?_⟩
  obtain ⟨H9, eH9⟩ : ∃ H9, H9 = upd H8 a9 (.tup [.ref a8]) := ⟨_, rfl⟩
  rw [← eH9]
  have sH9 : Same H8 H9 := by rw [eH9]; exact same_upd ha9
  have va9 : H9 a9 = some (.tup [.ref a8]) := by rw [eH9]; exact upd_same
  refine ⟨by show 1 ≤ sizeLine; decide, fun a10 ha10 => ?_⟩
  obtain ⟨H10, eH10⟩ : ∃ H10, H10 = upd H9 a10 (.tup [.ref a9]) := ⟨_, rfl⟩
  rw [← eH10]
  have sH10 : Same H9 H10 := by rw [eH10]; exact same_upd ha10
  have va10 : H10 a10 = some (.tup [.ref a9]) := by rw [eH10]; exact upd_same
  refine ⟨by show 1 ≤ sizeLine; decide, fun a11 ha11 => ?_⟩
  obtain ⟨H11, eH11⟩ : ∃ H11, H11 = upd H10 a11 (.tup [.str "a"]) := ⟨_, rfl⟩
  rw [← eH11]
  have sH11 : Same H10 H11 := by rw [eH11]; exact same_upd ha11
  have va11 : H11 a11 = some (.tup [.str "a"]) := by rw [eH11]; exact upd_same
  refine ⟨_, rfl, by show 1 ≤ sizeLine; decide, fun a12 ha12 => ?_⟩
  obtain ⟨H12, eH12⟩ : ∃ H12, H12 = upd H11 a12 (.tup [.int (-1)]) := ⟨_, rfl⟩
  rw [← eH12]
  have sH12 : Same H11 H12 := by rw [eH12]; exact same_upd ha12
  have va12 : H12 a12 = some (.tup [.int (-1)]) := by rw [eH12]; exact upd_same
  refine ⟨_, _, rfl, rfl, ⟨by decide, by decide, by decide⟩, _, _, rfl, rfl, by show 14 ≤ sizeLine; decide, fun D hD => ?_⟩
  have sD := same_upd (o := .lst [.int (-1), .int (10 ^ (Int.toNat 60)), .bl true, .bl false, .str "a", .non, .ref a1, .ref a2, .ref a3, .ref a7, .ref a10, .ref a11, .ref a12, .int (10 ^ (Int.toNat 60) - 1)]) hD
  have g1 : Gv K H1 (.ref a1) .lst := .lst va1
  have g2 : Gv K H2 (.ref a2) .dct := .dct va2
  have g3 : Gv K H3 (.ref a3) (.tup [.bl true]) := .tup (SqT.of va3) (by decide) (.cons (.bl _) .nil)
  have g4 : Gv K H4 (.ref a4) (.tup []) := .tup (SqT.of va4) (by decide) .nil
  have g5 : Gv K H5 (.ref a5) (.tup [.tup []]) := .tup (SqT.of va5) (by simp) (.cons (gv_same sH5 _ _ g4) .nil)
  have g6 : Gv K H6 (.ref a6) (.tup [.tup [.tup []]]) := .tup (SqT.of va6) (by simp) (.cons (gv_same sH6 _ _ g5) .nil)
  have g7 : Gv K H7 (.ref a7) (.tup [.tup [.tup [.tup []]]]) := .tup (SqT.of va7) (by simp) (.cons (gv_same sH7 _ _ g6) .nil)
  have g8 : Gv K H8 (.ref a8) (.tup []) := .tup (SqT.of va8) (by decide) .nil
  have g9 : Gv K H9 (.ref a9) (.tup [.tup []]) := .tup (SqT.of va9) (by simp) (.cons (gv_same sH9 _ _ g8) .nil)
  have g10 : Gv K H10 (.ref a10) (.tup [.tup [.tup []]]) := .tup (SqT.of va10) (by simp) (.cons (gv_same sH10 _ _ g9) .nil)
  have g11 : Gv K H11 (.ref a11) (.tup [.str "a"]) := .tup (SqT.of va11) (by decide) (.cons (.str (by decide)) .nil)
  have g12 : Gv K H12 (.ref a12) (.tup [.int (-1)]) := .tup (SqT.of va12) (by decide) (.cons (.int _) .nil)
  have t11 := sH12.trans sD
  have t10 := sH11.trans t11
  have t9 := sH10.trans t10
  have t8 := sH9.trans t9
  have t7 := sH8.trans t8
  have t3 := (((sH4.trans sH5).trans sH6).trans sH7).trans t7
  have t2 := sH3.trans t3
  have t1 := sH2.trans t2
  have t0 := sH1.trans t1
  have PD := hP.keep t0
  have pD : D ≠ p := (PD.lst.elim fun xs h => by
    intro z
    have hp' : H p = some (.lst (hP.lst.choose)) := hP.lst.choose_spec
    have := (((((((((((sH1.trans sH2).trans sH3).trans sH4).trans sH5).trans sH6).trans sH7).trans sH8).trans sH9).trans sH10).trans sH11).trans sH12) _ _ hp'
    rw [z] at hD
    rw [hD] at this
    cases this)
  refine ⟨_, rfl, _, rfl, p, 14, n, rfl, by decide, by decide, PD, by omega, fun d G d0 d1 c P1 => ?_⟩
  obtain ⟨v, hv, at_⟩ := at_any (xs := [V.int (-1), .int (10 ^ (Int.toNat 60)), .bl true, .bl false, .str "a", .non, .ref a1, .ref a2, .ref a3, .ref a7, .ref a10, .ref a11, .ref a12, .int (10 ^ (Int.toNat 60) - 1)]) d0 (by show d < 14; exact d1)
  have all : ∃ g, Gv K (upd H12 D (.lst [.int (-1), .int (10 ^ (Int.toNat 60)), .bl true, .bl false, .str "a", .non, .ref a1, .ref a2, .ref a3, .ref a7, .ref a10, .ref a11, .ref a12, .int (10 ^ (Int.toNat 60) - 1)])) v g := by
    simp only [List.mem_cons, List.not_mem_nil, or_false] at hv
    rcases hv with rfl | rfl | rfl | rfl | rfl | rfl | rfl | rfl | rfl | rfl | rfl | rfl | rfl | rfl
    · exact ⟨_, .int _⟩
    · exact ⟨_, .int _⟩
    · exact ⟨_, .bl _⟩
    · exact ⟨_, .bl _⟩
    · exact ⟨_, .str (by decide)⟩
    · exact ⟨_, .non⟩
    · exact ⟨_, gv_same t1 _ _ g1⟩
    · exact ⟨_, gv_same t2 _ _ g2⟩
    · exact ⟨_, gv_same t3 _ _ g3⟩
    · exact ⟨_, gv_same t7 _ _ g7⟩
    · exact ⟨_, gv_same t10 _ _ g10⟩
    · exact ⟨_, gv_same t11 _ _ g11⟩
    · exact ⟨_, gv_same sD _ _ g12⟩
    · exact ⟨_, .int _⟩
  obtain ⟨g, hg⟩ := all
  refine ⟨D, _, _, _, rfl, rfl, SqL.of (c _ _ pD upd_same), at_, ?_⟩
  exact q v g G (gv_chg PD.lst P1.lst c _ _ hg) ((Chg.same t0).trans c) P1
theorem sc_law_odd_word : FnScope ["pot", "some"] ["pot"] (defScope s_law_odd_word) :=
  ⟨rfl, rfl, rfl, by decide +kernel, rfl, by decide +kernel, by decide +kernel⟩
theorem ok_oddword (F : Fn K mg "_law_odd_word" s_law_odd_word) (C_take : Cal P w K mg base "_law_take" 1 ["pot", "many"] spT) : Cal P w K mg base "_law_odd_word" 2 ["pot"] (spOdd K) := by
  refine cal_of F sc_law_odd_word
    (fun _ _ _ _ _ _ us hl => match us, hl with | [_], _ => rfl) ?_ ?_
  · rintro vs H Q E ⟨p, n, rfl, _⟩
    rfl
  rintro f cdv A outer s H vs Q E free hr ⟨p, n, rfl, hP, hn, q⟩
  refine ⟨_, (pss_cons (ps_set (i := 1) sc_law_odd_word.nd rfl (Or.inl rfl) (pe_lst (pa_cons pe_str (pa_cons pe_str (pa_cons pe_str (pa_cons pe_str (pa_cons pe_str (pa_cons pe_str (pa_cons pe_str (pa_cons pe_non (pa_cons pe_bl (pa_cons pe_int (pa_cons (pe_tup (pa_cons pe_str pa_nil)) (pa_cons pe_str (pa_cons pe_str (pa_cons pe_str (pa_cons pe_str pa_nil)))))))))))))))))
    (pss_one (ps_ret (pe_ix ix_list (pv 1) (pe_cal C_take free (hr.mono (by decide)) (pa_cons (pv 0) (pa_cons pe_int pa_nil))) (fun _ _ => rfl))))), ?_⟩
  refine ⟨by show 1 ≤ sizeLine; decide, fun a1 ha1 => ?_⟩
  obtain ⟨H1, eH1⟩ : ∃ H1, H1 = upd H a1 (.tup [.str "a"]) := ⟨_, rfl⟩
  rw [← eH1]
  have sH1 : Same H H1 := by rw [eH1]; exact same_upd ha1
  have va1 : H1 a1 = some (.tup [.str "a"]) := by rw [eH1]; exact upd_same
  refine ⟨by show 15 ≤ sizeLine; decide, fun D hD => ?_⟩
  obtain ⟨ws, hws⟩ : ∃ ws : List V, ws = [V.str "", .str "gone", .str "Abc", .str "abcdefghi", .str "a b", .str "a1", .str "a_b", .non, .bl true, .int 7, .ref a1, .str "ab\n", .str "a{", .str "a`", .str "abcdefgh"] := ⟨_, rfl⟩
  rw [← hws]
  have sD := same_upd (o := .lst ws) hD
  have g1 : Gv K H1 (.ref a1) (.tup [.str "a"]) := .tup (SqT.of va1) (by decide) (.cons (.str (by decide)) .nil)
  have t0 := sH1.trans sD
  have PD := hP.keep t0
  have pD : D ≠ p := ((hP.keep sH1).neD hD).symm
  have len : ws.length = 15 := by rw [hws]; rfl
  refine ⟨_, rfl, _, rfl, p, 15, n, rfl, by decide, by decide, PD, by omega, fun d G d0 d1 c P1 => ?_⟩
  obtain ⟨v, hv, at_⟩ := at_any (xs := ws) d0 (by rw [len]; exact d1)
  have all : ∃ g, Gv K (upd H1 D (.lst ws)) v g := by
    rw [hws] at hv
    simp only [List.mem_cons, List.not_mem_nil, or_false] at hv
    rcases hv with rfl | rfl | rfl | rfl | rfl | rfl | rfl | rfl | rfl | rfl | rfl | rfl | rfl | rfl | rfl
    · exact ⟨_, .str (by decide)⟩
    · exact ⟨_, .str (by decide)⟩
    · exact ⟨_, .str (by decide)⟩
    · exact ⟨_, .str (by decide)⟩
    · exact ⟨_, .str (by decide)⟩
    · exact ⟨_, .str (by decide)⟩
    · exact ⟨_, .str (by decide)⟩
    · exact ⟨_, .non⟩
    · exact ⟨_, .bl _⟩
    · exact ⟨_, .int _⟩
    · exact ⟨_, gv_same sD _ _ g1⟩
    · exact ⟨_, .str (by decide)⟩
    · exact ⟨_, .str (by decide)⟩
    · exact ⟨_, .str (by decide)⟩
    · exact ⟨_, .str (by decide)⟩
  obtain ⟨g, hg⟩ := all
  refine ⟨D, _, _, _, rfl, rfl, SqL.of (c _ _ pD upd_same), at_, ?_⟩
  exact q v g G (gv_chg PD.lst P1.lst c _ _ hg) ((Chg.same t0).trans c) P1
/-! ### _law_spoilt -/
def spSpoilt (K : PySem.W.Frag) : Sp := fun vs H Q _ => ∃ (p a : Addr) (xs : List V) (gs : List GD) (n : Nat), vs = [.ref p, .ref a] ∧ PotAt n H p ∧ n < 10000000 ∧ SqT K H a xs ∧ GvAll K H xs gs ∧
  1 ≤ xs.length ∧ xs.length ≤ 6 ∧ ∀ (v : V) (g : GD) (H' : Hp), Gv K H' v g → Chg p H H' → PotAt (n + 20) H' p → Q v H'
theorem sc_law_spoilt : FnScope ["pot", "good", "odd", "way", "at"] ["pot", "good"] (defScope s_law_spoilt) :=
  ⟨rfl, rfl, rfl, by decide +kernel, rfl, by decide +kernel, by decide +kernel⟩
theorem ok_spoilt (F : Fn K mg "_law_spoilt" s_law_spoilt) (T : Bk mg) (hlist : mg "list" = none) (C_take : Cal P w K mg base "_law_take" 1 ["pot", "many"] spT)
    (C_number : Cal P w K mg base "_law_number" 2 ["pot"] spNum) (C_odd : Cal P w K mg base "_law_odd" 2 ["pot"] (spOdd K)) (C_odd_word : Cal P w K mg base "_law_odd_word" 2 ["pot"] (spOdd K)) :
    Cal P w K mg base "_law_spoilt" 3 ["pot", "good"] (spSpoilt K) := by
  refine cal_of F sc_law_spoilt
    (fun _ _ _ _ _ _ us hl => match us, hl with | [_, _], _ => rfl) ?_ ?_
  · rintro vs H Q E ⟨p, a, xs, gs, n, rfl, _⟩
    rfl
  rintro f cdv A outer s H vs Q E free hr ⟨p, a, xs, gs, n, rfl, hP, hn, hS, hG, l1, l6, q⟩
  have cut : ∀ lo hi, (cutV xs lo hi).length ≤ 6 := fun lo hi => Nat.le_trans (cutV_length xs lo hi) l6
  refine ⟨_, (pss_cons (ps_set (i := 2) sc_law_spoilt.nd rfl (Or.inl rfl) (pe_cal C_odd free (hr.mono (by decide)) (pa_cons (pv 0) pa_nil)))
    (pss_cons (ps_set (i := 3) sc_law_spoilt.nd rfl (Or.inl rfl) (pe_cal C_take free (hr.mono (by decide)) (pa_cons (pv 0) (pa_cons pe_int pa_nil))))
    (pss_cons (ps_set (i := 4) sc_law_spoilt.nd rfl (Or.inl rfl) (pe_op op_add pe_int (pe_cal C_take free (hr.mono (by decide)) (pa_cons (pv 0) (pa_cons (pe_callB call_len_seq (by rfl) T.len (by decide +kernel) (pa_cons (pv 1) pa_nil)) pa_nil)))))
    (pss_cons (ps_if (pt_cmpR op_lt (pv 3) pe_int (nomark _))
    (pss_one (ps_ret (pe_op op_catA (pe_tup (pa_cons (pe_cal C_odd_word free (hr.mono (by decide)) (pa_cons (pv 0) pa_nil)) pa_nil)) (pe_slice sl_tupA (pv 1) (po_some pe_int) po_none))))
    pss_nil)
    (pss_cons (ps_if (pt_cmpR op_lt (pv 3) pe_int (nomark _))
    (pss_one (ps_ret (pe_op op_catA (pe_op op_catA (pe_slice sl_tupA (pv 1) po_none (po_some (pv 4))) (pe_tup (pa_cons (pv 2) pa_nil))) (pe_slice sl_tupA (pv 1) (po_some (pe_op op_add (pv 4) pe_int)) po_none))))
    pss_nil)
    (pss_cons (ps_if (pt_cmpR op_lt (pv 3) pe_int (nomark _))
    (pss_one (ps_ret (pe_op op_catA (pe_op op_catA (pe_slice sl_tupA (pv 1) po_none (po_some (pv 4))) (pe_tup (pa_cons (pe_tup (pa_cons (pe_cal C_number free (hr.mono (by decide)) (pa_cons (pv 0) pa_nil)) (pa_cons (pe_tup (pa_cons (pv 2) (pa_cons (pe_tup pa_nil) pa_nil))) pa_nil))) pa_nil))) (pe_slice sl_tupA (pv 1) (po_some (pv 4)) po_none))))
    pss_nil)
    (pss_cons (ps_if (pt_cmpR op_eq (pv 3) pe_int (nomark _))
    (pss_one (ps_ret (pe_op op_catA (pv 1) (pe_tup (pa_cons (pe_slice sl_tupA (pv 1) (po_some pe_int) po_none) pa_nil)))))
    pss_nil)
    (pss_one (ps_ret (pe_ix ix_list (pe_lst (pa_cons (pe_callTy call_list_of (by rfl) hlist (by decide +kernel) (pa_cons (pv 1) pa_nil)) (pa_cons (pe_slice sl_tupA (pv 1) (po_some pe_int) po_none) (pa_cons (pe_tup pa_nil) (pa_cons (pe_tup (pa_cons (pv 1) pa_nil)) (pa_cons (pv 2) (pa_cons (pe_ix ix_tup (pv 1) pe_int (fun _ _ => rfl)) pa_nil))))))) (pe_cal C_take free (hr.mono (by decide)) (pa_cons (pv 0) (pa_cons pe_int pa_nil))) (fun _ _ => rfl))))))))))), ?_⟩
  refine ⟨_, rfl, p, n, rfl, hP, by omega, fun ov og H1 ho c1 P1 => ?_⟩
  refine ⟨_, rfl, p, 12, n + 1, rfl, by decide, by decide, P1, by omega, fun d H2 d0 d1 c2 P2 => ?_⟩
  have S2 : SqT K H2 a xs := sqt_chg P1.lst c2 (sqt_chg hP.lst c1 hS)
  refine ⟨_, rfl, _, rfl, a, _, rfl, .inr S2, p, _, n + 2, rfl, by omega, by omega, P2, by omega, fun k H3 k0 k1 c3 P3 => ?_⟩
  refine ⟨_, _, rfl, rfl, ?_⟩
  have S3 : SqT K H3 a xs := sqt_chg P2.lst c3 S2
  have G3 : GvAll K H3 xs gs := gvs_chg P2.lst P3.lst c3 _ _ (gvs_chg P1.lst P2.lst c2 _ _ (gvs_chg hP.lst P1.lst c1 _ _ hG))
  have O3 : Gv K H3 ov og := gv_chg P2.lst P3.lst c3 _ _ (gv_chg P1.lst P2.lst c2 _ _ ho)
  have C3 : Chg p H H3 := (c1.trans c2).trans c3
  -- what a row of steps that change nothing leaves
  have fin : ∀ (v : V) (g : GD) (G : Hp), Gv K G v g → Same H3 G → Q v G := fun v g G hg sG => q v g G hg (C3.trans (Chg.same sG)) ((P3.keep sG).mono (by omega))
  refine ⟨_, rfl, _, _, rfl, rfl, _, rfl, ?_⟩
  refine ite2 (fun _ => ?_) (fun _ => ?_)
  · refine ⟨_, rfl, p, n + 3, rfl, P3, by omega, fun v g H4 hv c4 P4 => ?_⟩
    refine ⟨by show 1 ≤ sizeLine; decide, fun t ht => ⟨_, rfl, _, rfl, sl_none (sqt_same (same_upd ht) (sqt_chg P3.lst c4 S3)) fun r G5 s5 h5 => ?_⟩⟩
    have s45 := (same_upd (o := .tup [v]) ht).trans s5
    refine cat_any (xs := [v]) (sqt_same s5 (SqT.of upd_same)) h5 (by have := cut (some 1) none; simp; omega) fun r2 G6 s6 h6 => ?_
    obtain ⟨hs, hhs⟩ := gvs_cut (gvs_same (s45.trans s6) _ _ (gvs_chg P3.lst P4.lst c4 _ _ G3)) (some 1) none
    refine q _ _ G6 (.tup h6 (by have := cut (some 1) none; simp; omega) (gvs_app (.cons (gv_same (s45.trans s6) _ _ hv) .nil) hhs)) ((C3.trans c4).trans (Chg.same (s45.trans s6))) ((P4.keep (s45.trans s6)).mono (by omega))
  · refine ⟨_, rfl, _, _, rfl, rfl, _, rfl, ?_⟩
    refine ite2 (fun _ => ?_) (fun _ => ?_)
    · refine ⟨_, rfl, _, rfl, _, rfl, sl_any S3 fun r G4 s4 h4 => ?_⟩
      refine ⟨_, rfl, by show 1 ≤ sizeLine; decide, fun t ht => ?_⟩
      refine cat_any (sqt_same (same_upd ht) h4) (SqT.of upd_same) (by have := cut none (some (1 + k)); simp; omega) fun r2 G5 s5 h5 => ?_
      have s45 := (s4.trans (same_upd (o := .tup [ov]) ht)).trans s5
      refine ⟨_, rfl, _, rfl, _, _, rfl, rfl, _, rfl, sl_none (sqt_same s45 S3) fun r3 G6 s6 h6 => ?_⟩
      refine cat_any (sqt_same s6 h5) h6 (by have := cut none (some (1 + k)); have := cut (some (1 + k + 1)) none; simp; omega) fun r4 G7 s7 h7 => ?_
      have s47 := (s45.trans s6).trans s7
      obtain ⟨h1, hh1⟩ := gvs_cut (gvs_same s47 _ _ G3) none (some (1 + k))
      obtain ⟨h2, hh2⟩ := gvs_cut (gvs_same s47 _ _ G3) (some (1 + k + 1)) none
      exact fin _ _ G7 (.tup h7 (by have := cut none (some (1 + k)); have := cut (some (1 + k + 1)) none; simp; omega) (gvs_app (gvs_app hh1 (.cons (gv_same s47 _ _ O3) .nil)) hh2)) s47
    · refine ⟨_, rfl, _, _, rfl, rfl, _, rfl, ?_⟩
      refine ite2 (fun _ => ?_) (fun _ => ?_)
      · refine ⟨_, rfl, _, rfl, _, rfl, sl_any S3 fun r G4 s4 h4 => ?_⟩
        refine ⟨_, rfl, p, n + 3, rfl, P3.keep s4, by omega, fun i G5 i0 i1 c5 P5 => ?_⟩
        have L4 := (P3.keep s4).lst
        refine ⟨_, rfl, Nat.zero_le _, fun t1 ht1 => ⟨by show 2 ≤ sizeLine; decide, fun t2 ht2 => ⟨by show 2 ≤ sizeLine; decide, fun t3 ht3 => ⟨by show 1 ≤ sizeLine; decide, fun t4 ht4 => ?_⟩⟩⟩⟩
        have u1 := same_upd (o := .tup []) ht1
        have u2 := same_upd (o := .tup [ov, .ref t1]) ht2
        have u3 := same_upd (o := .tup [.int i, .ref t2]) ht3
        have u4 := same_upd (o := .tup [.ref t3]) ht4
        have u := ((u1.trans u2).trans u3).trans u4
        have S5 : SqT K G5 a xs := sqt_chg L4 c5 (sqt_same s4 S3)
        have G5' : GvAll K G5 xs gs := gvs_chg L4 P5.lst c5 _ _ (gvs_same s4 _ _ G3)
        have O5 : Gv K G5 ov og := gv_chg L4 P5.lst c5 _ _ (gv_same s4 _ _ O3)
        refine cat_any (sqt_same u (sqt_chg L4 c5 h4)) (SqT.of upd_same) (by have := cut none (some (1 + k)); simp; omega) fun r2 G6 s6 h6 => ?_
        refine ⟨_, rfl, _, rfl, _, rfl, sl_none (sqt_same (u.trans s6) S5) fun r3 G7 s7 h7 => ?_⟩
        refine cat_any (sqt_same s7 h6) h7 (by have := cut none (some (1 + k)); have := cut (some (1 + k)) none; simp; omega) fun r4 G8 s8 h8 => ?_
        have s68 := (s6.trans s7).trans s8
        have uu := u.trans s68
        obtain ⟨h1, hh1⟩ := gvs_cut (gvs_same uu _ _ G5') none (some (1 + k))
        obtain ⟨h2, hh2⟩ := gvs_cut (gvs_same uu _ _ G5') (some (1 + k)) none
        have v1 := gv_same u2 _ _ (Gv.tup (K := K) (SqT.of (upd_same (H := G5) (a := t1) (o := .tup []))) (by decide) .nil)
        have v2 : Gv K _ (.ref t2) (.tup [og, .tup []]) := .tup (SqT.of upd_same) (by simp) (.cons (gv_same (u1.trans u2) _ _ O5) (.cons v1 .nil))
        have v3 : Gv K _ (.ref t3) (.tup [.int i, .tup [og, .tup []]]) := .tup (SqT.of upd_same) (by simp) (.cons (.int i) (.cons (gv_same u3 _ _ v2) .nil))
        refine q _ _ G8 (.tup h8 (by have := cut none (some (1 + k)); have := cut (some (1 + k)) none; simp; omega) (gvs_app (gvs_app hh1 (.cons (gv_same (u4.trans s68) _ _ v3) .nil)) hh2))
          (((C3.trans (Chg.same s4)).trans c5).trans (Chg.same uu)) ((P5.keep uu).mono (by omega))
      · refine ⟨_, rfl, rfl, _, rfl, ?_⟩
        refine ite2 (fun _ => ?_) (fun _ => ?_)
        · refine ⟨_, rfl, _, rfl, _, rfl, sl_none S3 fun r G4 s4 h4 => ⟨by show 1 ≤ sizeLine; decide, fun t ht => ?_⟩⟩
          have u := s4.trans (same_upd (o := .tup [.ref r]) ht)
          refine cat_any (sqt_same u S3) (SqT.of upd_same) (by simp; omega) fun r2 G5 s5 h5 => ?_
          have uu := u.trans s5
          obtain ⟨h1, hh1⟩ := gvs_cut (gvs_same uu _ _ G3) (some 1) none
          have vr : Gv K G5 (.ref r) (.tup h1) := .tup (sqt_same ((same_upd (o := .tup [.ref r]) ht).trans s5) h4) (by have := cut (some 1) none; omega) hh1
          exact fin _ _ G5 (.tup h5 (by simp; omega) (gvs_app (gvs_same uu _ _ G3) (.cons vr .nil))) uu
        · obtain ⟨x0, e0⟩ : ∃ x0, xs[0]? = some x0 := ⟨_, List.getElem?_eq_getElem (by omega)⟩
          obtain ⟨g0, _, hg0⟩ := gvs_get G3 e0
          refine ⟨_, rfl, a, xs, rfl, .inr S3, fun b1 hb1 => ?_⟩
          have u1 := same_upd (o := .lst xs) hb1
          refine ⟨_, rfl, _, rfl, sl_none (sqt_same u1 S3) fun r G4 s4 h4 => ⟨Nat.zero_le _, fun t1 ht1 => ?_⟩⟩
          have u2 := same_upd (o := .tup []) ht1
          refine ⟨_, rfl, by show 1 ≤ sizeLine; decide, fun t2 ht2 => ?_⟩
          have u3 := same_upd (o := .tup [.ref a]) ht2
          have u := ((u1.trans s4).trans u2).trans u3
          refine ⟨_, rfl, _, rfl, a, _, _, _, rfl, rfl, sqt_same u S3, atI_nat (j := 0) e0, by show 6 ≤ sizeLine; decide, fun D hD => ?_⟩
          have u4 := same_upd (o := .lst [.ref b1, .ref r, .ref t1, .ref t2, ov, x0]) hD
          have PD := P3.keep (u.trans u4)
          have pD : D ≠ p := ((P3.keep u).neD hD).symm
          refine ⟨_, rfl, p, 6, n + 3, rfl, by decide, by decide, PD, by omega, fun e G5 f0 f1 c5 P5 => ?_⟩
          obtain ⟨v, hv, at_⟩ := at_any (xs := [V.ref b1, .ref r, .ref t1, .ref t2, ov, x0]) f0 (by show e < 6; exact f1)
          have all : ∃ g, Gv K (upd (upd (upd G4 t1 (.tup [])) t2 (.tup [.ref a])) D (.lst [.ref b1, .ref r, .ref t1, .ref t2, ov, x0])) v g := by
            simp only [List.mem_cons, List.not_mem_nil, or_false] at hv
            rcases hv with rfl | rfl | rfl | rfl | rfl | rfl
            · exact ⟨.lst, .lst ((((s4.trans u2).trans u3).trans u4) _ _ upd_same)⟩
            · obtain ⟨h1, hh1⟩ := gvs_cut (gvs_same (u.trans u4) _ _ G3) (some 1) none
              exact ⟨_, .tup (sqt_same ((u2.trans u3).trans u4) h4) (by have := cut (some 1) none; omega) hh1⟩
            · exact ⟨_, .tup (sqt_same (u3.trans u4) (SqT.of upd_same)) (by decide) .nil⟩
            · exact ⟨_, .tup (sqt_same u4 (SqT.of upd_same)) (by simp) (.cons (.tup (sqt_same (u.trans u4) S3) (by omega) (gvs_same (u.trans u4) _ _ G3)) .nil)⟩
            · exact ⟨_, gv_same (u.trans u4) _ _ O3⟩
            · exact ⟨_, gv_same (u.trans u4) _ _ hg0⟩
          obtain ⟨g, hg⟩ := all
          refine ⟨D, _, _, _, rfl, rfl, SqL.of (c5 _ _ pD upd_same), at_, ?_⟩
          exact q v g G5 (gv_chg PD.lst P5.lst c5 _ _ hg) ((C3.trans (Chg.same (u.trans u4))).trans c5) (P5.mono (by omega))
end

end G0
namespace G0
open PySem PySem.Spec PyProof.Rows L2
/-! ### what is shown -/
def pd : Option Nat → PyData
  | none => .none
  | some k => .int k
theorem dp_oV {K : PySem.W.Frag} {H : Hp} : ∀ o : Option Nat, Dp K H (oV o) (pd o)
  | none => .non
  | some k => .int k
theorem isnone_oV : ∀ o : Option Nat, decide (oV o = V.non) = decide (o = none)
  | none => rfl
  | some k => by simp [oV]
theorem bad1_le : ∀ (gs : List GD) (k j : Nat), bad1 k gs = some j → j < k + gs.length
  | [], _, _, h => by simp [bad1] at h
  | g :: gs, k, j, h => by
    simp only [bad1] at h
    split at h
    · have := bad1_le gs (k + 1) j h
      simp; omega
    · cases h
      simp
theorem fault_le {K : PySem.W.Frag} {H : Hp} {v : V} {g : GD} (hg : Gv K H v g) {k : Nat} (h : g.fault = some k) : k ≤ 1000 := by
  cases hg with
  | tup e l a =>
    rename_i gs
    have hl := gvs_len a
    cases gs with
    | nil => simp [GD.fault] at h; omega
    | cons w gs =>
      simp only [GD.fault] at h
      split at h
      · have := bad1_le gs 1 k h
        simp at hl; omega
      · simp at h; omega
  | _ => simp [GD.fault] at h; omega
theorem log_small {k : Nat} (h : k ≤ 1000) : ((k : Int).natAbs).log2 < 1920 := by
  by_cases z : k = 0
  · subst z; decide
  · have : (k : Int).natAbs = k := by omega
    rw [this]
    exact (Nat.log2_lt z).mpr (Nat.lt_of_lt_of_le (show k < 2 ^ 10 by omega) (Nat.pow_le_pow_right (by decide) (by decide)))
theorem pd_show {o : Option Nat} (h : ∀ k, o = some k → k ≤ 1000) : (pd o).showable = true := by
  cases o with
  | none => rfl
  | some k => simp [pd, PyData.showable]; exact log_small (h k rfl)
theorem pd_len {o : Option Nat} (h : ∀ k, o = some k → k ≤ 1000) : (pd o).shown.length ≤ sizeLine := by
  refine Nat.le_trans (shown_le _ (pd_show h) ?_) ?_
  · cases o <;> rfl
  · have e : sizeLine = 16777216 := by decide
    cases o <;> simp [pd, cost] <;> omega
theorem pd_rest (o : Option Nat) : (pd o).hasDict = false ∧ (pd o).depth ≤ 64 := by cases o <;> exact ⟨rfl, by simp [pd, PyData.depth]⟩
theorem ne_self (z : Str) : V.bl (!decide (V.str z = V.str z)) = V.bl false := by simp
section
variable {P : Program} {w : World} {K : PySem.W.Frag} {mg : Str → Option Value} {base : Heap}
def spLaw (K : PySem.W.Frag) : Sp := fun vs H Q _ => ∃ (a : Addr) (ns : List Int), vs = [.ref a] ∧ SqL K H a (ns.map V.int) ∧ ns.length ≤ 63 ∧ ∀ H', Q (.bl true) H'
theorem sc_law : FnScope ["script", "k", "pot", "good", "given", "due", "turn"] ["script"] (defScope s_law) :=
  ⟨rfl, rfl, rfl, by decide +kernel, rfl, by decide +kernel, by decide +kernel⟩
theorem ok_law (F : Fn K mg "law" s_law) (T : Bk mg) (C_pot : Cal P w K mg base "_law_pot" 1 ["script", "k"] (spPot K))
    (C_letter : Cal P w K mg base "_law_letter" 7 ["pot", "most"] (spLetter K)) (C_spoilt : Cal P w K mg base "_law_spoilt" 3 ["pot", "good"] (spSpoilt K))
    (C_fault : Cal P w K mg base "_law_fault" 6 ["given"] (spFault K)) (Cletter_fault : Cal P w K mg base "letter_fault" 6 ["thing"] (spFault K))
    (Cis_letter : Cal P w K mg base "is_letter" 7 ["thing"] (spIsLetter K)) : Cal P w K mg base "law" 8 ["script"] (spLaw K) := by
  refine cal_of F sc_law
    (fun _ _ _ _ _ _ us hl => match us, hl with | [_], _ => rfl) ?_ ?_
  · rintro vs H Q E ⟨a, ns, rfl, _⟩
    rfl
  rintro f cdv A outer s H vs Q E free hr ⟨a, ns, rfl, hS, hlen, q⟩
  refine ⟨_, (pss_cons (ps_for PassesOwn.never rfl (pi_range1 (by rfl) T.range (pa_cons (pe_callB (call_max2 rfl) (by rfl) T.max (by decide +kernel) (pa_cons pe_int (pa_cons (pe_callB (call_min2 rfl) (by rfl) T.min (by decide +kernel) (pa_cons (pe_callB call_len_seq (by rfl) T.len (by decide +kernel) (pa_cons (pv 0) pa_nil)) (pa_cons pe_int pa_nil))) pa_nil))) pa_nil)) (pg_name (i := 1) sc_law.nd rfl (Or.inl rfl))
    (pss_cons (ps_set (i := 2) sc_law.nd rfl (Or.inl rfl) (pe_cal C_pot free (hr.mono (by decide)) (pa_cons (pv 0) (pa_cons (pv 1) pa_nil))))
    (pss_cons (ps_set (i := 3) sc_law.nd rfl (Or.inl rfl) (pe_cal C_letter free (hr.mono (by decide)) (pa_cons (pv 2) (pa_cons pe_int pa_nil))))
    (pss_one (ps_for PassesOwn.never rfl (pi_list (pe_lst (pa_cons (pv 3) (pa_cons (pe_cal C_spoilt free (hr.mono (by decide)) (pa_cons (pv 2) (pa_cons (pv 3) pa_nil))) pa_nil)))) (pg_name (i := 4) sc_law.nd rfl (Or.inl rfl))
    (pss_cons (ps_set (i := 5) sc_law.nd rfl (Or.inl rfl) (pe_cal C_fault free (hr.mono (by decide)) (pa_cons (pv 4) pa_nil)))
    (pss_one (ps_for PassesOwn.never rfl (pi_range1 (by rfl) T.range (pa_cons pe_int pa_nil)) (pg_name (i := 6) sc_law.nd rfl (Or.inl rfl))
    (pss_one (ps_if (PW.pt (pw_or (pt_cmpR op_ne (pe_callB (call_rep free (u66 hr)) (by rfl) T.repr (by decide +kernel) (pa_cons (pe_cal Cletter_fault free (hr.mono (by decide)) (pa_cons (pv 4) pa_nil)) pa_nil)) (pe_callB (call_rep free (u66 hr)) (by rfl) T.repr (by decide +kernel) (pa_cons (pv 5) pa_nil)) (nomark _)) (pw_or1 (pt_cmpR op_ne (pe_callB (call_rep free (u66 hr)) (by rfl) T.repr (by decide +kernel) (pa_cons (pe_cal Cis_letter free (hr.mono (by decide)) (pa_cons (pv 4) pa_nil)) pa_nil)) (pe_callB (call_rep free (u66 hr)) (by rfl) T.repr (by decide +kernel) (pa_cons (pe_cmpR op_isN (pv 5) pe_non (nomark _)) pa_nil)) (nomark _)))))
    (pss_one (ps_ret pe_bl))
    pss_nil))))))))))
    (pss_one (ps_ret pe_bl))), ?_⟩
  refine ⟨_, rfl, a, _, rfl, .inl hS, _, _, rfl, _, _, rfl, ?_⟩
  have hl : (ns.map V.int).length = ns.length := List.length_map _
  have many : ∃ J : Int, (if (if (63 : Int) < (((ns.map V.int).length : Nat) : Int) then 63 else (((ns.map V.int).length : Nat) : Int)) > 6 then (if (63 : Int) < (((ns.map V.int).length : Nat) : Int) then 63 else (((ns.map V.int).length : Nat) : Int)) else 6) = J ∧ 0 ≤ J ∧ J ≤ 63 := by
    refine ⟨_, rfl, ?_, ?_⟩
    · split <;> omega
    · split
      · split <;> omega
      · omega
  obtain ⟨J, eJ, J0, J63⟩ := many
  refine ⟨J, congrArg (fun z => [V.int z]) eJ, by omega, by omega, ?_⟩
  refine for_range (lo := 0) (n := J.toNat) (fun _ σ G => (∃ v1 v2 v3 v4 v5 v6, σ = [some (V.ref a), v1, v2, v3, v4, v5, v6]) ∧ Same H G)
    ⟨⟨_, _, _, _, _, _, rfl⟩, Same.refl H⟩ ?_ (fun σ G _ => q G)
  rintro i σ G hi ⟨⟨v1, v2, v3, v4, v5, v6, rfl⟩, sG⟩
  refine ⟨_, rfl, _, rfl, a, _, ns, rfl, sG.seq hS, by omega, by omega, fun p G1 hp s1 P1 => ?_⟩
  refine ⟨_, rfl, p, 5, 0, rfl, by decide, by decide, P1, by decide, fun x d G2 hd hL c2 P2 => ?_⟩
  obtain ⟨l, xs, gs, rfl, hx, hgs, l1, l6⟩ := letter_gv hL hd
  refine ⟨_, rfl, _, rfl, _, rfl, p, l, xs, gs, _, rfl, P2, by omega, hx, hgs, l1, l6, fun v g G3 hv c3 P3 => ?_⟩
  have sG3 : Same G G3 := fun b o e => c3 _ _ (ne_of_none e hp) (c2 _ _ (ne_of_none e hp) (s1 _ _ e))
  refine ⟨by show 2 ≤ sizeLine; decide, fun D hD => ?_⟩
  obtain ⟨G4, e4⟩ : ∃ G4, G4 = upd G3 D (.lst [.ref l, v]) := ⟨_, rfl⟩
  rw [← e4]
  have s4 : Same G3 G4 := by rw [e4]; exact same_upd hD
  have v4' : G4 D = some (.lst [.ref l, v]) := by rw [e4]; exact upd_same
  have gl : Gv K G4 (.ref l) (.tup gs) := gv_same s4 _ _ (.tup (sqt_chg P2.lst c3 hx) (by omega) (gvs_chg P2.lst P3.lst c3 _ _ hgs))
  have gv4 : Gv K G4 v g := gv_same s4 _ _ hv
  have sH4 : Same H G4 := (sG.trans sG3).trans s4
  refine ⟨D, rfl, ⟨_, SqL.of v4'⟩, ?_⟩
  refine for_list (K := K) (a := D) (xs := [.ref l, v]) (fun _ σ G => (∃ z4 z5 z6, σ = [some (V.ref a), some (.int (0 + (i : Int))), some (.ref p), some (.ref l), z4, z5, z6]) ∧ Same G4 G)
    ⟨⟨_, _, _, rfl⟩, Same.refl G4⟩ (fun _ _ _ _ h => Same.seq h.2 (SqL.of v4')) ?_ ?_
  · rintro j y σ' G5 hj ⟨⟨z4, z5, z6, rfl⟩, s5⟩
    have hy : ∃ gy, Gv K G4 y gy := by
      match j, hj with
      | 0, hj => simp at hj; subst hj; exact ⟨_, gl⟩
      | 1, hj => simp at hj; subst hj; exact ⟨_, gv4⟩
      | j + 2, hj => simp at hj
    obtain ⟨gy, hy⟩ := hy
    have le : ∀ k, gy.fault = some k → k ≤ 1000 := fun k => fault_le hy
    refine ⟨_, rfl, y, gy, rfl, gv_same s5 _ _ hy, fun G6 s6 => ?_⟩
    refine ⟨2, rfl, by decide, by decide, ?_⟩
    refine for_range (lo := 0) (n := 2) (fun _ σ G => (∃ z6, σ = [some (V.ref a), some (.int (0 + (i : Int))), some (.ref p), some (.ref l), some y, some (oV gy.fault), z6]) ∧ Same G4 G)
      ⟨⟨_, rfl⟩, s5.trans s6⟩ ?_ ?_
    · rintro t σ'' G7 ht ⟨⟨z6', rfl⟩, s7⟩
      refine ⟨_, rfl, y, gy, rfl, gv_same s7 _ _ hy, fun G8 s8 => ?_⟩
      refine ⟨_, pd gy.fault, rfl, dp_oV _, pd_show le, (pd_rest _).1, (pd_rest _).2, pd_len le, ?_⟩
      refine ⟨_, rfl, _, pd gy.fault, rfl, dp_oV _, pd_show le, (pd_rest _).1, (pd_rest _).2, pd_len le, rfl, false, ne_self _, ?_⟩
      refine iteF ?_
      have s48 := s7.trans s8
      refine ⟨_, rfl, y, gy, rfl, gv_same s48 _ _ hy, fun G9 s9 => ?_⟩
      have bshow : ∀ b : Bool, (PyData.bool b).showable = true ∧ (PyData.bool b).hasDict = false ∧ (PyData.bool b).depth ≤ 64 ∧ (PyData.bool b).shown.length ≤ sizeLine := fun b => by
        refine ⟨rfl, rfl, by simp [PyData.depth], Nat.le_trans (shown_le _ rfl rfl) ?_⟩
        simp [cost]; decide
      obtain ⟨b1, b2, b3, b4⟩ := bshow (decide (gy.fault = none))
      refine ⟨_, .bool (decide (gy.fault = none)), rfl, .bl _, b1, b2, b3, b4, ?_⟩
      refine ⟨_, rfl, rfl, _, .bool (decide (gy.fault = none)), rfl, by rw [isnone_oV]; exact .bl _, b1, b2, b3, b4, rfl, false, ne_self _, ?_⟩
      refine iteF ⟨⟨_, rfl⟩, s48.trans s9⟩
    · rintro σ'' G7 ⟨⟨z6', rfl⟩, s7⟩
      exact ⟨⟨_, _, _, rfl⟩, s7⟩
  · rintro σ' G5 ⟨⟨z4, z5, z6, rfl⟩, s5⟩
    exact ⟨⟨_, _, _, _, _, _, rfl⟩, sH4.trans s5⟩
theorem whole1 (T : Bk mg) (L : Lc K mg) (hlist : mg "list" = none) (F_pot : Fn K mg "_law_pot" s_law_pot) (F_take : Fn K mg "_law_take" s_law_take) (F_number : Fn K mg "_law_number" s_law_number)
    (F_thing : Fn K mg "_law_thing" s_law_thing) (F_letter : Fn K mg "_law_letter" s_law_letter) (F_whole : Fn K mg "_law_whole" s_law_whole) (F_isword : Fn K mg "_law_is_word" s_law_is_word)
    (F_ispart : Fn K mg "_law_is_part" s_law_is_part) (F_fault : Fn K mg "_law_fault" s_law_fault) (F_odd : Fn K mg "_law_odd" s_law_odd) (F_oddword : Fn K mg "_law_odd_word" s_law_odd_word)
    (F_spoilt : Fn K mg "_law_spoilt" s_law_spoilt) (F_law : Fn K mg "law" s_law) (F_below : Fn K mg "is_below" s_is_below) (F_isletter : Fn K mg "is_letter" s_is_letter)
    (F_lfault : Fn K mg "letter_fault" s_letter_fault) (F_pword : Fn K mg "_is_word" s_is_word) (F_pthing : Fn K mg "_is_thing" s_is_thing) : Cal P w K mg base "law" 8 ["script"] (spLaw K) := by
  have C_take := ok_t (P := P) (w := w) (base := base) F_take
  have C_number := ok_num F_number C_take
  have C_thing := ok_things F_thing T.toBl C_take C_number 4
  have C_letter := ok_letter F_letter T.toBl C_take C_thing
  have C_odd := ok_odd (K := K) F_odd C_take
  have C_oddword := ok_oddword (K := K) F_oddword C_take
  have C_below := ok_below (P := P) (w := w) (base := base) F_below T
  have C_pword := ok_word (P := P) (w := w) (base := base) F_pword T L
  have C_lf := ok_fault F_lfault T C_pword (ok_isthings F_pthing T L C_below 4)
  exact ok_law F_law T (ok_pot F_pot T.toBl) C_letter (ok_spoilt F_spoilt T hlist C_take C_number C_odd C_oddword)
    (ok_lfault F_fault T (ok_lword F_isword T) (ok_isparts F_ispart T (ok_whole F_whole T) 4)) C_lf (ok_isletter F_isletter C_lf)
end

end G0
namespace G0
open PySem PySem.Spec PyProof.Rows L2

theorem mark_of {K : PySem.W.Frag} {mg : Str → Option Value} {h : Heap} {e : Addr} {dd : Option Addr} {n : Nat} {sl : Array (Option Value)} {t : Tok} (X : K.In h) (G : h.Ns mainGlobals mg)
    (a : PySem.W.nsIn K mainGlobals "END_MARK" = some (some (.ref e))) (l : K.lookup e = some ⟨.type "tuple", dd, .seq #[.str "gone" t] n, sl⟩) :
    ∃ e, mg "END_MARK" = some (.ref e) ∧ ∀ H, SqT K H e [.str "gone"] :=
  ⟨e, PySem.W.mg_of X G a, fun _ => .inr ⟨_, _, _, l, rfl, rfl, (by show 1 ≤ sizeLine; decide), .cons ⟨_, rfl⟩ .nil⟩⟩
theorem all_mk {P : Program} {w : World} {K : PySem.W.Frag} {h : Heap} {mg : Str → Option Value} {fa : Addr}
    {f1 : Addr} {od1 an1 : Option Addr} {sl1 : Array (Option Value)} {oc1 kV1 dc1 pm1 cd1 ct1 : Value} {f2 : Addr} {od2 an2 : Option Addr} {sl2 : Array (Option Value)} {oc2 kV2 dc2 pm2 cd2 ct2 : Value} {f3 : Addr} {od3 an3 : Option Addr} {sl3 : Array (Option Value)} {oc3 kV3 dc3 pm3 cd3 ct3 : Value} {f4 : Addr} {od4 an4 : Option Addr} {sl4 : Array (Option Value)} {oc4 kV4 dc4 pm4 cd4 ct4 : Value} {f5 : Addr} {od5 an5 : Option Addr} {sl5 : Array (Option Value)} {oc5 kV5 dc5 pm5 cd5 ct5 : Value} {f6 : Addr} {od6 an6 : Option Addr} {sl6 : Array (Option Value)} {oc6 kV6 dc6 pm6 cd6 ct6 : Value} {f7 : Addr} {od7 an7 : Option Addr} {sl7 : Array (Option Value)} {oc7 kV7 dc7 pm7 cd7 ct7 : Value} {f8 : Addr} {od8 an8 : Option Addr} {sl8 : Array (Option Value)} {oc8 kV8 dc8 pm8 cd8 ct8 : Value} {f9 : Addr} {od9 an9 : Option Addr} {sl9 : Array (Option Value)} {oc9 kV9 dc9 pm9 cd9 ct9 : Value} {f10 : Addr} {od10 an10 : Option Addr} {sl10 : Array (Option Value)} {oc10 kV10 dc10 pm10 cd10 ct10 : Value} {f11 : Addr} {od11 an11 : Option Addr} {sl11 : Array (Option Value)} {oc11 kV11 dc11 pm11 cd11 ct11 : Value} {f12 : Addr} {od12 an12 : Option Addr} {sl12 : Array (Option Value)} {oc12 kV12 dc12 pm12 cd12 ct12 : Value} {f13 : Addr} {od13 an13 : Option Addr} {sl13 : Array (Option Value)} {oc13 kV13 dc13 pm13 cd13 ct13 : Value} {f14 : Addr} {od14 an14 : Option Addr} {sl14 : Array (Option Value)} {oc14 kV14 dc14 pm14 cd14 ct14 : Value} {f15 : Addr} {od15 an15 : Option Addr} {sl15 : Array (Option Value)} {oc15 kV15 dc15 pm15 cd15 ct15 : Value} {f16 : Addr} {od16 an16 : Option Addr} {sl16 : Array (Option Value)} {oc16 kV16 dc16 pm16 cd16 ct16 : Value} {f17 : Addr} {od17 an17 : Option Addr} {sl17 : Array (Option Value)} {oc17 kV17 dc17 pm17 cd17 ct17 : Value} {f18 : Addr} {od18 an18 : Option Addr} {sl18 : Array (Option Value)} {oc18 kV18 dc18 pm18 cd18 ct18 : Value} {t1 t2 t3 t4 t5 : Tok} {em : Addr} {edd : Option Addr} {en : Nat} {esl : Array (Option Value)}
    (X : K.In h) (G : h.Ns mainGlobals mg) (hfa : mg "law" = some (.ref fa))
    (a1 : PySem.W.nsIn K mainGlobals "_law_pot" = some (some (.ref f1)))
    (l1 : K.lookup f1 = some ⟨oc1, od1, .func (PySem.W.fnOf "_law_pot" "_law_pot" (defArgs s_law_pot) (defBody s_law_pot) (defScope s_law_pot) .none kV1 dc1 pm1 an1 cd1 ct1), sl1⟩)
    (c1 : PySem.W.codeIn K cd1 "_law_pot" = true)
    (k1 : PySem.W.keepIn K (.ref f1) = true)
    (a2 : PySem.W.nsIn K mainGlobals "_law_take" = some (some (.ref f2)))
    (l2 : K.lookup f2 = some ⟨oc2, od2, .func (PySem.W.fnOf "_law_take" "_law_take" (defArgs s_law_take) (defBody s_law_take) (defScope s_law_take) .none kV2 dc2 pm2 an2 cd2 ct2), sl2⟩)
    (c2 : PySem.W.codeIn K cd2 "_law_take" = true)
    (k2 : PySem.W.keepIn K (.ref f2) = true)
    (a3 : PySem.W.nsIn K mainGlobals "_law_number" = some (some (.ref f3)))
    (l3 : K.lookup f3 = some ⟨oc3, od3, .func (PySem.W.fnOf "_law_number" "_law_number" (defArgs s_law_number) (defBody s_law_number) (defScope s_law_number) .none kV3 dc3 pm3 an3 cd3 ct3), sl3⟩)
    (c3 : PySem.W.codeIn K cd3 "_law_number" = true)
    (k3 : PySem.W.keepIn K (.ref f3) = true)
    (a4 : PySem.W.nsIn K mainGlobals "_law_thing" = some (some (.ref f4)))
    (l4 : K.lookup f4 = some ⟨oc4, od4, .func (PySem.W.fnOf "_law_thing" "_law_thing" (defArgs s_law_thing) (defBody s_law_thing) (defScope s_law_thing) .none kV4 dc4 pm4 an4 cd4 ct4), sl4⟩)
    (c4 : PySem.W.codeIn K cd4 "_law_thing" = true)
    (k4 : PySem.W.keepIn K (.ref f4) = true)
    (a5 : PySem.W.nsIn K mainGlobals "_law_letter" = some (some (.ref f5)))
    (l5 : K.lookup f5 = some ⟨oc5, od5, .func (PySem.W.fnOf "_law_letter" "_law_letter" (defArgs s_law_letter) (defBody s_law_letter) (defScope s_law_letter) .none kV5 dc5 pm5 an5 cd5 ct5), sl5⟩)
    (c5 : PySem.W.codeIn K cd5 "_law_letter" = true)
    (k5 : PySem.W.keepIn K (.ref f5) = true)
    (a6 : PySem.W.nsIn K mainGlobals "_law_whole" = some (some (.ref f6)))
    (l6 : K.lookup f6 = some ⟨oc6, od6, .func (PySem.W.fnOf "_law_whole" "_law_whole" (defArgs s_law_whole) (defBody s_law_whole) (defScope s_law_whole) .none kV6 dc6 pm6 an6 cd6 ct6), sl6⟩)
    (c6 : PySem.W.codeIn K cd6 "_law_whole" = true)
    (k6 : PySem.W.keepIn K (.ref f6) = true)
    (a7 : PySem.W.nsIn K mainGlobals "_law_is_word" = some (some (.ref f7)))
    (l7 : K.lookup f7 = some ⟨oc7, od7, .func (PySem.W.fnOf "_law_is_word" "_law_is_word" (defArgs s_law_is_word) (defBody s_law_is_word) (defScope s_law_is_word) .none kV7 dc7 pm7 an7 cd7 ct7), sl7⟩)
    (c7 : PySem.W.codeIn K cd7 "_law_is_word" = true)
    (k7 : PySem.W.keepIn K (.ref f7) = true)
    (a8 : PySem.W.nsIn K mainGlobals "_law_is_part" = some (some (.ref f8)))
    (l8 : K.lookup f8 = some ⟨oc8, od8, .func (PySem.W.fnOf "_law_is_part" "_law_is_part" (defArgs s_law_is_part) (defBody s_law_is_part) (defScope s_law_is_part) .none kV8 dc8 pm8 an8 cd8 ct8), sl8⟩)
    (c8 : PySem.W.codeIn K cd8 "_law_is_part" = true)
    (k8 : PySem.W.keepIn K (.ref f8) = true)
    (a9 : PySem.W.nsIn K mainGlobals "_law_fault" = some (some (.ref f9)))
    (l9 : K.lookup f9 = some ⟨oc9, od9, .func (PySem.W.fnOf "_law_fault" "_law_fault" (defArgs s_law_fault) (defBody s_law_fault) (defScope s_law_fault) .none kV9 dc9 pm9 an9 cd9 ct9), sl9⟩)
    (c9 : PySem.W.codeIn K cd9 "_law_fault" = true)
    (k9 : PySem.W.keepIn K (.ref f9) = true)
    (a10 : PySem.W.nsIn K mainGlobals "_law_odd" = some (some (.ref f10)))
    (l10 : K.lookup f10 = some ⟨oc10, od10, .func (PySem.W.fnOf "_law_odd" "_law_odd" (defArgs s_law_odd) (defBody s_law_odd) (defScope s_law_odd) .none kV10 dc10 pm10 an10 cd10 ct10), sl10⟩)
    (c10 : PySem.W.codeIn K cd10 "_law_odd" = true)
    (k10 : PySem.W.keepIn K (.ref f10) = true)
    (a11 : PySem.W.nsIn K mainGlobals "_law_odd_word" = some (some (.ref f11)))
    (l11 : K.lookup f11 = some ⟨oc11, od11, .func (PySem.W.fnOf "_law_odd_word" "_law_odd_word" (defArgs s_law_odd_word) (defBody s_law_odd_word) (defScope s_law_odd_word) .none kV11 dc11 pm11 an11 cd11 ct11), sl11⟩)
    (c11 : PySem.W.codeIn K cd11 "_law_odd_word" = true)
    (k11 : PySem.W.keepIn K (.ref f11) = true)
    (a12 : PySem.W.nsIn K mainGlobals "_law_spoilt" = some (some (.ref f12)))
    (l12 : K.lookup f12 = some ⟨oc12, od12, .func (PySem.W.fnOf "_law_spoilt" "_law_spoilt" (defArgs s_law_spoilt) (defBody s_law_spoilt) (defScope s_law_spoilt) .none kV12 dc12 pm12 an12 cd12 ct12), sl12⟩)
    (c12 : PySem.W.codeIn K cd12 "_law_spoilt" = true)
    (k12 : PySem.W.keepIn K (.ref f12) = true)
    (a13 : PySem.W.nsIn K mainGlobals "law" = some (some (.ref f13)))
    (l13 : K.lookup f13 = some ⟨oc13, od13, .func (PySem.W.fnOf "law" "law" (defArgs s_law) (defBody s_law) (defScope s_law) .none kV13 dc13 pm13 an13 cd13 ct13), sl13⟩)
    (c13 : PySem.W.codeIn K cd13 "law" = true)
    (k13 : PySem.W.keepIn K (.ref f13) = true)
    (a14 : PySem.W.nsIn K mainGlobals "is_below" = some (some (.ref f14)))
    (l14 : K.lookup f14 = some ⟨oc14, od14, .func (PySem.W.fnOf "is_below" "is_below" (defArgs s_is_below) (defBody s_is_below) (defScope s_is_below) .none kV14 dc14 pm14 an14 cd14 ct14), sl14⟩)
    (c14 : PySem.W.codeIn K cd14 "is_below" = true)
    (k14 : PySem.W.keepIn K (.ref f14) = true)
    (a15 : PySem.W.nsIn K mainGlobals "is_letter" = some (some (.ref f15)))
    (l15 : K.lookup f15 = some ⟨oc15, od15, .func (PySem.W.fnOf "is_letter" "is_letter" (defArgs s_is_letter) (defBody s_is_letter) (defScope s_is_letter) .none kV15 dc15 pm15 an15 cd15 ct15), sl15⟩)
    (c15 : PySem.W.codeIn K cd15 "is_letter" = true)
    (k15 : PySem.W.keepIn K (.ref f15) = true)
    (a16 : PySem.W.nsIn K mainGlobals "letter_fault" = some (some (.ref f16)))
    (l16 : K.lookup f16 = some ⟨oc16, od16, .func (PySem.W.fnOf "letter_fault" "letter_fault" (defArgs s_letter_fault) (defBody s_letter_fault) (defScope s_letter_fault) .none kV16 dc16 pm16 an16 cd16 ct16), sl16⟩)
    (c16 : PySem.W.codeIn K cd16 "letter_fault" = true)
    (k16 : PySem.W.keepIn K (.ref f16) = true)
    (a17 : PySem.W.nsIn K mainGlobals "_is_word" = some (some (.ref f17)))
    (l17 : K.lookup f17 = some ⟨oc17, od17, .func (PySem.W.fnOf "_is_word" "_is_word" (defArgs s_is_word) (defBody s_is_word) (defScope s_is_word) .none kV17 dc17 pm17 an17 cd17 ct17), sl17⟩)
    (c17 : PySem.W.codeIn K cd17 "_is_word" = true)
    (k17 : PySem.W.keepIn K (.ref f17) = true)
    (a18 : PySem.W.nsIn K mainGlobals "_is_thing" = some (some (.ref f18)))
    (l18 : K.lookup f18 = some ⟨oc18, od18, .func (PySem.W.fnOf "_is_thing" "_is_thing" (defArgs s_is_thing) (defBody s_is_thing) (defScope s_is_thing) .none kV18 dc18 pm18 an18 cd18 ct18), sl18⟩)
    (c18 : PySem.W.codeIn K cd18 "_is_thing" = true)
    (k18 : PySem.W.keepIn K (.ref f18) = true)
    (m1 : PySem.W.nsIn K mainGlobals "LONGEST" = some (some (.int 8 t1)))
    (m2 : PySem.W.nsIn K mainGlobals "DEEPEST" = some (some (.int 4 t2)))
    (m3 : PySem.W.nsIn K mainGlobals "TOP" = some (some (.int (10 ^ 60) t3)))
    (m4 : PySem.W.nsIn K mainGlobals "SIGNS" = some (some (.str "abcdefghijklmnopqrstuvwxyz" t4)))
    (m5 : PySem.W.nsIn K mainGlobals "END_MARK" = some (some (.ref em)))
    (m6 : K.lookup em = some ⟨.type "tuple", edd, .seq #[.str "gone" t5] en, esl⟩)
    (b_len : PySem.W.nsIn K mainGlobals "len" = some none)
    (b_range : PySem.W.nsIn K mainGlobals "range" = some none)
    (b_max : PySem.W.nsIn K mainGlobals "max" = some none)
    (b_min : PySem.W.nsIn K mainGlobals "min" = some none)
    (b_repr : PySem.W.nsIn K mainGlobals "repr" = some none)
    (b_tuple : PySem.W.nsIn K mainGlobals "tuple" = some none)
    (b_isinstance : PySem.W.nsIn K mainGlobals "isinstance" = some none)
    (b_int : PySem.W.nsIn K mainGlobals "int" = some none)
    (b_bool : PySem.W.nsIn K mainGlobals "bool" = some none)
    (b_str : PySem.W.nsIn K mainGlobals "str" = some none)
    (b_all : PySem.W.nsIn K mainGlobals "all" = some none)
    (b_list : PySem.W.nsIn K mainGlobals "list" = some none) :
    ∃ fd : FuncData, (∀ (s : Shared) (v : Value), BindsTo s fd ⟨[v], []⟩ [("script", v)]) ∧
      ∀ base : Heap, K.In base → base.Ns mainGlobals mg → FnG P w K mg base CX0 8 fa fd ["script"] (spLaw K) := by
  have F_law_pot : Fn K mg "_law_pot" s_law_pot := fn_top X G a1 l1 c1 k1
  have F_law_take : Fn K mg "_law_take" s_law_take := fn_top X G a2 l2 c2 k2
  have F_law_number : Fn K mg "_law_number" s_law_number := fn_top X G a3 l3 c3 k3
  have F_law_thing : Fn K mg "_law_thing" s_law_thing := fn_top X G a4 l4 c4 k4
  have F_law_letter : Fn K mg "_law_letter" s_law_letter := fn_top X G a5 l5 c5 k5
  have F_law_whole : Fn K mg "_law_whole" s_law_whole := fn_top X G a6 l6 c6 k6
  have F_law_is_word : Fn K mg "_law_is_word" s_law_is_word := fn_top X G a7 l7 c7 k7
  have F_law_is_part : Fn K mg "_law_is_part" s_law_is_part := fn_top X G a8 l8 c8 k8
  have F_law_fault : Fn K mg "_law_fault" s_law_fault := fn_top X G a9 l9 c9 k9
  have F_law_odd : Fn K mg "_law_odd" s_law_odd := fn_top X G a10 l10 c10 k10
  have F_law_odd_word : Fn K mg "_law_odd_word" s_law_odd_word := fn_top X G a11 l11 c11 k11
  have F_law_spoilt : Fn K mg "_law_spoilt" s_law_spoilt := fn_top X G a12 l12 c12 k12
  have F_law : Fn K mg "law" s_law := fn_top X G a13 l13 c13 k13
  have F_is_below : Fn K mg "is_below" s_is_below := fn_top X G a14 l14 c14 k14
  have F_is_letter : Fn K mg "is_letter" s_is_letter := fn_top X G a15 l15 c15 k15
  have F_letter_fault : Fn K mg "letter_fault" s_letter_fault := fn_top X G a16 l16 c16 k16
  have F_is_word : Fn K mg "_is_word" s_is_word := fn_top X G a17 l17 c17 k17
  have F_is_thing : Fn K mg "_is_thing" s_is_thing := fn_top X G a18 l18 c18 k18
  have B_len := PySem.W.mg_none_of X G b_len
  have B_range := PySem.W.mg_none_of X G b_range
  have B_max := PySem.W.mg_none_of X G b_max
  have B_min := PySem.W.mg_none_of X G b_min
  have B_repr := PySem.W.mg_none_of X G b_repr
  have B_tuple := PySem.W.mg_none_of X G b_tuple
  have B_isinstance := PySem.W.mg_none_of X G b_isinstance
  have B_int := PySem.W.mg_none_of X G b_int
  have B_bool := PySem.W.mg_none_of X G b_bool
  have B_str := PySem.W.mg_none_of X G b_str
  have B_all := PySem.W.mg_none_of X G b_all
  have B_list := PySem.W.mg_none_of X G b_list
  exact law_end F_law hfa (fun _ _ _ _ _ _ s v => .of_eq rfl) fun base _ _ => whole1 ⟨⟨B_len, B_range, B_max, B_min, B_repr, B_tuple⟩, B_isinstance, B_int, B_bool, B_str, B_all⟩
    ⟨⟨_, PySem.W.mg_of X G m1⟩, ⟨_, PySem.W.mg_of X G m2⟩, ⟨_, PySem.W.mg_of X G m3⟩, ⟨_, PySem.W.mg_of X G m4⟩, mark_of X G m5 m6⟩ B_list
    F_law_pot F_law_take F_law_number F_law_thing F_law_letter F_law_whole F_law_is_word F_law_is_part F_law_fault F_law_odd F_law_odd_word F_law_spoilt F_law F_is_below F_is_letter F_letter_fault F_is_word F_is_thing
end G0
open PySem PySem.W PyProof.Rows in
set_option maxRecDepth 100000 in
set_option maxHeartbeats 0 in
theorem PySem.Challenge.cw_soleseat_k01_letters_known_holds : PySem.Challenge.rw_soleseat_k01_letters_known.Holds := by
  w_on; o_law; k_head; (case hw => w_witness2)
  k_fill
  refine G0.walk_ofG (l := PySem.Challenge.rw_soleseat_k01_letters_known) (n := 63) (k := 8) (x := "script") (sp := G0.spLaw) rfl (by decide) rfl ⟨rfl, by decide, by decide⟩ (fun w h Y => PySem.W.kIn_of Y) ?F (fun K H a ns hl _ hS => ⟨a, ns, rfl, hS, hl, fun _ => rfl⟩)
  case F =>
    intro w mg fa h KX G hmg
    refine' G0.all_mk KX G hmg ?a1 ?l1 ?c1 ?k1 ?a2 ?l2 ?c2 ?k2 ?a3 ?l3 ?c3 ?k3 ?a4 ?l4 ?c4 ?k4 ?a5 ?l5 ?c5 ?k5 ?a6 ?l6 ?c6 ?k6 ?a7 ?l7 ?c7 ?k7 ?a8 ?l8 ?c8 ?k8 ?a9 ?l9 ?c9 ?k9 ?a10 ?l10 ?c10 ?k10 ?a11 ?l11 ?c11 ?k11 ?a12 ?l12 ?c12 ?k12 ?a13 ?l13 ?c13 ?k13 ?a14 ?l14 ?c14 ?k14 ?a15 ?l15 ?c15 ?k15 ?a16 ?l16 ?c16 ?k16 ?a17 ?l17 ?c17 ?k17 ?a18 ?l18 ?c18 ?k18 ?m1 ?m2 ?m3 ?m4 ?m5 ?m6 ?b_len ?b_range ?b_max ?b_min ?b_repr ?b_tuple ?b_isinstance ?b_int ?b_bool ?b_str ?b_all ?b_list
    (case a1 => k_is)
    (case l1 => k_is)
    (case c1 => k_is)
    (case k1 => k_is)
    (case a2 => k_is)
    (case l2 => k_is)
    (case c2 => k_is)
    (case k2 => k_is)
    (case a3 => k_is)
    (case l3 => k_is)
    (case c3 => k_is)
    (case k3 => k_is)
    (case a4 => k_is)
    (case l4 => k_is)
    (case c4 => k_is)
    (case k4 => k_is)
    (case a5 => k_is)
    (case l5 => k_is)
    (case c5 => k_is)
    (case k5 => k_is)
    (case a6 => k_is)
    (case l6 => k_is)
    (case c6 => k_is)
    (case k6 => k_is)
    (case a7 => k_is)
    (case l7 => k_is)
    (case c7 => k_is)
    (case k7 => k_is)
    (case a8 => k_is)
    (case l8 => k_is)
    (case c8 => k_is)
    (case k8 => k_is)
    (case a9 => k_is)
    (case l9 => k_is)
    (case c9 => k_is)
    (case k9 => k_is)
    (case a10 => k_is)
    (case l10 => k_is)
    (case c10 => k_is)
    (case k10 => k_is)
    (case a11 => k_is)
    (case l11 => k_is)
    (case c11 => k_is)
    (case k11 => k_is)
    (case a12 => k_is)
    (case l12 => k_is)
    (case c12 => k_is)
    (case k12 => k_is)
    (case a13 => k_is)
    (case l13 => k_is)
    (case c13 => k_is)
    (case k13 => k_is)
    (case a14 => k_is)
    (case l14 => k_is)
    (case c14 => k_is)
    (case k14 => k_is)
    (case a15 => k_is)
    (case l15 => k_is)
    (case c15 => k_is)
    (case k15 => k_is)
    (case a16 => k_is)
    (case l16 => k_is)
    (case c16 => k_is)
    (case k16 => k_is)
    (case a17 => k_is)
    (case l17 => k_is)
    (case c17 => k_is)
    (case k17 => k_is)
    (case a18 => k_is)
    (case l18 => k_is)
    (case c18 => k_is)
    (case k18 => k_is)
    (case m1 => k_is)
    (case m2 => k_is)
    (case m3 => k_is)
    (case m4 => k_is)
    (case m5 => k_is)
    (case m6 => k_is)
    (case b_len => k_is)
    (case b_range => k_is)
    (case b_max => k_is)
    (case b_min => k_is)
    (case b_repr => k_is)
    (case b_tuple => k_is)
    (case b_isinstance => k_is)
    (case b_int => k_is)
    (case b_bool => k_is)
    (case b_str => k_is)
    (case b_all => k_is)
    (case b_list => k_is)
#print axioms PySem.Challenge.cw_soleseat_k01_letters_known_holds
namespace G0

end G0
