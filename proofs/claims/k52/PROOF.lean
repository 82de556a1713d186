import PyProof.Rows.All
import Wide.All
import OpenK.AllK
import Wide.FinOn
import HandS.ForMost
import HandS.Wide
import HandS.Conv
import HandS.TupAny
import HandS.Deep
import HandS.Steps
import HandS.NoneIn
import HandS.IsInst
import HandS.More
import HandS.Defaults
import HandS.TupSets
import HandS.EndBits
import HandS.WideBits
import HandS.Gcd
import HandS.SortInts
import HandS.Style
import HandS.AnyAll
import HandS.Wide
import HandS.More
import Flt.RightSqrt
import PySem.Challenge.RW_soleseat_k52_whole_two_seats_in_one
set_option Elab.async false
set_option maxRecDepth 100000
set_option maxHeartbeats 1000000
set_option linter.all false
/-! Calls where nothing is under repr around: the layer's defs, with one premise more (no guard around). -/
namespace G0
open PySem PySem.Spec PyProof.Rows L2
structure FnG (P : Program) (w : World) (K : PySem.W.Frag) (mg : Str → Option Value) (base : Heap) (CX : CXT)
    (k : Nat) (f : Addr) (fd : FuncData) (ps : List Str) (sp : Sp) : Prop where
  args : ∀ zs G R W, sp zs G R W → zs.length = ps.length
  runs : ∀ (B : Around) (around : List Env) (t : Shared) (G : Hp) (given : Args) (bound : List Value) (zs : List V) (R : VK) (W : XK),
    B.guards = some [] → Room k B → Env0 P w K mg base B around t G →
    BindsTo t fd given (ps.zip bound) → Vals zs bound → sp zs G R W →
    codeAny (model P w) B (.call (.ref f) given) (CR CX around P w G t R W) t
theorem FnG.of {P : Program} {w : World} {K : PySem.W.Frag} {mg : Str → Option Value} {base : Heap} {CX : CXT}
    {k : Nat} {f : Addr} {fd : FuncData} {ps : List Str} {sp : Sp} (F : FnOk P w K mg base CX k f fd ps sp) :
    FnG P w K mg base CX k f fd ps sp :=
  ⟨F.len, fun B around t G given bound zs R W _ hr => F.run B around t G given bound zs R W hr⟩
theorem FnG.mono {P : Program} {w : World} {K : PySem.W.Frag} {mg : Str → Option Value} {base : Heap} {CX : CXT}
    {j k : Nat} {f : Addr} {fd : FuncData} {ps : List Str} {sp : Sp} (F : FnG P w K mg base CX j f fd ps sp) (h : j ≤ k) :
    FnG P w K mg base CX k f fd ps sp :=
  ⟨F.args, fun B around t G given bound zs R W hg hr => F.runs B around t G given bound zs R W hg (hr.mono h)⟩
section
variable {X : Cx} {CX : CXT} {k : Nat} {f : Addr} {fd : FuncData} {ps : List Str} {sp : Sp}
  {dvs : List V} {ds : List Value} {E : XK} {x : Str} {p pos : Pos} {e : Expr} {es : List Expr} {t : TA}
theorem goes {pins : List (Addr × Obj)} {σ : L2.St} {H : Hp} {s : Shared} {Q : VK} {us : List Value} {vs : List V}
    (F : FnG X.prog X.w X.K X.mg X.base CX k f fd ps sp) (free : X.A.guards = some []) (hr : Room k X.A)
    (hb : Binds X.K fd ps ds) (hd : Vals dvs ds) (hx : Passes CX X E)
    (I : Inv X pins σ H s) (r : Vals vs us) (h : sp (vs ++ dvs) H Q E) :
    wpAny (model X.prog X.w) X.A (call (.ref f) us) (EP X pins σ Q) X.xe s := by
  have both : Vals (vs ++ dvs) (us ++ ds) := r.append hd
  have many : (us ++ ds).length = ps.length := both.length.symm.trans (F.args _ _ _ _ h)
  have it := F.runs X.A X.stack s H ⟨us, []⟩ (us ++ ds) (vs ++ dvs) Q E free hr I.env0 (hb s us I.kIn many) both h
  refine wpAny_call (codeAny_mono it fun out s' told => ?_)
  match out, told with
  | .error e, told => exact hx pins σ H s e s' I told
  | .ok (.ret u), told => exact I.after told
  | .ok .next, told => exact told.elim
  | .ok .brk, told => exact told.elim
  | .ok .cont, told => exact told.elim
theorem pe_callG (F : FnG X.prog X.w X.K X.mg X.base CX k f fd ps sp) (free : X.A.guards = some []) (hr : Room k X.A)
    (hg : Gl X x) (hm : X.mg x = some (.ref f)) (hk : PySem.W.keepIn X.K (.ref f) = true)
    (hb : Binds X.K fd ps ds) (hd : Vals dvs ds) (hx : Passes CX X E) (ha : PA X (e :: es) t)
    (n1 : (x == ("__debug__" : Str)) = false := by decide)
    (n2 : starEach (e :: es) X.env = (false, eval e X.env) :: starEach es X.env := by rfl)
    (n3 : (backTo pos (starEach es X.env)).any (·.1) = false := by rfl) :
    PE X (.Call (.Name x p) (e :: es) [] pos) (tCall sp dvs E t) :=
  ⟨fun pins s σ H Q I h => wpAny_Call_Name_kw (ld_glob I hg hm
    (PySem.W.callWith_K (h₀ := X.base) I.ok.mod.kin hk
      (thn (ha.run pos pins s σ H _ I h) fun us s1 ⟨vs, H1, I1, r, q⟩ =>
        ⟨I1.kIn, goes F free hr hb hd hx I1 r q⟩) n2 n3) n1)⟩
end
/-- a def's body, where nothing is under repr -/
theorem fnG_of {CX : CXT} {P : Program} {w : World} {K : PySem.W.Frag} {mg : Str → Option Value} {base : Heap} {k : Nat}
    {f : Addr} {name qual : Str} {params : Arguments} {body : List Stmt} {scope : Scope} {dV kV doc pm cdv ct oc : Value}
    {an od : Option Addr} {osl : Array (Option Value)} {N ps : List Str} {sp : Sp}
    (lk : K.lookup f = some ⟨oc, od, .func (PySem.W.fnOf name qual params body scope dV kV doc pm an cdv ct), osl⟩)
    (coded : PySem.W.codeIn K cdv qual = true) (S : FnScope N ps scope)
    (len : ∀ zs G R W, sp zs G R W → zs.length = ps.length)
    (inner : ∀ (B : Around) (around : List Env) (t : Shared) (G : Hp) (zs : List V) (R : VK) (W : XK), B.guards = some [] →
      Room k (B.deeper (envOfC qual scope t.heap.objs.size f cdv)) → sp zs G R W →
      ∃ tb, PSs (cxOf CX P w K mg base N qual scope f cdv B around t G W) body tb ∧
        tb { nx := fun _ G' => R .non G', rt := R } (start N zs) G) :
    FnG P w K mg base CX (k + 1) f (PySem.W.fnOf name qual params body scope dV kV doc pm an cdv ct) ps sp := by
  refine ⟨len, fun B around t G given bound zs R W free room e0 bd rel asked => ?_⟩
  have many := len _ _ _ _ asked
  have KX : K.In t.heap := e0.mod.kin.keeps fun b o z => (e0.bs b o z).1
  have lim : t.heap.NoLimit := e0.mod.nolimit.keeps fun b o z => (e0.bs b o z).1
  have kinds : ∀ y ∈ ps.zip bound, scope.names.lookup y.1 = some .local ∨
      (scope.names.lookup y.1 = some .cell ∧ ((cellsFrom (t.heap.objs.size + 1) scope.names []).lookup y.1).isSome = true) := by
    intro y hy
    cases S.par y.1 (List.of_mem_zip hy).1 with
    | inl q => exact .inl q
    | inr q => exact .inr ⟨q, PySem.W.cellsFrom_some _ _ _ (.inl q)⟩
  refine codeAny_call_function room.depth (KX _ _ lk) rfl S.co S.gen rfl (PySem.W.codeRec_of KX coded) (bd _ _ _ _ ?_)
  refine wpAny_newFunctionEnv_cells S.kind kinds fun env same t1 made => ?_
  subst same
  refine ⟨lim.keeps made.toInCall.keep, codeAny_func ?_⟩
  obtain ⟨tb, derived, holds⟩ := inner B around t G zs R W free (room.deeper _) asked
  have J : Inv (cxOf CX P w K mg base N qual scope f cdv B around t G W) [] (start N zs) G t1 :=
    inv_start S room.hd e0 many rel made
  refine wpAny_mono (derived.run [] t1 (start N zs) G _ J holds) (fun fl t' told => ?_) fun e t' told => told
  match fl, told with
  | .ret u, ⟨v, σ', G', J', rv, q⟩ => exact ⟨v, G', J'.os, J'.bare, J'.base, J'.hok, rv, q⟩
  | .next, ⟨σ', G', J', q⟩ => exact ⟨V.non, G', J'.os, J'.bare, J'.base, J'.hok, (rfl : Value.none = Value.none), q⟩
  | .brk, ⟨_, _, _, q⟩ => exact q.elim
  | .cont, ⟨_, _, _, q⟩ => exact q.elim
theorem okG {P : Program} {w : World} {K : PySem.W.Frag} {mg : Str → Option Value} {base : Heap} {x qual : Str} {st : Stmt}
    {f : Addr} {fd : FuncData} {N ps : List Str} {k : Nat} {sp : Sp} (F : Fun K x qual st f fd) (S : FnScope N ps (defScope st))
    (len : ∀ zs G R W, sp zs G R W → zs.length = ps.length)
    (inner : ∀ (cdv : Value) (B : Around) (around : List Env) (t : Shared) (G : Hp) (zs : List V) (R : VK) (W : XK), B.guards = some [] →
      Room k (B.deeper (envOfC qual (defScope st) t.heap.objs.size f cdv)) → sp zs G R W →
      ∃ tb, PSs (cxOf CX0 P w K mg base N qual (defScope st) f cdv B around t G W).nox (defBody st) tb ∧
        tb { nx := fun _ G' => R .non G', rt := R } (start N zs) G) :
    FnG P w K mg base CX0 (k + 1) f fd ps sp := by
  obtain ⟨oc, od, kV, doc, pm, an, cdv, ct, osl, rfl, lk, coded⟩ := F.ex
  refine fnG_of lk coded S len fun B around t G zs R W free room asked => ?_
  obtain ⟨tb, derived, holds⟩ := inner cdv B around t G zs R W free room asked
  exact ⟨tb, derived.nox, holds⟩
/-- the law's own call -/
theorem law_callG {P : Program} {w : World} {K : PySem.W.Frag} {mg mb : Str → Option Value} {CX : CXT} {k : Nat} {fa a : Addr}
    {fd : FuncData} {x : Str} {sp : Sp} {s₁ : Shared} {vs : List Value} {ns : List Int}
    (KX : K.In s₁.heap) (gl : s₁.heap.Ns mainGlobals mg) (bl : s₁.heap.Ns builtinsNs mb)
    (boot : ∀ x : Str, x ≠ "__name__" → mb x = bootBuiltins x) (lim : s₁.heap.NoLimit) (nogens : s₁.gens = #[])
    (at_ : s₁.heap.get? a = some { cls := .type "list", data := .seq vs.toArray }) (nums : IntsAre vs ns) (short : ns.length ≤ sizeLine)
    (room : Room k callerA)
    (F : ∀ base : Heap, K.In base → base.Ns mainGlobals mg → FnG P w K mg base CX k fa fd [x] sp)
    (bound : ∀ (s : Shared) (u : Value), BindsTo s fd ⟨[u], []⟩ [(x, u)])
    (asked : ∀ H : Hp, Only H → SqL K H a (ns.map V.int) → sp [.ref a] H (fun v _ => v = .bl true) fun _ _ _ => False)
    (never : ∀ H e s', CX [] H s₁ (fun _ _ _ => False) e s' → False) :
    codeAny (model P w) callerA (.call (.ref fa) ⟨[.ref a], []⟩)
      (fun r s' => r = .ok (.ret (.bool true)) ∧ OldK s₁.heap s'.heap ∧ s'.os = s₁.os ∧ AllBare s'.gens) s₁ := by
  have rel := vals_ints nums
  have many := nums.length
  have from_ : ∀ H : Hp, Only H → SqL K H a (ns.map V.int) → HOk P w H s₁.heap → (∀ b, H b ≠ none → b = a) →
      (H a ≠ none → K.lookup a = none) → codeAny (model P w) callerA (.call (.ref fa) ⟨[.ref a], []⟩)
        (fun r s' => r = .ok (.ret (.bool true)) ∧ OldK s₁.heap s'.heap ∧ s'.os = s₁.os ∧ AllBare s'.gens) s₁ := by
    intro H only seq fine one away
    have down : ∀ {b : Addr} {o : Obj}, s₁.heap.get? b = some o → H b = none →
      (hidT s₁.heap H).get? b = some o := fun e n => hidT_get e n
    have untracked : ∀ {b : Addr} {o : Obj}, s₁.heap.get? b = some o → (b = a → False) → H b = none := by
      intro b o _ n
      by_cases q : H b = none
      · exact q
      · exact (n (one b q)).elim
    have nodict : ∀ {b : Addr} {o : Obj} {es : Array DictEntry} {ep : Nat},
        s₁.heap.get? b = some o → o.data = .dict es ep → H b = none := by
      intro b o es ep e d
      refine untracked e fun q => ?_
      rw [q, at_] at e
      have e' := Option.some.inj e
      rw [← e'] at d
      have d' : Data.seq vs.toArray _ = Data.dict es ep := d
      exact absurd d' (fun h => by cases h)
    have spaces : ∀ {b : Addr} {m : Str → Option Value}, s₁.heap.Ns b m → (hidT s₁.heap H).Ns b m := by
      intro b m ns
      obtain ⟨o, es, ep, e, d, r⟩ := ns
      exact ⟨o, es, ep, down e (nodict e d), d, r⟩
    have written : K.In (hidT s₁.heap H) := by
      intro b o e
      refine down (KX b o e) ?_
      by_cases q : H b = none
      · exact q
      · have same := one b q
        rw [same] at q e
        rw [away q] at e
        cases e
    have md : Mod K mg (hidT s₁.heap H) := by
      obtain ⟨mc, h1, h2⟩ := lim
      exact ⟨written, spaces gl, ⟨mb, spaces bl, boot⟩, ⟨mc, spaces h1, h2⟩⟩
    have e0 : Env0 P w K mg (hidT s₁.heap H) callerA [] s₁ H :=
      ⟨rfl, md, fun b o e => of_hidT e, Nat.le_of_eq (hidT_size _ _), trivial,
        fun b hb => (List.not_mem_nil (show b ∈ ([] : List Addr) from hb)).elim, fine, .of_eq nogens⟩
    have it := (F _ written (spaces gl)).runs callerA [] s₁ H ⟨[.ref a], []⟩ [.ref a] [.ref a] _ _ rfl room e0
      (bound s₁ (.ref a)) (.cons rfl .nil) (asked H only seq)
    refine codeAny_mono it fun out s' told => ?_
    match out, told with
    | .error e, told => exact (never H e s' told).elim
    | .ok .next, told => exact told.elim
    | .ok .brk, told => exact told.elim
    | .ok .cont, told => exact told.elim
    | .ok (.ret u), ⟨v, H', os, bare, un, fine', r', q⟩ =>
      have q' : v = .bl true := q
      subst q'
      have u' : u = Value.bool true := r'
      subst u'
      refine ⟨rfl, OldK.of_keep fun b o e => ?_, os, bare⟩
      cases q : H b with
      | none => exact un.keep b o e q (fun z => (List.not_mem_nil (show b ∈ ([] : List Addr) from z)).elim) (List.not_mem_nil)
      | some u =>
        rcases only b with z | ⟨ob, xs, z⟩
        · have z1 := q.symm.trans z
          cases z1
        · have z' := un.frzs b ob _ z
          have e1 := (fine b _ z).1
          have e2 := (fine' b _ z').1
          exact e2.trans (e1.symm.trans e)
  cases known : K.lookup a with
  | some o =>
    have e := (KX a o known).symm.trans at_
    have e' := Option.some.inj e
    subst e'
    refine from_ (fun _ => none) (fun _ => .inl rfl) (.inr ⟨_, vs.toArray, _, known, rfl, rfl, rfl, ?_, ?_⟩)
      (fun b u z => by have z1 : (none : Option HO) = some u := z; cases z1) (fun b z => (z rfl).elim) fun z => (z rfl).elim
    · rw [List.size_toArray, many]; exact short
    · simpa using rel
  | none =>
    have self : (fun b => if b = a then some (HO.frz { cls := .type "list", data := .seq vs.toArray } (.lst (ns.map V.int))) else none) a
        = some (HO.frz { cls := .type "list", data := .seq vs.toArray } (.lst (ns.map V.int))) := if_pos rfl
    refine from_ (fun b => if b = a then some (HO.frz { cls := .type "list", data := .seq vs.toArray } (.lst (ns.map V.int))) else none)
      (fun b => ?_) (.inl (.inr ⟨_, self⟩)) (fun b u z => ?_) (fun b z => ?_) fun _ => known
    · by_cases same : b = a
      · exact .inr ⟨_, _, if_pos same⟩
      · exact .inl (if_neg same)
    · by_cases same : b = a
      · subst same
        have z' := Option.some.inj ((if_pos rfl).symm.trans z)
        subst z'
        exact ⟨at_, by rw [List.length_map]; exact short, vs, _, rel, at_⟩
      · have z1 := (if_neg same).symm.trans z
        cases z1
    · by_cases same : b = a
      · exact same
      · exact (z (if_neg same)).elim
theorem walk_ofG {l : PySem.W.OpenLaw} {n k : Nat} {q : Program} {loose : List Str} {XP : (Str → Option Value) → Heap → Prop}
    {YP : World → Heap → Prop} {d : DefRec} {K : Params → PySem.W.Frag} {sp : PySem.W.Frag → Sp} {x : Str}
    (hn : l.most = some n) (hn2 : n ≤ sizeLine) (hdf : d.params.defaults = []) (room : Room k callerA)
    (hY : ∀ (w : World) (h : Heap), YP w h → (K w.params).In h)
    (F : ∀ (w : World) (mg : Str → Option Value) (fa : Addr) (h : Heap), (K w.params).In h → h.Ns mainGlobals mg →
      mg d.name = some (.ref fa) → ∃ fd : FuncData, (∀ (s : Shared) (u : Value), BindsTo s fd ⟨[u], []⟩ [(x, u)]) ∧
        ∀ base : Heap, (K w.params).In base → base.Ns mainGlobals mg →
          FnG l.prog w (K w.params) mg base CX0 k fa fd [x] (sp (K w.params)))
    (asked : ∀ (K : PySem.W.Frag) (H : Hp) (a : Addr) (ns : List Int), ns.length ≤ n → Only H → SqL K H a (ns.map V.int) →
      sp K [.ref a] H (fun v _ => v = .bl true) fun _ _ _ => False) :
    PySem.W.WalkO q loose XP YP l.row.toRowW d [] (fun f vs => PySem.call f vs) := by
  refine Att.attach_call hn hdf fun w s₀ s₁ mg mb fa o pm cd doc a vs ns G Y ho hd hcd named obj nums few nogens => ?_
  have KX := hY w _ Y
  obtain ⟨fd, bound, all⟩ := F w mg fa _ KX G.T.g named
  exact law_callG KX G.T.g G.T.b G.T.builtins G.T.nolimit nogens obj nums (Nat.le_trans few hn2) room all bound
    (fun H only seq => asked _ H a ns few only seq) fun H e s' z => z
end G0
namespace G0
open PySem PySem.Spec PyProof.Rows L2
/-! ### a def of the module's top, by its name -/
def Fn (K : PySem.W.Frag) (mg : Str → Option Value) (x : Str) (st : Stmt) : Prop :=
  ∃ f fd, Fun K x x st f fd ∧ mg x = some (.ref f)
def Cal (P : Program) (w : World) (K : PySem.W.Frag) (mg : Str → Option Value) (base : Heap) (x : Str) (k : Nat) (ps : List Str) (sp : Sp) : Prop :=
  ∃ f fd, FnG P w K mg base CX0 k f fd ps sp ∧ Binds K fd ps [] ∧ mg x = some (.ref f) ∧ PySem.W.keepIn K (.ref f) = true ∧
    ∃ oc od osl, K.lookup f = some ⟨oc, od, .func fd, osl⟩
theorem fn_top {K : PySem.W.Frag} {h : Heap} {mg : Str → Option Value} {x : Str} {st : Stmt} {f : Addr} {oc : Value} {od an : Option Addr}
    {osl : Array (Option Value)} {kV doc pm cdv ct : Value} (X : K.In h) (G : h.Ns mainGlobals mg)
    (a : PySem.W.nsIn K mainGlobals x = some (some (.ref f)))
    (l : K.lookup f = some ⟨oc, od, .func (PySem.W.fnOf x x (defArgs st) (defBody st) (defScope st) .none kV doc pm an cdv ct), osl⟩)
    (c : PySem.W.codeIn K cdv x = true) (k : PySem.W.keepIn K (.ref f) = true) : Fn K mg x st :=
  ⟨f, _, fun_mk l c k, PySem.W.mg_of X G a⟩
/-- a method of the class at C -/
def Fm (K : PySem.W.Frag) (C : Addr) (x qual : Str) (st : Stmt) : Prop := ∃ f fd, Fun K x qual st f fd ∧ Meth K C x f
theorem fm_top {K : PySem.W.Frag} {C : Addr} {x qual : Str} {st : Stmt} {f : Addr} {oc : Value} {od an : Option Addr}
    {osl : Array (Option Value)} {kV doc pm cdv ct : Value}
    (a : PySem.W.findIn K (.ref C) x = some (some (.ref f))) (i : PySem.W.isFn K (.ref f) = true)
    (l : K.lookup f = some ⟨oc, od, .func (PySem.W.fnOf x qual (defArgs st) (defBody st) (defScope st) .none kV doc pm an cdv ct), osl⟩)
    (c : PySem.W.codeIn K cdv qual = true) (k : PySem.W.keepIn K (.ref f) = true) : Fm K C x qual st :=
  ⟨f, _, fun_mk l c k, ⟨a, i, k⟩⟩
section
variable {P : Program} {w : World} {K : PySem.W.Frag} {mg : Str → Option Value} {base : Heap}
theorem cal_of {x : Str} {st : Stmt} {N ps : List Str} {k : Nat} {sp : Sp} (F : Fn K mg x st) (S : FnScope N ps (defScope st))
    (bd : ∀ (kV doc pm : Value) (an : Option Addr) (cdv ct : Value) (us : List Value), us.length = ps.length →
      bindArgs (PySem.W.fnOf x x (defArgs st) (defBody st) (defScope st) .none kV doc pm an cdv ct) ⟨us, []⟩ = pure (ps.zip us))
    (len : ∀ zs G R W, sp zs G R W → zs.length = ps.length)
    (inner : ∀ (f : Addr) (cdv : Value) (B : Around) (around : List Env) (t : Shared) (G : Hp) (zs : List V) (R : VK) (W : XK), B.guards = some [] →
      Room k (B.deeper (envOfC x (defScope st) t.heap.objs.size f cdv)) → sp zs G R W →
      ∃ tb, PSs (cxOf CX0 P w K mg base N x (defScope st) f cdv B around t G W).nox (defBody st) tb ∧
        tb { nx := fun _ G' => R .non G', rt := R } (start N zs) G) :
    Cal P w K mg base x (k + 1) ps sp := by
  obtain ⟨f, fd, F, m⟩ := F
  obtain ⟨oc, od, kV, doc, pm, an, cdv, ct, osl, e, lk, c⟩ := id F.ex
  exact ⟨f, fd, okG F S len (inner f), F.binds bd, m, F.kp, oc, od, osl, lk⟩
theorem Cal.mono {x : Str} {j k : Nat} {ps : List Str} {sp : Sp} (C : Cal P w K mg base x j ps sp) (h : j ≤ k) : Cal P w K mg base x k ps sp := by
  obtain ⟨f, fd, F, r⟩ := C
  exact ⟨f, fd, F.mono h, r⟩
/-- the law itself, at the end -/
theorem law_end {st : Stmt} {k : Nat} {sp : Sp} {fa : Addr} (F : Fn K mg "law" st) (hm : mg "law" = some (.ref fa))
    (bt : ∀ (kV doc pm : Value) (an : Option Addr) (cdv ct : Value) (s : Shared) (v : Value),
      BindsTo s (PySem.W.fnOf "law" "law" (defArgs st) (defBody st) (defScope st) .none kV doc pm an cdv ct) ⟨[v], []⟩ [("script", v)])
    (C : ∀ base : Heap, K.In base → base.Ns mainGlobals mg → Cal P w K mg base "law" k ["script"] sp) :
    ∃ fd : FuncData, (∀ (s : Shared) (v : Value), BindsTo s fd ⟨[v], []⟩ [("script", v)]) ∧
      ∀ base : Heap, K.In base → base.Ns mainGlobals mg → FnG P w K mg base CX0 k fa fd ["script"] sp := by
  obtain ⟨f, fd, F, m⟩ := F
  obtain ⟨oc, od, kV, doc, pm, an, cdv, ct, osl, e, lk, c⟩ := id F.ex
  have ef := m.symm.trans hm
  cases ef
  refine ⟨fd, fun s v => by rw [e]; exact bt _ _ _ _ _ _ s v, fun base kin ns => ?_⟩
  obtain ⟨f', fd', G, _, m', _, oc', od', osl', lk'⟩ := C base kin ns
  have ef := m.symm.trans m'
  cases ef
  have ed := lk.symm.trans lk'
  cases ed
  exact G
end
section
variable {X : Cx} {k : Nat} {ps : List Str} {sp : Sp} {x : Str} {p pos : Pos} {e : Expr} {es : List Expr} {t : TA}
theorem pe_cal (C : Cal X.prog X.w X.K X.mg X.base x k ps sp) (free : X.A.guards = some []) (hr : Room k X.A)
    (ha : PA X (e :: es) t) (hg : Gl X x := by rfl) (n1 : (x == ("__debug__" : Str)) = false := by decide)
    (n2 : starEach (e :: es) X.env = (false, eval e X.env) :: starEach es X.env := by rfl)
    (n3 : (backTo pos (starEach es X.env)).any (·.1) = false := by rfl) (hx : Passes CX0 X E0 := by exact pass0) :
    PE X (.Call (.Name x p) (e :: es) [] pos) (tCall sp [] E0 t) := by
  obtain ⟨f, fd, F, b, m, kp, _⟩ := C
  exact pe_callG F free hr hg m kp b .nil hx ha n1 n2 n3
/-! ### repr of data -/
def rRep (K : PySem.W.Frag) : List V → Hp → VK → Prop := fun xs H Q => ∃ (x : V) (d : PyData), xs = [x] ∧ Dp K H x d ∧
  d.showable = true ∧ d.hasDict = false ∧ d.depth ≤ 64 ∧ d.shown.length ≤ sizeLine ∧ Q (.str d.shown) H
theorem call_rep (free : X.A.guards = some []) (hu : X.A.units + 66 < cLine) : CallR X (.builtin "repr") (rRep X.K) := by
  intro pins s σ H xs us Q I r h
  obtain ⟨x, d, rfl, hd, hs, hn, h64, hz, q⟩ := h
  obtain ⟨u, rfl, rx⟩ := vals1 r
  have viaRef : ∀ (a : Addr), x = .ref a → wpAny (model X.prog X.w) X.A (call (.builtin "repr") [u]) (EP X pins σ Q) X.xe s := by
    intro a e
    subst e
    obtain rfl : u = Value.ref a := rx
    obtain ⟨as, rd⟩ := Dp.reads I d _ _ hd (rfl : RelV (.ref a) (.ref a))
    exact repr_of_reads' rd hs (PyData.noDict_hsm hn) free (by omega) (fun _ _ e => e)
      (fun h' w t kp => ⟨.str d.shown, H, I.kept (t' := t) kp, ⟨_, rfl⟩, q⟩) hz
  cases hd with
  | non =>
    obtain rfl : u = Value.none := rx
    exact PySem.P.repr_of_none ⟨.str _, H, I.tok _, ⟨_, rfl⟩, by simpa only [PyData.shown] using q⟩
  | bl b =>
    obtain rfl : u = Value.bool b := rx
    exact PySem.P.repr_of_bool ⟨.str _, H, I.tok _, ⟨_, rfl⟩, by simpa only [PyData.shown] using q⟩
  | int i =>
    obtain ⟨t, rfl⟩ := rx
    exact PySem.P.repr_of_int (by simpa [PyData.showable] using hs) ⟨.str _, H, I.tok _, ⟨_, rfl⟩, by simpa only [PyData.shown] using q⟩
  | str z =>
    obtain ⟨t, rfl⟩ := rx
    exact PySem.P.repr_of_str ⟨.str _, H, I.tok _, ⟨_, rfl⟩, by simpa only [PyData.shown] using q⟩ (by simpa only [PyData.shown] using hz)
  | lst _ _ => exact viaRef _ rfl
  | tup _ _ => exact viaRef _ rfl
/-! ### operators of several kinds in one -/
theorem u_eq (hu : X.A.units + 64 < cLine) : OpR X (compareOp .Eq) (fun x y H Q => rEq x y H Q ∨ rEqD X.K x y H Q) := op_eq.or (op_eqD hu)
theorem u_ne (hu : X.A.units + 64 < cLine) : OpR X (compareOp .NotEq) (fun x y H Q => rNe x y H Q ∨ rNeD X.K x y H Q) := op_ne.or (op_neD hu)
theorem u_in : OpR X (compareOp .In) (fun x y H Q => rIn X.K false x y H Q ∨ rInS x y H Q) := op_in_seq.or op_inS
theorem u_notin : OpR X (compareOp .NotIn) (fun x y H Q => rIn X.K true x y H Q ∨ rNotInS x y H Q) := op_notIn_seq.or op_notInS
end
theorem pe_fldK {X : Cx} {e : Expr} {f : Str} {pos : Pos} {ta : TE} (K : PySem.W.Frag) (ha : PE X e ta) (hK : X.K = K := by rfl)
    (hb : attributeBase e f X.env (eval e X.env) = eval e X.env := by rfl) : PE X (.Attribute e f pos) (tFld K ta f) := by
  subst hK
  exact pe_fld ha hb
/-! ### the written part named, for what stands within a comprehension -/
theorem op_K {X : Cx} {f : Value → Value → Sem Value} (r : PySem.W.Frag → R2) (K : PySem.W.Frag) (ho : OpR X f (r X.K)) (hK : X.K = K) : OpR X f (r K) := hK ▸ ho
theorem ix_K {X : Cx} (r : PySem.W.Frag → R2) (K : PySem.W.Frag) (ho : IxR X (r X.K)) (hK : X.K = K) : IxR X (r K) := hK ▸ ho
theorem call_K {X : Cx} {f : Value} (r : PySem.W.Frag → List V → Hp → VK → Prop) (K : PySem.W.Frag) (ho : CallR X f (r X.K)) (hK : X.K = K) : CallR X f (r K) := hK ▸ ho
section
variable {X : Cx} (K : PySem.W.Frag)
theorem u_inK (hK : X.K = K := by rfl) : OpR X (compareOp .In) (fun x y H Q => rIn K false x y H Q ∨ rInS x y H Q) := op_K (fun K x y H Q => rIn K false x y H Q ∨ rInS x y H Q) K u_in hK
theorem u_notinK (hK : X.K = K := by rfl) : OpR X (compareOp .NotIn) (fun x y H Q => rIn K true x y H Q ∨ rNotInS x y H Q) := op_K (fun K x y H Q => rIn K true x y H Q ∨ rNotInS x y H Q) K u_notin hK
theorem ix_listK (hK : X.K = K := by rfl) : IxR X (rIxL K) := ix_K rIxL K ix_list hK
theorem ix_tupK (hK : X.K = K := by rfl) : IxR X (rIxT K) := ix_K rIxT K ix_tup hK
theorem ix_seqK (hK : X.K = K := by rfl) : IxR X (rIx K) := ix_K rIx K ix_seq hK
theorem call_len_seqK (hK : X.K = K := by rfl) : CallR X (.builtin "len") (fun xs H Q => ∃ p ys, xs = [.ref p] ∧ (SqL K H p ys ∨ SqT K H p ys) ∧ Q (.int ys.length) H) :=
  call_K (fun K xs H Q => ∃ p ys, xs = [.ref p] ∧ (SqL K H p ys ∨ SqT K H p ys) ∧ Q (.int ys.length) H) K call_len_seq hK
end
/-! ### what changes: one list -/
/-- all that is tracked but p stays -/
def Chg (p : Addr) (H H' : Hp) : Prop := ∀ b o, b ≠ p → H b = some o → H' b = some o
theorem Chg.refl (p : Addr) (H : Hp) : Chg p H H := fun _ _ _ e => e
theorem Chg.trans {p : Addr} {H H1 H2 : Hp} (a : Chg p H H1) (b : Chg p H1 H2) : Chg p H H2 := fun c o n e => b c o n (a c o n e)
theorem Chg.self {p : Addr} {H : Hp} {o : HO} : Chg p H (upd H p o) := fun b u n e => by rw [upd_ne n]; exact e
theorem Chg.new {p q : Addr} {H H1 : Hp} {o : HO} (a : Chg p H H1) (n : H1 q = none) : Chg p H (upd H1 q o) := fun b u m e => by
  rw [upd_ne (ne_of_none (a b u m e) n)]; exact a b u m e
theorem Chg.same {p : Addr} {H H1 : Hp} (a : Same H H1) : Chg p H H1 := fun b o _ e => a b o e
theorem same_upd {H : Hp} {q : Addr} {o : HO} (n : H q = none) : Same H (upd H q o) := fun b u e => by
  rw [upd_ne (ne_of_none e n)]; exact e
/-! ### a law's draws: the pot -/
def PotL (n : Nat) (xs : List V) : Prop := ∃ a b c : Int, xs = [.int a, .int b, .int c] ∧ 0 ≤ a ∧ 0 ≤ b ∧ b < 2305843009213693951 ∧ 0 ≤ c ∧ c ≤ n
def PotAt (n : Nat) (H : Hp) (p : Addr) : Prop := ∃ xs, H p = some (.lst xs) ∧ PotL n xs
theorem PotL.mono {n m : Nat} {xs : List V} (h : PotL n xs) (le : n ≤ m) : PotL m xs := by
  obtain ⟨a, b, c, e, h1, h2, h3, h4, h5⟩ := h
  exact ⟨a, b, c, e, h1, h2, h3, h4, by omega⟩
theorem PotAt.mono {n m : Nat} {H : Hp} {p : Addr} (h : PotAt n H p) (le : n ≤ m) : PotAt m H p := by
  obtain ⟨xs, e, h⟩ := h
  exact ⟨xs, e, h.mono le⟩
theorem PotAt.keep {n : Nat} {H H' : Hp} {p : Addr} (h : PotAt n H p) (s : Same H H') : PotAt n H' p := by
  obtain ⟨xs, e, h⟩ := h
  exact ⟨xs, s _ _ e, h⟩
theorem PotAt.at {n : Nat} {H : Hp} {p : Addr} {xs : List V} (h : PotL n xs) : PotAt n (upd H p (.lst xs)) p := ⟨xs, upd_same, h⟩
end G0
namespace G0
open PySem PySem.Spec PyProof.Rows L2
/-! ### data -/
mutual
def noL : PyData → Bool
  | .none | .bool _ | .int _ | .str _ => true
  | .list _ | .dict _ => false
  | .tuple xs => noLs xs
def noLs : List PyData → Bool
  | [] => true
  | x :: xs => noL x && noLs xs
end
section
variable {K : PySem.W.Frag} {H H' : Hp} {p : Addr}
theorem sqt_chg (hp : ∃ xs, H p = some (.lst xs)) (c : Chg p H H') {a : Addr} {xs : List V} (h : SqT K H a xs) : SqT K H' a xs := by
  obtain ⟨ys, hp⟩ := hp
  rcases h with (h | ⟨o, h⟩) | h
  · exact .inl (.inl (c _ _ (ne_of h hp (by intro z; cases z)) h))
  · exact .inl (.inr ⟨o, c _ _ (ne_of h hp (by intro z; cases z)) h⟩)
  · exact .inr h
theorem sqt_same (c : Same H H') {a : Addr} {xs : List V} (h : SqT K H a xs) : SqT K H' a xs := by
  rcases h with (h | ⟨o, h⟩) | h
  · exact .inl (.inl (c _ _ h))
  · exact .inl (.inr ⟨o, c _ _ h⟩)
  · exact .inr h
mutual
theorem dp_chg (hp : ∃ xs, H p = some (.lst xs)) (c : Chg p H H') : ∀ (d : PyData) (v : V), noL d = true → Dp K H v d → Dp K H' v d
  | .none, _, _, h => by cases h; exact .non
  | .bool _, _, _, h => by cases h; exact .bl _
  | .int _, _, _, h => by cases h; exact .int _
  | .str _, _, _, h => by cases h; exact .str _
  | .list _, _, n, _ => by simp [noL] at n
  | .dict _, _, n, _ => by simp [noL] at n
  | .tuple ds, _, n, h => by
    cases h with
    | tup hs ha => exact .tup (sqt_chg hp c hs) (dps_chg hp c ds _ (by simpa [noL] using n) ha)
theorem dps_chg (hp : ∃ xs, H p = some (.lst xs)) (c : Chg p H H') : ∀ (ds : List PyData) (vs : List V), noLs ds = true → DpAll K H vs ds → DpAll K H' vs ds
  | [], _, _, h => by cases h; exact .nil
  | d :: ds, _, n, h => by
    simp only [noLs, Bool.and_eq_true] at n
    cases h with
    | cons h1 h2 => exact .cons (dp_chg hp c d _ n.1 h1) (dps_chg hp c ds _ n.2 h2)
end
mutual
theorem dp_same (c : Same H H') : ∀ (d : PyData) (v : V), Dp K H v d → Dp K H' v d
  | .none, _, h => by cases h; exact .non
  | .bool _, _, h => by cases h; exact .bl _
  | .int _, _, h => by cases h; exact .int _
  | .str _, _, h => by cases h; exact .str _
  | .list ds, _, h => by
    cases h with
    | lst hs ha => exact .lst (c.seq hs) (dps_same c ds _ ha)
  | .dict _, _, h => by cases h
  | .tuple ds, _, h => by
    cases h with
    | tup hs ha => exact .tup (sqt_same c hs) (dps_same c ds _ ha)
theorem dps_same (c : Same H H') : ∀ (ds : List PyData) (vs : List V), DpAll K H vs ds → DpAll K H' vs ds
  | [], _, h => by cases h; exact .nil
  | d :: ds, _, h => by
    cases h with
    | cons h1 h2 => exact .cons (dp_same c d _ h1) (dps_same c ds _ h2)
end
theorem dps_app {vs ws : List V} {ds es : List PyData} : DpAll K H vs ds → DpAll K H ws es → DpAll K H (vs ++ ws) (ds ++ es) := by
  intro h g
  match vs, ds, h with
  | [], [], _ => exact g
  | _ :: _, _ :: _, .cons h1 h2 => exact .cons h1 (dps_app h2 g)
theorem dps_len {vs : List V} {ds : List PyData} : DpAll K H vs ds → vs.length = ds.length := by
  intro h
  match vs, ds, h with
  | [], [], _ => rfl
  | _ :: _, _ :: _, .cons _ h2 => exact congrArg (· + 1) (dps_len h2)
end
theorem noLs_of : ∀ {ds : List PyData}, (∀ d ∈ ds, noL d = true) → noLs ds = true
  | [], _ => rfl
  | d :: ds, h => by
    simp only [noLs, Bool.and_eq_true]
    exact ⟨h d (List.mem_cons_self ..), noLs_of fun x hx => h x (List.mem_cons_of_mem _ hx)⟩
/-! ### things and letters -/
inductive Thing : Nat → PyData → Prop
  | num {n : Nat} {i : Int} : 0 ≤ i → i < 10 ^ 60 → Thing n (.int i)
  | tup {n : Nat} {ds : List PyData} : ds.length ≤ 2 → (∀ d ∈ ds, Thing n d) → Thing (n + 1) (.tuple ds)
theorem Thing.noL {n : Nat} {d : PyData} (h : Thing n d) : noL d = true := by
  induction h with
  | num _ _ => rfl
  | tup _ _ ih =>
    simp only [G0.noL]
    exact noLs_of ih
theorem Thing.mono {n m : Nat} {d : PyData} (h : Thing n d) (le : n ≤ m) : Thing m d := by
  induction h generalizing m with
  | num a b => exact .num a b
  | tup l _ ih =>
    cases m with
    | zero => omega
    | succ m => exact .tup l fun d hd => ih d hd (by omega)
def WordOk (z : Str) : Prop := 1 ≤ z.length ∧ z.length ≤ 8 ∧ (∀ c ∈ z.cps.toList, 97 ≤ c ∧ c ≤ 122) ∧ z ≠ "gone"
def LetterD (d : PyData) : Prop := ∃ (z : Str) (ds : List PyData), d = .tuple (.str z :: ds) ∧ WordOk z ∧ ds.length ≤ 5 ∧ ∀ x ∈ ds, Thing 3 x
theorem LetterD.noL {d : PyData} (h : LetterD d) : noL d = true := by
  obtain ⟨z, ds, rfl, _, _, hd⟩ := h
  simp only [G0.noL, noLs, Bool.true_and]
  exact noLs_of fun x hx => (hd x hx).noL
theorem Chg.mut {p D : Addr} {H0 H1 : Hp} {o : HO} (a : Chg p H0 H1) (n : H0 D = none) : Chg p H0 (upd H1 D o) := fun b u m e => by
  rw [upd_ne (ne_of_none e n)]; exact a b u m e
theorem PotAt.ne {n : Nat} {H H' : Hp} {p D : Addr} {o : HO} (h : PotAt n H p) (d : p ≠ D) (e : H' = upd H D o) : PotAt n H' p := by
  obtain ⟨xs, q, r⟩ := h
  exact ⟨xs, by rw [e, upd_ne d]; exact q, r⟩
theorem PotAt.new {n : Nat} {H : Hp} {p D : Addr} {o : HO} (h : PotAt n H p) (d : H D = none) : PotAt n (upd H D o) p := h.keep (same_upd d)
theorem PotAt.neD {n : Nat} {H : Hp} {p D : Addr} (h : PotAt n H p) (d : H D = none) : p ≠ D := by
  obtain ⟨xs, q, r⟩ := h
  exact ne_of_none q d
theorem PotAt.lst {n : Nat} {H : Hp} {p : Addr} (h : PotAt n H p) : ∃ xs, H p = some (.lst xs) := by
  obtain ⟨xs, q, r⟩ := h
  exact ⟨xs, q⟩
theorem PotAt.neT {n : Nat} {H : Hp} {p t : Addr} {xs : List V} (h : PotAt n H p) (d : H t = some (.tup xs)) : t ≠ p := by
  obtain ⟨ys, q, r⟩ := h
  exact ne_of d q (by intro z; cases z)
theorem Cal.imp {P : Program} {w : World} {K : PySem.W.Frag} {mg : Str → Option Value} {base : Heap} {x : Str} {k : Nat} {ps : List Str} {sp sp' : Sp}
    (C : Cal P w K mg base x k ps sp) (h : ∀ vs H Q E, sp' vs H Q E → sp vs H Q E) : Cal P w K mg base x k ps sp' := by
  obtain ⟨f, fd, F, r⟩ := C
  exact ⟨f, fd, ⟨fun a b c d q => F.args _ _ _ _ (h _ _ _ _ q), fun A o s H args us vs Q E fr hr he hb hv hs => F.runs A o s H args us vs Q E fr hr he hb hv (h _ _ _ _ hs)⟩, r⟩
theorem cal_no {P : Program} {w : World} {K : PySem.W.Frag} {mg : Str → Option Value} {base : Heap} {x : Str} {st : Stmt} {ps : List Str} (F : Fn K mg x st)
    (bd : ∀ (kV doc pm : Value) (an : Option Addr) (cdv ct : Value) (us : List Value), us.length = ps.length →
      bindArgs (PySem.W.fnOf x x (defArgs st) (defBody st) (defScope st) .none kV doc pm an cdv ct) ⟨us, []⟩ = pure (ps.zip us)) :
    Cal P w K mg base x 0 ps (fun _ _ _ _ => False) := by
  obtain ⟨f, fd, F, m⟩ := F
  obtain ⟨oc, od, kV, doc, pm, an, cdv, ct, osl, e, lk, c⟩ := id F.ex
  exact ⟨f, fd, ⟨fun _ _ _ _ h => h.elim, fun _ _ _ _ _ _ _ _ _ _ _ _ _ _ h => h.elim⟩, F.binds bd, m, F.kp, oc, od, osl, lk⟩
/-! ### texts of small letters -/
theorem az : ∀ j : Fin 26, (("abcdefghijklmnopqrstuvwxyz" : Str).cps.toList)[j.val]? = some (97 + j.val) := by decide +kernel
theorem az_at {d : Int} (h0 : 0 ≤ d) (h1 : d < 26) : atI ("abcdefghijklmnopqrstuvwxyz" : Str).cps.toList d = some (97 + d.toNat) := by
  have e : d = ((d.toNat : Nat) : Int) := by omega
  have q := az ⟨d.toNat, by omega⟩
  rw [e]
  exact atI_nat q
def sg (c : Nat) : Str := ⟨#[c]⟩
open TL in
theorem joinL_sg : ∀ cs : List Nat, joinL [] (cs.map fun c => [c]) = cs
  | [] => rfl
  | [c] => rfl
  | c :: d :: r => by
    show [c] ++ ([] ++ joinL [] ((d :: r).map fun c => [c])) = c :: d :: r
    rw [joinL_sg (d :: r)]
    rfl
open TL in
theorem tl_of (z : Str) : tl z = z.cps.toList := rfl
open TL in
theorem join_sg (cs : List Nat) : (Txt.join "" (cs.map sg)).cps.toList = cs := by
  rw [join_eq, ← tl_of, tl_join]
  have e : (cs.map sg).map tl = cs.map fun c => [c] := by rw [List.map_map]; rfl
  rw [e]
  exact joinL_sg cs
open TL in
theorem join_sg_len (cs : List Nat) : (Txt.join "" (cs.map sg)).length = cs.length := by
  have e := congrArg List.length (join_sg cs)
  rw [← e]
  show _ = (Txt.join "" (cs.map sg)).cps.toList.length
  simp [Str.length]
theorem sum_sg : ∀ cs : List Nat, ((cs.map sg).map (·.length)).sum = cs.length
  | [] => rfl
  | c :: r => by
    show 1 + ((r.map sg).map (·.length)).sum = r.length + 1
    rw [sum_sg r]; omega

end G0
namespace G0
open PySem PySem.Spec PyProof.Rows L2
theorem iteF' {c : Bool} {A B : Prop} (e : c = false) (h : B) : if c = true then A else B := by rw [e]; exact iteF h
theorem iteT' {c : Bool} {A B : Prop} (e : c = true) (h : A) : if c = true then A else B := by rw [e]; exact iteT h
/-! ### several lists may change -/
def ChgS (S : List Addr) (H H' : Hp) : Prop := ∀ b o, b ∉ S → H b = some o → H' b = some o
section
variable {S : List Addr} {p q : Addr} {H H' H0 H1 H2 : Hp} {o : HO}
theorem ChgS.refl : ChgS S H H := fun _ _ _ e => e
theorem ChgS.trans (a : ChgS S H H1) (b : ChgS S H1 H2) : ChgS S H H2 := fun c o n e => b c o n (a c o n e)
theorem Chg.s (h : Chg p H H') (m : p ∈ S) : ChgS S H H' := fun b o n e => h b o (fun z => n (z ▸ m)) e
theorem Same.s (h : Same H H') : ChgS S H H' := fun b o _ e => h b o e
theorem ChgS.mono {T : List Addr} (h : ChgS S H H') (m : ∀ b ∈ S, b ∈ T) : ChgS T H H' := fun b o n e => h b o (fun z => n (m b z)) e
theorem ChgS.new (a : ChgS S H H1) (n : H1 q = none) : ChgS S H (upd H1 q o) := fun b u m e => by
  rw [upd_ne (ne_of_none (a b u m e) n)]; exact a b u m e
theorem ChgS.mut (a : ChgS S H H1) (n : H q = none) : ChgS S H (upd H1 q o) := fun b u m e => by
  rw [upd_ne (ne_of_none e n)]; exact a b u m e
theorem ChgS.put (a : ChgS S H H1) (m : q ∈ S) : ChgS S H (upd H1 q o) := fun b u n e => by
  have nb : b ≠ q := fun z => n (by rw [z]; exact m)
  rw [upd_ne nb]; exact a b u n e
/-- what is new behind was new ahead -/
theorem ChgS.back (a : ChgS S H H1) (n : H1 q = none) (m : q ∉ S) : H q = none := by
  cases e : H q with
  | none => rfl
  | some u => rw [a q u m e] at n; cases n
theorem Chg.back (a : Chg p H H1) (n : H1 q = none) (m : q ≠ p) : H q = none := by
  cases e : H q with
  | none => rfl
  | some u => rw [a q u m e] at n; cases n
theorem PotAt.keepS {n : Nat} (h : PotAt n H p) (s : ChgS S H H') (m : p ∉ S) : PotAt n H' p := by
  obtain ⟨xs, e, h⟩ := h
  exact ⟨xs, s _ _ m e, h⟩
end
/-! ### lists of ints -/
section
variable {K : PySem.W.Frag} {H : Hp}
theorem dps_ints : ∀ ns : List Int, DpAll K H (ns.map V.int) (ns.map PyData.int)
  | [] => .nil
  | n :: r => .cons (.int n) (dps_ints r)
theorem dp_ints {a : Addr} {ns : List Int} (h : H a = some (.lst (ns.map V.int))) : Dp K H (.ref a) (.list (ns.map PyData.int)) := .lst (SqL.of h) (dps_ints ns)
theorem lay_ints : ∀ ns : List Int, PyData.canLayAll0 (ns.map PyData.int) = true
  | [] => by simp [PyData.canLayAll0]
  | n :: r => by simp [PyData.canLayAll0, PyData.canLay0, lay_ints r]
theorem deep_ints : ∀ ns : List Int, PyData.depthAll (ns.map PyData.int) = 0
  | [] => by simp [PyData.depthAll]
  | n :: r => by simp [PyData.depthAll, PyData.depth, deep_ints r]
theorem shaped_ints (ns : List Int) : SeqAt.shaped (.list (ns.map PyData.int)) = true := by
  show ((PyData.list (ns.map PyData.int)).canLay0 && decide ((PyData.list (ns.map PyData.int)).depth ≤ 64)) = true
  simp [PyData.canLay0, PyData.depth, lay_ints, deep_ints]
theorem flat_ints : ∀ ns : List Int, (ns.map V.int).all flatV = true
  | [] => rfl
  | n :: r => by simp [flatV, flat_ints r]
theorem inV_ints (v : Int) : ∀ ns : List Int, inV (.int v) (ns.map V.int) = decide (v ∈ ns)
  | [] => by simp [inV]
  | n :: r => by
    have ih := inV_ints v r
    unfold inV at ih ⊢
    rw [List.map_cons, List.any_cons, ih]
    show ((n == v) || decide (v ∈ r)) = decide (v ∈ n :: r)
    by_cases e : n = v
    · subst e; simp
    · have e' : ¬ v = n := fun z => e z.symm
      simp [e, e']
theorem at_ints {ns : List Int} {d : Int} (h0 : 0 ≤ d) (h1 : d < ns.length) : ∃ v, v ∈ ns ∧ atI (ns.map V.int) d = some (.int v) := by
  have hk : d.toNat < ns.length := by omega
  have ek : d = ((d.toNat : Nat) : Int) := by omega
  refine ⟨ns[d.toNat], List.getElem_mem hk, ?_⟩
  have q : atI (ns.map V.int) ((d.toNat : Nat) : Int) = some (.int ns[d.toNat]) := atI_nat (by rw [List.getElem?_map, List.getElem?_eq_getElem hk] <;> rfl)
  rw [← ek] at q
  exact q
end
/-! ### how long a repr is -/
mutual
def cost : PyData → Nat
  | .none => 4
  | .bool _ => 5
  | .int _ => 1921
  | .str x => 10 * x.length + 2
  | .list xs => 2 + costs xs
  | .tuple xs => 4 + costs xs
  | .dict _ => 0
def costs : List PyData → Nat
  | [] => 0
  | x :: xs => cost x + 2 + costs xs
end
theorem from_le : ∀ (ts : List Str) (k : Nat) (acc : Str), (textFrom k acc ts).length ≤ acc.length + (ts.map fun t => t.length + 2).sum
  | [], k, acc => by show acc.length ≤ _; simp
  | t :: r, k, acc => by
    have ih := from_le r (k + 1) (acc ++ (if k > 0 then ", " else "" : String) ++ t)
    show (textFrom (k + 1) _ r).length ≤ _
    rw [List.map_cons, List.sum_cons]
    rw [Str.length_append, Str.length_append] at ih
    have sep : (Str.ofString (if k > 0 then ", " else "")).length ≤ 2 := by split <;> decide
    omega
theorem join_le : ∀ ts : List Str, (Str.join ", " ts).length ≤ (ts.map fun t => t.length + 2).sum
  | [] => by decide
  | [x] => by show x.length ≤ _; simp
  | x :: y :: r => by
    have ih := join_le (y :: r)
    show (x ++ (", " : Str) ++ Str.join ", " (y :: r)).length ≤ _
    rw [Str.length_append, Str.length_append, List.map_cons, List.sum_cons]
    have : (", " : Str).length = 2 := by decide
    omega
theorem small_cps {x : Str} (h : PyData.strOk x = true) : ∀ c ∈ x.cps.toList, c < 16 ^ 8 := fun c hc => by
  unfold PyData.strOk at h
  rw [Array.all_eq_true_iff_forall_mem] at h
  have := of_decide_eq_true (h c (Array.mem_toList_iff.mp hc))
  omega
mutual
theorem shown_le : ∀ d : PyData, d.showable = true → d.canLay0 = true → d.shown.length ≤ cost d
  | .none, _, _ => by show (("None" : Str)).length ≤ 4; decide
  | .bool b, _, _ => by cases b <;> (simp only [PyData.shown, cost]; decide)
  | .int i, h, _ => by
    simp only [PyData.shown, cost]
    exact int_text_len_1921 (by simpa [PyData.showable] using h)
  | .str x, _, h => by
    simp only [PyData.shown, cost]
    exact StrLaws.reprText_len x (small_cps (by simpa [PyData.canLay0] using h))
  | .list xs, h, l => by
    have ih := shown_les xs (by simpa [PyData.showable] using h) (by simpa [PyData.canLay0] using l)
    simp only [PyData.shown, cost]
    show (textFrom 0 "[" (PyData.shownAll xs) ++ ("]" : Str)).length ≤ _
    have := from_le (PyData.shownAll xs) 0 "["
    have a : ("[" : Str).length = 1 := by decide
    have b : ("]" : Str).length = 1 := by decide
    rw [Str.length_append]
    omega
  | .tuple xs, h, l => by
    have ih := shown_les xs (by simpa [PyData.showable] using h) (by simpa [PyData.canLay0] using l)
    simp only [PyData.shown, cost]
    show (("(" : Str) ++ Str.join ", " (PyData.shownAll xs) ++ (Str.ofString (if (PyData.shownAll xs).length == 1 then ",)" else ")"))).length ≤ _
    have := join_le (PyData.shownAll xs)
    have a : ("(" : Str).length = 1 := by decide
    have b : (Str.ofString (if (PyData.shownAll xs).length == 1 then ",)" else ")")).length ≤ 2 := by split <;> decide
    rw [Str.length_append, Str.length_append]
    omega
  | .dict _, _, h => by simp [PyData.canLay0] at h
theorem shown_les : ∀ ds : List PyData, PyData.showableAll ds = true → PyData.canLayAll0 ds = true → ((PyData.shownAll ds).map fun t => t.length + 2).sum ≤ costs ds
  | [], _, _ => Nat.le_refl _
  | d :: ds, h, l => by
    simp only [PyData.showableAll, Bool.and_eq_true] at h
    simp only [PyData.canLayAll0, Bool.and_eq_true] at l
    have h1 := shown_le d h.1 l.1
    have h2 := shown_les ds h.2 l.2
    simp only [PyData.shownAll, costs, List.map_cons, List.sum_cons]
    omega
end

end G0
namespace G0
open PySem PySem.Spec PyProof.Rows L2
def top (i : Nat) : Stmt := PySem.Challenge.pw_soleseat_k52_whole_two_seats_in_one.main.body.getD i (.Pass ⟨0, 0, 0, 0⟩)
abbrev s_NoSeat__init : Stmt := inClass (top 3) 0
abbrev s_is_below : Stmt := top 5
abbrev s_look_at_seat : Stmt := top 7
abbrev s_NoSet__init : Stmt := inClass (top 9) 0
abbrev s_NotPrime__init : Stmt := inClass (top 10) 0
abbrev s_lies : Stmt := top 13
abbrev s_shared : Stmt := top 14
abbrev s_holding : Stmt := top 15
abbrev s_look_at_prime : Stmt := top 16
abbrev s_u_look_at_seat : Stmt := top 17
abbrev s_look_at_set : Stmt := top 18
abbrev s_last : Stmt := top 19
abbrev s_is_far : Stmt := top 20
abbrev s_is_upright : Stmt := top 21
abbrev s_far_seat : Stmt := top 22
abbrev s_seat_over : Stmt := top 23
abbrev s_set_through : Stmt := top 24
abbrev s_inverse : Stmt := top 25
abbrev s_law_wide : Stmt := top 27
abbrev s_law_take : Stmt := top 28
abbrev s_law_whole : Stmt := top 29
abbrev s_law_is_prime : Stmt := top 30
abbrev s_law_prime : Stmt := top 31
abbrev s_law_number : Stmt := top 32
abbrev s_law_both : Stmt := top 33
abbrev s_law_right : Stmt := top 34
abbrev s_law : Stmt := top 35
theorem u64 {k : Nat} {A : Around} (hr : Room k A) : A.units + 64 < cLine := by have := hr.un; omega
theorem u65 {k : Nat} {A : Around} (hr : Room k A) : A.units + 65 < cLine := by have := hr.un; omega
theorem dec_ii {a b : Int} : decide (V.int a = V.int b) = decide (a = b) := decide_eq_decide.mpr ⟨fun h => by cases h; rfl, fun h => by rw [h]⟩
section
variable {P : Program} {w : World} {K : PySem.W.Frag} {mg : Str → Option Value} {base : Heap}
/-! ### the feed of k47 to k60 -/
structure BlF (mg : Str → Option Value) : Prop where
  len : mg "len" = none
  range : mg "range" = none
  sum : mg "sum" = none
  sorted : mg "sorted" = none
  set : mg "set" = none
  tuple : mg "tuple" = none
  list : mg "list" = none
  isinstance : mg "isinstance" = none
  int : mg "int" = none
  bool : mg "bool" = none
  min : mg "min" = none
  all : mg "all" = none
  enumerate : mg "enumerate" = none
def FeedL (n : Nat) (xs : List V) : Prop := ∃ (i : Nat) (v : Int), xs = [.int (i : Int), .int v] ∧ i ≤ n ∧ 0 ≤ v
/-- the script and the pot that is drawn from -/
structure Fd (K : PySem.W.Frag) (H0 : Hp) (s p : Addr) (ns : List Int) (n : Nat) (H : Hp) : Prop where
  old : Same H0 H
  np : H0 p = none
  sq : SqL K H0 s (ns.map V.int)
  at_ : ∃ xs, H p = some (.lst xs) ∧ FeedL n xs
theorem Fd.same {H0 H H' : Hp} {s p : Addr} {ns : List Int} {n : Nat} (F : Fd K H0 s p ns n H) (c : Same H H') : Fd K H0 s p ns n H' :=
  { F with old := F.old.trans c, at_ := by obtain ⟨xs, e, f⟩ := F.at_; exact ⟨xs, c _ _ e, f⟩ }
theorem Fd.mono {H0 H : Hp} {s p : Addr} {ns : List Int} {n m : Nat} (F : Fd K H0 s p ns n H) (le : n ≤ m) : Fd K H0 s p ns m H :=
  { F with at_ := by obtain ⟨xs, e, i, v, f1, f2, f3⟩ := F.at_; exact ⟨xs, e, i, v, f1, Nat.le_trans f2 le, f3⟩ }
theorem Fd.lst {H0 H : Hp} {s p : Addr} {ns : List Int} {n : Nat} (F : Fd K H0 s p ns n H) : ∃ xs, H p = some (.lst xs) := by
  obtain ⟨xs, e, _⟩ := F.at_
  exact ⟨xs, e⟩
theorem Fd.put {H0 H : Hp} {s p : Addr} {ns : List Int} {n m : Nat} {ys : List V} (F : Fd K H0 s p ns n H) (y : FeedL m ys) : Fd K H0 s p ns m (upd H p (.lst ys)) :=
  { F with old := fun b o e => (upd_ne (ne_of_none e F.np)).trans (F.old _ _ e), at_ := ⟨ys, upd_same, y⟩ }
theorem Fd.ne {H0 H : Hp} {s p q : Addr} {ns : List Int} {n : Nat} (F : Fd K H0 s p ns n H) (h : H q = none) : q ≠ p := by
  obtain ⟨xs, e⟩ := F.lst
  exact (ne_of_none e h).symm
/-- elsewhere a list is written that was not there at first -/
theorem Fd.mut {H0 H : Hp} {s p q : Addr} {ns : List Int} {n : Nat} {o : HO} (F : Fd K H0 s p ns n H) (h : H0 q = none) (d : q ≠ p) : Fd K H0 s p ns n (upd H q o) :=
  { F with old := fun b x e => (upd_ne (ne_of_none e h)).trans (F.old _ _ e), at_ := by obtain ⟨xs, e, f⟩ := F.at_; exact ⟨xs, (upd_ne d.symm).trans e, f⟩ }
/-! ### _law_wide -/
def spWide : Sp := fun vs H Q _ => ∃ c : Int, vs = [.int c] ∧ ∀ v : Int, 0 ≤ v → Q (.int v) H
theorem sc_law_wide : FnScope ["cell", "one", "other", "third"] ["cell"] (defScope s_law_wide) :=
  ⟨rfl, rfl, rfl, by decide +kernel, rfl, by decide +kernel, by decide +kernel⟩
theorem ok_wide (F : Fn K mg "_law_wide" s_law_wide) : Cal P w K mg base "_law_wide" 1 ["cell"] spWide := by
  refine cal_of F sc_law_wide
    (fun _ _ _ _ _ _ us hl => match us, hl with | [_], _ => rfl) ?_ ?_
  · rintro vs H Q E ⟨c, rfl, _⟩
    rfl
  rintro f cdv A outer s H vs Q E free hr ⟨c, rfl, q⟩
  refine ⟨_, (pss_cons (ps_if (pt_cmpR op_ge (pv 0) (pe_op op_pow pe_int pe_int) (nomark _))
    (pss_one (ps_ret (pv 0)))
    pss_nil)
    (pss_cons (ps_set (i := 1) sc_law_wide.nd rfl (Or.inl rfl) (pe_op op_mod (pe_op op_add (pe_op op_mul (pv 0) pe_int) pe_int) pe_int))
    (pss_cons (ps_set (i := 2) sc_law_wide.nd rfl (Or.inl rfl) (pe_op op_mod (pe_op op_add (pe_op op_add (pe_op op_mul (pv 1) (pv 1)) (pe_op op_mul (pv 0) pe_int)) pe_int) pe_int))
    (pss_cons (ps_set (i := 3) sc_law_wide.nd rfl (Or.inl rfl) (pe_op op_mod (pe_op op_add (pe_op op_mul (pv 2) (pv 2)) (pv 1)) pe_int))
    (pss_one (ps_ret (pe_op op_add (pe_op op_fdivW (pv 1) pe_int) (pe_op op_mul pe_int (pe_op op_add (pe_op op_fdivW (pv 2) pe_int) (pe_op op_mul pe_int (pe_op op_fdivW (pv 3) pe_int))))))))))), ?_⟩
  refine ⟨_, rfl, _, _, rfl, rfl, ⟨by decide, by decide, by decide⟩, _, _, rfl, rfl, _, rfl, ?_⟩
  refine ite2 (fun c1 => ?_) (fun c1 => ?_)
  · have c2 : 10 ^ (Int.toNat 18) ≤ c := of_decide_eq_true c1
    have c3 : (0 : Int) ≤ 10 ^ (Int.toNat 18) := by decide
    exact ⟨_, rfl, q _ (by omega)⟩
  · have m1 : (0 : Int) < 2147483647 := by decide
    have m2 : (0 : Int) < 2147483629 := by decide
    have m3 : (0 : Int) < 1000000007 := by decide
    refine ⟨_, rfl, _, _, rfl, rfl, .inr ⟨by decide, by decide⟩, _, _, rfl, rfl, _, _, rfl, rfl, m1, ?_⟩
    generalize h1 : (c * 48271 + 12345) % 2147483647 = one
    have a1 : 0 ≤ one := by rw [← h1]; exact Int.emod_nonneg _ (by decide)
    have b1 : one < 2147483647 := by rw [← h1]; exact Int.emod_lt_of_pos _ (by decide)
    refine ⟨_, rfl, _, rfl, _, _, rfl, rfl, .inl ⟨by omega, by omega⟩, _, rfl, _, _, rfl, rfl, .inr ⟨by decide, by decide⟩, _, _, rfl, rfl, _, _, rfl, rfl, _, _, rfl, rfl, m2, ?_⟩
    generalize h2 : (one * one + c * 69621 + 7) % 2147483629 = other
    have a2 : 0 ≤ other := by rw [← h2]; exact Int.emod_nonneg _ (by decide)
    have b2 : other < 2147483629 := by rw [← h2]; exact Int.emod_lt_of_pos _ (by decide)
    refine ⟨_, rfl, _, rfl, _, _, rfl, rfl, .inl ⟨by omega, by omega⟩, _, rfl, _, _, rfl, rfl, _, _, rfl, rfl, m3, ?_⟩
    generalize h3 : (other * other + one) % 1000000007 = third
    have a3 : 0 ≤ third := by rw [← h3]; exact Int.emod_nonneg _ (by decide)
    have b3 : third < 1000000007 := by rw [← h3]; exact Int.emod_lt_of_pos _ (by decide)
    have d8 : ∀ x : Int, CDivW x 8 := fun x => ⟨by decide, by decide⟩
    have e1 : 0 ≤ one / 8 := Int.ediv_nonneg a1 (by decide)
    have e2 : 0 ≤ other / 8 := Int.ediv_nonneg a2 (by decide)
    have e3 : 0 ≤ third / 8 := Int.ediv_nonneg a3 (by decide)
    refine ⟨_, rfl, _, _, rfl, rfl, d8 _, _, rfl, _, _, rfl, rfl, d8 _, _, rfl, _, _, rfl, rfl, d8 _, _, _, rfl, rfl, .inl ⟨by decide, by decide⟩, _, _, rfl, rfl, _, _, rfl, rfl, .inl ⟨by decide, by decide⟩, _, _, rfl, rfl, q _ (by omega)⟩
/-! ### _law_take -/
def spTake (K : PySem.W.Frag) : Sp := fun vs H Q _ => ∃ (H0 : Hp) (s p : Addr) (ns : List Int) (n : Nat) (m : Int), vs = [.ref s, .ref p, .int m] ∧ Fd K H0 s p ns n H ∧ n < 1000000000 ∧ 0 < m ∧ m.natAbs < 2 ^ 250 ∧
  ∀ (d : Int) (ys : List V), 0 ≤ d → d < m → FeedL (n + 1) ys → Q (.int d) (upd H p (.lst ys))
theorem sc_law_take : FnScope ["script", "pot", "many", "cell", "found"] ["script", "pot", "many"] (defScope s_law_take) :=
  ⟨rfl, rfl, rfl, by decide +kernel, rfl, by decide +kernel, by decide +kernel⟩
theorem ok_take (F : Fn K mg "_law_take" s_law_take) (T : BlF mg) (C_wide : Cal P w K mg base "_law_wide" 1 ["cell"] spWide) : Cal P w K mg base "_law_take" 2 ["script", "pot", "many"] (spTake K) := by
  refine cal_of F sc_law_take
    (fun _ _ _ _ _ _ us hl => match us, hl with | [_, _, _], _ => rfl) ?_ ?_
  · rintro vs H Q E ⟨H0, s, p, ns, n, m, rfl, _⟩
    rfl
  rintro f cdv A outer s' H vs Q E free hr ⟨H0, s, p, ns, n, m, rfl, D, nb, m0, mb, q⟩
  refine ⟨_, (pss_cons (ps_if (pt_cmpR op_eq (pe_ix ix_list (pv 1) pe_int (fun _ _ => rfl)) pe_int (nomark _))
    (pss_cons (ps_set (i := 3) sc_law_take.nd rfl (Or.inl rfl) (pe_op op_mul (pe_op op_add (pe_op op_mod (pe_callB (cr_sum (by rfl)) (by rfl) T.sum (by decide +kernel) (pa_cons (pv 0) pa_nil)) pe_int) pe_int) (pe_op op_add (pe_ix ix_list (pv 1) pe_int (fun _ _ => rfl)) pe_int)))
    (pss_cons (ps_if (pt_cmpR op_lt (pe_ix ix_list (pv 1) pe_int (fun _ _ => rfl)) (pe_callB call_len_seq (by rfl) T.len (by decide +kernel) (pa_cons (pv 0) pa_nil)) (nomark _))
    (pss_one (ps_set (i := 3) sc_law_take.nd rfl (Or.inl rfl) (pe_ix ix_list (pv 0) (pe_ix ix_list (pv 1) pe_int (fun _ _ => rfl)) (fun _ _ => rfl))))
    pss_nil)
    (pss_cons (ps_asg (pe_op op_add (pe_ix ix_list (pv 1) pe_int (fun _ _ => rfl)) pe_int) (pg_sub (pv 1) pe_int set_list))
    (pss_one (ps_asg (pe_cal C_wide free (hr.mono (by decide)) (pa_cons (pv 3) pa_nil)) (pg_sub (pv 1) pe_int set_list))))))
    pss_nil)
    (pss_cons (ps_set (i := 4) sc_law_take.nd rfl (Or.inl rfl) (pe_op op_mod (pe_ix ix_list (pv 1) pe_int (fun _ _ => rfl)) (pv 2)))
    (pss_cons (ps_asg (pe_op op_fdivW (pe_ix ix_list (pv 1) pe_int (fun _ _ => rfl)) (pv 2)) (pg_sub (pv 1) pe_int set_list))
    (pss_one (ps_ret (pv 4)))))), ?_⟩
  obtain ⟨xs, hp, i, v, rfl, il, v0⟩ := D.at_
  have hS := D.old.seq D.sq
  have dv : ∀ x : Int, CDivW x m := fun x => wide_div m0 mb (by decide) (by decide)
  have hl : (ns.map V.int).length = ns.length := List.length_map _
  refine ⟨_, rfl, p, _, _, _, rfl, rfl, SqL.of hp, rfl, rfl, _, rfl, ?_⟩
  rw [dec_ii]
  refine ite2 (fun c1 => ?_) (fun c1 => ?_)
  · refine ⟨_, rfl, s, ns, rfl, hS, ?_⟩
    generalize ns.sum = su
    refine ⟨_, _, rfl, rfl, (by show (0 : Int) < 1000003; decide), _, _, rfl, rfl, _, rfl, p, _, _, _, rfl, rfl, SqL.of hp, rfl, _, _, rfl, rfl, _, _, rfl, rfl, .inl ⟨by omega, by omega⟩, ?_⟩
    refine ⟨_, rfl, p, _, _, _, rfl, rfl, SqL.of hp, rfl, _, rfl, s, _, rfl, .inl hS, _, _, rfl, rfl, _, rfl, ?_⟩
    refine ite2 (fun c2 => ?_) (fun c2 => ?_)
    · have c' : (i : Int) < (((ns.map V.int).length : Nat) : Int) := of_decide_eq_true c2
      have hi : i < ns.length := by omega
      refine ⟨_, rfl, _, rfl, p, _, _, _, rfl, rfl, SqL.of hp, rfl, s, _, _, _, rfl, rfl, hS, atI_nat (v := .int ns[i]) (by rw [List.getElem?_map, List.getElem?_eq_getElem hi]; rfl), ?_⟩
      refine ⟨_, rfl, p, _, _, _, rfl, rfl, SqL.of hp, rfl, _, _, rfl, rfl, _, rfl, p, _, _, _, rfl, rfl, hp, rfl, ?_⟩
      refine ⟨_, rfl, _, rfl, fun v1 v10 => ?_⟩
      refine ⟨_, rfl, p, _, _, _, rfl, rfl, upd_same, rfl, ?_⟩
      rw [upd_upd]
      have hp1 : upd H p (.lst [.int ((i : Int) + 1), .int v1]) p = some (.lst [.int ((i : Int) + 1), .int v1]) := upd_same
      refine ⟨_, rfl, p, _, _, _, rfl, rfl, SqL.of hp1, rfl, _, rfl, _, _, rfl, rfl, m0, ?_⟩
      refine ⟨_, rfl, p, _, _, _, rfl, rfl, SqL.of hp1, rfl, _, rfl, _, _, rfl, rfl, dv _, _, rfl, p, _, _, _, rfl, rfl, hp1, rfl, ?_⟩
      rw [upd_upd]
      refine ⟨_, rfl, q _ _ (Int.emod_nonneg _ (by omega)) (Int.emod_lt_of_pos _ m0) ⟨i + 1, v1 / m, ?_, by omega, Int.ediv_nonneg v10 (by omega)⟩⟩
      rw [Int.natCast_add]
      rfl
    · skip
      refine ⟨_, rfl, p, _, _, _, rfl, rfl, SqL.of hp, rfl, _, _, rfl, rfl, _, rfl, p, _, _, _, rfl, rfl, hp, rfl, ?_⟩
      refine ⟨_, rfl, _, rfl, fun v1 v10 => ?_⟩
      refine ⟨_, rfl, p, _, _, _, rfl, rfl, upd_same, rfl, ?_⟩
      rw [upd_upd]
      have hp1 : upd H p (.lst [.int ((i : Int) + 1), .int v1]) p = some (.lst [.int ((i : Int) + 1), .int v1]) := upd_same
      refine ⟨_, rfl, p, _, _, _, rfl, rfl, SqL.of hp1, rfl, _, rfl, _, _, rfl, rfl, m0, ?_⟩
      refine ⟨_, rfl, p, _, _, _, rfl, rfl, SqL.of hp1, rfl, _, rfl, _, _, rfl, rfl, dv _, _, rfl, p, _, _, _, rfl, rfl, hp1, rfl, ?_⟩
      rw [upd_upd]
      refine ⟨_, rfl, q _ _ (Int.emod_nonneg _ (by omega)) (Int.emod_lt_of_pos _ m0) ⟨i + 1, v1 / m, ?_, by omega, Int.ediv_nonneg v10 (by omega)⟩⟩
      rw [Int.natCast_add]
      rfl
  · refine ⟨_, rfl, p, _, _, _, rfl, rfl, SqL.of hp, rfl, _, rfl, _, _, rfl, rfl, m0, ?_⟩
    refine ⟨_, rfl, p, _, _, _, rfl, rfl, SqL.of hp, rfl, _, rfl, _, _, rfl, rfl, dv _, _, rfl, p, _, _, _, rfl, rfl, hp, rfl, ?_⟩
    exact ⟨_, rfl, q _ _ (Int.emod_nonneg _ (by omega)) (Int.emod_lt_of_pos _ m0) ⟨i, _, rfl, by omega, Int.ediv_nonneg v0 (by omega)⟩⟩
end

end G0
namespace G0
/-! ### primes -/
structure Pr (p : Nat) : Prop where
  two : 2 ≤ p
  top : p ≤ 9973
  no : ∀ d, 2 ≤ d → d * d ≤ p → ¬ d ∣ p
theorem Pr.cop {p : Nat} (h : Pr p) {a : Nat} (n : ¬ p ∣ a) : Nat.Coprime p a := by
  have g1 := Nat.gcd_dvd_left p a
  have g2 := Nat.gcd_dvd_right p a
  have p0 : 0 < p := by have := h.two; omega
  have gp : Nat.gcd p a ≠ p := fun e => n (by rw [e] at g2; exact g2)
  have gpos : 0 < Nat.gcd p a := Nat.gcd_pos_of_pos_left a p0
  obtain ⟨k, hk⟩ := g1
  unfold Nat.Coprime
  generalize Nat.gcd p a = g at *
  apply Classical.byContradiction
  intro g1
  have gk2 : 2 ≤ g := by omega
  have k2 : 2 ≤ k := by
    rcases Nat.lt_or_ge k 2 with c | c
    · have : k = 0 ∨ k = 1 := by omega
      rcases this with e | e
      · rw [e, Nat.mul_zero] at hk; omega
      · rw [e, Nat.mul_one] at hk; exact absurd hk.symm gp
    · exact c
  rcases Nat.le_total g k with c | c
  · exact h.no g gk2 (by rw [hk]; exact Nat.mul_le_mul_left g c) ⟨k, hk⟩
  · exact h.no k k2 (by rw [hk]; exact Nat.mul_le_mul_right k c) ⟨g, by rw [hk, Nat.mul_comm]⟩
theorem Pr.euc {p : Nat} (h : Pr p) {a b : Nat} (d : p ∣ a * b) : p ∣ a ∨ p ∣ b := by
  by_cases n : p ∣ a
  · exact .inl n
  · exact .inr ((h.cop n).dvd_of_dvd_mul_left d)
/-! ### the power that inverts -/
def prL : List Nat → Nat
  | [] => 1
  | x :: l => x * prL l
theorem prL_perm {l m : List Nat} (h : l.Perm m) : prL l = prL m := by
  induction h with
  | nil => rfl
  | cons x _ ih => exact congrArg (x * ·) ih
  | swap x y l => show y * (x * prL l) = x * (y * prL l); rw [← Nat.mul_assoc, ← Nat.mul_assoc, Nat.mul_comm y x]
  | trans _ _ a b => exact a.trans b
theorem perm_of {l : List Nat} : ∀ {m : List Nat}, l.Nodup → (∀ x ∈ l, x ∈ m) → m.length ≤ l.length → l.Perm m := by
  induction l with
  | nil =>
    intro m _ _ len
    have := List.eq_nil_of_length_eq_zero (Nat.le_zero.mp len)
    subst this
    exact List.Perm.nil
  | cons x t ih =>
    intro m nd sub len
    have hx := sub x (List.mem_cons_self ..)
    have pe := List.perm_cons_erase hx
    obtain ⟨n1, n2⟩ := List.nodup_cons.mp nd
    have le := pe.length_eq
    rw [List.length_cons] at le len
    refine (List.Perm.cons x (ih (m := m.erase x) n2 (fun y hy => ?_) (by omega))).trans pe.symm
    have := pe.mem_iff.mp (sub y (List.mem_cons_of_mem _ hy))
    rcases List.mem_cons.mp this with e | e
    · exact absurd (e ▸ hy) n1
    · exact e
theorem prL_map (p a : Nat) : ∀ l : List Nat, prL (l.map fun i => a * i % p) % p = a ^ l.length * prL l % p
  | [] => by simp [prL]
  | x :: l => by
    have ih := prL_map p a l
    show (a * x % p) * prL (l.map fun i => a * i % p) % p = a ^ (l.length + 1) * (x * prL l) % p
    rw [Nat.mul_mod, Nat.mod_mod, ih, ← Nat.mul_mod, Nat.pow_succ]
    refine congrArg (· % p) ?_
    rw [Nat.mul_comm (a ^ l.length) a, Nat.mul_assoc, Nat.mul_assoc, Nat.mul_left_comm x]
theorem Pr.prL {p : Nat} (h : Pr p) : ∀ {l : List Nat}, (∀ x ∈ l, ¬ p ∣ x) → ¬ p ∣ prL l
  | [], _ => fun d => by
    have := Nat.le_of_dvd (by decide) d
    have := h.two
    simp [G0.prL] at *
    omega
  | x :: l, n => fun d => by
    rcases h.euc d with c | c
    · exact n x (List.mem_cons_self ..) c
    · exact h.prL (l := l) (fun y hy => n y (List.mem_cons_of_mem _ hy)) c
theorem small_no {p x : Nat} (h1 : 0 < x) (h2 : x < p) : ¬ p ∣ x := fun d => by
  have := Nat.le_of_dvd h1 d
  omega
theorem Pr.flt {p : Nat} (h : Pr p) {a : Nat} (n : ¬ p ∣ a) : a ^ (p - 1) % p = 1 := by
  have p2 := h.two
  obtain ⟨l, hl⟩ : ∃ l, l = (List.range (p - 1)).map (· + 1) := ⟨_, rfl⟩
  have ll : l.length = p - 1 := by rw [hl, List.length_map, List.length_range]
  have mem : ∀ x, x ∈ l ↔ 0 < x ∧ x < p := fun x => by
    rw [hl, List.mem_map]
    constructor
    · rintro ⟨y, hy, rfl⟩
      have := List.mem_range.mp hy
      omega
    · rintro ⟨h1, h2⟩
      exact ⟨x - 1, List.mem_range.mpr (by omega), by omega⟩
  have nin : ∀ x ∈ l, ¬ p ∣ x := fun x hx => small_no ((mem x).mp hx).1 ((mem x).mp hx).2
  have ndl : l.Nodup := by
    rw [hl]
    exact List.Pairwise.map _ (fun a b hab e => hab (by omega)) List.nodup_range
  have inj : ∀ x ∈ l, ∀ y ∈ l, a * x % p = a * y % p → x = y := fun x hx y hy e => by
    have hx' := (mem x).mp hx
    have hy' := (mem y).mp hy
    have key : ∀ x y, x < p → y < p → x ≤ y → a * x % p = a * y % p → x = y := fun x y h1 h2 le e => by
      have d : p ∣ a * y - a * x := Nat.dvd_of_mod_eq_zero (Nat.sub_mod_eq_zero_of_mod_eq e.symm)
      rw [← Nat.mul_sub] at d
      rcases h.euc d with c | c
      · exact absurd c n
      · rcases Nat.eq_zero_or_pos (y - x) with z | z
        · omega
        · have := Nat.le_of_dvd z c; omega
    rcases Nat.le_total x y with c | c
    · exact key x y hx'.2 hy'.2 c e
    · exact (key y x hy'.2 hx'.2 c e.symm).symm
  have nd : (l.map fun i => a * i % p).Nodup := by
    refine List.pairwise_map.mpr ?_
    refine List.Pairwise.imp_of_mem (fun {x y} hx hy hxy e => hxy (inj x hx y hy e)) ndl
  have pe : (l.map fun i => a * i % p).Perm l := perm_of nd (fun x hx => by
    obtain ⟨i, hi, rfl⟩ := List.mem_map.mp hx
    refine (mem _).mpr ⟨?_, Nat.mod_lt _ (by omega)⟩
    rcases Nat.eq_zero_or_pos (a * i % p) with z | z
    · rcases h.euc (Nat.dvd_of_mod_eq_zero z) with c | c
      · exact absurd c n
      · exact absurd c (nin i hi)
    · exact z) (by rw [List.length_map]; exact Nat.le_refl _)
  have e1 := prL_map p a l
  rw [prL_perm pe, ll] at e1
  have d : p ∣ a ^ (p - 1) * G0.prL l - G0.prL l := Nat.dvd_of_mod_eq_zero (Nat.sub_mod_eq_zero_of_mod_eq e1.symm)
  have a1 : 1 ≤ a ^ (p - 1) := by
    rcases Nat.eq_zero_or_pos a with z | z
    · exact absurd (by rw [z]; exact Nat.dvd_zero p) n
    · exact Nat.pow_pos z
  have d2 : p ∣ (a ^ (p - 1) - 1) * G0.prL l := by rw [Nat.sub_mul, Nat.one_mul]; exact d
  rcases h.euc d2 with c | c
  · obtain ⟨k, hk⟩ := c
    have : a ^ (p - 1) = 1 + p * k := by omega
    rw [this, Nat.add_mul_mod_self_left, Nat.mod_eq_of_lt (by omega)]
  · exact absurd c (h.prL nin)
theorem dvdZ {p : Nat} {a : Int} : (p : Int) ∣ a ↔ p ∣ a.natAbs := by
  rw [← Int.natAbs_dvd_natAbs, Int.natAbs_natCast]
theorem Pr.eucZ {p : Nat} (h : Pr p) {a b : Int} (d : (p : Int) ∣ a * b) : (p : Int) ∣ a ∨ (p : Int) ∣ b := by
  have d' : p ∣ a.natAbs * b.natAbs := by
    rw [← Int.natAbs_mul]
    exact dvdZ.mp d
  rcases h.euc d' with c | c
  · exact .inl (dvdZ.mpr c)
  · exact .inr (dvdZ.mpr c)
theorem small_eq {p : Nat} {a : Int} (d : (p : Int) ∣ a) (h1 : -(p : Int) < a) (h2 : a < p) : a = 0 := by
  obtain ⟨k, hk⟩ := d
  have p0 : (0 : Int) ≤ p := Int.natCast_nonneg p
  rcases Int.lt_trichotomy k 0 with c | c | c
  · have := Int.mul_le_mul_of_nonneg_left (show k ≤ -1 by omega) p0
    omega
  · rw [c, Int.mul_zero] at hk; exact hk
  · have := Int.mul_le_mul_of_nonneg_left (show 1 ≤ k by omega) p0
    omega
/-! ### which seats lie in which sets: seat (x, j) and set (m, i) -/
def inc (p : Nat) (x j m i : Int) : Prop :=
  if m = p then (x = p ∨ j = p) else if x = p then i = 0 else if j = p then (i ≠ 0 ∧ x = m) else if i = 0 then x = m else (p : Int) ∣ x * (m - x) + i - j
/-- the places of seats and sets -/
def Pl (p : Nat) (x j : Int) : Prop := 0 ≤ x ∧ x ≤ p ∧ 0 ≤ j ∧ j ≤ p ∧ (x = p → j = 0)
theorem inc_one {p : Nat} (h : Pr p) {x j x' j' m i n k : Int} (s : Pl p x j) (s' : Pl p x' j') (q : Pl p m i) (q' : Pl p n k) (ne : ¬ (m = n ∧ i = k))
    (a : inc p x j m i) (b : inc p x j n k) (c : inc p x' j' m i) (d : inc p x' j' n k) : x = x' ∧ j = j' := by
  obtain ⟨x0, x1, j0, j1, xj⟩ := s
  obtain ⟨x0', x1', j0', j1', xj'⟩ := s'
  obtain ⟨m0, m1, i0, i1, mi⟩ := q
  obtain ⟨n0, n1, k0, k1, nk⟩ := q'
  have p2 := h.two
  unfold inc at a b c d
  by_cases hm : m = p
  · rw [if_pos hm] at a c
    have hn : ¬ n = p := fun e => ne ⟨by omega, by have := mi hm; have := nk e; omega⟩
    rw [if_neg hn] at b d
    by_cases hx : x = p <;> by_cases hx' : x' = p
    · exact ⟨by omega, by have := xj hx; have := xj' hx'; omega⟩
    · rw [if_pos hx] at b
      rw [if_neg hx'] at d
      have hj' : j' = p := c.resolve_left hx'
      rw [if_pos hj'] at d
      exact absurd b d.1
    · rw [if_neg hx] at b
      rw [if_pos hx'] at d
      have hj : j = p := a.resolve_left hx
      rw [if_pos hj] at b
      exact absurd d b.1
    · rw [if_neg hx] at b
      rw [if_neg hx'] at d
      have hj : j = p := a.resolve_left hx
      have hj' : j' = p := c.resolve_left hx'
      rw [if_pos hj] at b
      rw [if_pos hj'] at d
      exact ⟨by rw [b.2, d.2], by omega⟩
  rw [if_neg hm] at a c
  by_cases hn : n = p
  · rw [if_pos hn] at b d
    by_cases hx : x = p <;> by_cases hx' : x' = p
    · exact ⟨by omega, by have := xj hx; have := xj' hx'; omega⟩
    · rw [if_pos hx] at a
      rw [if_neg hx'] at c
      have hj' : j' = p := d.resolve_left hx'
      rw [if_pos hj'] at c
      exact absurd a c.1
    · rw [if_neg hx] at a
      rw [if_pos hx'] at c
      have hj : j = p := b.resolve_left hx
      rw [if_pos hj] at a
      exact absurd c a.1
    · rw [if_neg hx] at a
      rw [if_neg hx'] at c
      have hj : j = p := b.resolve_left hx
      have hj' : j' = p := d.resolve_left hx'
      rw [if_pos hj] at a
      rw [if_pos hj'] at c
      exact ⟨by rw [a.2, c.2], by omega⟩
  rw [if_neg hn] at b d
  -- a seat with last number
  by_cases hx : x = p
  · rw [if_pos hx] at a b
    by_cases hx' : x' = p
    · exact ⟨by omega, by have := xj hx; have := xj' hx'; omega⟩
    · rw [if_neg hx'] at c d
      by_cases hj' : j' = p
      · rw [if_pos hj'] at c; exact absurd a c.1
      · rw [if_neg hj', if_pos a] at c
        rw [if_neg hj', if_pos b] at d
        exact absurd ⟨by omega, by omega⟩ ne
  by_cases hx' : x' = p
  · rw [if_pos hx'] at c d
    rw [if_neg hx] at a b
    by_cases hj : j = p
    · rw [if_pos hj] at a; exact absurd c a.1
    · rw [if_neg hj, if_pos c] at a
      rw [if_neg hj, if_pos d] at b
      exact absurd ⟨by omega, by omega⟩ ne
  rw [if_neg hx] at a b
  rw [if_neg hx'] at c d
  have slope : m = n → i ≠ 0 → k ≠ 0 → ∀ {y l : Int}, (p : Int) ∣ y * (m - y) + i - l → (p : Int) ∣ y * (n - y) + k - l → False := fun e hi hk y l u v => by
    rw [e] at u
    have w := Int.dvd_sub u v
    rw [show y * (n - y) + i - l - (y * (n - y) + k - l) = i - k by omega] at w
    have := small_eq w (by omega) (by omega)
    exact ne ⟨e, by omega⟩
  by_cases hj : j = p
  · rw [if_pos hj] at a b
    have emn : m = n := by omega
    by_cases hj' : j' = p
    · rw [if_pos hj'] at c
      exact ⟨by omega, by omega⟩
    · rw [if_neg hj', if_neg a.1] at c
      rw [if_neg hj', if_neg b.1] at d
      exact (slope emn a.1 b.1 c d).elim
  by_cases hj' : j' = p
  · rw [if_pos hj'] at c d
    have emn : m = n := by omega
    rw [if_neg hj, if_neg c.1] at a
    rw [if_neg hj, if_neg d.1] at b
    exact (slope emn c.1 d.1 a b).elim
  rw [if_neg hj] at a b
  rw [if_neg hj'] at c d
  have near : ∀ {y : Int}, x = y → x' = y → ∀ {g l : Int}, (p : Int) ∣ x * (g - x) + l - j → (p : Int) ∣ x' * (g - x') + l - j' → x = x' ∧ j = j' := fun e e' g l u v => by
    subst e'
    rw [e] at u
    have w := Int.dvd_sub u v
    rw [show x' * (g - x') + l - j - (x' * (g - x') + l - j') = j' - j by omega] at w
    have := small_eq w (by omega) (by omega)
    exact ⟨e, by omega⟩
  by_cases hi : i = 0
  · rw [if_pos hi] at a c
    by_cases hk : k = 0
    · rw [if_pos hk] at b
      exact absurd ⟨by omega, by omega⟩ ne
    · rw [if_neg hk] at b d
      exact near a c b d
  rw [if_neg hi] at a c
  by_cases hk : k = 0
  · rw [if_pos hk] at b d
    exact near b d a c
  rw [if_neg hk] at b d
  by_cases emn : m = n
  · exact (slope emn hi hk a b).elim
  have u := Int.dvd_sub a b
  have v := Int.dvd_sub c d
  have u' : x * (m - x) + i - j - (x * (n - x) + k - j) = x * (m - n) + (i - k) := by
    rw [Int.mul_sub, Int.mul_sub, Int.mul_sub]; omega
  have v' : x' * (m - x') + i - j' - (x' * (n - x') + k - j') = x' * (m - n) + (i - k) := by
    rw [Int.mul_sub, Int.mul_sub, Int.mul_sub]; omega
  rw [u'] at u
  rw [v'] at v
  have w := Int.dvd_sub u v
  rw [show x * (m - n) + (i - k) - (x' * (m - n) + (i - k)) = (x - x') * (m - n) by rw [Int.sub_mul]; omega] at w
  rcases h.eucZ w with z | z
  · have := small_eq z (by omega) (by omega)
    have e : x = x' := by omega
    subst e
    have w := Int.dvd_sub a c
    rw [show x * (m - x) + i - j - (x * (m - x) + i - j') = j' - j by omega] at w
    have := small_eq w (by omega) (by omega)
    exact ⟨rfl, by omega⟩
  · have := small_eq z (by omega) (by omega)
    exact absurd (by omega) emn
end G0
namespace G0
/-! ### seats and sets by their numbers -/
def lstZ (p : Nat) : Int := p * (p + 1)
theorem co_mk {p : Nat} {x j : Int} (h0 : 0 ≤ j) (h1 : j ≤ p) : (x * ((p : Int) + 1) + j) / ((p : Int) + 1) = x ∧ (x * ((p : Int) + 1) + j) % ((p : Int) + 1) = j := by
  constructor
  · rw [Int.add_comm, Int.add_mul_ediv_right _ _ (by omega), Int.ediv_eq_zero_of_lt h0 (by omega)]; omega
  · rw [Int.add_comm, Int.add_mul_emod_self_right, Int.emod_eq_of_lt h0 (by omega)]
theorem co_eq (p : Nat) (s : Int) : s / ((p : Int) + 1) * ((p : Int) + 1) + s % ((p : Int) + 1) = s := by
  rw [Int.mul_comm]; exact Int.mul_ediv_add_emod s _
theorem co {p : Nat} {s : Int} (h0 : 0 ≤ s) (h1 : s ≤ lstZ p) : Pl p (s / ((p : Int) + 1)) (s % ((p : Int) + 1)) ∧ (s = lstZ p ↔ s / ((p : Int) + 1) = p) := by
  have e := co_eq p s
  have r0 := Int.emod_nonneg s (show (p : Int) + 1 ≠ 0 by omega)
  have r1 := Int.emod_lt_of_pos s (show (0 : Int) < (p : Int) + 1 by omega)
  have q0 := Int.ediv_nonneg h0 (show (0 : Int) ≤ (p : Int) + 1 by omega)
  unfold lstZ at *
  have q1 : s / ((p : Int) + 1) < (p : Int) + 1 := Int.ediv_lt_of_lt_mul (by omega) (by
    rw [Int.add_mul, Int.one_mul]; omega)
  generalize s / ((p : Int) + 1) = q at *
  generalize s % ((p : Int) + 1) = r at *
  have top : q = p → r = 0 := fun z => by rw [z] at e; omega
  refine ⟨⟨q0, by omega, r0, by omega, top⟩, fun z => ?_, fun z => ?_⟩
  · have qp : q ≤ p := by omega
    rcases Int.lt_or_eq_of_le qp with c | c
    · have : q * ((p : Int) + 1) ≤ ((p : Int) - 1) * ((p : Int) + 1) := Int.mul_le_mul_of_nonneg_right (by omega) (by omega)
      rw [Int.sub_mul, Int.one_mul] at this
      omega
    · exact c
  · rw [← e, top z, z]; omega
def farB (p : Nat) (s : Int) : Bool := decide (s = lstZ p) || decide (s % ((p : Int) + 1) = p)
def uprB (p : Nat) (n : Int) : Bool := !decide (n = lstZ p) && decide (n % ((p : Int) + 1) = 0)
def farS (p : Nat) (n : Int) : Int := if uprB p n = true then lstZ p else n - n % ((p : Int) + 1) + p
def sOver (p : Nat) (n x : Int) : Int := x * ((p : Int) + 1) + (x * (n / ((p : Int) + 1) - x) + n % ((p : Int) + 1)) % p
def sThr (p : Nat) (far near : Int) : Int :=
  if far = lstZ p then near / ((p : Int) + 1) * ((p : Int) + 1) else far / ((p : Int) + 1) * ((p : Int) + 1) + (near % ((p : Int) + 1) - near / ((p : Int) + 1) * (far / ((p : Int) + 1) - near / ((p : Int) + 1)) - 1) % p + 1
def liesB (p : Nat) (s n : Int) : Bool := if n = lstZ p then farB p s else if farB p s = true then decide (s = farS p n) else decide (n = sThr p (farS p n) s)
def InS (p : Nat) (s n : Int) : Prop := inc p (s / ((p : Int) + 1)) (s % ((p : Int) + 1)) (n / ((p : Int) + 1)) (n % ((p : Int) + 1))
theorem mod_dvd (p : Nat) (a : Int) : (p : Int) ∣ a - a % p := ⟨a / p, by have := Int.mul_ediv_add_emod a p; omega⟩
theorem mod_of {p : Nat} {a b : Int} (h : (p : Int) ∣ a - b) (b0 : 0 ≤ b) (b1 : b < p) : a % p = b := by
  obtain ⟨k, hk⟩ := h
  have : a = b + p * k := by omega
  rw [this, Int.add_mul_emod_self_left, Int.emod_eq_of_lt b0 b1]
theorem farS_up {p : Nat} {n : Int} (h : n ≠ lstZ p) (i : n % ((p : Int) + 1) = 0) : farS p n = lstZ p := by
  unfold farS uprB
  rw [if_pos (by simp [h, i])]
theorem farS_sl {p : Nat} {n : Int} (i : n % ((p : Int) + 1) ≠ 0) : farS p n = n / ((p : Int) + 1) * ((p : Int) + 1) + p := by
  unfold farS uprB
  rw [if_neg (by simp [i])]
  have := co_eq p n
  omega
theorem lies_iff {p : Nat} (h : Pr p) {s n : Int} (s0 : 0 ≤ s) (s1 : s ≤ lstZ p) (n0 : 0 ≤ n) (n1 : n ≤ lstZ p) : liesB p s n = true ↔ InS p s n := by
  obtain ⟨⟨x0, x1, j0, j1, xj⟩, es⟩ := co s0 s1
  obtain ⟨⟨m0, m1, i0, i1, mi⟩, en⟩ := co n0 n1
  have p2 := h.two
  have cs := co_eq p s
  have cn := co_eq p n
  unfold liesB InS inc
  by_cases hn : n = lstZ p
  · rw [if_pos hn, if_pos (en.mp hn)]
    unfold farB
    simp only [Bool.or_eq_true, decide_eq_true_eq]
    exact ⟨fun z => z.imp es.mp id, fun z => z.imp es.mpr id⟩
  rw [if_neg hn, if_neg (fun z => hn (en.mpr z))]
  have mp : n / ((p : Int) + 1) < p := by
    have : n / ((p : Int) + 1) ≠ p := fun z => hn (en.mpr z)
    omega
  by_cases hs : s = lstZ p
  · have hx := es.mp hs
    rw [if_pos (by unfold farB; simp [hs]), if_pos hx, decide_eq_true_eq]
    by_cases hi : n % ((p : Int) + 1) = 0
    · rw [farS_up hn hi]; exact ⟨fun _ => hi, fun _ => hs⟩
    · rw [farS_sl hi]
      refine ⟨fun z => ?_, fun z => absurd z hi⟩
      have := (co_mk (p := p) (x := n / ((p : Int) + 1)) (j := p) (by omega) (by omega)).1
      rw [← z] at this
      omega
  have hx : ¬ s / ((p : Int) + 1) = p := fun z => hs (es.mpr z)
  rw [if_neg hx]
  by_cases hj : s % ((p : Int) + 1) = p
  · rw [if_pos (by unfold farB; simp [hj]), if_pos hj, decide_eq_true_eq]
    by_cases hi : n % ((p : Int) + 1) = 0
    · rw [farS_up hn hi]
      exact ⟨fun z => absurd z hs, fun z => absurd hi z.1⟩
    · rw [farS_sl hi]
      refine ⟨fun z => ⟨hi, ?_⟩, fun z => ?_⟩
      · have := (co_mk (p := p) (x := n / ((p : Int) + 1)) (j := p) (by omega) (by omega)).1
        rw [← z] at this
        exact this
      · rw [← z.2]; omega
  have nf : ¬ farB p s = true := by unfold farB; simp [hs, hj]
  rw [if_neg nf, if_neg hj, decide_eq_true_eq]
  by_cases hi : n % ((p : Int) + 1) = 0
  · rw [if_pos hi, farS_up hn hi]
    unfold sThr
    rw [if_pos rfl]
    constructor
    · intro z
      rw [hi] at cn
      have : n = s / ((p : Int) + 1) * ((p : Int) + 1) + 0 := by omega
      have := (co_mk (p := p) (x := s / ((p : Int) + 1)) (j := 0) (by omega) (by omega)).1
      rw [← ‹n = s / ((p : Int) + 1) * ((p : Int) + 1) + 0›] at this
      exact this.symm
    · intro z
      rw [z]; omega
  rw [if_neg hi, farS_sl hi]
  unfold sThr
  have nl : ¬ (n / ((p : Int) + 1) * ((p : Int) + 1) + (p : Int)) = lstZ p := fun z => by
    have := (co_mk (p := p) (x := n / ((p : Int) + 1)) (j := p) (by omega) (by omega)).2
    rw [z] at this
    unfold lstZ at this
    rw [Int.mul_emod_left] at this
    omega
  rw [if_neg nl, (co_mk (p := p) (x := n / ((p : Int) + 1)) (j := p) (by omega) (by omega)).1]
  generalize s / ((p : Int) + 1) = x at *
  generalize s % ((p : Int) + 1) = j at *
  generalize n / ((p : Int) + 1) = m at *
  generalize n % ((p : Int) + 1) = i at *
  have t0 := Int.emod_nonneg (j - x * (m - x) - 1) (show (p : Int) ≠ 0 by omega)
  constructor
  · intro z
    have d := mod_dvd p (j - x * (m - x) - 1)
    have e : j - x * (m - x) - 1 - (j - x * (m - x) - 1) % p = -(x * (m - x) + i - j) := by omega
    rw [e] at d
    exact Int.dvd_neg.mp d
  · intro z
    have : (j - x * (m - x) - 1) % p = i - 1 := mod_of (by
      have e : j - x * (m - x) - 1 - (i - 1) = -(x * (m - x) + i - j) := by omega
      rw [e]; exact Int.dvd_neg.mpr z) (by omega) (by omega)
    rw [this]; omega
theorem InS.one {p : Nat} (h : Pr p) {s t n k : Int} (s0 : 0 ≤ s) (s1 : s ≤ lstZ p) (t0 : 0 ≤ t) (t1 : t ≤ lstZ p) (n0 : 0 ≤ n) (n1 : n ≤ lstZ p) (k0 : 0 ≤ k) (k1 : k ≤ lstZ p) (ne : n ≠ k)
    (a : InS p s n) (b : InS p s k) (c : InS p t n) (d : InS p t k) : s = t := by
  have := inc_one h (co s0 s1).1 (co t0 t1).1 (co n0 n1).1 (co k0 k1).1 (fun z => ne (by rw [← co_eq p n, ← co_eq p k, z.1, z.2])) a b c d
  rw [← co_eq p s, ← co_eq p t, this.1, this.2]
/-! ### the seat that two sets share -/
theorem mk_top {p : Nat} {x j : Int} (x0 : 0 ≤ x) (x1 : x ≤ (p : Int) - 1) (j0 : 0 ≤ j) (j1 : j ≤ p) : 0 ≤ x * ((p : Int) + 1) + j ∧ x * ((p : Int) + 1) + j ≤ lstZ p := by
  have a := Int.mul_nonneg x0 (show (0 : Int) ≤ (p : Int) + 1 by omega)
  have b := Int.mul_le_mul_of_nonneg_right x1 (show (0 : Int) ≤ (p : Int) + 1 by omega)
  rw [Int.sub_mul, Int.one_mul] at b
  unfold lstZ
  omega
theorem inS_mk {p : Nat} {x j n : Int} (j0 : 0 ≤ j) (j1 : j ≤ p) (h : inc p x j (n / ((p : Int) + 1)) (n % ((p : Int) + 1))) : InS p (x * ((p : Int) + 1) + j) n := by
  unfold InS
  obtain ⟨e1, e2⟩ := co_mk (p := p) (x := x) j0 j1
  rw [e1, e2]
  exact h
theorem lst_co (p : Nat) : lstZ p / ((p : Int) + 1) = p ∧ lstZ p % ((p : Int) + 1) = 0 := by
  have := co_mk (p := p) (x := p) (j := 0) (by omega) (by omega)
  rw [Int.add_zero] at this
  exact this
/-- a far seat of a set -/
theorem far_in {p : Nat} {n : Int} (n0 : 0 ≤ n) (n1 : n ≤ lstZ p) (hn : n ≠ lstZ p) : 0 ≤ farS p n ∧ farS p n ≤ lstZ p ∧ InS p (farS p n) n ∧ InS p (farS p n) (lstZ p) := by
  obtain ⟨⟨m0, m1, i0, i1, mi⟩, en⟩ := co n0 n1
  have mp : n / ((p : Int) + 1) ≤ (p : Int) - 1 := by
    have : n / ((p : Int) + 1) ≠ p := fun z => hn (en.mpr z)
    omega
  have lp : 0 ≤ lstZ p := by unfold lstZ; exact Int.mul_nonneg (by omega) (by omega)
  by_cases hi : n % ((p : Int) + 1) = 0
  · rw [farS_up hn hi]
    refine ⟨lp, Int.le_refl _, ?_, ?_⟩
    · unfold InS inc
      rw [(lst_co p).1, if_neg (by omega), if_pos rfl]; exact hi
    · unfold InS inc
      rw [(lst_co p).1, if_pos rfl]; exact .inl rfl
  · rw [farS_sl hi]
    obtain ⟨b0, b1⟩ := mk_top (p := p) m0 mp (j := p) (by omega) (by omega)
    refine ⟨b0, b1, inS_mk (by omega) (by omega) ?_, inS_mk (by omega) (by omega) ?_⟩
    · unfold inc
      rw [if_neg (by omega), if_neg (by omega), if_pos rfl]; exact ⟨hi, rfl⟩
    · unfold inc
      rw [(lst_co p).1, if_pos rfl]; exact .inr rfl
/-- the near seat over a place, of a sloping set -/
theorem over_in {p : Nat} (h : Pr p) {n x : Int} (n0 : 0 ≤ n) (n1 : n ≤ lstZ p) (hn : n ≠ lstZ p) (hi : n % ((p : Int) + 1) ≠ 0) (x0 : 0 ≤ x) (x1 : x < p) :
    0 ≤ sOver p n x ∧ sOver p n x ≤ lstZ p ∧ InS p (sOver p n x) n ∧ sOver p n x / ((p : Int) + 1) = x ∧ sOver p n x % ((p : Int) + 1) = (x * (n / ((p : Int) + 1) - x) + n % ((p : Int) + 1)) % p ∧ sOver p n x % ((p : Int) + 1) < p := by
  have p2 := h.two
  obtain ⟨⟨m0, m1, i0, i1, mi⟩, en⟩ := co n0 n1
  have mp : ¬ n / ((p : Int) + 1) = p := fun z => hn (en.mpr z)
  unfold sOver
  have j0 := Int.emod_nonneg (x * (n / ((p : Int) + 1) - x) + n % ((p : Int) + 1)) (show (p : Int) ≠ 0 by omega)
  have j1 := Int.emod_lt_of_pos (x * (n / ((p : Int) + 1) - x) + n % ((p : Int) + 1)) (show (0 : Int) < p by omega)
  obtain ⟨e1, e2⟩ := co_mk (p := p) (x := x) j0 (by omega)
  obtain ⟨b0, b1⟩ := mk_top (p := p) x0 (by omega) j0 (by omega)
  refine ⟨b0, b1, inS_mk j0 (by omega) ?_, e1, e2, by rw [e2]; exact j1⟩
  unfold inc
  rw [if_neg mp, if_neg (by omega), if_neg (by omega), if_neg hi]
  exact mod_dvd p _
/-- the seat that two sets share, as the program finds it -/
def shD (p : Nat) (r one other : Int) : Int :=
  if one = lstZ p then farS p other else if other = lstZ p ∨ farS p one = farS p other then farS p one else
  if uprB p one = true then sOver p other (one / ((p : Int) + 1)) else if uprB p other = true then sOver p one (other / ((p : Int) + 1)) else
  sOver p one ((other % ((p : Int) + 1) - one % ((p : Int) + 1)) * r % p)
theorem upr_iff {p : Nat} {n : Int} (hn : n ≠ lstZ p) : uprB p n = true ↔ n % ((p : Int) + 1) = 0 := by
  unfold uprB
  simp [hn]
theorem shD_in {p : Nat} (h : Pr p) {r one other : Int} (n0 : 0 ≤ one) (n1 : one ≤ lstZ p) (k0 : 0 ≤ other) (k1 : other ≤ lstZ p) (ne : one ≠ other)
    (hr : one / ((p : Int) + 1) ≠ other / ((p : Int) + 1) → (p : Int) ∣ (one / ((p : Int) + 1) - other / ((p : Int) + 1)) * r - 1) :
    0 ≤ shD p r one other ∧ shD p r one other ≤ lstZ p ∧ InS p (shD p r one other) one ∧ InS p (shD p r one other) other := by
  have p2 := h.two
  unfold shD
  by_cases h1 : one = lstZ p
  · rw [if_pos h1]
    have := far_in k0 k1 (fun z => ne (h1.trans z.symm))
    refine ⟨this.1, this.2.1, ?_, this.2.2.1⟩
    have t := this.2.2.2
    rw [← h1] at t; exact t
  rw [if_neg h1]
  have f1 := far_in n0 n1 h1
  by_cases h2 : other = lstZ p ∨ farS p one = farS p other
  · rw [if_pos h2]
    refine ⟨f1.1, f1.2.1, f1.2.2.1, ?_⟩
    rcases h2 with h2 | h2
    · have t := f1.2.2.2
      rw [← h2] at t; exact t
    · by_cases h3 : other = lstZ p
      · have t := f1.2.2.2
        rw [← h3] at t; exact t
      · rw [h2]; exact (far_in k0 k1 h3).2.2.1
  rw [if_neg h2]
  have h3 : other ≠ lstZ p := fun z => h2 (.inl z)
  have h4 : farS p one ≠ farS p other := fun z => h2 (.inr z)
  obtain ⟨⟨m0, m1, i0, i1, mi⟩, en⟩ := co n0 n1
  obtain ⟨⟨o0, o1, l0, l1, ol⟩, eo⟩ := co k0 k1
  have mp : one / ((p : Int) + 1) < p := by
    have : one / ((p : Int) + 1) ≠ p := fun z => h1 (en.mpr z)
    omega
  have op : other / ((p : Int) + 1) < p := by
    have : other / ((p : Int) + 1) ≠ p := fun z => h3 (eo.mpr z)
    omega
  by_cases hu : one % ((p : Int) + 1) = 0
  · rw [if_pos ((upr_iff h1).mpr hu)]
    have hv : other % ((p : Int) + 1) ≠ 0 := fun z => h4 (by rw [farS_up h1 hu, farS_up h3 z])
    obtain ⟨a, b, c, d, e, g⟩ := over_in h k0 k1 h3 hv m0 mp
    refine ⟨a, b, ?_, c⟩
    unfold InS inc
    rw [d, if_neg (by omega), if_neg (by omega), if_neg (by omega), if_pos hu]
  rw [if_neg (fun z => hu ((upr_iff h1).mp z))]
  by_cases hv : other % ((p : Int) + 1) = 0
  · rw [if_pos ((upr_iff h3).mpr hv)]
    obtain ⟨a, b, c, d, e, g⟩ := over_in h n0 n1 h1 hu o0 op
    refine ⟨a, b, c, ?_⟩
    unfold InS inc
    rw [d, if_neg (by omega), if_neg (by omega), if_neg (by omega), if_pos hv]
  rw [if_neg (fun z => hv ((upr_iff h3).mp z))]
  have mo : one / ((p : Int) + 1) ≠ other / ((p : Int) + 1) := fun z => h4 (by rw [farS_sl hu, farS_sl hv, z])
  have hr := hr mo
  obtain ⟨x, hx⟩ : ∃ x, x = (other % ((p : Int) + 1) - one % ((p : Int) + 1)) * r % p := ⟨_, rfl⟩
  rw [← hx]
  have x0 : 0 ≤ x := by rw [hx]; exact Int.emod_nonneg _ (by omega)
  have x1 : x < p := by rw [hx]; exact Int.emod_lt_of_pos _ (by omega)
  have dx : (p : Int) ∣ (other % ((p : Int) + 1) - one % ((p : Int) + 1)) * r - x := by rw [hx]; exact mod_dvd p _
  obtain ⟨a, b, c, d, e, g⟩ := over_in h n0 n1 h1 hu x0 x1
  refine ⟨a, b, c, ?_⟩
  have c' := c
  unfold InS inc at c' ⊢
  rw [d, if_neg (by omega), if_neg (by omega), if_neg (by omega), if_neg hu] at c'
  rw [d, if_neg (by omega), if_neg (by omega), if_neg (by omega), if_neg hv]
  generalize sOver p one x % ((p : Int) + 1) = j at *
  generalize one / ((p : Int) + 1) = m at *
  generalize one % ((p : Int) + 1) = i at *
  generalize other / ((p : Int) + 1) = n at *
  generalize other % ((p : Int) + 1) = k at *
  -- x (m - n) is k - i
  have t1 : (p : Int) ∣ ((k - i) * r - x) * (m - n) := Int.dvd_mul_of_dvd_left dx
  have t2 : (p : Int) ∣ (k - i) * ((m - n) * r - 1) := Int.dvd_mul_of_dvd_right hr
  have t3 := Int.dvd_sub t1 t2
  have e3 : ∀ a b c y : Int, (a * c - y) * b - a * (b * c - 1) = a - y * b := fun a b c y => by
    rw [Int.sub_mul, Int.mul_sub, Int.mul_one, Int.mul_assoc a c b, Int.mul_comm c b]; omega
  rw [e3] at t3
  have t4 := Int.dvd_add c' t3
  have e4 : x * (m - x) + i - j + (k - i - x * (m - n)) = x * (n - x) + k - j := by
    rw [Int.mul_sub, Int.mul_sub, Int.mul_sub]; omega
  rw [e4] at t4
  exact t4
end G0
namespace G0
/-! ### the inverse, as it is counted -/
theorem inv_step {p f s w : Nat} : f * s ^ w % p = (if w % 2 = 1 then f * s % p else f) * (s * s % p) ^ (w / 2) % p := by
  have e : s ^ w = s ^ (w % 2) * (s * s) ^ (w / 2) := by
    rw [Nat.mul_pow, ← Nat.pow_add, ← Nat.pow_add]
    exact congrArg (s ^ ·) (by omega)
  have pm : ∀ g : Nat, g * (s * s % p) ^ (w / 2) % p = g * (s * s) ^ (w / 2) % p := fun g => by
    rw [Nat.mul_mod, ← Nat.pow_mod, ← Nat.mul_mod]
  rw [pm]
  by_cases c : w % 2 = 1
  · rw [if_pos c, e, c, Nat.pow_one, ← Nat.mul_assoc, Nat.mul_mod (f * s % p), Nat.mod_mod, ← Nat.mul_mod]
  · have z : w % 2 = 0 := by omega
    rw [if_neg c, e, z, Nat.pow_zero, Nat.one_mul]
theorem inv_end {p : Nat} (h : Pr p) {n : Int} (nd : ¬ (p : Int) ∣ n) {f : Nat} (e : f % p = (n % p).toNat ^ (p - 2) % p) : (p : Int) ∣ n * f - 1 := by
  have p2 := h.two
  have a0 := Int.emod_nonneg n (show (p : Int) ≠ 0 by omega)
  obtain ⟨a, ha⟩ : ∃ a : Nat, a = (n % p).toNat := ⟨_, rfl⟩
  have ea : n % p = (a : Int) := by omega
  have na : ¬ p ∣ a := fun d => nd (by
    have : (p : Int) ∣ n % p := by rw [ea]; exact Int.natCast_dvd_natCast.mpr d
    exact (Int.dvd_iff_emod_eq_zero).mpr (by
      have := Int.emod_eq_zero_of_dvd this
      rwa [Int.emod_emod] at this))
  have fl := h.flt na
  rw [← ha] at e
  have k : a * f % p = 1 := by
    rw [Nat.mul_mod, e, ← Nat.mul_mod, ← fl]
    refine congrArg (· % p) ?_
    rw [show p - 1 = (p - 2) + 1 by omega, Nat.pow_succ, Nat.mul_comm]
  have k2 : (p : Int) ∣ (a : Int) * f - 1 := by
    have : a * f = p * (a * f / p) + 1 := by
      have := Nat.div_add_mod (a * f) p
      omega
    refine ⟨((a * f / p : Nat) : Int), ?_⟩
    have z : ((a * f : Nat) : Int) = ((p * (a * f / p) + 1 : Nat) : Int) := congrArg _ this
    rw [Int.natCast_mul, Int.natCast_add, Int.natCast_mul] at z
    omega
  have k3 : (p : Int) ∣ n - a := by rw [← ea]; exact mod_dvd p n
  have k4 : (p : Int) ∣ (n - a) * f := Int.dvd_mul_of_dvd_left k3
  have := Int.dvd_add k4 k2
  rwa [show (n - a) * (f : Int) + ((a : Int) * f - 1) = n * f - 1 by rw [Int.sub_mul]; omega] at this
/-! ### the seats of a set -/
def setL (p : Nat) (n : Int) : List Int :=
  if n = lstZ p then (List.range p).map (fun x : Nat => (x : Int) * ((p : Int) + 1) + p) ++ [lstZ p] else
  if uprB p n = true then (List.range p).map (fun j : Nat => n + (j : Int)) ++ [lstZ p] else
  (List.range p).map (fun x : Nat => sOver p n (x : Int)) ++ [farS p n]
theorem setL_len (p : Nat) (n : Int) : (setL p n).length = p + 1 := by
  unfold setL
  split
  · simp
  · split <;> simp
theorem nd_snoc {α : Type} {f : Nat → α} {p : Nat} {z : α} (inj : ∀ x < p, ∀ y < p, f x = f y → x = y) (nz : ∀ x < p, f x ≠ z) : ((List.range p).map f ++ [z]).Nodup := by
  refine List.nodup_append.mpr ⟨?_, by simp, fun a ha b hb => ?_⟩
  · refine List.pairwise_map.mpr (List.Pairwise.imp_of_mem (fun {x y} hx hy hxy e => hxy (inj x (List.mem_range.mp hx) y (List.mem_range.mp hy) e)) List.nodup_range)
  · obtain ⟨x, hx, rfl⟩ := List.mem_map.mp ha
    rw [show b = z by simpa using hb]
    exact nz x (List.mem_range.mp hx)
theorem mul_inj {p : Nat} {x y : Nat} {c : Int} (e : (x : Int) * ((p : Int) + 1) + c = (y : Int) * ((p : Int) + 1) + c) : x = y := by
  have e2 : (x : Int) * ((p : Int) + 1) = (y : Int) * ((p : Int) + 1) := by omega
  have := Int.eq_of_mul_eq_mul_right (show ((p : Int) + 1) ≠ 0 by omega) e2
  omega
theorem setL_nd {p : Nat} (h : Pr p) {n : Int} (n0 : 0 ≤ n) (n1 : n ≤ lstZ p) : (setL p n).Nodup := by
  have p2 := h.two
  unfold setL
  by_cases c1 : n = lstZ p
  · rw [if_pos c1]
    refine nd_snoc (fun x _ y _ e => mul_inj e) (fun x hx e => ?_)
    have := (co_mk (p := p) (x := x) (j := p) (by omega) (by omega)).1
    rw [e, (lst_co p).1] at this
    omega
  rw [if_neg c1]
  obtain ⟨⟨m0, m1, i0, i1, mi⟩, en⟩ := co n0 n1
  have mp : n / ((p : Int) + 1) ≤ (p : Int) - 1 := by
    have : n / ((p : Int) + 1) ≠ p := fun z => c1 (en.mpr z)
    omega
  by_cases c2 : uprB p n = true
  · rw [if_pos c2]
    have hi := (upr_iff c1).mp c2
    refine nd_snoc (fun x _ y _ e => by omega) (fun x hx e => ?_)
    have cn := co_eq p n
    have := (co_mk (p := p) (x := n / ((p : Int) + 1)) (j := x) (by omega) (by omega)).1
    rw [show n / ((p : Int) + 1) * ((p : Int) + 1) + (x : Int) = lstZ p by omega, (lst_co p).1] at this
    omega
  · rw [if_neg c2]
    have hi : n % ((p : Int) + 1) ≠ 0 := fun z => c2 ((upr_iff c1).mpr z)
    refine nd_snoc (fun x hx y hy e => ?_) (fun x hx e => ?_)
    · have a := (over_in h n0 n1 c1 hi (x := x) (by omega) (by omega)).2.2.2.1
      have b := (over_in h n0 n1 c1 hi (x := y) (by omega) (by omega)).2.2.2.1
      rw [e] at a
      omega
    · have a := (over_in h n0 n1 c1 hi (x := x) (by omega) (by omega)).2.2.2.2.2
      rw [e, farS_sl hi, (co_mk (p := p) (x := n / ((p : Int) + 1)) (j := p) (by omega) (by omega)).2] at a
      omega
theorem setL_in {p : Nat} (h : Pr p) {n s : Int} (n0 : 0 ≤ n) (n1 : n ≤ lstZ p) (s0 : 0 ≤ s) (s1 : s ≤ lstZ p) (a : InS p s n) : s ∈ setL p n := by
  have p2 := h.two
  obtain ⟨⟨x0, x1, j0, j1, xj⟩, es⟩ := co s0 s1
  obtain ⟨⟨m0, m1, i0, i1, mi⟩, en⟩ := co n0 n1
  have cs := co_eq p s
  have cn := co_eq p n
  unfold InS inc at a
  unfold setL
  have ran : ∀ {z : Int}, 0 ≤ z → z < p → z.toNat ∈ List.range p := fun a b => List.mem_range.mpr (by omega)
  by_cases c1 : n = lstZ p
  · rw [if_pos (en.mp c1)] at a
    rw [if_pos c1]
    by_cases hx : s = lstZ p
    · rw [hx]; simp
    · have hx' : s / ((p : Int) + 1) ≠ p := fun z => hx (es.mpr z)
      refine List.mem_append_left _ (List.mem_map.mpr ⟨(s / ((p : Int) + 1)).toNat, ran x0 (by omega), ?_⟩)
      have hj := a.resolve_left hx'
      rw [show (((s / ((p : Int) + 1)).toNat : Nat) : Int) = s / ((p : Int) + 1) by omega]
      omega
  rw [if_neg (fun z => c1 (en.mpr z))] at a
  rw [if_neg c1]
  by_cases hi : n % ((p : Int) + 1) = 0
  · rw [if_pos ((upr_iff c1).mpr hi)]
    by_cases hx : s = lstZ p
    · rw [hx]; simp
    · have hx' : s / ((p : Int) + 1) ≠ p := fun z => hx (es.mpr z)
      rw [if_neg hx'] at a
      by_cases hj : s % ((p : Int) + 1) = p
      · rw [if_pos hj] at a; exact absurd hi a.1
      · rw [if_neg hj, if_pos hi] at a
        refine List.mem_append_left _ (List.mem_map.mpr ⟨(s % ((p : Int) + 1)).toNat, ran j0 (by omega), ?_⟩)
        rw [show (((s % ((p : Int) + 1)).toNat : Nat) : Int) = s % ((p : Int) + 1) by omega]
        rw [a] at cs
        omega
  · rw [if_neg (fun z => hi ((upr_iff c1).mp z))]
    by_cases hx : s = lstZ p
    · rw [if_pos (es.mp hx)] at a; exact absurd a hi
    · have hx' : s / ((p : Int) + 1) ≠ p := fun z => hx (es.mpr z)
      rw [if_neg hx'] at a
      by_cases hj : s % ((p : Int) + 1) = p
      · rw [if_pos hj] at a
        rw [farS_sl hi, ← a.2]
        refine List.mem_append_right _ ?_
        rw [show s = s / ((p : Int) + 1) * ((p : Int) + 1) + (p : Int) by omega]
        rw [show (s / ((p : Int) + 1) * ((p : Int) + 1) + (p : Int)) / ((p : Int) + 1) = s / ((p : Int) + 1) from (co_mk (p := p) (x := s / ((p : Int) + 1)) (j := p) (by omega) (by omega)).1]
        simp
      · rw [if_neg hj, if_neg hi] at a
        refine List.mem_append_left _ (List.mem_map.mpr ⟨(s / ((p : Int) + 1)).toNat, ran x0 (by omega), ?_⟩)
        rw [show (((s / ((p : Int) + 1)).toNat : Nat) : Int) = s / ((p : Int) + 1) by omega]
        unfold sOver
        rw [mod_of a j0 (by omega)]
        omega
theorem setL_all {p : Nat} (h : Pr p) {n s : Int} (n0 : 0 ≤ n) (n1 : n ≤ lstZ p) (m : s ∈ setL p n) : 0 ≤ s ∧ s ≤ lstZ p ∧ InS p s n := by
  have p2 := h.two
  obtain ⟨⟨m0, m1, i0, i1, mi⟩, en⟩ := co n0 n1
  have cn := co_eq p n
  have lp : 0 ≤ lstZ p := by unfold lstZ; exact Int.mul_nonneg (by omega) (by omega)
  unfold setL at m
  by_cases c1 : n = lstZ p
  · rw [if_pos c1] at m
    rcases List.mem_append.mp m with m | m
    · obtain ⟨x, hx, rfl⟩ := List.mem_map.mp m
      have hx := List.mem_range.mp hx
      obtain ⟨b0, b1⟩ := mk_top (p := p) (x := x) (j := p) (by omega) (by omega) (by omega) (by omega)
      refine ⟨b0, b1, inS_mk (by omega) (by omega) ?_⟩
      unfold inc
      rw [if_pos (en.mp c1)]; exact .inr rfl
    · rw [List.mem_singleton.mp m]
      refine ⟨lp, Int.le_refl _, ?_⟩
      unfold InS inc
      rw [if_pos (en.mp c1), (lst_co p).1]; exact .inl rfl
  rw [if_neg c1] at m
  have mp : n / ((p : Int) + 1) ≤ (p : Int) - 1 := by
    have : n / ((p : Int) + 1) ≠ p := fun z => c1 (en.mpr z)
    omega
  by_cases c2 : uprB p n = true
  · rw [if_pos c2] at m
    have hi := (upr_iff c1).mp c2
    rcases List.mem_append.mp m with m | m
    · obtain ⟨j, hj, rfl⟩ := List.mem_map.mp m
      have hj := List.mem_range.mp hj
      obtain ⟨b0, b1⟩ := mk_top (p := p) (j := (j : Int)) m0 mp (by omega) (by omega)
      have e : n + (j : Int) = n / ((p : Int) + 1) * ((p : Int) + 1) + (j : Int) := by omega
      rw [e]
      refine ⟨b0, b1, inS_mk (by omega) (by omega) ?_⟩
      unfold inc
      rw [if_neg (by omega), if_neg (by omega), if_neg (by omega), if_pos hi]
    · rw [List.mem_singleton.mp m]
      refine ⟨lp, Int.le_refl _, ?_⟩
      unfold InS inc
      rw [if_neg (by omega), (lst_co p).1, if_pos rfl]; exact hi
  · rw [if_neg c2] at m
    have hi : n % ((p : Int) + 1) ≠ 0 := fun z => c2 ((upr_iff c1).mpr z)
    rcases List.mem_append.mp m with m | m
    · obtain ⟨x, hx, rfl⟩ := List.mem_map.mp m
      have hx := List.mem_range.mp hx
      have a := over_in h n0 n1 c1 hi (x := x) (by omega) (by omega)
      exact ⟨a.1, a.2.1, a.2.2.1⟩
    · rw [List.mem_singleton.mp m]
      have a := far_in n0 n1 c1
      exact ⟨a.1, a.2.1, a.2.2.1⟩
/-- of a list without doubles just one is in both -/
theorem filt_one {l : List Int} (nd : l.Nodup) {g : Int → Bool} {z : Int} (m : z ∈ l) (gz : g z = true) (one : ∀ y ∈ l, g y = true → y = z) : l.filter g = [z] := by
  induction l with
  | nil => simp at m
  | cons a l ih =>
    obtain ⟨n1, n2⟩ := List.nodup_cons.mp nd
    rcases List.mem_cons.mp m with e | m
    · subst e
      rw [List.filter_cons_of_pos gz, List.filter_eq_nil_iff.mpr]
      intro y hy gy
      exact n1 (one y (List.mem_cons_of_mem _ hy) gy ▸ hy)
    · have na : ¬ g a = true := fun gy => n1 (one a (List.mem_cons_self ..) gy ▸ m)
      rw [List.filter_cons_of_neg na]
      exact ih n2 m (fun y hy => one y (List.mem_cons_of_mem _ hy))
/-! ### primes, as the law finds them -/
def isP (n : Nat) : Bool := (List.range 98).all fun i => !(decide ((i + 2) * (i + 2) ≤ n) && decide (n % (i + 2) = 0))
theorem pr_of {n : Nat} (h2 : 2 ≤ n) (ht : n ≤ 9973) (h : isP n = true) : Pr n := by
  refine ⟨h2, ht, fun d d2 dd dv => ?_⟩
  have d99 : d < 100 := by
    rcases Nat.lt_or_ge d 100 with c | c
    · exact c
    · have := Nat.mul_le_mul c c
      omega
  unfold isP at h
  have := List.all_eq_true.mp h (d - 2) (List.mem_range.mpr (by omega))
  rw [show d - 2 + 2 = d by omega, decide_eq_true dd, decide_eq_true (Nat.mod_eq_zero_of_dvd dv)] at this
  simp at this
def chainP : List Nat := [37, 73, 109, 139, 173, 211, 241, 277, 313, 349, 383, 421, 457, 491, 523, 557, 593, 631, 661, 691, 727, 761, 797, 829, 863, 887, 919, 953, 991, 1021, 1051, 1087, 1123, 1153, 1187, 1223, 1259, 1297, 1327, 1361, 1399, 1433, 1471, 1499, 1531, 1567, 1601, 1637, 1669, 1699, 1733, 1759, 1789, 1823, 1861, 1889, 1913, 1951, 1987, 2017, 2053, 2089, 2113, 2143, 2179, 2213, 2251, 2287, 2311, 2347, 2383, 2417, 2447, 2477, 2503, 2539, 2557, 2593, 2621, 2659, 2693, 2731, 2767, 2803, 2837, 2861, 2897, 2927, 2963, 3001, 3037, 3067, 3089, 3121, 3137, 3169, 3203, 3229, 3259, 3271, 3307, 3343, 3373, 3407, 3433, 3469, 3499, 3533, 3571, 3607, 3643, 3677, 3709, 3739, 3769, 3803, 3833, 3863, 3889, 3923, 3947, 3967, 4003, 4027, 4057, 4093, 4129, 4159, 4177, 4211, 4243, 4273, 4297, 4327, 4363, 4397, 4423, 4457, 4493, 4523, 4561, 4597, 4621, 4657, 4691, 4729, 4759, 4793, 4831, 4861, 4889, 4919, 4957, 4993, 5023, 5059, 5087, 5119, 5153, 5189, 5227, 5261, 5297, 5333, 5351, 5387, 5419, 5449, 5483, 5521, 5557, 5591, 5623, 5659, 5693, 5717, 5749, 5783, 5821, 5857, 5881, 5903, 5939, 5953, 5987, 6011, 6047, 6079, 6113, 6151, 6173, 6211, 6247, 6277, 6311, 6343, 6379, 6397, 6427, 6451, 6481, 6491, 6529, 6563, 6599, 6637, 6673, 6709, 6737, 6763, 6793, 6829, 6863, 6899, 6917, 6949, 6983, 7019, 7057, 7079, 7109, 7129, 7159, 7193, 7229, 7253, 7283, 7321, 7351, 7369, 7393, 7417, 7451, 7489, 7523, 7561, 7591, 7621, 7649, 7687, 7723, 7759, 7793, 7829, 7867, 7901, 7937, 7963, 7993, 8017, 8053, 8089, 8123, 8161, 8191, 8221, 8243, 8273, 8311, 8329, 8363, 8389, 8423, 8461, 8467, 8501, 8539, 8573, 8609, 8647, 8681, 8719, 8753, 8783, 8821, 8849, 8887, 8923, 8951, 8971, 9007, 9043, 9067, 9103, 9137, 9173, 9209, 9241, 9277, 9311, 9349, 9377, 9413, 9439, 9473, 9511, 9547, 9551, 9587, 9623, 9661, 9697, 9733, 9769, 9803, 9839, 9871, 9907, 9941, 9973]
def stepsOk : Nat → List Nat → Bool
  | c, [] => decide (9973 ≤ c)
  | c, q :: r => decide (q < c + 40) && decide (q ≤ 9973) && isP q && stepsOk q r
theorem chain_ok : stepsOk 1 chainP = true := by decide +kernel
theorem cover : ∀ (l : List Nat) (c n : Nat), stepsOk c l = true → c < n → n ≤ 9973 → ∃ q, n ≤ q ∧ q < n + 40 ∧ isP q = true ∧ q ≤ 9973
  | [], c, n, h, h1, h2 => by
    unfold stepsOk at h
    have := of_decide_eq_true h
    omega
  | q :: r, c, n, h, h1, h2 => by
    unfold stepsOk at h
    simp only [Bool.and_eq_true, decide_eq_true_eq] at h
    obtain ⟨⟨⟨a, t⟩, b⟩, d⟩ := h
    rcases Nat.lt_or_ge q n with k | k
    · exact cover r q n d k h2
    · exact ⟨q, k, by omega, b, t⟩
theorem next_prime {n : Nat} (h : 2 ≤ n) (ht : n ≤ 9973) : ∃ q, n ≤ q ∧ q < n + 40 ∧ isP q = true ∧ q ≤ 9973 := cover chainP 1 n chain_ok (by omega) ht
end G0
namespace G0
theorem up_snoc {f : Nat → Int} {p : Nat} {z : Int} (mono : ∀ x y, x < y → y < p → f x < f y) (lt : ∀ x < p, f x < z) : ((List.range p).map f ++ [z]).Pairwise (· < ·) := by
  refine List.pairwise_append.mpr ⟨?_, by simp, fun a ha b hb => ?_⟩
  · refine List.pairwise_map.mpr (List.Pairwise.imp_of_mem (fun {x y} hx hy hxy => mono x y hxy (List.mem_range.mp hy)) List.pairwise_lt_range)
  · obtain ⟨x, hx, rfl⟩ := List.mem_map.mp ha
    rw [show b = z by simpa using hb]
    exact lt x (List.mem_range.mp hx)
theorem lstZ_eq (p : Nat) : lstZ p = (p : Int) * p + p := by unfold lstZ; rw [Int.mul_add, Int.mul_one]
theorem lstZ_pos (p : Nat) : 0 ≤ lstZ p := by unfold lstZ; exact Int.mul_nonneg (by omega) (by omega)
theorem pp_le {p : Nat} (h : p ≤ 9973) : (p : Int) * p ≤ 99460729 := by
  have := Nat.mul_le_mul h h
  have e : ((p * p : Nat) : Int) = (p : Int) * p := Int.natCast_mul _ _
  omega
theorem setL_up1 (p : Nat) : ((List.range p).map (fun x : Nat => (x : Int) * ((p : Int) + 1) + p) ++ [lstZ p]).Pairwise (· < ·) := by
  refine up_snoc (fun x y h _ => ?_) (fun x hx => ?_)
  · have := Int.mul_lt_mul_of_pos_right (show (x : Int) < y by omega) (show (0 : Int) < (p : Int) + 1 by omega)
    omega
  · have := Int.mul_le_mul_of_nonneg_right (show (x : Int) + 1 ≤ p by omega) (show (0 : Int) ≤ (p : Int) + 1 by omega)
    rw [Int.add_mul] at this
    unfold lstZ
    omega
theorem setL_up2 {p : Nat} {n : Int} (n0 : 0 ≤ n) (n1 : n ≤ lstZ p) (c1 : n ≠ lstZ p) (c2 : uprB p n = true) : ((List.range p).map (fun j : Nat => n + (j : Int)) ++ [lstZ p]).Pairwise (· < ·) := by
  obtain ⟨⟨m0, m1, i0, i1, mi⟩, en⟩ := co n0 n1
  have cn := co_eq p n
  have mp : n / ((p : Int) + 1) ≤ (p : Int) - 1 := by
    have : n / ((p : Int) + 1) ≠ p := fun z => c1 (en.mpr z)
    omega
  have hi := (upr_iff c1).mp c2
  refine up_snoc (fun x y h _ => by omega) (fun x hx => ?_)
  have b := (mk_top (p := p) (j := (p : Int)) m0 mp (by omega) (by omega)).2
  omega
theorem up_of {l : List Int} (nd : l.Nodup) (le : l.Pairwise (· ≤ ·)) : l.Pairwise (· < ·) :=
  (List.Pairwise.and le nd).imp fun h => by omega
/-- an inverse there is -/
theorem inv_ex {p : Nat} (h : Pr p) {a b : Int} (a0 : 0 ≤ a) (a1 : a ≤ p) (b0 : 0 ≤ b) (b1 : b ≤ p) (c : a < p ∨ b < p) (c2 : a ≠ 0 ∨ b ≠ 0) : ∃ r : Int, (a ≠ b → -(p : Int) < a - b → a - b < p → (p : Int) ∣ (a - b) * r - 1) := by
  refine ⟨_, fun ne h1 h2 => inv_end h (n := a - b) (fun d => ne (by have := small_eq d h1 h2; omega)) (f := ((a - b) % p).toNat ^ (p - 2) % p) (Nat.mod_mod _ _)⟩
end G0
namespace G0
/-! ### the set in which two seats stand -/
theorem two_one {p : Nat} (h : Pr p) {s t n k : Int} (s0 : 0 ≤ s) (s1 : s ≤ lstZ p) (t0 : 0 ≤ t) (t1 : t ≤ lstZ p) (n0 : 0 ≤ n) (n1 : n ≤ lstZ p) (k0 : 0 ≤ k) (k1 : k ≤ lstZ p) (ne : s ≠ t)
    (a : InS p s n) (b : InS p s k) (c : InS p t n) (d : InS p t k) : n = k := by
  by_cases e : n = k
  · exact e
  · exact absurd (InS.one h s0 s1 t0 t1 n0 n1 k0 k1 e a b c d) ne
theorem far_iff {p : Nat} {s : Int} : farB p s = true ↔ s = lstZ p ∨ s % ((p : Int) + 1) = p := by
  unfold farB; simp
theorem thr_in {p : Nat} (h : Pr p) {F N : Int} (f0 : 0 ≤ F) (f1 : F ≤ lstZ p) (n0 : 0 ≤ N) (n1 : N ≤ lstZ p) (fF : farB p F = true) (nN : ¬ farB p N = true) :
    0 ≤ sThr p F N ∧ sThr p F N ≤ lstZ p ∧ InS p F (sThr p F N) ∧ InS p N (sThr p F N) := by
  have p2 := h.two
  obtain ⟨⟨x0, x1, j0, j1, xj⟩, es⟩ := co n0 n1
  obtain ⟨⟨m0, m1, i0, i1, mi⟩, en⟩ := co f0 f1
  have nl : N ≠ lstZ p := fun z => nN (far_iff.mpr (.inl z))
  have nj : N % ((p : Int) + 1) ≠ p := fun z => nN (far_iff.mpr (.inr z))
  have xp : N / ((p : Int) + 1) < p := by
    have : N / ((p : Int) + 1) ≠ p := fun z => nl (es.mpr z)
    omega
  have key : ∀ {n : Int}, 0 ≤ n → n ≤ lstZ p → n ≠ lstZ p → sThr p F N = n → farS p n = F → 0 ≤ n ∧ n ≤ lstZ p ∧ InS p F n ∧ InS p N n := fun {n} a0 a1 a2 a3 a4 => by
    refine ⟨a0, a1, (lies_iff h f0 f1 a0 a1).mp ?_, (lies_iff h n0 n1 a0 a1).mp ?_⟩
    · unfold liesB
      rw [if_neg a2, if_pos fF, a4]; simp
    · unfold liesB
      rw [if_neg a2, if_neg nN, a4, a3]; simp
  by_cases c : F = lstZ p
  · have e : sThr p F N = N / ((p : Int) + 1) * ((p : Int) + 1) + 0 := by unfold sThr; rw [if_pos c]; omega
    obtain ⟨b0, b1⟩ := mk_top (p := p) (j := 0) x0 (by omega) (by omega) (by omega)
    obtain ⟨e1, e2⟩ := co_mk (p := p) (x := N / ((p : Int) + 1)) (j := 0) (by omega) (by omega)
    have ne : N / ((p : Int) + 1) * ((p : Int) + 1) + 0 ≠ lstZ p := fun z => by
      rw [z, (lst_co p).1] at e1
      omega
    rw [e]
    exact key b0 b1 ne e ((farS_up ne e2).trans c.symm)
  · have mp : F / ((p : Int) + 1) < p := by
      have : F / ((p : Int) + 1) ≠ p := fun z => c (en.mpr z)
      omega
    have hj := (far_iff.mp fF).resolve_left c
    have t0 := Int.emod_nonneg (N % ((p : Int) + 1) - N / ((p : Int) + 1) * (F / ((p : Int) + 1) - N / ((p : Int) + 1)) - 1) (show (p : Int) ≠ 0 by omega)
    have t1 := Int.emod_lt_of_pos (N % ((p : Int) + 1) - N / ((p : Int) + 1) * (F / ((p : Int) + 1) - N / ((p : Int) + 1)) - 1) (show (0 : Int) < p by omega)
    have e : sThr p F N = F / ((p : Int) + 1) * ((p : Int) + 1) + ((N % ((p : Int) + 1) - N / ((p : Int) + 1) * (F / ((p : Int) + 1) - N / ((p : Int) + 1)) - 1) % p + 1) := by unfold sThr; rw [if_neg c]; omega
    generalize (N % ((p : Int) + 1) - N / ((p : Int) + 1) * (F / ((p : Int) + 1) - N / ((p : Int) + 1)) - 1) % p = i at *
    obtain ⟨b0, b1⟩ := mk_top (p := p) (j := i + 1) m0 (by omega) (by omega) (by omega)
    obtain ⟨e1, e2⟩ := co_mk (p := p) (x := F / ((p : Int) + 1)) (j := i + 1) (by omega) (by omega)
    have ne : F / ((p : Int) + 1) * ((p : Int) + 1) + (i + 1) ≠ lstZ p := fun z => by
      rw [z, (lst_co p).1] at e1
      omega
    rw [e]
    refine key b0 b1 ne e ?_
    have cf := co_eq p F
    rw [farS_sl (by rw [e2]; omega), e1]
    omega
theorem far_last {p : Nat} {s : Int} (f0 : 0 ≤ s) (f1 : s ≤ lstZ p) (f : farB p s = true) : InS p s (lstZ p) := by
  unfold InS inc
  rw [(lst_co p).1, if_pos rfl]
  exact (far_iff.mp f).imp (co f0 f1).2.mp id
/-- two near seats over one place -/
theorem over_same {p : Nat} {s t : Int} (s0 : 0 ≤ s) (s1 : s ≤ lstZ p) (t0 : 0 ≤ t) (t1 : t ≤ lstZ p) (ns : ¬ farB p s = true) (nt : ¬ farB p t = true) (e : s / ((p : Int) + 1) = t / ((p : Int) + 1)) : InS p t (sThr p (lstZ p) s) := by
  obtain ⟨⟨x0, x1, j0, j1, xj⟩, es⟩ := co s0 s1
  obtain ⟨⟨y0, y1, k0, k1, yk⟩, et⟩ := co t0 t1
  have nl : t / ((p : Int) + 1) ≠ p := fun z => nt (far_iff.mpr (.inl (et.mpr z)))
  have nj : t % ((p : Int) + 1) ≠ p := fun z => nt (far_iff.mpr (.inr z))
  have e' : sThr p (lstZ p) s = s / ((p : Int) + 1) * ((p : Int) + 1) + 0 := by unfold sThr; rw [if_pos rfl]; omega
  obtain ⟨e1, e2⟩ := co_mk (p := p) (x := s / ((p : Int) + 1)) (j := 0) (by omega) (by omega)
  unfold InS inc
  rw [e', e1, e2, if_neg (by omega), if_neg nl, if_neg nj, if_pos rfl]
  exact e.symm
/-- two near seats over unlike places -/
theorem over_two {p : Nat} (h : Pr p) {s t r : Int} (s0 : 0 ≤ s) (s1 : s ≤ lstZ p) (t0 : 0 ≤ t) (t1 : t ≤ lstZ p) (ns : ¬ farB p s = true) (nt : ¬ farB p t = true)
    (hr : (p : Int) ∣ (s / ((p : Int) + 1) - t / ((p : Int) + 1)) * r - 1) {m : Int} (hm : m = ((s % ((p : Int) + 1) - t % ((p : Int) + 1)) * r + s / ((p : Int) + 1) + t / ((p : Int) + 1)) % p) :
    0 ≤ m * ((p : Int) + 1) + p ∧ m * ((p : Int) + 1) + p ≤ lstZ p ∧ farB p (m * ((p : Int) + 1) + p) = true ∧ InS p t (sThr p (m * ((p : Int) + 1) + p) s) := by
  have p2 := h.two
  have m0 : 0 ≤ m := by rw [hm]; exact Int.emod_nonneg _ (by omega)
  have m1 : m < p := by rw [hm]; exact Int.emod_lt_of_pos _ (by omega)
  obtain ⟨b0, b1⟩ := mk_top (p := p) (j := (p : Int)) m0 (by omega) (by omega) (by omega)
  obtain ⟨e1, e2⟩ := co_mk (p := p) (x := m) (j := p) (by omega) (by omega)
  refine ⟨b0, b1, far_iff.mpr (.inr e2), ?_⟩
  obtain ⟨⟨x0, x1, j0, j1, xj⟩, es⟩ := co s0 s1
  obtain ⟨⟨y0, y1, k0, k1, yk⟩, et⟩ := co t0 t1
  have nl : t / ((p : Int) + 1) ≠ p := fun z => nt (far_iff.mpr (.inl (et.mpr z)))
  have nj : t % ((p : Int) + 1) ≠ p := fun z => nt (far_iff.mpr (.inr z))
  have nlF : m * ((p : Int) + 1) + p ≠ lstZ p := fun z => by
    rw [z, (lst_co p).1] at e1
    omega
  have e : sThr p (m * ((p : Int) + 1) + p) s = m * ((p : Int) + 1) + ((s % ((p : Int) + 1) - s / ((p : Int) + 1) * (m - s / ((p : Int) + 1)) - 1) % p + 1) := by
    unfold sThr
    rw [if_neg nlF, e1]; omega
  have u0 := Int.emod_nonneg (s % ((p : Int) + 1) - s / ((p : Int) + 1) * (m - s / ((p : Int) + 1)) - 1) (show (p : Int) ≠ 0 by omega)
  have u1 := Int.emod_lt_of_pos (s % ((p : Int) + 1) - s / ((p : Int) + 1) * (m - s / ((p : Int) + 1)) - 1) (show (0 : Int) < p by omega)
  have ud := mod_dvd p (s % ((p : Int) + 1) - s / ((p : Int) + 1) * (m - s / ((p : Int) + 1)) - 1)
  have md : (p : Int) ∣ (s % ((p : Int) + 1) - t % ((p : Int) + 1)) * r + s / ((p : Int) + 1) + t / ((p : Int) + 1) - m := by rw [hm]; exact mod_dvd p _
  rw [e]
  generalize (s % ((p : Int) + 1) - s / ((p : Int) + 1) * (m - s / ((p : Int) + 1)) - 1) % p = i at *
  obtain ⟨g1, g2⟩ := co_mk (p := p) (x := m) (j := i + 1) (by omega) (by omega)
  unfold InS inc
  rw [g1, g2, if_neg (by omega), if_neg nl, if_neg nj, if_neg (by omega)]
  generalize s / ((p : Int) + 1) = x at *
  generalize s % ((p : Int) + 1) = j at *
  generalize t / ((p : Int) + 1) = y at *
  generalize t % ((p : Int) + 1) = k at *
  -- (x - y) (m - x - y) is j - k
  have t1 : (p : Int) ∣ (x - y) * ((j - k) * r + x + y - m) := Int.dvd_mul_of_dvd_right md
  have t2 : (p : Int) ∣ (j - k) * ((x - y) * r - 1) := Int.dvd_mul_of_dvd_right hr
  have t3 := Int.dvd_sub t2 t1
  have a1 : (j - k) * ((x - y) * r - 1) = (j - k) * ((x - y) * r) - (j - k) := by rw [Int.mul_sub, Int.mul_one]
  have a2 : (x - y) * ((j - k) * r + x + y - m) = (x - y) * ((j - k) * r) + (x - y) * (x + y - m) := by
    rw [← Int.mul_add]; exact congrArg _ (by omega)
  have a3 : (j - k) * ((x - y) * r) = (x - y) * ((j - k) * r) := Int.mul_left_comm _ _ _
  have a4 : (x - y) * (x + y - m) = y * (m - y) - x * (m - x) := by
    simp only [Int.sub_mul, Int.mul_sub, Int.mul_add]
    rw [Int.mul_comm y x]
    omega
  rw [a1, a2, a3, a4] at t3
  have t4 := Int.dvd_add t3 ud
  generalize (x - y) * ((j - k) * r) = z at *
  rw [show z - (j - k) - (z + (y * (m - y) - x * (m - x))) + (j - x * (m - x) - 1 - i) = -(y * (m - y) + (i + 1) - k) by omega] at t4
  exact Int.dvd_neg.mp t4
end G0
namespace G0
open PySem PySem.Spec PyProof.Rows L2
section
variable {P : Program} {w : World} {K : PySem.W.Frag} {mg : Str → Option Value} {base : Heap}
/-! ### what is never reached -/
def tDead : TS := fun _ _ _ => False
theorem ps_dead {X : Cx} {st : Stmt} : PS X st tDead := ⟨fun _ _ _ _ _ _ h => h.elim⟩
theorem lc_yes {te : TE} {σ : L2.St} {H : Hp} {Q : VK} {B : Hp → Prop} (h : te σ H Q) : tYes σ H (fun b H3 => if b = true then te σ H3 Q else B H3) := by
  show (if true = true then te σ H Q else B H)
  exact iteT h
/-! ### is_below, look_at_seat -/
def spBel : Sp := fun vs H Q _ => ∃ x n : Int, vs = [.int x, .int n] ∧ Q (.bl (decide (0 ≤ x) && decide (x < n))) H
theorem sc_is_below : FnScope ["thing", "top"] ["thing", "top"] (defScope s_is_below) :=
  ⟨rfl, rfl, rfl, by decide +kernel, rfl, by decide +kernel, by decide +kernel⟩
theorem ok_bel (F : Fn K mg "is_below" s_is_below) (T : BlF mg) : Cal P w K mg base "is_below" 1 ["thing", "top"] spBel := by
  refine cal_of F sc_is_below
    (fun _ _ _ _ _ _ us hl => match us, hl with | [_, _], _ => rfl) ?_ ?_
  · rintro vs H Q E ⟨x, n, rfl, _⟩
    rfl
  rintro f cdv A outer s H vs Q E free hr ⟨x, n, rfl, q⟩
  refine ⟨_, (pss_one (ps_ret (pe_and (pe_callB call_isi (by rfl) T.isinstance (by decide +kernel) (pa_cons (pv 0) (pa_cons (pe_bltn (v := .ty "int") (by rfl) T.int (by decide +kernel) rfl) pa_nil))) (pe_and (pe_not (pe_callB call_isi (by rfl) T.isinstance (by decide +kernel) (pa_cons (pv 0) (pa_cons (pe_bltn (v := .ty "bool") (by rfl) T.bool (by decide +kernel) rfl) pa_nil)))) (pe_one (pe_chain op_le op_lt pe_int (pv 0) (pv 1))))))), ?_⟩
  refine ⟨_, rfl, _, .ty "int", _, _, _, rfl, .ty _, .base (.int x), kit_ty (r := true) (by decide +kernel), _, rfl, iteT' rfl ?_⟩
  refine ⟨_, rfl, _, .ty "bool", _, _, _, rfl, .ty _, .base (.int x), kit_ty (r := false) (by decide +kernel), _, rfl, _, rfl, iteT' rfl ?_⟩
  refine ⟨_, rfl, _, _, rfl, rfl, _, rfl, ?_⟩
  refine ite2 (fun c => ⟨_, rfl, _, _, rfl, rfl, ?_⟩) (fun c => ?_)
  · have c' : decide (0 ≤ x) = true := c
    rw [c'] at q
    exact q
  · have c' : decide (0 ≤ x) = false := by simpa using c
    rw [c'] at q
    exact q
def spLook : Sp := fun vs H Q _ => ∃ x n : Int, vs = [.int x, .int n] ∧ 0 ≤ x ∧ x < n ∧ Q .non H
theorem sc_look_at_seat : FnScope ["seat", "seats"] ["seat", "seats"] (defScope s_look_at_seat) :=
  ⟨rfl, rfl, rfl, by decide +kernel, rfl, by decide +kernel, by decide +kernel⟩
theorem ok_look (F : Fn K mg "look_at_seat" s_look_at_seat) (Cis_below : Cal P w K mg base "is_below" 1 ["thing", "top"] spBel) : Cal P w K mg base "look_at_seat" 2 ["seat", "seats"] spLook := by
  refine cal_of F sc_look_at_seat
    (fun _ _ _ _ _ _ us hl => match us, hl with | [_, _], _ => rfl) ?_ ?_
  · rintro vs H Q E ⟨x, n, rfl, _⟩
    rfl
  rintro f cdv A outer s H vs Q E free hr ⟨x, n, rfl, x0, x1, q⟩
  refine ⟨_, (pss_one (ps_if (pt_not (pt_val (pe_cal Cis_below free (hr.mono (by decide)) (pa_cons (pv 0) (pa_cons (pv 1) pa_nil)))))
    (pss_one ps_dead)
    pss_nil)), ?_⟩
  refine ⟨_, rfl, _, rfl, x, n, rfl, _, rfl, ?_⟩
  refine iteF' (by simp [x0, x1]) ?_
  exact q
/-! ### numbers of a plane -/
structure Bl51 (mg : Str → Option Value) : Prop extends BlF mg where
  any : mg "any" = none
  divmod : mg "divmod" = none
  isq : mg "isqrt" = some (.builtin "math.isqrt")
  top : ∃ t, mg "GREATEST" = some (.int 9973 t)
def rIsq : List V → Hp → VK → Prop := fun vs H Q => ∃ n : Nat, vs = [.int (n : Int)] ∧ n < 2 ^ 64 ∧ ∀ r : Nat, r * r ≤ n → n < (r + 1) * (r + 1) → Q (.int (r : Int)) H
theorem cr_isqrt {X : Cx} : CallR X (.builtin "math.isqrt") rIsq := by
  intro pins s σ H vs us Q I r h
  obtain ⟨n, rfl, hn, q⟩ := h
  obtain ⟨u, rfl, rx⟩ := vals1 r
  obtain ⟨t, rfl⟩ := rx
  have sp := PySem.Float64.isqrt_spec n
  exact PySem.W.mg_isqrt (by omega) (by omega) ⟨.int _, H, I.tok _, ⟨_, rfl⟩, q _ sp.1 sp.2⟩
def spLast : Sp := fun vs H Q _ => ∃ p : Nat, vs = [.int (p : Int)] ∧ p ≤ 9973 ∧ Q (.int (lstZ p)) H
theorem sc_last : FnScope ["p"] ["p"] (defScope s_last) :=
  ⟨rfl, rfl, rfl, by decide +kernel, rfl, by decide +kernel, by decide +kernel⟩
theorem ok_last (F : Fn K mg "_last" s_last) : Cal P w K mg base "_last" 1 ["p"] spLast := by
  refine cal_of F sc_last
    (fun _ _ _ _ _ _ us hl => match us, hl with | [_], _ => rfl) ?_ ?_
  · rintro vs H Q E ⟨p, rfl, _⟩
    rfl
  rintro f cdv A outer s H vs Q E free hr ⟨p, rfl, top, q⟩
  refine ⟨_, (pss_one (ps_ret (pe_op op_mul (pv 0) (pe_op op_add (pv 0) pe_int)))), ?_⟩
  exact ⟨_, rfl, _, rfl, _, _, rfl, rfl, _, _, rfl, rfl, .inl ⟨by omega, by omega⟩, q⟩
def spLP : Sp := fun vs H Q _ => ∃ p : Nat, vs = [.int (p : Int)] ∧ Pr p ∧ ∀ H', Same H H' → Q .non H'
theorem sc_look_at_prime : FnScope ["p", "step"] ["p"] (defScope s_look_at_prime) :=
  ⟨rfl, rfl, rfl, by decide +kernel, rfl, by decide +kernel, by decide +kernel⟩
theorem ok_lp (F : Fn K mg "_look_at_prime" s_look_at_prime) (T : Bl51 mg) (Cis_below : Cal P w K mg base "is_below" 1 ["thing", "top"] spBel) : Cal P w K mg base "_look_at_prime" 2 ["p"] spLP := by
  obtain ⟨tg, hG⟩ := T.top
  refine cal_of F sc_look_at_prime
    (fun _ _ _ _ _ _ us hl => match us, hl with | [_], _ => rfl) ?_ ?_
  · rintro vs H Q E ⟨p, rfl, _⟩
    rfl
  rintro f cdv A outer s H vs Q E free hr ⟨p, rfl, hp, q⟩
  have p2 := hp.two
  have pt := hp.top
  refine ⟨_, (pss_one (ps_if (PW.pt (pw_or (pt_not (pt_val (pe_cal Cis_below free (hr.mono (by decide)) (pa_cons (pv 0) (pa_cons (pe_op op_add (pe_glob (v := .int 9973) (by rfl) hG ⟨_, rfl⟩) pe_int) pa_nil))))) (pw_or (pt_cmpR op_lt (pv 0) pe_int (nomark _)) (pw_or1 (pt_val (pe_callB (cr_any (by rfl)) (by rfl) T.any (by decide +kernel) (pa_cons (pe_lc (own := [("step", 1)]) (g := gName 1) (tt := tYes) (by rfl) sc_look_at_prime.nd (pi_range2 (by rfl) T.range (pa_cons pe_int (pa_cons (pe_op op_add (pe_callBfun cr_isqrt (by rfl) T.isq (pa_cons (pv 0) pa_nil)) pe_int) pa_nil))) (blkOk_by (N := ["p", "step"]) (sc := defScope s_look_at_prime) (by decide +kernel)) (fun _ _ _ _ _ => pg_name (i := 1) sc_look_at_prime.nd rfl (Or.inl rfl)) (fun _ _ _ _ _ => pts_nil) (fun _ _ _ _ _ => (pe_cmpR op_eq (pe_op op_mod (pv 0) (pv 1)) pe_int (nomark _)))) pa_nil)))))))
    (pss_one ps_dead)
    pss_nil)), ?_⟩
  refine ⟨_, rfl, _, _, rfl, rfl, p, 9973 + 1, rfl, _, rfl, ?_⟩
  refine iteF' (by simp; omega) ?_
  refine ⟨_, rfl, _, _, rfl, rfl, _, rfl, ?_⟩
  refine iteF' (by simp; omega) ?_
  refine ⟨_, rfl, p, rfl, by omega, fun r r1 r2 => ⟨_, _, rfl, rfl, _, _, rfl, ?_, fun D hD => ?_⟩⟩
  · have : r < 2 ^ 32 := by
      rcases Nat.lt_or_ge r (2 ^ 32) with c | c
      · exact c
      · have := Nat.mul_le_mul c c
        omega
    exact ⟨by omega, by omega, by omega, by omega⟩
  refine lc_range (lo := 2) (n := (((r : Nat) : Int) + 1 - 2).toNat) (fun i G => Same H G ∧ G D = some (.lst ((List.replicate i false).map V.bl))) ⟨same_upd hD, upd_same⟩ ?_ ?_
  · rintro i G hi ⟨sG, kD⟩
    have li : i + 2 ≤ r := by omega
    have rr : r ≤ 99 := by
      rcases Nat.lt_or_ge r 100 with c | c
      · omega
      · have := Nat.mul_le_mul c c
        omega
    have nd : ¬ ((p : Int) % (2 + (i : Int)) = 0) := fun z => by
      have d := Int.dvd_of_emod_eq_zero z
      have e : (2 + (i : Int)) = ((2 + i : Nat) : Int) := by omega
      rw [e] at d
      exact hp.no (2 + i) (by omega) (Nat.le_trans (Nat.mul_le_mul (show 2 + i ≤ r by omega) (show 2 + i ≤ r by omega)) r1) (Int.natCast_dvd_natCast.mp d)
    refine ⟨rfl, lc_yes ?_⟩
    refine ⟨_, rfl, _, rfl, _, _, rfl, rfl, (by show (0 : Int) < 2 + (i : Int); omega), rfl, _, kD, ?_, fun c o e => ?_, ?_⟩
    · rw [List.length_map, List.length_replicate]
      exact Nat.lt_of_lt_of_le (show i < 100 by omega) (by decide)
    · rw [upd_ne (ne_of_none e hD)]
      exact sG _ _ e
    · rw [dec_ii, decide_eq_false nd, List.replicate_succ', List.map_append]
      exact upd_same
  rintro G ⟨sG, kD⟩
  refine ⟨D, _, rfl, SqL.of kD, _, rfl, ?_⟩
  refine iteF' (by rw [List.any_replicate]; simp) ?_
  exact q _ sG
def spLS : Sp := fun vs H Q _ => ∃ (p : Nat) (n : Int), vs = [.int (p : Int), .int n] ∧ p ≤ 9973 ∧ 0 ≤ n ∧ n ≤ lstZ p ∧ Q .non H
theorem sc_u_look_at_seat : FnScope ["p", "seat"] ["p", "seat"] (defScope s_u_look_at_seat) :=
  ⟨rfl, rfl, rfl, by decide +kernel, rfl, by decide +kernel, by decide +kernel⟩
theorem ok_ls (F : Fn K mg "_look_at_seat" s_u_look_at_seat) (C_last : Cal P w K mg base "_last" 1 ["p"] spLast) (Clook_at_seat : Cal P w K mg base "look_at_seat" 2 ["seat", "seats"] spLook) : Cal P w K mg base "_look_at_seat" 3 ["p", "seat"] spLS := by
  refine cal_of F sc_u_look_at_seat
    (fun _ _ _ _ _ _ us hl => match us, hl with | [_, _], _ => rfl) ?_ ?_
  · rintro vs H Q E ⟨p, n, rfl, _⟩
    rfl
  rintro f cdv A outer s H vs Q E free hr ⟨p, n, rfl, pt, n0, n1, q⟩
  refine ⟨_, (pss_one (ps_expr (pe_cal Clook_at_seat free (hr.mono (by decide)) (pa_cons (pv 1) (pa_cons (pe_op op_add (pe_cal C_last free (hr.mono (by decide)) (pa_cons (pv 0) pa_nil)) pe_int) pa_nil))))), ?_⟩
  exact ⟨_, rfl, _, rfl, p, rfl, pt, _, _, rfl, rfl, n, _, rfl, n0, by omega, q⟩
theorem sc_look_at_set : FnScope ["p", "number"] ["p", "number"] (defScope s_look_at_set) :=
  ⟨rfl, rfl, rfl, by decide +kernel, rfl, by decide +kernel, by decide +kernel⟩
theorem ok_lset (F : Fn K mg "_look_at_set" s_look_at_set) (C_last : Cal P w K mg base "_last" 1 ["p"] spLast) (Cis_below : Cal P w K mg base "is_below" 1 ["thing", "top"] spBel) : Cal P w K mg base "_look_at_set" 2 ["p", "number"] spLS := by
  refine cal_of F sc_look_at_set
    (fun _ _ _ _ _ _ us hl => match us, hl with | [_, _], _ => rfl) ?_ ?_
  · rintro vs H Q E ⟨p, n, rfl, _⟩
    rfl
  rintro f cdv A outer s H vs Q E free hr ⟨p, n, rfl, pt, n0, n1, q⟩
  refine ⟨_, (pss_one (ps_if (pt_not (pt_val (pe_cal Cis_below free (hr.mono (by decide)) (pa_cons (pv 1) (pa_cons (pe_op op_add (pe_cal C_last free (hr.mono (by decide)) (pa_cons (pv 0) pa_nil)) pe_int) pa_nil)))))
    (pss_one ps_dead)
    pss_nil)), ?_⟩
  refine ⟨_, rfl, _, rfl, p, rfl, pt, _, _, rfl, rfl, n, _, rfl, _, rfl, ?_⟩
  refine iteF' (by simp; omega) ?_
  exact q
/-! ### where seats stand -/
def spFar : Sp := fun vs H Q _ => ∃ (p : Nat) (n : Int), vs = [.int (p : Int), .int n] ∧ p ≤ 9973 ∧ Q (.bl (farB p n)) H
theorem sc_is_far : FnScope ["p", "seat"] ["p", "seat"] (defScope s_is_far) :=
  ⟨rfl, rfl, rfl, by decide +kernel, rfl, by decide +kernel, by decide +kernel⟩
theorem ok_far (F : Fn K mg "_is_far" s_is_far) (C_last : Cal P w K mg base "_last" 1 ["p"] spLast) : Cal P w K mg base "_is_far" 2 ["p", "seat"] spFar := by
  refine cal_of F sc_is_far
    (fun _ _ _ _ _ _ us hl => match us, hl with | [_, _], _ => rfl) ?_ ?_
  · rintro vs H Q E ⟨p, n, rfl, _⟩
    rfl
  rintro f cdv A outer s H vs Q E free hr ⟨p, n, rfl, pt, q⟩
  refine ⟨_, (pss_one (ps_ret (pe_or (pe_cmpR op_eq (pv 1) (pe_cal C_last free (hr.mono (by decide)) (pa_cons (pv 0) pa_nil)) (nomark _)) (pe_one (pe_cmpR op_eq (pe_op op_mod (pv 1) (pe_op op_add (pv 0) pe_int)) (pv 0) (nomark _)))))), ?_⟩
  unfold farB at q
  refine ⟨_, rfl, _, rfl, p, rfl, pt, rfl, _, rfl, ?_⟩
  rw [dec_ii]
  refine ite2 (fun c => ?_) (fun c => ?_)
  · rw [c] at q
    exact q
  · have c' : decide (n = lstZ p) = false := by simpa using c
    rw [c', Bool.false_or] at q
    refine ⟨_, rfl, _, rfl, _, _, rfl, rfl, _, _, rfl, rfl, (by show (0 : Int) < (p : Int) + 1; omega), _, rfl, rfl, ?_⟩
    rw [dec_ii]
    exact q
def spUpr : Sp := fun vs H Q _ => ∃ (p : Nat) (n : Int), vs = [.int (p : Int), .int n] ∧ p ≤ 9973 ∧ Q (.bl (uprB p n)) H
theorem sc_is_upright : FnScope ["p", "number"] ["p", "number"] (defScope s_is_upright) :=
  ⟨rfl, rfl, rfl, by decide +kernel, rfl, by decide +kernel, by decide +kernel⟩
theorem ok_upr (F : Fn K mg "_is_upright" s_is_upright) (C_last : Cal P w K mg base "_last" 1 ["p"] spLast) : Cal P w K mg base "_is_upright" 2 ["p", "number"] spUpr := by
  refine cal_of F sc_is_upright
    (fun _ _ _ _ _ _ us hl => match us, hl with | [_, _], _ => rfl) ?_ ?_
  · rintro vs H Q E ⟨p, n, rfl, _⟩
    rfl
  rintro f cdv A outer s H vs Q E free hr ⟨p, n, rfl, pt, q⟩
  refine ⟨_, (pss_one (ps_ret (pe_and (pe_cmpR op_ne (pv 1) (pe_cal C_last free (hr.mono (by decide)) (pa_cons (pv 0) pa_nil)) (nomark _)) (pe_one (pe_cmpR op_eq (pe_op op_mod (pv 1) (pe_op op_add (pv 0) pe_int)) pe_int (nomark _)))))), ?_⟩
  unfold uprB at q
  refine ⟨_, rfl, _, rfl, p, rfl, pt, rfl, _, rfl, ?_⟩
  rw [dec_ii]
  refine ite2 (fun c => ?_) (fun c => ?_)
  · rw [c, Bool.true_and] at q
    refine ⟨_, rfl, _, rfl, _, _, rfl, rfl, _, _, rfl, rfl, (by show (0 : Int) < (p : Int) + 1; omega), rfl, ?_⟩
    rw [dec_ii]
    exact q
  · have c' : (!decide (n = lstZ p)) = false := by simpa using c
    rw [c', Bool.false_and] at q
    exact q
def spFarS : Sp := fun vs H Q _ => ∃ (p : Nat) (n : Int), vs = [.int (p : Int), .int n] ∧ p ≤ 9973 ∧ Q (.int (farS p n)) H
theorem sc_far_seat : FnScope ["p", "number"] ["p", "number"] (defScope s_far_seat) :=
  ⟨rfl, rfl, rfl, by decide +kernel, rfl, by decide +kernel, by decide +kernel⟩
theorem ok_farS (F : Fn K mg "_far_seat" s_far_seat) (C_last : Cal P w K mg base "_last" 1 ["p"] spLast) (C_is_upright : Cal P w K mg base "_is_upright" 2 ["p", "number"] spUpr) : Cal P w K mg base "_far_seat" 3 ["p", "number"] spFarS := by
  refine cal_of F sc_far_seat
    (fun _ _ _ _ _ _ us hl => match us, hl with | [_, _], _ => rfl) ?_ ?_
  · rintro vs H Q E ⟨p, n, rfl, _⟩
    rfl
  rintro f cdv A outer s H vs Q E free hr ⟨p, n, rfl, pt, q⟩
  refine ⟨_, (pss_cons (ps_if (pt_val (pe_cal C_is_upright free (hr.mono (by decide)) (pa_cons (pv 0) (pa_cons (pv 1) pa_nil))))
    (pss_one (ps_ret (pe_cal C_last free (hr.mono (by decide)) (pa_cons (pv 0) pa_nil))))
    pss_nil)
    (pss_one (ps_ret (pe_op op_add (pe_op op_sub (pv 1) (pe_op op_mod (pv 1) (pe_op op_add (pv 0) pe_int))) (pv 0))))), ?_⟩
  unfold farS at q
  refine ⟨_, rfl, _, rfl, p, n, rfl, pt, _, rfl, ?_⟩
  refine ite2 (fun c => ?_) (fun c => ?_)
  · rw [if_pos c] at q
    exact ⟨_, rfl, p, rfl, pt, q⟩
  · rw [if_neg c] at q
    exact ⟨_, rfl, _, rfl, _, rfl, _, _, rfl, rfl, _, _, rfl, rfl, (by show (0 : Int) < (p : Int) + 1; omega), _, _, rfl, rfl, _, rfl, _, _, rfl, rfl, q⟩
end

end G0
namespace G0
open PySem PySem.Spec PyProof.Rows L2
section
variable {P : Program} {w : World} {K : PySem.W.Frag} {mg : Str → Option Value} {base : Heap}
/-! ### seats over a place, sets through a seat -/
def spOver (K : PySem.W.Frag) : Sp := fun vs H Q _ => ∃ (p : Nat) (n x : Int), vs = [.int (p : Int), .int n, .int x] ∧ Pr p ∧ 0 ≤ x ∧ x < p ∧ ∀ H', Same H H' → Q (.int (sOver p n x)) H'
theorem sc_seat_over : FnScope ["p", "number", "x", "m", "i"] ["p", "number", "x"] (defScope s_seat_over) :=
  ⟨rfl, rfl, rfl, by decide +kernel, rfl, by decide +kernel, by decide +kernel⟩
theorem ok_over (F : Fn K mg "_seat_over" s_seat_over) (T : Bl51 mg) : Cal P w K mg base "_seat_over" 1 ["p", "number", "x"] (spOver K) := by
  refine cal_of F sc_seat_over
    (fun _ _ _ _ _ _ us hl => match us, hl with | [_, _, _], _ => rfl) ?_ ?_
  · rintro vs H Q E ⟨p, n, x, rfl, _⟩
    rfl
  rintro f cdv A outer s H vs Q E free hr ⟨p, n, x, rfl, hp, x0, x1, q⟩
  have p2 := hp.two
  have pt := hp.top
  refine ⟨_, (pss_cons (ps_asg (pe_callB call_divmod (by rfl) T.divmod (by decide +kernel) (pa_cons (pv 1) (pa_cons (pe_op op_add (pv 0) pe_int) pa_nil))) (pg_tup (by rfl) (pgs_cons (pg_name (i := 3) sc_seat_over.nd rfl (Or.inl rfl)) (pgs_cons (pg_name (i := 4) sc_seat_over.nd rfl (Or.inl rfl)) pgs_nil))))
    (pss_one (ps_ret (pe_op op_add (pe_op op_mul (pv 2) (pe_op op_add (pv 0) pe_int)) (pe_op op_mod (pe_op op_add (pe_op op_mul (pv 2) (pe_op op_sub (pv 3) (pv 2))) (pv 4)) (pv 0)))))), ?_⟩
  refine ⟨_, rfl, _, rfl, _, _, rfl, rfl, _, _, rfl, ⟨by omega, by omega⟩, fun t ht => ?_⟩
  refine ⟨t, _, rfl, SqT.of upd_same, rfl, _, _, rfl, _, _, rfl, rfl, ?_⟩
  refine ⟨_, rfl, _, rfl, _, _, rfl, rfl, _, _, rfl, rfl, .inl ⟨by omega, by omega⟩, ?_⟩
  refine ⟨_, rfl, _, rfl, _, rfl, _, _, rfl, rfl, _, _, rfl, rfl, .inl ⟨by omega, by omega⟩, _, rfl, _, _, rfl, rfl, _, rfl, _, _, rfl, rfl, (by show (0 : Int) < (p : Int); omega), _, _, rfl, rfl, ?_⟩
  exact q _ (same_upd ht)
def spThr (K : PySem.W.Frag) : Sp := fun vs H Q _ => ∃ (p : Nat) (far near : Int), vs = [.int (p : Int), .int far, .int near] ∧ Pr p ∧ 0 ≤ far ∧ far ≤ lstZ p ∧ 0 ≤ near ∧ near ≤ lstZ p ∧ ∀ H', Same H H' → Q (.int (sThr p far near)) H'
theorem sc_set_through : FnScope ["p", "far", "near", "x", "j", "m"] ["p", "far", "near"] (defScope s_set_through) :=
  ⟨rfl, rfl, rfl, by decide +kernel, rfl, by decide +kernel, by decide +kernel⟩
theorem ok_thr (F : Fn K mg "_set_through" s_set_through) (T : Bl51 mg) (C_last : Cal P w K mg base "_last" 1 ["p"] spLast) : Cal P w K mg base "_set_through" 2 ["p", "far", "near"] (spThr K) := by
  refine cal_of F sc_set_through
    (fun _ _ _ _ _ _ us hl => match us, hl with | [_, _, _], _ => rfl) ?_ ?_
  · rintro vs H Q E ⟨p, n, x, rfl, _⟩
    rfl
  rintro f cdv A outer s H vs Q E free hr ⟨p, n, x, rfl, hp, n0, n1, x0, x1, q⟩
  have p2 := hp.two
  have pt := hp.top
  obtain ⟨⟨y0, y1, j0, j1, xj⟩, es⟩ := co x0 x1
  obtain ⟨⟨m0, m1, i0, i1, mi⟩, en⟩ := co n0 n1
  refine ⟨_, (pss_cons (ps_asg (pe_callB call_divmod (by rfl) T.divmod (by decide +kernel) (pa_cons (pv 2) (pa_cons (pe_op op_add (pv 0) pe_int) pa_nil))) (pg_tup (by rfl) (pgs_cons (pg_name (i := 3) sc_set_through.nd rfl (Or.inl rfl)) (pgs_cons (pg_name (i := 4) sc_set_through.nd rfl (Or.inl rfl)) pgs_nil))))
    (pss_cons (ps_if (pt_cmpR op_eq (pv 1) (pe_cal C_last free (hr.mono (by decide)) (pa_cons (pv 0) pa_nil)) (nomark _))
    (pss_one (ps_ret (pe_op op_mul (pv 3) (pe_op op_add (pv 0) pe_int))))
    pss_nil)
    (pss_cons (ps_set (i := 5) sc_set_through.nd rfl (Or.inl rfl) (pe_op op_fdivW (pv 1) (pe_op op_add (pv 0) pe_int)))
    (pss_one (ps_ret (pe_op op_add (pe_op op_add (pe_op op_mul (pv 5) (pe_op op_add (pv 0) pe_int)) (pe_op op_mod (pe_op op_sub (pe_op op_sub (pv 4) (pe_op op_mul (pv 3) (pe_op op_sub (pv 5) (pv 3)))) pe_int) (pv 0))) pe_int)))))), ?_⟩
  unfold sThr at q
  refine ⟨_, rfl, _, rfl, _, _, rfl, rfl, _, _, rfl, ⟨by omega, by omega⟩, fun t ht => ?_⟩
  refine ⟨t, _, rfl, SqT.of upd_same, rfl, _, _, rfl, _, _, rfl, rfl, ?_⟩
  refine ⟨_, rfl, _, rfl, p, rfl, pt, rfl, _, rfl, ?_⟩
  rw [dec_ii]
  refine ite2 (fun c => ?_) (fun c => ?_)
  · have c' : n = lstZ p := of_decide_eq_true c
    rw [if_pos c'] at q
    exact ⟨_, rfl, _, rfl, _, _, rfl, rfl, _, _, rfl, rfl, .inl ⟨by omega, by omega⟩, q _ (same_upd ht)⟩
  · have c' : ¬ n = lstZ p := fun z => c (decide_eq_true z)
    rw [if_neg c'] at q
    refine ⟨_, rfl, _, rfl, _, _, rfl, rfl, _, _, rfl, rfl, ⟨by omega, ?_⟩, ?_⟩
    · exact Nat.lt_of_le_of_lt (PySem.W.mg_log (k := 20) (by omega)) (by decide)
    refine ⟨_, rfl, _, rfl, _, _, rfl, rfl, _, _, rfl, rfl, .inl ⟨by omega, by omega⟩, ?_⟩
    refine ⟨_, rfl, _, rfl, _, rfl, _, rfl, _, _, rfl, rfl, _, _, rfl, rfl, .inl ⟨by omega, by omega⟩, _, _, rfl, rfl, _, _, rfl, rfl, _, rfl, _, _, rfl, rfl, (by show (0 : Int) < (p : Int); omega), _, _, rfl, rfl, _, _, rfl, rfl, ?_⟩
    exact q _ (same_upd ht)
/-! ### the inverse -/
def spInv : Sp := fun vs H Q _ => ∃ (n : Int) (p : Nat), vs = [.int n, .int (p : Int)] ∧ Pr p ∧ ¬ (p : Int) ∣ n ∧ ∀ r : Int, 0 ≤ r → r < p → (p : Int) ∣ n * r - 1 → Q (.int r) H
theorem sc_inverse : FnScope ["number", "p", "power", "square", "found"] ["number", "p"] (defScope s_inverse) :=
  ⟨rfl, rfl, rfl, by decide +kernel, rfl, by decide +kernel, by decide +kernel⟩
theorem ok_inv (F : Fn K mg "_inverse" s_inverse) : Cal P w K mg base "_inverse" 1 ["number", "p"] spInv := by
  refine cal_of F sc_inverse
    (fun _ _ _ _ _ _ us hl => match us, hl with | [_, _], _ => rfl) ?_ ?_
  · rintro vs H Q E ⟨n, p, rfl, _⟩
    rfl
  rintro f cdv A outer s H vs Q E free hr ⟨n, p, rfl, hp, nd, q⟩
  have p2 := hp.two
  have pt := hp.top
  refine ⟨_, (pss_cons (ps_set (i := 2) sc_inverse.nd rfl (Or.inl rfl) (pe_op op_sub (pv 1) pe_int))
    (pss_cons (ps_set (i := 3) sc_inverse.nd rfl (Or.inl rfl) (pe_op op_mod (pv 0) (pv 1)))
    (pss_cons (ps_set (i := 4) sc_inverse.nd rfl (Or.inl rfl) pe_int)
    (pss_cons (ps_while PassesOwn.never (pt_cmpR op_gt (pv 2) pe_int (nomark _))
    (pss_cons (ps_if (pt_cmpR op_eq (pe_op op_mod (pv 2) pe_int) pe_int (nomark _))
    (pss_one (ps_set (i := 4) sc_inverse.nd rfl (Or.inl rfl) (pe_op op_mod (pe_op op_mul (pv 4) (pv 3)) (pv 1))))
    pss_nil)
    (pss_cons (ps_set (i := 3) sc_inverse.nd rfl (Or.inl rfl) (pe_op op_mod (pe_op op_mul (pv 3) (pv 3)) (pv 1)))
    (pss_one (ps_aug (i := 2) sc_inverse.nd rfl (Or.inl rfl) pe_int iop_fdiv)))))
    (pss_one (ps_ret (pv 4))))))), ?_⟩
  refine ⟨_, rfl, _, _, rfl, rfl, ?_⟩
  refine ⟨_, rfl, _, rfl, _, _, rfl, rfl, (by show (0 : Int) < (p : Int); omega), ?_⟩
  have a0 := Int.emod_nonneg n (show (p : Int) ≠ 0 by omega)
  have a1 := Int.emod_lt_of_pos n (show (0 : Int) < (p : Int) by omega)
  refine ⟨fun m σ G => G = H ∧ ∃ f s w : Nat, m = w ∧ σ = [some (V.int n), some (V.int (p : Int)), some (V.int (w : Int)), some (V.int (s : Int)), some (V.int (f : Int))] ∧ f < p ∧ s < p ∧ f * s ^ w % p = (n % p).toNat ^ (p - 2) % p, ⟨p - 2, rfl, 1, (n % p).toNat, p - 2, rfl, ?_, by omega, by omega, by rw [Nat.one_mul]⟩, ?_⟩
  · rw [show (((n % p).toNat : Nat) : Int) = n % p by omega, show ((p - 2 : Nat) : Int) = (p : Int) - 2 by omega]
    rfl
  rintro m σ G ⟨rfl, f, s, w, rfl, rfl, f1, s1, e⟩
  refine ⟨_, rfl, _, _, rfl, rfl, _, rfl, ?_⟩
  refine ite2 (fun c => ?_) (fun c => ?_)
  · have w0 : 0 < m := by have := of_decide_eq_true c; omega
    refine ⟨fun σ' G' => G' = G ∧ ∃ f s w : Nat, w = m / 2 ∧ σ' = [some (V.int n), some (V.int (p : Int)), some (V.int (w : Int)), some (V.int (s : Int)), some (V.int (f : Int))] ∧ f < p ∧ s < p ∧ f * s ^ w % p = (n % p).toNat ^ (p - 2) % p, ?_, ?_⟩
    · rintro σ' G' ⟨rfl, f', s', w', rfl, rfl, h1, h2, h3⟩
      exact ⟨m / 2, by omega, rfl, f', s', m / 2, rfl, rfl, h1, h2, h3⟩
    refine ⟨_, rfl, _, _, rfl, rfl, (by show (0 : Int) < 2; decide), rfl, _, rfl, ?_⟩
    rw [dec_ii]
    have st := inv_step (p := p) (f := f) (s := s) (w := m)
    rw [e] at st
    have s2 : s * s % p < p := Nat.mod_lt _ (by omega)
    have tw : ((m : Nat) : Int) / 2 = ((m / 2 : Nat) : Int) := by omega
    refine ite2 (fun c2 => ?_) (fun c2 => ?_)
    · have c3 : m % 2 = 1 := by have := of_decide_eq_true c2; omega
      rw [if_pos c3] at st
      refine ⟨_, rfl, _, rfl, _, _, rfl, rfl, .inl ⟨by omega, by omega⟩, _, rfl, _, _, rfl, rfl, (by show (0 : Int) < (p : Int); omega), ?_⟩
      refine ⟨_, rfl, _, rfl, _, _, rfl, rfl, .inl ⟨by omega, by omega⟩, _, rfl, _, _, rfl, rfl, (by show (0 : Int) < (p : Int); omega), ?_⟩
      refine ⟨_, rfl, _, _, rfl, rfl, ⟨by decide, by decide⟩, ?_⟩
      refine ⟨rfl, (f * s % p), s * s % p, m / 2, rfl, ?_, (Nat.mod_lt _ (by omega)), s2, ?_⟩
      · rfl
      · exact st.symm
    · have c3 : ¬ m % 2 = 1 := fun z => c2 (decide_eq_true (by omega))
      rw [if_neg c3] at st
      refine ⟨_, rfl, _, rfl, _, _, rfl, rfl, .inl ⟨by omega, by omega⟩, _, rfl, _, _, rfl, rfl, (by show (0 : Int) < (p : Int); omega), ?_⟩
      refine ⟨_, rfl, _, _, rfl, rfl, ⟨by decide, by decide⟩, ?_⟩
      refine ⟨rfl, f, s * s % p, m / 2, rfl, ?_, f1, s2, ?_⟩
      · rfl
      · exact st.symm
  · have w0 : m = 0 := by
      rcases Nat.eq_zero_or_pos m with z | z
      · exact z
      · exact absurd (decide_eq_true (by omega)) c
    subst w0
    rw [Nat.pow_zero, Nat.mul_one] at e
    exact ⟨_, rfl, q _ (by omega) (by omega) (inv_end hp nd e)⟩
end

end G0
namespace G0
open PySem PySem.Spec PyProof.Rows L2
section
variable {P : Program} {w : World} {K : PySem.W.Frag} {mg : Str → Option Value} {base : Heap}
/-! ### lies -/
def spLies (K : PySem.W.Frag) : Sp := fun vs H Q _ => ∃ (p : Nat) (s n : Int), vs = [.int (p : Int), .int s, .int n] ∧ Pr p ∧ (0 ≤ s ∧ s ≤ lstZ p) ∧ (0 ≤ n ∧ n ≤ lstZ p) ∧ ∀ H', Same H H' → Q (.bl (liesB p s n)) H'
theorem sc_lies : FnScope ["p", "seat", "number"] ["p", "seat", "number"] (defScope s_lies) :=
  ⟨rfl, rfl, rfl, by decide +kernel, rfl, by decide +kernel, by decide +kernel⟩
theorem ok_lies (F : Fn K mg "lies" s_lies) (C_look_at_prime : Cal P w K mg base "_look_at_prime" 2 ["p"] spLP) (C_look_at_seat : Cal P w K mg base "_look_at_seat" 3 ["p", "seat"] spLS) (C_look_at_set : Cal P w K mg base "_look_at_set" 2 ["p", "number"] spLS)
    (C_last : Cal P w K mg base "_last" 1 ["p"] spLast) (C_is_far : Cal P w K mg base "_is_far" 2 ["p", "seat"] spFar) (C_far_seat : Cal P w K mg base "_far_seat" 3 ["p", "number"] spFarS) (C_set_through : Cal P w K mg base "_set_through" 2 ["p", "far", "near"] (spThr K)) :
    Cal P w K mg base "lies" 4 ["p", "seat", "number"] (spLies K) := by
  refine cal_of F sc_lies
    (fun _ _ _ _ _ _ us hl => match us, hl with | [_, _, _], _ => rfl) ?_ ?_
  · rintro vs H Q E ⟨p, n, x, rfl, _⟩
    rfl
  rintro f cdv A outer s H vs Q E free hr ⟨p, x, n, rfl, hp, ⟨x0, x1⟩, ⟨n0, n1⟩, q⟩
  have p2 := hp.two
  have pt := hp.top
  refine ⟨_, (pss_cons (ps_expr (pe_cal C_look_at_prime free (hr.mono (by decide)) (pa_cons (pv 0) pa_nil)))
    (pss_cons (ps_expr (pe_cal C_look_at_seat free (hr.mono (by decide)) (pa_cons (pv 0) (pa_cons (pv 1) pa_nil))))
    (pss_cons (ps_expr (pe_cal C_look_at_set free (hr.mono (by decide)) (pa_cons (pv 0) (pa_cons (pv 2) pa_nil))))
    (pss_cons (ps_if (pt_cmpR op_eq (pv 2) (pe_cal C_last free (hr.mono (by decide)) (pa_cons (pv 0) pa_nil)) (nomark _))
    (pss_one (ps_ret (pe_cal C_is_far free (hr.mono (by decide)) (pa_cons (pv 0) (pa_cons (pv 1) pa_nil)))))
    pss_nil)
    (pss_cons (ps_if (pt_val (pe_cal C_is_far free (hr.mono (by decide)) (pa_cons (pv 0) (pa_cons (pv 1) pa_nil))))
    (pss_one (ps_ret (pe_cmpR op_eq (pv 1) (pe_cal C_far_seat free (hr.mono (by decide)) (pa_cons (pv 0) (pa_cons (pv 2) pa_nil))) (nomark _))))
    pss_nil)
    (pss_one (ps_ret (pe_cmpR op_eq (pv 2) (pe_cal C_set_through free (hr.mono (by decide)) (pa_cons (pv 0) (pa_cons (pe_cal C_far_seat free (hr.mono (by decide)) (pa_cons (pv 0) (pa_cons (pv 2) pa_nil))) (pa_cons (pv 1) pa_nil)))) (nomark _))))))))), ?_⟩
  unfold liesB at q
  refine ⟨_, rfl, p, rfl, hp, fun H1 s1 => ?_⟩
  refine ⟨_, rfl, _, rfl, p, x, rfl, pt, x0, x1, ?_⟩
  refine ⟨_, rfl, _, rfl, p, n, rfl, pt, n0, n1, ?_⟩
  refine ⟨_, rfl, _, rfl, p, rfl, pt, rfl, _, rfl, ?_⟩
  rw [dec_ii]
  refine ite2 (fun c => ?_) (fun c => ?_)
  · rw [if_pos (of_decide_eq_true c)] at q
    exact ⟨_, rfl, _, rfl, p, x, rfl, pt, q _ s1⟩
  have c' : ¬ n = lstZ p := fun z => c (decide_eq_true z)
  rw [if_neg c'] at q
  refine ⟨_, rfl, _, rfl, p, x, rfl, pt, _, rfl, ?_⟩
  refine ite2 (fun c2 => ?_) (fun c2 => ?_)
  · rw [if_pos c2] at q
    refine ⟨_, rfl, _, rfl, _, rfl, p, n, rfl, pt, rfl, ?_⟩
    rw [dec_ii]
    exact q _ s1
  · rw [if_neg c2] at q
    obtain ⟨f0, f1, _⟩ := far_in n0 n1 c'
    refine ⟨_, rfl, _, rfl, _, rfl, _, rfl, p, n, rfl, pt, _, rfl, p, farS p n, x, rfl, hp, f0, f1, x0, x1, fun H2 s2 => ⟨rfl, ?_⟩⟩
    rw [dec_ii]
    exact q _ (s1.trans s2)
/-! ### shared -/
def spShared (K : PySem.W.Frag) : Sp := fun vs H Q _ => ∃ (p : Nat) (one other : Int), vs = [.int (p : Int), .int one, .int other] ∧ Pr p ∧ (0 ≤ one ∧ one ≤ lstZ p) ∧ (0 ≤ other ∧ other ≤ lstZ p) ∧ one ≠ other ∧
  ∀ (z : Int) H', Same H H' → 0 ≤ z → z ≤ lstZ p → InS p z one → InS p z other → Q (.int z) H'
theorem sc_shared : FnScope ["p", "one", "other", "m", "i", "n", "k"] ["p", "one", "other"] (defScope s_shared) :=
  ⟨rfl, rfl, rfl, by decide +kernel, rfl, by decide +kernel, by decide +kernel⟩
theorem ok_shared (F : Fn K mg "shared" s_shared) (T : Bl51 mg) (C_look_at_prime : Cal P w K mg base "_look_at_prime" 2 ["p"] spLP) (C_look_at_set : Cal P w K mg base "_look_at_set" 2 ["p", "number"] spLS)
    (C_last : Cal P w K mg base "_last" 1 ["p"] spLast) (C_is_upright : Cal P w K mg base "_is_upright" 2 ["p", "number"] spUpr) (C_far_seat : Cal P w K mg base "_far_seat" 3 ["p", "number"] spFarS) (C_seat_over : Cal P w K mg base "_seat_over" 1 ["p", "number", "x"] (spOver K))
    (C_inverse : Cal P w K mg base "_inverse" 1 ["number", "p"] spInv) : Cal P w K mg base "shared" 4 ["p", "one", "other"] (spShared K) := by
  refine cal_of F sc_shared
    (fun _ _ _ _ _ _ us hl => match us, hl with | [_, _, _], _ => rfl) ?_ ?_
  · rintro vs H Q E ⟨p, n, x, rfl, _⟩
    rfl
  rintro f cdv A outer s H vs Q E free hr ⟨p, n, k, rfl, hp, ⟨n0, n1⟩, ⟨k0, k1⟩, ne, q⟩
  have p2 := hp.two
  have pt := hp.top
  refine ⟨_, (pss_cons (ps_expr (pe_cal C_look_at_prime free (hr.mono (by decide)) (pa_cons (pv 0) pa_nil)))
    (pss_cons (ps_expr (pe_cal C_look_at_set free (hr.mono (by decide)) (pa_cons (pv 0) (pa_cons (pv 1) pa_nil))))
    (pss_cons (ps_expr (pe_cal C_look_at_set free (hr.mono (by decide)) (pa_cons (pv 0) (pa_cons (pv 2) pa_nil))))
    (pss_cons (ps_if (pt_cmpR op_eq (pv 1) (pv 2) (nomark _))
    (pss_one ps_dead)
    pss_nil)
    (pss_cons (ps_if (pt_cmpR op_eq (pv 1) (pe_cal C_last free (hr.mono (by decide)) (pa_cons (pv 0) pa_nil)) (nomark _))
    (pss_one (ps_ret (pe_cal C_far_seat free (hr.mono (by decide)) (pa_cons (pv 0) (pa_cons (pv 2) pa_nil)))))
    pss_nil)
    (pss_cons (ps_if (PW.pt (pw_or (pt_cmpR op_eq (pv 2) (pe_cal C_last free (hr.mono (by decide)) (pa_cons (pv 0) pa_nil)) (nomark _)) (pw_or1 (pt_cmpR op_eq (pe_cal C_far_seat free (hr.mono (by decide)) (pa_cons (pv 0) (pa_cons (pv 1) pa_nil))) (pe_cal C_far_seat free (hr.mono (by decide)) (pa_cons (pv 0) (pa_cons (pv 2) pa_nil))) (nomark _)))))
    (pss_one (ps_ret (pe_cal C_far_seat free (hr.mono (by decide)) (pa_cons (pv 0) (pa_cons (pv 1) pa_nil)))))
    pss_nil)
    (pss_cons (ps_if (pt_val (pe_cal C_is_upright free (hr.mono (by decide)) (pa_cons (pv 0) (pa_cons (pv 1) pa_nil))))
    (pss_one (ps_ret (pe_cal C_seat_over free (hr.mono (by decide)) (pa_cons (pv 0) (pa_cons (pv 2) (pa_cons (pe_op op_fdivW (pv 1) (pe_op op_add (pv 0) pe_int)) pa_nil))))))
    pss_nil)
    (pss_cons (ps_if (pt_val (pe_cal C_is_upright free (hr.mono (by decide)) (pa_cons (pv 0) (pa_cons (pv 2) pa_nil))))
    (pss_one (ps_ret (pe_cal C_seat_over free (hr.mono (by decide)) (pa_cons (pv 0) (pa_cons (pv 1) (pa_cons (pe_op op_fdivW (pv 2) (pe_op op_add (pv 0) pe_int)) pa_nil))))))
    pss_nil)
    (pss_cons (ps_asg (pe_callB call_divmod (by rfl) T.divmod (by decide +kernel) (pa_cons (pv 1) (pa_cons (pe_op op_add (pv 0) pe_int) pa_nil))) (pg_tup (by rfl) (pgs_cons (pg_name (i := 3) sc_shared.nd rfl (Or.inl rfl)) (pgs_cons (pg_name (i := 4) sc_shared.nd rfl (Or.inl rfl)) pgs_nil))))
    (pss_cons (ps_asg (pe_callB call_divmod (by rfl) T.divmod (by decide +kernel) (pa_cons (pv 2) (pa_cons (pe_op op_add (pv 0) pe_int) pa_nil))) (pg_tup (by rfl) (pgs_cons (pg_name (i := 5) sc_shared.nd rfl (Or.inl rfl)) (pgs_cons (pg_name (i := 6) sc_shared.nd rfl (Or.inl rfl)) pgs_nil))))
    (pss_one (ps_ret (pe_cal C_seat_over free (hr.mono (by decide)) (pa_cons (pv 0) (pa_cons (pv 1) (pa_cons (pe_op op_mod (pe_op op_mul (pe_op op_sub (pv 6) (pv 4)) (pe_cal C_inverse free (hr.mono (by decide)) (pa_cons (pe_op op_sub (pv 3) (pv 5)) (pa_cons (pv 0) pa_nil)))) (pv 0)) pa_nil)))))))))))))))), ?_⟩
  obtain ⟨⟨m0, m1, i0, i1, mi⟩, en⟩ := co n0 n1
  obtain ⟨⟨o0, o1, l0, l1, ol⟩, eo⟩ := co k0 k1
  have lg : ((p : Int) + 1).natAbs.log2 < 9000 := Nat.lt_of_le_of_lt (PySem.W.mg_log (k := 20) (by omega)) (by decide)
  have D : ∀ r : Int, (n / ((p : Int) + 1) ≠ k / ((p : Int) + 1) → (p : Int) ∣ (n / ((p : Int) + 1) - k / ((p : Int) + 1)) * r - 1) →
    0 ≤ shD p r n k ∧ shD p r n k ≤ lstZ p ∧ InS p (shD p r n k) n ∧ InS p (shD p r n k) k := fun r hr => shD_in hp n0 n1 k0 k1 ne hr
  have mp : n ≠ lstZ p → n / ((p : Int) + 1) < p := fun h => by
    have : n / ((p : Int) + 1) ≠ p := fun z => h (en.mpr z)
    omega
  have op : k ≠ lstZ p → k / ((p : Int) + 1) < p := fun h => by
    have : k / ((p : Int) + 1) ≠ p := fun z => h (eo.mpr z)
    omega
  refine ⟨_, rfl, p, rfl, hp, fun H1 s1 => ?_⟩
  refine ⟨_, rfl, _, rfl, p, n, rfl, pt, n0, n1, ?_⟩
  refine ⟨_, rfl, _, rfl, p, k, rfl, pt, k0, k1, ?_⟩
  refine ⟨_, rfl, _, rfl, rfl, _, rfl, ?_⟩
  rw [dec_ii]
  refine iteF' (by simp [ne]) ?_
  refine ⟨_, rfl, _, rfl, p, rfl, pt, rfl, _, rfl, ?_⟩
  rw [dec_ii]
  refine ite2 (fun c => ?_) (fun c => ?_)
  · have c' := of_decide_eq_true c
    have h3 : k ≠ lstZ p := fun z => ne (c'.trans z.symm)
    obtain ⟨f0, f1, f2, f3⟩ := far_in k0 k1 h3
    exact ⟨_, rfl, _, rfl, p, k, rfl, pt, q _ _ s1 f0 f1 (by rw [c']; exact f3) f2⟩
  have c1 : n ≠ lstZ p := fun z => c (decide_eq_true z)
  obtain ⟨f0, f1, f2, f3⟩ := far_in n0 n1 c1
  have fin : (k = lstZ p ∨ farS p n = farS p k) → Q (.int (farS p n)) H1 := fun h => q _ _ s1 f0 f1 f2 (by
    by_cases h3 : k = lstZ p
    · rw [h3]; exact f3
    · rw [h.resolve_left h3]; exact (far_in k0 k1 h3).2.2.1)
  refine ⟨_, rfl, _, rfl, p, rfl, pt, rfl, _, rfl, ?_⟩
  rw [dec_ii]
  refine ite2 (fun c2 => ?_) (fun c2 => ?_)
  · exact iteT' rfl ⟨_, rfl, _, rfl, p, n, rfl, pt, fin (.inl (of_decide_eq_true c2))⟩
  have c3 : k ≠ lstZ p := fun z => c2 (decide_eq_true z)
  refine ⟨_, rfl, _, rfl, p, n, rfl, pt, _, rfl, _, rfl, p, k, rfl, pt, rfl, _, rfl, ?_⟩
  rw [dec_ii]
  refine ite2 (fun c4 => ?_) (fun c4 => ?_)
  · exact ⟨_, rfl, _, rfl, p, n, rfl, pt, fin (.inr (of_decide_eq_true c4))⟩
  have c5 : farS p n ≠ farS p k := fun z => c4 (decide_eq_true z)
  have n5 : ¬ (k = lstZ p ∨ farS p n = farS p k) := fun z => z.elim c3 c5
  have d5 : ∀ r : Int, shD p r n k = if uprB p n = true then sOver p k (n / ((p : Int) + 1)) else if uprB p k = true then sOver p n (k / ((p : Int) + 1)) else sOver p n ((k % ((p : Int) + 1) - n % ((p : Int) + 1)) * r % p) := fun r => by
    unfold shD
    rw [if_neg c1, if_neg n5]
  obtain ⟨r0, hr0⟩ : ∃ r : Int, n / ((p : Int) + 1) ≠ k / ((p : Int) + 1) → (p : Int) ∣ (n / ((p : Int) + 1) - k / ((p : Int) + 1)) * r - 1 := by
    refine ⟨_, fun ne => inv_end hp (n := n / ((p : Int) + 1) - k / ((p : Int) + 1)) (fun d => ne (by have := small_eq d (by have := mp c1; have := op c3; omega) (by have := mp c1; have := op c3; omega); omega)) (f := ((n / ((p : Int) + 1) - k / ((p : Int) + 1)) % p).toNat ^ (p - 2) % p) (Nat.mod_mod _ _)⟩
  refine ⟨_, rfl, _, rfl, p, n, rfl, pt, _, rfl, ?_⟩
  refine ite2 (fun c6 => ?_) (fun c6 => ?_)
  · have D0 := D r0 hr0
    rw [d5, if_pos c6] at D0
    exact ⟨_, rfl, _, rfl, _, rfl, _, rfl, _, _, rfl, rfl, _, _, rfl, rfl, ⟨by omega, lg⟩, p, k, _, rfl, hp, m0, mp c1, fun H2 s2 => q _ _ (s1.trans s2) D0.1 D0.2.1 D0.2.2.1 D0.2.2.2⟩
  refine ⟨_, rfl, _, rfl, p, k, rfl, pt, _, rfl, ?_⟩
  refine ite2 (fun c7 => ?_) (fun c7 => ?_)
  · have D0 := D r0 hr0
    rw [d5, if_neg c6, if_pos c7] at D0
    exact ⟨_, rfl, _, rfl, _, rfl, _, rfl, _, _, rfl, rfl, _, _, rfl, rfl, ⟨by omega, lg⟩, p, n, _, rfl, hp, o0, op c3, fun H2 s2 => q _ _ (s1.trans s2) D0.1 D0.2.1 D0.2.2.1 D0.2.2.2⟩
  refine ⟨_, rfl, _, rfl, _, _, rfl, rfl, _, _, rfl, ⟨by omega, by omega⟩, fun t ht => ?_⟩
  refine ⟨t, _, rfl, SqT.of upd_same, rfl, _, _, rfl, _, _, rfl, rfl, ?_⟩
  refine ⟨_, rfl, _, rfl, _, _, rfl, rfl, _, _, rfl, ⟨by omega, by omega⟩, fun t2 ht2 => ?_⟩
  refine ⟨t2, _, rfl, SqT.of upd_same, rfl, _, _, rfl, _, _, rfl, rfl, ?_⟩
  have sA := s1.trans ((same_upd (o := .tup [.int (n / ((p : Int) + 1)), .int (n % ((p : Int) + 1))]) ht).trans (same_upd (o := .tup [.int (k / ((p : Int) + 1)), .int (k % ((p : Int) + 1))]) ht2))
  have hn : n % ((p : Int) + 1) ≠ 0 := fun z => c6 ((upr_iff c1).mpr z)
  have hk : k % ((p : Int) + 1) ≠ 0 := fun z => c7 ((upr_iff c3).mpr z)
  have nq : n / ((p : Int) + 1) ≠ k / ((p : Int) + 1) := fun z => c5 (by rw [farS_sl hn, farS_sl hk, z])
  have nd : ¬ (p : Int) ∣ n / ((p : Int) + 1) - k / ((p : Int) + 1) := fun d => nq (by
    have := small_eq d (by have := mp c1; have := op c3; omega) (by have := mp c1; have := op c3; omega)
    omega)
  refine ⟨_, rfl, _, rfl, _, rfl, _, rfl, _, _, rfl, rfl, _, rfl, _, rfl, _, _, rfl, rfl, _, rfl, _, p, rfl, hp, nd, fun r r0 r1 rd => ?_⟩
  have D0 := D r (fun _ => rd)
  rw [d5, if_neg c6, if_neg c7] at D0
  refine ⟨_, _, rfl, rfl, .inr ⟨by omega, by omega⟩, _, rfl, _, _, rfl, rfl, (by show (0 : Int) < (p : Int); omega), p, n, _, rfl, hp, Int.emod_nonneg _ (by omega), Int.emod_lt_of_pos _ (by omega), fun H2 s2 => q _ _ (sA.trans s2) D0.1 D0.2.1 D0.2.2.1 D0.2.2.2⟩
end

end G0
namespace G0
open PySem PySem.Spec PyProof.Rows L2
section
variable {P : Program} {w : World} {K : PySem.W.Frag} {mg : Str → Option Value} {base : Heap}
/-! ### primes and numbers, as the law draws them -/
def spWh : Sp := fun vs H Q _ => ∃ x : Int, vs = [.int x] ∧ Q (.bl true) H
theorem sc_law_whole : FnScope ["thing"] ["thing"] (defScope s_law_whole) :=
  ⟨rfl, rfl, rfl, by decide +kernel, rfl, by decide +kernel, by decide +kernel⟩
theorem ok_wh (F : Fn K mg "_law_whole" s_law_whole) (T : Bl51 mg) : Cal P w K mg base "_law_whole" 1 ["thing"] spWh := by
  refine cal_of F sc_law_whole
    (fun _ _ _ _ _ _ us hl => match us, hl with | [_], _ => rfl) ?_ ?_
  · rintro vs H Q E ⟨x, rfl, _⟩
    rfl
  rintro f cdv A outer s H vs Q E free hr ⟨x, rfl, q⟩
  refine ⟨_, (pss_one (ps_ret (pe_and (pe_callB call_isi (by rfl) T.isinstance (by decide +kernel) (pa_cons (pv 0) (pa_cons (pe_bltn (v := .ty "int") (by rfl) T.int (by decide +kernel) rfl) pa_nil))) (pe_one (pe_not (pe_callB call_isi (by rfl) T.isinstance (by decide +kernel) (pa_cons (pv 0) (pa_cons (pe_bltn (v := .ty "bool") (by rfl) T.bool (by decide +kernel) rfl) pa_nil)))))))), ?_⟩
  refine ⟨_, rfl, _, .ty "int", _, _, _, rfl, .ty _, .base (.int x), kit_ty (r := true) (by decide +kernel), _, rfl, iteT' rfl ?_⟩
  exact ⟨_, rfl, _, .ty "bool", _, _, _, rfl, .ty _, .base (.int x), kit_ty (r := false) (by decide +kernel), _, rfl, q⟩
def spIsP : Sp := fun vs H Q _ => ∃ n : Nat, vs = [.int (n : Int)] ∧ Q (.bl (isP n)) H
theorem sc_law_is_prime : FnScope ["number", "part"] ["number"] (defScope s_law_is_prime) :=
  ⟨rfl, rfl, rfl, by decide +kernel, rfl, by decide +kernel, by decide +kernel⟩
theorem ok_isp (F : Fn K mg "_law_is_prime" s_law_is_prime) (T : Bl51 mg) : Cal P w K mg base "_law_is_prime" 1 ["number"] spIsP := by
  refine cal_of F sc_law_is_prime
    (fun _ _ _ _ _ _ us hl => match us, hl with | [_], _ => rfl) ?_ ?_
  · rintro vs H Q E ⟨x, rfl, _⟩
    rfl
  rintro f cdv A outer s H vs Q E free hr ⟨n, rfl, q⟩
  refine ⟨_, (pss_cons (ps_for PassesOwn.never rfl (pi_range2 (by rfl) T.range (pa_cons pe_int (pa_cons pe_int pa_nil))) (pg_name (i := 1) sc_law_is_prime.nd rfl (Or.inl rfl))
    (pss_one (ps_if (PW.pt (pw_and (pt_cmpR op_le (pe_op op_mul (pv 1) (pv 1)) (pv 0) (nomark _)) (pw_and1 (pt_cmpR op_eq (pe_op op_mod (pv 0) (pv 1)) pe_int (nomark _)))))
    (pss_one (ps_ret pe_bl))
    pss_nil)))
    (pss_one (ps_ret pe_bl))), ?_⟩
  refine ⟨_, _, rfl, ⟨by decide, by decide, by decide, by decide⟩, ?_⟩
  refine for_range (lo := 2) (n := 98) (fun i σ G => G = H ∧ (∃ z : Option V, σ = [some (V.int (n : Int)), z]) ∧ ((List.range i).all fun i => !(decide ((i + 2) * (i + 2) ≤ n) && decide (n % (i + 2) = 0))) = true) ⟨rfl, ⟨_, rfl⟩, rfl⟩ ?_ ?_
  · rintro i σ G hi ⟨rfl, ⟨z, rfl⟩, al⟩
    refine ⟨_, rfl, _, rfl, _, _, rfl, rfl, .inl ⟨by omega, by omega⟩, _, rfl, _, _, rfl, rfl, _, rfl, ?_⟩
    have e1 : ∀ {c : Bool}, c = decide ((2 + (i : Int)) * (2 + (i : Int)) ≤ (n : Int)) → c = decide ((i + 2) * (i + 2) ≤ n) := fun h => by
      rw [h]
      refine decide_eq_decide.mpr ?_
      have z : (((i + 2) * (i + 2) : Nat) : Int) = (2 + (i : Int)) * (2 + (i : Int)) := by rw [Int.natCast_mul]; congr 1 <;> omega
      omega
    have e2 : decide (V.int ((n : Int) % (2 + (i : Int))) = V.int 0) = decide (n % (i + 2) = 0) := by
      rw [dec_ii]
      refine decide_eq_decide.mpr ?_
      have z : ((n % (i + 2) : Nat) : Int) = (n : Int) % (2 + (i : Int)) := by rw [Int.natCast_emod]; congr 1; omega
      omega
    have go : ∀ c : Bool, c = (decide ((i + 2) * (i + 2) ≤ n) && decide (n % (i + 2) = 0)) → c = false → ((List.range (i + 1)).all fun i => !(decide ((i + 2) * (i + 2) ≤ n) && decide (n % (i + 2) = 0))) = true := fun c h1 h2 => by
      rw [List.range_succ, List.all_append, al, List.all_cons, ← h1, h2]
      rfl
    have bad : ∀ c : Bool, c = (decide ((i + 2) * (i + 2) ≤ n) && decide (n % (i + 2) = 0)) → c = true → isP n = false := fun c h1 h2 => by
      cases h : isP n with
      | false => rfl
      | true =>
        unfold isP at h
        have := List.all_eq_true.mp h i (List.mem_range.mpr hi)
        rw [← h1, h2] at this
        cases this
    refine ite2 (fun c => ?_) (fun c => ?_)
    · have c1 := e1 c.symm
      refine ⟨_, rfl, _, rfl, _, _, rfl, rfl, (by show (0 : Int) < 2 + (i : Int); omega), rfl, _, rfl, ?_⟩
      rw [e2]
      refine ite2 (fun c2 => ?_) (fun c2 => ?_)
      · rw [bad true (by rw [← c1, c2]; rfl) rfl] at q
        exact q
      · exact ⟨rfl, ⟨_, rfl⟩, go false (by rw [← c1]; simpa using c2) rfl⟩
    · have c1 := e1 (c := false) (by simpa using c)
      exact iteF' rfl ⟨rfl, ⟨_, rfl⟩, go false (by rw [← c1]; rfl) rfl⟩
  · rintro σ G ⟨rfl, ⟨z, rfl⟩, al⟩
    rw [show isP n = true from al] at q
    exact q
def spPrime (K : PySem.W.Frag) : Sp := fun vs H Q _ => ∃ (H0 : Hp) (s p : Addr) (ns : List Int) (n : Nat), vs = [.ref s, .ref p] ∧ Fd K H0 s p ns n H ∧ n < 100000000 ∧
  ∀ (r : Nat) H', Pr r → Fd K H0 s p ns (n + 2) H' → Chg p H H' → Q (.int (r : Int)) H'
theorem pr_small {d : Int} (h0 : 0 ≤ d) (h1 : d < 8) : ∃ r : Nat, atI [V.int 2, .int 3, .int 5, .int 7, .int 11, .int 13, .int 17, .int 19] d = some (.int (r : Int)) ∧ Pr r := by
  have ok : ∀ r ∈ [2, 3, 5, 7, 11, 13, 17, 19], Pr r := fun r m => by
    have : 2 ≤ r ∧ r ≤ 9973 ∧ isP r = true := by
      have all : ([2, 3, 5, 7, 11, 13, 17, 19].all fun r => decide (2 ≤ r) && decide (r ≤ 9973) && isP r) = true := by decide +kernel
      have := List.all_eq_true.mp all r m
      simp only [Bool.and_eq_true, decide_eq_true_eq] at this
      exact ⟨this.1.1, this.1.2, this.2⟩
    exact pr_of this.1 this.2.1 this.2.2
  have : d = 0 ∨ d = 1 ∨ d = 2 ∨ d = 3 ∨ d = 4 ∨ d = 5 ∨ d = 6 ∨ d = 7 := by omega
  rcases this with rfl | rfl | rfl | rfl | rfl | rfl | rfl | rfl
  · exact ⟨2, rfl, ok 2 (by simp)⟩
  · exact ⟨3, rfl, ok 3 (by simp)⟩
  · exact ⟨5, rfl, ok 5 (by simp)⟩
  · exact ⟨7, rfl, ok 7 (by simp)⟩
  · exact ⟨11, rfl, ok 11 (by simp)⟩
  · exact ⟨13, rfl, ok 13 (by simp)⟩
  · exact ⟨17, rfl, ok 17 (by simp)⟩
  · exact ⟨19, rfl, ok 19 (by simp)⟩
theorem sc_law_prime : FnScope ["script", "pot", "small", "number", "k"] ["script", "pot"] (defScope s_law_prime) :=
  ⟨rfl, rfl, rfl, by decide +kernel, rfl, by decide +kernel, by decide +kernel⟩
theorem ok_prime (F : Fn K mg "_law_prime" s_law_prime) (T : Bl51 mg) (C_take : Cal P w K mg base "_law_take" 2 ["script", "pot", "many"] (spTake K)) (C_is_prime : Cal P w K mg base "_law_is_prime" 1 ["number"] spIsP) : Cal P w K mg base "_law_prime" 3 ["script", "pot"] (spPrime K) := by
  refine cal_of F sc_law_prime
    (fun _ _ _ _ _ _ us hl => match us, hl with | [_, _], _ => rfl) ?_ ?_
  · rintro vs H Q E ⟨H0, s, p, ns, n, rfl, _⟩
    rfl
  rintro f cdv A outer s' H vs Q E free hr ⟨H0, s, p, ns, n, rfl, D, nb, q⟩
  refine ⟨_, (pss_cons (ps_set (i := 2) sc_law_prime.nd rfl (Or.inl rfl) (pe_lst (pa_cons pe_int (pa_cons pe_int (pa_cons pe_int (pa_cons pe_int (pa_cons pe_int (pa_cons pe_int (pa_cons pe_int (pa_cons pe_int pa_nil))))))))))
    (pss_cons (ps_if (pt_cmpR op_eq (pe_cal C_take free (hr.mono (by decide)) (pa_cons (pv 0) (pa_cons (pv 1) (pa_cons pe_int pa_nil)))) pe_int (nomark _))
    (pss_one (ps_ret (pe_ix ix_list (pv 2) (pe_cal C_take free (hr.mono (by decide)) (pa_cons (pv 0) (pa_cons (pv 1) (pa_cons pe_int pa_nil)))) (fun _ _ => rfl))))
    pss_nil)
    (pss_cons (ps_set (i := 3) sc_law_prime.nd rfl (Or.inl rfl) (pe_op op_add pe_int (pe_cal C_take free (hr.mono (by decide)) (pa_cons (pv 0) (pa_cons (pv 1) (pa_cons pe_int pa_nil))))))
    (pss_cons (ps_for PassesOwn.never rfl (pi_range1 (by rfl) T.range (pa_cons pe_int pa_nil)) (pg_name (i := 4) sc_law_prime.nd rfl (Or.inl rfl))
    (pss_one (ps_if (pt_not (pt_val (pe_cal C_is_prime free (hr.mono (by decide)) (pa_cons (pv 3) pa_nil))))
    (pss_one (ps_set (i := 3) sc_law_prime.nd rfl (Or.inl rfl) (pe_op op_add (pv 3) pe_int)))
    pss_nil)))
    (pss_one (ps_ret (pv 3))))))), ?_⟩
  refine ⟨by show 8 ≤ sizeLine; decide, fun l hl => ?_⟩
  have s1 := same_upd (o := .lst [.int 2, .int 3, .int 5, .int 7, .int 11, .int 13, .int 17, .int 19]) hl
  have lp := D.ne hl
  refine ⟨_, rfl, _, rfl, H0, s, p, ns, n, 2, rfl, D.same s1, by omega, by decide, by decide, fun d y d0 d1 Y => ?_⟩
  have D1 := (D.same s1).put Y
  have c1 : Chg p H _ := (Chg.same s1).trans (Chg.self (o := .lst y))
  refine ⟨rfl, _, rfl, ?_⟩
  rw [dec_ii]
  refine ite2 (fun c => ?_) (fun c => ?_)
  · refine ⟨_, rfl, _, rfl, _, rfl, H0, s, p, ns, n + 1, 8, rfl, D1, by omega, by decide, by decide, fun d2 y2 d20 d21 Y2 => ?_⟩
    obtain ⟨r, er, pr⟩ := pr_small d20 d21
    exact ⟨l, _, d2, _, rfl, rfl, SqL.of ((upd_ne lp).trans ((upd_ne lp).trans upd_same)), er, q r _ pr (D1.put Y2) (c1.trans Chg.self)⟩
  · refine ⟨_, rfl, _, rfl, H0, s, p, ns, n + 1, 9972, rfl, D1, by omega, by decide, by decide, fun d2 y2 d20 d21 Y2 => ⟨_, _, rfl, rfl, ?_⟩⟩
    obtain ⟨u, hu⟩ : ∃ u : Nat, (2 + d2) = (u : Int) := ⟨(2 + d2).toNat, by omega⟩
    obtain ⟨v, v0, v1, v2, v3⟩ := next_prime (n := u) (by omega) (by omega)
    obtain ⟨G0, hG0⟩ : ∃ G0, G0 = upd (upd (upd H l (.lst [.int 2, .int 3, .int 5, .int 7, .int 11, .int 13, .int 17, .int 19])) p (.lst y)) p (.lst y2) := ⟨_, rfl⟩
    rw [← hG0]
    show gName 3 (V.int (2 + d2)) _ G0 _
    rw [hu]
    have D2 : Fd K H0 s p ns (n + 2) G0 := by rw [hG0]; exact D1.put Y2
    have c2 : Chg p H G0 := by rw [hG0]; exact c1.trans Chg.self
    refine ⟨_, rfl, by omega, by omega, ?_⟩
    refine for_range (lo := 0) (n := 40) (fun i σ G => G = G0 ∧ ∃ (z : Option V) (m : Nat), σ = [some (V.ref s), some (V.ref p), some (V.ref l), some (V.int (m : Int)), z] ∧ u ≤ m ∧ m ≤ v ∧ (isP m = true ∨ m = u + i)) ⟨rfl, _, u, rfl, by omega, by omega, .inr rfl⟩ ?_ ?_
    · rintro i σ G hi ⟨rfl, z, m, rfl, um, mv, h⟩
      refine ⟨_, rfl, m, rfl, _, rfl, ?_⟩
      refine ite2 (fun c => ?_) (fun c => ?_)
      · have np : ¬ isP m = true := by simpa using c
        have ne : m ≠ v := fun z => np (by rw [z]; exact v2)
        refine ⟨_, rfl, _, _, rfl, rfl, rfl, some (V.int (0 + (i : Int))), m + 1, rfl, by omega, by omega, .inr (by rcases h with h | h; exact absurd h np; omega)⟩
      · have yp : isP m = true := by simpa using c
        exact ⟨rfl, _, m, rfl, um, mv, .inl yp⟩
    · rintro σ G ⟨rfl, z, m, rfl, um, mv, h⟩
      refine ⟨_, rfl, q m _ (pr_of (by omega) (by omega) ?_) D2 c2⟩
      rcases h with h | h
      · exact h
      · omega
def spNum (K : PySem.W.Frag) : Sp := fun vs H Q _ => ∃ (H0 : Hp) (s p : Addr) (ns : List Int) (n r : Nat), vs = [.ref s, .ref p, .int (r : Int)] ∧ Fd K H0 s p ns n H ∧ n < 100000000 ∧ Pr r ∧
  ∀ (d : Int) H', 0 ≤ d → d ≤ lstZ r → Fd K H0 s p ns (n + 2) H' → Chg p H H' → Q (.int d) H'
theorem wideP {m : Int} (h0 : 0 < m) (h : m < 2 ^ 40) : m.natAbs < 2 ^ 250 := Nat.lt_of_lt_of_le (show m.natAbs < 2 ^ 40 by omega) (by decide)
theorem sc_law_number : FnScope ["script", "pot", "p", "way"] ["script", "pot", "p"] (defScope s_law_number) :=
  ⟨rfl, rfl, rfl, by decide +kernel, rfl, by decide +kernel, by decide +kernel⟩
theorem ok_num (F : Fn K mg "_law_number" s_law_number) (C_take : Cal P w K mg base "_law_take" 2 ["script", "pot", "many"] (spTake K)) : Cal P w K mg base "_law_number" 3 ["script", "pot", "p"] (spNum K) := by
  refine cal_of F sc_law_number
    (fun _ _ _ _ _ _ us hl => match us, hl with | [_, _, _], _ => rfl) ?_ ?_
  · rintro vs H Q E ⟨H0, s, p, ns, n, r, rfl, _⟩
    rfl
  rintro f cdv A outer s' H vs Q E free hr ⟨H0, s, p, ns, n, r, rfl, D, nb, pr, q⟩
  refine ⟨_, (pss_cons (ps_set (i := 3) sc_law_number.nd rfl (Or.inl rfl) (pe_cal C_take free (hr.mono (by decide)) (pa_cons (pv 0) (pa_cons (pv 1) (pa_cons pe_int pa_nil)))))
    (pss_cons (ps_if (pt_cmpR op_eq (pv 3) pe_int (nomark _))
    (pss_one (ps_ret (pe_op op_add (pe_op op_mul (pv 2) (pv 2)) (pe_cal C_take free (hr.mono (by decide)) (pa_cons (pv 0) (pa_cons (pv 1) (pa_cons (pe_op op_add (pv 2) pe_int) pa_nil)))))))
    pss_nil)
    (pss_cons (ps_if (pt_cmpR op_eq (pv 3) pe_int (nomark _))
    (pss_one (ps_ret (pe_cal C_take free (hr.mono (by decide)) (pa_cons (pv 0) (pa_cons (pv 1) (pa_cons (pe_op op_add (pv 2) pe_int) pa_nil))))))
    pss_nil)
    (pss_one (ps_ret (pe_cal C_take free (hr.mono (by decide)) (pa_cons (pv 0) (pa_cons (pv 1) (pa_cons (pe_op op_add (pe_op op_add (pe_op op_mul (pv 2) (pv 2)) (pv 2)) pe_int) pa_nil))))))))), ?_⟩
  have r2 := pr.two
  have rt := pr.top
  have e := lstZ_eq r
  have e0 := lstZ_pos r
  have e1 := pp_le rt
  have e2 : 0 ≤ (r : Int) * r := Int.mul_nonneg (by omega) (by omega)
  refine ⟨_, rfl, _, rfl, H0, s, p, ns, n, 5, rfl, D, by omega, by decide, by decide, fun d y d0 d1 Y => ?_⟩
  have D1 := D.put Y
  refine ⟨_, rfl, rfl, _, rfl, ?_⟩
  rw [dec_ii]
  refine ite2 (fun c => ?_) (fun c => ?_)
  · refine ⟨_, rfl, _, rfl, _, _, rfl, rfl, .inl ⟨by omega, by omega⟩, _, rfl, _, rfl, _, rfl, _, _, rfl, rfl, H0, s, p, ns, n + 1, (r : Int) + 1, rfl, D1, by omega, by omega, wideP (by omega) (by omega), fun d2 y2 d20 d21 Y2 => ⟨_, _, rfl, rfl, ?_⟩⟩
    exact q _ _ (by omega) (by omega) (D1.put Y2) (Chg.self.trans Chg.self)
  refine ⟨_, rfl, rfl, _, rfl, ?_⟩
  rw [dec_ii]
  refine ite2 (fun c2 => ?_) (fun c2 => ?_)
  · refine ⟨_, rfl, _, rfl, _, rfl, _, _, rfl, rfl, H0, s, p, ns, n + 1, (r : Int) + 1, rfl, D1, by omega, by omega, wideP (by omega) (by omega), fun d2 y2 d20 d21 Y2 => ?_⟩
    exact q _ _ (by omega) (by omega) (D1.put Y2) (Chg.self.trans Chg.self)
  · refine ⟨_, rfl, _, rfl, _, rfl, _, rfl, _, _, rfl, rfl, .inl ⟨by omega, by omega⟩, _, rfl, _, _, rfl, rfl, _, _, rfl, rfl, H0, s, p, ns, n + 1, (r : Int) * r + r + 1, rfl, D1, by omega, by omega, wideP (by omega) (by omega), fun d2 y2 d20 d21 Y2 => ?_⟩
    exact q _ _ (by omega) (by omega) (D1.put Y2) (Chg.self.trans Chg.self)
end

end G0
namespace G0
open PySem PySem.Spec PyProof.Rows L2
section
variable {P : Program} {w : World} {K : PySem.W.Frag} {mg : Str → Option Value} {base : Heap}
/-! ### holding -/
def spHold (K : PySem.W.Frag) : Sp := fun vs H Q _ => ∃ (p : Nat) (one other : Int), vs = [.int (p : Int), .int one, .int other] ∧ Pr p ∧ (0 ≤ one ∧ one ≤ lstZ p) ∧ (0 ≤ other ∧ other ≤ lstZ p) ∧ one ≠ other ∧
  ∀ (z : Int) H', Same H H' → 0 ≤ z → z ≤ lstZ p → InS p one z → InS p other z → Q (.int z) H'
theorem sc_holding : FnScope ["p", "one", "other", "x", "j", "y", "k", "m"] ["p", "one", "other"] (defScope s_holding) :=
  ⟨rfl, rfl, rfl, by decide +kernel, rfl, by decide +kernel, by decide +kernel⟩
theorem ok_hold (F : Fn K mg "holding" s_holding) (T : Bl51 mg) (C_look_at_prime : Cal P w K mg base "_look_at_prime" 2 ["p"] spLP) (C_look_at_seat : Cal P w K mg base "_look_at_seat" 3 ["p", "seat"] spLS)
    (C_last : Cal P w K mg base "_last" 1 ["p"] spLast) (C_is_far : Cal P w K mg base "_is_far" 2 ["p", "seat"] spFar) (C_set_through : Cal P w K mg base "_set_through" 2 ["p", "far", "near"] (spThr K))
    (C_inverse : Cal P w K mg base "_inverse" 1 ["number", "p"] spInv) : Cal P w K mg base "holding" 4 ["p", "one", "other"] (spHold K) := by
  refine cal_of F sc_holding
    (fun _ _ _ _ _ _ us hl => match us, hl with | [_, _, _], _ => rfl) ?_ ?_
  · rintro vs H Q E ⟨p, n, x, rfl, _⟩
    rfl
  rintro f cdv A outer s H vs Q E free hr ⟨p, n, k, rfl, hp, ⟨n0, n1⟩, ⟨k0, k1⟩, ne, q⟩
  have p2 := hp.two
  have pt := hp.top
  have lp := lstZ_pos p
  refine ⟨_, (pss_cons (ps_expr (pe_cal C_look_at_prime free (hr.mono (by decide)) (pa_cons (pv 0) pa_nil)))
    (pss_cons (ps_expr (pe_cal C_look_at_seat free (hr.mono (by decide)) (pa_cons (pv 0) (pa_cons (pv 1) pa_nil))))
    (pss_cons (ps_expr (pe_cal C_look_at_seat free (hr.mono (by decide)) (pa_cons (pv 0) (pa_cons (pv 2) pa_nil))))
    (pss_cons (ps_if (pt_cmpR op_eq (pv 1) (pv 2) (nomark _))
    (pss_one ps_dead)
    pss_nil)
    (pss_cons (ps_if (PW.pt (pw_and (pt_val (pe_cal C_is_far free (hr.mono (by decide)) (pa_cons (pv 0) (pa_cons (pv 1) pa_nil)))) (pw_and1 (pt_val (pe_cal C_is_far free (hr.mono (by decide)) (pa_cons (pv 0) (pa_cons (pv 2) pa_nil)))))))
    (pss_one (ps_ret (pe_cal C_last free (hr.mono (by decide)) (pa_cons (pv 0) pa_nil))))
    pss_nil)
    (pss_cons (ps_if (pt_val (pe_cal C_is_far free (hr.mono (by decide)) (pa_cons (pv 0) (pa_cons (pv 1) pa_nil))))
    (pss_one (ps_ret (pe_cal C_set_through free (hr.mono (by decide)) (pa_cons (pv 0) (pa_cons (pv 1) (pa_cons (pv 2) pa_nil))))))
    pss_nil)
    (pss_cons (ps_if (pt_val (pe_cal C_is_far free (hr.mono (by decide)) (pa_cons (pv 0) (pa_cons (pv 2) pa_nil))))
    (pss_one (ps_ret (pe_cal C_set_through free (hr.mono (by decide)) (pa_cons (pv 0) (pa_cons (pv 2) (pa_cons (pv 1) pa_nil))))))
    pss_nil)
    (pss_cons (ps_asg (pe_callB call_divmod (by rfl) T.divmod (by decide +kernel) (pa_cons (pv 1) (pa_cons (pe_op op_add (pv 0) pe_int) pa_nil))) (pg_tup (by rfl) (pgs_cons (pg_name (i := 3) sc_holding.nd rfl (Or.inl rfl)) (pgs_cons (pg_name (i := 4) sc_holding.nd rfl (Or.inl rfl)) pgs_nil))))
    (pss_cons (ps_asg (pe_callB call_divmod (by rfl) T.divmod (by decide +kernel) (pa_cons (pv 2) (pa_cons (pe_op op_add (pv 0) pe_int) pa_nil))) (pg_tup (by rfl) (pgs_cons (pg_name (i := 5) sc_holding.nd rfl (Or.inl rfl)) (pgs_cons (pg_name (i := 6) sc_holding.nd rfl (Or.inl rfl)) pgs_nil))))
    (pss_cons (ps_if (pt_cmpR op_eq (pv 3) (pv 5) (nomark _))
    (pss_one (ps_ret (pe_cal C_set_through free (hr.mono (by decide)) (pa_cons (pv 0) (pa_cons (pe_cal C_last free (hr.mono (by decide)) (pa_cons (pv 0) pa_nil)) (pa_cons (pv 1) pa_nil))))))
    pss_nil)
    (pss_cons (ps_set (i := 7) sc_holding.nd rfl (Or.inl rfl) (pe_op op_mod (pe_op op_add (pe_op op_add (pe_op op_mul (pe_op op_sub (pv 4) (pv 6)) (pe_cal C_inverse free (hr.mono (by decide)) (pa_cons (pe_op op_sub (pv 3) (pv 5)) (pa_cons (pv 0) pa_nil)))) (pv 3)) (pv 5)) (pv 0)))
    (pss_one (ps_ret (pe_cal C_set_through free (hr.mono (by decide)) (pa_cons (pv 0) (pa_cons (pe_op op_add (pe_op op_mul (pv 7) (pe_op op_add (pv 0) pe_int)) (pv 0)) (pa_cons (pv 1) pa_nil))))))))))))))))), ?_⟩
  refine ⟨_, rfl, p, rfl, hp, fun H1 s1 => ?_⟩
  refine ⟨_, rfl, _, rfl, p, n, rfl, pt, n0, n1, ?_⟩
  refine ⟨_, rfl, _, rfl, p, k, rfl, pt, k0, k1, ?_⟩
  refine ⟨_, rfl, _, rfl, rfl, _, rfl, ?_⟩
  rw [dec_ii]
  refine iteF' (by simp [ne]) ?_
  have none_far : ¬ farB p n = true → (if (farB p k) = true then True else True) := fun _ => by split <;> trivial
  refine ⟨_, rfl, _, rfl, p, n, rfl, pt, _, rfl, ?_⟩
  refine ite2 (fun c => ?_) (fun c => ?_)
  · skip
    refine ⟨_, rfl, _, rfl, p, k, rfl, pt, _, rfl, ?_⟩
    refine ite2 (fun c2 => ?_) (fun c2 => ?_)
    · exact ⟨_, rfl, p, rfl, pt, q _ _ s1 lp (Int.le_refl _) (far_last n0 n1 c) (far_last k0 k1 c2)⟩
    · refine ⟨_, rfl, _, rfl, p, n, rfl, pt, _, rfl, iteT' c ?_⟩
      obtain ⟨d0, d1, d2, d3⟩ := thr_in hp n0 n1 k0 k1 c c2
      exact ⟨_, rfl, _, rfl, _, rfl, p, n, k, rfl, hp, n0, n1, k0, k1, fun H2 s2 => q _ _ (s1.trans s2) d0 d1 d2 d3⟩
  · have c' : farB p n = false := by simpa using c
    refine iteF' rfl ?_
    refine ⟨_, rfl, _, rfl, p, n, rfl, pt, _, rfl, iteF' c' ?_⟩
    refine ⟨_, rfl, _, rfl, p, k, rfl, pt, _, rfl, ?_⟩
    refine ite2 (fun c2 => ?_) (fun c2 => ?_)
    · obtain ⟨d0, d1, d2, d3⟩ := thr_in hp k0 k1 n0 n1 c2 c
      exact ⟨_, rfl, _, rfl, _, rfl, p, k, n, rfl, hp, k0, k1, n0, n1, fun H2 s2 => q _ _ (s1.trans s2) d0 d1 d3 d2⟩
    refine ⟨_, rfl, _, rfl, _, _, rfl, rfl, _, _, rfl, ⟨by omega, by omega⟩, fun t ht => ?_⟩
    refine ⟨t, _, rfl, SqT.of upd_same, rfl, _, _, rfl, _, _, rfl, rfl, ?_⟩
    refine ⟨_, rfl, _, rfl, _, _, rfl, rfl, _, _, rfl, ⟨by omega, by omega⟩, fun t2 ht2 => ?_⟩
    refine ⟨t2, _, rfl, SqT.of upd_same, rfl, _, _, rfl, _, _, rfl, rfl, ?_⟩
    have sA := s1.trans ((same_upd (o := .tup [.int (n / ((p : Int) + 1)), .int (n % ((p : Int) + 1))]) ht).trans (same_upd (o := .tup [.int (k / ((p : Int) + 1)), .int (k % ((p : Int) + 1))]) ht2))
    obtain ⟨⟨x0, x1, j0, j1, xj⟩, es⟩ := co n0 n1
    obtain ⟨⟨y0, y1, l0, l1, yl⟩, et⟩ := co k0 k1
    have nx : n / ((p : Int) + 1) < p := by
      have : n / ((p : Int) + 1) ≠ p := fun z => c (far_iff.mpr (.inl (es.mpr z)))
      omega
    have ny : k / ((p : Int) + 1) < p := by
      have : k / ((p : Int) + 1) ≠ p := fun z => c2 (far_iff.mpr (.inl (et.mpr z)))
      omega
    refine ⟨_, rfl, _, rfl, rfl, _, rfl, ?_⟩
    rw [dec_ii]
    refine ite2 (fun c3 => ?_) (fun c3 => ?_)
    · have fl : farB p (lstZ p) = true := far_iff.mpr (.inl rfl)
      obtain ⟨d0, d1, d2, d3⟩ := thr_in hp lp (Int.le_refl _) n0 n1 fl c
      exact ⟨_, rfl, _, rfl, p, rfl, pt, _, rfl, p, lstZ p, n, rfl, hp, lp, Int.le_refl _, n0, n1, fun H2 s2 => q _ _ (sA.trans s2) d0 d1 d3 (over_same n0 n1 k0 k1 c c2 (of_decide_eq_true c3))⟩
    have xy : n / ((p : Int) + 1) ≠ k / ((p : Int) + 1) := fun z => c3 (decide_eq_true z)
    have nd : ¬ (p : Int) ∣ n / ((p : Int) + 1) - k / ((p : Int) + 1) := fun d => xy (by
      have := small_eq d (by omega) (by omega)
      omega)
    refine ⟨_, rfl, _, rfl, _, _, rfl, rfl, _, rfl, _, rfl, _, _, rfl, rfl, _, rfl, _, p, rfl, hp, nd, fun r r0 r1 rd => ?_⟩
    refine ⟨_, _, rfl, rfl, .inr ⟨by omega, by omega⟩, _, rfl, _, _, rfl, rfl, _, rfl, _, _, rfl, rfl, _, rfl, _, _, rfl, rfl, (by show (0 : Int) < (p : Int); omega), ?_⟩
    obtain ⟨m, hm⟩ : ∃ m : Int, m = ((n % ((p : Int) + 1) - k % ((p : Int) + 1)) * r + n / ((p : Int) + 1) + k / ((p : Int) + 1)) % p := ⟨_, rfl⟩
    have m0 : 0 ≤ m := by rw [hm]; exact Int.emod_nonneg _ (by omega)
    have m1 : m < p := by rw [hm]; exact Int.emod_lt_of_pos _ (by omega)
    obtain ⟨b0, b1, b2, b3⟩ := over_two hp n0 n1 k0 k1 c c2 rd hm
    obtain ⟨d0, d1, d2, d3⟩ := thr_in hp b0 b1 n0 n1 b2 c
    refine ⟨_, rfl, _, rfl, _, rfl, _, _, rfl, rfl, _, _, rfl, rfl, .inl ⟨?_, ?_⟩, _, rfl, _, _, rfl, rfl, _, rfl, p, m * ((p : Int) + 1) + p, n, ?_, hp, b0, b1, n0, n1, fun H2 s2 => q _ _ (sA.trans s2) d0 d1 d3 b3⟩
    · show -(2 ^ 64) < ((n % ((p : Int) + 1) - k % ((p : Int) + 1)) * r + n / ((p : Int) + 1) + k / ((p : Int) + 1)) % p
      rw [← hm]; omega
    · show ((n % ((p : Int) + 1) - k % ((p : Int) + 1)) * r + n / ((p : Int) + 1) + k / ((p : Int) + 1)) % p < 2 ^ 64
      rw [← hm]; omega
    · rw [hm]
      rfl
end

end G0
namespace G0
open PySem PySem.Spec PyProof.Rows L2
section
variable {P : Program} {w : World} {K : PySem.W.Frag} {mg : Str → Option Value} {base : Heap}
def spBoth (K : PySem.W.Frag) : Sp := fun vs H Q _ => ∃ (p : Nat) (s t n : Int), vs = [.int (p : Int), .int s, .int t, .int n] ∧ Pr p ∧ (0 ≤ s ∧ s ≤ lstZ p) ∧ (0 ≤ t ∧ t ≤ lstZ p) ∧ (0 ≤ n ∧ n ≤ lstZ p) ∧ ∀ H', Same H H' → Q (.bl (liesB p s n && liesB p t n)) H'
theorem sc_law_both : FnScope ["p", "one", "other", "number"] ["p", "one", "other", "number"] (defScope s_law_both) :=
  ⟨rfl, rfl, rfl, by decide +kernel, rfl, by decide +kernel, by decide +kernel⟩
theorem ok_both (F : Fn K mg "_law_both" s_law_both) (Clies : Cal P w K mg base "lies" 4 ["p", "seat", "number"] (spLies K)) : Cal P w K mg base "_law_both" 5 ["p", "one", "other", "number"] (spBoth K) := by
  refine cal_of F sc_law_both
    (fun _ _ _ _ _ _ us hl => match us, hl with | [_, _, _, _], _ => rfl) ?_ ?_
  · rintro vs H Q E ⟨p, s, n, k, rfl, _⟩
    rfl
  rintro f cdv A outer s' H vs Q E free hr ⟨p, s, t, n, rfl, hp, hs, ht, hn, q⟩
  refine ⟨_, (pss_one (ps_ret (pe_and (pe_cmpR op_isBl (pe_cal Clies free (hr.mono (by decide)) (pa_cons (pv 0) (pa_cons (pv 1) (pa_cons (pv 3) pa_nil)))) pe_bl (nomark _)) (pe_one (pe_cmpR op_isBl (pe_cal Clies free (hr.mono (by decide)) (pa_cons (pv 0) (pa_cons (pv 2) (pa_cons (pv 3) pa_nil)))) pe_bl (nomark _)))))), ?_⟩
  refine ⟨_, rfl, _, rfl, _, rfl, p, s, n, rfl, hp, hs, hn, fun H1 s1 => ⟨_, _, rfl, rfl, _, rfl, ?_⟩⟩
  refine ite2 (fun c => ?_) (fun c => ?_)
  · have c' : liesB p s n = true := by simpa using c
    rw [c', Bool.true_and] at q
    refine ⟨_, rfl, _, rfl, _, rfl, p, t, n, rfl, hp, ht, hn, fun H2 s2 => ⟨_, _, rfl, rfl, ?_⟩⟩
    have := q _ (s1.trans s2)
    rwa [show decide (liesB p t n = true) = liesB p t n by simp]
  · have c' : liesB p s n = false := by simpa using c
    rw [c', Bool.false_and] at q
    exact q _ s1
/-! ### one look -/
def spRight (K : PySem.W.Frag) : Sp := fun vs H Q _ => ∃ (H0 : Hp) (s p : Addr) (ns : List Int) (n r : Nat), vs = [.ref s, .ref p, .int (r : Int)] ∧ Fd K H0 s p ns n H ∧ n < 10000000 ∧ Pr r ∧ ∀ H', Fd K H0 s p ns (n + 10) H' → Q (.bl true) H'
theorem next_ne {a m : Int} {c : Int} (a0 : 0 ≤ a) (a1 : a < m) (c0 : 0 < c) (c1 : c < m) : 0 ≤ (a + c) % m ∧ (a + c) % m < m ∧ (a + c) % m ≠ a := by
  refine ⟨Int.emod_nonneg _ (by omega), Int.emod_lt_of_pos _ (by omega), fun e => ?_⟩
  rcases Int.lt_or_le (a + c) m with h | h
  · rw [Int.emod_eq_of_lt (by omega) h] at e; omega
  · have : (a + c) % m = a + c - m := by
      rw [← Int.sub_emod_right, Int.emod_eq_of_lt (by omega) (by omega)]
    omega
theorem ints_at {ns : List Int} {i : Nat} {x : V} (h : (ns.map V.int)[i]? = some x) : ∃ k, ns[i]? = some k ∧ x = V.int k := by
  rw [List.getElem?_map] at h
  cases e : ns[i]? with
  | none => rw [e] at h; cases h
  | some k => rw [e] at h; exact ⟨k, rfl, (Option.some.inj h).symm⟩
theorem ints_in2 {a b : Int} {i : Nat} {x : V} (h : [V.int a, V.int b][i]? = some x) : x = .int a ∨ x = .int b := by
  match i, h with
  | 0, h => exact .inl (Option.some.inj h).symm
  | 1, h => exact .inr (Option.some.inj h).symm
  | i + 2, h => simp at h
theorem range_nd (m : Nat) : ((List.range m).map fun x : Nat => (x : Int)).Nodup := List.pairwise_map.mpr (List.Pairwise.imp (fun h e => h (by omega)) List.nodup_range)
theorem sc_law_right : FnScope ["script", "pot", "p", "many", "one", "other", "third", "number", "beside", "rival"] ["script", "pot", "p"] (defScope s_law_right) :=
  ⟨rfl, rfl, rfl, by decide +kernel, rfl, by decide +kernel, by decide +kernel⟩
theorem ok_right (F : Fn K mg "_law_right" s_law_right) (T : Bl51 mg) (C_take : Cal P w K mg base "_law_take" 2 ["script", "pot", "many"] (spTake K)) (C_number : Cal P w K mg base "_law_number" 3 ["script", "pot", "p"] (spNum K))
    (C_whole : Cal P w K mg base "_law_whole" 1 ["thing"] spWh) (C_both : Cal P w K mg base "_law_both" 5 ["p", "one", "other", "number"] (spBoth K)) (Clies : Cal P w K mg base "lies" 4 ["p", "seat", "number"] (spLies K))
    (Cshared : Cal P w K mg base "shared" 4 ["p", "one", "other"] (spShared K)) (Cholding : Cal P w K mg base "holding" 4 ["p", "one", "other"] (spHold K)) : Cal P w K mg base "_law_right" 6 ["script", "pot", "p"] (spRight K) := by
  refine cal_of F sc_law_right
    (fun _ _ _ _ _ _ us hl => match us, hl with | [_, _, _], _ => rfl) ?_ ?_
  · rintro vs H Q E ⟨H0, s, p, ns, n, r, rfl, _⟩
    rfl
  rintro f cdv A outer s' H vs Q E free hr ⟨H0, s, p, ns, n, r, rfl, D, nb, pr, q⟩
  refine ⟨_, (pss_cons (ps_set (i := 3) sc_law_right.nd rfl (Or.inl rfl) (pe_op op_add (pe_op op_add (pe_op op_mul (pv 2) (pv 2)) (pv 2)) pe_int))
    (pss_cons (ps_set (i := 4) sc_law_right.nd rfl (Or.inr rfl) (pe_cal C_number free (hr.mono (by decide)) (pa_cons (pv 0) (pa_cons (pv 1) (pa_cons (pv 2) pa_nil)))))
    (pss_cons (ps_set (i := 5) sc_law_right.nd rfl (Or.inr rfl) (pe_cal C_number free (hr.mono (by decide)) (pa_cons (pv 0) (pa_cons (pv 1) (pa_cons (pv 2) pa_nil)))))
    (pss_cons (ps_set (i := 6) sc_law_right.nd rfl (Or.inl rfl) (pe_cal C_number free (hr.mono (by decide)) (pa_cons (pv 0) (pa_cons (pv 1) (pa_cons (pv 2) pa_nil)))))
    (pss_cons (ps_if (pt_cmpR op_eq (pv 5) (pv 4) (nomark _))
    (pss_one (ps_set (i := 5) sc_law_right.nd rfl (Or.inr rfl) (pe_op op_mod (pe_op op_add (pv 4) pe_int) (pv 3))))
    pss_nil)
    (pss_cons (ps_if (pt_cmpR op_eq (pv 6) (pv 4) (nomark _))
    (pss_one (ps_set (i := 6) sc_law_right.nd rfl (Or.inl rfl) (pe_op op_mod (pe_op op_add (pe_op op_add (pv 4) pe_int) (pv 2)) (pv 3))))
    pss_nil)
    (pss_cons (ps_set (i := 7) sc_law_right.nd rfl (Or.inl rfl) (pe_cal Cholding free (hr.mono (by decide)) (pa_cons (pv 2) (pa_cons (pv 4) (pa_cons (pv 5) pa_nil)))))
    (pss_cons (ps_if (PW.pt (pw_or (pt_not (pt_val (pe_cal C_whole free (hr.mono (by decide)) (pa_cons (pv 7) pa_nil)))) (pw_or (pt_cmpR op_lt (pv 7) pe_int (nomark _)) (pw_or (pt_cmpR op_ge (pv 7) (pv 3) (nomark _)) (pw_or1 (pt_not (pt_val (pe_cal C_both free (hr.mono (by decide)) (pa_cons (pv 2) (pa_cons (pv 4) (pa_cons (pv 5) (pa_cons (pv 7) pa_nil))))))))))))
    (pss_one (ps_ret pe_bl))
    pss_nil)
    (pss_cons (ps_set (i := 8) sc_law_right.nd rfl (Or.inl rfl) (pe_cal Cholding free (hr.mono (by decide)) (pa_cons (pv 2) (pa_cons (pv 4) (pa_cons (pv 6) pa_nil)))))
    (pss_cons (ps_if (PW.pt (pw_or (pt_cmpR op_ne (pe_cal Cholding free (hr.mono (by decide)) (pa_cons (pv 2) (pa_cons (pv 5) (pa_cons (pv 4) pa_nil)))) (pv 7) (nomark _)) (pw_or1 (pt_cmpR op_ne (pe_cal Clies free (hr.mono (by decide)) (pa_cons (pv 2) (pa_cons (pv 6) (pa_cons (pv 7) pa_nil)))) (pe_cmpR op_eq (pv 8) (pv 7) (nomark _)) (nomark _)))))
    (pss_one (ps_ret pe_bl))
    pss_nil)
    (pss_cons (ps_if (PW.pt (pw_and (pt_cmpR op_ne (pv 8) (pv 7) (nomark _)) (pw_and1 (pt_cmpR op_ne (pe_cal Cshared free (hr.mono (by decide)) (pa_cons (pv 2) (pa_cons (pv 7) (pa_cons (pv 8) pa_nil)))) (pv 4) (nomark _)))))
    (pss_one (ps_ret pe_bl))
    pss_nil)
    (pss_cons (ps_for PassesOwn.never rfl (pi_tup (pe_tup (pa_cons (pe_cal C_take free (hr.mono (by decide)) (pa_cons (pv 0) (pa_cons (pv 1) (pa_cons (pv 3) pa_nil)))) (pa_cons (pv 8) pa_nil)))) (pg_name (i := 9) sc_law_right.nd rfl (Or.inl rfl))
    (pss_one (ps_if (PW.pt (pw_and (pt_cmpR op_ne (pv 9) (pv 7) (nomark _)) (pw_and1 (pt_val (pe_cal C_both free (hr.mono (by decide)) (pa_cons (pv 2) (pa_cons (pv 4) (pa_cons (pv 5) (pa_cons (pv 9) pa_nil)))))))))
    (pss_one (ps_ret pe_bl))
    pss_nil)))
    (pss_cons (ps_if (PW.pt (pw_and (pt_cmpR op_lt (pv 2) pe_int (nomark _)) (pw_and1 (pt_cmpR op_eq (pe_cal C_take free (hr.mono (by decide)) (pa_cons (pv 0) (pa_cons (pv 1) (pa_cons pe_int pa_nil)))) pe_int (nomark _)))))
    (pss_one (ps_ret (pe_cmpR (op_eqD (u64 hr)) (pe_lc (own := [("rival", 9)]) (g := gName 9)  (by rfl) sc_law_right.nd (pi_range1 (by rfl) T.range (pa_cons (pv 3) pa_nil)) (blkOk_by (N := ["script", "pot", "p", "many", "one", "other", "third", "number", "beside", "rival"]) (sc := defScope s_law_right) (by decide +kernel)) (fun _ _ _ _ _ => pg_name (i := 9) sc_law_right.nd rfl (Or.inl rfl)) (fun _ _ _ _ _ => pts_one (pt_val (pe_cal C_both free (hr.mono (by decide)) (pa_cons (pv 2) (pa_cons (pv 4) (pa_cons (pv 5) (pa_cons (pv 9) pa_nil))))))) (fun _ _ _ _ _ => (pv 9))) (pe_lst (pa_cons (pv 7) pa_nil)) (nomark _))))
    pss_nil)
    (pss_one (ps_ret (pe_cmpR op_eq (pe_cal Cholding free (hr.mono (by decide)) (pa_cons (pv 2) (pa_cons (pv 4) (pa_cons (pv 5) pa_nil)))) (pv 7) (nomark _))))))))))))))))), ?_⟩
-- [(0, 'script'), (1, 'pot'), (2, 'p'), (3, 'many'), (4, 'one'), (5, 'other'), (6, 'third'), (7, 'number'), (8, 'beside'), (9, 'rival')]
  have r2 := pr.two
  have rt := pr.top
  have e := lstZ_eq r
  have e0 := lstZ_pos r
  have e1 := pp_le rt
  have e2 : 4 ≤ (r : Int) * r := by
    have := Nat.mul_le_mul r2 r2
    have z : ((r * r : Nat) : Int) = (r : Int) * r := Int.natCast_mul _ _
    omega
  refine ⟨_, rfl, _, rfl, _, _, rfl, rfl, .inl ⟨by omega, by omega⟩, _, rfl, _, _, rfl, rfl, _, _, rfl, rfl, ?_⟩
  refine ⟨_, rfl, _, rfl, _, rfl, H0, s, p, ns, n, r, rfl, D, by omega, pr, fun one G1 o0 o1 D1 c1 => ?_⟩
  refine ⟨_, rfl, _, rfl, _, rfl, H0, s, p, ns, n + 2, r, rfl, D1, by omega, pr, fun oth G2 t0 t1 D2 c2 => ?_⟩
  refine ⟨_, rfl, _, rfl, _, rfl, H0, s, p, ns, n + 4, r, rfl, D2, by omega, pr, fun thi G3 h0 h1 D3 c3 => ?_⟩
  have m0 : 0 < (r : Int) * r + r + 1 := by omega
  refine ⟨_, rfl, _, rfl, rfl, _, rfl, ?_⟩
  rw [dec_ii]
  obtain ⟨nb0, nb1, nb2⟩ := next_ne (a := one) (m := (r : Int) * r + r + 1) (c := 1) o0 (by omega) (by decide) (by omega)
  obtain ⟨mb0, mb1, mb2⟩ := next_ne (a := one) (m := (r : Int) * r + r + 1) (c := 1 + r) o0 (by omega) (by omega) (by omega)
  rw [← Int.add_assoc] at mb0 mb1 mb2
  refine ite2 (fun ca => ?_) (fun ca => ?_)
  · refine ⟨_, rfl, _, _, rfl, rfl, _, rfl, _, _, rfl, rfl, m0, ?_⟩
    have u0 := nb0
    have u1 : (one + 1) % ((r : Int) * r + r + 1) ≤ lstZ r := by omega
    have un := nb2
    refine ⟨_, rfl, _, rfl, rfl, _, rfl, ?_⟩
    rw [dec_ii]
    refine ite2 (fun cb => ?_) (fun cb => ?_)
    · refine ⟨_, rfl, _, _, rfl, rfl, _, rfl, _, _, rfl, rfl, _, rfl, _, _, rfl, rfl, m0, ?_⟩
      have v0 := mb0
      have v1 : (one + 1 + r) % ((r : Int) * r + r + 1) ≤ lstZ r := by omega
      have vn := mb2
      refine ⟨_, rfl, _, rfl, _, rfl, r, one, ((one + 1) % ((r : Int) * r + r + 1)), rfl, pr, ⟨o0, o1⟩, ⟨u0, u1⟩, un.symm, fun w G4 s4 w0 w1 i1 i2 => ?_⟩
      have D4 := D3.same s4
      have la : ∀ t : Int, (0 ≤ t ∧ t ≤ lstZ r) → t ≠ w → (liesB r one t && liesB r (((one + 1) % ((r : Int) * r + r + 1))) t) = false := fun t ht ne => by
        cases h1 : liesB r one t with
        | false => rfl
        | true => cases h2 : liesB r (((one + 1) % ((r : Int) * r + r + 1))) t with
          | false => rfl
          | true => exact absurd (two_one pr o0 o1 u0 u1 ht.1 ht.2 w0 w1 un.symm ((lies_iff pr o0 o1 ht.1 ht.2).mp h1) i1 ((lies_iff pr u0 u1 ht.1 ht.2).mp h2) i2) ne
      have ls1 : liesB r one w = true := (lies_iff pr o0 o1 w0 w1).mpr i1
      have ls2 : liesB r (((one + 1) % ((r : Int) * r + r + 1))) w = true := (lies_iff pr u0 u1 w0 w1).mpr i2
      refine ⟨_, rfl, w, rfl, _, rfl, ?_⟩
      refine iteF' rfl ?_
      refine ⟨_, rfl, _, _, rfl, rfl, _, rfl, ?_⟩
      refine iteF' (by simp; omega) ?_
      refine ⟨_, rfl, _, rfl, _, _, rfl, rfl, _, rfl, ?_⟩
      refine iteF' (by simp; omega) ?_
      refine ⟨_, rfl, _, rfl, _, rfl, _, rfl, r, one, ((one + 1) % ((r : Int) * r + r + 1)), w, rfl, pr, ⟨o0, o1⟩, ⟨u0, u1⟩, ⟨w0, w1⟩, fun G5 s5 => ⟨_, rfl, ?_⟩⟩
      refine iteF' (by rw [ls1, ls2]; rfl) ?_
      have D5 := D4.same s5
      refine ⟨_, rfl, _, rfl, _, rfl, r, one, ((one + 1 + r) % ((r : Int) * r + r + 1)), rfl, pr, ⟨o0, o1⟩, ⟨v0, v1⟩, vn.symm, fun x G6 s6 x0 x1 k1 k2 => ?_⟩
      refine ⟨_, rfl, _, rfl, _, rfl, r, ((one + 1) % ((r : Int) * r + r + 1)), one, rfl, pr, ⟨u0, u1⟩, ⟨o0, o1⟩, un, fun w2 G7 s7 y0 y1 j1 j2 => ?_⟩
      have ew : w2 = w := two_one pr o0 o1 u0 u1 y0 y1 w0 w1 un.symm j2 i1 j1 i2
      subst ew
      refine ⟨_, rfl, rfl, _, rfl, ?_⟩
      refine iteF' (by simp) ?_
      refine ⟨_, rfl, _, rfl, _, rfl, r, ((one + 1 + r) % ((r : Int) * r + r + 1)), w2, rfl, pr, ⟨v0, v1⟩, ⟨w0, w1⟩, fun G8 s8 => ?_⟩
      have ex : liesB r (((one + 1 + r) % ((r : Int) * r + r + 1))) w2 = decide (x = w2) := by
        cases h : liesB r (((one + 1 + r) % ((r : Int) * r + r + 1))) w2 with
        | true => rw [decide_eq_true (two_one pr o0 o1 v0 v1 x0 x1 w0 w1 vn.symm k1 i1 k2 ((lies_iff pr v0 v1 w0 w1).mp h))]
        | false =>
          refine (decide_eq_false fun z => ?_).symm
          rw [z] at k2
          rw [(lies_iff pr v0 v1 w0 w1).mpr k2] at h
          cases h
      refine ⟨_, rfl, _, rfl, rfl, rfl, _, rfl, ?_⟩
      rw [dec_ii, ← ex]
      refine iteF' (by simp) ?_
      have D8 := ((D5.same s6).same s7).same s8
      refine ⟨_, rfl, _, rfl, rfl, _, rfl, ?_⟩
      rw [dec_ii]
      refine ite2 (fun cz => ?_) (fun cz => ?_)
      · have nz : x ≠ w2 := by simpa using cz
        refine ⟨_, rfl, _, rfl, _, rfl, r, w2, x, rfl, pr, ⟨w0, w1⟩, ⟨x0, x1⟩, nz.symm, fun z G9 s9 z0 z1 l1 l2 => ?_⟩
        have ez : z = one := InS.one pr z0 z1 o0 o1 w0 w1 x0 x1 nz.symm l1 l2 i1 k1
        refine ⟨_, rfl, rfl, _, rfl, ?_⟩
        refine iteF' (by rw [ez]; simp) ?_
        have DZ := D8.same s9
        refine ⟨_, rfl, _, rfl, _, rfl, H0, s, p, ns, n + 6, (r : Int) * r + r + 1, rfl, DZ, by omega, by omega, wideP (by omega) (by omega), fun d y d0 d1 Y => ?_⟩
        have D9 := DZ.put Y
        refine ⟨_, rfl, by show 2 ≤ sizeLine; decide, fun t ht => ?_⟩
        have DA := D9.same (same_upd (o := .tup [.int d, .int x]) ht)
        refine ⟨t, rfl, ⟨_, SqT.of upd_same⟩, ?_⟩
        refine for_tup (K := K) (a := t) (xs := [.int d, .int x]) (fun i σ G => (∃ z : Option V, σ = [some (V.ref s), some (V.ref p), some (V.int (r : Int)), some (V.int ((r : Int) * r + r + 1)), some (V.int one), some (V.int (((one + 1) % ((r : Int) * r + r + 1)))), some (V.int (((one + 1 + r) % ((r : Int) * r + r + 1)))), some (V.int w2), some (V.int x), z]) ∧ Fd K H0 s p ns (n + 7) G ∧ SqT K G t [.int d, .int x]) ⟨⟨_, rfl⟩, DA, SqT.of upd_same⟩ (fun i σ G _ h => h.2.2) ?_ ?_
        · rintro i v σ G hv ⟨⟨z, rfl⟩, DG, qG⟩
          obtain ⟨v', rfl, b0, b1⟩ : ∃ v' : Int, v = .int v' ∧ 0 ≤ v' ∧ v' ≤ lstZ r := by
            rcases ints_in2 hv with h | h
            · exact ⟨d, h, d0, by omega⟩
            · exact ⟨x, h, x0, x1⟩
          refine ⟨_, rfl, _, rfl, rfl, _, rfl, ?_⟩
          rw [dec_ii]
          refine ite2 (fun c => ?_) (fun c => ?_)
          · have ne : v' ≠ w2 := by simpa using c
            refine ⟨_, rfl, _, rfl, _, rfl, _, rfl, r, one, ((one + 1) % ((r : Int) * r + r + 1)), v', rfl, pr, ⟨o0, o1⟩, ⟨u0, u1⟩, ⟨b0, b1⟩, fun GB sB => ⟨_, rfl, ?_⟩⟩
            rw [la v' ⟨b0, b1⟩ ne]
            exact iteF' rfl ⟨⟨_, rfl⟩, DG.same sB, sqt_same sB qG⟩
          · exact iteF' rfl ⟨⟨_, rfl⟩, DG, qG⟩
        rintro σ G ⟨⟨z, rfl⟩, DG, _⟩
        have fin : ∀ G', Fd K H0 s p ns (n + 8) G' → ∀ u : Int, u = w2 → Q (.bl (decide (u = w2))) G' := fun G' DG' u eu => by
          rw [decide_eq_true eu]
          exact q _ (DG'.mono (by omega))
        refine ⟨_, rfl, _, _, rfl, rfl, _, rfl, ?_⟩
        refine ite2 (fun c => ?_) (fun c => ?_)
        · have rs : r < 8 := by have := of_decide_eq_true c; omega
          have rr : (r : Int) * r ≤ 49 := by
            have := Nat.mul_le_mul (show r ≤ 7 by omega) (show r ≤ 7 by omega)
            have z : ((r * r : Nat) : Int) = (r : Int) * r := Int.natCast_mul _ _
            omega
          refine ⟨_, rfl, _, rfl, H0, s, p, ns, n + 7, 3, rfl, DG, by omega, by decide, by decide, fun e y e0 e1 Y' => ⟨rfl, _, rfl, ?_⟩⟩
          have DB := DG.put Y'
          rw [dec_ii]
          refine ite2 (fun c2 => ?_) (fun c2 => ?_)
          · obtain ⟨GC, hGC⟩ : ∃ GC, GC = upd G p (.lst y) := ⟨_, rfl⟩
            rw [← hGC] at DB ⊢
            have mz : ((((r : Int) * r + r + 1).toNat : Nat) : Int) = (r : Int) * r + r + 1 := by omega
            refine ⟨_, rfl, _, rfl, by omega, by omega, fun J hJ => ?_⟩
            refine lc_range (lo := 0) (n := ((r : Int) * r + r + 1).toNat) (fun i G' => Same GC G' ∧ G' J = some (.lst ((((List.range i).map fun x : Nat => (x : Int)).filter fun v => liesB r one v && liesB r (((one + 1) % ((r : Int) * r + r + 1))) v).map V.int))) ⟨same_upd hJ, upd_same⟩ ?_ ?_
            · rintro i G' hi ⟨sG, kJ⟩
              have b0 : (0 : Int) ≤ 0 + (i : Int) := by omega
              have b1 : 0 + (i : Int) ≤ lstZ r := by omega
              refine ⟨rfl, _, rfl, _, rfl, _, rfl, _, rfl, r, one, ((one + 1) % ((r : Int) * r + r + 1)), 0 + (i : Int), rfl, pr, ⟨o0, o1⟩, ⟨u0, u1⟩, ⟨b0, b1⟩, fun GD sD => ⟨_, rfl, ?_⟩⟩
              have kD := sD _ _ kJ
              rw [Int.zero_add]
              refine ite2 (fun c3 => ?_) (fun c3 => ?_)
              · refine ⟨_, rfl, _, kD, ?_, fun b o eb => ?_, ?_⟩
                · rw [List.length_map]
                  refine Nat.lt_of_le_of_lt (List.length_filter_le _ _) (Nat.lt_of_lt_of_le (show _ < 100 by rw [List.length_map, List.length_range]; omega) (by decide))
                · rw [upd_ne (ne_of_none eb hJ)]
                  exact sD _ _ (sG _ _ eb)
                · rw [upd_same, List.range_succ, List.map_append, List.filter_append, List.map_append]
                  simp only [List.map_cons, List.map_nil, List.filter_cons, c3, if_true, List.filter_nil]
              · refine ⟨sG.trans sD, ?_⟩
                rw [kD, List.range_succ, List.map_append, List.filter_append]
                simp only [List.map_cons, List.map_nil, List.filter_cons, if_neg c3, List.filter_nil, List.append_nil]
            rintro G' ⟨sG, kJ⟩
            have eu : ((List.range ((r : Int) * r + r + 1).toNat).map fun x : Nat => (x : Int)).filter (fun v => liesB r one v && liesB r (((one + 1) % ((r : Int) * r + r + 1))) v) = [w2] := filt_one (range_nd _) (List.mem_map.mpr ⟨w2.toNat, List.mem_range.mpr (by omega), by omega⟩) (by rw [ls1, ls2]; rfl) fun v hv lv => by
              obtain ⟨j, hj, rfl⟩ := List.mem_map.mp hv
              have hj := List.mem_range.mp hj
              by_cases ej : (j : Int) = w2
              · exact ej
              · rw [la (j : Int) ⟨by omega, by omega⟩ ej] at lv
                cases lv
            rw [eu] at kJ
            refine ⟨_, rfl, by show 1 ≤ sizeLine; decide, fun l hl => ?_⟩
            refine ⟨_, _, dp_ints ((same_upd hl) _ _ kJ), dp_ints (ns := [w2]) upd_same, shaped_ints _, shaped_ints _, ?_⟩
            rw [show PyData.eqv (.list ([w2].map PyData.int)) (.list ([w2].map PyData.int)) = true by simp [PyData.eqv, PyData.eqvAll]]
            exact q _ (((DB.same sG).same (same_upd hl)).mono (by omega))
          · skip
            refine ⟨_, rfl, _, rfl, _, rfl, r, one, ((one + 1) % ((r : Int) * r + r + 1)), rfl, pr, ⟨o0, o1⟩, ⟨u0, u1⟩, un.symm, fun u GC sC y0 y1 l1 l2 => ⟨_, rfl, rfl, ?_⟩⟩
            rw [dec_ii]
            exact fin _ (DB.same sC) u (two_one pr o0 o1 u0 u1 y0 y1 w0 w1 un.symm l1 i1 l2 i2)
        · refine iteF' rfl ?_
          have DB := DG.mono (show n + 7 ≤ n + 8 by omega)
          refine ⟨_, rfl, _, rfl, _, rfl, r, one, ((one + 1) % ((r : Int) * r + r + 1)), rfl, pr, ⟨o0, o1⟩, ⟨u0, u1⟩, un.symm, fun u GC sC y0 y1 l1 l2 => ⟨_, rfl, rfl, ?_⟩⟩
          rw [dec_ii]
          exact fin _ (DB.same sC) u (two_one pr o0 o1 u0 u1 y0 y1 w0 w1 un.symm l1 i1 l2 i2)
      · refine iteF' rfl ?_
        refine ⟨_, rfl, _, rfl, _, rfl, H0, s, p, ns, n + 6, (r : Int) * r + r + 1, rfl, D8, by omega, by omega, wideP (by omega) (by omega), fun d y d0 d1 Y => ?_⟩
        have D9 := D8.put Y
        refine ⟨_, rfl, by show 2 ≤ sizeLine; decide, fun t ht => ?_⟩
        have DA := D9.same (same_upd (o := .tup [.int d, .int x]) ht)
        refine ⟨t, rfl, ⟨_, SqT.of upd_same⟩, ?_⟩
        refine for_tup (K := K) (a := t) (xs := [.int d, .int x]) (fun i σ G => (∃ z : Option V, σ = [some (V.ref s), some (V.ref p), some (V.int (r : Int)), some (V.int ((r : Int) * r + r + 1)), some (V.int one), some (V.int (((one + 1) % ((r : Int) * r + r + 1)))), some (V.int (((one + 1 + r) % ((r : Int) * r + r + 1)))), some (V.int w2), some (V.int x), z]) ∧ Fd K H0 s p ns (n + 7) G ∧ SqT K G t [.int d, .int x]) ⟨⟨_, rfl⟩, DA, SqT.of upd_same⟩ (fun i σ G _ h => h.2.2) ?_ ?_
        · rintro i v σ G hv ⟨⟨z, rfl⟩, DG, qG⟩
          obtain ⟨v', rfl, b0, b1⟩ : ∃ v' : Int, v = .int v' ∧ 0 ≤ v' ∧ v' ≤ lstZ r := by
            rcases ints_in2 hv with h | h
            · exact ⟨d, h, d0, by omega⟩
            · exact ⟨x, h, x0, x1⟩
          refine ⟨_, rfl, _, rfl, rfl, _, rfl, ?_⟩
          rw [dec_ii]
          refine ite2 (fun c => ?_) (fun c => ?_)
          · have ne : v' ≠ w2 := by simpa using c
            refine ⟨_, rfl, _, rfl, _, rfl, _, rfl, r, one, ((one + 1) % ((r : Int) * r + r + 1)), v', rfl, pr, ⟨o0, o1⟩, ⟨u0, u1⟩, ⟨b0, b1⟩, fun GB sB => ⟨_, rfl, ?_⟩⟩
            rw [la v' ⟨b0, b1⟩ ne]
            exact iteF' rfl ⟨⟨_, rfl⟩, DG.same sB, sqt_same sB qG⟩
          · exact iteF' rfl ⟨⟨_, rfl⟩, DG, qG⟩
        rintro σ G ⟨⟨z, rfl⟩, DG, _⟩
        have fin : ∀ G', Fd K H0 s p ns (n + 8) G' → ∀ u : Int, u = w2 → Q (.bl (decide (u = w2))) G' := fun G' DG' u eu => by
          rw [decide_eq_true eu]
          exact q _ (DG'.mono (by omega))
        refine ⟨_, rfl, _, _, rfl, rfl, _, rfl, ?_⟩
        refine ite2 (fun c => ?_) (fun c => ?_)
        · have rs : r < 8 := by have := of_decide_eq_true c; omega
          have rr : (r : Int) * r ≤ 49 := by
            have := Nat.mul_le_mul (show r ≤ 7 by omega) (show r ≤ 7 by omega)
            have z : ((r * r : Nat) : Int) = (r : Int) * r := Int.natCast_mul _ _
            omega
          refine ⟨_, rfl, _, rfl, H0, s, p, ns, n + 7, 3, rfl, DG, by omega, by decide, by decide, fun e y e0 e1 Y' => ⟨rfl, _, rfl, ?_⟩⟩
          have DB := DG.put Y'
          rw [dec_ii]
          refine ite2 (fun c2 => ?_) (fun c2 => ?_)
          · obtain ⟨GC, hGC⟩ : ∃ GC, GC = upd G p (.lst y) := ⟨_, rfl⟩
            rw [← hGC] at DB ⊢
            have mz : ((((r : Int) * r + r + 1).toNat : Nat) : Int) = (r : Int) * r + r + 1 := by omega
            refine ⟨_, rfl, _, rfl, by omega, by omega, fun J hJ => ?_⟩
            refine lc_range (lo := 0) (n := ((r : Int) * r + r + 1).toNat) (fun i G' => Same GC G' ∧ G' J = some (.lst ((((List.range i).map fun x : Nat => (x : Int)).filter fun v => liesB r one v && liesB r (((one + 1) % ((r : Int) * r + r + 1))) v).map V.int))) ⟨same_upd hJ, upd_same⟩ ?_ ?_
            · rintro i G' hi ⟨sG, kJ⟩
              have b0 : (0 : Int) ≤ 0 + (i : Int) := by omega
              have b1 : 0 + (i : Int) ≤ lstZ r := by omega
              refine ⟨rfl, _, rfl, _, rfl, _, rfl, _, rfl, r, one, ((one + 1) % ((r : Int) * r + r + 1)), 0 + (i : Int), rfl, pr, ⟨o0, o1⟩, ⟨u0, u1⟩, ⟨b0, b1⟩, fun GD sD => ⟨_, rfl, ?_⟩⟩
              have kD := sD _ _ kJ
              rw [Int.zero_add]
              refine ite2 (fun c3 => ?_) (fun c3 => ?_)
              · refine ⟨_, rfl, _, kD, ?_, fun b o eb => ?_, ?_⟩
                · rw [List.length_map]
                  refine Nat.lt_of_le_of_lt (List.length_filter_le _ _) (Nat.lt_of_lt_of_le (show _ < 100 by rw [List.length_map, List.length_range]; omega) (by decide))
                · rw [upd_ne (ne_of_none eb hJ)]
                  exact sD _ _ (sG _ _ eb)
                · rw [upd_same, List.range_succ, List.map_append, List.filter_append, List.map_append]
                  simp only [List.map_cons, List.map_nil, List.filter_cons, c3, if_true, List.filter_nil]
              · refine ⟨sG.trans sD, ?_⟩
                rw [kD, List.range_succ, List.map_append, List.filter_append]
                simp only [List.map_cons, List.map_nil, List.filter_cons, if_neg c3, List.filter_nil, List.append_nil]
            rintro G' ⟨sG, kJ⟩
            have eu : ((List.range ((r : Int) * r + r + 1).toNat).map fun x : Nat => (x : Int)).filter (fun v => liesB r one v && liesB r (((one + 1) % ((r : Int) * r + r + 1))) v) = [w2] := filt_one (range_nd _) (List.mem_map.mpr ⟨w2.toNat, List.mem_range.mpr (by omega), by omega⟩) (by rw [ls1, ls2]; rfl) fun v hv lv => by
              obtain ⟨j, hj, rfl⟩ := List.mem_map.mp hv
              have hj := List.mem_range.mp hj
              by_cases ej : (j : Int) = w2
              · exact ej
              · rw [la (j : Int) ⟨by omega, by omega⟩ ej] at lv
                cases lv
            rw [eu] at kJ
            refine ⟨_, rfl, by show 1 ≤ sizeLine; decide, fun l hl => ?_⟩
            refine ⟨_, _, dp_ints ((same_upd hl) _ _ kJ), dp_ints (ns := [w2]) upd_same, shaped_ints _, shaped_ints _, ?_⟩
            rw [show PyData.eqv (.list ([w2].map PyData.int)) (.list ([w2].map PyData.int)) = true by simp [PyData.eqv, PyData.eqvAll]]
            exact q _ (((DB.same sG).same (same_upd hl)).mono (by omega))
          · skip
            refine ⟨_, rfl, _, rfl, _, rfl, r, one, ((one + 1) % ((r : Int) * r + r + 1)), rfl, pr, ⟨o0, o1⟩, ⟨u0, u1⟩, un.symm, fun u GC sC y0 y1 l1 l2 => ⟨_, rfl, rfl, ?_⟩⟩
            rw [dec_ii]
            exact fin _ (DB.same sC) u (two_one pr o0 o1 u0 u1 y0 y1 w0 w1 un.symm l1 i1 l2 i2)
        · refine iteF' rfl ?_
          have DB := DG.mono (show n + 7 ≤ n + 8 by omega)
          refine ⟨_, rfl, _, rfl, _, rfl, r, one, ((one + 1) % ((r : Int) * r + r + 1)), rfl, pr, ⟨o0, o1⟩, ⟨u0, u1⟩, un.symm, fun u GC sC y0 y1 l1 l2 => ⟨_, rfl, rfl, ?_⟩⟩
          rw [dec_ii]
          exact fin _ (DB.same sC) u (two_one pr o0 o1 u0 u1 y0 y1 w0 w1 un.symm l1 i1 l2 i2)
    · have v0 := h0
      have v1 := h1
      have vn : thi ≠ one := by simpa using cb
      refine ⟨_, rfl, _, rfl, _, rfl, r, one, ((one + 1) % ((r : Int) * r + r + 1)), rfl, pr, ⟨o0, o1⟩, ⟨u0, u1⟩, un.symm, fun w G4 s4 w0 w1 i1 i2 => ?_⟩
      have D4 := D3.same s4
      have la : ∀ t : Int, (0 ≤ t ∧ t ≤ lstZ r) → t ≠ w → (liesB r one t && liesB r (((one + 1) % ((r : Int) * r + r + 1))) t) = false := fun t ht ne => by
        cases h1 : liesB r one t with
        | false => rfl
        | true => cases h2 : liesB r (((one + 1) % ((r : Int) * r + r + 1))) t with
          | false => rfl
          | true => exact absurd (two_one pr o0 o1 u0 u1 ht.1 ht.2 w0 w1 un.symm ((lies_iff pr o0 o1 ht.1 ht.2).mp h1) i1 ((lies_iff pr u0 u1 ht.1 ht.2).mp h2) i2) ne
      have ls1 : liesB r one w = true := (lies_iff pr o0 o1 w0 w1).mpr i1
      have ls2 : liesB r (((one + 1) % ((r : Int) * r + r + 1))) w = true := (lies_iff pr u0 u1 w0 w1).mpr i2
      refine ⟨_, rfl, w, rfl, _, rfl, ?_⟩
      refine iteF' rfl ?_
      refine ⟨_, rfl, _, _, rfl, rfl, _, rfl, ?_⟩
      refine iteF' (by simp; omega) ?_
      refine ⟨_, rfl, _, rfl, _, _, rfl, rfl, _, rfl, ?_⟩
      refine iteF' (by simp; omega) ?_
      refine ⟨_, rfl, _, rfl, _, rfl, _, rfl, r, one, ((one + 1) % ((r : Int) * r + r + 1)), w, rfl, pr, ⟨o0, o1⟩, ⟨u0, u1⟩, ⟨w0, w1⟩, fun G5 s5 => ⟨_, rfl, ?_⟩⟩
      refine iteF' (by rw [ls1, ls2]; rfl) ?_
      have D5 := D4.same s5
      refine ⟨_, rfl, _, rfl, _, rfl, r, one, thi, rfl, pr, ⟨o0, o1⟩, ⟨v0, v1⟩, vn.symm, fun x G6 s6 x0 x1 k1 k2 => ?_⟩
      refine ⟨_, rfl, _, rfl, _, rfl, r, ((one + 1) % ((r : Int) * r + r + 1)), one, rfl, pr, ⟨u0, u1⟩, ⟨o0, o1⟩, un, fun w2 G7 s7 y0 y1 j1 j2 => ?_⟩
      have ew : w2 = w := two_one pr o0 o1 u0 u1 y0 y1 w0 w1 un.symm j2 i1 j1 i2
      subst ew
      refine ⟨_, rfl, rfl, _, rfl, ?_⟩
      refine iteF' (by simp) ?_
      refine ⟨_, rfl, _, rfl, _, rfl, r, thi, w2, rfl, pr, ⟨v0, v1⟩, ⟨w0, w1⟩, fun G8 s8 => ?_⟩
      have ex : liesB r (thi) w2 = decide (x = w2) := by
        cases h : liesB r (thi) w2 with
        | true => rw [decide_eq_true (two_one pr o0 o1 v0 v1 x0 x1 w0 w1 vn.symm k1 i1 k2 ((lies_iff pr v0 v1 w0 w1).mp h))]
        | false =>
          refine (decide_eq_false fun z => ?_).symm
          rw [z] at k2
          rw [(lies_iff pr v0 v1 w0 w1).mpr k2] at h
          cases h
      refine ⟨_, rfl, _, rfl, rfl, rfl, _, rfl, ?_⟩
      rw [dec_ii, ← ex]
      refine iteF' (by simp) ?_
      have D8 := ((D5.same s6).same s7).same s8
      refine ⟨_, rfl, _, rfl, rfl, _, rfl, ?_⟩
      rw [dec_ii]
      refine ite2 (fun cz => ?_) (fun cz => ?_)
      · have nz : x ≠ w2 := by simpa using cz
        refine ⟨_, rfl, _, rfl, _, rfl, r, w2, x, rfl, pr, ⟨w0, w1⟩, ⟨x0, x1⟩, nz.symm, fun z G9 s9 z0 z1 l1 l2 => ?_⟩
        have ez : z = one := InS.one pr z0 z1 o0 o1 w0 w1 x0 x1 nz.symm l1 l2 i1 k1
        refine ⟨_, rfl, rfl, _, rfl, ?_⟩
        refine iteF' (by rw [ez]; simp) ?_
        have DZ := D8.same s9
        refine ⟨_, rfl, _, rfl, _, rfl, H0, s, p, ns, n + 6, (r : Int) * r + r + 1, rfl, DZ, by omega, by omega, wideP (by omega) (by omega), fun d y d0 d1 Y => ?_⟩
        have D9 := DZ.put Y
        refine ⟨_, rfl, by show 2 ≤ sizeLine; decide, fun t ht => ?_⟩
        have DA := D9.same (same_upd (o := .tup [.int d, .int x]) ht)
        refine ⟨t, rfl, ⟨_, SqT.of upd_same⟩, ?_⟩
        refine for_tup (K := K) (a := t) (xs := [.int d, .int x]) (fun i σ G => (∃ z : Option V, σ = [some (V.ref s), some (V.ref p), some (V.int (r : Int)), some (V.int ((r : Int) * r + r + 1)), some (V.int one), some (V.int (((one + 1) % ((r : Int) * r + r + 1)))), some (V.int (thi)), some (V.int w2), some (V.int x), z]) ∧ Fd K H0 s p ns (n + 7) G ∧ SqT K G t [.int d, .int x]) ⟨⟨_, rfl⟩, DA, SqT.of upd_same⟩ (fun i σ G _ h => h.2.2) ?_ ?_
        · rintro i v σ G hv ⟨⟨z, rfl⟩, DG, qG⟩
          obtain ⟨v', rfl, b0, b1⟩ : ∃ v' : Int, v = .int v' ∧ 0 ≤ v' ∧ v' ≤ lstZ r := by
            rcases ints_in2 hv with h | h
            · exact ⟨d, h, d0, by omega⟩
            · exact ⟨x, h, x0, x1⟩
          refine ⟨_, rfl, _, rfl, rfl, _, rfl, ?_⟩
          rw [dec_ii]
          refine ite2 (fun c => ?_) (fun c => ?_)
          · have ne : v' ≠ w2 := by simpa using c
            refine ⟨_, rfl, _, rfl, _, rfl, _, rfl, r, one, ((one + 1) % ((r : Int) * r + r + 1)), v', rfl, pr, ⟨o0, o1⟩, ⟨u0, u1⟩, ⟨b0, b1⟩, fun GB sB => ⟨_, rfl, ?_⟩⟩
            rw [la v' ⟨b0, b1⟩ ne]
            exact iteF' rfl ⟨⟨_, rfl⟩, DG.same sB, sqt_same sB qG⟩
          · exact iteF' rfl ⟨⟨_, rfl⟩, DG, qG⟩
        rintro σ G ⟨⟨z, rfl⟩, DG, _⟩
        have fin : ∀ G', Fd K H0 s p ns (n + 8) G' → ∀ u : Int, u = w2 → Q (.bl (decide (u = w2))) G' := fun G' DG' u eu => by
          rw [decide_eq_true eu]
          exact q _ (DG'.mono (by omega))
        refine ⟨_, rfl, _, _, rfl, rfl, _, rfl, ?_⟩
        refine ite2 (fun c => ?_) (fun c => ?_)
        · have rs : r < 8 := by have := of_decide_eq_true c; omega
          have rr : (r : Int) * r ≤ 49 := by
            have := Nat.mul_le_mul (show r ≤ 7 by omega) (show r ≤ 7 by omega)
            have z : ((r * r : Nat) : Int) = (r : Int) * r := Int.natCast_mul _ _
            omega
          refine ⟨_, rfl, _, rfl, H0, s, p, ns, n + 7, 3, rfl, DG, by omega, by decide, by decide, fun e y e0 e1 Y' => ⟨rfl, _, rfl, ?_⟩⟩
          have DB := DG.put Y'
          rw [dec_ii]
          refine ite2 (fun c2 => ?_) (fun c2 => ?_)
          · obtain ⟨GC, hGC⟩ : ∃ GC, GC = upd G p (.lst y) := ⟨_, rfl⟩
            rw [← hGC] at DB ⊢
            have mz : ((((r : Int) * r + r + 1).toNat : Nat) : Int) = (r : Int) * r + r + 1 := by omega
            refine ⟨_, rfl, _, rfl, by omega, by omega, fun J hJ => ?_⟩
            refine lc_range (lo := 0) (n := ((r : Int) * r + r + 1).toNat) (fun i G' => Same GC G' ∧ G' J = some (.lst ((((List.range i).map fun x : Nat => (x : Int)).filter fun v => liesB r one v && liesB r (((one + 1) % ((r : Int) * r + r + 1))) v).map V.int))) ⟨same_upd hJ, upd_same⟩ ?_ ?_
            · rintro i G' hi ⟨sG, kJ⟩
              have b0 : (0 : Int) ≤ 0 + (i : Int) := by omega
              have b1 : 0 + (i : Int) ≤ lstZ r := by omega
              refine ⟨rfl, _, rfl, _, rfl, _, rfl, _, rfl, r, one, ((one + 1) % ((r : Int) * r + r + 1)), 0 + (i : Int), rfl, pr, ⟨o0, o1⟩, ⟨u0, u1⟩, ⟨b0, b1⟩, fun GD sD => ⟨_, rfl, ?_⟩⟩
              have kD := sD _ _ kJ
              rw [Int.zero_add]
              refine ite2 (fun c3 => ?_) (fun c3 => ?_)
              · refine ⟨_, rfl, _, kD, ?_, fun b o eb => ?_, ?_⟩
                · rw [List.length_map]
                  refine Nat.lt_of_le_of_lt (List.length_filter_le _ _) (Nat.lt_of_lt_of_le (show _ < 100 by rw [List.length_map, List.length_range]; omega) (by decide))
                · rw [upd_ne (ne_of_none eb hJ)]
                  exact sD _ _ (sG _ _ eb)
                · rw [upd_same, List.range_succ, List.map_append, List.filter_append, List.map_append]
                  simp only [List.map_cons, List.map_nil, List.filter_cons, c3, if_true, List.filter_nil]
              · refine ⟨sG.trans sD, ?_⟩
                rw [kD, List.range_succ, List.map_append, List.filter_append]
                simp only [List.map_cons, List.map_nil, List.filter_cons, if_neg c3, List.filter_nil, List.append_nil]
            rintro G' ⟨sG, kJ⟩
            have eu : ((List.range ((r : Int) * r + r + 1).toNat).map fun x : Nat => (x : Int)).filter (fun v => liesB r one v && liesB r (((one + 1) % ((r : Int) * r + r + 1))) v) = [w2] := filt_one (range_nd _) (List.mem_map.mpr ⟨w2.toNat, List.mem_range.mpr (by omega), by omega⟩) (by rw [ls1, ls2]; rfl) fun v hv lv => by
              obtain ⟨j, hj, rfl⟩ := List.mem_map.mp hv
              have hj := List.mem_range.mp hj
              by_cases ej : (j : Int) = w2
              · exact ej
              · rw [la (j : Int) ⟨by omega, by omega⟩ ej] at lv
                cases lv
            rw [eu] at kJ
            refine ⟨_, rfl, by show 1 ≤ sizeLine; decide, fun l hl => ?_⟩
            refine ⟨_, _, dp_ints ((same_upd hl) _ _ kJ), dp_ints (ns := [w2]) upd_same, shaped_ints _, shaped_ints _, ?_⟩
            rw [show PyData.eqv (.list ([w2].map PyData.int)) (.list ([w2].map PyData.int)) = true by simp [PyData.eqv, PyData.eqvAll]]
            exact q _ (((DB.same sG).same (same_upd hl)).mono (by omega))
          · skip
            refine ⟨_, rfl, _, rfl, _, rfl, r, one, ((one + 1) % ((r : Int) * r + r + 1)), rfl, pr, ⟨o0, o1⟩, ⟨u0, u1⟩, un.symm, fun u GC sC y0 y1 l1 l2 => ⟨_, rfl, rfl, ?_⟩⟩
            rw [dec_ii]
            exact fin _ (DB.same sC) u (two_one pr o0 o1 u0 u1 y0 y1 w0 w1 un.symm l1 i1 l2 i2)
        · refine iteF' rfl ?_
          have DB := DG.mono (show n + 7 ≤ n + 8 by omega)
          refine ⟨_, rfl, _, rfl, _, rfl, r, one, ((one + 1) % ((r : Int) * r + r + 1)), rfl, pr, ⟨o0, o1⟩, ⟨u0, u1⟩, un.symm, fun u GC sC y0 y1 l1 l2 => ⟨_, rfl, rfl, ?_⟩⟩
          rw [dec_ii]
          exact fin _ (DB.same sC) u (two_one pr o0 o1 u0 u1 y0 y1 w0 w1 un.symm l1 i1 l2 i2)
      · refine iteF' rfl ?_
        refine ⟨_, rfl, _, rfl, _, rfl, H0, s, p, ns, n + 6, (r : Int) * r + r + 1, rfl, D8, by omega, by omega, wideP (by omega) (by omega), fun d y d0 d1 Y => ?_⟩
        have D9 := D8.put Y
        refine ⟨_, rfl, by show 2 ≤ sizeLine; decide, fun t ht => ?_⟩
        have DA := D9.same (same_upd (o := .tup [.int d, .int x]) ht)
        refine ⟨t, rfl, ⟨_, SqT.of upd_same⟩, ?_⟩
        refine for_tup (K := K) (a := t) (xs := [.int d, .int x]) (fun i σ G => (∃ z : Option V, σ = [some (V.ref s), some (V.ref p), some (V.int (r : Int)), some (V.int ((r : Int) * r + r + 1)), some (V.int one), some (V.int (((one + 1) % ((r : Int) * r + r + 1)))), some (V.int (thi)), some (V.int w2), some (V.int x), z]) ∧ Fd K H0 s p ns (n + 7) G ∧ SqT K G t [.int d, .int x]) ⟨⟨_, rfl⟩, DA, SqT.of upd_same⟩ (fun i σ G _ h => h.2.2) ?_ ?_
        · rintro i v σ G hv ⟨⟨z, rfl⟩, DG, qG⟩
          obtain ⟨v', rfl, b0, b1⟩ : ∃ v' : Int, v = .int v' ∧ 0 ≤ v' ∧ v' ≤ lstZ r := by
            rcases ints_in2 hv with h | h
            · exact ⟨d, h, d0, by omega⟩
            · exact ⟨x, h, x0, x1⟩
          refine ⟨_, rfl, _, rfl, rfl, _, rfl, ?_⟩
          rw [dec_ii]
          refine ite2 (fun c => ?_) (fun c => ?_)
          · have ne : v' ≠ w2 := by simpa using c
            refine ⟨_, rfl, _, rfl, _, rfl, _, rfl, r, one, ((one + 1) % ((r : Int) * r + r + 1)), v', rfl, pr, ⟨o0, o1⟩, ⟨u0, u1⟩, ⟨b0, b1⟩, fun GB sB => ⟨_, rfl, ?_⟩⟩
            rw [la v' ⟨b0, b1⟩ ne]
            exact iteF' rfl ⟨⟨_, rfl⟩, DG.same sB, sqt_same sB qG⟩
          · exact iteF' rfl ⟨⟨_, rfl⟩, DG, qG⟩
        rintro σ G ⟨⟨z, rfl⟩, DG, _⟩
        have fin : ∀ G', Fd K H0 s p ns (n + 8) G' → ∀ u : Int, u = w2 → Q (.bl (decide (u = w2))) G' := fun G' DG' u eu => by
          rw [decide_eq_true eu]
          exact q _ (DG'.mono (by omega))
        refine ⟨_, rfl, _, _, rfl, rfl, _, rfl, ?_⟩
        refine ite2 (fun c => ?_) (fun c => ?_)
        · have rs : r < 8 := by have := of_decide_eq_true c; omega
          have rr : (r : Int) * r ≤ 49 := by
            have := Nat.mul_le_mul (show r ≤ 7 by omega) (show r ≤ 7 by omega)
            have z : ((r * r : Nat) : Int) = (r : Int) * r := Int.natCast_mul _ _
            omega
          refine ⟨_, rfl, _, rfl, H0, s, p, ns, n + 7, 3, rfl, DG, by omega, by decide, by decide, fun e y e0 e1 Y' => ⟨rfl, _, rfl, ?_⟩⟩
          have DB := DG.put Y'
          rw [dec_ii]
          refine ite2 (fun c2 => ?_) (fun c2 => ?_)
          · obtain ⟨GC, hGC⟩ : ∃ GC, GC = upd G p (.lst y) := ⟨_, rfl⟩
            rw [← hGC] at DB ⊢
            have mz : ((((r : Int) * r + r + 1).toNat : Nat) : Int) = (r : Int) * r + r + 1 := by omega
            refine ⟨_, rfl, _, rfl, by omega, by omega, fun J hJ => ?_⟩
            refine lc_range (lo := 0) (n := ((r : Int) * r + r + 1).toNat) (fun i G' => Same GC G' ∧ G' J = some (.lst ((((List.range i).map fun x : Nat => (x : Int)).filter fun v => liesB r one v && liesB r (((one + 1) % ((r : Int) * r + r + 1))) v).map V.int))) ⟨same_upd hJ, upd_same⟩ ?_ ?_
            · rintro i G' hi ⟨sG, kJ⟩
              have b0 : (0 : Int) ≤ 0 + (i : Int) := by omega
              have b1 : 0 + (i : Int) ≤ lstZ r := by omega
              refine ⟨rfl, _, rfl, _, rfl, _, rfl, _, rfl, r, one, ((one + 1) % ((r : Int) * r + r + 1)), 0 + (i : Int), rfl, pr, ⟨o0, o1⟩, ⟨u0, u1⟩, ⟨b0, b1⟩, fun GD sD => ⟨_, rfl, ?_⟩⟩
              have kD := sD _ _ kJ
              rw [Int.zero_add]
              refine ite2 (fun c3 => ?_) (fun c3 => ?_)
              · refine ⟨_, rfl, _, kD, ?_, fun b o eb => ?_, ?_⟩
                · rw [List.length_map]
                  refine Nat.lt_of_le_of_lt (List.length_filter_le _ _) (Nat.lt_of_lt_of_le (show _ < 100 by rw [List.length_map, List.length_range]; omega) (by decide))
                · rw [upd_ne (ne_of_none eb hJ)]
                  exact sD _ _ (sG _ _ eb)
                · rw [upd_same, List.range_succ, List.map_append, List.filter_append, List.map_append]
                  simp only [List.map_cons, List.map_nil, List.filter_cons, c3, if_true, List.filter_nil]
              · refine ⟨sG.trans sD, ?_⟩
                rw [kD, List.range_succ, List.map_append, List.filter_append]
                simp only [List.map_cons, List.map_nil, List.filter_cons, if_neg c3, List.filter_nil, List.append_nil]
            rintro G' ⟨sG, kJ⟩
            have eu : ((List.range ((r : Int) * r + r + 1).toNat).map fun x : Nat => (x : Int)).filter (fun v => liesB r one v && liesB r (((one + 1) % ((r : Int) * r + r + 1))) v) = [w2] := filt_one (range_nd _) (List.mem_map.mpr ⟨w2.toNat, List.mem_range.mpr (by omega), by omega⟩) (by rw [ls1, ls2]; rfl) fun v hv lv => by
              obtain ⟨j, hj, rfl⟩ := List.mem_map.mp hv
              have hj := List.mem_range.mp hj
              by_cases ej : (j : Int) = w2
              · exact ej
              · rw [la (j : Int) ⟨by omega, by omega⟩ ej] at lv
                cases lv
            rw [eu] at kJ
            refine ⟨_, rfl, by show 1 ≤ sizeLine; decide, fun l hl => ?_⟩
            refine ⟨_, _, dp_ints ((same_upd hl) _ _ kJ), dp_ints (ns := [w2]) upd_same, shaped_ints _, shaped_ints _, ?_⟩
            rw [show PyData.eqv (.list ([w2].map PyData.int)) (.list ([w2].map PyData.int)) = true by simp [PyData.eqv, PyData.eqvAll]]
            exact q _ (((DB.same sG).same (same_upd hl)).mono (by omega))
          · skip
            refine ⟨_, rfl, _, rfl, _, rfl, r, one, ((one + 1) % ((r : Int) * r + r + 1)), rfl, pr, ⟨o0, o1⟩, ⟨u0, u1⟩, un.symm, fun u GC sC y0 y1 l1 l2 => ⟨_, rfl, rfl, ?_⟩⟩
            rw [dec_ii]
            exact fin _ (DB.same sC) u (two_one pr o0 o1 u0 u1 y0 y1 w0 w1 un.symm l1 i1 l2 i2)
        · refine iteF' rfl ?_
          have DB := DG.mono (show n + 7 ≤ n + 8 by omega)
          refine ⟨_, rfl, _, rfl, _, rfl, r, one, ((one + 1) % ((r : Int) * r + r + 1)), rfl, pr, ⟨o0, o1⟩, ⟨u0, u1⟩, un.symm, fun u GC sC y0 y1 l1 l2 => ⟨_, rfl, rfl, ?_⟩⟩
          rw [dec_ii]
          exact fin _ (DB.same sC) u (two_one pr o0 o1 u0 u1 y0 y1 w0 w1 un.symm l1 i1 l2 i2)
  · have u0 := t0
    have u1 := t1
    have un : oth ≠ one := by simpa using ca
    refine ⟨_, rfl, _, rfl, rfl, _, rfl, ?_⟩
    rw [dec_ii]
    refine ite2 (fun cb => ?_) (fun cb => ?_)
    · refine ⟨_, rfl, _, _, rfl, rfl, _, rfl, _, _, rfl, rfl, _, rfl, _, _, rfl, rfl, m0, ?_⟩
      have v0 := mb0
      have v1 : (one + 1 + r) % ((r : Int) * r + r + 1) ≤ lstZ r := by omega
      have vn := mb2
      refine ⟨_, rfl, _, rfl, _, rfl, r, one, oth, rfl, pr, ⟨o0, o1⟩, ⟨u0, u1⟩, un.symm, fun w G4 s4 w0 w1 i1 i2 => ?_⟩
      have D4 := D3.same s4
      have la : ∀ t : Int, (0 ≤ t ∧ t ≤ lstZ r) → t ≠ w → (liesB r one t && liesB r (oth) t) = false := fun t ht ne => by
        cases h1 : liesB r one t with
        | false => rfl
        | true => cases h2 : liesB r (oth) t with
          | false => rfl
          | true => exact absurd (two_one pr o0 o1 u0 u1 ht.1 ht.2 w0 w1 un.symm ((lies_iff pr o0 o1 ht.1 ht.2).mp h1) i1 ((lies_iff pr u0 u1 ht.1 ht.2).mp h2) i2) ne
      have ls1 : liesB r one w = true := (lies_iff pr o0 o1 w0 w1).mpr i1
      have ls2 : liesB r (oth) w = true := (lies_iff pr u0 u1 w0 w1).mpr i2
      refine ⟨_, rfl, w, rfl, _, rfl, ?_⟩
      refine iteF' rfl ?_
      refine ⟨_, rfl, _, _, rfl, rfl, _, rfl, ?_⟩
      refine iteF' (by simp; omega) ?_
      refine ⟨_, rfl, _, rfl, _, _, rfl, rfl, _, rfl, ?_⟩
      refine iteF' (by simp; omega) ?_
      refine ⟨_, rfl, _, rfl, _, rfl, _, rfl, r, one, oth, w, rfl, pr, ⟨o0, o1⟩, ⟨u0, u1⟩, ⟨w0, w1⟩, fun G5 s5 => ⟨_, rfl, ?_⟩⟩
      refine iteF' (by rw [ls1, ls2]; rfl) ?_
      have D5 := D4.same s5
      refine ⟨_, rfl, _, rfl, _, rfl, r, one, ((one + 1 + r) % ((r : Int) * r + r + 1)), rfl, pr, ⟨o0, o1⟩, ⟨v0, v1⟩, vn.symm, fun x G6 s6 x0 x1 k1 k2 => ?_⟩
      refine ⟨_, rfl, _, rfl, _, rfl, r, oth, one, rfl, pr, ⟨u0, u1⟩, ⟨o0, o1⟩, un, fun w2 G7 s7 y0 y1 j1 j2 => ?_⟩
      have ew : w2 = w := two_one pr o0 o1 u0 u1 y0 y1 w0 w1 un.symm j2 i1 j1 i2
      subst ew
      refine ⟨_, rfl, rfl, _, rfl, ?_⟩
      refine iteF' (by simp) ?_
      refine ⟨_, rfl, _, rfl, _, rfl, r, ((one + 1 + r) % ((r : Int) * r + r + 1)), w2, rfl, pr, ⟨v0, v1⟩, ⟨w0, w1⟩, fun G8 s8 => ?_⟩
      have ex : liesB r (((one + 1 + r) % ((r : Int) * r + r + 1))) w2 = decide (x = w2) := by
        cases h : liesB r (((one + 1 + r) % ((r : Int) * r + r + 1))) w2 with
        | true => rw [decide_eq_true (two_one pr o0 o1 v0 v1 x0 x1 w0 w1 vn.symm k1 i1 k2 ((lies_iff pr v0 v1 w0 w1).mp h))]
        | false =>
          refine (decide_eq_false fun z => ?_).symm
          rw [z] at k2
          rw [(lies_iff pr v0 v1 w0 w1).mpr k2] at h
          cases h
      refine ⟨_, rfl, _, rfl, rfl, rfl, _, rfl, ?_⟩
      rw [dec_ii, ← ex]
      refine iteF' (by simp) ?_
      have D8 := ((D5.same s6).same s7).same s8
      refine ⟨_, rfl, _, rfl, rfl, _, rfl, ?_⟩
      rw [dec_ii]
      refine ite2 (fun cz => ?_) (fun cz => ?_)
      · have nz : x ≠ w2 := by simpa using cz
        refine ⟨_, rfl, _, rfl, _, rfl, r, w2, x, rfl, pr, ⟨w0, w1⟩, ⟨x0, x1⟩, nz.symm, fun z G9 s9 z0 z1 l1 l2 => ?_⟩
        have ez : z = one := InS.one pr z0 z1 o0 o1 w0 w1 x0 x1 nz.symm l1 l2 i1 k1
        refine ⟨_, rfl, rfl, _, rfl, ?_⟩
        refine iteF' (by rw [ez]; simp) ?_
        have DZ := D8.same s9
        refine ⟨_, rfl, _, rfl, _, rfl, H0, s, p, ns, n + 6, (r : Int) * r + r + 1, rfl, DZ, by omega, by omega, wideP (by omega) (by omega), fun d y d0 d1 Y => ?_⟩
        have D9 := DZ.put Y
        refine ⟨_, rfl, by show 2 ≤ sizeLine; decide, fun t ht => ?_⟩
        have DA := D9.same (same_upd (o := .tup [.int d, .int x]) ht)
        refine ⟨t, rfl, ⟨_, SqT.of upd_same⟩, ?_⟩
        refine for_tup (K := K) (a := t) (xs := [.int d, .int x]) (fun i σ G => (∃ z : Option V, σ = [some (V.ref s), some (V.ref p), some (V.int (r : Int)), some (V.int ((r : Int) * r + r + 1)), some (V.int one), some (V.int (oth)), some (V.int (((one + 1 + r) % ((r : Int) * r + r + 1)))), some (V.int w2), some (V.int x), z]) ∧ Fd K H0 s p ns (n + 7) G ∧ SqT K G t [.int d, .int x]) ⟨⟨_, rfl⟩, DA, SqT.of upd_same⟩ (fun i σ G _ h => h.2.2) ?_ ?_
        · rintro i v σ G hv ⟨⟨z, rfl⟩, DG, qG⟩
          obtain ⟨v', rfl, b0, b1⟩ : ∃ v' : Int, v = .int v' ∧ 0 ≤ v' ∧ v' ≤ lstZ r := by
            rcases ints_in2 hv with h | h
            · exact ⟨d, h, d0, by omega⟩
            · exact ⟨x, h, x0, x1⟩
          refine ⟨_, rfl, _, rfl, rfl, _, rfl, ?_⟩
          rw [dec_ii]
          refine ite2 (fun c => ?_) (fun c => ?_)
          · have ne : v' ≠ w2 := by simpa using c
            refine ⟨_, rfl, _, rfl, _, rfl, _, rfl, r, one, oth, v', rfl, pr, ⟨o0, o1⟩, ⟨u0, u1⟩, ⟨b0, b1⟩, fun GB sB => ⟨_, rfl, ?_⟩⟩
            rw [la v' ⟨b0, b1⟩ ne]
            exact iteF' rfl ⟨⟨_, rfl⟩, DG.same sB, sqt_same sB qG⟩
          · exact iteF' rfl ⟨⟨_, rfl⟩, DG, qG⟩
        rintro σ G ⟨⟨z, rfl⟩, DG, _⟩
        have fin : ∀ G', Fd K H0 s p ns (n + 8) G' → ∀ u : Int, u = w2 → Q (.bl (decide (u = w2))) G' := fun G' DG' u eu => by
          rw [decide_eq_true eu]
          exact q _ (DG'.mono (by omega))
        refine ⟨_, rfl, _, _, rfl, rfl, _, rfl, ?_⟩
        refine ite2 (fun c => ?_) (fun c => ?_)
        · have rs : r < 8 := by have := of_decide_eq_true c; omega
          have rr : (r : Int) * r ≤ 49 := by
            have := Nat.mul_le_mul (show r ≤ 7 by omega) (show r ≤ 7 by omega)
            have z : ((r * r : Nat) : Int) = (r : Int) * r := Int.natCast_mul _ _
            omega
          refine ⟨_, rfl, _, rfl, H0, s, p, ns, n + 7, 3, rfl, DG, by omega, by decide, by decide, fun e y e0 e1 Y' => ⟨rfl, _, rfl, ?_⟩⟩
          have DB := DG.put Y'
          rw [dec_ii]
          refine ite2 (fun c2 => ?_) (fun c2 => ?_)
          · obtain ⟨GC, hGC⟩ : ∃ GC, GC = upd G p (.lst y) := ⟨_, rfl⟩
            rw [← hGC] at DB ⊢
            have mz : ((((r : Int) * r + r + 1).toNat : Nat) : Int) = (r : Int) * r + r + 1 := by omega
            refine ⟨_, rfl, _, rfl, by omega, by omega, fun J hJ => ?_⟩
            refine lc_range (lo := 0) (n := ((r : Int) * r + r + 1).toNat) (fun i G' => Same GC G' ∧ G' J = some (.lst ((((List.range i).map fun x : Nat => (x : Int)).filter fun v => liesB r one v && liesB r (oth) v).map V.int))) ⟨same_upd hJ, upd_same⟩ ?_ ?_
            · rintro i G' hi ⟨sG, kJ⟩
              have b0 : (0 : Int) ≤ 0 + (i : Int) := by omega
              have b1 : 0 + (i : Int) ≤ lstZ r := by omega
              refine ⟨rfl, _, rfl, _, rfl, _, rfl, _, rfl, r, one, oth, 0 + (i : Int), rfl, pr, ⟨o0, o1⟩, ⟨u0, u1⟩, ⟨b0, b1⟩, fun GD sD => ⟨_, rfl, ?_⟩⟩
              have kD := sD _ _ kJ
              rw [Int.zero_add]
              refine ite2 (fun c3 => ?_) (fun c3 => ?_)
              · refine ⟨_, rfl, _, kD, ?_, fun b o eb => ?_, ?_⟩
                · rw [List.length_map]
                  refine Nat.lt_of_le_of_lt (List.length_filter_le _ _) (Nat.lt_of_lt_of_le (show _ < 100 by rw [List.length_map, List.length_range]; omega) (by decide))
                · rw [upd_ne (ne_of_none eb hJ)]
                  exact sD _ _ (sG _ _ eb)
                · rw [upd_same, List.range_succ, List.map_append, List.filter_append, List.map_append]
                  simp only [List.map_cons, List.map_nil, List.filter_cons, c3, if_true, List.filter_nil]
              · refine ⟨sG.trans sD, ?_⟩
                rw [kD, List.range_succ, List.map_append, List.filter_append]
                simp only [List.map_cons, List.map_nil, List.filter_cons, if_neg c3, List.filter_nil, List.append_nil]
            rintro G' ⟨sG, kJ⟩
            have eu : ((List.range ((r : Int) * r + r + 1).toNat).map fun x : Nat => (x : Int)).filter (fun v => liesB r one v && liesB r (oth) v) = [w2] := filt_one (range_nd _) (List.mem_map.mpr ⟨w2.toNat, List.mem_range.mpr (by omega), by omega⟩) (by rw [ls1, ls2]; rfl) fun v hv lv => by
              obtain ⟨j, hj, rfl⟩ := List.mem_map.mp hv
              have hj := List.mem_range.mp hj
              by_cases ej : (j : Int) = w2
              · exact ej
              · rw [la (j : Int) ⟨by omega, by omega⟩ ej] at lv
                cases lv
            rw [eu] at kJ
            refine ⟨_, rfl, by show 1 ≤ sizeLine; decide, fun l hl => ?_⟩
            refine ⟨_, _, dp_ints ((same_upd hl) _ _ kJ), dp_ints (ns := [w2]) upd_same, shaped_ints _, shaped_ints _, ?_⟩
            rw [show PyData.eqv (.list ([w2].map PyData.int)) (.list ([w2].map PyData.int)) = true by simp [PyData.eqv, PyData.eqvAll]]
            exact q _ (((DB.same sG).same (same_upd hl)).mono (by omega))
          · skip
            refine ⟨_, rfl, _, rfl, _, rfl, r, one, oth, rfl, pr, ⟨o0, o1⟩, ⟨u0, u1⟩, un.symm, fun u GC sC y0 y1 l1 l2 => ⟨_, rfl, rfl, ?_⟩⟩
            rw [dec_ii]
            exact fin _ (DB.same sC) u (two_one pr o0 o1 u0 u1 y0 y1 w0 w1 un.symm l1 i1 l2 i2)
        · refine iteF' rfl ?_
          have DB := DG.mono (show n + 7 ≤ n + 8 by omega)
          refine ⟨_, rfl, _, rfl, _, rfl, r, one, oth, rfl, pr, ⟨o0, o1⟩, ⟨u0, u1⟩, un.symm, fun u GC sC y0 y1 l1 l2 => ⟨_, rfl, rfl, ?_⟩⟩
          rw [dec_ii]
          exact fin _ (DB.same sC) u (two_one pr o0 o1 u0 u1 y0 y1 w0 w1 un.symm l1 i1 l2 i2)
      · refine iteF' rfl ?_
        refine ⟨_, rfl, _, rfl, _, rfl, H0, s, p, ns, n + 6, (r : Int) * r + r + 1, rfl, D8, by omega, by omega, wideP (by omega) (by omega), fun d y d0 d1 Y => ?_⟩
        have D9 := D8.put Y
        refine ⟨_, rfl, by show 2 ≤ sizeLine; decide, fun t ht => ?_⟩
        have DA := D9.same (same_upd (o := .tup [.int d, .int x]) ht)
        refine ⟨t, rfl, ⟨_, SqT.of upd_same⟩, ?_⟩
        refine for_tup (K := K) (a := t) (xs := [.int d, .int x]) (fun i σ G => (∃ z : Option V, σ = [some (V.ref s), some (V.ref p), some (V.int (r : Int)), some (V.int ((r : Int) * r + r + 1)), some (V.int one), some (V.int (oth)), some (V.int (((one + 1 + r) % ((r : Int) * r + r + 1)))), some (V.int w2), some (V.int x), z]) ∧ Fd K H0 s p ns (n + 7) G ∧ SqT K G t [.int d, .int x]) ⟨⟨_, rfl⟩, DA, SqT.of upd_same⟩ (fun i σ G _ h => h.2.2) ?_ ?_
        · rintro i v σ G hv ⟨⟨z, rfl⟩, DG, qG⟩
          obtain ⟨v', rfl, b0, b1⟩ : ∃ v' : Int, v = .int v' ∧ 0 ≤ v' ∧ v' ≤ lstZ r := by
            rcases ints_in2 hv with h | h
            · exact ⟨d, h, d0, by omega⟩
            · exact ⟨x, h, x0, x1⟩
          refine ⟨_, rfl, _, rfl, rfl, _, rfl, ?_⟩
          rw [dec_ii]
          refine ite2 (fun c => ?_) (fun c => ?_)
          · have ne : v' ≠ w2 := by simpa using c
            refine ⟨_, rfl, _, rfl, _, rfl, _, rfl, r, one, oth, v', rfl, pr, ⟨o0, o1⟩, ⟨u0, u1⟩, ⟨b0, b1⟩, fun GB sB => ⟨_, rfl, ?_⟩⟩
            rw [la v' ⟨b0, b1⟩ ne]
            exact iteF' rfl ⟨⟨_, rfl⟩, DG.same sB, sqt_same sB qG⟩
          · exact iteF' rfl ⟨⟨_, rfl⟩, DG, qG⟩
        rintro σ G ⟨⟨z, rfl⟩, DG, _⟩
        have fin : ∀ G', Fd K H0 s p ns (n + 8) G' → ∀ u : Int, u = w2 → Q (.bl (decide (u = w2))) G' := fun G' DG' u eu => by
          rw [decide_eq_true eu]
          exact q _ (DG'.mono (by omega))
        refine ⟨_, rfl, _, _, rfl, rfl, _, rfl, ?_⟩
        refine ite2 (fun c => ?_) (fun c => ?_)
        · have rs : r < 8 := by have := of_decide_eq_true c; omega
          have rr : (r : Int) * r ≤ 49 := by
            have := Nat.mul_le_mul (show r ≤ 7 by omega) (show r ≤ 7 by omega)
            have z : ((r * r : Nat) : Int) = (r : Int) * r := Int.natCast_mul _ _
            omega
          refine ⟨_, rfl, _, rfl, H0, s, p, ns, n + 7, 3, rfl, DG, by omega, by decide, by decide, fun e y e0 e1 Y' => ⟨rfl, _, rfl, ?_⟩⟩
          have DB := DG.put Y'
          rw [dec_ii]
          refine ite2 (fun c2 => ?_) (fun c2 => ?_)
          · obtain ⟨GC, hGC⟩ : ∃ GC, GC = upd G p (.lst y) := ⟨_, rfl⟩
            rw [← hGC] at DB ⊢
            have mz : ((((r : Int) * r + r + 1).toNat : Nat) : Int) = (r : Int) * r + r + 1 := by omega
            refine ⟨_, rfl, _, rfl, by omega, by omega, fun J hJ => ?_⟩
            refine lc_range (lo := 0) (n := ((r : Int) * r + r + 1).toNat) (fun i G' => Same GC G' ∧ G' J = some (.lst ((((List.range i).map fun x : Nat => (x : Int)).filter fun v => liesB r one v && liesB r (oth) v).map V.int))) ⟨same_upd hJ, upd_same⟩ ?_ ?_
            · rintro i G' hi ⟨sG, kJ⟩
              have b0 : (0 : Int) ≤ 0 + (i : Int) := by omega
              have b1 : 0 + (i : Int) ≤ lstZ r := by omega
              refine ⟨rfl, _, rfl, _, rfl, _, rfl, _, rfl, r, one, oth, 0 + (i : Int), rfl, pr, ⟨o0, o1⟩, ⟨u0, u1⟩, ⟨b0, b1⟩, fun GD sD => ⟨_, rfl, ?_⟩⟩
              have kD := sD _ _ kJ
              rw [Int.zero_add]
              refine ite2 (fun c3 => ?_) (fun c3 => ?_)
              · refine ⟨_, rfl, _, kD, ?_, fun b o eb => ?_, ?_⟩
                · rw [List.length_map]
                  refine Nat.lt_of_le_of_lt (List.length_filter_le _ _) (Nat.lt_of_lt_of_le (show _ < 100 by rw [List.length_map, List.length_range]; omega) (by decide))
                · rw [upd_ne (ne_of_none eb hJ)]
                  exact sD _ _ (sG _ _ eb)
                · rw [upd_same, List.range_succ, List.map_append, List.filter_append, List.map_append]
                  simp only [List.map_cons, List.map_nil, List.filter_cons, c3, if_true, List.filter_nil]
              · refine ⟨sG.trans sD, ?_⟩
                rw [kD, List.range_succ, List.map_append, List.filter_append]
                simp only [List.map_cons, List.map_nil, List.filter_cons, if_neg c3, List.filter_nil, List.append_nil]
            rintro G' ⟨sG, kJ⟩
            have eu : ((List.range ((r : Int) * r + r + 1).toNat).map fun x : Nat => (x : Int)).filter (fun v => liesB r one v && liesB r (oth) v) = [w2] := filt_one (range_nd _) (List.mem_map.mpr ⟨w2.toNat, List.mem_range.mpr (by omega), by omega⟩) (by rw [ls1, ls2]; rfl) fun v hv lv => by
              obtain ⟨j, hj, rfl⟩ := List.mem_map.mp hv
              have hj := List.mem_range.mp hj
              by_cases ej : (j : Int) = w2
              · exact ej
              · rw [la (j : Int) ⟨by omega, by omega⟩ ej] at lv
                cases lv
            rw [eu] at kJ
            refine ⟨_, rfl, by show 1 ≤ sizeLine; decide, fun l hl => ?_⟩
            refine ⟨_, _, dp_ints ((same_upd hl) _ _ kJ), dp_ints (ns := [w2]) upd_same, shaped_ints _, shaped_ints _, ?_⟩
            rw [show PyData.eqv (.list ([w2].map PyData.int)) (.list ([w2].map PyData.int)) = true by simp [PyData.eqv, PyData.eqvAll]]
            exact q _ (((DB.same sG).same (same_upd hl)).mono (by omega))
          · skip
            refine ⟨_, rfl, _, rfl, _, rfl, r, one, oth, rfl, pr, ⟨o0, o1⟩, ⟨u0, u1⟩, un.symm, fun u GC sC y0 y1 l1 l2 => ⟨_, rfl, rfl, ?_⟩⟩
            rw [dec_ii]
            exact fin _ (DB.same sC) u (two_one pr o0 o1 u0 u1 y0 y1 w0 w1 un.symm l1 i1 l2 i2)
        · refine iteF' rfl ?_
          have DB := DG.mono (show n + 7 ≤ n + 8 by omega)
          refine ⟨_, rfl, _, rfl, _, rfl, r, one, oth, rfl, pr, ⟨o0, o1⟩, ⟨u0, u1⟩, un.symm, fun u GC sC y0 y1 l1 l2 => ⟨_, rfl, rfl, ?_⟩⟩
          rw [dec_ii]
          exact fin _ (DB.same sC) u (two_one pr o0 o1 u0 u1 y0 y1 w0 w1 un.symm l1 i1 l2 i2)
    · have v0 := h0
      have v1 := h1
      have vn : thi ≠ one := by simpa using cb
      refine ⟨_, rfl, _, rfl, _, rfl, r, one, oth, rfl, pr, ⟨o0, o1⟩, ⟨u0, u1⟩, un.symm, fun w G4 s4 w0 w1 i1 i2 => ?_⟩
      have D4 := D3.same s4
      have la : ∀ t : Int, (0 ≤ t ∧ t ≤ lstZ r) → t ≠ w → (liesB r one t && liesB r (oth) t) = false := fun t ht ne => by
        cases h1 : liesB r one t with
        | false => rfl
        | true => cases h2 : liesB r (oth) t with
          | false => rfl
          | true => exact absurd (two_one pr o0 o1 u0 u1 ht.1 ht.2 w0 w1 un.symm ((lies_iff pr o0 o1 ht.1 ht.2).mp h1) i1 ((lies_iff pr u0 u1 ht.1 ht.2).mp h2) i2) ne
      have ls1 : liesB r one w = true := (lies_iff pr o0 o1 w0 w1).mpr i1
      have ls2 : liesB r (oth) w = true := (lies_iff pr u0 u1 w0 w1).mpr i2
      refine ⟨_, rfl, w, rfl, _, rfl, ?_⟩
      refine iteF' rfl ?_
      refine ⟨_, rfl, _, _, rfl, rfl, _, rfl, ?_⟩
      refine iteF' (by simp; omega) ?_
      refine ⟨_, rfl, _, rfl, _, _, rfl, rfl, _, rfl, ?_⟩
      refine iteF' (by simp; omega) ?_
      refine ⟨_, rfl, _, rfl, _, rfl, _, rfl, r, one, oth, w, rfl, pr, ⟨o0, o1⟩, ⟨u0, u1⟩, ⟨w0, w1⟩, fun G5 s5 => ⟨_, rfl, ?_⟩⟩
      refine iteF' (by rw [ls1, ls2]; rfl) ?_
      have D5 := D4.same s5
      refine ⟨_, rfl, _, rfl, _, rfl, r, one, thi, rfl, pr, ⟨o0, o1⟩, ⟨v0, v1⟩, vn.symm, fun x G6 s6 x0 x1 k1 k2 => ?_⟩
      refine ⟨_, rfl, _, rfl, _, rfl, r, oth, one, rfl, pr, ⟨u0, u1⟩, ⟨o0, o1⟩, un, fun w2 G7 s7 y0 y1 j1 j2 => ?_⟩
      have ew : w2 = w := two_one pr o0 o1 u0 u1 y0 y1 w0 w1 un.symm j2 i1 j1 i2
      subst ew
      refine ⟨_, rfl, rfl, _, rfl, ?_⟩
      refine iteF' (by simp) ?_
      refine ⟨_, rfl, _, rfl, _, rfl, r, thi, w2, rfl, pr, ⟨v0, v1⟩, ⟨w0, w1⟩, fun G8 s8 => ?_⟩
      have ex : liesB r (thi) w2 = decide (x = w2) := by
        cases h : liesB r (thi) w2 with
        | true => rw [decide_eq_true (two_one pr o0 o1 v0 v1 x0 x1 w0 w1 vn.symm k1 i1 k2 ((lies_iff pr v0 v1 w0 w1).mp h))]
        | false =>
          refine (decide_eq_false fun z => ?_).symm
          rw [z] at k2
          rw [(lies_iff pr v0 v1 w0 w1).mpr k2] at h
          cases h
      refine ⟨_, rfl, _, rfl, rfl, rfl, _, rfl, ?_⟩
      rw [dec_ii, ← ex]
      refine iteF' (by simp) ?_
      have D8 := ((D5.same s6).same s7).same s8
      refine ⟨_, rfl, _, rfl, rfl, _, rfl, ?_⟩
      rw [dec_ii]
      refine ite2 (fun cz => ?_) (fun cz => ?_)
      · have nz : x ≠ w2 := by simpa using cz
        refine ⟨_, rfl, _, rfl, _, rfl, r, w2, x, rfl, pr, ⟨w0, w1⟩, ⟨x0, x1⟩, nz.symm, fun z G9 s9 z0 z1 l1 l2 => ?_⟩
        have ez : z = one := InS.one pr z0 z1 o0 o1 w0 w1 x0 x1 nz.symm l1 l2 i1 k1
        refine ⟨_, rfl, rfl, _, rfl, ?_⟩
        refine iteF' (by rw [ez]; simp) ?_
        have DZ := D8.same s9
        refine ⟨_, rfl, _, rfl, _, rfl, H0, s, p, ns, n + 6, (r : Int) * r + r + 1, rfl, DZ, by omega, by omega, wideP (by omega) (by omega), fun d y d0 d1 Y => ?_⟩
        have D9 := DZ.put Y
        refine ⟨_, rfl, by show 2 ≤ sizeLine; decide, fun t ht => ?_⟩
        have DA := D9.same (same_upd (o := .tup [.int d, .int x]) ht)
        refine ⟨t, rfl, ⟨_, SqT.of upd_same⟩, ?_⟩
        refine for_tup (K := K) (a := t) (xs := [.int d, .int x]) (fun i σ G => (∃ z : Option V, σ = [some (V.ref s), some (V.ref p), some (V.int (r : Int)), some (V.int ((r : Int) * r + r + 1)), some (V.int one), some (V.int (oth)), some (V.int (thi)), some (V.int w2), some (V.int x), z]) ∧ Fd K H0 s p ns (n + 7) G ∧ SqT K G t [.int d, .int x]) ⟨⟨_, rfl⟩, DA, SqT.of upd_same⟩ (fun i σ G _ h => h.2.2) ?_ ?_
        · rintro i v σ G hv ⟨⟨z, rfl⟩, DG, qG⟩
          obtain ⟨v', rfl, b0, b1⟩ : ∃ v' : Int, v = .int v' ∧ 0 ≤ v' ∧ v' ≤ lstZ r := by
            rcases ints_in2 hv with h | h
            · exact ⟨d, h, d0, by omega⟩
            · exact ⟨x, h, x0, x1⟩
          refine ⟨_, rfl, _, rfl, rfl, _, rfl, ?_⟩
          rw [dec_ii]
          refine ite2 (fun c => ?_) (fun c => ?_)
          · have ne : v' ≠ w2 := by simpa using c
            refine ⟨_, rfl, _, rfl, _, rfl, _, rfl, r, one, oth, v', rfl, pr, ⟨o0, o1⟩, ⟨u0, u1⟩, ⟨b0, b1⟩, fun GB sB => ⟨_, rfl, ?_⟩⟩
            rw [la v' ⟨b0, b1⟩ ne]
            exact iteF' rfl ⟨⟨_, rfl⟩, DG.same sB, sqt_same sB qG⟩
          · exact iteF' rfl ⟨⟨_, rfl⟩, DG, qG⟩
        rintro σ G ⟨⟨z, rfl⟩, DG, _⟩
        have fin : ∀ G', Fd K H0 s p ns (n + 8) G' → ∀ u : Int, u = w2 → Q (.bl (decide (u = w2))) G' := fun G' DG' u eu => by
          rw [decide_eq_true eu]
          exact q _ (DG'.mono (by omega))
        refine ⟨_, rfl, _, _, rfl, rfl, _, rfl, ?_⟩
        refine ite2 (fun c => ?_) (fun c => ?_)
        · have rs : r < 8 := by have := of_decide_eq_true c; omega
          have rr : (r : Int) * r ≤ 49 := by
            have := Nat.mul_le_mul (show r ≤ 7 by omega) (show r ≤ 7 by omega)
            have z : ((r * r : Nat) : Int) = (r : Int) * r := Int.natCast_mul _ _
            omega
          refine ⟨_, rfl, _, rfl, H0, s, p, ns, n + 7, 3, rfl, DG, by omega, by decide, by decide, fun e y e0 e1 Y' => ⟨rfl, _, rfl, ?_⟩⟩
          have DB := DG.put Y'
          rw [dec_ii]
          refine ite2 (fun c2 => ?_) (fun c2 => ?_)
          · obtain ⟨GC, hGC⟩ : ∃ GC, GC = upd G p (.lst y) := ⟨_, rfl⟩
            rw [← hGC] at DB ⊢
            have mz : ((((r : Int) * r + r + 1).toNat : Nat) : Int) = (r : Int) * r + r + 1 := by omega
            refine ⟨_, rfl, _, rfl, by omega, by omega, fun J hJ => ?_⟩
            refine lc_range (lo := 0) (n := ((r : Int) * r + r + 1).toNat) (fun i G' => Same GC G' ∧ G' J = some (.lst ((((List.range i).map fun x : Nat => (x : Int)).filter fun v => liesB r one v && liesB r (oth) v).map V.int))) ⟨same_upd hJ, upd_same⟩ ?_ ?_
            · rintro i G' hi ⟨sG, kJ⟩
              have b0 : (0 : Int) ≤ 0 + (i : Int) := by omega
              have b1 : 0 + (i : Int) ≤ lstZ r := by omega
              refine ⟨rfl, _, rfl, _, rfl, _, rfl, _, rfl, r, one, oth, 0 + (i : Int), rfl, pr, ⟨o0, o1⟩, ⟨u0, u1⟩, ⟨b0, b1⟩, fun GD sD => ⟨_, rfl, ?_⟩⟩
              have kD := sD _ _ kJ
              rw [Int.zero_add]
              refine ite2 (fun c3 => ?_) (fun c3 => ?_)
              · refine ⟨_, rfl, _, kD, ?_, fun b o eb => ?_, ?_⟩
                · rw [List.length_map]
                  refine Nat.lt_of_le_of_lt (List.length_filter_le _ _) (Nat.lt_of_lt_of_le (show _ < 100 by rw [List.length_map, List.length_range]; omega) (by decide))
                · rw [upd_ne (ne_of_none eb hJ)]
                  exact sD _ _ (sG _ _ eb)
                · rw [upd_same, List.range_succ, List.map_append, List.filter_append, List.map_append]
                  simp only [List.map_cons, List.map_nil, List.filter_cons, c3, if_true, List.filter_nil]
              · refine ⟨sG.trans sD, ?_⟩
                rw [kD, List.range_succ, List.map_append, List.filter_append]
                simp only [List.map_cons, List.map_nil, List.filter_cons, if_neg c3, List.filter_nil, List.append_nil]
            rintro G' ⟨sG, kJ⟩
            have eu : ((List.range ((r : Int) * r + r + 1).toNat).map fun x : Nat => (x : Int)).filter (fun v => liesB r one v && liesB r (oth) v) = [w2] := filt_one (range_nd _) (List.mem_map.mpr ⟨w2.toNat, List.mem_range.mpr (by omega), by omega⟩) (by rw [ls1, ls2]; rfl) fun v hv lv => by
              obtain ⟨j, hj, rfl⟩ := List.mem_map.mp hv
              have hj := List.mem_range.mp hj
              by_cases ej : (j : Int) = w2
              · exact ej
              · rw [la (j : Int) ⟨by omega, by omega⟩ ej] at lv
                cases lv
            rw [eu] at kJ
            refine ⟨_, rfl, by show 1 ≤ sizeLine; decide, fun l hl => ?_⟩
            refine ⟨_, _, dp_ints ((same_upd hl) _ _ kJ), dp_ints (ns := [w2]) upd_same, shaped_ints _, shaped_ints _, ?_⟩
            rw [show PyData.eqv (.list ([w2].map PyData.int)) (.list ([w2].map PyData.int)) = true by simp [PyData.eqv, PyData.eqvAll]]
            exact q _ (((DB.same sG).same (same_upd hl)).mono (by omega))
          · skip
            refine ⟨_, rfl, _, rfl, _, rfl, r, one, oth, rfl, pr, ⟨o0, o1⟩, ⟨u0, u1⟩, un.symm, fun u GC sC y0 y1 l1 l2 => ⟨_, rfl, rfl, ?_⟩⟩
            rw [dec_ii]
            exact fin _ (DB.same sC) u (two_one pr o0 o1 u0 u1 y0 y1 w0 w1 un.symm l1 i1 l2 i2)
        · refine iteF' rfl ?_
          have DB := DG.mono (show n + 7 ≤ n + 8 by omega)
          refine ⟨_, rfl, _, rfl, _, rfl, r, one, oth, rfl, pr, ⟨o0, o1⟩, ⟨u0, u1⟩, un.symm, fun u GC sC y0 y1 l1 l2 => ⟨_, rfl, rfl, ?_⟩⟩
          rw [dec_ii]
          exact fin _ (DB.same sC) u (two_one pr o0 o1 u0 u1 y0 y1 w0 w1 un.symm l1 i1 l2 i2)
      · refine iteF' rfl ?_
        refine ⟨_, rfl, _, rfl, _, rfl, H0, s, p, ns, n + 6, (r : Int) * r + r + 1, rfl, D8, by omega, by omega, wideP (by omega) (by omega), fun d y d0 d1 Y => ?_⟩
        have D9 := D8.put Y
        refine ⟨_, rfl, by show 2 ≤ sizeLine; decide, fun t ht => ?_⟩
        have DA := D9.same (same_upd (o := .tup [.int d, .int x]) ht)
        refine ⟨t, rfl, ⟨_, SqT.of upd_same⟩, ?_⟩
        refine for_tup (K := K) (a := t) (xs := [.int d, .int x]) (fun i σ G => (∃ z : Option V, σ = [some (V.ref s), some (V.ref p), some (V.int (r : Int)), some (V.int ((r : Int) * r + r + 1)), some (V.int one), some (V.int (oth)), some (V.int (thi)), some (V.int w2), some (V.int x), z]) ∧ Fd K H0 s p ns (n + 7) G ∧ SqT K G t [.int d, .int x]) ⟨⟨_, rfl⟩, DA, SqT.of upd_same⟩ (fun i σ G _ h => h.2.2) ?_ ?_
        · rintro i v σ G hv ⟨⟨z, rfl⟩, DG, qG⟩
          obtain ⟨v', rfl, b0, b1⟩ : ∃ v' : Int, v = .int v' ∧ 0 ≤ v' ∧ v' ≤ lstZ r := by
            rcases ints_in2 hv with h | h
            · exact ⟨d, h, d0, by omega⟩
            · exact ⟨x, h, x0, x1⟩
          refine ⟨_, rfl, _, rfl, rfl, _, rfl, ?_⟩
          rw [dec_ii]
          refine ite2 (fun c => ?_) (fun c => ?_)
          · have ne : v' ≠ w2 := by simpa using c
            refine ⟨_, rfl, _, rfl, _, rfl, _, rfl, r, one, oth, v', rfl, pr, ⟨o0, o1⟩, ⟨u0, u1⟩, ⟨b0, b1⟩, fun GB sB => ⟨_, rfl, ?_⟩⟩
            rw [la v' ⟨b0, b1⟩ ne]
            exact iteF' rfl ⟨⟨_, rfl⟩, DG.same sB, sqt_same sB qG⟩
          · exact iteF' rfl ⟨⟨_, rfl⟩, DG, qG⟩
        rintro σ G ⟨⟨z, rfl⟩, DG, _⟩
        have fin : ∀ G', Fd K H0 s p ns (n + 8) G' → ∀ u : Int, u = w2 → Q (.bl (decide (u = w2))) G' := fun G' DG' u eu => by
          rw [decide_eq_true eu]
          exact q _ (DG'.mono (by omega))
        refine ⟨_, rfl, _, _, rfl, rfl, _, rfl, ?_⟩
        refine ite2 (fun c => ?_) (fun c => ?_)
        · have rs : r < 8 := by have := of_decide_eq_true c; omega
          have rr : (r : Int) * r ≤ 49 := by
            have := Nat.mul_le_mul (show r ≤ 7 by omega) (show r ≤ 7 by omega)
            have z : ((r * r : Nat) : Int) = (r : Int) * r := Int.natCast_mul _ _
            omega
          refine ⟨_, rfl, _, rfl, H0, s, p, ns, n + 7, 3, rfl, DG, by omega, by decide, by decide, fun e y e0 e1 Y' => ⟨rfl, _, rfl, ?_⟩⟩
          have DB := DG.put Y'
          rw [dec_ii]
          refine ite2 (fun c2 => ?_) (fun c2 => ?_)
          · obtain ⟨GC, hGC⟩ : ∃ GC, GC = upd G p (.lst y) := ⟨_, rfl⟩
            rw [← hGC] at DB ⊢
            have mz : ((((r : Int) * r + r + 1).toNat : Nat) : Int) = (r : Int) * r + r + 1 := by omega
            refine ⟨_, rfl, _, rfl, by omega, by omega, fun J hJ => ?_⟩
            refine lc_range (lo := 0) (n := ((r : Int) * r + r + 1).toNat) (fun i G' => Same GC G' ∧ G' J = some (.lst ((((List.range i).map fun x : Nat => (x : Int)).filter fun v => liesB r one v && liesB r (oth) v).map V.int))) ⟨same_upd hJ, upd_same⟩ ?_ ?_
            · rintro i G' hi ⟨sG, kJ⟩
              have b0 : (0 : Int) ≤ 0 + (i : Int) := by omega
              have b1 : 0 + (i : Int) ≤ lstZ r := by omega
              refine ⟨rfl, _, rfl, _, rfl, _, rfl, _, rfl, r, one, oth, 0 + (i : Int), rfl, pr, ⟨o0, o1⟩, ⟨u0, u1⟩, ⟨b0, b1⟩, fun GD sD => ⟨_, rfl, ?_⟩⟩
              have kD := sD _ _ kJ
              rw [Int.zero_add]
              refine ite2 (fun c3 => ?_) (fun c3 => ?_)
              · refine ⟨_, rfl, _, kD, ?_, fun b o eb => ?_, ?_⟩
                · rw [List.length_map]
                  refine Nat.lt_of_le_of_lt (List.length_filter_le _ _) (Nat.lt_of_lt_of_le (show _ < 100 by rw [List.length_map, List.length_range]; omega) (by decide))
                · rw [upd_ne (ne_of_none eb hJ)]
                  exact sD _ _ (sG _ _ eb)
                · rw [upd_same, List.range_succ, List.map_append, List.filter_append, List.map_append]
                  simp only [List.map_cons, List.map_nil, List.filter_cons, c3, if_true, List.filter_nil]
              · refine ⟨sG.trans sD, ?_⟩
                rw [kD, List.range_succ, List.map_append, List.filter_append]
                simp only [List.map_cons, List.map_nil, List.filter_cons, if_neg c3, List.filter_nil, List.append_nil]
            rintro G' ⟨sG, kJ⟩
            have eu : ((List.range ((r : Int) * r + r + 1).toNat).map fun x : Nat => (x : Int)).filter (fun v => liesB r one v && liesB r (oth) v) = [w2] := filt_one (range_nd _) (List.mem_map.mpr ⟨w2.toNat, List.mem_range.mpr (by omega), by omega⟩) (by rw [ls1, ls2]; rfl) fun v hv lv => by
              obtain ⟨j, hj, rfl⟩ := List.mem_map.mp hv
              have hj := List.mem_range.mp hj
              by_cases ej : (j : Int) = w2
              · exact ej
              · rw [la (j : Int) ⟨by omega, by omega⟩ ej] at lv
                cases lv
            rw [eu] at kJ
            refine ⟨_, rfl, by show 1 ≤ sizeLine; decide, fun l hl => ?_⟩
            refine ⟨_, _, dp_ints ((same_upd hl) _ _ kJ), dp_ints (ns := [w2]) upd_same, shaped_ints _, shaped_ints _, ?_⟩
            rw [show PyData.eqv (.list ([w2].map PyData.int)) (.list ([w2].map PyData.int)) = true by simp [PyData.eqv, PyData.eqvAll]]
            exact q _ (((DB.same sG).same (same_upd hl)).mono (by omega))
          · skip
            refine ⟨_, rfl, _, rfl, _, rfl, r, one, oth, rfl, pr, ⟨o0, o1⟩, ⟨u0, u1⟩, un.symm, fun u GC sC y0 y1 l1 l2 => ⟨_, rfl, rfl, ?_⟩⟩
            rw [dec_ii]
            exact fin _ (DB.same sC) u (two_one pr o0 o1 u0 u1 y0 y1 w0 w1 un.symm l1 i1 l2 i2)
        · refine iteF' rfl ?_
          have DB := DG.mono (show n + 7 ≤ n + 8 by omega)
          refine ⟨_, rfl, _, rfl, _, rfl, r, one, oth, rfl, pr, ⟨o0, o1⟩, ⟨u0, u1⟩, un.symm, fun u GC sC y0 y1 l1 l2 => ⟨_, rfl, rfl, ?_⟩⟩
          rw [dec_ii]
          exact fin _ (DB.same sC) u (two_one pr o0 o1 u0 u1 y0 y1 w0 w1 un.symm l1 i1 l2 i2)
end

end G0
namespace G0
open PySem PySem.Spec PyProof.Rows L2
section
variable {P : Program} {w : World} {K : PySem.W.Frag} {mg : Str → Option Value} {base : Heap}
/-! ### the law -/
def spLaw (K : PySem.W.Frag) : Sp := fun vs H Q _ => ∃ (a : Addr) (ns : List Int), vs = [.ref a] ∧ SqL K H a (ns.map V.int) ∧ ns.length ≤ 63 ∧ ∀ H', Q (.bl true) H'
theorem sc_law : FnScope ["script", "pot", "turn"] ["script"] (defScope s_law) :=
  ⟨rfl, rfl, rfl, by decide +kernel, rfl, by decide +kernel, by decide +kernel⟩
theorem ok_law (F : Fn K mg "law" s_law) (T : BlF mg) (C_prime : Cal P w K mg base "_law_prime" 3 ["script", "pot"] (spPrime K)) (C_right : Cal P w K mg base "_law_right" 6 ["script", "pot", "p"] (spRight K)) : Cal P w K mg base "law" 7 ["script"] (spLaw K) := by
  refine cal_of F sc_law
    (fun _ _ _ _ _ _ us hl => match us, hl with | [_], _ => rfl) ?_ ?_
  · rintro vs H Q E ⟨a, ns, rfl, _⟩
    rfl
  rintro f cdv A outer s' H vs Q E free hr ⟨s, ns, rfl, hS, l63, q⟩
  refine ⟨_, (pss_cons (ps_set (i := 1) sc_law.nd rfl (Or.inl rfl) (pe_lst (pa_cons pe_int (pa_cons pe_int pa_nil))))
    (pss_cons (ps_for PassesOwn.never rfl (pi_range1 (by rfl) T.range (pa_cons pe_int pa_nil)) (pg_name (i := 2) sc_law.nd rfl (Or.inl rfl))
    (pss_cons (ps_if (pt_not (pt_val (pe_cal C_right free (hr.mono (by decide)) (pa_cons (pv 0) (pa_cons (pv 1) (pa_cons (pe_cal C_prime free (hr.mono (by decide)) (pa_cons (pv 0) (pa_cons (pv 1) pa_nil))) pa_nil))))))
    (pss_one (ps_ret pe_bl))
    pss_nil)
    (pss_one (ps_if (pt_cmpR op_ge (pe_ix ix_list (pv 1) pe_int (fun _ _ => rfl)) (pe_callB call_len_seq (by rfl) T.len (by decide +kernel) (pa_cons (pv 0) pa_nil)) (nomark _))
    (pss_one (ps_ret pe_bl))
    pss_nil))))
    (pss_one (ps_ret pe_bl)))), ?_⟩
  refine ⟨by show 2 ≤ sizeLine; decide, fun p hp => ?_⟩
  have D0 : Fd K H s p ns 0 (upd H p (.lst [.int 0, .int 0])) := ⟨same_upd hp, hp, hS, _, upd_same, 0, 0, rfl, Nat.le_refl _, Int.le_refl _⟩
  refine ⟨_, rfl, by decide, by decide, ?_⟩
  refine for_range (lo := 0) (n := 63) (fun i σ G => (∃ z2 : Option V, σ = [some (V.ref s), some (V.ref p), z2]) ∧ Fd K H s p ns (400 * i) G) ⟨⟨_, rfl⟩, D0⟩ ?_ ?_
  · rintro i σ G hi ⟨⟨z2, rfl⟩, D⟩
    refine ⟨_, rfl, _, rfl, _, rfl, _, rfl, H, s, p, ns, 400 * i, rfl, D, by omega, fun r G1 pr D1 c1 => ?_⟩
    refine ⟨H, s, p, ns, 400 * i + 2, r, rfl, D1, by omega, pr, fun G2 D2 => ⟨_, rfl, ?_⟩⟩
    refine iteF' rfl ?_
    obtain ⟨xs, kp, u, v, rfl, iu, v0⟩ := D2.at_
    have hS7 := D2.old.seq D2.sq
    refine ⟨_, rfl, p, _, _, _, rfl, rfl, SqL.of kp, rfl, _, rfl, s, _, rfl, .inl hS7, _, _, rfl, rfl, _, rfl, ?_⟩
    refine ite2 (fun c => ?_) (fun c => ?_)
    · exact q _
    · exact ⟨⟨_, rfl⟩, D2.mono (by omega)⟩
  · rintro σ G ⟨⟨z2, rfl⟩, D⟩
    exact q _
end

end G0
namespace G0
open PySem PySem.Spec PyProof.Rows L2
theorem whole {P : Program} {w : World} {K : PySem.W.Frag} {mg : Str → Option Value} {base : Heap} (T : Bl51 mg)
    (F_below : Fn K mg "is_below" s_is_below) (F_look : Fn K mg "look_at_seat" s_look_at_seat) (F_lies : Fn K mg "lies" s_lies) (F_shared : Fn K mg "shared" s_shared)
    (F_lp : Fn K mg "_look_at_prime" s_look_at_prime) (F_ls : Fn K mg "_look_at_seat" s_u_look_at_seat) (F_lset : Fn K mg "_look_at_set" s_look_at_set) (F_last : Fn K mg "_last" s_last) (F_far : Fn K mg "_is_far" s_is_far) (F_upr : Fn K mg "_is_upright" s_is_upright)
    (F_farS : Fn K mg "_far_seat" s_far_seat) (F_over : Fn K mg "_seat_over" s_seat_over) (F_thr : Fn K mg "_set_through" s_set_through) (F_hold : Fn K mg "holding" s_holding) (F_inv : Fn K mg "_inverse" s_inverse)
    (F_wide : Fn K mg "_law_wide" s_law_wide) (F_take : Fn K mg "_law_take" s_law_take) (F_wh : Fn K mg "_law_whole" s_law_whole) (F_isp : Fn K mg "_law_is_prime" s_law_is_prime) (F_prime : Fn K mg "_law_prime" s_law_prime) (F_num : Fn K mg "_law_number" s_law_number)
    (F_both : Fn K mg "_law_both" s_law_both) (F_right : Fn K mg "_law_right" s_law_right) (F_law : Fn K mg "law" s_law) : Cal P w K mg base "law" 7 ["script"] (spLaw K) := by
  have B := ok_bel (P := P) (w := w) (base := base) F_below T.toBlF
  have Lt := ok_last (P := P) (w := w) (base := base) F_last
  have LP := ok_lp F_lp T B
  have LS := ok_ls F_ls Lt (ok_look F_look B)
  have LE := ok_lset F_lset Lt B
  have Up := ok_upr F_upr Lt
  have FS := ok_farS F_farS Lt Up
  have Ov := ok_over (P := P) (w := w) (base := base) F_over T
  have Fa := ok_far (P := P) (w := w) (base := base) F_far Lt
  have Th := ok_thr F_thr T Lt
  have Iv := ok_inv (P := P) (w := w) (base := base) F_inv
  have Li := ok_lies F_lies LP LS LE Lt Fa FS Th
  have Sh := ok_shared F_shared T LP LE Lt Up FS Ov Iv
  have SO := ok_hold F_hold T LP LS Lt Fa Th Iv
  have Tk := ok_take (P := P) (w := w) (base := base) F_take T.toBlF (ok_wide F_wide)
  exact ok_law F_law T.toBlF (ok_prime F_prime T Tk (ok_isp F_isp T)) (ok_right F_right T Tk (ok_num F_num Tk) (ok_wh F_wh T) (ok_both F_both Li) Li Sh SO)
theorem all_mk {P : Program} {w : World} {K : PySem.W.Frag} {h : Heap} {mg : Str → Option Value} {fa : Addr}
    {f1 : Addr} {od1 an1 : Option Addr} {sl1 : Array (Option Value)} {oc1 kV1 dc1 pm1 cd1 ct1 : Value} {f2 : Addr} {od2 an2 : Option Addr} {sl2 : Array (Option Value)} {oc2 kV2 dc2 pm2 cd2 ct2 : Value} {f3 : Addr} {od3 an3 : Option Addr} {sl3 : Array (Option Value)} {oc3 kV3 dc3 pm3 cd3 ct3 : Value} {f4 : Addr} {od4 an4 : Option Addr} {sl4 : Array (Option Value)} {oc4 kV4 dc4 pm4 cd4 ct4 : Value} {f5 : Addr} {od5 an5 : Option Addr} {sl5 : Array (Option Value)} {oc5 kV5 dc5 pm5 cd5 ct5 : Value} {f6 : Addr} {od6 an6 : Option Addr} {sl6 : Array (Option Value)} {oc6 kV6 dc6 pm6 cd6 ct6 : Value} {f7 : Addr} {od7 an7 : Option Addr} {sl7 : Array (Option Value)} {oc7 kV7 dc7 pm7 cd7 ct7 : Value} {f8 : Addr} {od8 an8 : Option Addr} {sl8 : Array (Option Value)} {oc8 kV8 dc8 pm8 cd8 ct8 : Value} {f9 : Addr} {od9 an9 : Option Addr} {sl9 : Array (Option Value)} {oc9 kV9 dc9 pm9 cd9 ct9 : Value} {f10 : Addr} {od10 an10 : Option Addr} {sl10 : Array (Option Value)} {oc10 kV10 dc10 pm10 cd10 ct10 : Value} {f11 : Addr} {od11 an11 : Option Addr} {sl11 : Array (Option Value)} {oc11 kV11 dc11 pm11 cd11 ct11 : Value} {f12 : Addr} {od12 an12 : Option Addr} {sl12 : Array (Option Value)} {oc12 kV12 dc12 pm12 cd12 ct12 : Value} {f13 : Addr} {od13 an13 : Option Addr} {sl13 : Array (Option Value)} {oc13 kV13 dc13 pm13 cd13 ct13 : Value} {f14 : Addr} {od14 an14 : Option Addr} {sl14 : Array (Option Value)} {oc14 kV14 dc14 pm14 cd14 ct14 : Value} {f15 : Addr} {od15 an15 : Option Addr} {sl15 : Array (Option Value)} {oc15 kV15 dc15 pm15 cd15 ct15 : Value} {f16 : Addr} {od16 an16 : Option Addr} {sl16 : Array (Option Value)} {oc16 kV16 dc16 pm16 cd16 ct16 : Value} {f17 : Addr} {od17 an17 : Option Addr} {sl17 : Array (Option Value)} {oc17 kV17 dc17 pm17 cd17 ct17 : Value} {f18 : Addr} {od18 an18 : Option Addr} {sl18 : Array (Option Value)} {oc18 kV18 dc18 pm18 cd18 ct18 : Value} {f19 : Addr} {od19 an19 : Option Addr} {sl19 : Array (Option Value)} {oc19 kV19 dc19 pm19 cd19 ct19 : Value} {f20 : Addr} {od20 an20 : Option Addr} {sl20 : Array (Option Value)} {oc20 kV20 dc20 pm20 cd20 ct20 : Value} {f21 : Addr} {od21 an21 : Option Addr} {sl21 : Array (Option Value)} {oc21 kV21 dc21 pm21 cd21 ct21 : Value} {f22 : Addr} {od22 an22 : Option Addr} {sl22 : Array (Option Value)} {oc22 kV22 dc22 pm22 cd22 ct22 : Value} {f23 : Addr} {od23 an23 : Option Addr} {sl23 : Array (Option Value)} {oc23 kV23 dc23 pm23 cd23 ct23 : Value} {f24 : Addr} {od24 an24 : Option Addr} {sl24 : Array (Option Value)} {oc24 kV24 dc24 pm24 cd24 ct24 : Value} {t1 : Tok}
    (X : K.In h) (G : h.Ns mainGlobals mg) (hfa : mg "law" = some (.ref fa))
    (a1 : PySem.W.nsIn K mainGlobals "is_below" = some (some (.ref f1)))
    (l1 : K.lookup f1 = some ⟨oc1, od1, .func (PySem.W.fnOf "is_below" "is_below" (defArgs s_is_below) (defBody s_is_below) (defScope s_is_below) .none kV1 dc1 pm1 an1 cd1 ct1), sl1⟩)
    (c1 : PySem.W.codeIn K cd1 "is_below" = true)
    (k1 : PySem.W.keepIn K (.ref f1) = true)
    (a2 : PySem.W.nsIn K mainGlobals "look_at_seat" = some (some (.ref f2)))
    (l2 : K.lookup f2 = some ⟨oc2, od2, .func (PySem.W.fnOf "look_at_seat" "look_at_seat" (defArgs s_look_at_seat) (defBody s_look_at_seat) (defScope s_look_at_seat) .none kV2 dc2 pm2 an2 cd2 ct2), sl2⟩)
    (c2 : PySem.W.codeIn K cd2 "look_at_seat" = true)
    (k2 : PySem.W.keepIn K (.ref f2) = true)
    (a3 : PySem.W.nsIn K mainGlobals "lies" = some (some (.ref f3)))
    (l3 : K.lookup f3 = some ⟨oc3, od3, .func (PySem.W.fnOf "lies" "lies" (defArgs s_lies) (defBody s_lies) (defScope s_lies) .none kV3 dc3 pm3 an3 cd3 ct3), sl3⟩)
    (c3 : PySem.W.codeIn K cd3 "lies" = true)
    (k3 : PySem.W.keepIn K (.ref f3) = true)
    (a4 : PySem.W.nsIn K mainGlobals "shared" = some (some (.ref f4)))
    (l4 : K.lookup f4 = some ⟨oc4, od4, .func (PySem.W.fnOf "shared" "shared" (defArgs s_shared) (defBody s_shared) (defScope s_shared) .none kV4 dc4 pm4 an4 cd4 ct4), sl4⟩)
    (c4 : PySem.W.codeIn K cd4 "shared" = true)
    (k4 : PySem.W.keepIn K (.ref f4) = true)
    (a5 : PySem.W.nsIn K mainGlobals "_look_at_prime" = some (some (.ref f5)))
    (l5 : K.lookup f5 = some ⟨oc5, od5, .func (PySem.W.fnOf "_look_at_prime" "_look_at_prime" (defArgs s_look_at_prime) (defBody s_look_at_prime) (defScope s_look_at_prime) .none kV5 dc5 pm5 an5 cd5 ct5), sl5⟩)
    (c5 : PySem.W.codeIn K cd5 "_look_at_prime" = true)
    (k5 : PySem.W.keepIn K (.ref f5) = true)
    (a6 : PySem.W.nsIn K mainGlobals "_look_at_seat" = some (some (.ref f6)))
    (l6 : K.lookup f6 = some ⟨oc6, od6, .func (PySem.W.fnOf "_look_at_seat" "_look_at_seat" (defArgs s_u_look_at_seat) (defBody s_u_look_at_seat) (defScope s_u_look_at_seat) .none kV6 dc6 pm6 an6 cd6 ct6), sl6⟩)
    (c6 : PySem.W.codeIn K cd6 "_look_at_seat" = true)
    (k6 : PySem.W.keepIn K (.ref f6) = true)
    (a7 : PySem.W.nsIn K mainGlobals "_look_at_set" = some (some (.ref f7)))
    (l7 : K.lookup f7 = some ⟨oc7, od7, .func (PySem.W.fnOf "_look_at_set" "_look_at_set" (defArgs s_look_at_set) (defBody s_look_at_set) (defScope s_look_at_set) .none kV7 dc7 pm7 an7 cd7 ct7), sl7⟩)
    (c7 : PySem.W.codeIn K cd7 "_look_at_set" = true)
    (k7 : PySem.W.keepIn K (.ref f7) = true)
    (a8 : PySem.W.nsIn K mainGlobals "_last" = some (some (.ref f8)))
    (l8 : K.lookup f8 = some ⟨oc8, od8, .func (PySem.W.fnOf "_last" "_last" (defArgs s_last) (defBody s_last) (defScope s_last) .none kV8 dc8 pm8 an8 cd8 ct8), sl8⟩)
    (c8 : PySem.W.codeIn K cd8 "_last" = true)
    (k8 : PySem.W.keepIn K (.ref f8) = true)
    (a9 : PySem.W.nsIn K mainGlobals "_is_far" = some (some (.ref f9)))
    (l9 : K.lookup f9 = some ⟨oc9, od9, .func (PySem.W.fnOf "_is_far" "_is_far" (defArgs s_is_far) (defBody s_is_far) (defScope s_is_far) .none kV9 dc9 pm9 an9 cd9 ct9), sl9⟩)
    (c9 : PySem.W.codeIn K cd9 "_is_far" = true)
    (k9 : PySem.W.keepIn K (.ref f9) = true)
    (a10 : PySem.W.nsIn K mainGlobals "_is_upright" = some (some (.ref f10)))
    (l10 : K.lookup f10 = some ⟨oc10, od10, .func (PySem.W.fnOf "_is_upright" "_is_upright" (defArgs s_is_upright) (defBody s_is_upright) (defScope s_is_upright) .none kV10 dc10 pm10 an10 cd10 ct10), sl10⟩)
    (c10 : PySem.W.codeIn K cd10 "_is_upright" = true)
    (k10 : PySem.W.keepIn K (.ref f10) = true)
    (a11 : PySem.W.nsIn K mainGlobals "_far_seat" = some (some (.ref f11)))
    (l11 : K.lookup f11 = some ⟨oc11, od11, .func (PySem.W.fnOf "_far_seat" "_far_seat" (defArgs s_far_seat) (defBody s_far_seat) (defScope s_far_seat) .none kV11 dc11 pm11 an11 cd11 ct11), sl11⟩)
    (c11 : PySem.W.codeIn K cd11 "_far_seat" = true)
    (k11 : PySem.W.keepIn K (.ref f11) = true)
    (a12 : PySem.W.nsIn K mainGlobals "_seat_over" = some (some (.ref f12)))
    (l12 : K.lookup f12 = some ⟨oc12, od12, .func (PySem.W.fnOf "_seat_over" "_seat_over" (defArgs s_seat_over) (defBody s_seat_over) (defScope s_seat_over) .none kV12 dc12 pm12 an12 cd12 ct12), sl12⟩)
    (c12 : PySem.W.codeIn K cd12 "_seat_over" = true)
    (k12 : PySem.W.keepIn K (.ref f12) = true)
    (a13 : PySem.W.nsIn K mainGlobals "_set_through" = some (some (.ref f13)))
    (l13 : K.lookup f13 = some ⟨oc13, od13, .func (PySem.W.fnOf "_set_through" "_set_through" (defArgs s_set_through) (defBody s_set_through) (defScope s_set_through) .none kV13 dc13 pm13 an13 cd13 ct13), sl13⟩)
    (c13 : PySem.W.codeIn K cd13 "_set_through" = true)
    (k13 : PySem.W.keepIn K (.ref f13) = true)
    (a14 : PySem.W.nsIn K mainGlobals "holding" = some (some (.ref f14)))
    (l14 : K.lookup f14 = some ⟨oc14, od14, .func (PySem.W.fnOf "holding" "holding" (defArgs s_holding) (defBody s_holding) (defScope s_holding) .none kV14 dc14 pm14 an14 cd14 ct14), sl14⟩)
    (c14 : PySem.W.codeIn K cd14 "holding" = true)
    (k14 : PySem.W.keepIn K (.ref f14) = true)
    (a15 : PySem.W.nsIn K mainGlobals "_inverse" = some (some (.ref f15)))
    (l15 : K.lookup f15 = some ⟨oc15, od15, .func (PySem.W.fnOf "_inverse" "_inverse" (defArgs s_inverse) (defBody s_inverse) (defScope s_inverse) .none kV15 dc15 pm15 an15 cd15 ct15), sl15⟩)
    (c15 : PySem.W.codeIn K cd15 "_inverse" = true)
    (k15 : PySem.W.keepIn K (.ref f15) = true)
    (a16 : PySem.W.nsIn K mainGlobals "_law_wide" = some (some (.ref f16)))
    (l16 : K.lookup f16 = some ⟨oc16, od16, .func (PySem.W.fnOf "_law_wide" "_law_wide" (defArgs s_law_wide) (defBody s_law_wide) (defScope s_law_wide) .none kV16 dc16 pm16 an16 cd16 ct16), sl16⟩)
    (c16 : PySem.W.codeIn K cd16 "_law_wide" = true)
    (k16 : PySem.W.keepIn K (.ref f16) = true)
    (a17 : PySem.W.nsIn K mainGlobals "_law_take" = some (some (.ref f17)))
    (l17 : K.lookup f17 = some ⟨oc17, od17, .func (PySem.W.fnOf "_law_take" "_law_take" (defArgs s_law_take) (defBody s_law_take) (defScope s_law_take) .none kV17 dc17 pm17 an17 cd17 ct17), sl17⟩)
    (c17 : PySem.W.codeIn K cd17 "_law_take" = true)
    (k17 : PySem.W.keepIn K (.ref f17) = true)
    (a18 : PySem.W.nsIn K mainGlobals "_law_whole" = some (some (.ref f18)))
    (l18 : K.lookup f18 = some ⟨oc18, od18, .func (PySem.W.fnOf "_law_whole" "_law_whole" (defArgs s_law_whole) (defBody s_law_whole) (defScope s_law_whole) .none kV18 dc18 pm18 an18 cd18 ct18), sl18⟩)
    (c18 : PySem.W.codeIn K cd18 "_law_whole" = true)
    (k18 : PySem.W.keepIn K (.ref f18) = true)
    (a19 : PySem.W.nsIn K mainGlobals "_law_is_prime" = some (some (.ref f19)))
    (l19 : K.lookup f19 = some ⟨oc19, od19, .func (PySem.W.fnOf "_law_is_prime" "_law_is_prime" (defArgs s_law_is_prime) (defBody s_law_is_prime) (defScope s_law_is_prime) .none kV19 dc19 pm19 an19 cd19 ct19), sl19⟩)
    (c19 : PySem.W.codeIn K cd19 "_law_is_prime" = true)
    (k19 : PySem.W.keepIn K (.ref f19) = true)
    (a20 : PySem.W.nsIn K mainGlobals "_law_prime" = some (some (.ref f20)))
    (l20 : K.lookup f20 = some ⟨oc20, od20, .func (PySem.W.fnOf "_law_prime" "_law_prime" (defArgs s_law_prime) (defBody s_law_prime) (defScope s_law_prime) .none kV20 dc20 pm20 an20 cd20 ct20), sl20⟩)
    (c20 : PySem.W.codeIn K cd20 "_law_prime" = true)
    (k20 : PySem.W.keepIn K (.ref f20) = true)
    (a21 : PySem.W.nsIn K mainGlobals "_law_number" = some (some (.ref f21)))
    (l21 : K.lookup f21 = some ⟨oc21, od21, .func (PySem.W.fnOf "_law_number" "_law_number" (defArgs s_law_number) (defBody s_law_number) (defScope s_law_number) .none kV21 dc21 pm21 an21 cd21 ct21), sl21⟩)
    (c21 : PySem.W.codeIn K cd21 "_law_number" = true)
    (k21 : PySem.W.keepIn K (.ref f21) = true)
    (a22 : PySem.W.nsIn K mainGlobals "_law_both" = some (some (.ref f22)))
    (l22 : K.lookup f22 = some ⟨oc22, od22, .func (PySem.W.fnOf "_law_both" "_law_both" (defArgs s_law_both) (defBody s_law_both) (defScope s_law_both) .none kV22 dc22 pm22 an22 cd22 ct22), sl22⟩)
    (c22 : PySem.W.codeIn K cd22 "_law_both" = true)
    (k22 : PySem.W.keepIn K (.ref f22) = true)
    (a23 : PySem.W.nsIn K mainGlobals "_law_right" = some (some (.ref f23)))
    (l23 : K.lookup f23 = some ⟨oc23, od23, .func (PySem.W.fnOf "_law_right" "_law_right" (defArgs s_law_right) (defBody s_law_right) (defScope s_law_right) .none kV23 dc23 pm23 an23 cd23 ct23), sl23⟩)
    (c23 : PySem.W.codeIn K cd23 "_law_right" = true)
    (k23 : PySem.W.keepIn K (.ref f23) = true)
    (a24 : PySem.W.nsIn K mainGlobals "law" = some (some (.ref f24)))
    (l24 : K.lookup f24 = some ⟨oc24, od24, .func (PySem.W.fnOf "law" "law" (defArgs s_law) (defBody s_law) (defScope s_law) .none kV24 dc24 pm24 an24 cd24 ct24), sl24⟩)
    (c24 : PySem.W.codeIn K cd24 "law" = true)
    (k24 : PySem.W.keepIn K (.ref f24) = true)
    (m1 : PySem.W.nsIn K mainGlobals "GREATEST" = some (some (.int 9973 t1)))
    (m2 : PySem.W.nsIn K mainGlobals "isqrt" = some (some (.builtin "math.isqrt")))
    (b_len : PySem.W.nsIn K mainGlobals "len" = some none)
    (b_range : PySem.W.nsIn K mainGlobals "range" = some none)
    (b_sum : PySem.W.nsIn K mainGlobals "sum" = some none)
    (b_sorted : PySem.W.nsIn K mainGlobals "sorted" = some none)
    (b_set : PySem.W.nsIn K mainGlobals "set" = some none)
    (b_tuple : PySem.W.nsIn K mainGlobals "tuple" = some none)
    (b_list : PySem.W.nsIn K mainGlobals "list" = some none)
    (b_isinstance : PySem.W.nsIn K mainGlobals "isinstance" = some none)
    (b_int : PySem.W.nsIn K mainGlobals "int" = some none)
    (b_bool : PySem.W.nsIn K mainGlobals "bool" = some none)
    (b_min : PySem.W.nsIn K mainGlobals "min" = some none)
    (b_all : PySem.W.nsIn K mainGlobals "all" = some none)
    (b_enumerate : PySem.W.nsIn K mainGlobals "enumerate" = some none)
    (b_any : PySem.W.nsIn K mainGlobals "any" = some none)
    (b_divmod : PySem.W.nsIn K mainGlobals "divmod" = some none) :
    ∃ fd : FuncData, (∀ (s : Shared) (v : Value), BindsTo s fd ⟨[v], []⟩ [("script", v)]) ∧
      ∀ base : Heap, K.In base → base.Ns mainGlobals mg → FnG P w K mg base CX0 7 fa fd ["script"] (spLaw K) := by
  have F_is_below : Fn K mg "is_below" s_is_below := fn_top X G a1 l1 c1 k1
  have F_look_at_seat : Fn K mg "look_at_seat" s_look_at_seat := fn_top X G a2 l2 c2 k2
  have F_lies : Fn K mg "lies" s_lies := fn_top X G a3 l3 c3 k3
  have F_shared : Fn K mg "shared" s_shared := fn_top X G a4 l4 c4 k4
  have F_look_at_prime : Fn K mg "_look_at_prime" s_look_at_prime := fn_top X G a5 l5 c5 k5
  have F_u_look_at_seat : Fn K mg "_look_at_seat" s_u_look_at_seat := fn_top X G a6 l6 c6 k6
  have F_look_at_set : Fn K mg "_look_at_set" s_look_at_set := fn_top X G a7 l7 c7 k7
  have F_last : Fn K mg "_last" s_last := fn_top X G a8 l8 c8 k8
  have F_is_far : Fn K mg "_is_far" s_is_far := fn_top X G a9 l9 c9 k9
  have F_is_upright : Fn K mg "_is_upright" s_is_upright := fn_top X G a10 l10 c10 k10
  have F_far_seat : Fn K mg "_far_seat" s_far_seat := fn_top X G a11 l11 c11 k11
  have F_seat_over : Fn K mg "_seat_over" s_seat_over := fn_top X G a12 l12 c12 k12
  have F_set_through : Fn K mg "_set_through" s_set_through := fn_top X G a13 l13 c13 k13
  have F_holding : Fn K mg "holding" s_holding := fn_top X G a14 l14 c14 k14
  have F_inverse : Fn K mg "_inverse" s_inverse := fn_top X G a15 l15 c15 k15
  have F_law_wide : Fn K mg "_law_wide" s_law_wide := fn_top X G a16 l16 c16 k16
  have F_law_take : Fn K mg "_law_take" s_law_take := fn_top X G a17 l17 c17 k17
  have F_law_whole : Fn K mg "_law_whole" s_law_whole := fn_top X G a18 l18 c18 k18
  have F_law_is_prime : Fn K mg "_law_is_prime" s_law_is_prime := fn_top X G a19 l19 c19 k19
  have F_law_prime : Fn K mg "_law_prime" s_law_prime := fn_top X G a20 l20 c20 k20
  have F_law_number : Fn K mg "_law_number" s_law_number := fn_top X G a21 l21 c21 k21
  have F_law_both : Fn K mg "_law_both" s_law_both := fn_top X G a22 l22 c22 k22
  have F_law_right : Fn K mg "_law_right" s_law_right := fn_top X G a23 l23 c23 k23
  have F_law : Fn K mg "law" s_law := fn_top X G a24 l24 c24 k24
  have B_len := PySem.W.mg_none_of X G b_len
  have B_range := PySem.W.mg_none_of X G b_range
  have B_sum := PySem.W.mg_none_of X G b_sum
  have B_sorted := PySem.W.mg_none_of X G b_sorted
  have B_set := PySem.W.mg_none_of X G b_set
  have B_tuple := PySem.W.mg_none_of X G b_tuple
  have B_list := PySem.W.mg_none_of X G b_list
  have B_isinstance := PySem.W.mg_none_of X G b_isinstance
  have B_int := PySem.W.mg_none_of X G b_int
  have B_bool := PySem.W.mg_none_of X G b_bool
  have B_min := PySem.W.mg_none_of X G b_min
  have B_all := PySem.W.mg_none_of X G b_all
  have B_enumerate := PySem.W.mg_none_of X G b_enumerate
  have B_any := PySem.W.mg_none_of X G b_any
  have B_divmod := PySem.W.mg_none_of X G b_divmod
  exact law_end F_law hfa (fun _ _ _ _ _ _ s v => .of_eq rfl) fun base _ _ => whole ⟨⟨B_len, B_range, B_sum, B_sorted, B_set, B_tuple, B_list, B_isinstance, B_int, B_bool, B_min, B_all, B_enumerate⟩, B_any, B_divmod, PySem.W.mg_of X G m2, ⟨t1, PySem.W.mg_of X G m1⟩⟩
    F_is_below F_look_at_seat F_lies F_shared F_look_at_prime F_u_look_at_seat F_look_at_set F_last F_is_far F_is_upright F_far_seat F_seat_over F_set_through F_holding F_inverse F_law_wide F_law_take F_law_whole F_law_is_prime F_law_prime F_law_number F_law_both F_law_right F_law
end G0
open PySem PySem.W PyProof.Rows in
set_option maxRecDepth 100000 in
set_option maxHeartbeats 0 in
set_option pp.maxSteps 20 in
theorem PySem.Challenge.cw_soleseat_k52_whole_two_seats_in_one_holds : PySem.Challenge.rw_soleseat_k52_whole_two_seats_in_one.Holds := by
  w_on; o_law; k_head; (case hw => w_witness2)
  k_fill
  refine G0.walk_ofG (l := PySem.Challenge.rw_soleseat_k52_whole_two_seats_in_one) (n := 63) (k := 7) (x := "script") (sp := G0.spLaw) rfl (by decide) rfl ⟨rfl, by decide, by decide⟩ (fun w h Y => PySem.W.kIn_of Y) ?F (fun K H a ns hl _ hS => ⟨a, ns, rfl, hS, hl, fun _ => rfl⟩)
  case F =>
    intro w mg fa h KX G hmg
    refine' G0.all_mk KX G hmg ?a1 ?l1 ?c1 ?k1 ?a2 ?l2 ?c2 ?k2 ?a3 ?l3 ?c3 ?k3 ?a4 ?l4 ?c4 ?k4 ?a5 ?l5 ?c5 ?k5 ?a6 ?l6 ?c6 ?k6 ?a7 ?l7 ?c7 ?k7 ?a8 ?l8 ?c8 ?k8 ?a9 ?l9 ?c9 ?k9 ?a10 ?l10 ?c10 ?k10 ?a11 ?l11 ?c11 ?k11 ?a12 ?l12 ?c12 ?k12 ?a13 ?l13 ?c13 ?k13 ?a14 ?l14 ?c14 ?k14 ?a15 ?l15 ?c15 ?k15 ?a16 ?l16 ?c16 ?k16 ?a17 ?l17 ?c17 ?k17 ?a18 ?l18 ?c18 ?k18 ?a19 ?l19 ?c19 ?k19 ?a20 ?l20 ?c20 ?k20 ?a21 ?l21 ?c21 ?k21 ?a22 ?l22 ?c22 ?k22 ?a23 ?l23 ?c23 ?k23 ?a24 ?l24 ?c24 ?k24 ?m1 ?m2 ?b_len ?b_range ?b_sum ?b_sorted ?b_set ?b_tuple ?b_list ?b_isinstance ?b_int ?b_bool ?b_min ?b_all ?b_enumerate ?b_any ?b_divmod
    (case a1 => k_is)
    (case l1 => k_is)
    (case c1 => k_is)
    (case k1 => k_is)
    (case a2 => k_is)
    (case l2 => k_is)
    (case c2 => k_is)
    (case k2 => k_is)
    (case a3 => k_is)
    (case l3 => k_is)
    (case c3 => k_is)
    (case k3 => k_is)
    (case a4 => k_is)
    (case l4 => k_is)
    (case c4 => k_is)
    (case k4 => k_is)
    (case a5 => k_is)
    (case l5 => k_is)
    (case c5 => k_is)
    (case k5 => k_is)
    (case a6 => k_is)
    (case l6 => k_is)
    (case c6 => k_is)
    (case k6 => k_is)
    (case a7 => k_is)
    (case l7 => k_is)
    (case c7 => k_is)
    (case k7 => k_is)
    (case a8 => k_is)
    (case l8 => k_is)
    (case c8 => k_is)
    (case k8 => k_is)
    (case a9 => k_is)
    (case l9 => k_is)
    (case c9 => k_is)
    (case k9 => k_is)
    (case a10 => k_is)
    (case l10 => k_is)
    (case c10 => k_is)
    (case k10 => k_is)
    (case a11 => k_is)
    (case l11 => k_is)
    (case c11 => k_is)
    (case k11 => k_is)
    (case a12 => k_is)
    (case l12 => k_is)
    (case c12 => k_is)
    (case k12 => k_is)
    (case a13 => k_is)
    (case l13 => k_is)
    (case c13 => k_is)
    (case k13 => k_is)
    (case a14 => k_is)
    (case l14 => k_is)
    (case c14 => k_is)
    (case k14 => k_is)
    (case a15 => k_is)
    (case l15 => k_is)
    (case c15 => k_is)
    (case k15 => k_is)
    (case a16 => k_is)
    (case l16 => k_is)
    (case c16 => k_is)
    (case k16 => k_is)
    (case a17 => k_is)
    (case l17 => k_is)
    (case c17 => k_is)
    (case k17 => k_is)
    (case a18 => k_is)
    (case l18 => k_is)
    (case c18 => k_is)
    (case k18 => k_is)
    (case a19 => k_is)
    (case l19 => k_is)
    (case c19 => k_is)
    (case k19 => k_is)
    (case a20 => k_is)
    (case l20 => k_is)
    (case c20 => k_is)
    (case k20 => k_is)
    (case a21 => k_is)
    (case l21 => k_is)
    (case c21 => k_is)
    (case k21 => k_is)
    (case a22 => k_is)
    (case l22 => k_is)
    (case c22 => k_is)
    (case k22 => k_is)
    (case a23 => k_is)
    (case l23 => k_is)
    (case c23 => k_is)
    (case k23 => k_is)
    (case a24 => k_is)
    (case l24 => k_is)
    (case c24 => k_is)
    (case k24 => k_is)
    (case m1 => k_is)
    (case m2 => k_is)
    (case b_len => k_is)
    (case b_range => k_is)
    (case b_sum => k_is)
    (case b_sorted => k_is)
    (case b_set => k_is)
    (case b_tuple => k_is)
    (case b_list => k_is)
    (case b_isinstance => k_is)
    (case b_int => k_is)
    (case b_bool => k_is)
    (case b_min => k_is)
    (case b_all => k_is)
    (case b_enumerate => k_is)
    (case b_any => k_is)
    (case b_divmod => k_is)
#print axioms PySem.Challenge.cw_soleseat_k52_whole_two_seats_in_one_holds
namespace G0

end G0
