import PyProof.Rows.All
import Wide.All
import OpenK.AllK
import Wide.FinOn
import KE.DatumIndex
import KE.GoesEnum
import KE.GoesMore
import PyProof.ReprRoads
import PyProof.ReprLen
import HandS.ForMost
import HandS.WordsExc
import HandS.Wide
import HandS.Evl
import HandS.Style
import HandS.IsInst
import HandS.Conv
import HandS.Zip
import HandS.Rev
import HandS.TupMul
import HandS.TupAny
import HandS.TupLe
import HandS.Defaults
import HandS.Head0
import HandS.Head1
import HandS.Head2
import HandS.HeadEnd
import HandS.HeadHook1
import HandS.HeadHook2
import PySem.Challenge.RW_stepforms_k11_whole_deeds
set_option Elab.async false
set_option linter.all false
set_option maxRecDepth 100000
set_option maxHeartbeats 4000000
namespace Gd
open PySem PySem.Spec PyProof.Rows L2
/-- a def that is called where no repr is under way -/
structure FnG (P : Program) (w : World) (K : PySem.W.Frag) (mg : Str → Option Value)
    (base : Heap) (k : Nat) (f : Addr) (fd : FuncData) (ps : List Str) (sp : Sp) : Prop where
  len : ∀ vs H Q E, sp vs H Q E → vs.length = ps.length
  go : ∀ (A : Around) (outer : List Env) (s : Shared) (H : Hp) (args : Args)
    (us : List Value) (vs : List V) (Q : VK) (E : XK),
    A.guards = some [] → Room k A → Env0 P w K mg base A outer s H →
    BindsTo s fd args (ps.zip us) → Vals vs us → sp vs H Q E →
    codeAny (model P w) A (.call (.ref f) args) (CR CX0 outer P w H s Q E) s
theorem guards_deeper {A : Around} {env : Env} (h : A.guards = some []) :
    (A.deeper env).guards = some [] := by
  first
    | exact h
    | (unfold Around.deeper; exact h)
    | simp [Around.deeper, h]
section
variable {P : Program} {w : World} {K : PySem.W.Frag} {mg : Str → Option Value} {base : Heap}
  {x qual : Str} {params : Arguments} {body : List Stmt} {scope : Scope} {dvs : List V}
  {kws : List (Str × V)} {f : Addr} {fd : FuncData}
/-- such a def by its body; the body knows that no repr is under way -/
theorem okG {N ps : List Str} {k : Nat} {sp : Sp}
    (F : FunD K x qual params body scope dvs kws f fd) (S : FnScope N ps scope)
    (len : ∀ vs H Q E, sp vs H Q E → vs.length = ps.length)
    (hbody : ∀ (cdv : Value) (A : Around) (outer : List Env) (s : Shared) (H : Hp)
      (vs : List V) (Q : VK) (E : XK),
      (A.deeper (envOfC qual scope s.heap.objs.size f cdv)).guards = some [] →
      Room k (A.deeper (envOfC qual scope s.heap.objs.size f cdv)) → sp vs H Q E →
      ∃ t, PSs (cxOf CX0 P w K mg base N qual scope f cdv A outer s H E) body t ∧
        t { nx := fun _ H' => Q .non H', rt := Q } (start N vs) H) :
    FnG P w K mg base (k + 1) f fd ps sp := by
  obtain ⟨oc, od, dV, kV, doc, pm, an, cdv, ct, osl, rfl, hat, hcode, _, _⟩ := F.ex
  refine ⟨len, ?_⟩
  intro A outer s H args us vs Q E hG room env bind rel want
  have kin : K.In s.heap :=
    env.mod.kin.keeps (fun b o e => (env.bs b o e).1)
  have nolim : s.heap.NoLimit :=
    env.mod.nolimit.keeps (fun b o e => (env.bs b o e).1)
  refine codeAny_call_function room.depth (kin _ _ hat) rfl S.co S.gen rfl
    (PySem.W.codeRec_of kin hcode) (bind _ _ _ _ ?_)
  refine wpAny_newFunctionEnv_cells S.kind ?_ ?_
  · rintro ⟨n, v⟩ hy
    cases S.par n (List.of_mem_zip hy).1 with
    | inl q => exact Or.inl q
    | inr q => exact Or.inr ⟨q, PySem.W.cellsFrom_some _ _ _ (.inl q)⟩
  · intro en he s1 made
    subst he
    refine ⟨nolim.keeps made.toInCall.keep, codeAny_func ?_⟩
    obtain ⟨t, derived, told⟩ :=
      hbody cdv A outer s H vs Q E (guards_deeper hG) (room.deeper _) want
    have inv0 := inv_start (CX := CX0) (E := E) S room.hd env (len _ _ _ _ want) rel made
    refine wpAny_mono (derived.run [] s1 (start N vs) H _ inv0 told) ?_ (fun _ _ z => z)
    intro fl s' hs
    cases fl with
    | brk => exact False.elim hs.choose_spec.choose_spec.2
    | cont => exact False.elim hs.choose_spec.choose_spec.2
    | next =>
      obtain ⟨_, H', J, q⟩ := hs
      exact ⟨.non, H', J.os, J.bare, J.base, J.hok, rfl, q⟩
    | ret u =>
      obtain ⟨v, _, H', J, rv, q⟩ := hs
      exact ⟨v, H', J.os, J.bare, J.base, J.hok, rv, q⟩
end
section
variable {X : Cx} {k : Nat} {f : Addr} {fd : FuncData} {ps : List Str} {sp : Sp}
  {E : XK} {x : Str} {p pos : Pos} {e : Expr} {es : List Expr} {t : TA}
/-- the call of such a def from a body that knows the same -/
theorem pe_callG (F : FnG X.prog X.w X.K X.mg X.base k f fd ps sp)
    (hG : X.A.guards = some []) (hr : Room k X.A) (hg : Gl X x)
    (hm : X.mg x = some (.ref f)) (hk : PySem.W.keepIn X.K (.ref f) = true)
    (hb : Binds X.K fd ps []) (ha : PA X (e :: es) t)
    (hdb : (x == ("__debug__" : Str)) = false := by decide)
    (he : starEach (e :: es) X.env = (false, eval e X.env) :: starEach es X.env := by rfl)
    (hpl : (backTo pos (starEach es X.env)).any (·.1) = false := by rfl) :
    PE X (.Call (.Name x p) (e :: es) [] pos) (tCall sp [] E0 t) := by
  constructor
  intro pins s σ H Q I h
  refine wpAny_Call_Name_kw (ld_glob I hg hm ?_ hdb)
  refine PySem.W.callWith_K (h₀ := X.base) I.ok.mod.kin hk (thn (ha.run pos pins s σ H _ I h) ?_) he hpl
  rintro us s1 ⟨vs, H1, I1, r, q⟩
  refine ⟨I1.kIn, ?_⟩
  have q' : sp (vs ++ []) H1 Q E0 := q
  rw [List.append_nil] at q'
  have hl : (us ++ []).length = ps.length := by
    rw [List.append_nil, ← r.length]
    exact F.len _ _ _ _ q'
  have hbb := hb s1 us I1.kIn hl
  rw [List.append_nil] at hbb
  refine wpAny_call (codeAny_mono (F.go X.A X.stack s1 H1 ⟨us, []⟩ us vs Q E0 hG hr I1.env0 hbb r q') ?_)
  intro r s' hq
  cases r with
  | error e => exact False.elim hq
  | ok fl =>
    cases fl with
    | next => exact False.elim hq
    | brk => exact False.elim hq
    | cont => exact False.elim hq
    | ret u => exact I1.after hq
end
section
variable {X : Cx}
/-- repr of data -/
def rRepr (K : PySem.W.Frag) : List V → Hp → VK → Prop := fun vs H Q =>
  ∃ (a : Addr) (d : PyData), vs = [.ref a] ∧ Dp K H (.ref a) d ∧ d.showable = true ∧
    d.hasDict = false ∧ d.depth ≤ 60 ∧ d.shown.length ≤ sizeLine ∧ Q (.str d.shown) H
theorem call_repr (hG : X.A.guards = some []) (hu : X.A.units + 64 < cLine) :
    CallR X (.builtin "repr") (rRepr X.K) := by
  intro pins s σ H xs us Q I r h
  obtain ⟨a, d, rfl, hd, hs, hn, hdp, hz, q⟩ := h
  have hu1 := Vals.ref1 r
  rw [hu1]
  obtain ⟨as, rd⟩ := Dp.reads I d _ _ hd (show RelV (.ref a) (.ref a) from rfl)
  refine repr_of_reads' rd hs (fun e => by rw [hn] at e; cases e) hG (by omega) (fun _ _ e => e) ?_ hz
  intro h' u tk hk
  exact ⟨.str d.shown, H, I.kept hk, ⟨u, rfl⟩, q⟩
/-- floor division by any great divisor but 0 -/
def CDivA (_ j : Int) : Prop := j ≠ 0 ∧ j.natAbs.log2 < 9000
theorem op_fdivA : OpR X (binaryOp .FloorDiv) (rI CDivA fun i j => .int (i.fdiv j)) :=
  opI fun i j _ _ _ _ _ hc q =>
    floordiv_int hc.1 q (.inl (PyProof.noPylong_of_log2 hc.2))
end
end Gd
namespace Gd
open PySem PySem.Spec PyProof.Rows L2
section
variable {P : Program} {w : World} {K : PySem.W.Frag} {mg mb : Str → Option Value}
  {k : Nat} {fa a : Addr} {fd : FuncData} {x : Str} {sp : Sp} {s : Shared}
  {vs : List Value} {ns : List Int}
/-- the abstract heap of a law's entry tracks the script alone -/
theorem law_coreG (kin : K.In s.heap) (hns : s.heap.Ns mainGlobals mg)
    (hb : s.heap.Ns builtinsNs mb) (hbb : ∀ x : Str, x ≠ "__name__" → mb x = bootBuiltins x)
    (hlim : s.heap.NoLimit) (hgens : s.gens = #[])
    (hat : s.heap.get? a = some { cls := .type "list", data := .seq vs.toArray })
    (hr : Room k callerA)
    (F : ∀ base : Heap, K.In base → base.Ns mainGlobals mg → FnG P w K mg base k fa fd [x] sp)
    (hbind : ∀ (s : Shared) (u : Value), BindsTo s fd ⟨[u], []⟩ [(x, u)])
    (H : Hp) (hO : Only H) (hok : HOk P w H s.heap) (hA : ∀ b, H b ≠ none → b = a)
    (hK : H a ≠ none → K.lookup a = none)
    (hsp : sp [.ref a] H (fun v _ => v = .bl true) E0) :
    codeAny (model P w) callerA (.call (.ref fa) ⟨[.ref a], []⟩)
      (fun r s' => r = .ok (.ret (.bool true)) ∧ OldK s.heap s'.heap ∧ s'.os = s.os ∧
        AllBare s'.gens) s := by
  have free_of : ∀ b : Addr, b ≠ a → H b = none := by
    intro b hb
    cases q : H b with
    | none => rfl
    | some u => exact absurd (hA b (by rw [q]; exact Option.some_ne_none u)) hb
  have dictFree : ∀ {b : Addr} {o : Obj} {es : Array DictEntry} {ep : Nat},
      s.heap.get? b = some o → o.data = .dict es ep → H b = none := by
    intro b o es ep e d
    refine free_of b ?_
    rintro rfl
    rw [hat] at e
    cases e
    cases d
  have nsHid : ∀ {b : Addr} {m : Str → Option Value},
      s.heap.Ns b m → (hidT s.heap H).Ns b m := by
    rintro b m ⟨o, es, ep, e, d, r⟩
    exact ⟨o, es, ep, hidT_get e (dictFree e d), d, r⟩
  have kinHid : K.In (hidT s.heap H) := by
    intro b o e
    refine hidT_get (kin b o e) ?_
    by_cases h : b = a
    · subst h
      cases q : H b with
      | none => rfl
      | some u =>
        rw [hK (by rw [q]; exact Option.some_ne_none u)] at e
        cases e
    · exact free_of b h
  obtain ⟨mc, hl1, hl2⟩ := hlim
  have modHid : Mod K mg (hidT s.heap H) :=
    ⟨kinHid, nsHid hns, ⟨mb, nsHid hb, hbb⟩, ⟨mc, nsHid hl1, hl2⟩⟩
  have env : Env0 P w K mg (hidT s.heap H) callerA [] s H := by
    refine ⟨rfl, modHid, fun b o e => of_hidT e, Nat.le_of_eq (hidT_size _ _), trivial, ?_, hok, .of_eq hgens⟩
    intro b hb
    cases hb
  have run := (F _ kinHid (nsHid hns)).go callerA [] s H ⟨[.ref a], []⟩ [.ref a] [.ref a] _ _
    rfl hr env (hbind s (.ref a)) (.cons rfl .nil) hsp
  refine codeAny_mono run ?_
  intro r s' h
  cases r with
  | error e => exact False.elim h
  | ok fl =>
    cases fl with
    | next => exact False.elim h
    | brk => exact False.elim h
    | cont => exact False.elim h
    | ret u =>
      obtain ⟨v, H', os, bare, un, hok', rel, rfl⟩ := h
      cases rel
      refine ⟨rfl, OldK.of_keep ?_, os, bare⟩
      intro b o e
      cases q : H b with
      | none => exact un.keep b o e q (fun z => by cases z) (fun z => by cases z)
      | some u =>
        rcases hO b with z | ⟨ob, xs, z⟩
        · rw [q] at z
          cases z
        · have e1 := (hok b _ z).1
          have e2 := (hok' b _ (un.frzs b ob _ z)).1
          rw [e] at e1
          cases e1
          exact e2
theorem law_goG (kin : K.In s.heap) (hns : s.heap.Ns mainGlobals mg)
    (hb : s.heap.Ns builtinsNs mb) (hbb : ∀ x : Str, x ≠ "__name__" → mb x = bootBuiltins x)
    (hlim : s.heap.NoLimit) (hgens : s.gens = #[])
    (hat : s.heap.get? a = some { cls := .type "list", data := .seq vs.toArray })
    (hi : IntsAre vs ns) (hl : ns.length ≤ sizeLine) (hr : Room k callerA)
    (F : ∀ base : Heap, K.In base → base.Ns mainGlobals mg → FnG P w K mg base k fa fd [x] sp)
    (hbind : ∀ (s : Shared) (u : Value), BindsTo s fd ⟨[u], []⟩ [(x, u)])
    (hsp : ∀ H : Hp, Only H → SqL K H a (ns.map V.int) →
      sp [.ref a] H (fun v _ => v = .bl true) E0) :
    codeAny (model P w) callerA (.call (.ref fa) ⟨[.ref a], []⟩)
      (fun r s' => r = .ok (.ret (.bool true)) ∧ OldK s.heap s'.heap ∧ s'.os = s.os ∧
        AllBare s'.gens) s := by
  have rel := vals_ints hi
  have lenEq := hi.length
  cases hk : K.lookup a with
  | some o =>
    have e := kin a o hk
    rw [hat] at e
    cases e
    have hO : Only (fun _ => none) := fun _ => Or.inl rfl
    have hS : SqL K (fun _ => none) a (ns.map V.int) :=
      Or.inr ⟨_, vs.toArray, _, hk, rfl, rfl, rfl,
        by rw [List.size_toArray, lenEq]; exact hl, by simpa using rel⟩
    exact law_coreG kin hns hb hbb hlim hgens hat hr F hbind _ hO
      (fun b u z => nomatch z) (fun b z => absurd rfl z) (fun z => absurd rfl z) (hsp _ hO hS)
  | none =>
    let H : Hp := fun b => if b = a then
      some (.frz { cls := .type "list", data := .seq vs.toArray } (.lst (ns.map V.int))) else none
    have at_a : H a = some (.frz { cls := .type "list", data := .seq vs.toArray }
      (.lst (ns.map V.int))) := if_pos rfl
    have off : ∀ b, b ≠ a → H b = none := fun b h => if_neg h
    have hO : Only H := by
      intro b
      by_cases h : b = a
      · subst h
        exact Or.inr ⟨_, _, at_a⟩
      · exact Or.inl (off b h)
    have hS : SqL K H a (ns.map V.int) := Or.inl (Or.inr ⟨_, at_a⟩)
    refine law_coreG kin hns hb hbb hlim hgens hat hr F hbind H hO ?_ ?_ (fun _ => hk) (hsp H hO hS)
    · intro b u z
      by_cases h : b = a
      · subst h
        rw [at_a] at z
        cases z
        exact ⟨hat, by rw [List.length_map]; exact hl, vs, _, rel, hat⟩
      · rw [off b h] at z
        cases z
    · intro b z
      by_cases h : b = a
      · exact h
      · exact absurd (off b h) z
end
/-- a law's end -/
theorem walkG {l : PySem.W.OpenLaw} {n k : Nat} {q : Program} {loose : List Str}
    {XP : (Str → Option Value) → Heap → Prop} {YP : World → Heap → Prop} {d : DefRec} {x : Str}
    (hn : l.most = some n) (hn2 : n ≤ sizeLine) (hdf : d.params.defaults = [])
    (hr : Room k callerA)
    (F : ∀ (w : World) (mg : Str → Option Value) (fa : Addr) (h : Heap), YP w h →
      h.Ns mainGlobals mg → mg d.name = some (.ref fa) →
      ∃ (K : PySem.W.Frag) (fd : FuncData) (sp : Sp), K.In h ∧
        (∀ (s : Shared) (u : Value), BindsTo s fd ⟨[u], []⟩ [(x, u)]) ∧
        (∀ (H : Hp) (a : Addr) (ns : List Int), ns.length ≤ n → Only H →
          SqL K H a (ns.map V.int) → sp [.ref a] H (fun v _ => v = .bl true) E0) ∧
        ∀ base : Heap, K.In base → base.Ns mainGlobals mg → FnG l.prog w K mg base k fa fd [x] sp) :
    PySem.W.WalkO q loose XP YP l.row.toRowW d [] (fun f vs => PySem.call f vs) := by
  refine Att.attach_call hn hdf ?_
  intro w s₀ s₁ mg mb fa o pm cd doc a vs ns G Y _ _ _ hmg hobj hints hlen hgens
  obtain ⟨K, fd, sp, kin, hb, hsp, hF⟩ := F w mg fa _ Y G.T.g hmg
  exact law_goG kin G.T.g G.T.b G.T.builtins G.T.nolimit hgens hobj hints
    (Nat.le_trans hlen hn2) hr hF hb (fun H hO hS => hsp H a ns hlen hO hS)
end Gd
namespace Gd
open PySem PySem.Spec PyProof.Rows L2
/-- the def x of the text stands at its name -/
def Df (K : PySem.W.Frag) (mg : Str → Option Value) (x : Str) (st : Stmt) : Prop :=
  ∃ f fd, FunD K x x (defArgs st) (defBody st) (defScope st) [] [] f fd ∧ mg x = some (.ref f)
/-- the def x keeps its promise; the same where no repr is under way -/
def Has (P : Program) (w : World) (K : PySem.W.Frag) (mg : Str → Option Value) (base : Heap)
    (x : Str) (k : Nat) (ps : List Str) (sp : Sp) : Prop :=
  ∃ f fd, FnOk P w K mg base CX0 k f fd ps sp ∧ mg x = some (.ref f) ∧
    PySem.W.keepIn K (.ref f) = true ∧ Binds K fd ps []
def HasG (P : Program) (w : World) (K : PySem.W.Frag) (mg : Str → Option Value) (base : Heap)
    (x : Str) (k : Nat) (ps : List Str) (sp : Sp) : Prop :=
  ∃ f fd, FnG P w K mg base k f fd ps sp ∧ mg x = some (.ref f) ∧
    PySem.W.keepIn K (.ref f) = true ∧ Binds K fd ps []
abbrev BndOk (x : Str) (st : Stmt) (ps : List Str) : Prop :=
  ∀ (kV doc pm : Value) (an : Option Addr) (cdv ct : Value) (us : List Value),
    us.length = ps.length →
    bindArgs (PySem.W.fnOf x x (defArgs st) (defBody st) (defScope st) .none kV doc pm an cdv ct)
      ⟨us, []⟩ = pure (ps.zip us)
section
variable {P : Program} {w : World} {K : PySem.W.Frag} {mg : Str → Option Value} {base : Heap}
  {x : Str} {st : Stmt} {N ps : List Str} {k : Nat} {sp : Sp}
theorem has_of (D : Df K mg x st) (S : FnScope N ps (defScope st)) (hb : BndOk x st ps)
    (len : ∀ vs H Q E, sp vs H Q E → vs.length = ps.length)
    (hbody : ∀ (f : Addr) (cdv : Value) (A : Around) (outer : List Env) (s : Shared) (H : Hp)
      (vs : List V) (Q : VK) (E : XK),
      Room k (A.deeper (envOfC x (defScope st) s.heap.objs.size f cdv)) → sp vs H Q E →
      ∃ t, PSs (cxOf CX0 P w K mg base N x (defScope st) f cdv A outer s H E).nox (defBody st) t ∧
        t { nx := fun _ H' => Q .non H', rt := Q } (start N vs) H) :
    Has P w K mg base x (k + 1) ps sp := by
  obtain ⟨f, fd, F, hm⟩ := D
  refine ⟨f, fd, F.ok S len ?_, hm, F.kp, F.bindsN hb⟩
  intro cdv A outer s H vs Q E hr h
  obtain ⟨t, h1, h2⟩ := hbody f cdv A outer s H vs Q E hr h
  exact ⟨t, PSs.nox h1, h2⟩
theorem hasG_of (D : Df K mg x st) (S : FnScope N ps (defScope st)) (hb : BndOk x st ps)
    (len : ∀ vs H Q E, sp vs H Q E → vs.length = ps.length)
    (hbody : ∀ (f : Addr) (cdv : Value) (A : Around) (outer : List Env) (s : Shared) (H : Hp)
      (vs : List V) (Q : VK) (E : XK),
      (A.deeper (envOfC x (defScope st) s.heap.objs.size f cdv)).guards = some [] →
      Room k (A.deeper (envOfC x (defScope st) s.heap.objs.size f cdv)) → sp vs H Q E →
      ∃ t, PSs (cxOf CX0 P w K mg base N x (defScope st) f cdv A outer s H E).nox (defBody st) t ∧
        t { nx := fun _ H' => Q .non H', rt := Q } (start N vs) H) :
    HasG P w K mg base x (k + 1) ps sp := by
  obtain ⟨f, fd, F, hm⟩ := D
  refine ⟨f, fd, okG F S len ?_, hm, F.kp, F.bindsN hb⟩
  intro cdv A outer s H vs Q E hG hr h
  obtain ⟨t, h1, h2⟩ := hbody f cdv A outer s H vs Q E hG hr h
  exact ⟨t, PSs.nox h1, h2⟩
end
section
variable {X : Cx} {k : Nat} {ps : List Str} {sp : Sp} {x : Str} {p pos : Pos} {e : Expr}
  {es : List Expr} {t : TA}
theorem pe_has (F : Has X.prog X.w X.K X.mg X.base x k ps sp) (hr : Room k X.A) (hg : Gl X x)
    (ha : PA X (e :: es) t) (hdb : (x == ("__debug__" : Str)) = false := by decide)
    (he : starEach (e :: es) X.env = (false, eval e X.env) :: starEach es X.env := by rfl)
    (hpl : (backTo pos (starEach es X.env)).any (·.1) = false := by rfl) :
    PE X (.Call (.Name x p) (e :: es) [] pos) (tCall sp [] E0 t) := by
  obtain ⟨f, fd, G, hm, kp, hb⟩ := F
  exact pe_call G hr hg hm kp hb .nil pass0 ha hdb he hpl
theorem pe_hasG (F : HasG X.prog X.w X.K X.mg X.base x k ps sp) (hG : X.A.guards = some [])
    (hr : Room k X.A) (hg : Gl X x)
    (ha : PA X (e :: es) t) (hdb : (x == ("__debug__" : Str)) = false := by decide)
    (he : starEach (e :: es) X.env = (false, eval e X.env) :: starEach es X.env := by rfl)
    (hpl : (backTo pos (starEach es X.env)).any (·.1) = false := by rfl) :
    PE X (.Call (.Name x p) (e :: es) [] pos) (tCall sp [] E0 t) := by
  obtain ⟨f, fd, G, hm, kp, hb⟩ := F
  exact pe_callG G hG hr hg hm kp hb ha hdb he hpl
end
/-! ### heaps -/
/-- all but what stands at a is as it was -/
def Sb (a : Addr) (H H' : Hp) : Prop := ∀ b o, b ≠ a → H b = some o → H' b = some o
theorem Sb.refl (a : Addr) (H : Hp) : Sb a H H := fun _ _ _ h => h
theorem Sb.trans {a : Addr} {H H1 H2 : Hp} (x : Sb a H H1) (y : Sb a H1 H2) : Sb a H H2 :=
  fun b o n h => y b o n (x b o n h)
theorem Sb.of {a : Addr} {H H1 : Hp} (x : Same H H1) : Sb a H H1 := fun b o _ h => x b o h
theorem Same.new {H : Hp} {p : Addr} {o : HO} (h : H p = none) : Same H (upd H p o) :=
  fun b u e => by rw [upd_ne (ne_of_none e h)]; exact e
/-- an object that H does not know may change -/
theorem Same.mut {H H' : Hp} {p : Addr} {o : HO} (e : Same H H') (h : H p = none) :
    Same H (upd H' p o) := fun a u ha => by
  rw [upd_ne (ne_of_none ha h)]
  exact e a u ha
theorem Sb.mut {a : Addr} {H H' : Hp} {p : Addr} {o : HO} (e : Sb a H H') (h : H p = none) :
    Sb a H (upd H' p o) := fun b u n hb => by
  rw [upd_ne (ne_of_none hb h)]
  exact e b u n hb
theorem Sb.own {a : Addr} {H H' : Hp} {o : HO} (e : Sb a H H') : Sb a H (upd H' a o) :=
  fun b u n hb => by rw [upd_ne n]; exact e b u n hb
theorem Sb.new {a : Addr} {H : Hp} {p : Addr} {o : HO} (h : H p = none) : Sb a H (upd H p o) :=
  Sb.of (Same.new h)
theorem Sb.free {a p : Addr} {H H' : Hp} (e : Sb a H H') (n : p ≠ a) (h : H' p = none) :
    H p = none := by
  cases q : H p with
  | none => rfl
  | some o => rw [e p o n q] at h; cases h
/-- the feed of a law at a: its cells at s (the script's first ones), where it stands, what is left,
how many draws there were (n at most) -/
def Fd (H : Hp) (a s : Addr) (n : Nat) : Prop :=
  ∃ (ns : List Int) (p l c : Int),
    H a = some (.lst [.ref s, .int p, .int l, .int c]) ∧ H s = some (.lst (ns.map V.int)) ∧
    ns.length ≤ 63 ∧ 0 ≤ p ∧ 0 ≤ c ∧ c ≤ (n : Int)
theorem Fd.mono {H : Hp} {a s : Addr} {n m : Nat} (h : Fd H a s n) (e : n ≤ m) : Fd H a s m := by
  obtain ⟨ns, p, l, c, h1, h2, h3, h4, h5, h6⟩ := h
  exact ⟨ns, p, l, c, h1, h2, h3, h4, h5, by omega⟩
theorem Fd.same {H H' : Hp} {a s : Addr} {n : Nat} (h : Fd H a s n) (e : Same H H') : Fd H' a s n := by
  obtain ⟨ns, p, l, c, h1, h2, h3, h4, h5, h6⟩ := h
  exact ⟨ns, p, l, c, e _ _ h1, e _ _ h2, h3, h4, h5, h6⟩
theorem Fd.at {H : Hp} {a s : Addr} {n : Nat} (h : Fd H a s n) : ∃ xs, H a = some (.lst xs) := by
  obtain ⟨ns, p, l, c, h1, _⟩ := h
  exact ⟨_, h1⟩
/-- another object changes -/
theorem Fd.upd {H : Hp} {a s D : Addr} {n : Nat} {o : HO} (h : Fd H a s n) (h1 : D ≠ a) (h2 : D ≠ s) :
    Fd (L2.upd H D o) a s n := by
  obtain ⟨ns, p, l, c, e1, e2, h3, h4, h5, h6⟩ := h
  exact ⟨ns, p, l, c, by rw [upd_ne h1.symm]; exact e1, by rw [upd_ne h2.symm]; exact e2, h3, h4, h5, h6⟩
/-- what is new is none of the feed's -/
theorem Fd.apart {H : Hp} {a s D : Addr} {n : Nat} (h : Fd H a s n) (hD : H D = none) : D ≠ a ∧ D ≠ s := by
  obtain ⟨ns, p, l, c, e1, e2, _⟩ := h
  constructor
  · intro z
    rw [z, e1] at hD
    cases hD
  · intro z
    rw [z, e2] at hD
    cases hD
theorem Fd.tk {H H' : Hp} {a s : Addr} {n : Nat} (h : Fd H a s n) (e : Sb a H H') :
    ∀ b o, (∀ xs, o ≠ .lst xs) → H b = some o → H' b = some o := by
  obtain ⟨xs, hx⟩ := h.at
  intro b o no hb
  refine e b o ?_ hb
  rintro rfl
  rw [hx] at hb
  cases hb
  exact no _ rfl
end Gd
namespace Gd
open PySem PySem.Spec PyProof.Rows L2
/-- data whose repr is known: of this depth at most, its text of so many signs at most -/
def Sh (k n : Nat) (d : PyData) : Prop :=
  d.showable = true ∧ d.hasDict = false ∧ d.depth ≤ k ∧ d.shown.length ≤ n
theorem Sh.mono {k k' n n' : Nat} {d : PyData} (h : Sh k n d) (hk : k ≤ k') (hn : n ≤ n') :
    Sh k' n' d := ⟨h.1, h.2.1, Nat.le_trans h.2.2.1 hk, Nat.le_trans h.2.2.2 hn⟩
theorem Sh.int {i : Int} (h : i.natAbs < 2 ^ 1900) : Sh 0 1901 (.int i) := by
  have hl : i.natAbs.log2 < 1900 := PySem.Flt.log2_lt_of (by decide) h
  refine ⟨?_, ?_, ?_, ?_⟩
  · simp only [PyData.showable, decide_eq_true_eq]
    omega
  · simp only [PyData.hasDict]
  · simp only [PyData.depth]
    omega
  · have e := PySem.int_text_length_le (a := i) (k := 1900) (by decide) hl
    simp only [PyData.shown]
    have e2 := PySem.ofString_length (toString i)
    show (Str.ofString (toString i)).length ≤ 1901
    omega
theorem sh_all {k n : Nat} : ∀ ds : List PyData, (∀ d ∈ ds, Sh k n d) →
    PyData.showableAll ds = true ∧ PyData.hasDictAll ds = false ∧ PyData.depthAll ds ≤ k ∧
    ((PyData.shownAll ds).map (·.length)).sum ≤ ds.length * n ∧ (PyData.shownAll ds).length = ds.length
  | [], _ => by
    refine ⟨?_, ?_, ?_, ?_, ?_⟩
    · simp only [PyData.showableAll]
    · simp only [PyData.hasDictAll]
    · simp only [PyData.depthAll]
      omega
    · simp only [PyData.shownAll, List.map_nil, List.sum_nil, List.length_nil]
      omega
    · simp only [PyData.shownAll, List.length_nil]
  | d :: ds, h => by
    obtain ⟨a1, a2, a3, a4⟩ := h d (List.mem_cons_self ..)
    obtain ⟨b1, b2, b3, b4, b5⟩ := sh_all ds (fun x hx => h x (List.mem_cons_of_mem _ hx))
    refine ⟨?_, ?_, ?_, ?_, ?_⟩
    · simp only [PyData.showableAll, a1, b1, Bool.and_self]
    · simp only [PyData.hasDictAll, a2, b2, Bool.or_self]
    · simp only [PyData.depthAll]
      omega
    · simp only [PyData.shownAll, List.map_cons, List.sum_cons, List.length_cons, Nat.add_mul,
        Nat.one_mul]
      omega
    · simp only [PyData.shownAll, List.length_cons, b5]
theorem Sh.tup {k n m : Nat} {ds : List PyData} (h : ∀ d ∈ ds, Sh k n d) (hl : ds.length ≤ m) :
    Sh (k + 1) (m * (n + 2) + 3) (.tuple ds) := by
  obtain ⟨b1, b2, b3, b4, b5⟩ := sh_all ds h
  refine ⟨?_, ?_, ?_, ?_⟩
  · simp only [PyData.showable, b1]
  · simp only [PyData.hasDict, b2]
  · simp only [PyData.depth]
    omega
  · have e := PySem.tupleText_len_le (PyData.shownAll ds)
    simp only [PyData.shown]
    have e2 : ds.length * n ≤ m * n := Nat.mul_le_mul_right _ hl
    rw [Nat.mul_add]
    omega
theorem Sh.lst {k n m : Nat} {ds : List PyData} (h : ∀ d ∈ ds, Sh k n d) (hl : ds.length ≤ m) :
    Sh (k + 1) (m * (n + 2) + 3) (.list ds) := by
  obtain ⟨b1, b2, b3, b4, b5⟩ := sh_all ds h
  refine ⟨?_, ?_, ?_, ?_⟩
  · simp only [PyData.showable, b1]
  · simp only [PyData.hasDict, b2]
  · simp only [PyData.depth]
    omega
  · have e := PySem.listText_len_le (PyData.shownAll ds)
    simp only [PyData.shown]
    have e2 : ds.length * n ≤ m * n := Nat.mul_le_mul_right _ hl
    rw [Nat.mul_add]
    omega
theorem repr_at {K : PySem.W.Frag} {H : Hp} {a : Addr} {d : PyData} {k n : Nat} {Q : VK}
    (hd : Dp K H (.ref a) d) (hs : Sh k n d) (hk : k ≤ 60) (hn : n ≤ 16000000)
    (q : Q (.str d.shown) H) : rRepr K [.ref a] H Q :=
  ⟨a, d, rfl, hd, hs.1, hs.2.1, Nat.le_trans hs.2.2.1 hk,
    Nat.le_trans hs.2.2.2 (Nat.le_trans hn (by decide)), q⟩
/-- data that are there stay while what is tracked stays -/
theorem sql_same {K : PySem.W.Frag} {H H' : Hp} {a : Addr} {xs : List V} (e : Same H H')
    (h : SqL K H a xs) : SqL K H' a xs := e.seq h
theorem sqt_same {K : PySem.W.Frag} {H H' : Hp} {a : Addr} {xs : List V} (e : Same H H')
    (h : SqT K H a xs) : SqT K H' a xs := by
  rcases h with (h | ⟨o, h⟩) | h
  · exact Or.inl (Or.inl (e _ _ h))
  · exact Or.inl (Or.inr ⟨o, e _ _ h⟩)
  · exact Or.inr h
mutual
theorem Dp.same {K : PySem.W.Frag} {H H' : Hp} (e : Same H H') : ∀ (d : PyData) (v : V),
    Dp K H v d → Dp K H' v d
  | .none, _, h => by cases h; exact .non
  | .bool b, _, h => by cases h; exact .bl b
  | .int i, _, h => by cases h; exact .int i
  | .str x, _, h => by cases h; exact .str x
  | .list ds, _, h => by
    cases h with
    | lst hs ha => exact .lst (sql_same e hs) (DpAll.same e ds _ ha)
  | .tuple ds, _, h => by
    cases h with
    | tup hs ha => exact .tup (sqt_same e hs) (DpAll.same e ds _ ha)
  | .dict _, _, h => by cases h
theorem DpAll.same {K : PySem.W.Frag} {H H' : Hp} (e : Same H H') : ∀ (ds : List PyData)
    (vs : List V), DpAll K H vs ds → DpAll K H' vs ds
  | [], _, h => by cases h; exact .nil
  | d :: ds, _, h => by
    cases h with
    | cons h1 h2 => exact .cons (Dp.same e d _ h1) (DpAll.same e ds _ h2)
end
end Gd
namespace Gd
open PySem PySem.Spec PyProof.Rows L2
theorem tup_mul_one (l : Addr) (items : Array Value) (n : Nat) (dd : Option Addr)
    (sl : Array (Option Value)) (u : Tok) :
    Meets (Builtin.«tuple.__mul__» ⟨[.ref l, .int 1 u], []⟩) (fun _ R s =>
      s.heap.get? l = some { cls := .type "tuple", dict := dd, data := .seq items n, slots := sl } ∧
      R (.ok (.ret (Value.ref l))) s) :=
  .of_wp fun prog w A R s h => by
    obtain ⟨hp, g, d, tk, os⟩ := s
    obtain ⟨hl, h⟩ := h
    have f1 := AutoSeq1.idx_int
    have c1 : (items.isEmpty || (1 : Int) == 1) = true := by simp
    wp_walk using wpAny_loadPart' hl
    all_goals (try (refine wpAny_ite_true (decide_eq_true c1) ?_; wp_walk using wpAny_loadPart' hl))
    all_goals exact ⟨_, rfl, h⟩
theorem tup_mul_none (l : Addr) (items : Array Value) (n : Nat) (dd : Option Addr)
    (sl : Array (Option Value)) (x : Int) (u : Tok) (hx : x ≤ 0) (hx0 : -1000 ≤ x) (hi : items.isEmpty = false) :
    Meets (Builtin.«tuple.__mul__» ⟨[.ref l, .int x u], []⟩) (fun _ R s =>
      s.heap.get? l = some { cls := .type "tuple", dict := dd, data := .seq items n, slots := sl } ∧
      R (.ok (.ret (Value.ref s.heap.objs.size)))
        { s with heap := s.heap.push { cls := Value.type "tuple", data := Data.seq #[] }, toks := s.toks }) :=
  .of_wp fun prog w A R s h => by
    obtain ⟨hp, g, d, tk, os⟩ := s
    obtain ⟨hl, h⟩ := h
    have f1 := AutoSeq1.idx_int
    have c0 : (decide (x < -(2 ^ 63)) || decide (x ≥ 2 ^ 63)) = false := by
      rw [decide_eq_false (by omega), decide_eq_false (by omega)]; rfl
    have c1 : (items.isEmpty || x == 1) = false := by
      rw [hi, Bool.false_or]
      exact beq_eq_false_iff_ne.mpr (by omega)
    have c2 : (decide (x ≤ 0) || items.isEmpty) = true := by
      rw [decide_eq_true hx]; rfl
    wp_walk using wpAny_loadPart' hl
    repeat (first
      | (refine wpAny_ite_false (decide_eq_false (by rw [c0]; exact Bool.false_ne_true)) ?_; wp_walk using wpAny_loadPart' hl)
      | (refine wpAny_ite_false (decide_eq_false (by rw [c1]; exact Bool.false_ne_true)) ?_; wp_walk using wpAny_loadPart' hl)
      | (refine wpAny_ite_true (decide_eq_true c2) ?_; wp_walk using wpAny_loadPart' hl))
    exact ⟨_, rfl, h⟩
section
variable {X : Cx}
/-- t * k of a tuple with items, k small, of either sign -/
def rRepA (K : PySem.W.Frag) : R2 := fun x y H Q => ∃ (l : Addr) (k : Int) (xs : List V),
  x = .ref l ∧ y = .int k ∧ SqT K H l xs ∧ xs ≠ [] ∧ -1000 ≤ k ∧ k ≤ 1000 ∧ xs.length ≤ 1000 ∧
  ∀ (p : Addr) (H' : Hp), Same H H' → SqT K H' p (List.replicate k.toNat xs).flatten → Q (.ref p) H'
theorem op_repA : OpR X (binaryOp .Mult) (rRepA X.K) := by
  intro pins s σ H x y v u Q I rx ry h
  obtain ⟨l, k, xs, rfl, rfl, hT, hne, h1, h2, hz, q⟩ := h
  by_cases hk : 2 ≤ k
  · exact op_repT pins s σ H _ _ v u Q I rx ry ⟨l, k, xs, rfl, rfl, hT, hne, hk, h2, hz,
      fun p np => q p _ (Same.new np) (SqT.of upd_same)⟩
  · cases rx
    obtain ⟨t, rfl⟩ := ry
    obtain ⟨its, r, ⟨⟨cls, dd, data, sl⟩, ho, hc, n, hd⟩, hs⟩ := I.tuple hT
    simp only at hc hd
    subst hc hd
    by_cases hk1 : k = 1
    · subst hk1
      refine wpAny_binaryOp_repeat_ref (T := "tuple") (U := "int") (by decide) ⟨_, ho, rfl⟩
        (fun s' => typeIs_int s' 1 t) noFill_tuple_mul F.fills_int_mul F.slot_int_rmul repeat_tuple
        F.slot_int_index.lookup
        (call_meets F.slot_int_rmul (typeIs_int s 1 t) F.entry_int_rmul (F.args_int_rmul_2 _ _)
          (int_rmul_tuple 1 t l its.toArray n dd sl)
          ⟨ho, rfl, ⟨_, ho, rfl⟩, call_meets F.slot_tuple_mul ⟨_, ho, rfl⟩ F.entry_tuple_mul
            (F.args_tuple_mul_2 _ _) (tup_mul_one l its.toArray n dd sl t) ⟨ho, ?_⟩⟩)
      refine ⟨.ref l, H, I, rfl, q l H (Same.refl H) ?_⟩
      have e : (List.replicate (Int.toNat 1) xs).flatten = xs := by simp
      rw [e]
      exact hT
    · have hi : its.toArray.isEmpty = false := by
        have hle : its.length = xs.length := r.length.symm
        cases its with
        | nil => exact absurd (List.eq_nil_of_length_eq_zero hle.symm) hne
        | cons a b => rfl
      refine wpAny_binaryOp_repeat_ref (T := "tuple") (U := "int") (by decide) ⟨_, ho, rfl⟩
        (fun s' => typeIs_int s' k t) noFill_tuple_mul F.fills_int_mul F.slot_int_rmul repeat_tuple
        F.slot_int_index.lookup
        (call_meets F.slot_int_rmul (typeIs_int s k t) F.entry_int_rmul (F.args_int_rmul_2 _ _)
          (int_rmul_tuple k t l its.toArray n dd sl)
          ⟨ho, rfl, ⟨_, ho, rfl⟩, call_meets F.slot_tuple_mul ⟨_, ho, rfl⟩ F.entry_tuple_mul
            (F.args_tuple_mul_2 _ _) (tup_mul_none l its.toArray n dd sl k t (by omega) h1 hi) ⟨ho, ?_⟩⟩)
      have nf : H s.heap.objs.size = none := I.hok.fresh (Nat.le_refl _)
      refine ⟨.ref s.heap.objs.size, upd H s.heap.objs.size (.tup []), I.laid (t' := s.toks)
        (o := .tup []) (fun b ob q => Heap.get?_push_of_some _ q) (Nat.le_refl _) ?_, rfl, ?_⟩
      · exact ⟨Nat.zero_le _, [], .nil, IsTup.new _ _⟩
      · refine q _ _ (Same.new nf) ?_
        have e : (List.replicate k.toNat xs).flatten = [] := by
          rw [show k.toNat = 0 from by omega]
          rfl
        rw [e]
        exact SqT.of upd_same
end
end Gd
namespace Gd
open PySem PySem.Spec PyProof.Rows L2
/-! ### data of tuples -/
/-- all that is no list is kept -/
def Tk (H H' : Hp) : Prop := ∀ b o, (∀ xs, o ≠ .lst xs) → H b = some o → H' b = some o
theorem Tk.refl (H : Hp) : Tk H H := fun _ _ _ h => h
theorem Tk.trans {H H1 H2 : Hp} (x : Tk H H1) (y : Tk H1 H2) : Tk H H2 :=
  fun b o n h => y b o n (x b o n h)
theorem Tk.of {H H' : Hp} (e : Same H H') : Tk H H' := fun b o _ h => e b o h
theorem Tk.sb {a : Addr} {H H' : Hp} {xs : List V} (ha : H a = some (.lst xs)) (e : Sb a H H') :
    Tk H H' := fun b o n h => by
  refine e b o ?_ h
  rintro rfl
  rw [ha] at h
  cases h
  exact n _ rfl
theorem Tk.lst {H : Hp} {p : Addr} {o : HO} {xs : List V} (h : H p = some (.lst xs)) :
    Tk H (upd H p o) := fun b u n hb => by
  rw [upd_ne ?_]
  · exact hb
  · rintro rfl
    rw [h] at hb
    cases hb
    exact n _ rfl
mutual
/-- no list, no dict within -/
def tupOnly : PyData → Bool
  | .none | .bool _ | .int _ | .str _ => true
  | .tuple ds => tupAll ds
  | .list _ | .dict _ => false
def tupAll : List PyData → Bool
  | [] => true
  | d :: ds => tupOnly d && tupAll ds
end
theorem tupAll_iff : ∀ ds : List PyData, tupAll ds = true ↔ ∀ d ∈ ds, tupOnly d = true
  | [] => by simp [tupAll]
  | d :: ds => by
    simp only [tupAll, Bool.and_eq_true, List.mem_cons, forall_eq_or_imp, tupAll_iff ds]
theorem sqt_tk {K : PySem.W.Frag} {H H' : Hp} {a : Addr} {xs : List V} (e : Tk H H')
    (h : SqT K H a xs) : SqT K H' a xs := by
  rcases h with (h | ⟨o, h⟩) | h
  · exact Or.inl (Or.inl (e _ _ (fun _ z => by cases z) h))
  · exact Or.inl (Or.inr ⟨o, e _ _ (fun _ z => by cases z) h⟩)
  · exact Or.inr h
mutual
theorem Dp.tk {K : PySem.W.Frag} {H H' : Hp} (e : Tk H H') : ∀ (d : PyData) (v : V),
    tupOnly d = true → Dp K H v d → Dp K H' v d
  | .none, _, _, h => by cases h; exact .non
  | .bool b, _, _, h => by cases h; exact .bl b
  | .int i, _, _, h => by cases h; exact .int i
  | .str x, _, _, h => by cases h; exact .str x
  | .list ds, _, t, h => by simp [tupOnly] at t
  | .tuple ds, _, t, h => by
    cases h with
    | tup hs ha => exact .tup (sqt_tk e hs) (DpAll.tk e ds _ (by simpa [tupOnly] using t) ha)
  | .dict _, _, t, h => by simp [tupOnly] at t
theorem DpAll.tk {K : PySem.W.Frag} {H H' : Hp} (e : Tk H H') : ∀ (ds : List PyData)
    (vs : List V), tupAll ds = true → DpAll K H vs ds → DpAll K H' vs ds
  | [], _, _, h => by cases h; exact .nil
  | d :: ds, _, t, h => by
    have t' : tupOnly d = true ∧ tupAll ds = true := by simpa [tupAll] using t
    cases h with
    | cons h1 h2 => exact .cons (Dp.tk e d _ t'.1 h1) (DpAll.tk e ds _ t'.2 h2)
end
theorem dp_tup {K : PySem.W.Frag} {H : Hp} {v : V} {ds : List PyData} (h : Dp K H v (.tuple ds)) :
    ∃ a xs, v = .ref a ∧ SqT K H a xs ∧ DpAll K H xs ds := by
  cases h with
  | tup hs ha => exact ⟨_, _, rfl, hs, ha⟩
theorem dp_lst {K : PySem.W.Frag} {H : Hp} {v : V} {ds : List PyData} (h : Dp K H v (.list ds)) :
    ∃ a xs, v = .ref a ∧ SqL K H a xs ∧ DpAll K H xs ds := by
  cases h with
  | lst hs ha => exact ⟨_, _, rfl, hs, ha⟩
theorem dp_int {K : PySem.W.Frag} {H : Hp} {v : V} {i : Int} (h : Dp K H v (.int i)) : v = .int i := by
  cases h
  rfl
theorem dpa_cons {K : PySem.W.Frag} {H : Hp} {xs : List V} {d : PyData} {ds : List PyData}
    (h : DpAll K H xs (d :: ds)) : ∃ v vs, xs = v :: vs ∧ Dp K H v d ∧ DpAll K H vs ds := by
  cases h with
  | cons h1 h2 => exact ⟨_, _, rfl, h1, h2⟩
theorem dpa_nil {K : PySem.W.Frag} {H : Hp} {xs : List V} (h : DpAll K H xs []) : xs = [] := by
  cases h
  rfl
theorem dpa_ints {K : PySem.W.Frag} {H : Hp} : ∀ (r : List Int) (xs : List V),
    DpAll K H xs (r.map PyData.int) → xs = r.map V.int
  | [], xs, h => dpa_nil h
  | i :: r, xs, h => by
    obtain ⟨v, vs, rfl, h1, h2⟩ := dpa_cons h
    rw [dp_int h1, dpa_ints r vs h2]
    rfl
theorem dpa_len {K : PySem.W.Frag} {H : Hp} : ∀ (ds : List PyData) (xs : List V),
    DpAll K H xs ds → xs.length = ds.length
  | [], xs, h => by rw [dpa_nil h]; rfl
  | d :: ds, xs, h => by
    obtain ⟨v, vs, rfl, _, h2⟩ := dpa_cons h
    simp [dpa_len ds vs h2]
theorem dpa_get {K : PySem.W.Frag} {H : Hp} : ∀ (ds : List PyData) (xs : List V) (i : Nat) (x : V),
    DpAll K H xs ds → xs[i]? = some x → ∃ d, ds[i]? = some d ∧ Dp K H x d
  | [], xs, i, x, h, e => by rw [dpa_nil h] at e; simp at e
  | d :: ds, xs, i, x, h, e => by
    obtain ⟨v, vs, rfl, h1, h2⟩ := dpa_cons h
    cases i with
    | zero =>
      simp at e
      subst e
      exact ⟨d, rfl, h1⟩
    | succ i => exact dpa_get ds vs i x h2 (by simpa using e)
theorem dpa_at {K : PySem.W.Frag} {H : Hp} : ∀ (ds : List PyData) (xs : List V) (i : Nat) (d : PyData),
    DpAll K H xs ds → ds[i]? = some d → ∃ x, xs[i]? = some x ∧ Dp K H x d
  | [], xs, i, d, h, e => by simp at e
  | d0 :: ds, xs, i, d, h, e => by
    obtain ⟨v, vs, rfl, h1, h2⟩ := dpa_cons h
    cases i with
    | zero =>
      simp at e
      subst e
      exact ⟨v, rfl, h1⟩
    | succ i => exact dpa_at ds vs i d h2 (by simpa using e)
theorem dpa_snoc {K : PySem.W.Frag} {H : Hp} : ∀ (ds : List PyData) (xs : List V) (v : V) (d : PyData),
    DpAll K H xs ds → Dp K H v d → DpAll K H (xs ++ [v]) (ds ++ [d])
  | [], xs, v, d, h, e => by rw [dpa_nil h]; exact .cons e .nil
  | d0 :: ds, xs, v, d, h, e => by
    obtain ⟨x, vs, rfl, h1, h2⟩ := dpa_cons h
    exact .cons h1 (dpa_snoc ds vs v d h2 e)
theorem dpa_append {K : PySem.W.Frag} {H : Hp} : ∀ (ds es : List PyData) (xs ys : List V),
    DpAll K H xs ds → DpAll K H ys es → DpAll K H (xs ++ ys) (ds ++ es)
  | [], es, xs, ys, h, e => by rw [dpa_nil h]; exact e
  | d0 :: ds, es, xs, ys, h, e => by
    obtain ⟨x, vs, rfl, h1, h2⟩ := dpa_cons h
    exact .cons h1 (dpa_append ds es vs ys h2 e)
/-! ### rows and tables -/
def rowD (r : List Int) : PyData := .tuple (r.map .int)
def rowsD (rs : List (List Int)) : PyData := .tuple (rs.map rowD)
def tabD (w : Int) (rs : List (List Int)) : PyData := .tuple [.int w, rowsD rs]
theorem ints_tup : ∀ r : List Int, tupAll (r.map .int) = true
  | [] => by simp [tupAll]
  | i :: r => by simp [tupAll, tupOnly, ints_tup r]
theorem rowD_tup (r : List Int) : tupOnly (rowD r) = true := by simp [rowD, tupOnly, ints_tup]
theorem rows_tup : ∀ rs : List (List Int), tupAll (rs.map rowD) = true
  | [] => by simp [tupAll]
  | r :: rs => by simp [tupAll, rowD_tup, rows_tup rs]
theorem rowsD_tup (rs : List (List Int)) : tupOnly (rowsD rs) = true := by simp [rowsD, tupOnly, rows_tup]
theorem tabD_tup (w : Int) (rs : List (List Int)) : tupOnly (tabD w rs) = true := by
  simp [tabD, tupOnly, tupAll, rowsD_tup]
theorem dp_row {K : PySem.W.Frag} {H : Hp} {v : V} {r : List Int} (h : Dp K H v (rowD r)) :
    ∃ p, v = .ref p ∧ SqT K H p (r.map V.int) := by
  obtain ⟨a, xs, rfl, hs, ha⟩ := dp_tup h
  rw [dpa_ints r xs ha] at hs
  exact ⟨a, rfl, hs⟩
theorem dp_rows {K : PySem.W.Frag} {H : Hp} {v : V} {rs : List (List Int)} (h : Dp K H v (rowsD rs)) :
    ∃ p xs, v = .ref p ∧ SqT K H p xs ∧ DpAll K H xs (rs.map rowD) ∧ xs.length = rs.length := by
  obtain ⟨a, xs, rfl, hs, ha⟩ := dp_tup h
  exact ⟨a, xs, rfl, hs, ha, by rw [dpa_len _ _ ha, List.length_map]⟩
theorem dp_tab {K : PySem.W.Frag} {H : Hp} {v : V} {w : Int} {rs : List (List Int)}
    (h : Dp K H v (tabD w rs)) : ∃ p u, v = .ref p ∧ SqT K H p [.int w, u] ∧ Dp K H u (rowsD rs) := by
  obtain ⟨a, xs, rfl, hs, ha⟩ := dp_tup h
  obtain ⟨v1, vs, rfl, h1, h2⟩ := dpa_cons ha
  obtain ⟨v2, vs, rfl, h3, h4⟩ := dpa_cons h2
  rw [dpa_nil h4] at hs
  rw [dp_int h1] at hs
  exact ⟨a, v2, rfl, hs, h3⟩
theorem mk_row {K : PySem.W.Frag} {H : Hp} {p : Addr} {r : List Int} (h : SqT K H p (r.map V.int)) :
    Dp K H (.ref p) (rowD r) := by
  refine .tup h ?_
  clear h
  induction r with
  | nil => exact .nil
  | cons i r ih => exact .cons (.int i) ih
theorem mk_tab {K : PySem.W.Frag} {H : Hp} {p : Addr} {w : Int} {u : V} {rs : List (List Int)}
    (h : SqT K H p [.int w, u]) (hu : Dp K H u (rowsD rs)) : Dp K H (.ref p) (tabD w rs) :=
  .tup h (.cons (.int w) (.cons hu .nil))
theorem rows_at {K : PySem.W.Frag} {H : Hp} {xs : List V} {rs : List (List Int)} {i : Nat} {x : V}
    (h : DpAll K H xs (rs.map rowD)) (e : xs[i]? = some x) :
    rs[i]? = some (rs.getD i []) ∧ Dp K H x (rowD (rs.getD i [])) := by
  obtain ⟨d, h1, h2⟩ := dpa_get _ _ i x h e
  rw [List.getElem?_map] at h1
  cases q : rs[i]? with
  | none => rw [q] at h1; cases h1
  | some r =>
    rw [q] at h1
    cases h1
    have e2 : rs.getD i [] = r := by rw [List.getD_eq_getElem?_getD, q]; rfl
    rw [e2]
    exact ⟨rfl, h2⟩
theorem at_row {r : List Int} {i : Nat} (h : i < r.length) :
    atI (r.map V.int) (i : Int) = some (V.int (r.getD i 0)) := by
  refine atI_nat ?_
  rw [List.getElem?_map, List.getElem?_eq_getElem h, List.getD_eq_getElem?_getD,
    List.getElem?_eq_getElem h]
  rfl
/-! ### comprehensions that change nothing -/
section
variable {K : PySem.W.Frag}
/-- what stands at the list under way: the first i data -/
def Lw (K : PySem.W.Frag) (H : Hp) (f : Nat → PyData) (D : Addr) (i : Nat) (H' : Hp) : Prop :=
  Same H H' ∧ ∃ ys, H' D = some (.lst ys) ∧ DpAll K H' ys ((List.range i).map f)
theorem Lw.start {H : Hp} {f : Nat → PyData} {D : Addr} (h : H D = none) :
    Lw K H f D 0 (upd H D (.lst [])) := ⟨Same.new h, [], upd_same, .nil⟩
theorem Lw.len {H H' : Hp} {f : Nat → PyData} {D : Addr} {i : Nat} (h : Lw K H f D i H') :
    ∃ ys, H' D = some (.lst ys) ∧ ys.length = i := by
  obtain ⟨_, ys, h1, h2⟩ := h
  refine ⟨ys, h1, ?_⟩
  rw [dpa_len _ _ h2, List.length_map, List.length_range]
theorem Lw.turn {H H' H'' : Hp} {f : Nat → PyData} {D : Addr} {i : Nat} {y : V} (hD : H D = none)
    (ht : ∀ j, j ≤ i → tupOnly (f j) = true) (h : Lw K H f D i H') (e : Same H' H'')
    (hy : Dp K H'' y (f i)) (hi : i < 100000) :
    ∃ acc, H'' D = some (.lst acc) ∧ acc.length < sizeLine ∧
      Lw K H f D (i + 1) (upd H'' D (.lst (acc ++ [y]))) := by
  obtain ⟨h0, ys, h1, h2⟩ := h
  have h1' := e _ _ h1
  have hl : ys.length = i := by rw [dpa_len _ _ h2, List.length_map, List.length_range]
  refine ⟨ys, h1', by rw [hl]; exact Nat.lt_trans hi (by decide), Same.mut (h0.trans e) hD, _, upd_same, ?_⟩
  rw [List.range_succ, List.map_append]
  have tk : Tk H'' (upd H'' D (.lst (ys ++ [y]))) := Tk.lst h1'
  refine dpa_snoc _ _ _ _ (DpAll.tk tk _ _ ?_ (DpAll.same e _ _ h2)) (Dp.tk tk _ _ (ht i (Nat.le_refl _)) hy)
  rw [tupAll_iff]
  intro d hd
  obtain ⟨j, hj, rfl⟩ := List.mem_map.mp hd
  exact ht j (Nat.le_of_lt (List.mem_range.mp hj))
end
end Gd
namespace Gd
open PySem PySem.Spec PyProof.Rows L2
section
variable {K : PySem.W.Frag} {te : TE} {vs : List Nat} {σ : L2.St} {H : Hp} {D : Addr} {Qd : Hp → Prop}
theorem tupOnly_le {f : Nat → PyData} {n i : Nat} (ht : ∀ j, j < n → tupOnly (f j) = true) (hi : i < n) :
    ∀ j, j ≤ i → tupOnly (f j) = true := fun j hj => ht j (Nat.lt_of_le_of_lt hj hi)
/-- [e for x in range(n)], e data of tuples that changes nothing -/
theorem lcr {j n : Nat} (f : Nat → PyData) (hD : H D = none) (hn : n ≤ 50000)
    (ht : ∀ i, i < n → tupOnly (f i) = true)
    (hw : ∀ x, wipe ((wipe σ vs).set j (some x)) vs = wipe σ vs)
    (hs : ∀ (i : Nat) (H1 : Hp) (Q : VK), i < n → Same H H1 →
      (∀ y H2, Same H1 H2 → Dp K H2 y (f i) → Q y H2) →
      te ((wipe σ vs).set j (some (.int (0 + (i : Int))))) H1 Q)
    (hd : ∀ H' ys, Same H H' → H' D = some (.lst ys) → DpAll K H' ys ((List.range n).map f) → Qd H') :
    ∃ W : Nat → Nat → Hp → Prop, (∃ m, W 0 m (upd H D (.lst []))) ∧ ∀ i m H, W i m H →
      ((Itr 0 n).stop i H ∧ Qd H) ∨ ((Itr 0 n).go i H ∧ ∃ Nx : Hp → Prop,
        (∀ H', Nx H' → ∃ m', m' < m ∧ W (i + 1) m' H') ∧
        ∀ x H', (Itr 0 n).yld i H x H' → gName j x (wipe σ vs) H' fun σ2 H2 =>
          wipe σ2 vs = wipe σ vs ∧ tYes σ2 H2 fun b H3 =>
            if b = true then te σ2 H3 fun y H4 => ∃ acc, H4 D = some (.lst acc) ∧
              acc.length < sizeLine ∧ Nx (upd H4 D (.lst (acc ++ [y]))) else Nx H3) := by
  refine lc_range (lo := 0) (n := n) (Lw K H f D) (Lw.start hD) ?_ ?_
  · intro i H' hi p
    refine ⟨hw _, ?_⟩
    unfold tYes
    dsimp only
    rw [if_pos rfl]
    exact hs i H' _ hi p.1 fun y H2 e hy => Lw.turn hD (tupOnly_le ht hi) p e hy (by omega)
  · rintro H' ⟨h0, ys, h1, h2⟩
    exact hd H' ys h0 h1 h2
/-- [e for x in t], t a tuple -/
theorem lct {j : Nat} {a : Addr} {xs : List V} (f : Nat → PyData) (hD : H D = none)
    (hx : SqT K H a xs) (hn : xs.length ≤ 50000)
    (ht : ∀ i, i < xs.length → tupOnly (f i) = true)
    (hw : ∀ x, wipe ((wipe σ vs).set j (some x)) vs = wipe σ vs)
    (hs : ∀ (i : Nat) (x : V) (H1 : Hp) (Q : VK), xs[i]? = some x → Same H H1 →
      (∀ y H2, Same H1 H2 → Dp K H2 y (f i) → Q y H2) →
      te ((wipe σ vs).set j (some x)) H1 Q)
    (hd : ∀ H' ys, Same H H' → H' D = some (.lst ys) → DpAll K H' ys ((List.range xs.length).map f) → Qd H') :
    ∃ W : Nat → Nat → Hp → Prop, (∃ m, W 0 m (upd H D (.lst []))) ∧ ∀ i m H, W i m H →
      ((Itt K a).stop i H ∧ Qd H) ∨ ((Itt K a).go i H ∧ ∃ Nx : Hp → Prop,
        (∀ H', Nx H' → ∃ m', m' < m ∧ W (i + 1) m' H') ∧
        ∀ x H', (Itt K a).yld i H x H' → gName j x (wipe σ vs) H' fun σ2 H2 =>
          wipe σ2 vs = wipe σ vs ∧ tYes σ2 H2 fun b H3 =>
            if b = true then te σ2 H3 fun y H4 => ∃ acc, H4 D = some (.lst acc) ∧
              acc.length < sizeLine ∧ Nx (upd H4 D (.lst (acc ++ [y]))) else Nx H3) := by
  refine lc_tup (xs := xs) (Lw K H f D) (Lw.start hD) (fun i H' _ p => sqt_same p.1 hx) ?_ ?_
  · intro i x H' hi p
    have hlt := (List.getElem?_eq_some_iff.mp hi).1
    refine ⟨hw _, ?_⟩
    unfold tYes
    dsimp only
    rw [if_pos rfl]
    exact hs i x H' _ hi p.1 fun y H2 e hy => Lw.turn hD (tupOnly_le ht hlt) p e hy (by omega)
  · rintro H' ⟨h0, ys, h1, h2⟩
    exact hd H' ys h0 h1 h2
/-- [e for x, y in zip(t, u)], tuples of one length -/
theorem lcz {g : TG} {j1 j2 : Nat} {a b : Addr} {xs zs : List V} (f : Nat → PyData) (hD : H D = none)
    (hl : xs.length = zs.length) (hx : SqT K H a xs) (hz : SqT K H b zs) (hn : xs.length ≤ 50000)
    (ht : ∀ i, i < xs.length → tupOnly (f i) = true)
    (hw : ∀ x y, wipe (((wipe σ vs).set j1 (some x)).set j2 (some y)) vs = wipe σ vs)
    (hg : ∀ (T : Addr) (x y : V) (H1 : Hp) (R : L2.St → Hp → Prop), H1 T = some (.tup [x, y]) →
      R (((wipe σ vs).set j1 (some x)).set j2 (some y)) H1 → g (.ref T) (wipe σ vs) H1 R)
    (hs : ∀ (i : Nat) (x y : V) (H1 : Hp) (Q : VK), xs[i]? = some x → zs[i]? = some y → Same H H1 →
      (∀ y H2, Same H1 H2 → Dp K H2 y (f i) → Q y H2) →
      te (((wipe σ vs).set j1 (some x)).set j2 (some y)) H1 Q)
    (hd : ∀ H' ys, Same H H' → H' D = some (.lst ys) → DpAll K H' ys ((List.range xs.length).map f) → Qd H') :
    ∃ W : Nat → Nat → Hp → Prop, (∃ m, W 0 m (upd H D (.lst []))) ∧ ∀ i m H, W i m H →
      ((RZ.ItzT K a b).stop i H ∧ Qd H) ∨ ((RZ.ItzT K a b).go i H ∧ ∃ Nx : Hp → Prop,
        (∀ H', Nx H' → ∃ m', m' < m ∧ W (i + 1) m' H') ∧
        ∀ x H', (RZ.ItzT K a b).yld i H x H' → g x (wipe σ vs) H' fun σ2 H2 =>
          wipe σ2 vs = wipe σ vs ∧ tYes σ2 H2 fun b H3 =>
            if b = true then te σ2 H3 fun y H4 => ∃ acc, H4 D = some (.lst acc) ∧
              acc.length < sizeLine ∧ Nx (upd H4 D (.lst (acc ++ [y]))) else Nx H3) := by
  refine ⟨fun i m H' => m = xs.length - i ∧ i ≤ xs.length ∧ Lw K H f D i H',
    ⟨xs.length, rfl, Nat.zero_le _, Lw.start hD⟩, ?_⟩
  rintro i m H' ⟨rfl, hi, p⟩
  have qx := sqt_same p.1 hx
  have qz := sqt_same p.1 hz
  by_cases hlt : i < xs.length
  · have e1 : xs[i]? = some xs[i] := List.getElem?_eq_getElem hlt
    have hlt2 : i < zs.length := by omega
    have e2 : zs[i]? = some zs[i] := List.getElem?_eq_getElem hlt2
    refine .inr ⟨⟨xs, zs, _, _, qx, qz, e1, e2⟩, Lw K H f D (i + 1),
      fun H2 p2 => ⟨xs.length - (i + 1), by omega, rfl, hlt, p2⟩, ?_⟩
    intro v H2 hy
    obtain ⟨T, x', y', rfl, hT, rfl, f1, f2⟩ := hy
    have eT := Same.new (o := .tup [x', y']) hT
    refine hg T x' y' _ _ upd_same ⟨hw _ _, ?_⟩
    unfold tYes
    dsimp only
    rw [if_pos rfl]
    refine hs i x' y' _ _ (f1 xs qx) (f2 zs qz) (p.1.trans eT) ?_
    intro y H3 e hy
    exact Lw.turn hD (tupOnly_le ht hlt) p (eT.trans e) hy (by omega)
  · have e : i = xs.length := by omega
    subst e
    obtain ⟨h0, ys, h1, h2⟩ := p
    exact .inl ⟨⟨xs, zs, qx, qz, Or.inl (Nat.le_refl _)⟩, hd H' ys h0 h1 h2⟩
end
end Gd
namespace Gd
open PySem PySem.Spec PyProof.Rows L2
/-! ### tables of numbers, reckoned -/
def ent (rs : List (List Int)) (i k : Nat) : Int := (rs.getD i []).getD k 0
def unitRow (n k : Nat) : List Int := (List.range n).map fun c => if c = k then 1 else 0
def unitR (n : Nat) : List (List Int) := (List.range n).map (unitRow n)
def mulRow (r : List Int) (w : Nat) (rs : List (List Int)) : List Int :=
  (List.range w).map fun k => ((List.range r.length).map fun i => r.getD i 0 * ent rs i k).sum
def mulR (rs : List (List Int)) (w : Nat) (ts : List (List Int)) : List (List Int) :=
  (List.range rs.length).map fun i => mulRow (rs.getD i []) w ts
def turnR (w : Nat) (rs : List (List Int)) : List (List Int) :=
  (List.range w).map fun k => (List.range rs.length).map fun i => ent rs i k
/-- a table of this width, not too great -/
def Tb (w : Nat) (rs : List (List Int)) : Prop := rs.length ≤ 1000 ∧ w ≤ 1000 ∧ ∀ r ∈ rs, r.length = w
/-- numbers of less than 64 bits -/
def Sm (r : List Int) : Prop := ∀ x ∈ r, -(2 ^ 64) < x ∧ x < 2 ^ 64
theorem getD_mem {α : Type} {l : List α} {i : Nat} {d : α} (h : i < l.length) : l.getD i d ∈ l := by
  rw [List.getD_eq_getElem?_getD, List.getElem?_eq_getElem h]
  exact List.getElem_mem h
theorem Tb.len {w : Nat} {rs : List (List Int)} (h : Tb w rs) {i : Nat} (hi : i < rs.length) :
    (rs.getD i []).length = w := h.2.2 _ (getD_mem hi)
theorem Sm.at {r : List Int} (h : Sm r) (i : Nat) : -(2 ^ 64) < r.getD i 0 ∧ r.getD i 0 < 2 ^ 64 := by
  by_cases hi : i < r.length
  · exact h _ (getD_mem hi)
  · rw [List.getD_eq_getElem?_getD, List.getElem?_eq_none (by omega)]
    exact ⟨by decide, by decide⟩
theorem at_row0 {r : List Int} {i : Nat} (h : i < r.length) :
    atI (r.map V.int) (0 + (i : Int)) = some (V.int (r.getD i 0)) := by
  rw [Int.zero_add]
  exact at_row h
theorem mk_rowR {K : PySem.W.Frag} {H : Hp} {p : Addr} {ys : List V} {n : Nat} {g : Nat → Int}
    (h : SqT K H p ys) (ha : DpAll K H ys ((List.range n).map fun i => PyData.int (g i))) :
    Dp K H (.ref p) (rowD ((List.range n).map g)) := by
  unfold rowD
  rw [List.map_map]
  exact .tup h ha
theorem mk_rowsR {K : PySem.W.Frag} {H : Hp} {p : Addr} {ys : List V} {n : Nat} {g : Nat → List Int}
    (h : SqT K H p ys) (ha : DpAll K H ys ((List.range n).map fun i => rowD (g i))) :
    Dp K H (.ref p) (rowsD ((List.range n).map g)) := by
  unfold rowsD
  rw [List.map_map]
  exact .tup h ha
theorem intsR {K : PySem.W.Frag} {H : Hp} {ys : List V} {n : Nat} {g : Nat → Int}
    (ha : DpAll K H ys ((List.range n).map fun i => PyData.int (g i))) :
    ys = ((List.range n).map g).map V.int := by
  refine dpa_ints (K := K) (H := H) _ _ ?_
  rw [List.map_map]
  exact ha
theorem row_get {r : List Int} {i : Nat} {x : V} (e : (r.map V.int)[i]? = some x) :
    i < r.length ∧ x = .int (r.getD i 0) := by
  rw [List.getElem?_map] at e
  cases q : r[i]? with
  | none => rw [q] at e; cases e
  | some z =>
    rw [q] at e
    cases e
    refine ⟨(List.getElem?_eq_some_iff.mp q).1, ?_⟩
    rw [List.getD_eq_getElem?_getD, q]
    rfl
theorem rows_lt {K : PySem.W.Frag} {H : Hp} {xs : List V} {rs : List (List Int)} {i : Nat} {x : V}
    (h : DpAll K H xs (rs.map rowD)) (e : xs[i]? = some x) :
    i < rs.length ∧ ∃ p, x = .ref p ∧ SqT K H p ((rs.getD i []).map V.int) := by
  obtain ⟨h1, h2⟩ := rows_at h e
  exact ⟨(List.getElem?_eq_some_iff.mp h1).1, dp_row h2⟩
theorem rows_ix {K : PySem.W.Frag} {H : Hp} {xs : List V} {rs : List (List Int)} {i : Nat}
    (h : DpAll K H xs (rs.map rowD)) (hi : i < rs.length) :
    ∃ p, xs[i]? = some (.ref p) ∧ SqT K H p ((rs.getD i []).map V.int) := by
  have hl : xs.length = rs.length := by rw [dpa_len _ _ h, List.length_map]
  have e : xs[i]? = some xs[i] := List.getElem?_eq_getElem (by omega)
  obtain ⟨_, p, hp, hs⟩ := rows_lt h e
  rw [hp] at e
  exact ⟨p, e, hs⟩
end Gd
namespace Gd
open PySem PySem.Spec PyProof.Rows L2
/-! ### rules that name the written part by its letter -/
section
variable {X : Cx} {K : PySem.W.Frag}
theorem ix_tupK (hK : X.K = K) : IxR X (rIxT K) := by subst hK; exact ix_tup
theorem ix_listK (hK : X.K = K) : IxR X (rIxL K) := by subst hK; exact ix_list
theorem sl_listK (hK : X.K = K) : SlR X (rSlL K) := by subst hK; exact sl_list
theorem sl_tupK (hK : X.K = K) : SlR X (rSlA K) := by subst hK; exact sl_tupA
def rLenK (K : PySem.W.Frag) : List V → Hp → VK → Prop := fun xs H Q =>
  ∃ p ys, xs = [.ref p] ∧ (SqL K H p ys ∨ SqT K H p ys) ∧ Q (.int ys.length) H
theorem call_lenK (hK : X.K = K) : CallR X (.builtin "len") (rLenK K) := by
  subst hK; exact call_len_seq
def rTupleK (K : PySem.W.Frag) : List V → Hp → VK → Prop := fun xs H Q =>
  ∃ p ys, xs = [.ref p] ∧ ((SqL K H p ys ∧ ∀ l, H l = none → Q (.ref l) (upd H l (.tup ys))) ∨
    (SqT K H p ys ∧ Q (.ref p) H))
theorem call_tupleK (hK : X.K = K) : CallR X (.type "tuple") (rTupleK K) := by
  subst hK; exact call_tuple_of
def rListK (K : PySem.W.Frag) : List V → Hp → VK → Prop := fun xs H Q =>
  ∃ p ys, xs = [.ref p] ∧ (SqL K H p ys ∨ SqT K H p ys) ∧
    ∀ l, H l = none → Q (.ref l) (upd H l (.lst ys))
theorem call_listK (hK : X.K = K) : CallR X (.type "list") (rListK K) := by
  subst hK; exact call_list_of
theorem call_sumK (hK : X.K = K) (hc : X.calm = true) : CallR X (.builtin "sum") (rSum K) := by
  subst hK; exact cr_sum hc
theorem op_eqK (hK : X.K = K) (hu : X.A.units + 64 < cLine) : OpR X (compareOp .Eq) (rEqD K) := by
  subst hK; exact op_eqD hu
theorem op_neK (hK : X.K = K) (hu : X.A.units + 64 < cLine) : OpR X (compareOp .NotEq) (rNeD K) := by
  subst hK; exact op_neD hu
theorem op_catK (hK : X.K = K) : OpR X (binaryOp .Add) (rCatA K) := by subst hK; exact op_catA
theorem op_repK (hK : X.K = K) : OpR X (binaryOp .Mult) (rRepA K) := by subst hK; exact op_repA
theorem call_reprK (hK : X.K = K) (hG : X.A.guards = some []) (hu : X.A.units + 64 < cLine) :
    CallR X (.builtin "repr") (rRepr K) := by
  subst hK; exact call_repr hG hu
theorem pi_listK {tg l : Expr} {tl : TE} (hK : X.K = K) (hl : PE X l tl) : PI X tg l (iList K tl) := by
  subst hK; exact pi_list hl
theorem pi_tupK {tg l : Expr} {tl : TE} (hK : X.K = K) (hl : PE X l tl) : PI X tg l (iTup K tl) := by
  subst hK; exact pi_tup hl
theorem pi_zipK {e e2 : Expr} {ta : TA} {p pos tpos : Pos} {elts : List Expr} {kk : Nat}
    (hK : X.K = K) (hg : Gl X "zip") (hm : X.mg "zip" = none) (ha : PA X [e, e2] ta)
    (hs : starEach [e, e2] X.env = (false, eval e X.env) :: starEach [e2] X.env := by rfl)
    (hpl : (backTo pos (starEach [e2] X.env)).any (·.1) = false := by rfl) :
    PI X (.Tuple elts kk tpos) (.Call (.Name "zip" p) [e, e2] [] pos) (RZ.iZipA K ta) := by
  subst hK; exact RZ.pi_zipA hg hm ha hs hpl
theorem pg_tupK {es : List Expr} {k n : Nat} {t : TGs} {pos : Pos} (hK : X.K = K) (hc : X.calm = true)
    (h : PGs X es t) (hn : (assignEach es X.env).length = n := by rfl)
    (hst : (assignEach es X.env).findIdx? (·.1) = none := by rfl) :
    PG X (.Tuple es k pos) (gTup K n t) := by
  subst hK; exact pg_tup hc h hn hst
end
end Gd
namespace Gd
open PySem PySem.Spec PyProof.Rows L2
/-! ### readings told by data -/
section
variable {K : PySem.W.Frag} {H : Hp} {Q : VK} {x y : V} {ds es : List PyData} {d : PyData}
theorem ix_dp {i : Nat} (hx : Dp K H x (.tuple ds)) (hi : ds[i]? = some d)
    (k : ∀ v, Dp K H v d → Q v H) : rIxT K x (.int (i : Int)) H Q := by
  obtain ⟨a, xs, rfl, hs, ha⟩ := dp_tup hx
  obtain ⟨v, hv, hd⟩ := dpa_at _ _ i d ha hi
  exact ⟨a, xs, _, v, rfl, rfl, hs, atI_nat hv, k v hd⟩
theorem ix_dp0 {i : Nat} (hx : Dp K H x (.tuple ds)) (hi : ds[i]? = some d)
    (k : ∀ v, Dp K H v d → Q v H) : rIxT K x (.int (0 + (i : Int))) H Q := by
  rw [Int.zero_add]
  exact ix_dp hx hi k
theorem ix_dpI {i : Int} {j : Nat} (hj : i = (j : Int)) (hx : Dp K H x (.tuple ds)) (hi : ds[j]? = some d)
    (k : ∀ v, Dp K H v d → Q v H) : rIxT K x (.int i) H Q := by
  rw [hj]
  exact ix_dp hx hi k
theorem len_dp (hx : Dp K H x (.tuple ds)) (k : Q (.int (ds.length : Int)) H) : rLenK K [x] H Q := by
  obtain ⟨a, xs, rfl, hs, ha⟩ := dp_tup hx
  refine ⟨a, xs, rfl, .inr hs, ?_⟩
  rw [dpa_len _ _ ha]
  exact k
theorem cat_dp (hx : Dp K H x (.tuple ds)) (hy : Dp K H y (.tuple es))
    (hl : ds.length + es.length ≤ 100000)
    (k : ∀ v H', Same H H' → Dp K H' v (.tuple (ds ++ es)) → Q v H') : rCatA K x y H Q := by
  obtain ⟨a, xs, rfl, hs, ha⟩ := dp_tup hx
  obtain ⟨b, ys, rfl, hs2, hb⟩ := dp_tup hy
  have l1 := dpa_len _ _ ha
  have l2 := dpa_len _ _ hb
  refine ⟨a, b, xs, ys, rfl, rfl, hs, hs2, Nat.le_trans (by omega : _ ≤ 100000) (by decide), ?_, ?_, ?_⟩
  · intro h
    subst h
    have e : ds = [] := List.eq_nil_of_length_eq_zero (by rw [← l1]; rfl)
    subst e
    exact k _ _ (Same.refl H) (.tup hs2 hb)
  · intro _ h
    subst h
    have e : es = [] := List.eq_nil_of_length_eq_zero (by rw [← l2]; rfl)
    subst e
    exact k _ _ (Same.refl H) (by rw [List.append_nil]; exact .tup hs ha)
  · intro _ _ p np
    have e := Same.new (o := .tup (xs ++ ys)) np
    exact k _ _ e (.tup (SqT.of upd_same) (dpa_append _ _ _ _ (DpAll.same e _ _ ha) (DpAll.same e _ _ hb)))
theorem ints_rep (z : Int) : ∀ n : Nat, (List.replicate n [V.int z]).flatten = (List.replicate n z).map V.int
  | 0 => rfl
  | n + 1 => by
    rw [List.replicate_succ, List.replicate_succ, List.flatten_cons, List.map_cons, ints_rep z n]
    rfl
theorem rep_dp {z k : Int} (hx : Dp K H x (rowD [z])) (h1 : -1000 ≤ k) (h2 : k ≤ 1000)
    (q : ∀ v H', Same H H' → Dp K H' v (rowD (List.replicate k.toNat z)) → Q v H') :
    rRepA K x (.int k) H Q := by
  obtain ⟨p, rfl, hs⟩ := dp_row hx
  refine ⟨p, k, _, rfl, rfl, hs, (by simp), h1, h2, (by simp), ?_⟩
  intro p2 H2 e h
  have h' : SqT K H2 p2 ((List.replicate k.toNat z).map V.int) := by
    rw [← ints_rep]
    exact h
  exact q _ _ e (mk_row h')
theorem tupL_dp {p : Addr} {ys : List V} (h : H p = some (.lst ys)) (ha : DpAll K H ys ds)
    (k : ∀ v H', Same H H' → Dp K H' v (.tuple ds) → Q v H') : rTupleK K [.ref p] H Q := by
  refine ⟨p, ys, rfl, .inl ⟨SqL.of h, fun l nl => ?_⟩⟩
  have e := Same.new (o := .tup ys) nl
  exact k _ _ e (.tup (SqT.of upd_same) (DpAll.same e _ _ ha))
theorem listT_dp (hx : Dp K H x (.tuple ds))
    (k : ∀ l H' ys, H l = none → Same H H' → H' l = some (.lst ys) → DpAll K H' ys ds → Q (.ref l) H') :
    rListK K [x] H Q := by
  obtain ⟨a, xs, rfl, hs, ha⟩ := dp_tup hx
  refine ⟨a, xs, rfl, .inr hs, fun l nl => ?_⟩
  have e := Same.new (o := .lst xs) nl
  exact k l _ xs nl e upd_same (DpAll.same e _ _ ha)
theorem tup_dp {xs : List V} (ha : DpAll K H xs ds) (hl : ds.length ≤ 100000)
    (k : ∀ v H', Same H H' → Dp K H' v (.tuple ds) → Q v H') :
    xs.length ≤ sizeLine ∧ ∀ p, H p = none → Q (.ref p) (upd H p (.tup xs)) := by
  refine ⟨?_, fun p np => ?_⟩
  · rw [dpa_len _ _ ha]
    exact Nat.le_trans hl (by decide)
  · have e := Same.new (o := .tup xs) np
    exact k _ _ e (.tup (SqT.of upd_same) (DpAll.same e _ _ ha))
theorem lst_dp {xs : List V} (ha : DpAll K H xs ds) (hl : ds.length ≤ 100000)
    (k : ∀ l H', H l = none → Same H H' → H' l = some (.lst xs) → DpAll K H' xs ds → Q (.ref l) H') :
    xs.length ≤ sizeLine ∧ ∀ p, H p = none → Q (.ref p) (upd H p (.lst xs)) := by
  refine ⟨?_, fun p np => ?_⟩
  · rw [dpa_len _ _ ha]
    exact Nat.le_trans hl (by decide)
  · have e := Same.new (o := .lst xs) np
    exact k p _ np e upd_same (DpAll.same e _ _ ha)
theorem catL_dp {l b : Addr} {xs zs : List V} (h1 : H l = some (.lst xs)) (h2 : H b = some (.lst zs))
    (ha : DpAll K H xs ds) (hb : DpAll K H zs es) (hl : ds.length + es.length ≤ 100000)
    (k : ∀ p H', H p = none → Same H H' → H' p = some (.lst (xs ++ zs)) → DpAll K H' (xs ++ zs) (ds ++ es) → Q (.ref p) H') :
    rCat (.ref l) (.ref b) H Q := by
  have l1 := dpa_len _ _ ha
  have l2 := dpa_len _ _ hb
  refine ⟨l, b, xs, zs, rfl, rfl, h1, h2, Nat.le_trans (by omega : _ ≤ 100000) (by decide), fun p np => ?_⟩
  have e := Same.new (o := .lst (xs ++ zs)) np
  exact k p _ np e upd_same (dpa_append _ _ _ _ (DpAll.same e _ _ ha) (DpAll.same e _ _ hb))
theorem rows_getD {rs : List (List Int)} {i : Nat} (hi : i < rs.length) :
    (rs.map rowD)[i]? = some (rowD (rs.getD i [])) := by
  rw [List.getElem?_map, List.getElem?_eq_getElem hi, List.getD_eq_getElem?_getD, List.getElem?_eq_getElem hi]
  rfl
theorem row_getD {r : List Int} {i : Nat} (hi : i < r.length) :
    (r.map PyData.int)[i]? = some (.int (r.getD i 0)) := by
  rw [List.getElem?_map, List.getElem?_eq_getElem hi, List.getD_eq_getElem?_getD, List.getElem?_eq_getElem hi]
  rfl
theorem mapR_row {n : Nat} {g : Nat → Int} :
    PyData.tuple ((List.range n).map fun i => PyData.int (g i)) = rowD ((List.range n).map g) := by
  unfold rowD
  rw [List.map_map]
  rfl
theorem mapR_rows {n : Nat} {g : Nat → List Int} :
    PyData.tuple ((List.range n).map fun i => rowD (g i)) = rowsD ((List.range n).map g) := by
  unfold rowsD
  rw [List.map_map]
  rfl
end
end Gd
namespace Gd
open PySem PySem.Spec PyProof.Rows L2
theorem lst_new {K : PySem.W.Frag} {H : Hp} {l : Addr} {xs : List V} {ds : List PyData} (nl : H l = none)
    (ha : DpAll K H xs ds) : ∃ H', upd H l (.lst xs) = H' ∧ Same H H' ∧ H' l = some (.lst xs) ∧ DpAll K H' xs ds :=
  ⟨_, rfl, Same.new nl, upd_same, DpAll.same (Same.new nl) _ _ ha⟩
theorem tup_new {K : PySem.W.Frag} {H : Hp} {l : Addr} {xs : List V} {ds : List PyData} (nl : H l = none)
    (ha : DpAll K H xs ds) : ∃ H', upd H l (.tup xs) = H' ∧ Same H H' ∧ Dp K H' (.ref l) (.tuple ds) :=
  ⟨_, rfl, Same.new nl, .tup (SqT.of upd_same) (DpAll.same (Same.new nl) _ _ ha)⟩
end Gd
namespace Gd
open PySem PySem.Spec PyProof.Rows L2
theorem fmod_lt' {a b : Int} (hb : 0 < b) : a.fmod b < b := Int.fmod_lt_of_pos a hb
theorem fmod_nn {a b : Int} (hb : 0 < b) : 0 ≤ a.fmod b := Int.fmod_nonneg_of_pos a hb
/-! ### the feed -/
def spFeed (K : PySem.W.Frag) : Sp := fun vs H Q _ => ∃ (sc : Addr) (ns : List Int), vs = [.ref sc] ∧
  SqL K H sc (ns.map V.int) ∧ ns.length ≤ 63 ∧
  ∀ (a s : Addr) (H' : Hp), H a = none → H s = none → Same H H' → Fd H' a s 0 → Q (.ref a) H'
def spDraw : Sp := fun vs H Q _ => ∃ (a s : Addr) (m : Int) (n : Nat),
  vs = [.ref a, .int m] ∧ Fd H a s n ∧ n ≤ 1000000 ∧ 1 ≤ m ∧ m ≤ 1000000 ∧
  ∀ (r : Int) (H' : Hp), 0 ≤ r → r < m → Sb a H H' → Fd H' a s (n + 1) → Q (.int r) H'
theorem cut_ints (ns : List Int) (lo hi : Option Int) :
    ∃ ms : List Int, cutV (ns.map V.int) lo hi = ms.map V.int ∧ ms.length ≤ ns.length := by
  refine ⟨(ns.drop (HT.sIx ns.length 0 lo)).take (HT.sIx ns.length ns.length hi - HT.sIx ns.length 0 lo), ?_, ?_⟩
  · unfold cutV
    rw [List.length_map, List.map_take, List.map_drop]
  · rw [List.length_take, List.length_drop]
    omega
theorem ints_shaped (ns : List Int) : SeqAt.shaped (.list (ns.map PyData.int)) = true := by
  have h1 : ∀ l : List Int, PyData.canLayAll0 (l.map PyData.int) = true := by
    intro l
    induction l with
    | nil => simp [PyData.canLayAll0]
    | cons a l ih => simp [PyData.canLayAll0, PyData.canLay0, ih]
  have h2 : ∀ l : List Int, PyData.depthAll (l.map PyData.int) = 0 := by
    intro l
    induction l with
    | nil => simp [PyData.depthAll]
    | cons a l ih => simp [PyData.depthAll, PyData.depth, ih]
  simp [SeqAt.shaped, PyData.canLay0, PyData.depth, h1, h2]
theorem ints_nil (ns : List Int) : PyData.eqv (.list (ns.map PyData.int)) (.list []) = decide (ns = []) := by
  cases ns <;> simp [PyData.eqv, PyData.eqvAll]
theorem dp_ints {K : PySem.W.Frag} {H : Hp} : ∀ ns : List Int, DpAll K H (ns.map V.int) (ns.map PyData.int)
  | [] => .nil
  | n :: ns => .cons (.int n) (dp_ints ns)
theorem at_ints {ns : List Int} {i : Int} (h0 : 0 ≤ i) (h1 : i < ns.length) :
    ∃ z : Int, atI (ns.map V.int) i = some (V.int z) := by
  obtain ⟨j, rfl⟩ := Int.eq_ofNat_of_zero_le h0
  have hj : j < ns.length := by omega
  exact ⟨ns[j], atI_nat (by rw [List.getElem?_map, List.getElem?_eq_getElem hj]; rfl)⟩
theorem ref_ints {s : Addr} {ns : List Int} {r : List V} : HO.lst (ns.map V.int) ≠ HO.lst (.ref s :: r) := by
  intro z
  cases ns with
  | nil => cases z
  | cons n ns => cases z

/-- numbers drawn: from lo to below hi, by at most j draws -/
def spNum (lo hi : Int) (j : Nat) : Sp := fun vs H Q _ => ∃ (a s : Addr) (n : Nat),
  vs = [.ref a] ∧ Fd H a s n ∧ n + j ≤ 1000000 ∧
  ∀ (r : Int) (H' : Hp), lo ≤ r → r < hi → Sb a H H' → Fd H' a s (n + j) → Q (.int r) H'
theorem spNum_len {lo hi : Int} {j : Nat} : ∀ vs H Q E, spNum lo hi j vs H Q E → vs.length = 1 := by
  rintro vs H Q E ⟨a, s, n, rfl, _⟩
  rfl
section
variable {te : TE} {vs : List Nat} {σ : L2.St} {H : Hp} {D : Addr} {Qd : Hp → Prop}
/-- [e for x in range(m)], e a number that draws -/
theorem lcrF {j m n c : Nat} {a s : Addr} (Pz : Int → Prop) (hD : H D = none) (hf : Fd H a s n) (hm : m ≤ 50000)
    (hw : ∀ x, wipe ((wipe σ vs).set j (some x)) vs = wipe σ vs)
    (hs : ∀ (i : Nat) (H1 : Hp) (Q : VK), i < m → Sb a H H1 → Fd H1 a s (n + c * i) →
      (∀ (z : Int) (H2 : Hp), Sb a H1 H2 → Fd H2 a s (n + c * (i + 1)) → Pz z → Q (.int z) H2) →
      te ((wipe σ vs).set j (some (.int (0 + (i : Int))))) H1 Q)
    (hd : ∀ (H' : Hp) (ns : List Int), Sb a H H' → Fd H' a s (n + c * m) → H' D = some (.lst (ns.map V.int)) →
      ns.length = m → (∀ x ∈ ns, Pz x) → Qd H') :
    ∃ W : Nat → Nat → Hp → Prop, (∃ m, W 0 m (upd H D (.lst []))) ∧ ∀ i k H, W i k H →
      ((Itr 0 m).stop i H ∧ Qd H) ∨ ((Itr 0 m).go i H ∧ ∃ Nx : Hp → Prop,
        (∀ H', Nx H' → ∃ k', k' < k ∧ W (i + 1) k' H') ∧
        ∀ x H', (Itr 0 m).yld i H x H' → gName j x (wipe σ vs) H' fun σ2 H2 =>
          wipe σ2 vs = wipe σ vs ∧ tYes σ2 H2 fun b H3 =>
            if b = true then te σ2 H3 fun y H4 => ∃ acc, H4 D = some (.lst acc) ∧
              acc.length < sizeLine ∧ Nx (upd H4 D (.lst (acc ++ [y]))) else Nx H3) := by
  obtain ⟨dA, dS⟩ := hf.apart hD
  refine lc_range (lo := 0) (n := m) (fun i H' => Sb a H H' ∧ Fd H' a s (n + c * i) ∧ ∃ ns : List Int,
    H' D = some (.lst (ns.map V.int)) ∧ ns.length = i ∧ ∀ x ∈ ns, Pz x) ?_ ?_ ?_
  · exact ⟨Sb.new hD, (hf.upd dA dS).mono (by omega), [], upd_same, rfl, fun x h => by cases h⟩
  · rintro i H' hi ⟨sb, f, ns, h1, h2, h3⟩
    refine ⟨hw _, ?_⟩
    unfold tYes
    dsimp only
    rw [if_pos rfl]
    refine hs i H' _ hi sb f ?_
    intro z H2 sb2 f2 pz
    have h1' := sb2 _ _ dA h1
    refine ⟨_, h1', ?_, (Sb.trans sb sb2).mut hD, f2.upd dA dS, ns ++ [z], ?_, ?_, ?_⟩
    · rw [List.length_map, h2]
      exact Nat.lt_of_lt_of_le (show i < 50000 by omega) (by decide)
    · rw [upd_same, List.map_append]
      rfl
    · rw [List.length_append, h2]
      rfl
    · intro x hx
      rcases List.mem_append.mp hx with h | h
      · exact h3 x h
      · rw [List.mem_singleton.mp h]
        exact pz
  · rintro H' ⟨sb, f, ns, h1, h2, h3⟩
    exact hd H' ns sb f h1 h2 h3
end
/-- a drawn table's rows -/
def OkT (m w : Nat) (rs : List (List Int)) : Prop :=
  rs.length = m ∧ ∀ r ∈ rs, r.length = w ∧ ∀ x ∈ r, -99 ≤ x ∧ x ≤ 99
theorem OkT.tb {m w : Nat} {rs : List (List Int)} (h : OkT m w rs) (hm : m ≤ 1000) (hw : w ≤ 1000) : Tb w rs :=
  ⟨by rw [h.1]; exact hm, hw, fun r hr => (h.2 r hr).1⟩
theorem OkT.sm {m w : Nat} {rs : List (List Int)} (h : OkT m w rs) : ∀ r ∈ rs, Sm r := fun r hr x hx => by
  have := (h.2 r hr).2 x hx
  omega
end Gd
namespace Gd
open PySem PySem.Spec PyProof.Rows L2
theorem rows_shaped (rs : List (List Int)) : SeqAt.shaped (.list (rs.map rowD)) = true := by
  have a1 : ∀ l : List Int, PyData.canLayAll0 (l.map PyData.int) = true := by
    intro l
    induction l with
    | nil => simp [PyData.canLayAll0]
    | cons a l ih => simp [PyData.canLayAll0, PyData.canLay0, ih]
  have a2 : ∀ l : List Int, PyData.depthAll (l.map PyData.int) = 0 := by
    intro l
    induction l with
    | nil => simp [PyData.depthAll]
    | cons a l ih => simp [PyData.depthAll, PyData.depth, ih]
  have h1 : ∀ l : List (List Int), PyData.canLayAll0 (l.map rowD) = true := by
    intro l
    induction l with
    | nil => simp [PyData.canLayAll0]
    | cons a l ih => simp [PyData.canLayAll0, rowD, PyData.canLay0, a1, ih]
  have h2 : ∀ l : List (List Int), PyData.depthAll (l.map rowD) ≤ 1 := by
    intro l
    induction l with
    | nil => simp [PyData.depthAll]
    | cons a l ih =>
      simp only [List.map_cons, PyData.depthAll, rowD, PyData.depth, a2]
      omega
  have h3 := h2 rs
  show (PyData.canLay0 (.list (rs.map rowD)) && decide (PyData.depth (.list (rs.map rowD)) ≤ 64)) = true
  rw [Bool.and_eq_true]
  refine ⟨?_, decide_eq_true ?_⟩
  · simp only [PyData.canLay0]
    exact h1 rs
  · simp only [PyData.depth]
    omega
theorem rows_nil (rs : List (List Int)) : PyData.eqv (.list (rs.map rowD)) (.list []) = decide (rs = []) := by
  cases rs <;> simp [PyData.eqv, PyData.eqvAll]
end Gd
namespace Gd
open PySem PySem.Spec PyProof.Rows L2
theorem Same.sb {l : Addr} {H H1 H2 : Hp} (e : Same H H1) (n : H l = none) (s : Sb l H1 H2) : Same H H2 :=
  fun b o h => s b o (ne_of_none h n) (e b o h)
section
variable {K : PySem.W.Frag} {te : TE} {vs : List Nat} {σ : L2.St} {H : Hp} {D : Addr} {Qd : Hp → Prop}
/-- [e for x in range(m)], e data of tuples that draws -/
theorem lcrD {j m n c : Nat} {a s : Addr} (Pz : PyData → Prop) (hD : H D = none) (hf : Fd H a s n) (hm : m ≤ 50000)
    (ht : ∀ d, Pz d → tupOnly d = true)
    (hw : ∀ x, wipe ((wipe σ vs).set j (some x)) vs = wipe σ vs)
    (hs : ∀ (i : Nat) (H1 : Hp) (Q : VK), i < m → Sb a H H1 → Fd H1 a s (n + c * i) →
      (∀ (z : V) (d : PyData) (H2 : Hp), Sb a H1 H2 → Fd H2 a s (n + c * (i + 1)) → Pz d → Dp K H2 z d → Q z H2) →
      te ((wipe σ vs).set j (some (.int (0 + (i : Int))))) H1 Q)
    (hd : ∀ (H' : Hp) (ys : List V) (ds : List PyData), Sb a H H' → Fd H' a s (n + c * m) → H' D = some (.lst ys) →
      DpAll K H' ys ds → ds.length = m → (∀ x ∈ ds, Pz x) → Qd H') :
    ∃ W : Nat → Nat → Hp → Prop, (∃ m, W 0 m (upd H D (.lst []))) ∧ ∀ i k H, W i k H →
      ((Itr 0 m).stop i H ∧ Qd H) ∨ ((Itr 0 m).go i H ∧ ∃ Nx : Hp → Prop,
        (∀ H', Nx H' → ∃ k', k' < k ∧ W (i + 1) k' H') ∧
        ∀ x H', (Itr 0 m).yld i H x H' → gName j x (wipe σ vs) H' fun σ2 H2 =>
          wipe σ2 vs = wipe σ vs ∧ tYes σ2 H2 fun b H3 =>
            if b = true then te σ2 H3 fun y H4 => ∃ acc, H4 D = some (.lst acc) ∧
              acc.length < sizeLine ∧ Nx (upd H4 D (.lst (acc ++ [y]))) else Nx H3) := by
  obtain ⟨dA, dS⟩ := hf.apart hD
  refine lc_range (lo := 0) (n := m) (fun i H' => Sb a H H' ∧ Fd H' a s (n + c * i) ∧ ∃ (ys : List V) (ds : List PyData),
    H' D = some (.lst ys) ∧ DpAll K H' ys ds ∧ ds.length = i ∧ ∀ x ∈ ds, Pz x) ?_ ?_ ?_
  · exact ⟨Sb.new hD, (hf.upd dA dS).mono (by omega), [], [], upd_same, .nil, rfl, fun x h => by cases h⟩
  · rintro i H' hi ⟨sb, f, ys, ds, h1, h2, h3, h4⟩
    refine ⟨hw _, ?_⟩
    unfold tYes
    dsimp only
    rw [if_pos rfl]
    refine hs i H' _ hi sb f ?_
    intro z d H2 sb2 f2 pz hz
    have h1' := sb2 _ _ dA h1
    have tall : tupAll ds = true := (tupAll_iff ds).mpr fun x hx => ht x (h4 x hx)
    have hl : ys.length = i := by rw [dpa_len _ _ h2, h3]
    have tk := Tk.lst (o := .lst (ys ++ [z])) h1'
    refine ⟨_, h1', ?_, (Sb.trans sb sb2).mut hD, f2.upd dA dS, ys ++ [z], ds ++ [d], upd_same, ?_, ?_, ?_⟩
    · rw [hl]
      exact Nat.lt_of_lt_of_le (show i < 50000 by omega) (by decide)
    · exact dpa_snoc _ _ _ _ (DpAll.tk tk _ _ tall (DpAll.tk (f.tk sb2) _ _ tall h2)) (Dp.tk tk _ _ (ht d pz) hz)
    · rw [List.length_append, h3]
      rfl
    · intro x hx
      rcases List.mem_append.mp hx with h | h
      · exact h4 x h
      · rw [List.mem_singleton.mp h]
        exact pz
  · rintro H' ⟨sb, f, ys, ds, h1, h2, h3, h4⟩
    exact hd H' ys ds sb f h1 h2 h3 h4
end
end Gd
namespace Gd
open PySem PySem.Spec PyProof.Rows L2
/-! ### tables whose repr is known -/
def Rr (r : List Int) : Prop := r.length ≤ 8 ∧ ∀ x ∈ r, x.natAbs < 2 ^ 1900
def Rk (rs : List (List Int)) : Prop := rs.length ≤ 8 ∧ ∀ r ∈ rs, Rr r
theorem sh_row {r : List Int} (h : Rr r) : Sh 1 16000 (rowD r) := by
  refine (Sh.tup (k := 0) (n := 1901) (m := 8) ?_ (by rw [List.length_map]; exact h.1)).mono (by decide) (by decide)
  intro d hd
  obtain ⟨x, hx, rfl⟩ := List.mem_map.mp hd
  exact Sh.int (h.2 x hx)
theorem sh_rows {rs : List (List Int)} (h : Rk rs) : Sh 2 130000 (rowsD rs) := by
  refine (Sh.tup (k := 1) (n := 16000) (m := 8) ?_ (by rw [List.length_map]; exact h.1)).mono (by decide) (by decide)
  intro d hd
  obtain ⟨x, hx, rfl⟩ := List.mem_map.mp hd
  exact sh_row (h.2 x hx)
theorem sh_tab {w : Int} {rs : List (List Int)} (hw : w.natAbs < 2 ^ 1900) (h : Rk rs) : Sh 3 270000 (tabD w rs) := by
  refine (Sh.tup (k := 2) (n := 130000) (m := 2) ?_ (by simp)).mono (by decide) (by decide)
  intro d hd
  simp only [List.mem_cons, List.not_mem_nil, or_false] at hd
  rcases hd with rfl | rfl
  · exact (Sh.int hw).mono (by decide) (by decide)
  · exact sh_rows h
theorem nat_1900 {n : Nat} (h : n ≤ 1000000) : ((n : Int)).natAbs < 2 ^ 1900 :=
  Nat.lt_of_le_of_lt (by omega : _ ≤ 1000000) (Nat.lt_of_lt_of_le (by decide : 1000000 < 2 ^ 20) (Nat.pow_le_pow_right (by decide) (by decide)))
theorem int_1900 {x : Int} (h : -(10 ^ 30) ≤ x ∧ x ≤ 10 ^ 30) : x.natAbs < 2 ^ 1900 :=
  Nat.lt_of_le_of_lt (by omega : _ ≤ 10 ^ 30) (Nat.lt_of_lt_of_le (by decide : 10 ^ 30 < 2 ^ 100) (Nat.pow_le_pow_right (by decide) (by decide)))
/-- numbers from -b to b -/
def Bd (b : Int) (r : List Int) : Prop := ∀ x ∈ r, -b ≤ x ∧ x ≤ b
def Bs (b : Int) (rs : List (List Int)) : Prop := ∀ r ∈ rs, Bd b r
theorem Bd.at {b : Int} {r : List Int} (h : Bd b r) (hb : 0 ≤ b) (i : Nat) : -b ≤ r.getD i 0 ∧ r.getD i 0 ≤ b := by
  by_cases hi : i < r.length
  · exact h _ (getD_mem hi)
  · rw [List.getD_eq_getElem?_getD, List.getElem?_eq_none (by omega)]
    show -b ≤ 0 ∧ 0 ≤ b
    omega
theorem Bs.at {b : Int} {rs : List (List Int)} (h : Bs b rs) (hb : 0 ≤ b) (i k : Nat) : -b ≤ ent rs i k ∧ ent rs i k ≤ b := by
  unfold ent
  by_cases hi : i < rs.length
  · exact (h _ (getD_mem hi)).at hb k
  · rw [List.getD_eq_getElem?_getD (l := rs), List.getElem?_eq_none (by omega)]
    show -b ≤ ([] : List Int).getD k 0 ∧ ([] : List Int).getD k 0 ≤ b
    rw [List.getD_nil]
    omega
theorem sum_bd {b : Int} : ∀ l : List Int, Bd b l → -(b * l.length) ≤ l.sum ∧ l.sum ≤ b * l.length
  | [], _ => by simp
  | x :: l, h => by
    have h1 := h x (List.mem_cons_self ..)
    have h2 := sum_bd l (fun y hy => h y (List.mem_cons_of_mem _ hy))
    rw [List.sum_cons, List.length_cons]
    have e : b * ((l.length + 1 : Nat) : Int) = b * (l.length : Int) + b := by
      rw [Int.natCast_succ, Int.mul_add, Int.mul_one]
    rw [e]
    omega
theorem mul_bd {a b x y : Int} (ha : 0 ≤ a) (hb : 0 ≤ b) (hx : -a ≤ x ∧ x ≤ a) (hy : -b ≤ y ∧ y ≤ b) :
    -(a * b) ≤ x * y ∧ x * y ≤ a * b := by
  have h1 : x.natAbs ≤ a.natAbs := by omega
  have h2 : y.natAbs ≤ b.natAbs := by omega
  have h3 : (x * y).natAbs ≤ (a * b).natAbs := by
    rw [Int.natAbs_mul, Int.natAbs_mul]
    exact Nat.mul_le_mul h1 h2
  have h4 : 0 ≤ a * b := Int.mul_nonneg ha hb
  omega
theorem mulRow_bd {a b : Int} {r : List Int} {w : Nat} {ts : List (List Int)} {m : Nat} (ha : 0 ≤ a) (hb : 0 ≤ b)
    (hr : Bd a r) (ht : Bs b ts) (hm : r.length ≤ m) : Bd (a * b * m) (mulRow r w ts) := by
  intro x hx
  obtain ⟨k, hk, rfl⟩ := List.mem_map.mp hx
  have h0 : 0 ≤ a * b := Int.mul_nonneg ha hb
  have h := sum_bd (b := a * b) ((List.range r.length).map fun i => r.getD i 0 * ent ts i k) (by
    intro y hy
    obtain ⟨i, hi, rfl⟩ := List.mem_map.mp hy
    exact mul_bd ha hb (hr.at ha i) (ht.at hb i k))
  rw [List.length_map, List.length_range] at h
  have h2 : a * b * (r.length : Int) ≤ a * b * (m : Int) := Int.mul_le_mul_of_nonneg_left (by omega) h0
  omega
theorem mulRow_len {r : List Int} {w : Nat} {ts : List (List Int)} : (mulRow r w ts).length = w := by
  unfold mulRow
  rw [List.length_map, List.length_range]
theorem OkT.bs {m wd : Nat} {rs : List (List Int)} (h : OkT m wd rs) : Bs 99 rs := fun r hr x hx => (h.2 r hr).2 x hx
theorem rr_bd {r : List Int} (hl : r.length ≤ 8) (h : Bd 1000000 r) : Rr r :=
  ⟨hl, fun x hx => int_1900 (by have := h x hx; omega)⟩
theorem Bd.mono {a b : Int} {r : List Int} (h : Bd a r) (e : a ≤ b) : Bd b r := fun x hx => by
  have := h x hx
  omega
theorem rk_ok {m wd : Nat} {rs : List (List Int)} (h : OkT m wd rs) (hm : m ≤ 8) (hw : wd ≤ 8) : Rk rs :=
  ⟨by rw [h.1]; exact hm, fun r hr => rr_bd (by rw [(h.2 r hr).1]; exact hw) (Bd.mono (h.bs r hr) (by decide))⟩
theorem rk_unit {n : Nat} (h : n ≤ 8) : Rk (unitR n) := by
  refine ⟨by simp [unitR, h], fun r hr => ?_⟩
  obtain ⟨k, hk, rfl⟩ := List.mem_map.mp hr
  refine rr_bd (by simp [unitRow, h]) ?_
  intro x hx
  obtain ⟨c, hc, rfl⟩ := List.mem_map.mp hx
  split <;> decide
end Gd
namespace Gd
open PySem PySem.Spec PyProof.Rows L2
/-! ### sums over places, products of tables -/
def sumR (n : Nat) (f : Nat → Int) : Int := ((List.range n).map f).sum
theorem sumR_zero (f : Nat → Int) : sumR 0 f = 0 := rfl
theorem sumR_succ (n : Nat) (f : Nat → Int) : sumR (n + 1) f = sumR n f + f n := by
  unfold sumR
  rw [List.range_succ, List.map_append, List.sum_append]
  simp
theorem sumR_congr {n : Nat} {f g : Nat → Int} (h : ∀ i, i < n → f i = g i) : sumR n f = sumR n g := by
  unfold sumR
  congr 1
  refine List.map_congr_left ?_
  intro i hi
  exact h i (List.mem_range.mp hi)
theorem sumR_add (n : Nat) (f g : Nat → Int) : sumR n (fun i => f i + g i) = sumR n f + sumR n g := by
  induction n with
  | zero => rfl
  | succ n ih => rw [sumR_succ, sumR_succ, sumR_succ, ih]; omega
theorem sumR_mulr (n : Nat) (f : Nat → Int) (c : Int) : sumR n (fun i => f i * c) = sumR n f * c := by
  induction n with
  | zero => rw [sumR_zero, sumR_zero, Int.zero_mul]
  | succ n ih => rw [sumR_succ, sumR_succ, ih, Int.add_mul]
theorem sumR_mull (n : Nat) (f : Nat → Int) (c : Int) : sumR n (fun i => c * f i) = c * sumR n f := by
  induction n with
  | zero => rw [sumR_zero, sumR_zero, Int.mul_zero]
  | succ n ih => rw [sumR_succ, sumR_succ, ih, Int.mul_add]
theorem sumR_nought (n : Nat) : sumR n (fun _ => 0) = 0 := by
  induction n with
  | zero => rfl
  | succ n ih => rw [sumR_succ, ih]; rfl
theorem sumR_comm (n m : Nat) (f : Nat → Nat → Int) :
    sumR n (fun i => sumR m (fun j => f i j)) = sumR m (fun j => sumR n (fun i => f i j)) := by
  induction n with
  | zero =>
    rw [sumR_zero]
    exact (sumR_nought m).symm
  | succ n ih =>
    rw [sumR_succ, ih, ← sumR_add]
    exact sumR_congr fun j _ => (sumR_succ n fun i => f i j).symm
theorem sumR_one {n k : Nat} (hk : k < n) (f : Nat → Int) (h : ∀ i, i < n → i ≠ k → f i = 0) : sumR n f = f k := by
  induction n with
  | zero => omega
  | succ n ih =>
    rw [sumR_succ]
    by_cases e : k = n
    · subst e
      rw [sumR_congr (g := fun _ => 0) (fun i hi => h i (by omega) (by omega)), sumR_nought]
      omega
    · rw [ih (by omega) (fun i hi ne => h i (by omega) ne), h n (by omega) (by omega)]
      omega
theorem getD_range {α : Type} {n i : Nat} {g : Nat → α} {d : α} (h : i < n) : ((List.range n).map g).getD i d = g i := by
  rw [List.getD_eq_getElem?_getD, List.getElem?_map, List.getElem?_range h]
  rfl
theorem range_getD {α β : Type} (l : List α) (d : α) (f : α → β) : (List.range l.length).map (fun i => f (l.getD i d)) = l.map f := by
  apply List.ext_getElem
  · simp
  · intro i h1 h2
    have hi : i < l.length := by simpa using h2
    simp only [List.getElem_map, List.getElem_range]
    rw [List.getD_eq_getElem?_getD, List.getElem?_eq_getElem hi]
    rfl
theorem mulRow_eq (r : List Int) (w : Nat) (rs : List (List Int)) :
    mulRow r w rs = (List.range w).map fun k => sumR r.length fun i => r.getD i 0 * ent rs i k := rfl
theorem mulR_eq (rs : List (List Int)) (w : Nat) (ts : List (List Int)) : mulR rs w ts = rs.map fun r => mulRow r w ts :=
  range_getD rs [] fun r => mulRow r w ts
theorem turnR_eq (w : Nat) (rs : List (List Int)) : turnR w rs = (List.range w).map fun k => rs.map fun r => r.getD k 0 := by
  unfold turnR ent
  refine List.map_congr_left ?_
  intro k _
  exact range_getD rs [] fun r => r.getD k 0
theorem mulR_len {rs : List (List Int)} {w : Nat} {ts : List (List Int)} : (mulR rs w ts).length = rs.length := by
  rw [mulR_eq, List.length_map]
theorem mulR_at {rs : List (List Int)} {w : Nat} {ts : List (List Int)} {i : Nat} (h : i < rs.length) :
    (mulR rs w ts).getD i [] = mulRow (rs.getD i []) w ts := by
  unfold mulR
  rw [getD_range h]
theorem mulRow_at {r : List Int} {w : Nat} {ts : List (List Int)} {k : Nat} (h : k < w) :
    (mulRow r w ts).getD k 0 = sumR r.length fun i => r.getD i 0 * ent ts i k := by
  rw [mulRow_eq, getD_range h]
theorem ent_mul {rs : List (List Int)} {w : Nat} {ts : List (List Int)} {i k : Nat} (hi : i < rs.length) (hk : k < w) :
    ent (mulR rs w ts) i k = sumR (rs.getD i []).length fun j => ent rs i j * ent ts j k := by
  unfold ent
  rw [mulR_at hi, mulRow_at hk]
  rfl
theorem ent_turn {w : Nat} {rs : List (List Int)} {i k : Nat} (hk : k < w) (hi : i < rs.length) : ent (turnR w rs) k i = ent rs i k := by
  have h : (turnR w rs).getD k [] = (List.range rs.length).map fun i => ent rs i k := by
    unfold turnR
    rw [getD_range hk]
  unfold ent at h ⊢
  rw [h, getD_range hi]
theorem ent_unit {n i k : Nat} (hi : i < n) (hk : k < n) : ent (unitR n) i k = if k = i then 1 else 0 := by
  unfold ent unitR
  rw [getD_range hi]
  unfold unitRow
  rw [getD_range hk]
theorem row_assoc {r : List Int} {w w' : Nat} {bs cs : List (List Int)} (hr : r.length = bs.length) (hb : Tb w bs) (hw : w = cs.length) :
    mulRow (mulRow r w bs) w' cs = mulRow r w' (mulR bs w' cs) := by
  show (List.range w').map (fun k => sumR (mulRow r w bs).length (fun j => (mulRow r w bs).getD j 0 * ent cs j k)) =
    (List.range w').map (fun k => sumR r.length (fun i => r.getD i 0 * ent (mulR bs w' cs) i k))
  refine List.map_congr_left ?_
  intro k hk
  have hk := List.mem_range.mp hk
  rw [mulRow_len]
  have e1 : sumR w (fun j => (mulRow r w bs).getD j 0 * ent cs j k) =
      sumR w (fun j => sumR r.length (fun i => r.getD i 0 * ent bs i j * ent cs j k)) := by
    refine sumR_congr fun j hj => ?_
    rw [mulRow_at hj, ← sumR_mulr]
  have e2 : sumR r.length (fun i => r.getD i 0 * ent (mulR bs w' cs) i k) =
      sumR r.length (fun i => sumR w (fun j => r.getD i 0 * ent bs i j * ent cs j k)) := by
    refine sumR_congr fun i hi => ?_
    rw [ent_mul (by omega) hk, hb.len (by omega), ← sumR_mull]
    exact sumR_congr fun j _ => (Int.mul_assoc _ _ _).symm
  rw [e1, e2, sumR_comm]
theorem mul_assoc {as bs cs : List (List Int)} {v w w' : Nat} (ha : Tb v as) (hv : v = bs.length) (hb : Tb w bs) (hw : w = cs.length) :
    mulR (mulR as w bs) w' cs = mulR as w' (mulR bs w' cs) := by
  rw [mulR_eq (mulR as w bs), mulR_eq as, mulR_eq as, List.map_map]
  refine List.map_congr_left ?_
  intro r hr
  exact row_assoc (by rw [ha.2.2 r hr, hv]) hb hw
theorem row_id (r : List Int) : (List.range r.length).map (fun k => r.getD k 0) = r := by
  have := range_getD r 0 id
  simpa using this
theorem rows_id (rs : List (List Int)) : (List.range rs.length).map (fun k => rs.getD k []) = rs := by
  have := range_getD rs [] id
  simpa using this
theorem unit_mul {rs : List (List Int)} {w : Nat} (h : Tb w rs) : mulR (unitR rs.length) w rs = rs := by
  conv => rhs; rw [← rows_id rs]
  rw [mulR_eq]
  unfold unitR
  rw [List.map_map]
  refine List.map_congr_left ?_
  intro i hi
  have hi := List.mem_range.mp hi
  show mulRow (unitRow rs.length i) w rs = rs.getD i []
  conv => rhs; rw [← row_id (rs.getD i [])]
  rw [h.len hi, mulRow_eq]
  refine List.map_congr_left ?_
  intro k hk
  have hl : (unitRow rs.length i).length = rs.length := by simp [unitRow]
  rw [hl, sumR_one hi]
  · unfold unitRow
    rw [getD_range hi, if_pos rfl, Int.one_mul]
    rfl
  · intro j hj ne
    unfold unitRow
    rw [getD_range hj, if_neg ne, Int.zero_mul]
theorem mul_unit {rs : List (List Int)} {w : Nat} (h : Tb w rs) : mulR rs w (unitR w) = rs := by
  conv => rhs; rw [← List.map_id rs]
  rw [mulR_eq]
  refine List.map_congr_left ?_
  intro r hr
  show mulRow r w (unitR w) = r
  have hl := h.2.2 r hr
  conv => rhs; rw [← row_id r]
  rw [hl, mulRow_eq]
  refine List.map_congr_left ?_
  intro k hk
  have hk := List.mem_range.mp hk
  rw [hl, sumR_one hk]
  · rw [ent_unit hk hk, if_pos rfl, Int.mul_one]
  · intro j hj ne
    rw [ent_unit hj hk, if_neg (fun z => ne z.symm), Int.mul_zero]
theorem turn_mul {as bs : List (List Int)} {v w : Nat} (ha : Tb v as) (hv : v = bs.length) :
    turnR w (mulR as w bs) = mulR (turnR w bs) as.length (turnR v as) := by
  have hl : (turnR w bs).length = w := by simp [turnR]
  have e : mulR (turnR w bs) as.length (turnR v as) = (List.range w).map fun k => mulRow ((turnR w bs).getD k []) as.length (turnR v as) := by
    unfold mulR
    rw [hl]
  rw [e]
  unfold turnR
  refine List.map_congr_left ?_
  intro k hk
  have hk := List.mem_range.mp hk
  rw [mulR_len]
  have ek : ((List.range w).map fun k => (List.range bs.length).map fun i => ent bs i k).getD k [] = (List.range bs.length).map fun i => ent bs i k := getD_range hk
  rw [ek, mulRow_eq, List.length_map, List.length_range]
  refine List.map_congr_left ?_
  intro i hi
  have hi := List.mem_range.mp hi
  rw [ent_mul hi hk, ha.len hi, hv]
  refine sumR_congr fun j hj => ?_
  rw [getD_range hj]
  have et : ent ((List.range v).map fun k => (List.range as.length).map fun i => ent as i k) j i = ent as i j := ent_turn (w := v) (by omega) hi
  rw [← hv, et, Int.mul_comm]
theorem stack_mul {as ms bs : List (List Int)} {w : Nat} : mulR (as ++ ms) w bs = mulR as w bs ++ mulR ms w bs := by
  rw [mulR_eq, mulR_eq, mulR_eq, List.map_append]
theorem turn_stack {as ms : List (List Int)} {w : Nat} :
    turnR w (as ++ ms) = (List.range w).map fun k => (turnR w as).getD k [] ++ (turnR w ms).getD k [] := by
  rw [turnR_eq]
  refine List.map_congr_left ?_
  intro k hk
  have hk := List.mem_range.mp hk
  rw [turnR_eq, turnR_eq, getD_range hk, getD_range hk, List.map_append]
theorem mul_tb {as bs : List (List Int)} {v w : Nat} (ha : as.length ≤ 1000) (hw : w ≤ 1000) : Tb w (mulR as w bs) :=
  ⟨by rw [mulR_len]; exact ha, hw, fun r hr => by
    rw [mulR_eq] at hr
    obtain ⟨x, _, rfl⟩ := List.mem_map.mp hr
    exact mulRow_len⟩
theorem turn_tb {rs : List (List Int)} {w : Nat} (hr : rs.length ≤ 1000) (hw : w ≤ 1000) : Tb rs.length (turnR w rs) := by
  refine ⟨by simp [turnR]; exact hw, hr, fun r h => ?_⟩
  obtain ⟨x, _, rfl⟩ := List.mem_map.mp h
  simp
theorem turn_len {rs : List (List Int)} {w : Nat} : (turnR w rs).length = w := by simp [turnR]
theorem unit_tb {n : Nat} (h : n ≤ 1000) : Tb n (unitR n) := by
  refine ⟨by simp [unitR]; exact h, h, fun r hr => ?_⟩
  obtain ⟨x, _, rfl⟩ := List.mem_map.mp hr
  simp [unitRow]
theorem bs_mul {a b : Int} {as bs : List (List Int)} {v w m : Nat} (h0 : 0 ≤ a) (h1 : 0 ≤ b) (ha : Bs a as) (hv : ∀ r ∈ as, r.length ≤ m) (hb : Bs b bs) :
    Bs (a * b * m) (mulR as w bs) := by
  intro r hr
  rw [mulR_eq] at hr
  obtain ⟨x, hx, rfl⟩ := List.mem_map.mp hr
  exact mulRow_bd h0 h1 (ha x hx) hb (hv x hx)
theorem bs_turn {a : Int} {rs : List (List Int)} {w : Nat} (h0 : 0 ≤ a) (ha : Bs a rs) : Bs a (turnR w rs) := by
  intro r hr
  obtain ⟨k, _, rfl⟩ := List.mem_map.mp hr
  intro x hx
  obtain ⟨i, _, rfl⟩ := List.mem_map.mp hx
  exact ha.at h0 i k
theorem bs_unit {n : Nat} : Bs 1 (unitR n) := by
  intro r hr
  obtain ⟨k, _, rfl⟩ := List.mem_map.mp hr
  intro x hx
  obtain ⟨c, _, rfl⟩ := List.mem_map.mp hx
  show -1 ≤ (if c = k then (1 : Int) else 0) ∧ (if c = k then (1 : Int) else 0) ≤ 1
  split <;> decide
theorem bs_sm {a : Int} {rs : List (List Int)} (h : Bs a rs) (ha : a < 2 ^ 64) : ∀ r ∈ rs, Sm r := fun r hr x hx => by
  have := h r hr x hx
  omega
/-! ### == of tables -/
mutual
theorem eqv_self : ∀ d : PyData, tupOnly d = true → PyData.eqv d d = true
  | .none, _ => by simp [PyData.eqv]
  | .bool b, _ => by simp [PyData.eqv]
  | .int i, _ => by simp [PyData.eqv]
  | .str x, _ => by simp [PyData.eqv]
  | .tuple ds, h => by
    simp only [PyData.eqv]
    exact eqvAll_self ds (by simpa [tupOnly] using h)
  | .list _, h => by simp [tupOnly] at h
  | .dict _, h => by simp [tupOnly] at h
theorem eqvAll_self : ∀ ds : List PyData, tupAll ds = true → PyData.eqvAll ds ds = true
  | [], _ => by simp [PyData.eqvAll]
  | d :: ds, h => by
    have h' : tupOnly d = true ∧ tupAll ds = true := by simpa [tupAll] using h
    simp only [PyData.eqvAll, eqv_self d h'.1, eqvAll_self ds h'.2, Bool.and_self]
end
/-- may be compared -/
def Shp (k : Nat) (d : PyData) : Prop := d.canLay0 = true ∧ d.depth ≤ k
theorem shp_int (i : Int) : Shp 0 (.int i) := ⟨by simp [PyData.canLay0], by simp [PyData.depth]⟩
theorem shp_all {k : Nat} : ∀ ds : List PyData, (∀ d ∈ ds, Shp k d) → PyData.canLayAll0 ds = true ∧ PyData.depthAll ds ≤ k
  | [], _ => ⟨by simp [PyData.canLayAll0], by simp [PyData.depthAll]⟩
  | d :: ds, h => by
    obtain ⟨a1, a2⟩ := h d (List.mem_cons_self ..)
    obtain ⟨b1, b2⟩ := shp_all ds (fun x hx => h x (List.mem_cons_of_mem _ hx))
    refine ⟨by simp [PyData.canLayAll0, a1, b1], ?_⟩
    simp only [PyData.depthAll]
    omega
theorem shp_tup {k : Nat} {ds : List PyData} (h : ∀ d ∈ ds, Shp k d) : Shp (k + 1) (.tuple ds) := by
  obtain ⟨h1, h2⟩ := shp_all ds h
  refine ⟨by simp [PyData.canLay0, h1], ?_⟩
  simp only [PyData.depth]
  omega
theorem Shp.mono {k m : Nat} {d : PyData} (h : Shp k d) (e : k ≤ m) : Shp m d := ⟨h.1, Nat.le_trans h.2 e⟩
theorem Shp.shaped {k : Nat} {d : PyData} (h : Shp k d) (hk : k ≤ 64) : SeqAt.shaped d = true := by
  show (d.canLay0 && decide (d.depth ≤ 64)) = true
  rw [Bool.and_eq_true]
  exact ⟨h.1, decide_eq_true (Nat.le_trans h.2 hk)⟩
theorem shp_row (r : List Int) : Shp 1 (rowD r) := shp_tup fun d hd => by
  obtain ⟨x, _, rfl⟩ := List.mem_map.mp hd
  exact shp_int x
theorem shp_rows (rs : List (List Int)) : Shp 2 (rowsD rs) := shp_tup fun d hd => by
  obtain ⟨x, _, rfl⟩ := List.mem_map.mp hd
  exact shp_row x
theorem shp_tab (w : Int) (rs : List (List Int)) : Shp 3 (tabD w rs) := shp_tup fun d hd => by
  simp only [List.mem_cons, List.not_mem_nil, or_false] at hd
  rcases hd with rfl | rfl
  · exact (shp_int w).mono (by decide)
  · exact shp_rows rs
theorem ne_dp {K : PySem.W.Frag} {H : Hp} {x y : V} {d : PyData} {k : Nat} {Q : VK} (hx : Dp K H x d) (hy : Dp K H y d)
    (hs : Shp k d) (hk : k ≤ 64) (ht : tupOnly d = true) (q : Q (.bl false) H) : rNeD K x y H Q := by
  refine ⟨d, d, hx, hy, hs.shaped hk, hs.shaped hk, ?_⟩
  rw [eqv_self d ht]
  exact q
theorem eq_dp {K : PySem.W.Frag} {H : Hp} {x y : V} {d : PyData} {k : Nat} {Q : VK} (hx : Dp K H x d) (hy : Dp K H y d)
    (hs : Shp k d) (hk : k ≤ 64) (ht : tupOnly d = true) (q : Q (.bl true) H) : rEqD K x y H Q := by
  refine ⟨d, d, hx, hy, hs.shaped hk, hs.shaped hk, ?_⟩
  rw [eqv_self d ht]
  exact q
end Gd
namespace Gd
open PySem PySem.Spec PyProof.Rows L2
open PySem.AutoSeq1 (wpAny_loadPart')
/-! ### enumerate(t), t a tuple -/
theorem enum_new_tup (l : Addr) (items : Array Value) (n : Nat) (dct : Option Addr)
    (sl : Array (Option Value)) :
    Meets (Builtin.«enumerate.__new__» ⟨[.type "enumerate", .ref l], []⟩) (fun _ R s =>
      s.heap.get? l = some { cls := .type "tuple", dict := dct, data := .seq items n, slots := sl } ∧
      R (.ok (.ret (.ref (s.heap.push { cls := .type "tuple_iterator", data := .fields #[.ref l, .int 0 0] }).objs.size)))
        { s with heap := ((s.heap.push { cls := .type "tuple_iterator", data := .fields #[.ref l, .int 0 0] }).push ({ cls := .type "enumerate", data := .fields #[.none, .bool false, .ref s.heap.objs.size, rawInt 0, .none, .none] } : Obj)) }) :=
  .of_wp fun prog w A R s h => by
    obtain ⟨hp, g, d, tk, os⟩ := s
    obtain ⟨hl, h⟩ := h
    have hsub := sub_enumerate
    have hL : Heap.IsTuple (Shared.heap ⟨hp, g, d, tk, os⟩) l items := ⟨_, hl, rfl, n, rfl⟩
    wp_walk using wpAny_loadPart' hl
    refine wpAny_stack_any fun st => wpAny_pure ?_
    split
    · rename_i c _ _ _ _ _
      cases (c == Value.type "enumerate") <;> (wp_walk using wpAny_loadPart' hl, wpAny_pyIter_tuple hL) <;> exact ⟨_, rfl, h⟩
    · wp_walk using wpAny_loadPart' hl, wpAny_pyIter_tuple hL
      exact ⟨_, rfl, h⟩
theorem call_enum_tup {prog : Program} {w : World} {A : Around} {E : Value → Shared → Prop} {s : Shared}
    {l : Addr} {items : Array Value} {Q : Value → Shared → Prop} (hL : s.heap.IsTuple l items)
    (h : ∀ h', IsEnum h' (s.heap.objs.size + 1) s.heap.objs.size 0 .none →
      h'.IsTupleIter s.heap.objs.size l 0 → h'.objs.size = s.heap.objs.size + 2 →
      (∀ b o, s.heap.get? b = some o → h'.get? b = some o) →
      Q (.ref (s.heap.objs.size + 1)) { s with heap := h' }) :
    wpAny (model prog w) A (call (.type "enumerate") [.ref l]) Q E s := by
  obtain ⟨⟨c, dct, dt, sl⟩, hl, hc, n, hd⟩ := hL
  simp only at hc hd
  subst hc hd
  refine callType_new F.called_enumerate (by decide) (F.typeCall_enumerate_1 _) (F.newCall_enumerate_1 _)
    (fun obj => F.args_object_init_2 obj _) F.entry_enumerate_new (enum_new_tup l items n dct sl) ⟨hl, ?_⟩
  have hz := Heap.size_push s.heap { cls := .type "tuple_iterator", data := .fields #[.ref l, .int 0 0] }
  have he := Heap.get?_push_size (s.heap.push { cls := .type "tuple_iterator", data := .fields #[.ref l, .int 0 0] })
    (o := { cls := .type "enumerate", data := .fields #[.none, .bool false, .ref s.heap.objs.size, rawInt 0, .none, .none] }) rfl
  show _ ∧ _
  rw [hz] at he ⊢
  refine ⟨⟨_, he, rfl⟩, h _ he ⟨_, Heap.get?_push_of_some _ (Heap.get?_push_size _ rfl), rfl, rfl⟩
    (by rw [Heap.size_push, hz]) ?_⟩
  intro b o x
  exact Heap.get?_push_of_some _ (Heap.get?_push_of_some _ x)
/-- the tuple at a, each item in a new pair with its place -/
def ItE (K : PySem.W.Frag) (a : Addr) : It :=
  ⟨fun i H => ∃ (xs : List V) (x : V), SqT K H a xs ∧ xs[i]? = some x,
    fun i H v H' => ∃ T x, v = .ref T ∧ H T = none ∧ H' = upd H T (.tup [.int (i : Nat), x]) ∧
      ∀ xs, SqT K H a xs → xs[i]? = some x,
    fun i H => ∃ xs : List V, SqT K H a xs ∧ xs.length = i⟩
theorem turn_enumT {P : Program} {w : World} {K : PySem.W.Frag} {elts : List Expr} {kk : Nat}
    {tpos : Pos} (a e it : Addr) :
    Turn P w K (.Tuple elts kk tpos) (ItE K a) [e, it] e (fun i h =>
      (∃ old, IsEnum h e it ((i : Nat) : Int) old) ∧ h.IsTupleIter it a i ∧ e ≠ it ∧ e ≠ a ∧ a ≠ it) where
  mem := List.mem_cons_self ..
  obj := by
    rintro i h ⟨⟨old, he⟩, ⟨o, ho, hc, hd⟩, _⟩ b hb
    rcases List.mem_cons.mp hb with z | z
    · rw [z]
      exact ⟨_, he, fun v q => nomatch q⟩
    · rw [List.mem_singleton.mp z]
      exact ⟨o, ho, fun v q => by rw [hd] at q; cases q⟩
  keep := by
    rintro i h h' ⟨⟨old, he⟩, hi, r⟩ k
    exact ⟨⟨old, k e (by simp) _ he⟩, hi.at (fun o q => k it (by simp) o q), r⟩
  item := by
    intro X hP hw hK hc i pins s σ H E I hf st hg
    subst hP hw hK
    obtain ⟨⟨old, he⟩, hit, hne, hea, hai⟩ := st
    obtain ⟨xs, x, hq, hx⟩ := hg
    obtain ⟨its, rv, p, hz⟩ := I.tuple hq
    obtain ⟨u, hu, ru⟩ := rv.get hx
    have hel : e < s.heap.objs.size := Heap.lt_size he
    have hil : it < s.heap.objs.size := by
      obtain ⟨_, q, _⟩ := hit
      exact Heap.lt_size q
    have hlt : i < its.toArray.size := by
      have := (List.getElem?_eq_some_iff.mp hu).1
      simpa using this
    have hef : e ∉ [it, a] := by simp [hne, hea]
    refine wpAny_pyNext_enum_itemC (Draws.tuple (A := X.A.in1) (I.ok.hd hc) it a hai its.toArray) he ⟨hit, p⟩ hlt hne hef ?_
    intro y h' tk hy ho hst hT hsz hk
    have ey : y = u := by
      have h1 : its[i]? = some y := by simpa using hy
      rw [hu] at h1
      exact (Option.some.inj h1).symm
    subst ey
    refine ⟨_, rfl, wpAny_letOwnedTupleGo_enum (s := { s with heap := h', toks := tk + 1 }) ho fun h'' he' sb => ?_⟩
    have hT2 : h''.get? s.heap.objs.size = some { cls := .type "tuple", data := .seq #[.int i tk, y] } :=
      (sb.2 _ (Nat.ne_of_gt hel)).trans hT
    have new : ObjOk X.prog X.w (upd H s.heap.objs.size (.tup [.int (i : Nat), x])) h'' s.heap.objs.size (.tup [.int (i : Nat), x]) :=
      ⟨by show 2 ≤ sizeLine; decide, [.int i tk, y], .cons ⟨_, rfl⟩ (.cons ru .nil), ⟨_, hT2, rfl, _, rfl⟩⟩
    have I1 : Inv X pins σ (upd H s.heap.objs.size (.tup [.int (i : Nat), x])) { s with heap := h'', toks := tk + 1 } := by
      refine I.turnedNew (ch := [e, it]) ?_ hf (Nat.le_refl _) new
      intro b ob hb q
      have b1 : b ≠ e := fun z => hb (by simp [z])
      have b2 : b ≠ it := fun z => hb (by simp [z])
      exact (sb.2 b b1).trans (hk b ob b1 b2 q)
    refine ⟨.ref s.heap.objs.size, _, I1, rfl, ⟨_, x, rfl, I.hok.fresh (Nat.le_refl _), rfl, ?_⟩, ⟨⟨y, ?_⟩, ?_, hne, hea, hai⟩, ?_⟩
    · intro ys hys
      rw [I.tuple_inj hys hq]
      exact hx
    · rw [show ((i + 1 : Nat) : Int) = (i : Int) + 1 from by omega]
      exact he'
    · exact hst.1.at fun o q => (sb.2 it (Ne.symm hne)).trans q
    · intro b hb
      have hb' : b < s.heap.objs.size := by
        rcases List.mem_cons.mp hb with z | z
        · rw [z]; exact hel
        · rw [List.mem_singleton.mp z]; exact hil
      rw [upd_ne (Nat.ne_of_lt hb')]
      exact (hf b hb).1
  done := by
    intro X hP hw hK hc i pins s σ H E I hf st hg
    subst hP hw hK
    obtain ⟨⟨old, he⟩, hit, hne, hea, hai⟩ := st
    obtain ⟨xs, hq, hx⟩ := hg
    obtain ⟨its, rv, p, hz⟩ := I.tuple hq
    obtain ⟨f0, f1, f2, f3, f4, f5⟩ := hf it (by simp)
    have hsz : i = its.toArray.size := by
      rw [List.size_toArray, ← rv.length, hx]
    refine wpAny_pyNext_enum_endD (Draws.tuple (A := X.A.in1) (I.ok.hd hc) it a hai its.toArray) he ⟨hsz ▸ hit, p⟩ ?_
    intro h' eb
    exact ⟨rfl, I.turned (t' := s.toks) (fun b o hb q => eb b o hb q) f0 f1 f3 f4 f5⟩
  self := fun A i s Q E st h => by
    obtain ⟨⟨_, he⟩, _⟩ := st
    exact wpAny_pyIter_enum he h
def iEnumT (K : PySem.W.Frag) (ta : TA) : TI := fun σ H R => ta σ H fun vs H1 =>
  ∃ a xs, vs = [.ref a] ∧ SqT K H1 a xs ∧ R (ItE K a) H1
theorem pi_enumK {X : Cx} {K : PySem.W.Frag} {e : Expr} {ta : TA} {p pos tpos : Pos} {elts : List Expr} {kk : Nat}
    (hK : X.K = K) (hg : Gl X "enumerate") (hm : X.mg "enumerate" = none) (ha : PA X [e] ta)
    (hs : starEach [e] X.env = [(false, eval e X.env)] := by rfl) :
    PI X (.Tuple elts kk tpos) (.Call (.Name "enumerate" p) [e] [] pos) (iEnumT K ta) := by
  subst hK
  constructor
  intro pins s σ H R I h
  refine Call_ (ld_blt I hg hm boot_enumerate (PyProof.Rows.callWith_type1 (thn (ha.run pos pins s σ H _ I h) ?_) hs rfl))
  rintro us s1 ⟨vs, H1, I1, r1, a, xs, rfl, hq, q⟩
  rw [Vals.ref1 r1]
  obtain ⟨its, rv, p', hz⟩ := I1.tuple hq
  have hal : a < s1.heap.objs.size := p'.lt
  refine call_enum_tup p' fun h' he hit hsz hk => wpAny_pyIter_enum he ?_
  have I2 : Inv X pins σ H1 { s1 with heap := h' } := I1.kept (t' := s1.toks) hk
  refine ⟨s1.heap.objs.size + 1, [s1.heap.objs.size + 1, s1.heap.objs.size], _, _, H1, rfl, I2,
    turn_enumT a (s1.heap.objs.size + 1) s1.heap.objs.size, ⟨⟨.none, he⟩, hit, Nat.succ_ne_self _, Nat.ne_of_gt (Nat.lt_succ_of_lt hal), Nat.ne_of_lt hal⟩, ?_, q⟩
  intro b hb
  have hle : s1.heap.objs.size ≤ b := by
    rcases List.mem_cons.mp hb with z | z
    · rw [z]; exact Nat.le_add_right _ _
    · rw [List.mem_singleton.mp z]; exact Nat.le_refl _
  exact I1.fpOk hle (I1.hok.fresh hle)
/-- for i, x in enumerate(t) -/
theorem for_enumT {K : PySem.W.Frag} {a : Addr} {xs : List V} {g : TG} {tb : TS} {D : Ends} {σ : L2.St} {H : Hp}
    (Pv : Nat → L2.St → Hp → Prop) (h0 : Pv 0 σ H) (hq : ∀ i σ H, Pv i σ H → SqT K H a xs)
    (hs : ∀ (i : Nat) (x : V) (T : Addr) (σ : L2.St) (H : Hp), xs[i]? = some x → Pv i σ H → H T = none →
      g (.ref T) σ (upd H T (.tup [.int (i : Nat), x])) fun σ2 H2 =>
        tb { D with nx := Pv (i + 1), ct := Pv (i + 1), bk := D.nx } σ2 H2)
    (hd : ∀ σ H, Pv xs.length σ H → D.nx σ H) :
    ∃ W : Nat → Nat → L2.St → Hp → Prop, (∃ m, W 0 m σ H) ∧ ∀ i m σ H, W i m σ H →
      ((ItE K a).stop i H ∧ D.nx σ H) ∨ ((ItE K a).go i H ∧ ∃ N : L2.St → Hp → Prop,
        (∀ σ' H', N σ' H' → ∃ m', m' < m ∧ W (i + 1) m' σ' H') ∧
        ∀ v H', (ItE K a).yld i H v H' → g v σ H' fun σ2 H2 =>
          tb { D with nx := N, ct := N, bk := D.nx } σ2 H2) := by
  refine ⟨fun i m σ H => m = xs.length - i ∧ i ≤ xs.length ∧ Pv i σ H, ⟨xs.length, rfl, Nat.zero_le _, h0⟩, ?_⟩
  rintro i m σ H ⟨rfl, hi, p⟩
  have qx := hq i σ H p
  by_cases hlt : i < xs.length
  · have hx : xs[i]? = some xs[i] := List.getElem?_eq_getElem hlt
    refine .inr ⟨⟨xs, _, qx, hx⟩, Pv (i + 1), fun σ' H' p' => ⟨xs.length - (i + 1), by omega, rfl, hlt, p'⟩, ?_⟩
    intro v H' y
    obtain ⟨T, x', rfl, hT, rfl, f1⟩ := y
    exact hs i x' T σ H (f1 xs qx) p hT
  · have e : i = xs.length := by omega
    subst e
    exact .inl ⟨⟨xs, qx, rfl⟩, hd σ H p⟩
end Gd
namespace Gd
open PySem PySem.Spec PyProof.Rows L2
theorem call_isiK {X : Cx} {K : PySem.W.Frag} (hK : X.K = K) : CallR X (.builtin "isinstance") (rIsi K) := by
  subst hK; exact call_isi
theorem sqt_ty {K : PySem.W.Frag} {H : Hp} {a : Addr} {xs : List V} (h : SqT K H a xs) : TyX K H (.ref a) (.type "tuple") := by
  rcases h with (h | ⟨o, h⟩) | h
  · exact .base (.tup h)
  · exact .fTuple h
  · obtain ⟨o, its, n, hk, hc, _⟩ := h
    exact .kTuple hk hc
/-! ### deeds -/
inductive Deed where
  | swap (i j : Nat) | turn (i : Nat) | add (i j : Nat) (k : Int)
def deedD : Deed → PyData
  | .swap i j => .tuple [.str "swap", .int i, .int j]
  | .turn i => .tuple [.str "turn", .int i]
  | .add i j k => .tuple [.str "add", .int i, .int j, .int k]
def OkD (m : Nat) (b : Int) : Deed → Prop
  | .swap i j => i < m ∧ j < m ∧ i ≠ j
  | .turn i => i < m
  | .add i j k => i < m ∧ j < m ∧ i ≠ j ∧ -b ≤ k ∧ k ≤ b
def deedsD (ds : List Deed) : PyData := .tuple (ds.map deedD)
theorem deedD_tup (d : Deed) : tupOnly (deedD d) = true := by cases d <;> simp [deedD, tupOnly, tupAll]
theorem deedsD_tup (ds : List Deed) : tupOnly (deedsD ds) = true := by
  simp only [deedsD, tupOnly, tupAll_iff]
  intro d hd
  obtain ⟨x, _, rfl⟩ := List.mem_map.mp hd
  exact deedD_tup x
def scaleR (r : List Int) (k : Int) : List Int := (List.range r.length).map fun c => k * r.getD c 0
def sumRow (r t : List Int) : List Int := (List.range r.length).map fun c => r.getD c 0 + t.getD c 0
def stepD (rs : List (List Int)) : Deed → List (List Int)
  | .swap i j => (rs.set i (rs.getD j [])).set j (rs.getD i [])
  | .turn i => rs.set i (scaleR (rs.getD i []) (-1))
  | .add i j k => rs.set i (sumRow (rs.getD i []) (scaleR (rs.getD j []) k))
theorem stepD_len (rs : List (List Int)) (d : Deed) : (stepD rs d).length = rs.length := by
  cases d <;> simp [stepD]
theorem mem_set {α : Type} {l : List α} {i : Nat} {x y : α} (h : y ∈ l.set i x) : y = x ∨ y ∈ l := by
  rcases List.mem_or_eq_of_mem_set h with h | h
  · exact Or.inr h
  · exact Or.inl h
theorem stepD_wide {rs : List (List Int)} {w : Nat} {d : Deed} {m : Nat} {b : Int} (h : ∀ r ∈ rs, r.length = w) (hm : rs.length = m) (hd : OkD m b d) :
    ∀ r ∈ stepD rs d, r.length = w := by
  intro r hr
  cases d with
  | swap i j =>
    obtain ⟨h1, h2, _⟩ := hd
    rcases mem_set hr with rfl | hr
    · exact h _ (getD_mem (by omega))
    · rcases mem_set hr with rfl | hr
      · exact h _ (getD_mem (by omega))
      · exact h r hr
  | turn i =>
    have h1 : i < m := hd
    rcases mem_set hr with rfl | hr
    · simp only [scaleR, List.length_map, List.length_range]
      exact h _ (getD_mem (by omega))
    · exact h r hr
  | add i j k =>
    obtain ⟨h1, h2, _⟩ := hd
    rcases mem_set hr with rfl | hr
    · simp only [sumRow, List.length_map, List.length_range]
      exact h _ (getD_mem (by omega))
    · exact h r hr
theorem dpa_set {K : PySem.W.Frag} {H : Hp} : ∀ (ds : List PyData) (xs : List V) (i : Nat) (v : V) (d : PyData),
    DpAll K H xs ds → Dp K H v d → DpAll K H (xs.set i v) (ds.set i d)
  | [], xs, i, v, d, h, e => by rw [dpa_nil h]; exact .nil
  | d0 :: ds, xs, i, v, d, h, e => by
    obtain ⟨x, vs, rfl, h1, h2⟩ := dpa_cons h
    cases i with
    | zero => exact .cons e h2
    | succ i => exact .cons h1 (dpa_set ds vs i v d h2 e)
theorem map_set {α β : Type} (f : α → β) (l : List α) (i : Nat) (x : α) : (l.set i x).map f = (l.map f).set i (f x) := List.map_set
/-- the greatest number grows by a deed -/
theorem stepD_bd {rs : List (List Int)} {d : Deed} {m : Nat} {b c : Int} (hb : 0 ≤ b) (hc : 1 ≤ c) (h : Bs b rs) (hm : rs.length = m) (hd : OkD m c d) :
    Bs (b * (c + 1)) (stepD rs d) := by
  have e : b * (c + 1) = b * c + b := by rw [Int.mul_add, Int.mul_one]
  have hbc : 0 ≤ b * c := Int.mul_nonneg hb (by omega)
  have hbb : b ≤ b * c := by
    have := Int.mul_le_mul_of_nonneg_left hc hb
    rw [Int.mul_one] at this
    exact this
  have up : ∀ r, Bd b r → Bd (b * (c + 1)) r := fun r hr x hx => by
    have := hr x hx
    rw [e]
    omega
  intro r hr
  cases d with
  | swap i j =>
    obtain ⟨h1, h2, _⟩ := hd
    rcases mem_set hr with rfl | hr
    · exact up _ (h _ (getD_mem (by omega)))
    · rcases mem_set hr with rfl | hr
      · exact up _ (h _ (getD_mem (by omega)))
      · exact up _ (h r hr)
  | turn i =>
    have h1 : i < m := hd
    rcases mem_set hr with rfl | hr
    · intro x hx
      obtain ⟨k, _, rfl⟩ := List.mem_map.mp hx
      have := (h _ (getD_mem (d := []) (show i < rs.length by omega))).at hb k
      rw [e]
      omega
    · exact up _ (h r hr)
  | add i j k =>
    obtain ⟨h1, h2, _, k1, k2⟩ := hd
    rcases mem_set hr with rfl | hr
    · intro x hx
      obtain ⟨n, hn, rfl⟩ := List.mem_map.mp hx
      have a1 := (h _ (getD_mem (d := []) (show i < rs.length by omega))).at hb n
      have a2 : -(b * c) ≤ (scaleR (rs.getD j []) k).getD n 0 ∧ (scaleR (rs.getD j []) k).getD n 0 ≤ b * c := by
        refine Bd.at ?_ hbc n
        intro y hy
        obtain ⟨q, _, rfl⟩ := List.mem_map.mp hy
        have a3 := (h _ (getD_mem (d := []) (show j < rs.length by omega))).at hb q
        have := mul_bd (by omega) hb ⟨k1, k2⟩ a3
        rw [Int.mul_comm c b] at this
        exact this
      rw [e]
      omega
    · exact up _ (h r hr)
end Gd
namespace Gd
open PySem PySem.Spec PyProof.Rows L2
theorem ixN_of {n i : Nat} (h : i < n) : ixN n (i : Int) = some i := by
  unfold ixN
  rw [if_pos (by omega), if_pos (by omega)]
  simp
end Gd
namespace Gd
open PySem PySem.Spec PyProof.Rows L2
/-- [e for x in l], l a list that stays -/
theorem lcl {K : PySem.W.Frag} {te : TE} {vs : List Nat} {σ : L2.St} {H : Hp} {D : Addr} {Qd : Hp → Prop} {j : Nat} {a : Addr} {xs : List V} (f : Nat → PyData) (hD : H D = none)
    (hx : SqL K H a xs) (hn : xs.length ≤ 50000)
    (ht : ∀ i, i < xs.length → tupOnly (f i) = true)
    (hw : ∀ x, wipe ((wipe σ vs).set j (some x)) vs = wipe σ vs)
    (hs : ∀ (i : Nat) (x : V) (H1 : Hp) (Q : VK), xs[i]? = some x → Same H H1 →
      (∀ y H2, Same H1 H2 → Dp K H2 y (f i) → Q y H2) →
      te ((wipe σ vs).set j (some x)) H1 Q)
    (hd : ∀ H' ys, Same H H' → H' D = some (.lst ys) → DpAll K H' ys ((List.range xs.length).map f) → Qd H') :
    ∃ W : Nat → Nat → Hp → Prop, (∃ m, W 0 m (upd H D (.lst []))) ∧ ∀ i m H, W i m H →
      ((Itl K a).stop i H ∧ Qd H) ∨ ((Itl K a).go i H ∧ ∃ Nx : Hp → Prop,
        (∀ H', Nx H' → ∃ m', m' < m ∧ W (i + 1) m' H') ∧
        ∀ x H', (Itl K a).yld i H x H' → gName j x (wipe σ vs) H' fun σ2 H2 =>
          wipe σ2 vs = wipe σ vs ∧ tYes σ2 H2 fun b H3 =>
            if b = true then te σ2 H3 fun y H4 => ∃ acc, H4 D = some (.lst acc) ∧
              acc.length < sizeLine ∧ Nx (upd H4 D (.lst (acc ++ [y]))) else Nx H3) := by
  refine lc_list (xs := xs) (Lw K H f D) (Lw.start hD) (fun i H' _ p => sql_same p.1 hx) ?_ ?_
  · intro i x H' hi p
    have hlt := (List.getElem?_eq_some_iff.mp hi).1
    refine ⟨hw _, ?_⟩
    unfold tYes
    dsimp only
    rw [if_pos rfl]
    exact hs i x H' _ hi p.1 fun y H2 e hy => Lw.turn hD (tupOnly_le ht hlt) p e hy (by omega)
  · rintro H' ⟨h0, ys, h1, h2⟩
    exact hd H' ys h0 h1 h2
/-! ### a list of lists of numbers, one's own -/
def NLp (H0 H : Hp) (D : Addr) (rs : List (List Int)) (ps : List Addr) : Prop :=
  H D = some (.lst (ps.map V.ref)) ∧ ps.length = rs.length ∧ D ∉ ps ∧ H0 D = none ∧ (∀ p ∈ ps, H0 p = none) ∧
  (∀ (i j : Nat) (p : Addr), ps[i]? = some p → ps[j]? = some p → i = j) ∧
  (∀ (i : Nat) (p : Addr), ps[i]? = some p → H p = some (.lst ((rs.getD i []).map V.int))) ∧ Same H0 H
def NL (H0 H : Hp) (D : Addr) (rs : List (List Int)) : Prop := ∃ ps, NLp H0 H D rs ps
theorem NL.start {H : Hp} {D : Addr} (h : H D = none) : NL H (upd H D (.lst [])) D [] :=
  ⟨[], upd_same, rfl, List.not_mem_nil, h, (fun p hp => nomatch hp), (fun i j p e => nomatch e), (fun i p e => nomatch e), Same.new h⟩
theorem NL.same {H0 H H' : Hp} {D : Addr} {rs : List (List Int)} (h : NL H0 H D rs) (e : Same H H') : NL H0 H' D rs := by
  obtain ⟨ps, a1, a2, a3, a4, a5, a6, a7, a8⟩ := h
  exact ⟨ps, e _ _ a1, a2, a3, a4, a5, a6, fun i p hp => e _ _ (a7 i p hp), a8.trans e⟩
theorem NL.base {H0 H : Hp} {D : Addr} {rs : List (List Int)} (h : NL H0 H D rs) : Same H0 H := by
  obtain ⟨ps, _, _, _, _, _, _, _, a8⟩ := h
  exact a8
/-- one more row behind -/
theorem NL.push {H0 H : Hp} {D l : Addr} {rs : List (List Int)} {r : List Int} (h : NL H0 H D rs) (nl : H l = none) :
    ∃ ps : List Addr, upd H l (.lst (r.map V.int)) D = some (.lst (ps.map V.ref)) ∧ ps.length = rs.length ∧
      NL H0 (upd (upd H l (.lst (r.map V.int))) D (.lst (ps.map V.ref ++ [.ref l]))) D (rs ++ [r]) := by
  obtain ⟨ps, a1, a2, a3, a4, a5, a6, a7, a8⟩ := h
  have hDl : D ≠ l := ne_of_none a1 nl
  have l0 : H0 l = none := a8.free nl
  have lps : ∀ (i : Nat) (p : Addr), ps[i]? = some p → p ≠ l := fun i p hp => ne_of_none (a7 i p hp) nl
  refine ⟨ps, by rw [upd_ne hDl]; exact a1, a2, ps ++ [l], ?_, ?_, ?_, a4, ?_, ?_, ?_, ?_⟩
  · rw [upd_same, List.map_append]
    rfl
  · rw [List.length_append, List.length_append, a2]
    rfl
  · intro hm
    rcases List.mem_append.mp hm with h | h
    · exact a3 h
    · exact hDl (List.mem_singleton.mp h)
  · intro p hp
    rcases List.mem_append.mp hp with h | h
    · exact a5 p h
    · rw [List.mem_singleton.mp h]
      exact l0
  · have at_ : ∀ (i : Nat) (p : Addr), (ps ++ [l])[i]? = some p → (i < ps.length ∧ ps[i]? = some p) ∨ (i = ps.length ∧ p = l) := by
      intro i p hp
      by_cases hi : i < ps.length
      · rw [List.getElem?_append_left hi] at hp
        exact Or.inl ⟨hi, hp⟩
      · rw [List.getElem?_append_right (by omega)] at hp
        have : i - ps.length = 0 := by
          cases hq : i - ps.length with
          | zero => rfl
          | succ n => rw [hq] at hp; simp at hp
        rw [this] at hp
        simp at hp
        exact Or.inr ⟨by omega, hp.symm⟩
    intro i j p hi hj
    rcases at_ i p hi with ⟨b1, b2⟩ | ⟨b1, b2⟩ <;> rcases at_ j p hj with ⟨c1, c2⟩ | ⟨c1, c2⟩
    · exact a6 i j p b2 c2
    · exact absurd c2 (lps i p b2)
    · exact absurd b2 (lps j p c2)
    · omega
  · intro i p hp
    by_cases hi : i < ps.length
    · rw [List.getElem?_append_left hi] at hp
      have hne : p ≠ D := fun z => a3 (z ▸ List.mem_of_getElem? hp)
      rw [upd_ne hne, upd_ne (lps i p hp), a7 i p hp, List.getD_eq_getElem?_getD, List.getD_eq_getElem?_getD, List.getElem?_append_left (by omega)]
    · rw [List.getElem?_append_right (by omega)] at hp
      have e0 : i - ps.length = 0 := by
        cases hq : i - ps.length with
        | zero => rfl
        | succ n => rw [hq] at hp; simp at hp
      rw [e0] at hp
      simp at hp
      subst hp
      rw [upd_ne hDl.symm, upd_same, List.getD_eq_getElem?_getD, List.getElem?_append_right (by omega)]
      have e1 : i - rs.length = 0 := by omega
      rw [e1]
      rfl
  · exact Same.mut (Same.mut a8 l0) a4
theorem NL.row {H0 H : Hp} {D : Addr} {rs : List (List Int)} {i : Nat} (h : NL H0 H D rs) (hi : i < rs.length) :
    ∃ (ps : List Addr) (p : Addr), H D = some (.lst (ps.map V.ref)) ∧ ps.length = rs.length ∧ (ps.map V.ref)[i]? = some (.ref p) ∧ H p = some (.lst ((rs.getD i []).map V.int)) ∧
      ∀ (z : Int) (k : Nat), NL H0 (upd H p (.lst (((rs.getD i []).map V.int).set k (.int z)))) D (rs.set i ((rs.getD i []).set k z)) := by
  obtain ⟨ps, a1, a2, a3, a4, a5, a6, a7, a8⟩ := h
  have hlt : i < ps.length := by omega
  have ep : ps[i]? = some ps[i] := List.getElem?_eq_getElem hlt
  have hp0 := a5 _ (List.getElem_mem hlt)
  have hDp : D ≠ ps[i] := fun z => a3 (z ▸ List.getElem_mem hlt)
  refine ⟨ps, ps[i], a1, a2, by rw [List.getElem?_map, ep]; rfl, a7 i _ ep, ?_⟩
  intro z k
  refine ⟨ps, by rw [upd_ne hDp]; exact a1, by rw [List.length_set]; exact a2, a3, a4, a5, a6, ?_, Same.mut a8 hp0⟩
  intro j q hq
  by_cases hij : j = i
  · subst hij
    have eq : q = ps[j] := Option.some.inj (hq.symm.trans ep)
    rw [eq, upd_same, List.getD_eq_getElem?_getD (l := rs.set _ _), List.getElem?_set_self hi, ← List.map_set]
    rfl
  · have hne : q ≠ ps[i] := fun e => hij (a6 j i q hq (by rw [e]; exact ep))
    rw [upd_ne hne, a7 j q hq, List.getD_eq_getElem?_getD, List.getD_eq_getElem?_getD, List.getElem?_set_ne (fun e => hij e.symm)]
theorem NL.swap {H0 H : Hp} {D : Addr} {rs : List (List Int)} {i j : Nat} (h : NL H0 H D rs) (hi : i < rs.length) (hj : j < rs.length) (hij : i ≠ j) :
    ∃ (ps : List Addr) (p q : Addr), H D = some (.lst (ps.map V.ref)) ∧ ps.length = rs.length ∧ (ps.map V.ref)[i]? = some (.ref p) ∧ (ps.map V.ref)[j]? = some (.ref q) ∧
      ∀ o, NL H0 (upd (upd H D o) D (.lst (((ps.map V.ref).set i (.ref q)).set j (.ref p)))) D ((rs.set i (rs.getD j [])).set j (rs.getD i [])) := by
  obtain ⟨ps, a1, a2, a3, a4, a5, a6, a7, a8⟩ := h
  have hli : i < ps.length := by omega
  have hlj : j < ps.length := by omega
  have ei : ps[i]? = some ps[i] := List.getElem?_eq_getElem hli
  have ej : ps[j]? = some ps[j] := List.getElem?_eq_getElem hlj
  refine ⟨ps, ps[i], ps[j], a1, a2, by rw [List.getElem?_map, ei]; rfl, by rw [List.getElem?_map, ej]; rfl, ?_⟩
  intro o
  have at_ : ∀ (k : Nat) (p : Addr), ((ps.set i ps[j]).set j ps[i])[k]? = some p → (k = j ∧ p = ps[i]) ∨ (k = i ∧ k ≠ j ∧ p = ps[j]) ∨ (k ≠ i ∧ k ≠ j ∧ ps[k]? = some p) := by
    intro k p hk
    by_cases kj : k = j
    · subst kj
      rw [List.getElem?_set_self (by rw [List.length_set]; omega)] at hk
      exact Or.inl ⟨rfl, (Option.some.inj hk).symm⟩
    · rw [List.getElem?_set_ne (fun e => kj e.symm)] at hk
      by_cases ki : k = i
      · subst ki
        rw [List.getElem?_set_self (by omega)] at hk
        exact Or.inr (Or.inl ⟨rfl, kj, (Option.some.inj hk).symm⟩)
      · rw [List.getElem?_set_ne (fun e => ki e.symm)] at hk
        exact Or.inr (Or.inr ⟨ki, kj, hk⟩)
  have mem_ : ∀ p ∈ (ps.set i ps[j]).set j ps[i], p ∈ ps := by
    intro p hp
    rcases List.mem_or_eq_of_mem_set hp with h | h
    · rcases List.mem_or_eq_of_mem_set h with h | h
      · exact h
      · rw [h]
        exact List.getElem_mem hlj
    · rw [h]
      exact List.getElem_mem hli
  refine ⟨(ps.set i ps[j]).set j ps[i], ?_, by simp [a2], fun hm => a3 (mem_ D hm), a4, fun p hp => a5 p (mem_ p hp), ?_, ?_, Same.mut (Same.mut a8 a4) a4⟩
  · rw [upd_same, List.map_set, List.map_set]
  · intro k l p hk hl
    rcases at_ k p hk with ⟨b1, b2⟩ | ⟨b1, b0, b2⟩ | ⟨b1, b0, b2⟩ <;> rcases at_ l p hl with ⟨c1, c2⟩ | ⟨c1, c0, c2⟩ | ⟨c1, c0, c2⟩
    · omega
    · have := a6 i j p (by rw [b2]; exact ei) (by rw [c2]; exact ej)
      omega
    · have := a6 i l p (by rw [b2]; exact ei) c2
      omega
    · have := a6 i j p (by rw [c2]; exact ei) (by rw [b2]; exact ej)
      omega
    · omega
    · have := a6 j l p (by rw [b2]; exact ej) c2
      omega
    · have := a6 i k p (by rw [c2]; exact ei) b2
      omega
    · have := a6 j k p (by rw [c2]; exact ej) b2
      omega
    · exact a6 k l p b2 c2
  · intro k p hk
    have hne : p ≠ D := fun z => a3 (z ▸ mem_ p (List.mem_of_getElem? hk))
    rw [upd_ne hne, upd_ne hne]
    rcases at_ k p hk with ⟨b1, b2⟩ | ⟨b1, b0, b2⟩ | ⟨b1, b0, b2⟩
    · rw [b2, a7 i _ ei, b1, List.getD_eq_getElem?_getD (l := List.set _ _ _), List.getElem?_set_self (by rw [List.length_set]; omega)]
      rfl
    · rw [b2, a7 j _ ej, List.getD_eq_getElem?_getD (l := List.set _ _ _), List.getElem?_set_ne (fun e => b0 e.symm), b1, List.getElem?_set_self (by omega)]
      rfl
    · rw [a7 k p b2, List.getD_eq_getElem?_getD, List.getD_eq_getElem?_getD, List.getElem?_set_ne (fun e => b0 e.symm), List.getElem?_set_ne (fun e => b1 e.symm)]
end Gd
namespace Gd
open PySem PySem.Spec PyProof.Rows L2
theorem ixN_of0 {n i : Nat} (h : i < n) : ixN n (0 + (i : Int)) = some i := by
  rw [Int.zero_add]
  exact ixN_of h
def mix (old new : Nat → Int) (w c : Nat) : List Int := (List.range w).map fun k => if k < c then new k else old k
theorem mix_len {old new : Nat → Int} {w c : Nat} : (mix old new w c).length = w := by simp [mix]
theorem mix_zero {r : List Int} {new : Nat → Int} {w : Nat} (h : r.length = w) : mix (fun k => r.getD k 0) new w 0 = r := by
  subst h
  unfold mix
  conv => rhs; rw [← row_id r]
  refine List.map_congr_left ?_
  intro k _
  rw [if_neg (by omega)]
theorem mix_full {old new : Nat → Int} {w : Nat} : mix old new w w = (List.range w).map new := by
  unfold mix
  refine List.map_congr_left ?_
  intro k hk
  rw [if_pos (List.mem_range.mp hk)]
theorem mix_set {old new : Nat → Int} {w c : Nat} (h : c < w) : (mix old new w c).set c (new c) = mix old new w (c + 1) := by
  apply List.ext_getElem
  · simp [mix]
  · intro k h1 h2
    rw [List.getElem_set]
    simp only [mix, List.getElem_map, List.getElem_range]
    split
    · rename_i e
      subst e
      rw [if_pos (by omega)]
    · rename_i e
      by_cases hk : k < c
      · rw [if_pos hk, if_pos (by omega)]
      · rw [if_neg hk, if_neg (by omega)]
theorem mix_at {old new : Nat → Int} {w c k : Nat} (h : k < w) : (mix old new w c).getD k 0 = if k < c then new k else old k := by
  unfold mix
  rw [getD_range h]
theorem getD_set_self {rs : List (List Int)} {i : Nat} {r : List Int} (h : i < rs.length) : (rs.set i r).getD i [] = r := by
  rw [List.getD_eq_getElem?_getD, List.getElem?_set_self h]
  rfl
theorem getD_set_ne {rs : List (List Int)} {i j : Nat} {r : List Int} (h : i ≠ j) : (rs.set i r).getD j [] = rs.getD j [] := by
  rw [List.getD_eq_getElem?_getD, List.getElem?_set_ne h, List.getD_eq_getElem?_getD]
theorem set_self {rs : List (List Int)} {i : Nat} (h : i < rs.length) : rs.set i (rs.getD i []) = rs := by
  apply List.ext_getElem
  · simp
  · intro k h1 h2
    rw [List.getElem_set]
    split
    · rename_i e
      subst e
      rw [List.getD_eq_getElem?_getD, List.getElem?_eq_getElem h]
      rfl
    · rfl
end Gd
namespace Gd
open PySem PySem.Spec PyProof.Rows L2
/-! ### reversed(t), t a tuple -/
section
variable {X : Cx} {K : PySem.W.Frag}
theorem pi_revK {tg e : Expr} {te : TE} {p pos : Pos} (hK : X.K = K) (hg : Gl X "reversed") (hm : X.mg "reversed" = none) (he : PE X e te)
    (hs : starEach [e] X.env = (false, eval e X.env) :: starEach [] X.env := by rfl) :
    PI X tg (.Call (.Name "reversed" p) [e] [] pos) (RT.iRevA K te) := by
  subst hK; exact RT.pi_revA hg hm he hs
end
section
variable {K : PySem.W.Frag} {te : TE} {vs : List Nat} {σ : L2.St} {H : Hp} {D : Addr} {Qd : Hp → Prop}
/-- [e for x in reversed(t)], t a tuple -/
theorem lctR {j : Nat} {a : Addr} {xs : List V} (f : Nat → PyData) (hD : H D = none)
    (hx : SqT K H a xs) (hn : xs.length ≤ 50000)
    (ht : ∀ i, i < xs.length → tupOnly (f i) = true)
    (hw : ∀ x, wipe ((wipe σ vs).set j (some x)) vs = wipe σ vs)
    (hs : ∀ (i : Nat) (x : V) (H1 : Hp) (Q : VK), i < xs.length → xs[xs.length - 1 - i]? = some x → Same H H1 →
      (∀ y H2, Same H1 H2 → Dp K H2 y (f i) → Q y H2) →
      te ((wipe σ vs).set j (some x)) H1 Q)
    (hd : ∀ H' ys, Same H H' → H' D = some (.lst ys) → DpAll K H' ys ((List.range xs.length).map f) → Qd H') :
    ∃ W : Nat → Nat → Hp → Prop, (∃ m, W 0 m (upd H D (.lst []))) ∧ ∀ i m H, W i m H →
      ((RT.ItvT K a xs.length).stop i H ∧ Qd H) ∨ ((RT.ItvT K a xs.length).go i H ∧ ∃ Nx : Hp → Prop,
        (∀ H', Nx H' → ∃ m', m' < m ∧ W (i + 1) m' H') ∧
        ∀ x H', (RT.ItvT K a xs.length).yld i H x H' → gName j x (wipe σ vs) H' fun σ2 H2 =>
          wipe σ2 vs = wipe σ vs ∧ tYes σ2 H2 fun b H3 =>
            if b = true then te σ2 H3 fun y H4 => ∃ acc, H4 D = some (.lst acc) ∧
              acc.length < sizeLine ∧ Nx (upd H4 D (.lst (acc ++ [y]))) else Nx H3) := by
  refine ⟨fun i m H' => m = xs.length - i ∧ i ≤ xs.length ∧ Lw K H f D i H',
    ⟨xs.length, rfl, Nat.zero_le _, Lw.start hD⟩, ?_⟩
  rintro i m H' ⟨rfl, hi, p⟩
  have qx := sqt_same p.1 hx
  by_cases hlt : i < xs.length
  · have hj : xs.length - 1 - i < xs.length := by omega
    have e1 : xs[xs.length - 1 - i]? = some xs[xs.length - 1 - i] := List.getElem?_eq_getElem hj
    refine .inr ⟨⟨hlt, xs, _, qx, e1⟩, Lw K H f D (i + 1),
      fun H2 p2 => ⟨xs.length - (i + 1), by omega, rfl, hlt, p2⟩, ?_⟩
    intro v H2 hy
    obtain ⟨rfl, f1⟩ := hy
    refine ⟨hw _, ?_⟩
    unfold tYes
    dsimp only
    rw [if_pos rfl]
    refine hs i v _ _ hlt (f1 xs qx) p.1 ?_
    intro y H3 e hy
    exact Lw.turn hD (tupOnly_le ht hlt) p e hy (by omega)
  · have e : i = xs.length := by omega
    subst e
    obtain ⟨h0, ys, h1, h2⟩ := p
    exact .inl ⟨Nat.le_refl _, hd H' ys h0 h1 h2⟩
end
/-! ### contrary deeds -/
def conD : Deed → Deed
  | .swap i j => .swap i j
  | .turn i => .turn i
  | .add i j k => .add i j (-k)
def backD (ds : List Deed) : List Deed := ds.reverse.map conD
theorem conD_con (d : Deed) : conD (conD d) = d := by cases d <;> simp [conD]
theorem backD_back (ds : List Deed) : backD (backD ds) = ds := by
  unfold backD
  rw [← List.map_reverse, List.reverse_reverse, List.map_map]
  conv => rhs; rw [← List.map_id ds]
  refine List.map_congr_left ?_
  intro d _
  exact conD_con d
theorem conD_ok {m : Nat} {b : Int} {d : Deed} (h : OkD m b d) : OkD m b (conD d) := by
  cases d with
  | swap i j => exact h
  | turn i => exact h
  | add i j k => exact ⟨h.1, h.2.1, h.2.2.1, by have := h.2.2.2; omega, by have := h.2.2.2; omega⟩
theorem backD_ok {m : Nat} {b : Int} {ds : List Deed} (h : ∀ d ∈ ds, OkD m b d) : ∀ d ∈ backD ds, OkD m b d := by
  intro d hd
  obtain ⟨x, hx, rfl⟩ := List.mem_map.mp hd
  exact conD_ok (h x (List.mem_reverse.mp hx))
theorem backD_len (ds : List Deed) : (backD ds).length = ds.length := by simp [backD]
theorem deed_at {ds : List Deed} {i : Nat} {x : Deed} (h : ds[i]? = some x) {e : Deed} : ds.getD i e = x := by
  rw [List.getD_eq_getElem?_getD, h]
  rfl
theorem backD_range (ds : List Deed) : (List.range ds.length).map (fun i => deedD (conD (ds.getD (ds.length - 1 - i) (.turn 0)))) = (backD ds).map deedD := by
  unfold backD
  apply List.ext_getElem
  · simp
  · intro i h1 h2
    have hi : i < ds.length := by simpa using h1
    simp only [List.getElem_map, List.getElem_range, List.getElem_reverse]
    rw [List.getD_eq_getElem?_getD, List.getElem?_eq_getElem (by omega)]
    rfl
end Gd
namespace Gd
open PySem PySem.Spec PyProof.Rows L2
/-! ### is of truths; all; xs[::-1] -/
section
variable {X : Cx} {K : PySem.W.Frag}
theorem op_isB : OpR X (compareOp .Is) (fun x y H Q => ∃ m n, x = .bl m ∧ y = .bl n ∧ Q (.bl (decide (m = n))) H) := by
  intro pins s σ H x y v u Q I rx ry h
  obtain ⟨m, n, rfl, rfl, q⟩ := h
  cases (show v = Value.bool m from rx)
  cases (show u = Value.bool n from ry)
  by_cases e : m = n
  · subst e
    exact wpAny_is_self rfl ⟨.bl true, H, I, rfl, by simpa using q⟩
  · exact wpAny_is_other rfl (fun z => e (Value.bool.inj z)) ⟨.bl false, H, I, rfl, by simpa [e] using q⟩
theorem op_isNotB : OpR X (compareOp .IsNot) (fun x y H Q => ∃ m n, x = .bl m ∧ y = .bl n ∧ Q (.bl (!decide (m = n))) H) := by
  intro pins s σ H x y v u Q I rx ry h
  obtain ⟨m, n, rfl, rfl, q⟩ := h
  cases (show v = Value.bool m from rx)
  cases (show u = Value.bool n from ry)
  by_cases e : m = n
  · subst e
    exact wpAny_isNot_self rfl ⟨.bl false, H, I, rfl, by simpa using q⟩
  · exact wpAny_isNot_other rfl (fun z => e (Value.bool.inj z)) ⟨.bl true, H, I, rfl, by simpa [e] using q⟩
theorem call_allK (hK : X.K = K) (hc : X.calm = true) : CallR X (.builtin "all") (rAll K) := by
  subst hK; exact cr_all hc
theorem pe_revLK {e : Expr} {te : TE} {k : Nat} {p1 p2 p3 pos : Pos} (hK : X.K = K) (he : PE X e te) :
    PE X (.Subscript e (.Slice none none (some (.UnaryOp .USub (.Constant (.int 1) k p1) p2)) p3) pos) (tRevL K te) := by
  subst hK; exact pe_revL he
end
end Gd
namespace Gd
open PySem PySem.Spec PyProof.Rows L2
/-! ### deeds and products -/
theorem ext_getD {α : Type} {l t : List α} (d : α) (hl : l.length = t.length) (h : ∀ k, k < l.length → l.getD k d = t.getD k d) : l = t := by
  apply List.ext_getElem hl
  intro k h1 h2
  have e := h k h1
  rw [List.getD_eq_getElem?_getD, List.getD_eq_getElem?_getD, List.getElem?_eq_getElem h1, List.getElem?_eq_getElem h2] at e
  exact e
theorem getD_set {α : Type} {l : List α} {i k : Nat} {x d : α} (hi : i < l.length) : (l.set i x).getD k d = if k = i then x else l.getD k d := by
  rw [List.getD_eq_getElem?_getD, List.getD_eq_getElem?_getD]
  by_cases h : k = i
  · subst h
    rw [List.getElem?_set_self hi, if_pos rfl]
    rfl
  · rw [List.getElem?_set_ne (fun e => h e.symm), if_neg h]
theorem getD_out {α : Type} {l : List α} {k : Nat} {d : α} (h : l.length ≤ k) : l.getD k d = d := by
  rw [List.getD_eq_getElem?_getD, List.getElem?_eq_none h]
  rfl
theorem scaleR_len {r : List Int} {k : Int} : (scaleR r k).length = r.length := by simp [scaleR]
theorem sumRow_len {r t : List Int} : (sumRow r t).length = r.length := by simp [sumRow]
theorem scaleR_at {r : List Int} {k : Int} {c : Nat} : (scaleR r k).getD c 0 = k * r.getD c 0 := by
  by_cases h : c < r.length
  · unfold scaleR
    rw [getD_range h]
  · rw [getD_out (by rw [scaleR_len]; omega), getD_out (by omega), Int.mul_zero]
theorem sumRow_at {r t : List Int} {c : Nat} (h : c < r.length) : (sumRow r t).getD c 0 = r.getD c 0 + t.getD c 0 := by
  unfold sumRow
  rw [getD_range h]
theorem scaleR_twice {r : List Int} : scaleR (scaleR r (-1)) (-1) = r := by
  refine ext_getD 0 (by rw [scaleR_len, scaleR_len]) fun k _ => ?_
  rw [scaleR_at, scaleR_at]
  omega
theorem sum_back {r t : List Int} {k : Int} : sumRow (sumRow r (scaleR t k)) (scaleR t (-k)) = r := by
  refine ext_getD 0 (by rw [sumRow_len, sumRow_len]) fun c hc => ?_
  rw [sumRow_len, sumRow_len] at hc
  rw [sumRow_at (by rw [sumRow_len]; exact hc), sumRow_at hc, scaleR_at, scaleR_at, Int.neg_mul]
  omega
theorem mulRow_scale {r : List Int} {w : Nat} {ts : List (List Int)} {k : Int} : mulRow (scaleR r k) w ts = scaleR (mulRow r w ts) k := by
  refine ext_getD 0 (by rw [scaleR_len, mulRow_len, mulRow_len]) fun c hc => ?_
  rw [mulRow_len] at hc
  rw [scaleR_at, mulRow_at hc, mulRow_at hc, scaleR_len, ← sumR_mull]
  refine sumR_congr fun i _ => ?_
  rw [scaleR_at, Int.mul_assoc]
theorem mulRow_sum {r t : List Int} {w : Nat} {ts : List (List Int)} (h : r.length = t.length) : mulRow (sumRow r t) w ts = sumRow (mulRow r w ts) (mulRow t w ts) := by
  refine ext_getD 0 (by rw [sumRow_len, mulRow_len, mulRow_len]) fun c hc => ?_
  rw [mulRow_len] at hc
  rw [sumRow_at (by rw [mulRow_len]; exact hc), mulRow_at hc, mulRow_at hc, mulRow_at hc, sumRow_len, ← h, ← sumR_add]
  refine sumR_congr fun i hi => ?_
  rw [sumRow_at hi, Int.add_mul]
theorem stepD_mul {as ts : List (List Int)} {n w m : Nat} {b : Int} {d : Deed} (hw : ∀ r ∈ as, r.length = n) (hm : as.length = m) (hd : OkD m b d) :
    mulR (stepD as d) w ts = stepD (mulR as w ts) d := by
  cases d with
  | swap i j =>
    obtain ⟨h1, h2, _⟩ := hd
    simp only [stepD]
    rw [mulR_at (by omega), mulR_at (by omega), mulR_eq, mulR_eq, List.map_set, List.map_set]
  | turn i =>
    have h1 : i < m := hd
    simp only [stepD]
    rw [mulR_at (by omega), mulR_eq, mulR_eq, List.map_set, mulRow_scale]
  | add i j k =>
    obtain ⟨h1, h2, _⟩ := hd
    simp only [stepD]
    rw [mulR_at (by omega), mulR_at (by omega), mulR_eq, mulR_eq, List.map_set, mulRow_sum, mulRow_scale]
    rw [scaleR_len, hw _ (getD_mem (by omega)), hw _ (getD_mem (by omega))]
theorem stepD_con {rs : List (List Int)} {m : Nat} {b : Int} {d : Deed} (hm : rs.length = m) (hd : OkD m b d) : stepD (stepD rs d) (conD d) = rs := by
  cases d with
  | swap i j =>
    obtain ⟨h1, h2, h3⟩ := hd
    simp only [conD, stepD]
    have e1 : ((rs.set i (rs.getD j [])).set j (rs.getD i [])).getD j [] = rs.getD i [] := by
      rw [getD_set (by rw [List.length_set]; omega), if_pos rfl]
    have e2 : ((rs.set i (rs.getD j [])).set j (rs.getD i [])).getD i [] = rs.getD j [] := by
      rw [getD_set (by rw [List.length_set]; omega), if_neg h3, getD_set (by omega), if_pos rfl]
    rw [e1, e2]
    refine ext_getD [] (by simp) fun k hk => ?_
    rw [getD_set (by simp; omega)]
    by_cases e1 : k = j
    · subst e1
      rw [if_pos rfl]
    · rw [if_neg e1, getD_set (by simp; omega)]
      by_cases e2 : k = i
      · subst e2
        rw [if_pos rfl]
      · rw [if_neg e2, getD_set (by rw [List.length_set]; omega), if_neg e1, getD_set (by omega), if_neg e2]
  | turn i =>
    have h1 : i < m := hd
    simp only [conD, stepD]
    have e1 : (rs.set i (scaleR (rs.getD i []) (-1))).getD i [] = scaleR (rs.getD i []) (-1) := by
      rw [getD_set (by omega), if_pos rfl]
    rw [e1, scaleR_twice]
    refine ext_getD [] (by simp) fun k hk => ?_
    rw [getD_set (by simp; omega)]
    by_cases e : k = i
    · subst e
      rw [if_pos rfl]
    · rw [if_neg e, getD_set (by omega), if_neg e]
  | add i j n =>
    obtain ⟨h1, h2, h3, _⟩ := hd
    simp only [conD, stepD]
    have e1 : (rs.set i (sumRow (rs.getD i []) (scaleR (rs.getD j []) n))).getD i [] = sumRow (rs.getD i []) (scaleR (rs.getD j []) n) := by
      rw [getD_set (by omega), if_pos rfl]
    have e2 : (rs.set i (sumRow (rs.getD i []) (scaleR (rs.getD j []) n))).getD j [] = rs.getD j [] := by
      rw [getD_set (by omega), if_neg (fun e => h3 e.symm)]
    rw [e1, e2, sum_back]
    refine ext_getD [] (by simp) fun k hk => ?_
    rw [getD_set (by simp; omega)]
    by_cases e : k = i
    · subst e
      rw [if_pos rfl]
    · rw [if_neg e, getD_set (by omega), if_neg e]
theorem turn_turn {rs : List (List Int)} {w : Nat} (h : Tb w rs) : turnR rs.length (turnR w rs) = rs := by
  refine ext_getD [] (by rw [turn_len]) fun k hk => ?_
  rw [turn_len] at hk
  refine ext_getD 0 ?_ fun c hc => ?_
  · rw [turnR_eq, getD_range hk, List.length_map, turn_len, h.len hk]
  · rw [turnR_eq, getD_range hk, List.length_map, turn_len] at hc
    show ent (turnR rs.length (turnR w rs)) k c = ent rs k c
    rw [ent_turn hk (by rw [turn_len]; exact hc), ent_turn hc hk]
theorem unit_turn_ne {n i : Nat} (hi : i < n) : stepD (unitR n) (.turn i) ≠ unitR n := by
  intro e
  have hl : (unitR n).length = n := by simp [unitR]
  have h1 : ent (stepD (unitR n) (.turn i)) i i = -1 := by
    unfold ent
    simp only [stepD]
    rw [getD_set (by omega), if_pos rfl, scaleR_at]
    have := ent_unit hi hi
    unfold ent at this
    rw [this, if_pos rfl]
    rfl
  rw [e, ent_unit hi hi, if_pos rfl] at h1
  omega
theorem unit_add_ne {n i j : Nat} (hi : i < n) (hj : j < n) (hij : i ≠ j) : stepD (unitR n) (.add i j 1) ≠ unitR n := by
  intro e
  have hl : (unitR n).length = n := by simp [unitR]
  have hr : ((unitR n).getD i []).length = n := by
    unfold unitR
    rw [getD_range hi]
    simp [unitRow]
  have h1 : ent (stepD (unitR n) (.add i j 1)) i j = 1 := by
    have a1 := ent_unit hi hj
    have a2 := ent_unit hj hj
    unfold ent at a1 a2 ⊢
    simp only [stepD]
    rw [getD_set (by omega), if_pos rfl, sumRow_at (by omega), scaleR_at, a1, a2, if_pos rfl, if_neg (fun z => hij z.symm)]
    rfl
  rw [e, ent_unit hi hj, if_neg (fun z => hij z.symm)] at h1
  omega
end Gd

set_option Elab.async false
set_option linter.all false
set_option maxRecDepth 100000
set_option maxHeartbeats 1000000
namespace K11
open PySem L2 Gd
def top (i : Nat) : Stmt := PySem.Challenge.pw_stepforms_k11_whole_deeds.main.body.getD i (.Pass ⟨0, 0, 0, 0⟩)
abbrev s_is_number : Stmt := top 4
abbrev n_is_number : List Str := ["thing"]
abbrev p_is_number : List Str := ["thing"]
theorem sc_is_number : FnScope n_is_number p_is_number (defScope s_is_number) := ⟨rfl, rfl, rfl, by decide +kernel, rfl, by decide +kernel, by decide +kernel⟩
theorem bn_is_number : BndOk "is_number" s_is_number p_is_number := fun _ _ _ _ _ _ us hl => match us, hl with | [_], _ => rfl
abbrev s_is_row : Stmt := top 6
abbrev n_is_row : List Str := ["wide", "thing", "number"]
abbrev p_is_row : List Str := ["wide", "thing"]
theorem sc_is_row : FnScope n_is_row p_is_row (defScope s_is_row) := ⟨rfl, rfl, rfl, by decide +kernel, rfl, by decide +kernel, by decide +kernel⟩
theorem bn_is_row : BndOk "is_row" s_is_row p_is_row := fun _ _ _ _ _ _ us hl => match us, hl with | [_, _], _ => rfl
abbrev s_is_table : Stmt := top 7
abbrev n_is_table : List Str := ["thing", "wide", "rows", "row"]
abbrev p_is_table : List Str := ["thing"]
theorem sc_is_table : FnScope n_is_table p_is_table (defScope s_is_table) := ⟨rfl, rfl, rfl, by decide +kernel, rfl, by decide +kernel, by decide +kernel⟩
theorem bn_is_table : BndOk "is_table" s_is_table p_is_table := fun _ _ _ _ _ _ us hl => match us, hl with | [_], _ => rfl
abbrev s_is_unit : Stmt := top 8
abbrev n_is_unit : List Str := ["thing"]
abbrev p_is_unit : List Str := ["thing"]
theorem sc_is_unit : FnScope n_is_unit p_is_unit (defScope s_is_unit) := ⟨rfl, rfl, rfl, by decide +kernel, rfl, by decide +kernel, by decide +kernel⟩
theorem bn_is_unit : BndOk "is_unit" s_is_unit p_is_unit := fun _ _ _ _ _ _ us hl => match us, hl with | [_], _ => rfl
abbrev s_unit : Stmt := top 9
abbrev n_unit : List Str := ["n", "k"]
abbrev p_unit : List Str := ["n"]
theorem sc_unit : FnScope n_unit p_unit (defScope s_unit) := ⟨rfl, rfl, rfl, by decide +kernel, rfl, by decide +kernel, by decide +kernel⟩
theorem bn_unit : BndOk "unit" s_unit p_unit := fun _ _ _ _ _ _ us hl => match us, hl with | [_], _ => rfl
abbrev s_unit_row : Stmt := top 10
abbrev n_unit_row : List Str := ["n", "k", "column"]
abbrev p_unit_row : List Str := ["n", "k"]
theorem sc_unit_row : FnScope n_unit_row p_unit_row (defScope s_unit_row) := ⟨rfl, rfl, rfl, by decide +kernel, rfl, by decide +kernel, by decide +kernel⟩
theorem bn_unit_row : BndOk "unit_row" s_unit_row p_unit_row := fun _ _ _ _ _ _ us hl => match us, hl with | [_, _], _ => rfl
abbrev s_row_sum : Stmt := top 11
abbrev n_row_sum : List Str := ["one", "other", "number", "more"]
abbrev p_row_sum : List Str := ["one", "other"]
theorem sc_row_sum : FnScope n_row_sum p_row_sum (defScope s_row_sum) := ⟨rfl, rfl, rfl, by decide +kernel, rfl, by decide +kernel, by decide +kernel⟩
theorem bn_row_sum : BndOk "row_sum" s_row_sum p_row_sum := fun _ _ _ _ _ _ us hl => match us, hl with | [_, _], _ => rfl
abbrev s_row_scaled : Stmt := top 12
abbrev n_row_scaled : List Str := ["row", "number", "other"]
abbrev p_row_scaled : List Str := ["row", "number"]
theorem sc_row_scaled : FnScope n_row_scaled p_row_scaled (defScope s_row_scaled) := ⟨rfl, rfl, rfl, by decide +kernel, rfl, by decide +kernel, by decide +kernel⟩
theorem bn_row_scaled : BndOk "row_scaled" s_row_scaled p_row_scaled := fun _ _ _ _ _ _ us hl => match us, hl with | [_, _], _ => rfl
abbrev s_row_times : Stmt := top 13
abbrev n_row_times : List Str := ["row", "table", "wide", "rows", "k", "number", "other"]
abbrev p_row_times : List Str := ["row", "table"]
theorem sc_row_times : FnScope n_row_times p_row_times (defScope s_row_times) := ⟨rfl, rfl, rfl, by decide +kernel, rfl, by decide +kernel, by decide +kernel⟩
theorem bn_row_times : BndOk "row_times" s_row_times p_row_times := fun _ _ _ _ _ _ us hl => match us, hl with | [_, _], _ => rfl
abbrev s_times : Stmt := top 14
abbrev n_times : List Str := ["one", "other", "row"]
abbrev p_times : List Str := ["one", "other"]
theorem sc_times : FnScope n_times p_times (defScope s_times) := ⟨rfl, rfl, rfl, by decide +kernel, rfl, by decide +kernel, by decide +kernel⟩
theorem bn_times : BndOk "times" s_times p_times := fun _ _ _ _ _ _ us hl => match us, hl with | [_, _], _ => rfl
abbrev s_turned_over : Stmt := top 15
abbrev n_turned_over : List Str := ["table", "wide", "rows", "k", "row"]
abbrev p_turned_over : List Str := ["table"]
theorem sc_turned_over : FnScope n_turned_over p_turned_over (defScope s_turned_over) := ⟨rfl, rfl, rfl, by decide +kernel, rfl, by decide +kernel, by decide +kernel⟩
theorem bn_turned_over : BndOk "turned_over" s_turned_over p_turned_over := fun _ _ _ _ _ _ us hl => match us, hl with | [_], _ => rfl
abbrev s_is_row_number : Stmt := top 17
abbrev n_is_row_number : List Str := ["many", "thing"]
abbrev p_is_row_number : List Str := ["many", "thing"]
theorem sc_is_row_number : FnScope n_is_row_number p_is_row_number (defScope s_is_row_number) := ⟨rfl, rfl, rfl, by decide +kernel, rfl, by decide +kernel, by decide +kernel⟩
theorem bn_is_row_number : BndOk "is_row_number" s_is_row_number p_is_row_number := fun _ _ _ _ _ _ us hl => match us, hl with | [_, _], _ => rfl
abbrev s_are_two_rows : Stmt := top 18
abbrev n_are_two_rows : List Str := ["many", "one", "other"]
abbrev p_are_two_rows : List Str := ["many", "one", "other"]
theorem sc_are_two_rows : FnScope n_are_two_rows p_are_two_rows (defScope s_are_two_rows) := ⟨rfl, rfl, rfl, by decide +kernel, rfl, by decide +kernel, by decide +kernel⟩
theorem bn_are_two_rows : BndOk "are_two_rows" s_are_two_rows p_are_two_rows := fun _ _ _ _ _ _ us hl => match us, hl with | [_, _, _], _ => rfl
abbrev s_is_deed : Stmt := top 19
abbrev n_is_deed : List Str := ["many", "thing", "word"]
abbrev p_is_deed : List Str := ["many", "thing"]
theorem sc_is_deed : FnScope n_is_deed p_is_deed (defScope s_is_deed) := ⟨rfl, rfl, rfl, by decide +kernel, rfl, by decide +kernel, by decide +kernel⟩
theorem bn_is_deed : BndOk "is_deed" s_is_deed p_is_deed := fun _ _ _ _ _ _ us hl => match us, hl with | [_, _], _ => rfl
abbrev s_refuse_other_than_deeds : Stmt := top 20
abbrev n_refuse_other_than_deeds : List Str := ["many", "thing", "place", "deed"]
abbrev p_refuse_other_than_deeds : List Str := ["many", "thing"]
theorem sc_refuse_other_than_deeds : FnScope n_refuse_other_than_deeds p_refuse_other_than_deeds (defScope s_refuse_other_than_deeds) := ⟨rfl, rfl, rfl, by decide +kernel, rfl, by decide +kernel, by decide +kernel⟩
theorem bn_refuse_other_than_deeds : BndOk "refuse_other_than_deeds" s_refuse_other_than_deeds p_refuse_other_than_deeds := fun _ _ _ _ _ _ us hl => match us, hl with | [_, _], _ => rfl
abbrev s_do_deed : Stmt := top 21
abbrev n_do_deed : List Str := ["rows", "deed", "word", "i", "j"]
abbrev p_do_deed : List Str := ["rows", "deed"]
theorem sc_do_deed : FnScope n_do_deed p_do_deed (defScope s_do_deed) := ⟨rfl, rfl, rfl, by decide +kernel, rfl, by decide +kernel, by decide +kernel⟩
theorem bn_do_deed : BndOk "do_deed" s_do_deed p_do_deed := fun _ _ _ _ _ _ us hl => match us, hl with | [_, _], _ => rfl
abbrev s_done : Stmt := top 22
abbrev n_done : List Str := ["table", "deeds", "wide", "rows", "led", "deed"]
abbrev p_done : List Str := ["table", "deeds"]
theorem sc_done : FnScope n_done p_done (defScope s_done) := ⟨rfl, rfl, rfl, by decide +kernel, rfl, by decide +kernel, by decide +kernel⟩
theorem bn_done : BndOk "done" s_done p_done := fun _ _ _ _ _ _ us hl => match us, hl with | [_, _], _ => rfl
abbrev s_deeds_table : Stmt := top 23
abbrev n_deeds_table : List Str := ["many", "deeds"]
abbrev p_deeds_table : List Str := ["many", "deeds"]
theorem sc_deeds_table : FnScope n_deeds_table p_deeds_table (defScope s_deeds_table) := ⟨rfl, rfl, rfl, by decide +kernel, rfl, by decide +kernel, by decide +kernel⟩
theorem bn_deeds_table : BndOk "deeds_table" s_deeds_table p_deeds_table := fun _ _ _ _ _ _ us hl => match us, hl with | [_, _], _ => rfl
abbrev s_contrary_deed : Stmt := top 24
abbrev n_contrary_deed : List Str := ["deed", "word", "i", "j", "k"]
abbrev p_contrary_deed : List Str := ["deed"]
theorem sc_contrary_deed : FnScope n_contrary_deed p_contrary_deed (defScope s_contrary_deed) := ⟨rfl, rfl, rfl, by decide +kernel, rfl, by decide +kernel, by decide +kernel⟩
theorem bn_contrary_deed : BndOk "contrary_deed" s_contrary_deed p_contrary_deed := fun _ _ _ _ _ _ us hl => match us, hl with | [_], _ => rfl
abbrev s_led_back : Stmt := top 25
abbrev n_led_back : List Str := ["deeds", "deed"]
abbrev p_led_back : List Str := ["deeds"]
theorem sc_led_back : FnScope n_led_back p_led_back (defScope s_led_back) := ⟨rfl, rfl, rfl, by decide +kernel, rfl, by decide +kernel, by decide +kernel⟩
theorem bn_led_back : BndOk "led_back" s_led_back p_led_back := fun _ _ _ _ _ _ us hl => match us, hl with | [_], _ => rfl
abbrev s_is_back : Stmt := top 27
abbrev n_is_back : List Str := ["one", "other", "many"]
abbrev p_is_back : List Str := ["one", "other"]
theorem sc_is_back : FnScope n_is_back p_is_back (defScope s_is_back) := ⟨rfl, rfl, rfl, by decide +kernel, rfl, by decide +kernel, by decide +kernel⟩
theorem bn_is_back : BndOk "is_back" s_is_back p_is_back := fun _ _ _ _ _ _ us hl => match us, hl with | [_, _], _ => rfl
abbrev s_l_feed : Stmt := top 29
abbrev n_l_feed : List Str := ["_law_script"]
abbrev p_l_feed : List Str := ["_law_script"]
theorem sc_l_feed : FnScope n_l_feed p_l_feed (defScope s_l_feed) := ⟨rfl, rfl, rfl, by decide +kernel, rfl, by decide +kernel, by decide +kernel⟩
theorem bn_l_feed : BndOk "_law_feed" s_l_feed p_l_feed := fun _ _ _ _ _ _ us hl => match us, hl with | [_], _ => rfl
abbrev s_l_draw : Stmt := top 30
abbrev n_l_draw : List Str := ["_law_feed_here", "_law_many", "_law_found", "_law_cell", "_law_mixed"]
abbrev p_l_draw : List Str := ["_law_feed_here", "_law_many"]
theorem sc_l_draw : FnScope n_l_draw p_l_draw (defScope s_l_draw) := ⟨rfl, rfl, rfl, by decide +kernel, rfl, by decide +kernel, by decide +kernel⟩
theorem bn_l_draw : BndOk "_law_draw" s_l_draw p_l_draw := fun _ _ _ _ _ _ us hl => match us, hl with | [_, _], _ => rfl
abbrev s_l_number : Stmt := top 31
abbrev n_l_number : List Str := ["_law_feed_here", "_law_way"]
abbrev p_l_number : List Str := ["_law_feed_here"]
theorem sc_l_number : FnScope n_l_number p_l_number (defScope s_l_number) := ⟨rfl, rfl, rfl, by decide +kernel, rfl, by decide +kernel, by decide +kernel⟩
theorem bn_l_number : BndOk "_law_number" s_l_number p_l_number := fun _ _ _ _ _ _ us hl => match us, hl with | [_], _ => rfl
abbrev s_l_rows : Stmt := top 32
abbrev n_l_rows : List Str := ["_law_feed_here", "_law_many", "_law_wide", "_law_rows_here", "_law_k", "_law_way", "_law_row", "_law_j", "_law_number_here"]
abbrev p_l_rows : List Str := ["_law_feed_here", "_law_many", "_law_wide"]
theorem sc_l_rows : FnScope n_l_rows p_l_rows (defScope s_l_rows) := ⟨rfl, rfl, rfl, by decide +kernel, rfl, by decide +kernel, by decide +kernel⟩
theorem bn_l_rows : BndOk "_law_rows" s_l_rows p_l_rows := fun _ _ _ _ _ _ us hl => match us, hl with | [_, _, _], _ => rfl
abbrev s_l_table : Stmt := top 33
abbrev n_l_table : List Str := ["_law_feed_here", "_law_many", "_law_wide"]
abbrev p_l_table : List Str := ["_law_feed_here", "_law_many", "_law_wide"]
theorem sc_l_table : FnScope n_l_table p_l_table (defScope s_l_table) := ⟨rfl, rfl, rfl, by decide +kernel, rfl, by decide +kernel, by decide +kernel⟩
theorem bn_l_table : BndOk "_law_table" s_l_table p_l_table := fun _ _ _ _ _ _ us hl => match us, hl with | [_, _, _], _ => rfl
abbrev s_l_deed : Stmt := top 34
abbrev n_l_deed : List Str := ["_law_feed_here", "_law_many", "_law_i", "_law_way", "_law_j"]
abbrev p_l_deed : List Str := ["_law_feed_here", "_law_many"]
theorem sc_l_deed : FnScope n_l_deed p_l_deed (defScope s_l_deed) := ⟨rfl, rfl, rfl, by decide +kernel, rfl, by decide +kernel, by decide +kernel⟩
theorem bn_l_deed : BndOk "_law_deed" s_l_deed p_l_deed := fun _ _ _ _ _ _ us hl => match us, hl with | [_, _], _ => rfl
abbrev s_l_deeds : Stmt := top 35
abbrev n_l_deeds : List Str := ["_law_feed_here", "_law_many", "_law_most", "_law_k"]
abbrev p_l_deeds : List Str := ["_law_feed_here", "_law_many", "_law_most"]
theorem sc_l_deeds : FnScope n_l_deeds p_l_deeds (defScope s_l_deeds) := ⟨rfl, rfl, rfl, by decide +kernel, rfl, by decide +kernel, by decide +kernel⟩
theorem bn_l_deeds : BndOk "_law_deeds" s_l_deeds p_l_deeds := fun _ _ _ _ _ _ us hl => match us, hl with | [_, _, _], _ => rfl
abbrev s_l_right : Stmt := top 36
abbrev n_l_right : List Str := ["_law_table_here", "_law_deeds_here", "_law_more", "_law_many", "_law_first", "_law_second", "_law_back", "_law_home"]
abbrev p_l_right : List Str := ["_law_table_here", "_law_deeds_here", "_law_more"]
theorem sc_l_right : FnScope n_l_right p_l_right (defScope s_l_right) := ⟨rfl, rfl, rfl, by decide +kernel, rfl, by decide +kernel, by decide +kernel⟩
theorem bn_l_right : BndOk "_law_right" s_l_right p_l_right := fun _ _ _ _ _ _ us hl => match us, hl with | [_, _, _], _ => rfl
abbrev s_l_more_right : Stmt := top 37
abbrev n_l_more_right : List Str := ["_law_feed_here", "_law_way", "_law_many", "_law_i", "_law_j", "_law_deeds_here", "_law_more", "_law_kept", "_law_first", "_law_second", "_law_both", "_law_home", "_law_ends", "_law_further"]
abbrev p_l_more_right : List Str := ["_law_feed_here"]
theorem sc_l_more_right : FnScope n_l_more_right p_l_more_right (defScope s_l_more_right) := ⟨rfl, rfl, rfl, by decide +kernel, rfl, by decide +kernel, by decide +kernel⟩
theorem bn_l_more_right : BndOk "_law_more_right" s_l_more_right p_l_more_right := fun _ _ _ _ _ _ us hl => match us, hl with | [_], _ => rfl
abbrev s_law : Stmt := top 38
abbrev n_law : List Str := ["_law_script", "_law_feed_here", "_law_k", "_law_many", "_law_table_here", "_law_deeds_here", "_law_more", "_law_kept", "_law_over", "_law_sides", "_law_led", "_law_greater"]
abbrev p_law : List Str := ["_law_script"]
theorem sc_law : FnScope n_law p_law (defScope s_law) := ⟨rfl, rfl, rfl, by decide +kernel, rfl, by decide +kernel, by decide +kernel⟩
theorem bn_law : BndOk "law" s_law p_law := fun _ _ _ _ _ _ us hl => match us, hl with | [_], _ => rfl
structure Bn (mg : Str → Option Value) : Prop where
  isinstance_ : mg "isinstance" = none
  int_ : mg "int" = none
  bool_ : mg "bool" = none
  all_ : mg "all" = none
  tuple_ : mg "tuple" = none
  len_ : mg "len" = none
  range_ : mg "range" = none
  zip_ : mg "zip" = none
  sum_ : mg "sum" = none
  enumerate_ : mg "enumerate" = none
  list_ : mg "list" = none
  reversed_ : mg "reversed" = none
  repr_ : mg "repr" = none
variable {P : Program} {w : World} {K : PySem.W.Frag} {mg : Str → Option Value} {base : Heap}
def spIsNum : Sp := fun vs H Q _ => ∃ i : Int, vs = [.int i] ∧ Q (.bl true) H
theorem ok_is_number (D : Df K mg "is_number" s_is_number) (B : Bn mg) : Has P w K mg base "is_number" 1 p_is_number spIsNum := by
  refine has_of (k := 0) D sc_is_number bn_is_number ?_ ?_
  · rintro vs H Q E ⟨i, rfl, _⟩
    rfl
  rintro f cdv A outer s0 H vs Q E hr ⟨i, rfl, k⟩
  refine ⟨_, (pss_one (ps_ret (pe_and (pe_callB (call_isiK (K := K) (by rfl)) (by rfl) B.isinstance_ (by decide +kernel) (pa_cons (pv 0) (pa_cons (pe_bltn (v := .ty "int") (u := .type "int") (by rfl) B.int_ (by decide +kernel) rfl) pa_nil))) (pe_one (pe_not (pe_callB (call_isiK (K := K) (by rfl)) (by rfl) B.isinstance_ (by decide +kernel) (pa_cons (pv 0) (pa_cons (pe_bltn (v := .ty "bool") (u := .type "bool") (by rfl) B.bool_ (by decide +kernel) rfl) pa_nil)))))))), ?_⟩
  refine ⟨_, rfl, _, _, _, _, true, rfl, .ty "int", .base (.int i), kit_ty (by decide +kernel), true, rfl, iteT ?_⟩
  exact ⟨_, rfl, _, _, _, _, false, rfl, .ty "bool", .base (.int i), kit_ty (by decide +kernel), false, rfl, k⟩
def spRowNum : Sp := fun vs H Q _ => ∃ m i : Nat, vs = [.int m, .int i] ∧ i < m ∧ Q (.bl true) H
theorem ok_is_row_number (D : Df K mg "is_row_number" s_is_row_number) (B : Bn mg) (h_is_number : Has P w K mg base "is_number" 1 p_is_number spIsNum) :
    Has P w K mg base "is_row_number" 2 p_is_row_number spRowNum := by
  refine has_of (k := 1) D sc_is_row_number bn_is_row_number ?_ ?_
  · rintro vs H Q E ⟨m, i, rfl, _⟩
    rfl
  rintro f cdv A outer s0 H vs Q E hr ⟨m, i, rfl, hi, k⟩
  refine ⟨_, (pss_one (ps_ret (pe_and (pe_has (h_is_number) (hr.mono (by decide)) (by rfl) (pa_cons (pv 1) pa_nil)) (pe_one (pe_chain op_le op_lt pe_int (pv 1) (pv 0)))))), ?_⟩
  refine ⟨_, rfl, _, rfl, true, rfl, iteT ?_⟩
  refine ⟨_, rfl, _, _, rfl, rfl, _, rfl, ?_⟩
  rw [decide_eq_true (show (0 : Int) ≤ (i : Int) by omega)]
  refine iteT ?_
  refine ⟨_, rfl, _, _, rfl, rfl, ?_⟩
  show Q (.bl (decide ((i : Int) < (m : Int)))) H
  rw [decide_eq_true (show (i : Int) < (m : Int) by omega)]
  exact k
def spTwoRows : Sp := fun vs H Q _ => ∃ m i j : Nat, vs = [.int m, .int i, .int j] ∧ i < m ∧ j < m ∧ i ≠ j ∧ Q (.bl true) H
theorem ok_are_two_rows (D : Df K mg "are_two_rows" s_are_two_rows) (B : Bn mg) (h_is_row_number : Has P w K mg base "is_row_number" 2 p_is_row_number spRowNum) :
    Has P w K mg base "are_two_rows" 3 p_are_two_rows spTwoRows := by
  refine has_of (k := 2) D sc_are_two_rows bn_are_two_rows ?_ ?_
  · rintro vs H Q E ⟨m, i, j, rfl, _⟩
    rfl
  rintro f cdv A outer s0 H vs Q E hr ⟨m, i, j, rfl, hi, hj, hij, k⟩
  refine ⟨_, (pss_one (ps_ret (pe_and (pe_has (h_is_row_number) (hr.mono (by decide)) (by rfl) (pa_cons (pv 0) (pa_cons (pv 1) pa_nil))) (pe_and (pe_has (h_is_row_number) (hr.mono (by decide)) (by rfl) (pa_cons (pv 0) (pa_cons (pv 2) pa_nil))) (pe_one (pe_cmpR op_ne (pv 1) (pv 2) (nomark _))))))), ?_⟩
  refine ⟨_, rfl, _, rfl, m, i, rfl, hi, true, rfl, iteT ?_⟩
  refine ⟨_, rfl, _, rfl, m, j, rfl, hj, true, rfl, iteT ?_⟩
  refine ⟨_, rfl, _, rfl, rfl, ?_⟩
  have e : (!decide (V.int (i : Int) = V.int (j : Int))) = true := by
    rw [decide_eq_false (fun z => hij (by have := V.int.inj z; omega))]
    rfl
  rw [e]
  exact k
def spIsDeed (K : PySem.W.Frag) : Sp := fun vs H Q _ => ∃ (m : Nat) (v : V) (d : Deed) (b : Int), vs = [.int m, v] ∧ Dp K H v (deedD d) ∧ OkD m b d ∧ Q (.bl true) H
theorem str_ne {x y : Str} (h : x ≠ y) : decide (V.str x = V.str y) = false := decide_eq_false fun z => h (V.str.inj z)
theorem ok_is_deed (D : Df K mg "is_deed" s_is_deed) (B : Bn mg) (h_is_number : Has P w K mg base "is_number" 1 p_is_number spIsNum)
    (h_is_row_number : Has P w K mg base "is_row_number" 2 p_is_row_number spRowNum) (h_are_two_rows : Has P w K mg base "are_two_rows" 3 p_are_two_rows spTwoRows) :
    Has P w K mg base "is_deed" 4 p_is_deed (spIsDeed K) := by
  refine has_of (k := 3) D sc_is_deed bn_is_deed ?_ ?_
  · rintro vs H Q E ⟨m, v, d, b, rfl, _⟩
    rfl
  rintro f cdv A outer s0 H vs Q E hr ⟨m, v, d, b, rfl, hd, ok, k⟩
  refine ⟨_, (Evl.pss_cut (ps_if (PW.pt (pw_or (pt_not (pt_val (pe_callB (call_isiK (K := K) (by rfl)) (by rfl) B.isinstance_ (by decide +kernel) (pa_cons (pv 1) (pa_cons (pe_bltn (v := .ty "tuple") (u := .type "tuple") (by rfl) B.tuple_ (by decide +kernel) rfl) pa_nil))))) (pw_or1 (pt_cmpR op_lt (pe_callB (call_lenK (K := K) (by rfl)) (by rfl) B.len_ (by decide +kernel) (pa_cons (pv 1) pa_nil)) pe_int (nomark _))))) (pss_one (ps_ret pe_bl)) pss_nil)
      (pss_cons (ps_asg (pe_ix (ix_tupK (K := K) (by rfl)) (pv 1) pe_int (fun _ _ => rfl)) (pg_name (i := 2) sc_is_deed.nd rfl (by first | exact Or.inl rfl | exact Or.inr rfl)))
      (pss_cons (ps_if (pt_cmpR op_eq (pv 2) pe_str (nomark _)) (pss_one (ps_ret (pe_and (pe_cmpR op_eq (pe_callB (call_lenK (K := K) (by rfl)) (by rfl) B.len_ (by decide +kernel) (pa_cons (pv 1) pa_nil)) pe_int (nomark _)) (pe_one (pe_has (h_are_two_rows) (hr.mono (by decide)) (by rfl) (pa_cons (pv 0) (pa_cons (pe_ix (ix_tupK (K := K) (by rfl)) (pv 1) pe_int (fun _ _ => rfl)) (pa_cons (pe_ix (ix_tupK (K := K) (by rfl)) (pv 1) pe_int (fun _ _ => rfl)) pa_nil)))))))) pss_nil)
      (pss_cons (ps_if (pt_cmpR op_eq (pv 2) pe_str (nomark _)) (pss_one (ps_ret (pe_and (pe_cmpR op_eq (pe_callB (call_lenK (K := K) (by rfl)) (by rfl) B.len_ (by decide +kernel) (pa_cons (pv 1) pa_nil)) pe_int (nomark _)) (pe_one (pe_has (h_is_row_number) (hr.mono (by decide)) (by rfl) (pa_cons (pv 0) (pa_cons (pe_ix (ix_tupK (K := K) (by rfl)) (pv 1) pe_int (fun _ _ => rfl)) pa_nil))))))) pss_nil)
      (pss_cons (ps_if (pt_cmpR op_eq (pv 2) pe_str (nomark _)) (pss_one (ps_ret (pe_and (pe_cmpR op_eq (pe_callB (call_lenK (K := K) (by rfl)) (by rfl) B.len_ (by decide +kernel) (pa_cons (pv 1) pa_nil)) pe_int (nomark _)) (pe_and (pe_has (h_are_two_rows) (hr.mono (by decide)) (by rfl) (pa_cons (pv 0) (pa_cons (pe_ix (ix_tupK (K := K) (by rfl)) (pv 1) pe_int (fun _ _ => rfl)) (pa_cons (pe_ix (ix_tupK (K := K) (by rfl)) (pv 1) pe_int (fun _ _ => rfl)) pa_nil)))) (pe_one (pe_has (h_is_number) (hr.mono (by decide)) (by rfl) (pa_cons (pe_ix (ix_tupK (K := K) (by rfl)) (pv 1) pe_int (fun _ _ => rfl)) pa_nil))))))) pss_nil)
      (pss_one (ps_ret pe_bl))))))), ?_⟩
  cases d with
  | swap i j =>
    obtain ⟨a, xs, rfl, hs, ha⟩ := dp_tup hd
    obtain ⟨x0, t0, rfl, q0, ha⟩ := dpa_cons ha
    obtain ⟨x1, t1, rfl, q1, ha⟩ := dpa_cons ha
    obtain ⟨x2, t2, rfl, q2, ha⟩ := dpa_cons ha
    rw [dpa_nil ha] at hs
    cases q0
    cases q1
    cases q2
    obtain ⟨o1, o2, o3⟩ := ok
    refine ⟨fun σ' H' => H' = H ∧ σ' = [some (.int m), some (.ref a), none], ?_, ?_⟩
    · refine ⟨_, rfl, _, _, _, _, true, rfl, .ty "tuple", sqt_ty hs, kit_ty (by decide +kernel), _, rfl, iteF ?_⟩
      refine ⟨_, rfl, a, _, rfl, .inr hs, _, _, rfl, rfl, _, rfl, ?_⟩
      exact iteF ⟨rfl, rfl⟩
    · rintro σ' H' ⟨rfl, rfl⟩
      refine ⟨_, rfl, a, _, 0, _, rfl, rfl, hs, rfl, ?_⟩
      refine ⟨_, rfl, rfl, _, rfl, ?_⟩
      rw [decide_eq_true (rfl : V.str _ = V.str _)]
      refine iteT ?_
      refine ⟨_, rfl, a, _, rfl, .inr hs, rfl, true, rfl, iteT ?_⟩
      exact ⟨_, rfl, _, rfl, a, _, 1, _, rfl, rfl, hs, rfl, _, rfl, a, _, 2, _, rfl, rfl, hs, rfl, m, i, j, rfl, o1, o2, o3, k⟩
  | turn i =>
    obtain ⟨a, xs, rfl, hs, ha⟩ := dp_tup hd
    obtain ⟨x0, t0, rfl, q0, ha⟩ := dpa_cons ha
    obtain ⟨x1, t1, rfl, q1, ha⟩ := dpa_cons ha
    rw [dpa_nil ha] at hs
    cases q0
    cases q1
    refine ⟨fun σ' H' => H' = H ∧ σ' = [some (.int m), some (.ref a), none], ?_, ?_⟩
    · refine ⟨_, rfl, _, _, _, _, true, rfl, .ty "tuple", sqt_ty hs, kit_ty (by decide +kernel), _, rfl, iteF ?_⟩
      refine ⟨_, rfl, a, _, rfl, .inr hs, _, _, rfl, rfl, _, rfl, ?_⟩
      exact iteF ⟨rfl, rfl⟩
    · rintro σ' H' ⟨rfl, rfl⟩
      refine ⟨_, rfl, a, _, 0, _, rfl, rfl, hs, rfl, ?_⟩
      refine ⟨_, rfl, rfl, _, rfl, ?_⟩
      rw [str_ne (by decide +kernel)]
      refine iteF ?_
      refine ⟨_, rfl, rfl, _, rfl, ?_⟩
      rw [decide_eq_true (rfl : V.str _ = V.str _)]
      refine iteT ?_
      refine ⟨_, rfl, a, _, rfl, .inr hs, rfl, true, rfl, iteT ?_⟩
      exact ⟨_, rfl, _, rfl, a, _, 1, _, rfl, rfl, hs, rfl, m, i, rfl, ok, k⟩
  | add i j n =>
    obtain ⟨a, xs, rfl, hs, ha⟩ := dp_tup hd
    obtain ⟨x0, t0, rfl, q0, ha⟩ := dpa_cons ha
    obtain ⟨x1, t1, rfl, q1, ha⟩ := dpa_cons ha
    obtain ⟨x2, t2, rfl, q2, ha⟩ := dpa_cons ha
    obtain ⟨x3, t3, rfl, q3, ha⟩ := dpa_cons ha
    rw [dpa_nil ha] at hs
    cases q0
    cases q1
    cases q2
    cases q3
    obtain ⟨o1, o2, o3, o4, o5⟩ := ok
    refine ⟨fun σ' H' => H' = H ∧ σ' = [some (.int m), some (.ref a), none], ?_, ?_⟩
    · refine ⟨_, rfl, _, _, _, _, true, rfl, .ty "tuple", sqt_ty hs, kit_ty (by decide +kernel), _, rfl, iteF ?_⟩
      refine ⟨_, rfl, a, _, rfl, .inr hs, _, _, rfl, rfl, _, rfl, ?_⟩
      exact iteF ⟨rfl, rfl⟩
    · rintro σ' H' ⟨rfl, rfl⟩
      refine ⟨_, rfl, a, _, 0, _, rfl, rfl, hs, rfl, ?_⟩
      refine ⟨_, rfl, rfl, _, rfl, ?_⟩
      rw [str_ne (by decide +kernel)]
      refine iteF ?_
      refine ⟨_, rfl, rfl, _, rfl, ?_⟩
      rw [str_ne (by decide +kernel)]
      refine iteF ?_
      refine ⟨_, rfl, rfl, _, rfl, ?_⟩
      rw [decide_eq_true (rfl : V.str _ = V.str _)]
      refine iteT ?_
      refine ⟨_, rfl, a, _, rfl, .inr hs, rfl, true, rfl, iteT ?_⟩
      refine ⟨_, rfl, _, rfl, a, _, 1, _, rfl, rfl, hs, rfl, _, rfl, a, _, 2, _, rfl, rfl, hs, rfl, m, i, j, rfl, o1, o2, o3, true, rfl, iteT ?_⟩
      exact ⟨_, rfl, a, _, 3, _, rfl, rfl, hs, rfl, n, rfl, k⟩
def spRefuse (K : PySem.W.Frag) : Sp := fun vs H Q _ => ∃ (m : Nat) (v : V) (ds : List Deed) (b : Int), vs = [.int m, v] ∧ Dp K H v (deedsD ds) ∧ (∀ d ∈ ds, OkD m b d) ∧
  ∀ H', Same H H' → Q .non H'
theorem ok_refuse_other_than_deeds (D : Df K mg "refuse_other_than_deeds" s_refuse_other_than_deeds) (B : Bn mg) (h_is_deed : Has P w K mg base "is_deed" 4 p_is_deed (spIsDeed K)) :
    Has P w K mg base "refuse_other_than_deeds" 5 p_refuse_other_than_deeds (spRefuse K) := by
  refine has_of (k := 4) D sc_refuse_other_than_deeds bn_refuse_other_than_deeds ?_ ?_
  · rintro vs H Q E ⟨m, v, ds, b, rfl, _⟩
    rfl
  rintro f cdv A outer s0 H vs Q E hr ⟨m, v, ds, b, rfl, hd, ok, k⟩
  obtain ⟨a, xs, rfl, hs, ha⟩ := dp_tup hd
  refine ⟨_, (pss_cons (ps_if (pt_not (pt_val (pe_callB (call_isiK (K := K) (by rfl)) (by rfl) B.isinstance_ (by decide +kernel) (pa_cons (pv 1) (pa_cons (pe_bltn (v := .ty "tuple") (u := .type "tuple") (by rfl) B.tuple_ (by decide +kernel) rfl) pa_nil))))) (pss_one ps_never) pss_nil)
      (pss_one (ps_for PassesOwn.never rfl (pi_enumK (K := K) (by rfl) (by rfl) B.enumerate_ (pa_cons (pv 1) pa_nil)) (pg_tupK (K := K) (n := 2) (by rfl) (by rfl) (pgs_cons (pg_name (i := 2) sc_refuse_other_than_deeds.nd rfl (by first | exact Or.inl rfl | exact Or.inr rfl)) (pgs_cons (pg_name (i := 3) sc_refuse_other_than_deeds.nd rfl (by first | exact Or.inl rfl | exact Or.inr rfl)) pgs_nil))) (pss_one (ps_if (pt_not (pt_val (pe_has (h_is_deed) (hr.mono (by decide)) (by rfl) (pa_cons (pv 0) (pa_cons (pv 3) pa_nil))))) (pss_one ps_never) pss_nil))))), ?_⟩
  refine ⟨_, rfl, _, _, _, _, true, rfl, .ty "tuple", sqt_ty hs, kit_ty (by decide +kernel), _, rfl, iteF ?_⟩
  refine ⟨_, rfl, a, xs, rfl, hs, for_enumT (K := K) (xs := xs) (fun i σ H' => Same H H' ∧ ∃ v2 v3 : Option V, σ = [some (.int m), some (.ref a), v2, v3]) ?_ ?_ ?_ ?_⟩
  · exact ⟨Same.refl H, _, _, rfl⟩
  · rintro i σ H' ⟨e, _⟩
    exact sqt_same e hs
  · rintro i x T σ H' hx ⟨e, v2, v3, rfl⟩ nT
    have eT := Same.new (o := .tup [.int (i : Nat), x]) nT
    refine ⟨T, _, rfl, SqT.of upd_same, rfl, _, _, rfl, _, _, rfl, rfl, ?_⟩
    obtain ⟨d, hd1, hd2⟩ := dpa_get _ _ i x (DpAll.same (e.trans eT) _ _ ha) hx
    rw [List.getElem?_map] at hd1
    cases q : ds[i]? with
    | none => rw [q] at hd1; cases hd1
    | some dd =>
      rw [q] at hd1
      cases hd1
      refine ⟨_, rfl, _, rfl, m, x, dd, b, rfl, hd2, ok dd (List.mem_of_getElem? q), _, rfl, iteF ?_⟩
      exact ⟨e.trans eT, _, _, rfl⟩
  · rintro σ H' ⟨e, v2, v3, rfl⟩
    exact k H' e
def Wd (r : List Int) : Prop := ∀ x ∈ r, x.natAbs < 2 ^ 4000
theorem Wd.at {r : List Int} (h : Wd r) (i : Nat) : (r.getD i 0).natAbs < 2 ^ 4000 := by
  by_cases hi : i < r.length
  · exact h _ (Gd.getD_mem hi)
  · rw [List.getD_eq_getElem?_getD, List.getElem?_eq_none (by omega)]
    exact Nat.pow_pos (by decide)
theorem one_wide : (-1 : Int).natAbs < 2 ^ 4000 := Nat.one_lt_two_pow (by decide)
def spScaled (K : PySem.W.Frag) : Sp := fun vs H Q _ => ∃ (v : V) (r : List Int) (n : Int), vs = [v, .int n] ∧ Dp K H v (rowD r) ∧ r.length ≤ 1000 ∧ Wd r ∧ n.natAbs < 2 ^ 4000 ∧
  ∀ y H', Same H H' → Dp K H' y (rowD (scaleR r n)) → Q y H'
theorem ok_row_scaled (D : Df K mg "row_scaled" s_row_scaled) (B : Bn mg) : Has P w K mg base "row_scaled" 1 p_row_scaled (spScaled K) := by
  refine has_of (k := 0) D sc_row_scaled bn_row_scaled ?_ ?_
  · rintro vs H Q E ⟨v, r, n, rfl, _⟩
    rfl
  rintro f cdv A outer s0 H vs Q E hr ⟨v, r, n, rfl, hv, hl, hw, hn, k⟩
  obtain ⟨p, rfl, hp⟩ := dp_row hv
  refine ⟨_, (pss_one (ps_ret (pe_callTy (call_tupleK (K := K) (by rfl)) (by rfl) B.tuple_ (by decide +kernel) (pa_cons (pe_lc (own := [("other", 2)]) rfl sc_row_scaled.nd (pi_tupK (K := K) (by rfl) (pv 0)) (blkOk_by (own := [("other", 2)]) (N := n_row_scaled) (sc := defScope s_row_scaled) (by decide +kernel)) (fun _ _ _ _ _ => (pg_name (i := 2) sc_row_scaled.nd rfl (by first | exact Or.inl rfl | exact Or.inr rfl))) (fun _ _ _ _ _ => pts_nil) (fun _ _ _ _ _ => (pe_op op_mulW (pv 1) (pv 2)))) pa_nil)))), ?_⟩
  refine ⟨_, rfl, p, rfl, ⟨_, hp⟩, fun D1 hD1 => ?_⟩
  refine lct (K := K) (j := 2) (fun c => .int (n * r.getD c 0)) hD1 hp (by rw [List.length_map]; omega) (fun _ _ => by simp [tupOnly]) (fun _ => rfl) ?_ ?_
  · intro i x H1 Q1 hx e1 k1
    obtain ⟨hi, rfl⟩ := row_get hx
    exact ⟨_, rfl, _, rfl, _, _, rfl, rfl, wide_mul hn (hw.at i) (by decide) (by decide) (by decide), k1 _ _ (Same.refl _) (.int _)⟩
  · intro H1 ys e1 h1 hd1
    rw [List.length_map] at hd1
    try dsimp only [tC, tNil]
    refine tupL_dp h1 hd1 fun v2 H2 e2 hv2 => ?_
    rw [mapR_row] at hv2
    exact k _ _ (e1.trans e2) hv2
def spRowSum (K : PySem.W.Frag) : Sp := fun vs H Q _ => ∃ (v u : V) (r t : List Int), vs = [v, u] ∧ Dp K H v (rowD r) ∧ Dp K H u (rowD t) ∧ r.length = t.length ∧ r.length ≤ 1000 ∧
  ∀ y H', Same H H' → Dp K H' y (rowD (sumRow r t)) → Q y H'
theorem ok_row_sum (D : Df K mg "row_sum" s_row_sum) (B : Bn mg) : Has P w K mg base "row_sum" 1 p_row_sum (spRowSum K) := by
  refine has_of (k := 0) D sc_row_sum bn_row_sum ?_ ?_
  · rintro vs H Q E ⟨v, u, r, t, rfl, _⟩
    rfl
  rintro f cdv A outer s0 H vs Q E hr ⟨v, u, r, t, rfl, hv, hu, hl, hl2, k⟩
  obtain ⟨p, rfl, hp⟩ := dp_row hv
  obtain ⟨q, rfl, hq⟩ := dp_row hu
  refine ⟨_, (pss_one (ps_ret (pe_callTy (call_tupleK (K := K) (by rfl)) (by rfl) B.tuple_ (by decide +kernel) (pa_cons (pe_lc (own := [("number", 2), ("more", 3)]) rfl sc_row_sum.nd (pi_zipK (K := K) (by rfl) (by rfl) B.zip_ (pa_cons (pv 0) (pa_cons (pv 1) pa_nil))) (blkOk_by (own := [("number", 2), ("more", 3)]) (N := n_row_sum) (sc := defScope s_row_sum) (by decide +kernel)) (fun _ _ _ _ _ => (pg_tupK (K := K) (n := 2) (by rfl) (by rfl) (pgs_cons (pg_name (i := 2) sc_row_sum.nd rfl (by first | exact Or.inl rfl | exact Or.inr rfl)) (pgs_cons (pg_name (i := 3) sc_row_sum.nd rfl (by first | exact Or.inl rfl | exact Or.inr rfl)) pgs_nil)))) (fun _ _ _ _ _ => pts_nil) (fun _ _ _ _ _ => (pe_op op_add (pv 2) (pv 3)))) pa_nil)))), ?_⟩
  refine ⟨_, rfl, _, rfl, p, q, _, _, rfl, .inr ⟨hp, hq, fun D1 hD1 => ?_⟩⟩
  refine lcz (K := K) (j1 := 2) (j2 := 3) (fun c => .int (r.getD c 0 + t.getD c 0)) hD1 (by rw [List.length_map, List.length_map, hl]) hp hq
    (by rw [List.length_map]; omega) (fun _ _ => by simp [tupOnly]) (fun _ _ => rfl) (fun T x y H2 R h2 r2 => ⟨T, _, rfl, SqT.of h2, rfl, _, _, rfl, _, _, rfl, rfl, r2⟩) ?_ ?_
  · intro i x y H1 Q1 hx hy e1 k1
    obtain ⟨hi, rfl⟩ := row_get hx
    obtain ⟨hi2, rfl⟩ := row_get hy
    exact ⟨_, rfl, _, rfl, _, _, rfl, rfl, k1 _ _ (Same.refl _) (.int _)⟩
  · intro H1 ys e1 h1 hd1
    rw [List.length_map] at hd1
    try dsimp only [tC, tNil]
    refine tupL_dp h1 hd1 fun v2 H2 e2 hv2 => ?_
    rw [mapR_row] at hv2
    exact k _ _ (e1.trans e2) hv2
/-- a list of rows at l, that may be changed -/
def RowsL (K : PySem.W.Frag) (H : Hp) (l : Addr) (rs : List (List Int)) : Prop := ∃ ys, H l = some (.lst ys) ∧ DpAll K H ys (rs.map rowD)
def spDoDeed (K : PySem.W.Frag) : Sp := fun vs H Q _ => ∃ (l : Addr) (v : V) (d : Deed) (b : Int) (m wd : Nat) (rs : List (List Int)),
  vs = [.ref l, v] ∧ Dp K H v (deedD d) ∧ OkD m b d ∧ rs.length = m ∧ (∀ r ∈ rs, r.length = wd) ∧ wd ≤ 1000 ∧ (∀ r ∈ rs, Wd r) ∧ 0 ≤ b ∧ b.natAbs < 2 ^ 4000 ∧ RowsL K H l rs ∧
  ∀ H', Sb l H H' → RowsL K H' l (stepD rs d) → Q .non H'
theorem ok_do_deed (D : Df K mg "do_deed" s_do_deed) (B : Bn mg) (h_row_scaled : Has P w K mg base "row_scaled" 1 p_row_scaled (spScaled K))
    (h_row_sum : Has P w K mg base "row_sum" 1 p_row_sum (spRowSum K)) :
    Has P w K mg base "do_deed" 2 p_do_deed (spDoDeed K) := by
  refine has_of (k := 1) D sc_do_deed bn_do_deed ?_ ?_
  · rintro vs H Q E ⟨l, v, d, b, m, wd, rs, rfl, _⟩
    rfl
  rintro f cdv A outer s0 H vs Q E hr ⟨l, v, d, b, m, wd, rs, rfl, hd, ok, hm, hw, hwd, hwide, hb0, hb, ⟨ys, hl, hall⟩, k⟩
  have hlen : ys.length = rs.length := by rw [dpa_len _ _ hall, List.length_map]
  have tall := rows_tup rs
  refine ⟨_, (pss_cons (ps_asg (pe_ix (ix_tupK (K := K) (by rfl)) (pv 1) pe_int (fun _ _ => rfl)) (pg_name (i := 2) sc_do_deed.nd rfl (by first | exact Or.inl rfl | exact Or.inr rfl)))
      (pss_cons (ps_asg (pe_ix (ix_tupK (K := K) (by rfl)) (pv 1) pe_int (fun _ _ => rfl)) (pg_name (i := 3) sc_do_deed.nd rfl (by first | exact Or.inl rfl | exact Or.inr rfl)))
      (pss_one (ps_if (pt_cmpR op_eq (pv 2) pe_str (nomark _)) (pss_cons (ps_asg (pe_ix (ix_tupK (K := K) (by rfl)) (pv 1) pe_int (fun _ _ => rfl)) (pg_name (i := 4) sc_do_deed.nd rfl (by first | exact Or.inl rfl | exact Or.inr rfl)))
      (pss_one (ps_asg (pe_tup (pa_cons (pe_ix (ix_listK (K := K) (by rfl)) (pv 0) (pv 4) (fun _ _ => rfl)) (pa_cons (pe_ix (ix_listK (K := K) (by rfl)) (pv 0) (pv 3) (fun _ _ => rfl)) pa_nil))) (pg_tupK (K := K) (n := 2) (by rfl) (by rfl) (pgs_cons (pg_sub (pv 0) (pv 3) set_list) (pgs_cons (pg_sub (pv 0) (pv 4) set_list) pgs_nil)))))) (pss_one (ps_if (pt_cmpR op_eq (pv 2) pe_str (nomark _)) (pss_one (ps_asg (pe_has (h_row_scaled) (hr.mono (by decide)) (by rfl) (pa_cons (pe_ix (ix_listK (K := K) (by rfl)) (pv 0) (pv 3) (fun _ _ => rfl)) (pa_cons (pe_un un_neg pe_int) pa_nil))) (pg_sub (pv 0) (pv 3) set_list))) (pss_one (ps_asg (pe_has (h_row_sum) (hr.mono (by decide)) (by rfl) (pa_cons (pe_ix (ix_listK (K := K) (by rfl)) (pv 0) (pv 3) (fun _ _ => rfl)) (pa_cons (pe_has (h_row_scaled) (hr.mono (by decide)) (by rfl) (pa_cons (pe_ix (ix_listK (K := K) (by rfl)) (pv 0) (pe_ix (ix_tupK (K := K) (by rfl)) (pv 1) pe_int (fun _ _ => rfl)) (fun _ _ => rfl)) (pa_cons (pe_ix (ix_tupK (K := K) (by rfl)) (pv 1) pe_int (fun _ _ => rfl)) pa_nil))) pa_nil))) (pg_sub (pv 0) (pv 3) set_list))))))))), ?_⟩
  cases d with
  | swap i j =>
    obtain ⟨a, xs, rfl, hs, ha⟩ := dp_tup hd
    obtain ⟨x0, t0, rfl, q0, ha⟩ := dpa_cons ha
    obtain ⟨x1, t1, rfl, q1, ha⟩ := dpa_cons ha
    obtain ⟨x2, t2, rfl, q2, ha⟩ := dpa_cons ha
    rw [dpa_nil ha] at hs
    cases q0
    cases q1
    cases q2
    obtain ⟨o1, o2, o3⟩ := ok
    have hi : i < rs.length := by omega
    have hj : j < rs.length := by omega
    obtain ⟨xi, hxi, dxi⟩ := dpa_at _ _ i _ hall (rows_getD hi)
    obtain ⟨xj, hxj, dxj⟩ := dpa_at _ _ j _ hall (rows_getD hj)
    refine ⟨_, rfl, a, _, 0, _, rfl, rfl, hs, rfl, ?_⟩
    refine ⟨_, rfl, a, _, 1, _, rfl, rfl, hs, rfl, ?_⟩
    refine ⟨_, rfl, rfl, _, rfl, ?_⟩
    rw [decide_eq_true (rfl : V.str _ = V.str _)]
    refine iteT ?_
    refine ⟨_, rfl, a, _, 2, _, rfl, rfl, hs, rfl, ?_⟩
    refine ⟨_, rfl, _, rfl, l, _, _, _, rfl, rfl, SqL.of hl, atI_nat hxj, _, rfl, _, rfl, l, _, _, _, rfl, rfl, SqL.of hl, atI_nat hxi, by show 2 ≤ sizeLine; decide, fun p np => ?_⟩
    have ep := Same.new (o := .tup [xj, xi]) np
    have hl1 := ep _ _ hl
    refine ⟨p, _, rfl, SqT.of upd_same, rfl, _, _, rfl, ?_⟩
    refine ⟨_, rfl, _, rfl, l, ys, _, i, rfl, rfl, hl1, ixN_of (by omega), ?_⟩
    refine ⟨_, _, rfl, _, rfl, _, rfl, l, _, _, j, rfl, rfl, upd_same, ixN_of (by rw [List.length_set]; omega), rfl, ?_⟩
    refine k _ (Sb.own (Sb.own (Sb.of ep))) ⟨_, upd_same, ?_⟩
    have tk1 := (Tk.of ep).trans ((Tk.lst (o := .lst (ys.set i xj)) hl1).trans (Tk.lst (o := .lst ((ys.set i xj).set j xi)) upd_same))
    show DpAll K _ ((ys.set i xj).set j xi) (((rs.set i (rs.getD j [])).set j (rs.getD i [])).map rowD)
    rw [map_set, map_set]
    exact dpa_set _ _ _ _ _ (dpa_set _ _ _ _ _ (DpAll.tk tk1 _ _ tall hall) (Dp.tk tk1 _ _ (rowD_tup _) dxj)) (Dp.tk tk1 _ _ (rowD_tup _) dxi)
  | turn i =>
    obtain ⟨a, xs, rfl, hs, ha⟩ := dp_tup hd
    obtain ⟨x0, t0, rfl, q0, ha⟩ := dpa_cons ha
    obtain ⟨x1, t1, rfl, q1, ha⟩ := dpa_cons ha
    rw [dpa_nil ha] at hs
    cases q0
    cases q1
    have hi : i < rs.length := by
      have : i < m := ok
      omega
    obtain ⟨xi, hxi, dxi⟩ := dpa_at _ _ i _ hall (rows_getD hi)
    have hmem := Gd.getD_mem (d := ([] : List Int)) hi
    refine ⟨_, rfl, a, _, 0, _, rfl, rfl, hs, rfl, ?_⟩
    refine ⟨_, rfl, a, _, 1, _, rfl, rfl, hs, rfl, ?_⟩
    refine ⟨_, rfl, rfl, _, rfl, ?_⟩
    rw [str_ne (by decide +kernel)]
    refine iteF ?_
    refine ⟨_, rfl, rfl, _, rfl, ?_⟩
    rw [decide_eq_true (rfl : V.str _ = V.str _)]
    refine iteT ?_
    refine ⟨_, rfl, _, rfl, l, _, _, _, rfl, rfl, SqL.of hl, atI_nat hxi, _, rfl, xi, _, _, rfl, dxi, by rw [hw _ hmem]; omega, hwide _ hmem, one_wide, fun y H1 e1 hy => ?_⟩
    have hl1 := e1 _ _ hl
    refine ⟨_, rfl, _, rfl, l, ys, _, i, rfl, rfl, hl1, ixN_of (by omega), ?_⟩
    refine k _ (Sb.own (Sb.of e1)) ⟨_, upd_same, ?_⟩
    have tk1 := (Tk.of e1).trans (Tk.lst (o := .lst (ys.set i y)) hl1)
    show DpAll K _ (ys.set i y) ((rs.set i (scaleR (rs.getD i []) (-1))).map rowD)
    rw [map_set]
    exact dpa_set _ _ _ _ _ (DpAll.tk tk1 _ _ tall hall) (Dp.tk (Tk.lst (o := .lst (ys.set i y)) hl1) _ _ (rowD_tup _) hy)
  | add i j n =>
    obtain ⟨a, xs, rfl, hs, ha⟩ := dp_tup hd
    obtain ⟨x0, t0, rfl, q0, ha⟩ := dpa_cons ha
    obtain ⟨x1, t1, rfl, q1, ha⟩ := dpa_cons ha
    obtain ⟨x2, t2, rfl, q2, ha⟩ := dpa_cons ha
    obtain ⟨x3, t3, rfl, q3, ha⟩ := dpa_cons ha
    rw [dpa_nil ha] at hs
    cases q0
    cases q1
    cases q2
    cases q3
    obtain ⟨o1, o2, o3, o4, o5⟩ := ok
    have hi : i < rs.length := by omega
    have hj : j < rs.length := by omega
    obtain ⟨xi, hxi, dxi⟩ := dpa_at _ _ i _ hall (rows_getD hi)
    obtain ⟨xj, hxj, dxj⟩ := dpa_at _ _ j _ hall (rows_getD hj)
    have hmi := Gd.getD_mem (d := ([] : List Int)) hi
    have hmj := Gd.getD_mem (d := ([] : List Int)) hj
    refine ⟨_, rfl, a, _, 0, _, rfl, rfl, hs, rfl, ?_⟩
    refine ⟨_, rfl, a, _, 1, _, rfl, rfl, hs, rfl, ?_⟩
    refine ⟨_, rfl, rfl, _, rfl, ?_⟩
    rw [str_ne (by decide +kernel)]
    refine iteF ?_
    refine ⟨_, rfl, rfl, _, rfl, ?_⟩
    rw [str_ne (by decide +kernel)]
    refine iteF ?_
    refine ⟨_, rfl, _, rfl, l, _, _, _, rfl, rfl, SqL.of hl, atI_nat hxi, ?_⟩
    refine ⟨_, rfl, _, rfl, a, _, 2, _, rfl, rfl, hs, rfl, l, _, _, _, rfl, rfl, SqL.of hl, atI_nat hxj, ?_⟩
    refine ⟨_, rfl, a, _, 3, _, rfl, rfl, hs, rfl, xj, _, n, rfl, dxj, by rw [hw _ hmj]; omega, hwide _ hmj, by omega, fun y1 H1 e1 hy1 => ?_⟩
    refine ⟨xi, y1, _, _, rfl, Dp.same e1 _ _ dxi, hy1, by simp only [scaleR, List.length_map, List.length_range]; rw [hw _ hmi, hw _ hmj], by rw [hw _ hmi]; omega, fun y H2 e2 hy => ?_⟩
    have e12 := e1.trans e2
    have hl1 := e12 _ _ hl
    refine ⟨_, rfl, _, rfl, l, ys, _, i, rfl, rfl, hl1, ixN_of (by omega), ?_⟩
    refine k _ (Sb.own (Sb.of e12)) ⟨_, upd_same, ?_⟩
    have tk1 := (Tk.of e12).trans (Tk.lst (o := .lst (ys.set i y)) hl1)
    show DpAll K _ (ys.set i y) ((rs.set i (sumRow (rs.getD i []) (scaleR (rs.getD j []) n))).map rowD)
    rw [map_set]
    exact dpa_set _ _ _ _ _ (DpAll.tk tk1 _ _ tall hall) (Dp.tk (Tk.lst (o := .lst (ys.set i y)) hl1) _ _ (rowD_tup _) hy)

end K11

set_option Elab.async false
set_option linter.all false
set_option maxRecDepth 100000
set_option maxHeartbeats 1000000
namespace K11
open PySem L2 Gd
variable {P : Program} {w : World} {K : PySem.W.Frag} {mg : Str → Option Value} {base : Heap}
def allD (rs : List (List Int)) (ds : List Deed) : List (List Int) := ds.foldl stepD rs
theorem allD_take {rs : List (List Int)} {ds : List Deed} {i : Nat} {d : Deed} (h : ds[i]? = some d) : allD rs (ds.take (i + 1)) = stepD (allD rs (ds.take i)) d := by
  unfold allD
  rw [List.take_succ, h, List.foldl_append]
  rfl
theorem allD_facts {rs : List (List Int)} {wd m b c : Nat} (hm : rs.length = m) (hw : ∀ r ∈ rs, r.length = wd) (hb : Bs (b : Int) rs) (hc : 1 ≤ c) :
    ∀ ds : List Deed, (∀ d ∈ ds, OkD m (c : Int) d) → (allD rs ds).length = m ∧ (∀ r ∈ allD rs ds, r.length = wd) ∧ Bs ((b * (c + 1) ^ ds.length : Nat) : Int) (allD rs ds) := by
  have key : ∀ (ds : List Deed) (rs : List (List Int)) (b : Nat), rs.length = m → (∀ r ∈ rs, r.length = wd) → Bs (b : Int) rs → (∀ d ∈ ds, OkD m (c : Int) d) →
      (allD rs ds).length = m ∧ (∀ r ∈ allD rs ds, r.length = wd) ∧ Bs ((b * (c + 1) ^ ds.length : Nat) : Int) (allD rs ds) := by
    intro ds
    induction ds with
    | nil =>
      intro rs b h1 h2 h3 _
      refine ⟨h1, h2, ?_⟩
      rw [List.length_nil, Nat.pow_zero, Nat.mul_one]
      exact h3
    | cons d ds ih =>
      intro rs b h1 h2 h3 h4
      have hd := h4 d (List.mem_cons_self ..)
      have s1 := stepD_bd (b := (b : Int)) (c := (c : Int)) (by omega) (by omega) h3 h1 hd
      have e : (b : Int) * ((c : Int) + 1) = ((b * (c + 1) : Nat) : Int) := by
        rw [Int.natCast_mul]
        rfl
      rw [e] at s1
      have := ih (stepD rs d) (b * (c + 1)) (by rw [stepD_len]; exact h1) (stepD_wide h2 h1 hd) s1 (fun x hx => h4 x (List.mem_cons_of_mem _ hx))
      have e2 : b * (c + 1) * (c + 1) ^ ds.length = b * (c + 1) ^ (d :: ds).length := by
        rw [List.length_cons, Nat.pow_succ, Nat.mul_assoc, Nat.mul_comm (c + 1)]
      rw [e2] at this
      exact this
  exact fun ds => key ds rs b hm hw hb
theorem Bs.wd {b : Nat} {rs : List (List Int)} (h : Bs (b : Int) rs) (hb : b < 2 ^ 4000) : ∀ r ∈ rs, Wd r := fun r hr x hx => by
  have := h r hr x hx
  omega
def spDone (K : PySem.W.Frag) : Sp := fun vs H Q _ => ∃ (v u : V) (wd b c : Nat) (rs : List (List Int)) (ds : List Deed),
  vs = [v, u] ∧ Dp K H v (tabD wd rs) ∧ Dp K H u (deedsD ds) ∧ (∀ r ∈ rs, r.length = wd) ∧ wd ≤ 1000 ∧ rs.length ≤ 1000 ∧
  Bs (b : Int) rs ∧ 1 ≤ c ∧ (∀ d ∈ ds, OkD rs.length (c : Int) d) ∧ b * (c + 1) ^ ds.length < 2 ^ 4000 ∧ c < 2 ^ 4000 ∧
  ∀ y H', Same H H' → Dp K H' y (tabD wd (allD rs ds)) → Q y H'
theorem ok_done (D : Df K mg "done" s_done) (B : Bn mg) (h_refuse_other_than_deeds : Has P w K mg base "refuse_other_than_deeds" 5 p_refuse_other_than_deeds (spRefuse K))
    (h_do_deed : Has P w K mg base "do_deed" 2 p_do_deed (spDoDeed K)) :
    Has P w K mg base "done" 6 p_done (spDone K) := by
  refine has_of (k := 5) D sc_done bn_done ?_ ?_
  · rintro vs H Q E ⟨v, u, wd, b, c, rs, ds, rfl, _⟩
    rfl
  rintro f cdv A outer s0 H vs Q E hr ⟨v, u, wd, b, c, rs, ds, rfl, hv, hu, hw, hwd, hm, hb, hc, ok, hbig, hcb, k⟩
  obtain ⟨pt, ur, rfl, htab, hrows⟩ := dp_tab hv
  obtain ⟨pr, xs, rfl, hxs, hall, hlen⟩ := dp_rows hrows
  obtain ⟨pd, xd, rfl, hxd, hda⟩ := dp_tup hu
  have hld : xd.length = ds.length := by rw [dpa_len _ _ hda, List.length_map]
  refine ⟨_, (pss_cons (ps_asg (pv 0) (pg_tupK (K := K) (n := 2) (by rfl) (by rfl) (pgs_cons (pg_name (i := 2) sc_done.nd rfl (by first | exact Or.inl rfl | exact Or.inr rfl)) (pgs_cons (pg_name (i := 3) sc_done.nd rfl (by first | exact Or.inl rfl | exact Or.inr rfl)) pgs_nil))))
      (pss_cons (ps_expr (pe_has (h_refuse_other_than_deeds) (hr.mono (by decide)) (by rfl) (pa_cons (pe_callB (call_lenK (K := K) (by rfl)) (by rfl) B.len_ (by decide +kernel) (pa_cons (pv 3) pa_nil)) (pa_cons (pv 1) pa_nil))))
      (pss_cons (ps_asg (pe_callTy (call_listK (K := K) (by rfl)) (by rfl) B.list_ (by decide +kernel) (pa_cons (pv 3) pa_nil)) (pg_name (i := 4) sc_done.nd rfl (by first | exact Or.inl rfl | exact Or.inr rfl)))
      (pss_cons (ps_for PassesOwn.never rfl (pi_tupK (K := K) (by rfl) (pv 1)) (pg_name (i := 5) sc_done.nd rfl (by first | exact Or.inl rfl | exact Or.inr rfl)) (pss_one (ps_expr (pe_has (h_do_deed) (hr.mono (by decide)) (by rfl) (pa_cons (pv 4) (pa_cons (pv 5) pa_nil))))))
      (pss_one (ps_ret (pe_tup (pa_cons (pv 2) (pa_cons (pe_callTy (call_tupleK (K := K) (by rfl)) (by rfl) B.tuple_ (by decide +kernel) (pa_cons (pv 4) pa_nil)) pa_nil))))))))), ?_⟩
  refine ⟨_, rfl, pt, _, rfl, htab, rfl, _, _, rfl, _, _, rfl, rfl, ?_⟩
  refine ⟨_, rfl, pr, _, rfl, .inr hxs, _, rfl, rs.length, _, ds, (c : Int), ?_, hu, ok, fun H1 e1 => ?_⟩
  · rw [hlen]
    rfl
  refine ⟨_, rfl, pr, _, rfl, .inr (sqt_same e1 hxs), fun l nl => ?_⟩
  have e2 := Same.new (o := .lst xs) nl
  have nl0 : H l = none := e1.free nl
  refine ⟨_, rfl, pd, rfl, ⟨_, sqt_same (e1.trans e2) hxd⟩, for_tup (K := K) (xs := xd) (fun i σ H' => Same H H' ∧ RowsL K H' l (allD rs (ds.take i)) ∧
    ∃ v5 : Option V, σ = [some (.ref pt), some (.ref pd), some (.int wd), some (.ref pr), some (.ref l), v5]) ?_ ?_ ?_ ?_⟩
  · refine ⟨e1.trans e2, ⟨xs, upd_same, ?_⟩, _, rfl⟩
    exact DpAll.same (e1.trans e2) _ _ hall
  · rintro i σ H' hi ⟨e, _⟩
    exact sqt_same e hxd
  · rintro i x σ H' hx ⟨e, hR, v5, rfl⟩
    obtain ⟨dt, hd1, hd2⟩ := dpa_get _ _ i x (DpAll.same e _ _ hda) hx
    rw [List.getElem?_map] at hd1
    cases q : ds[i]? with
    | none => rw [q] at hd1; cases hd1
    | some dd =>
      rw [q] at hd1
      cases hd1
      have hi := (List.getElem?_eq_some_iff.mp q).1
      obtain ⟨f1, f2, f3⟩ := allD_facts (b := b) (c := c) rfl hw hb hc (ds.take i) (fun d hd => ok d (List.mem_of_mem_take hd))
      have hp : b * (c + 1) ^ (ds.take i).length < 2 ^ 4000 := by
        refine Nat.lt_of_le_of_lt (Nat.mul_le_mul_left b (Nat.pow_le_pow_right (by omega) ?_)) hbig
        rw [List.length_take]
        omega
      refine ⟨_, rfl, _, rfl, l, x, dd, (c : Int), rs.length, wd, _, rfl, hd2, ok dd (List.mem_of_getElem? q), f1, f2, hwd, Bs.wd f3 hp, by omega, by omega, hR, fun H2 sb2 hR2 => ?_⟩
      refine ⟨Same.sb e nl0 sb2, ?_, _, rfl⟩
      rw [allD_take q]
      exact hR2
  · rintro σ H' ⟨e, ⟨ys, h1, h2⟩, v5, rfl⟩
    rw [hld, List.take_length] at h2
    refine ⟨_, rfl, _, rfl, ?_⟩
    try dsimp only [tC, tNil]
    refine tupL_dp h1 h2 fun v2 H2 e3 hv2 => ?_
    try dsimp only [tC, tNil]
    refine tup_dp (K := K) (.cons (.int _) (.cons hv2 .nil)) (by simp) fun v3 H3 e4 hv3 => ?_
    exact k _ _ ((e.trans e3).trans e4) hv3

def spUnitRow (K : PySem.W.Frag) : Sp := fun vs H Q _ => ∃ (n k : Nat), vs = [.int n, .int k] ∧ n ≤ 1000 ∧
  ∀ (y : V) (H' : Hp), Same H H' → Dp K H' y (rowD (unitRow n k)) → Q y H'
theorem ok_unit_row (D : Df K mg "unit_row" s_unit_row) (B : Bn mg) :
    Has P w K mg base "unit_row" 1 p_unit_row (spUnitRow K) := by
  refine has_of (k := 0) D sc_unit_row bn_unit_row ?_ ?_
  · rintro vs H Q E ⟨n, k, rfl, _⟩
    rfl
  rintro f cdv A outer s0 H vs Q E hr ⟨n, kk, rfl, hn, k⟩
  refine ⟨_, (pss_one (ps_ret (pe_callTy (call_tupleK (K := K) (by rfl)) (by rfl) B.tuple_ (by decide +kernel) (pa_cons (pe_lc (own := [("column", 2)]) rfl sc_unit_row.nd (pi_range1 (by rfl) B.range_ (pa_cons (pv 0) pa_nil)) (blkOk_by (own := [("column", 2)]) (N := n_unit_row) (sc := defScope s_unit_row) (by decide +kernel)) (fun _ _ _ _ _ => (pg_name (i := 2) sc_unit_row.nd rfl (by first | exact Or.inl rfl | exact Or.inr rfl))) (fun _ _ _ _ _ => pts_nil) (fun _ _ _ _ _ => (pe_ifExp (pt_cmpR op_eq (pv 2) (pv 1) (nomark _)) pe_int pe_int))) pa_nil)))), ?_⟩
  refine ⟨_, rfl, (n : Int), rfl, by omega, by omega, fun D1 hD1 => ?_⟩
  refine lcr (K := K) (n := n) (fun c => .int (if c = kk then 1 else 0)) hD1 (by omega) (fun _ _ => by simp [tupOnly]) (fun _ => rfl) ?_ ?_
  · intro c H1 Q1 hc e1 k1
    refine ⟨_, rfl, _, rfl, rfl, _, rfl, ?_⟩
    have k2 := k1 _ _ (Same.refl _) (.int _)
    by_cases h : c = kk
    · subst h
      rw [if_pos rfl] at k2
      rw [decide_eq_true (by rw [Int.zero_add])]
      exact iteT k2
    · rw [if_neg h] at k2
      rw [decide_eq_false (fun z => h (by have := V.int.inj z; omega))]
      exact iteF k2
  · intro H1 ys e1 h1 hd1
    try dsimp only [tC, tNil]
    refine tupL_dp h1 hd1 fun v2 H2 e2 hv2 => ?_
    rw [mapR_row] at hv2
    exact k _ _ (e1.trans e2) hv2
def spUnit (K : PySem.W.Frag) : Sp := fun vs H Q _ => ∃ (n : Nat), vs = [.int n] ∧ n ≤ 1000 ∧
  ∀ (y : V) (H' : Hp), Same H H' → Dp K H' y (tabD n (unitR n)) → Q y H'
theorem spUnit_len : ∀ vs H Q E, spUnit K vs H Q E → vs.length = 1 := by
  rintro vs H Q E ⟨n, rfl, _⟩
  rfl
theorem ok_unit (D : Df K mg "unit" s_unit) (B : Bn mg)
    (h_unit_row : Has P w K mg base "unit_row" 1 p_unit_row (spUnitRow K)) :
    Has P w K mg base "unit" 2 p_unit (spUnit K) := by
  refine has_of (k := 1) D sc_unit bn_unit spUnit_len ?_
  rintro f cdv A outer s0 H vs Q E hr ⟨n, rfl, hn, k⟩
  refine ⟨_, (pss_one (ps_ret (pe_tup (pa_cons (pv 0) (pa_cons (pe_callTy (call_tupleK (K := K) (by rfl)) (by rfl) B.tuple_ (by decide +kernel) (pa_cons (pe_lc (own := [("k", 1)]) rfl sc_unit.nd (pi_range1 (by rfl) B.range_ (pa_cons (pv 0) pa_nil)) (blkOk_by (own := [("k", 1)]) (N := n_unit) (sc := defScope s_unit) (by decide +kernel)) (fun _ _ _ _ _ => (pg_name (i := 1) sc_unit.nd rfl (by first | exact Or.inl rfl | exact Or.inr rfl))) (fun _ _ _ _ _ => pts_nil) (fun _ _ _ _ _ => (pe_has (h_unit_row) (hr.mono (by decide)) (by rfl) (pa_cons (pv 0) (pa_cons (pv 1) pa_nil))))) pa_nil)) pa_nil))))), ?_⟩
  refine ⟨_, rfl, _, rfl, (n : Int), rfl, by omega, by omega, fun D1 hD1 => ?_⟩
  refine lcr (K := K) (n := n) (fun c => rowD (unitRow n c)) hD1 (by omega) (fun _ _ => rowD_tup _) (fun _ => rfl) ?_ ?_
  · intro c H1 Q1 hc e1 k1
    refine ⟨_, rfl, _, rfl, n, c, ?_, hn, fun y H2 e2 hy => k1 y H2 e2 hy⟩
    rw [Int.zero_add]
    rfl
  · intro H1 ys e1 h1 hd1
    try dsimp only [tC, tNil]
    refine tupL_dp h1 hd1 fun v2 H2 e2 hv2 => ?_
    rw [mapR_rows] at hv2
    try dsimp only [tC, tNil]
    refine tup_dp (K := K) (.cons (.int _) (.cons hv2 .nil)) (by simp) fun v3 H3 e3 hv3 => ?_
    exact k _ _ ((e1.trans e2).trans e3) hv3

def spDTable (K : PySem.W.Frag) : Sp := fun vs H Q _ => ∃ (u : V) (m c : Nat) (ds : List Deed),
  vs = [.int m, u] ∧ Dp K H u (deedsD ds) ∧ m ≤ 1000 ∧ 1 ≤ c ∧ (∀ d ∈ ds, OkD m (c : Int) d) ∧ 1 * (c + 1) ^ ds.length < 2 ^ 4000 ∧ c < 2 ^ 4000 ∧
  ∀ y H', Same H H' → Dp K H' y (tabD m (allD (unitR m) ds)) → Q y H'
theorem unitR_len (n : Nat) : (unitR n).length = n := by simp [unitR]
theorem unitR_wide {n : Nat} : ∀ r ∈ unitR n, r.length = n := by
  intro r hr
  obtain ⟨k, _, rfl⟩ := List.mem_map.mp hr
  simp [unitRow]
theorem ok_deeds_table (D : Df K mg "deeds_table" s_deeds_table) (B : Bn mg) (h_done : Has P w K mg base "done" 6 p_done (spDone K)) (h_unit : Has P w K mg base "unit" 2 p_unit (spUnit K)) :
    Has P w K mg base "deeds_table" 7 p_deeds_table (spDTable K) := by
  refine has_of (k := 6) D sc_deeds_table bn_deeds_table ?_ ?_
  · rintro vs H Q E ⟨u, m, c, ds, rfl, _⟩
    rfl
  rintro f cdv A outer s0 H vs Q E hr ⟨u, m, c, ds, rfl, hu, hm, hc, ok, hbig, hcb, k⟩
  refine ⟨_, (pss_one (ps_ret (pe_has (h_done) (hr.mono (by decide)) (by rfl) (pa_cons (pe_has (h_unit) (hr.mono (by decide)) (by rfl) (pa_cons (pv 0) pa_nil)) (pa_cons (pv 1) pa_nil))))), ?_⟩
  refine ⟨_, rfl, m, rfl, hm, fun y H1 e1 hy => ?_⟩
  refine ⟨_, rfl, y, u, m, 1, c, unitR m, ds, rfl, hy, Dp.same e1 _ _ hu, unitR_wide, hm, ?_, bs_unit, hc, ?_, hbig, hcb, fun z H2 e2 hz => k _ _ (e1.trans e2) hz⟩
  · rw [unitR_len]
    exact hm
  · rw [unitR_len]
    exact ok
def spCon (K : PySem.W.Frag) : Sp := fun vs H Q _ => ∃ (v : V) (d : Deed), vs = [v] ∧ Dp K H v (deedD d) ∧ ∀ y H', Same H H' → Dp K H' y (deedD (conD d)) → Q y H'
theorem ok_contrary_deed (D : Df K mg "contrary_deed" s_contrary_deed) (B : Bn mg) : Has P w K mg base "contrary_deed" 1 p_contrary_deed (spCon K) := by
  refine has_of (k := 0) D sc_contrary_deed bn_contrary_deed ?_ ?_
  · rintro vs H Q E ⟨v, d, rfl, _⟩
    rfl
  rintro f cdv A outer s0 H vs Q E hr ⟨v, d, rfl, hd, k⟩
  refine ⟨_, (pss_cons (ps_if (pt_cmpR op_eq (pe_ix (ix_tupK (K := K) (by rfl)) (pv 0) pe_int (fun _ _ => rfl)) pe_str (nomark _)) (pss_cons (ps_asg (pv 0) (pg_tupK (K := K) (n := 4) (by rfl) (by rfl) (pgs_cons (pg_name (i := 1) sc_contrary_deed.nd rfl (by first | exact Or.inl rfl | exact Or.inr rfl)) (pgs_cons (pg_name (i := 2) sc_contrary_deed.nd rfl (by first | exact Or.inl rfl | exact Or.inr rfl)) (pgs_cons (pg_name (i := 3) sc_contrary_deed.nd rfl (by first | exact Or.inl rfl | exact Or.inr rfl)) (pgs_cons (pg_name (i := 4) sc_contrary_deed.nd rfl (by first | exact Or.inl rfl | exact Or.inr rfl)) pgs_nil))))))
      (pss_one (ps_ret (pe_tup (pa_cons (pv 1) (pa_cons (pv 2) (pa_cons (pv 3) (pa_cons (pe_un un_neg (pv 4)) pa_nil)))))))) pss_nil)
      (pss_one (ps_ret (pv 0)))), ?_⟩
  cases d with
  | swap i j =>
    obtain ⟨a, xs, rfl, hs, ha⟩ := dp_tup hd
    obtain ⟨x0, t0, rfl, q0, ha⟩ := dpa_cons ha
    obtain ⟨x1, t1, rfl, q1, ha⟩ := dpa_cons ha
    obtain ⟨x2, t2, rfl, q2, ha⟩ := dpa_cons ha
    rw [dpa_nil ha] at hs
    cases q0
    refine ⟨_, rfl, a, _, 0, _, rfl, rfl, hs, rfl, rfl, _, rfl, ?_⟩
    rw [str_ne (by decide +kernel)]
    exact iteF ⟨_, rfl, k _ _ (Same.refl _) hd⟩
  | turn i =>
    obtain ⟨a, xs, rfl, hs, ha⟩ := dp_tup hd
    obtain ⟨x0, t0, rfl, q0, ha⟩ := dpa_cons ha
    obtain ⟨x1, t1, rfl, q1, ha⟩ := dpa_cons ha
    rw [dpa_nil ha] at hs
    cases q0
    refine ⟨_, rfl, a, _, 0, _, rfl, rfl, hs, rfl, rfl, _, rfl, ?_⟩
    rw [str_ne (by decide +kernel)]
    exact iteF ⟨_, rfl, k _ _ (Same.refl _) hd⟩
  | add i j n =>
    obtain ⟨a, xs, rfl, hs, ha⟩ := dp_tup hd
    obtain ⟨x0, t0, rfl, q0, ha⟩ := dpa_cons ha
    obtain ⟨x1, t1, rfl, q1, ha⟩ := dpa_cons ha
    obtain ⟨x2, t2, rfl, q2, ha⟩ := dpa_cons ha
    obtain ⟨x3, t3, rfl, q3, ha⟩ := dpa_cons ha
    rw [dpa_nil ha] at hs
    cases q0
    cases q1
    cases q2
    cases q3
    refine ⟨_, rfl, a, _, 0, _, rfl, rfl, hs, rfl, rfl, _, rfl, ?_⟩
    rw [decide_eq_true (rfl : V.str _ = V.str _)]
    refine iteT ?_
    refine ⟨_, rfl, a, _, rfl, hs, rfl, _, _, rfl, _, _, rfl, _, _, rfl, _, _, rfl, rfl, ?_⟩
    refine ⟨_, rfl, _, rfl, _, rfl, _, rfl, _, rfl, by show 4 ≤ sizeLine; decide, fun p np => ?_⟩
    exact k _ _ (Same.new np) (.tup (SqT.of upd_same) (.cons (.str _) (.cons (.int _) (.cons (.int _) (.cons (.int _) .nil)))))
def spBack (K : PySem.W.Frag) : Sp := fun vs H Q _ => ∃ (v : V) (ds : List Deed), vs = [v] ∧ Dp K H v (deedsD ds) ∧ ds.length ≤ 1000 ∧ ∀ y H', Same H H' → Dp K H' y (deedsD (backD ds)) → Q y H'
theorem ok_led_back (D : Df K mg "led_back" s_led_back) (B : Bn mg) (h_contrary_deed : Has P w K mg base "contrary_deed" 1 p_contrary_deed (spCon K)) :
    Has P w K mg base "led_back" 2 p_led_back (spBack K) := by
  refine has_of (k := 1) D sc_led_back bn_led_back ?_ ?_
  · rintro vs H Q E ⟨v, ds, rfl, _⟩
    rfl
  rintro f cdv A outer s0 H vs Q E hr ⟨v, ds, rfl, hd, hl, k⟩
  obtain ⟨pd, xd, rfl, hxd, hda⟩ := dp_tup hd
  have hld : xd.length = ds.length := by rw [dpa_len _ _ hda, List.length_map]
  refine ⟨_, (pss_one (ps_ret (pe_callTy (call_tupleK (K := K) (by rfl)) (by rfl) B.tuple_ (by decide +kernel) (pa_cons (pe_lc (own := [("deed", 1)]) rfl sc_led_back.nd (pi_revK (K := K) (by rfl) (by rfl) B.reversed_ (pv 0)) (blkOk_by (own := [("deed", 1)]) (N := n_led_back) (sc := defScope s_led_back) (by decide +kernel)) (fun _ _ _ _ _ => (pg_name (i := 1) sc_led_back.nd rfl (by first | exact Or.inl rfl | exact Or.inr rfl))) (fun _ _ _ _ _ => pts_nil) (fun _ _ _ _ _ => (pe_has (h_contrary_deed) (hr.mono (by decide)) (by rfl) (pa_cons (pv 1) pa_nil)))) pa_nil)))), ?_⟩
  refine ⟨_, rfl, pd, xd, rfl, .inr ⟨hxd, fun D1 hD1 => ?_⟩⟩
  refine lctR (K := K) (fun i => deedD (conD (ds.getD (ds.length - 1 - i) (.turn 0)))) hD1 hxd (by omega) (fun _ _ => deedD_tup _) (fun _ => rfl) ?_ ?_
  · intro i x H1 Q1 hi hx e1 k1
    obtain ⟨dt, hd1, hd2⟩ := dpa_get _ _ _ x (DpAll.same e1 _ _ hda) hx
    rw [List.getElem?_map] at hd1
    cases q : ds[xd.length - 1 - i]? with
    | none => rw [q] at hd1; cases hd1
    | some dd =>
      rw [q] at hd1
      cases hd1
      refine ⟨_, rfl, x, dd, rfl, hd2, fun y H2 e2 hy => k1 y H2 e2 ?_⟩
      rw [← hld, deed_at q]
      exact hy
  · intro H1 ys e1 h1 hd1
    rw [hld, backD_range] at hd1
    try dsimp only [tC, tNil]
    refine tupL_dp h1 hd1 fun v2 H2 e2 hv2 => ?_
    exact k _ _ (e1.trans e2) hv2

theorem allD_app (rs : List (List Int)) (ds es : List Deed) : allD rs (ds ++ es) = allD (allD rs ds) es := by
  unfold allD
  rw [List.foldl_append]
theorem backD_app (ds es : List Deed) : backD (ds ++ es) = backD es ++ backD ds := by
  unfold backD
  rw [List.reverse_append, List.map_append]
theorem allD_mul {ts : List (List Int)} {n w m : Nat} {b : Int} : ∀ (ds : List Deed) (as : List (List Int)), (∀ r ∈ as, r.length = n) → as.length = m → (∀ d ∈ ds, OkD m b d) →
    mulR (allD as ds) w ts = allD (mulR as w ts) ds
  | [], as, _, _, _ => rfl
  | d :: ds, as, h1, h2, h3 => by
    have hd := h3 d (List.mem_cons_self ..)
    have := allD_mul (ts := ts) (n := n) (w := w) (m := m) (b := b) ds (stepD as d) (stepD_wide h1 h2 hd) (by rw [stepD_len]; exact h2) (fun x hx => h3 x (List.mem_cons_of_mem _ hx))
    rw [stepD_mul h1 h2 hd] at this
    exact this
theorem deeds_mul {ts : List (List Int)} {w m : Nat} {b : Int} {ds : List Deed} (hT : Tb w ts) (hm : ts.length = m) (h : ∀ d ∈ ds, OkD m b d) :
    mulR (allD (unitR m) ds) w ts = allD ts ds := by
  rw [allD_mul ds (unitR m) unitR_wide (unitR_len m) h, ← hm, unit_mul hT]
theorem allD_back {m : Nat} {b : Int} : ∀ (ds : List Deed) (rs : List (List Int)), rs.length = m → (∀ d ∈ ds, OkD m b d) → allD (allD rs ds) (backD ds) = rs
  | [], rs, _, _ => rfl
  | d :: ds, rs, h1, h2 => by
    have hd := h2 d (List.mem_cons_self ..)
    have ih := allD_back ds (stepD rs d) (by rw [stepD_len]; exact h1) (fun x hx => h2 x (List.mem_cons_of_mem _ hx))
    have e : backD (d :: ds) = backD ds ++ [conD d] := by simp [backD]
    rw [e, allD_app]
    show allD (allD (allD (stepD rs d) ds) (backD ds)) [conD d] = rs
    rw [ih]
    exact stepD_con h1 hd
theorem allD_forth {m : Nat} {b : Int} (ds : List Deed) (rs : List (List Int)) (h1 : rs.length = m) (h2 : ∀ d ∈ ds, OkD m b d) : allD (allD rs (backD ds)) ds = rs := by
  have := allD_back (backD ds) rs h1 (backD_ok h2)
  rw [backD_back] at this
  exact this
theorem allD_len {rs : List (List Int)} : ∀ ds : List Deed, (allD rs ds).length = rs.length := by
  intro ds
  induction ds generalizing rs with
  | nil => rfl
  | cons d ds ih =>
    show (allD (stepD rs d) ds).length = rs.length
    rw [ih, stepD_len]
theorem allD_tb {rs : List (List Int)} {w m : Nat} {b : Int} {ds : List Deed} (hT : Tb w rs) (hm : rs.length = m) (h : ∀ d ∈ ds, OkD m b d) : Tb w (allD rs ds) := by
  refine ⟨by rw [allD_len]; exact hT.1, hT.2.1, ?_⟩
  have key : ∀ (ds : List Deed) (rs : List (List Int)), rs.length = m → (∀ r ∈ rs, r.length = w) → (∀ d ∈ ds, OkD m b d) → ∀ r ∈ allD rs ds, r.length = w := by
    intro ds
    induction ds with
    | nil => exact fun rs _ h _ => h
    | cons d ds ih =>
      intro rs h1 h2 h3
      exact ih (stepD rs d) (by rw [stepD_len]; exact h1) (stepD_wide h2 h1 (h3 d (List.mem_cons_self ..))) (fun x hx => h3 x (List.mem_cons_of_mem _ hx))
  exact key ds rs hm hT.2.2 h
/-- one led there, the other led back: the unit -/
theorem there_back {m : Nat} {b : Int} {ds : List Deed} (hm : m ≤ 1000) (h : ∀ d ∈ ds, OkD m b d) :
    mulR (allD (unitR m) ds) m (allD (unitR m) (backD ds)) = unitR m := by
  rw [deeds_mul (allD_tb (unit_tb hm) (unitR_len m) (backD_ok h)) (by rw [allD_len, unitR_len]) h]
  exact allD_forth ds _ (unitR_len m) h
theorem back_there {m : Nat} {b : Int} {ds : List Deed} (hm : m ≤ 1000) (h : ∀ d ∈ ds, OkD m b d) :
    mulR (allD (unitR m) (backD ds)) m (allD (unitR m) ds) = unitR m := by
  have := there_back (ds := backD ds) hm (backD_ok h)
  rw [backD_back] at this
  exact this
theorem both_mul {m : Nat} {b : Int} {ds es : List Deed} (hm : m ≤ 1000) (h : ∀ d ∈ ds, OkD m b d) (h2 : ∀ d ∈ es, OkD m b d) :
    mulR (allD (unitR m) es) m (allD (unitR m) ds) = allD (unitR m) (ds ++ es) := by
  rw [deeds_mul (allD_tb (unit_tb hm) (unitR_len m) h) (by rw [allD_len, unitR_len]) h2, allD_app]
theorem further_mul {m : Nat} {b : Int} {ds : List Deed} {d : Deed} (hm : m ≤ 1000) (h : ∀ d ∈ ds, OkD m b d) (hd : OkD m b d) :
    mulR (stepD (allD (unitR m) ds) d) m (allD (unitR m) (backD ds)) = stepD (unitR m) d := by
  rw [stepD_mul (allD_tb (unit_tb hm) (unitR_len m) h).2.2 (by rw [allD_len, unitR_len]) hd, there_back hm h]
theorem mul_further {m : Nat} {b : Int} {ds : List Deed} {d : Deed} (hm : m ≤ 1000) (h : ∀ d ∈ ds, OkD m b d) (hd : OkD m b d) (hne : stepD (unitR m) d ≠ unitR m) :
    mulR (allD (unitR m) (backD ds)) m (stepD (allD (unitR m) ds) d) ≠ unitR m := by
  have t1 := allD_tb (unit_tb hm) (unitR_len m) h
  have l1 : (allD (unitR m) ds).length = m := by rw [allD_len, unitR_len]
  have t2 : Tb m (stepD (allD (unitR m) ds) d) := ⟨by rw [stepD_len]; exact t1.1, hm, stepD_wide t1.2.2 l1 hd⟩
  have l2 : (stepD (allD (unitR m) ds) d).length = m := by rw [stepD_len]; exact l1
  rw [deeds_mul t2 l2 (backD_ok h)]
  intro e
  have e2 := allD_forth ds (stepD (allD (unitR m) ds) d) l2 h
  rw [e] at e2
  have e3 := further_mul hm h hd
  rw [← e2, there_back hm h] at e3
  exact hne e3.symm
theorem cols_mul {rs : List (List Int)} {w m : Nat} {b : Int} {ds : List Deed} (hT : Tb w rs) (hm : rs.length = m) (h : ∀ d ∈ ds, OkD w b d) :
    turnR m (allD (turnR w rs) ds) = mulR rs w (turnR w (allD (unitR w) ds)) := by
  subst hm
  have hu := allD_tb (unit_tb hT.2.1) (unitR_len w) h
  have hl : (allD (unitR w) ds).length = w := by rw [allD_len, unitR_len]
  rw [← deeds_mul (turn_tb hT.1 hT.2.1) turn_len h, turn_mul hu turn_len.symm, turn_turn hT, hl]

def spRowTimes (K : PySem.W.Frag) : Sp := fun vs H Q _ => ∃ (v u : V) (r : List Int) (w : Nat) (rs : List (List Int)),
  vs = [v, u] ∧ Dp K H v (rowD r) ∧ Dp K H u (tabD w rs) ∧ Tb w rs ∧ r.length = rs.length ∧ Wd r ∧ (∀ t ∈ rs, Wd t) ∧
  ∀ (y : V) (H' : Hp), Same H H' → Dp K H' y (rowD (mulRow r w rs)) → Q y H'
theorem spRowTimes_len : ∀ vs H Q E, spRowTimes K vs H Q E → vs.length = 2 := by
  rintro vs H Q E ⟨v, u, r, w, rs, rfl, _⟩
  rfl
theorem ok_row_times (D : Df K mg "row_times" s_row_times) (B : Bn mg) :
    Has P w K mg base "row_times" 1 p_row_times (spRowTimes K) := by
  refine has_of (k := 0) D sc_row_times bn_row_times spRowTimes_len ?_
  rintro f cdv A outer s0 H vs Q E hr ⟨v, u, r, wd, rs, rfl, hv, hu, hT, hl, hs, hts, k⟩
  obtain ⟨pv', rfl, hrow⟩ := dp_row hv
  obtain ⟨pt, ur, rfl, htab, hrows⟩ := dp_tab hu
  obtain ⟨pr, xs, rfl, hxs, hall, hlen⟩ := dp_rows hrows
  have hT' := hT
  obtain ⟨t1, t2, t3⟩ := hT'
  refine ⟨_, (pss_cons (ps_asg (pv 1) (pg_tupK (K := K) (n := 2) (by rfl) (by rfl) (pgs_cons (pg_name (i := 2) sc_row_times.nd rfl (by first | exact Or.inl rfl | exact Or.inr rfl)) (pgs_cons (pg_name (i := 3) sc_row_times.nd rfl (by first | exact Or.inl rfl | exact Or.inr rfl)) pgs_nil))))
      (pss_one (ps_ret (pe_callTy (call_tupleK (K := K) (by rfl)) (by rfl) B.tuple_ (by decide +kernel) (pa_cons (pe_lc (own := [("k", 4)]) rfl sc_row_times.nd (pi_range1 (by rfl) B.range_ (pa_cons (pv 2) pa_nil)) (blkOk_by (own := [("k", 4)]) (N := n_row_times) (sc := defScope s_row_times) (by decide +kernel)) (fun _ _ _ _ _ => (pg_name (i := 4) sc_row_times.nd rfl (by first | exact Or.inl rfl | exact Or.inr rfl))) (fun _ _ _ _ _ => pts_nil) (fun _ _ _ _ _ => (pe_callB (call_sumK (K := K) (by rfl) (by rfl)) (by rfl) B.sum_ (by decide +kernel) (pa_cons (pe_lc (own := [("number", 5), ("other", 6)]) rfl sc_row_times.nd (pi_zipK (K := K) (by rfl) (by rfl) B.zip_ (pa_cons (pv 0) (pa_cons (pv 3) pa_nil))) (blkOk_by (own := [("number", 5), ("other", 6)]) (N := n_row_times) (sc := { kind := PySem.ScopeKind.function, names := [ (PySem.Str.ofString ".0", PySem.NameKind.local), (PySem.Str.ofString "k", PySem.NameKind.cell), (PySem.Str.ofString "sum", PySem.NameKind.globalImplicit), (PySem.Str.ofString "zip", PySem.NameKind.globalImplicit), (PySem.Str.ofString "row", PySem.NameKind.cell), (PySem.Str.ofString "rows", PySem.NameKind.cell)], isGenerator := false, isCoroutine := false, more := [] : PySem.Scope }) (by decide +kernel)) (fun _ _ _ _ _ => (pg_tupK (K := K) (n := 2) (by rfl) (by rfl) (pgs_cons (pg_name (i := 5) sc_row_times.nd rfl (by first | exact Or.inl rfl | exact Or.inr rfl)) (pgs_cons (pg_name (i := 6) sc_row_times.nd rfl (by first | exact Or.inl rfl | exact Or.inr rfl)) pgs_nil)))) (fun _ _ _ _ _ => pts_nil) (fun _ _ _ _ _ => (pe_op op_mulW (pv 5) (pe_ix (ix_tupK (K := K) (by rfl)) (pv 6) (pv 4) (fun _ _ => rfl))))) pa_nil)))) pa_nil))))), ?_⟩
  refine ⟨_, rfl, pt, _, rfl, htab, rfl, _, _, rfl, _, _, rfl, rfl, ?_⟩
  refine ⟨_, rfl, (wd : Int), rfl, by omega, by omega, fun D1 hD1 => ?_⟩
  refine lcr (K := K) (n := wd) (fun c => .int (((List.range r.length).map fun i => r.getD i 0 * ent rs i c).sum)) hD1 (by omega)
    (fun _ _ => by simp [tupOnly]) (fun _ => rfl) ?_ ?_
  · intro c H1 Q1 hc e1 k1
    refine ⟨_, rfl, _, rfl, pv', pr, _, _, rfl, .inr ⟨sqt_same e1 hrow, sqt_same e1 hxs, fun D2 hD2 => ?_⟩⟩
    refine lcz (K := K) (j1 := 5) (j2 := 6) (fun i => .int (r.getD i 0 * ent rs i c)) hD2 (by rw [List.length_map, hlen, hl]) (sqt_same e1 hrow) (sqt_same e1 hxs)
      (by rw [List.length_map]; omega) (fun _ _ => by simp [tupOnly]) (fun _ _ => rfl) (fun T x y H2 R h2 r2 => ⟨T, _, rfl, SqT.of h2, rfl, _, _, rfl, _, _, rfl, rfl, r2⟩) ?_ ?_
    · intro i x y H2 Q2 hx hy e2 k2
      obtain ⟨hi, rfl⟩ := row_get hx
      obtain ⟨hi2, py, rfl, hpy⟩ := rows_lt (DpAll.same (e1.trans e2) _ _ hall) hy
      have hlc : c < (rs.getD i []).length := by rw [hT.len hi2]; exact hc
      refine ⟨_, rfl, _, rfl, _, rfl, py, _, _, _, rfl, rfl, hpy, at_row0 hlc, _, _, rfl, rfl, wide_mul (hs.at i) (Wd.at (hts _ (Gd.getD_mem hi2)) c) (by decide) (by decide) (by decide), ?_⟩
      exact k2 _ _ (Same.refl _) (.int _)
    · intro H3 ys e3 h3 hd3
      rw [List.length_map] at hd3
      have ey := intsR hd3
      subst ey
      exact ⟨D2, _, rfl, SqL.of h3, k1 _ _ e3 (.int _)⟩
  · intro H1 ys e1 h1 hd1
    refine ⟨D1, ys, rfl, .inl ⟨SqL.of h1, fun p np => ?_⟩⟩
    have e2 := Same.new (o := .tup ys) np
    exact k _ _ (e1.trans e2) (mk_rowR (SqT.of upd_same) (DpAll.same e2 _ _ hd1))
def spTimes (K : PySem.W.Frag) : Sp := fun vs H Q _ => ∃ (v u : V) (w : Nat) (rs : List (List Int)) (w' : Nat) (ts : List (List Int)),
  vs = [v, u] ∧ Dp K H v (tabD w rs) ∧ Dp K H u (tabD w' ts) ∧ Tb w rs ∧ Tb w' ts ∧ w = ts.length ∧ (∀ r ∈ rs, Wd r) ∧ (∀ t ∈ ts, Wd t) ∧
  ∀ (y : V) (H' : Hp), Same H H' → Dp K H' y (tabD w' (mulR rs w' ts)) → Q y H'
theorem ok_times (D : Df K mg "times" s_times) (B : Bn mg)
    (h_row_times : Has P w K mg base "row_times" 1 p_row_times (spRowTimes K)) :
    Has P w K mg base "times" 2 p_times (spTimes K) := by
  refine has_of (k := 1) D sc_times bn_times ?_ ?_
  · rintro vs H Q E ⟨v, u, w, rs, w', ts, rfl, _⟩
    rfl
  rintro f cdv A outer s0 H vs Q E hr ⟨v, u, wd, rs, w', ts, rfl, hv, hu, hT, hT', hw, hs, hts, k⟩
  obtain ⟨a, ur, rfl, htab, hrows⟩ := dp_tab hv
  obtain ⟨pr, xs, rfl, hxs, hall, hlen⟩ := dp_rows hrows
  refine ⟨_, (pss_one (ps_ret (pe_tup (pa_cons (pe_ix (ix_tupK (K := K) (by rfl)) (pv 1) pe_int (fun _ _ => rfl)) (pa_cons (pe_callTy (call_tupleK (K := K) (by rfl)) (by rfl) B.tuple_ (by decide +kernel) (pa_cons (pe_lc (own := [("row", 2)]) rfl sc_times.nd (pi_tupK (K := K) (by rfl) (pe_ix (ix_tupK (K := K) (by rfl)) (pv 0) pe_int (fun _ _ => rfl))) (blkOk_by (own := [("row", 2)]) (N := n_times) (sc := defScope s_times) (by decide +kernel)) (fun _ _ _ _ _ => (pg_name (i := 2) sc_times.nd rfl (by first | exact Or.inl rfl | exact Or.inr rfl))) (fun _ _ _ _ _ => pts_nil) (fun _ _ _ _ _ => (pe_has (h_row_times) (hr.mono (by decide)) (by rfl) (pa_cons (pv 2) (pa_cons (pv 1) pa_nil))))) pa_nil)) pa_nil))))), ?_⟩
  refine ⟨_, rfl, ?_⟩
  try dsimp only [tC, tNil]
  refine ix_dp (i := 0) hu rfl fun z hz => ?_
  have ez := dp_int hz
  subst ez
  refine ⟨_, rfl, a, _, 1, _, rfl, rfl, htab, rfl, pr, rfl, ⟨_, hxs⟩, fun D1 hD1 => ?_⟩
  refine lct (K := K) (j := 2) (fun i => rowD (mulRow (rs.getD i []) w' ts)) hD1 hxs (by have := hT.1; omega) (fun _ _ => rowD_tup _) (fun _ => rfl) ?_ ?_
  · intro i x H1 Q1 hx e1 k1
    have hall1 := DpAll.same e1 _ _ hall
    obtain ⟨hi, hdx⟩ := rows_at hall1 hx
    have hlt := (List.getElem?_eq_some_iff.mp hi).1
    refine ⟨_, rfl, _, rfl, x, u, _, w', ts, rfl, hdx, Dp.same e1 _ _ hu, hT', ?_, hs _ (Gd.getD_mem hlt), hts, fun y H2 e2 hy => k1 y H2 e2 hy⟩
    rw [hT.len hlt]
    exact hw
  · intro H1 ys e1 h1 hd1
    rw [hlen] at hd1
    try dsimp only [tC, tNil]
    refine tupL_dp h1 hd1 fun v2 H2 e2 hv2 => ?_
    rw [mapR_rows] at hv2
    try dsimp only [tC, tNil]
    refine tup_dp (K := K) (.cons (.int _) (.cons hv2 .nil)) (by simp) fun v3 H3 e3 hv3 => ?_
    exact k _ _ ((e1.trans e2).trans e3) hv3

def spTurn (K : PySem.W.Frag) : Sp := fun vs H Q _ => ∃ (v : V) (w : Nat) (rs : List (List Int)),
  vs = [v] ∧ Dp K H v (tabD w rs) ∧ Tb w rs ∧
  ∀ (y : V) (H' : Hp), Same H H' → Dp K H' y (tabD rs.length (turnR w rs)) → Q y H'
theorem spTurn_len : ∀ vs H Q E, spTurn K vs H Q E → vs.length = 1 := by
  rintro vs H Q E ⟨v, w, rs, rfl, _⟩
  rfl
theorem ok_turned_over (D : Df K mg "turned_over" s_turned_over) (B : Bn mg) :
    Has P w K mg base "turned_over" 1 p_turned_over (spTurn K) := by
  refine has_of (k := 0) D sc_turned_over bn_turned_over spTurn_len ?_
  rintro f cdv A outer s0 H vs Q E hr ⟨v, wd, rs, rfl, hv, hT, k⟩
  obtain ⟨a, ur, rfl, htab, hrows⟩ := dp_tab hv
  obtain ⟨pr, xs, rfl, hxs, hall, hlen⟩ := dp_rows hrows
  have hT' := hT
  obtain ⟨t1, t2, t3⟩ := hT'
  refine ⟨_, (pss_cons (ps_asg (pv 0) (pg_tupK (K := K) (n := 2) (by rfl) (by rfl) (pgs_cons (pg_name (i := 1) sc_turned_over.nd rfl (by first | exact Or.inl rfl | exact Or.inr rfl)) (pgs_cons (pg_name (i := 2) sc_turned_over.nd rfl (by first | exact Or.inl rfl | exact Or.inr rfl)) pgs_nil))))
      (pss_one (ps_ret (pe_tup (pa_cons (pe_callB (call_lenK (K := K) (by rfl)) (by rfl) B.len_ (by decide +kernel) (pa_cons (pv 2) pa_nil)) (pa_cons (pe_callTy (call_tupleK (K := K) (by rfl)) (by rfl) B.tuple_ (by decide +kernel) (pa_cons (pe_lc (own := [("k", 3)]) rfl sc_turned_over.nd (pi_range1 (by rfl) B.range_ (pa_cons (pv 1) pa_nil)) (blkOk_by (own := [("k", 3)]) (N := n_turned_over) (sc := defScope s_turned_over) (by decide +kernel)) (fun _ _ _ _ _ => (pg_name (i := 3) sc_turned_over.nd rfl (by first | exact Or.inl rfl | exact Or.inr rfl))) (fun _ _ _ _ _ => pts_nil) (fun _ _ _ _ _ => (pe_callTy (call_tupleK (K := K) (by rfl)) (by rfl) B.tuple_ (by decide +kernel) (pa_cons (pe_lc (own := [("row", 4)]) rfl sc_turned_over.nd (pi_tupK (K := K) (by rfl) (pv 2)) (blkOk_by (own := [("row", 4)]) (N := n_turned_over) (sc := { kind := PySem.ScopeKind.function, names := [ (PySem.Str.ofString ".0", PySem.NameKind.local), (PySem.Str.ofString "k", PySem.NameKind.cell), (PySem.Str.ofString "tuple", PySem.NameKind.globalImplicit), (PySem.Str.ofString "rows", PySem.NameKind.cell)], isGenerator := false, isCoroutine := false, more := [] : PySem.Scope }) (by decide +kernel)) (fun _ _ _ _ _ => (pg_name (i := 4) sc_turned_over.nd rfl (by first | exact Or.inl rfl | exact Or.inr rfl))) (fun _ _ _ _ _ => pts_nil) (fun _ _ _ _ _ => (pe_ix (ix_tupK (K := K) (by rfl)) (pv 4) (pv 3) (fun _ _ => rfl)))) pa_nil)))) pa_nil)) pa_nil)))))), ?_⟩
  refine ⟨_, rfl, a, _, rfl, htab, rfl, _, _, rfl, _, _, rfl, rfl, ?_⟩
  refine ⟨_, rfl, pr, _, rfl, .inr hxs, ?_⟩
  rw [hlen]
  refine ⟨_, rfl, (wd : Int), rfl, by omega, by omega, fun D1 hD1 => ?_⟩
  refine lcr (K := K) (n := wd) (fun c => rowD ((List.range rs.length).map fun i => ent rs i c)) hD1 (by omega) (fun _ _ => rowD_tup _) (fun _ => rfl) ?_ ?_
  · intro c H1 Q1 hc e1 k1
    have hxs1 := sqt_same e1 hxs
    refine ⟨_, rfl, pr, rfl, ⟨_, hxs1⟩, fun D2 hD2 => ?_⟩
    refine lct (K := K) (j := 4) (fun i => .int (ent rs i c)) hD2 hxs1 (by omega) (fun _ _ => by simp [tupOnly]) (fun _ => rfl) ?_ ?_
    · intro i x H2 Q2 hx e2 k2
      obtain ⟨hi, p, rfl, hp⟩ := rows_lt (DpAll.same (e1.trans e2) _ _ hall) hx
      have hlc : c < (rs.getD i []).length := by rw [hT.len hi]; exact hc
      exact ⟨_, rfl, _, rfl, p, _, _, _, rfl, rfl, hp, at_row0 hlc, k2 _ _ (Same.refl _) (.int _)⟩
    · intro H3 ys e3 h3 hd3
      rw [hlen] at hd3
      try dsimp only [tC, tNil]
      refine tupL_dp h3 hd3 fun v2 H2 e2 hv2 => ?_
      rw [mapR_row] at hv2
      exact k1 _ _ (e3.trans e2) hv2
  · intro H1 ys e1 h1 hd1
    try dsimp only [tC, tNil]
    refine tupL_dp h1 hd1 fun v2 H2 e2 hv2 => ?_
    rw [mapR_rows] at hv2
    try dsimp only [tC, tNil]
    refine tup_dp (K := K) (.cons (.int _) (.cons hv2 .nil)) (by simp) fun v3 H3 e3 hv3 => ?_
    exact k _ _ ((e1.trans e2).trans e3) hv3

theorem dpa_bls {K : PySem.W.Frag} {H : Hp} : ∀ (bs : List Bool) (xs : List V), DpAll K H xs (bs.map PyData.bool) → xs = bs.map V.bl
  | [], xs, h => dpa_nil h
  | b :: bs, xs, h => by
    obtain ⟨v, vs, rfl, h1, h2⟩ := dpa_cons h
    cases h1
    rw [dpa_bls bs vs h2]
    rfl
theorem blsT {K : PySem.W.Frag} {H : Hp} {ys : List V} {n : Nat} (h : DpAll K H ys ((List.range n).map fun _ => PyData.bool true)) : ys = ((List.range n).map fun _ => true).map V.bl := by
  refine dpa_bls (K := K) (H := H) _ _ ?_
  rw [List.map_map]
  exact h
theorem all_true {n : Nat} : ((List.range n).map fun _ => true).all id = true := by
  rw [List.all_eq_true]
  intro b hb
  obtain ⟨_, _, rfl⟩ := List.mem_map.mp hb
  rfl
def spIsRow (K : PySem.W.Frag) : Sp := fun vs H Q _ => ∃ (n : Nat) (v : V) (r : List Int), vs = [.int n, v] ∧ Dp K H v (rowD r) ∧ r.length = n ∧ n ≤ 1000 ∧ ∀ H', Same H H' → Q (.bl true) H'
theorem ok_is_row (D : Df K mg "is_row" s_is_row) (B : Bn mg) (h_is_number : Has P w K mg base "is_number" 1 p_is_number spIsNum) :
    Has P w K mg base "is_row" 2 p_is_row (spIsRow K) := by
  refine has_of (k := 1) D sc_is_row bn_is_row ?_ ?_
  · rintro vs H Q E ⟨n, v, r, rfl, _⟩
    rfl
  rintro f cdv A outer s0 H vs Q E hr ⟨n, v, r, rfl, hv, hl, hn, k⟩
  obtain ⟨a, rfl, hs⟩ := dp_row hv
  refine ⟨_, (Evl.pss_cut (ps_if (PW.pt (pw_or (pt_not (pt_val (pe_callB (call_isiK (K := K) (by rfl)) (by rfl) B.isinstance_ (by decide +kernel) (pa_cons (pv 1) (pa_cons (pe_bltn (v := .ty "tuple") (u := .type "tuple") (by rfl) B.tuple_ (by decide +kernel) rfl) pa_nil))))) (pw_or1 (pt_cmpR op_ne (pe_callB (call_lenK (K := K) (by rfl)) (by rfl) B.len_ (by decide +kernel) (pa_cons (pv 1) pa_nil)) (pv 0) (nomark _))))) (pss_one (ps_ret pe_bl)) pss_nil)
      (pss_one (ps_ret (pe_callB (call_allK (K := K) (by rfl) (by rfl)) (by rfl) B.all_ (by decide +kernel) (pa_cons (pe_lc (own := [("number", 2)]) rfl sc_is_row.nd (pi_tupK (K := K) (by rfl) (pv 1)) (blkOk_by (own := [("number", 2)]) (N := n_is_row) (sc := defScope s_is_row) (by decide +kernel)) (fun _ _ _ _ _ => (pg_name (i := 2) sc_is_row.nd rfl (by first | exact Or.inl rfl | exact Or.inr rfl))) (fun _ _ _ _ _ => pts_nil) (fun _ _ _ _ _ => (pe_has (h_is_number) (hr.mono (by decide)) (by rfl) (pa_cons (pv 2) pa_nil)))) pa_nil))))), ?_⟩
  refine ⟨fun σ' H' => H' = H ∧ σ' = [some (.int n), some (.ref a), none], ?_, ?_⟩
  · refine ⟨_, rfl, _, _, _, _, true, rfl, .ty "tuple", sqt_ty hs, kit_ty (by decide +kernel), _, rfl, iteF ?_⟩
    refine ⟨_, rfl, a, _, rfl, .inr hs, _, rfl, rfl, _, rfl, ?_⟩
    exact iteNS (by rw [List.length_map, hl]) ⟨rfl, rfl⟩
  · rintro σ' H' ⟨rfl, rfl⟩
    refine ⟨_, rfl, a, rfl, ⟨_, hs⟩, fun D1 hD1 => ?_⟩
    refine lct (K := K) (j := 2) (fun c => .bool true) hD1 hs (by rw [List.length_map]; omega) (fun _ _ => by simp [tupOnly]) (fun _ => rfl) ?_ ?_
    · intro i x H1 Q1 hx e1 k1
      obtain ⟨hi, rfl⟩ := row_get hx
      exact ⟨_, rfl, _, rfl, k1 _ _ (Same.refl _) (.bl true)⟩
    · intro H1 ys e1 h1 hd1
      have ey := blsT hd1
      subst ey
      refine ⟨D1, _, rfl, SqL.of h1, ?_⟩
      rw [all_true]
      exact k _ e1
def spIsTab (K : PySem.W.Frag) : Sp := fun vs H Q _ => ∃ (v : V) (n : Nat) (rs : List (List Int)), vs = [v] ∧ Dp K H v (tabD n rs) ∧ Tb n rs ∧ ∀ H', Same H H' → Q (.bl true) H'
theorem ok_is_table (D : Df K mg "is_table" s_is_table) (B : Bn mg) (h_is_number : Has P w K mg base "is_number" 1 p_is_number spIsNum) (h_is_row : Has P w K mg base "is_row" 2 p_is_row (spIsRow K)) :
    Has P w K mg base "is_table" 3 p_is_table (spIsTab K) := by
  refine has_of (k := 2) D sc_is_table bn_is_table ?_ ?_
  · rintro vs H Q E ⟨v, n, rs, rfl, _⟩
    rfl
  rintro f cdv A outer s0 H vs Q E hr ⟨v, n, rs, rfl, hv, hT, k⟩
  obtain ⟨pt, ur, rfl, htab, hrows⟩ := dp_tab hv
  obtain ⟨pr, xs, rfl, hxs, hall, hlen⟩ := dp_rows hrows
  refine ⟨_, (Evl.pss_cut (ps_if (PW.pt (pw_or (pt_not (pt_val (pe_callB (call_isiK (K := K) (by rfl)) (by rfl) B.isinstance_ (by decide +kernel) (pa_cons (pv 0) (pa_cons (pe_bltn (v := .ty "tuple") (u := .type "tuple") (by rfl) B.tuple_ (by decide +kernel) rfl) pa_nil))))) (pw_or1 (pt_cmpR op_ne (pe_callB (call_lenK (K := K) (by rfl)) (by rfl) B.len_ (by decide +kernel) (pa_cons (pv 0) pa_nil)) pe_int (nomark _))))) (pss_one (ps_ret pe_bl)) pss_nil)
      (pss_cons (ps_asg (pv 0) (pg_tupK (K := K) (n := 2) (by rfl) (by rfl) (pgs_cons (pg_name (i := 1) sc_is_table.nd rfl (by first | exact Or.inl rfl | exact Or.inr rfl)) (pgs_cons (pg_name (i := 2) sc_is_table.nd rfl (by first | exact Or.inl rfl | exact Or.inr rfl)) pgs_nil))))
      (Evl.pss_cut (ps_if (PW.pt (pw_or (pt_not (pt_val (pe_has (h_is_number) (hr.mono (by decide)) (by rfl) (pa_cons (pv 1) pa_nil)))) (pw_or (pt_cmpR op_lt (pv 1) pe_int (nomark _)) (pw_or1 (pt_not (pt_val (pe_callB (call_isiK (K := K) (by rfl)) (by rfl) B.isinstance_ (by decide +kernel) (pa_cons (pv 2) (pa_cons (pe_bltn (v := .ty "tuple") (u := .type "tuple") (by rfl) B.tuple_ (by decide +kernel) rfl) pa_nil))))))))) (pss_one (ps_ret pe_bl)) pss_nil)
      (pss_one (ps_ret (pe_callB (call_allK (K := K) (by rfl) (by rfl)) (by rfl) B.all_ (by decide +kernel) (pa_cons (pe_lc (own := [("row", 3)]) rfl sc_is_table.nd (pi_tupK (K := K) (by rfl) (pv 2)) (blkOk_by (own := [("row", 3)]) (N := n_is_table) (sc := defScope s_is_table) (by decide +kernel)) (fun _ _ _ _ _ => (pg_name (i := 3) sc_is_table.nd rfl (by first | exact Or.inl rfl | exact Or.inr rfl))) (fun _ _ _ _ _ => pts_nil) (fun _ _ _ _ _ => (pe_has (h_is_row) (hr.mono (by decide)) (by rfl) (pa_cons (pv 1) (pa_cons (pv 3) pa_nil))))) pa_nil))))))), ?_⟩
  refine ⟨fun σ' H' => H' = H ∧ σ' = [some (.ref pt), none, none, none], ?_, ?_⟩
  · refine ⟨_, rfl, _, _, _, _, true, rfl, .ty "tuple", sqt_ty htab, kit_ty (by decide +kernel), _, rfl, iteF ?_⟩
    refine ⟨_, rfl, pt, _, rfl, .inr htab, rfl, _, rfl, ?_⟩
    exact iteNS rfl ⟨rfl, rfl⟩
  · rintro σ' H' ⟨rfl, rfl⟩
    refine ⟨_, rfl, pt, _, rfl, htab, rfl, _, _, rfl, _, _, rfl, rfl, ?_⟩
    refine ⟨fun σ2 H2 => H2 = H' ∧ σ2 = [some (.ref pt), some (.int n), some (.ref pr), none], ?_, ?_⟩
    · refine ⟨_, rfl, _, rfl, _, rfl, iteF ?_⟩
      refine ⟨_, rfl, _, _, rfl, rfl, _, rfl, ?_⟩
      rw [decide_eq_false (show ¬ ((n : Int) < 0) by omega)]
      refine iteF ?_
      exact ⟨_, rfl, _, _, _, _, true, rfl, .ty "tuple", sqt_ty hxs, kit_ty (by decide +kernel), _, rfl, iteF ⟨rfl, rfl⟩⟩
    · rintro σ' H' ⟨rfl, rfl⟩
      refine ⟨_, rfl, pr, rfl, ⟨_, hxs⟩, fun D1 hD1 => ?_⟩
      refine lct (K := K) (j := 3) (fun c => .bool true) hD1 hxs (by have := hT.1; omega) (fun _ _ => by simp [tupOnly]) (fun _ => rfl) ?_ ?_
      · intro i x H1 Q1 hx e1 k1
        obtain ⟨hi, hdx⟩ := rows_at (DpAll.same e1 _ _ hall) hx
        have hlt := (List.getElem?_eq_some_iff.mp hi).1
        exact ⟨_, rfl, _, rfl, n, x, _, rfl, hdx, hT.len hlt, hT.2.1, fun H2 e2 => k1 _ _ e2 (.bl true)⟩
      · intro H1 ys e1 h1 hd1
        have ey := blsT hd1
        subst ey
        refine ⟨D1, _, rfl, SqL.of h1, ?_⟩
        rw [all_true]
        exact k _ e1
theorem eqv_row : ∀ r t : List Int, PyData.eqvAll (r.map PyData.int) (t.map PyData.int) = decide (r = t)
  | [], [] => by simp [PyData.eqvAll]
  | [], _ :: _ => by simp [PyData.eqvAll]
  | _ :: _, [] => by simp [PyData.eqvAll]
  | a :: r, b :: t => by
    simp only [List.map_cons, PyData.eqvAll, PyData.eqv, eqv_row r t]
    by_cases h1 : a = b <;> by_cases h2 : r = t <;> simp [h1, h2]
theorem eqv_rows : ∀ a b : List (List Int), PyData.eqvAll (a.map rowD) (b.map rowD) = decide (a = b)
  | [], [] => by simp [PyData.eqvAll]
  | [], _ :: _ => by simp [PyData.eqvAll]
  | _ :: _, [] => by simp [PyData.eqvAll]
  | r :: a, t :: b => by
    have e : PyData.eqv (rowD r) (rowD t) = decide (r = t) := by
      unfold rowD
      simp only [PyData.eqv]
      exact eqv_row r t
    simp only [List.map_cons, PyData.eqvAll, eqv_rows a b, e]
    by_cases h1 : r = t <;> by_cases h2 : a = b <;> simp [h1, h2]
theorem eqv_tab {n : Int} {a b : List (List Int)} : PyData.eqv (tabD n a) (tabD n b) = decide (a = b) := by
  have e : PyData.eqv (rowsD a) (rowsD b) = decide (a = b) := by
    unfold rowsD
    simp only [PyData.eqv]
    exact eqv_rows a b
  unfold tabD
  simp only [PyData.eqv, PyData.eqvAll, e]
  simp
def spIsUnit (K : PySem.W.Frag) : Sp := fun vs H Q _ => ∃ (v : V) (n : Nat) (rs : List (List Int)), vs = [v] ∧ Dp K H v (tabD n rs) ∧ Tb n rs ∧ rs.length = n ∧ ∀ H', Same H H' → Q (.bl (decide (rs = unitR n))) H'
theorem ok_is_unit (D : Df K mg "is_unit" s_is_unit) (B : Bn mg) (h_is_table : Has P w K mg base "is_table" 3 p_is_table (spIsTab K)) (h_unit : Has P w K mg base "unit" 2 p_unit (spUnit K)) :
    Has P w K mg base "is_unit" 4 p_is_unit (spIsUnit K) := by
  refine has_of (k := 3) D sc_is_unit bn_is_unit ?_ ?_
  · rintro vs H Q E ⟨v, n, rs, rfl, _⟩
    rfl
  rintro f cdv A outer s0 H vs Q E hr ⟨v, n, rs, rfl, hv, hT, hn, k⟩
  refine ⟨_, (pss_one (ps_ret (pe_and (pe_has (h_is_table) (hr.mono (by decide)) (by rfl) (pa_cons (pv 0) pa_nil)) (pe_and (pe_cmpR op_eq (pe_ix (ix_tupK (K := K) (by rfl)) (pv 0) pe_int (fun _ _ => rfl)) (pe_callB (call_lenK (K := K) (by rfl)) (by rfl) B.len_ (by decide +kernel) (pa_cons (pe_ix (ix_tupK (K := K) (by rfl)) (pv 0) pe_int (fun _ _ => rfl)) pa_nil)) (nomark _)) (pe_one (pe_cmpR (op_eqK (K := K) (by rfl) hr.units) (pv 0) (pe_has (h_unit) (hr.mono (by decide)) (by rfl) (pa_cons (pe_ix (ix_tupK (K := K) (by rfl)) (pv 0) pe_int (fun _ _ => rfl)) pa_nil)) (nomark _))))))), ?_⟩
  refine ⟨_, rfl, v, n, rs, rfl, hv, hT, fun H1 e1 => ⟨true, rfl, iteT ?_⟩⟩
  have hv1 := Dp.same e1 _ _ hv
  refine ⟨_, rfl, ?_⟩
  try dsimp only [tC, tNil]
  refine ix_dp (i := 0) hv1 rfl fun z hz => ?_
  have ez := dp_int hz
  subst ez
  refine ⟨_, rfl, ?_⟩
  try dsimp only [tC, tNil]
  refine ix_dp (i := 1) hv1 rfl fun z1 hz1 => ?_
  try dsimp only [tC, tNil]
  refine len_dp hz1 ?_
  rw [List.length_map]
  refine ⟨rfl, true, ?_, iteT ?_⟩
  · rw [hn, decide_eq_true (rfl : V.int _ = V.int _)]
  refine ⟨_, rfl, _, rfl, ?_⟩
  try dsimp only [tC, tNil]
  refine ix_dp (i := 0) hv1 rfl fun z hz => ?_
  have ez := dp_int hz
  subst ez
  refine ⟨n, rfl, hT.2.1, fun y H2 e2 hy => ?_⟩
  refine ⟨_, _, Dp.same e2 _ _ hv1, hy, (shp_tab _ _).shaped (by decide), (shp_tab _ _).shaped (by decide), ?_⟩
  rw [eqv_tab]
  exact k _ (e1.trans e2)
def spIsBack (K : PySem.W.Frag) : Sp := fun vs H Q _ => ∃ (v u : V) (n : Nat) (rs ts : List (List Int)), vs = [v, u] ∧ Dp K H v (tabD n rs) ∧ Dp K H u (tabD n ts) ∧ Tb n rs ∧ Tb n ts ∧
  rs.length = n ∧ ts.length = n ∧ (∀ r ∈ rs, Wd r) ∧ (∀ r ∈ ts, Wd r) ∧ ∀ H', Same H H' → Q (.bl (decide (mulR rs n ts = unitR n))) H'
theorem ok_is_back (D : Df K mg "is_back" s_is_back) (B : Bn mg) (h_is_unit : Has P w K mg base "is_unit" 4 p_is_unit (spIsUnit K)) (h_times : Has P w K mg base "times" 2 p_times (spTimes K)) :
    Has P w K mg base "is_back" 5 p_is_back (spIsBack K) := by
  refine has_of (k := 4) D sc_is_back bn_is_back ?_ ?_
  · rintro vs H Q E ⟨v, u, n, rs, ts, rfl, _⟩
    rfl
  rintro f cdv A outer s0 H vs Q E hr ⟨v, u, n, rs, ts, rfl, hv, hu, hT, hT2, h1, h2, hs, hs2, k⟩
  refine ⟨_, (pss_cons (ps_asg (pe_callB (call_lenK (K := K) (by rfl)) (by rfl) B.len_ (by decide +kernel) (pa_cons (pe_ix (ix_tupK (K := K) (by rfl)) (pv 0) pe_int (fun _ _ => rfl)) pa_nil)) (pg_name (i := 2) sc_is_back.nd rfl (by first | exact Or.inl rfl | exact Or.inr rfl)))
      (Evl.pss_cut (ps_if (PW.pt (pw_or (pt_cmpR op_ne (pe_ix (ix_tupK (K := K) (by rfl)) (pv 0) pe_int (fun _ _ => rfl)) (pv 2) (nomark _)) (pw_or (pt_cmpR op_ne (pe_ix (ix_tupK (K := K) (by rfl)) (pv 1) pe_int (fun _ _ => rfl)) (pv 2) (nomark _)) (pw_or1 (pt_cmpR op_ne (pe_callB (call_lenK (K := K) (by rfl)) (by rfl) B.len_ (by decide +kernel) (pa_cons (pe_ix (ix_tupK (K := K) (by rfl)) (pv 1) pe_int (fun _ _ => rfl)) pa_nil)) (pv 2) (nomark _)))))) (pss_one (ps_ret pe_bl)) pss_nil)
      (pss_one (ps_ret (pe_has (h_is_unit) (hr.mono (by decide)) (by rfl) (pa_cons (pe_has (h_times) (hr.mono (by decide)) (by rfl) (pa_cons (pv 0) (pa_cons (pv 1) pa_nil))) pa_nil)))))), ?_⟩
  refine ⟨_, rfl, ?_⟩
  try dsimp only [tC, tNil]
  refine ix_dp (i := 1) hv rfl fun z hz => ?_
  try dsimp only [tC, tNil]
  refine len_dp hz ?_
  rw [List.length_map, h1]
  refine ⟨fun σ' H' => H' = H ∧ σ' = [some v, some u, some (.int n)], ?_, ?_⟩
  · refine ⟨_, rfl, ?_⟩
    try dsimp only [tC, tNil]
    refine ix_dp (i := 0) hv rfl fun z hz => ?_
    have ez := dp_int hz
    subst ez
    refine ⟨_, rfl, rfl, _, rfl, iteNS rfl ?_⟩
    refine ⟨_, rfl, ?_⟩
    try dsimp only [tC, tNil]
    refine ix_dp (i := 0) hu rfl fun z hz => ?_
    have ez := dp_int hz
    subst ez
    refine ⟨_, rfl, rfl, _, rfl, iteNS rfl ?_⟩
    refine ⟨_, rfl, ?_⟩
    try dsimp only [tC, tNil]
    refine ix_dp (i := 1) hu rfl fun z hz => ?_
    try dsimp only [tC, tNil]
    refine len_dp hz ?_
    rw [List.length_map, h2]
    exact ⟨_, rfl, rfl, _, rfl, iteNS rfl ⟨rfl, rfl⟩⟩
  · rintro σ' H' ⟨rfl, rfl⟩
    refine ⟨_, rfl, _, rfl, v, u, n, rs, n, ts, rfl, hv, hu, hT, hT2, h2.symm, hs, hs2, fun y H1 e1 hy => ?_⟩
    exact ⟨y, n, _, rfl, hy, mul_tb (v := n) hT.1 hT.2.1, by rw [mulR_len]; exact h1, fun H2 e2 => k _ (e1.trans e2)⟩

end K11

set_option Elab.async false
set_option linter.all false
set_option maxRecDepth 100000
set_option maxHeartbeats 1000000
namespace K11
open PySem L2 Gd
variable {P : Program} {w : World} {K : PySem.W.Frag} {mg : Str → Option Value} {base : Heap}
theorem ok_l_feed (D : Df K mg "_law_feed" s_l_feed) (B : Bn mg) :
    Has P w K mg base "_law_feed" 1 p_l_feed (spFeed K) := by
  refine has_of (k := 0) D sc_l_feed bn_l_feed ?_ ?_
  · rintro vs H Q E ⟨sc, ns, rfl, _⟩
    rfl
  · rintro f cdv A outer s H vs Q E hr ⟨sc, ns, rfl, hS, hl, k⟩
    refine ⟨_, (pss_one (ps_ret (pe_lst (pa_cons (pe_slice (sl_listK (K := K) (by rfl)) (pv 0) po_none (po_some pe_int)) (pa_cons pe_int (pa_cons pe_int (pa_cons pe_int pa_nil))))))), ?_⟩
    obtain ⟨ms, e, hm⟩ := cut_ints ns none (some 63)
    refine ⟨_, rfl, _, rfl, sc, _, rfl, hS, fun p np => ?_⟩
    refine ⟨by show 4 ≤ sizeLine; decide, fun a na => ?_⟩
    have npa : p ≠ a := fun z => by
      rw [z, upd_same] at na
      cases na
    have na0 : H a = none := by
      rw [upd_ne npa.symm] at na
      exact na
    refine k a p _ na0 np (Same.mut (Same.new np) na0) ⟨ms, 0, 0, 0, upd_same, ?_, by omega, by omega, by omega, by omega⟩
    rw [upd_ne npa, upd_same, e]
theorem ok_l_draw (D : Df K mg "_law_draw" s_l_draw) (B : Bn mg) :
    Has P w K mg base "_law_draw" 1 p_l_draw spDraw := by
  refine has_of (k := 0) D sc_l_draw bn_l_draw ?_ ?_
  · rintro vs H Q E ⟨a, s, m, n, rfl, _⟩
    rfl
  · rintro f cdv A outer s0 H vs Q E hr ⟨a, s, m, n, rfl, ⟨ns, p, l, c, ha, hs, hl, hp, hc, hcn⟩, hn, hm1, hm2, k⟩
    have nsa : s ≠ a := ne_of hs ha ref_ints
    refine ⟨_, (pss_cons (ps_asg (pe_op op_add (pe_ix (ix_listK (K := K) (by rfl)) (pv 0) pe_int (fun _ _ => rfl)) pe_int) (pg_sub (pv 0) pe_int set_list))
      (pss_cons (ps_if (pt_cmpR op_gt (pe_ix (ix_listK (K := K) (by rfl)) (pv 0) pe_int (fun _ _ => rfl)) pe_int (nomark _)) (pss_cons (ps_asg (pe_op op_modN (pe_ix (ix_listK (K := K) (by rfl)) (pv 0) pe_int (fun _ _ => rfl)) (pv 1)) (pg_name (i := 2) sc_l_draw.nd rfl (by first | exact Or.inl rfl | exact Or.inr rfl)))
      (pss_cons (ps_asg (pe_op op_fdivN (pe_ix (ix_listK (K := K) (by rfl)) (pv 0) pe_int (fun _ _ => rfl)) (pv 1)) (pg_sub (pv 0) pe_int set_list))
      (pss_one (ps_ret (pv 2))))) pss_nil)
      (pss_cons (ps_asg pe_int (pg_name (i := 3) sc_l_draw.nd rfl (by first | exact Or.inl rfl | exact Or.inr rfl)))
      (Evl.pss_cut (ps_if (pt_cmpR (op_neK (K := K) (by rfl) hr.units) (pe_ix (ix_listK (K := K) (by rfl)) (pv 0) pe_int (fun _ _ => rfl)) (pe_lst pa_nil) (nomark _)) (pss_one (ps_asg (pe_ix (ix_listK (K := K) (by rfl)) (pe_ix (ix_listK (K := K) (by rfl)) (pv 0) pe_int (fun _ _ => rfl)) (pe_op op_modN (pe_ix (ix_listK (K := K) (by rfl)) (pv 0) pe_int (fun _ _ => rfl)) (pe_callB (call_lenK (K := K) (by rfl)) (by rfl) B.len_ (by decide +kernel) (pa_cons (pe_ix (ix_listK (K := K) (by rfl)) (pv 0) pe_int (fun _ _ => rfl)) pa_nil))) (fun _ _ => rfl)) (pg_name (i := 3) sc_l_draw.nd rfl (by first | exact Or.inl rfl | exact Or.inr rfl)))) pss_nil)
      (pss_cons (ps_asg (pe_op op_add (pe_ix (ix_listK (K := K) (by rfl)) (pv 0) pe_int (fun _ _ => rfl)) pe_int) (pg_sub (pv 0) pe_int set_list))
      (Evl.pss_cut (ps_if (PW.pt (pw_and (pt_cmpR op_ge (pv 3) (pe_op op_pow pe_int pe_int) (nomark _)) (pw_and1 (pt_cmpR op_le (pe_ix (ix_listK (K := K) (by rfl)) (pv 0) pe_int (fun _ _ => rfl)) (pe_callB (call_lenK (K := K) (by rfl)) (by rfl) B.len_ (by decide +kernel) (pa_cons (pe_ix (ix_listK (K := K) (by rfl)) (pv 0) pe_int (fun _ _ => rfl)) pa_nil)) (nomark _))))) (pss_cons (ps_asg (pe_op op_fdivN (pv 3) (pv 1)) (pg_sub (pv 0) pe_int set_list))
      (pss_one (ps_ret (pe_op op_modN (pv 3) (pv 1))))) pss_nil)
      (pss_cons (ps_asg (pe_op op_modN (pe_op op_pow (pe_op op_add (pe_op op_modN (pv 3) pe_int) (pe_op op_mul pe_int (pe_ix (ix_listK (K := K) (by rfl)) (pv 0) pe_int (fun _ _ => rfl)))) pe_int) pe_int) (pg_name (i := 4) sc_l_draw.nd rfl (by first | exact Or.inl rfl | exact Or.inr rfl)))
      (pss_cons (ps_asg (pe_op op_modN (pe_op op_pow (pe_op op_add (pe_op op_mul (pv 4) (pe_op op_add (pe_op op_mul pe_int (pe_ix (ix_listK (K := K) (by rfl)) (pv 0) pe_int (fun _ _ => rfl))) pe_int)) pe_int) pe_int) pe_int) (pg_name (i := 4) sc_l_draw.nd rfl (by first | exact Or.inl rfl | exact Or.inr rfl)))
      (pss_one (ps_ret (pe_op op_modN (pe_op op_fdivN (pv 4) pe_int) (pv 1)))))))))))), ?_⟩
    refine ⟨_, rfl, a, _, 3, _, rfl, rfl, SqL.of ha, rfl, _, _, rfl, rfl, _, rfl, a, _, 3, 3, rfl, rfl, ha, rfl, ?_⟩
    have h1a : upd H a (.lst [.ref s, .int p, .int l, .int (c + 1)]) a = some (.lst [.ref s, .int p, .int l, .int (c + 1)]) := upd_same
    have h1s : upd H a (.lst [.ref s, .int p, .int l, .int (c + 1)]) s = some (.lst (ns.map V.int)) := by
      rw [upd_ne nsa]
      exact hs
    have sb1 : Sb a H (upd H a (.lst [.ref s, .int p, .int l, .int (c + 1)])) := Sb.own (Sb.refl a H)
    refine ⟨_, rfl, a, _, 2, _, rfl, rfl, SqL.of h1a, rfl, _, _, rfl, rfl, _, rfl, ?_⟩
    refine ite2 (fun hlt => ?_) (fun hle => ?_)
    · refine ⟨_, rfl, a, _, 2, _, rfl, rfl, SqL.of h1a, rfl, _, rfl, _, _, rfl, rfl, (by omega), ?_⟩
      refine ⟨_, rfl, a, _, 2, _, rfl, rfl, SqL.of h1a, rfl, _, rfl, _, _, rfl, rfl, ⟨by omega, by omega⟩, _, rfl, a, _, 2, 2, rfl, rfl, h1a, rfl, ?_⟩
      refine ⟨_, rfl, ?_⟩
      refine k _ _ (fmod_nn (by omega)) (fmod_lt' (by omega)) (Sb.own sb1) ⟨ns, p, _, c + 1, upd_same, ?_, hl, hp, by omega, by omega⟩
      rw [upd_ne nsa]
      exact h1s
    · refine ⟨fun σ' H' => ∃ z : Int, σ' = [some (.ref a), some (.int m), none, some (.int z), none] ∧
        H' a = some (.lst [.ref s, .int p, .int l, .int (c + 1)]) ∧ H' s = some (.lst (ns.map V.int)) ∧ Sb a H H', ?_, ?_⟩
      · refine ⟨_, rfl, a, _, 0, _, rfl, rfl, SqL.of h1a, rfl, Nat.zero_le _, fun q nq => ?_⟩
        have nqa : q ≠ a := fun z => by
          rw [z, upd_same] at nq
          cases nq
        have nq : upd H a (.lst [.ref s, .int p, .int l, .int (c + 1)]) q = none := nq
        have nqs : q ≠ s := fun z => by
          rw [z, h1s] at nq
          cases nq
        have h2a := upd_ne (H := upd H a (.lst [.ref s, .int p, .int l, .int (c + 1)])) (o := .lst []) nqa.symm
        have h2s := upd_ne (H := upd H a (.lst [.ref s, .int p, .int l, .int (c + 1)])) (o := .lst []) nqs.symm
        rw [h1a] at h2a
        rw [h1s] at h2s
        have sb2 := Sb.trans sb1 (Sb.new (a := a) (o := .lst []) nq)
        refine ⟨.list (ns.map PyData.int), .list [], .lst (SqL.of h2s) (dp_ints ns), .lst (SqL.of upd_same) .nil, ints_shaped ns, ints_shaped [], ?_⟩
        refine ⟨_, rfl, ?_⟩
        rw [ints_nil]
        refine ite2 (fun he => ?_) (fun he => ?_)
        · have hne : ns ≠ [] := by
            intro z
            rw [decide_eq_true z] at he
            cases he
          have hpos : 0 < ns.length := List.length_pos_iff.mpr hne
          obtain ⟨z, hz⟩ := at_ints (ns := ns) (i := p.fmod ((ns.map V.int).length : Int)) (fmod_nn (by rw [List.length_map]; omega))
            (by
              have := fmod_lt' (a := p) (b := ((ns.map V.int).length : Int)) (by rw [List.length_map]; omega)
              rw [List.length_map] at this ⊢
              exact this)
          refine ⟨_, rfl, a, _, 0, _, rfl, rfl, SqL.of h2a, rfl, _, rfl, a, _, 1, _, rfl, rfl, SqL.of h2a, rfl, _, rfl, a, _, 0, _, rfl, rfl, SqL.of h2a, rfl, s, _, rfl, .inl (SqL.of h2s), _, _, rfl, rfl, (by rw [List.length_map]; omega), s, _, _, _, rfl, rfl, SqL.of h2s, hz, ?_⟩
          exact ⟨z, rfl, h2a, h2s, sb2⟩
        · exact ⟨7, rfl, h2a, h2s, sb2⟩
      · rintro σ' H' ⟨z, rfl, h3a, h3s, sb3⟩
        refine ⟨_, rfl, a, _, 1, _, rfl, rfl, SqL.of h3a, rfl, _, _, rfl, rfl, _, rfl, a, _, 1, 1, rfl, rfl, h3a, rfl, ?_⟩
        have h4a : upd H' a (.lst [.ref s, .int (p + 1), .int l, .int (c + 1)]) a = some (.lst [.ref s, .int (p + 1), .int l, .int (c + 1)]) := upd_same
        have h4s : upd H' a (.lst [.ref s, .int (p + 1), .int l, .int (c + 1)]) s = some (.lst (ns.map V.int)) := by
          rw [upd_ne nsa]
          exact h3s
        have sb4 : Sb a H (upd H' a (.lst [.ref s, .int (p + 1), .int l, .int (c + 1)])) := Sb.own sb3
        refine ⟨fun σ'' H'' => σ'' = [some (.ref a), some (.int m), none, some (.int z), none] ∧ H'' = upd H' a (.lst [.ref s, .int (p + 1), .int l, .int (c + 1)]), ?_, ?_⟩
        · refine ⟨_, rfl, _, _, rfl, rfl, ⟨by decide, by decide, by decide⟩, _, _, rfl, rfl, _, rfl, ?_⟩
          refine ite2 (fun hz => ?_) (fun hz => ⟨rfl, rfl⟩)
          refine ⟨_, rfl, a, _, 1, _, rfl, rfl, SqL.of h4a, rfl, _, rfl, a, _, 0, _, rfl, rfl, SqL.of h4a, rfl, s, _, rfl, .inl (SqL.of h4s), _, _, rfl, rfl, _, rfl, ?_⟩
          refine ite2 (fun hw => ?_) (fun hw => ⟨rfl, rfl⟩)
          refine ⟨_, rfl, _, rfl, _, _, rfl, rfl, ⟨by omega, by omega⟩, _, rfl, a, _, 2, 2, rfl, rfl, h4a, rfl, ?_⟩
          refine ⟨_, rfl, _, rfl, _, _, rfl, rfl, (by omega), ?_⟩
          refine k _ _ (fmod_nn (by omega)) (fmod_lt' (by omega)) (Sb.own sb4) ⟨ns, p + 1, _, c + 1, upd_same, ?_, hl, by omega, by omega, by omega⟩
          rw [upd_ne nsa]
          exact h4s
        · rintro σ'' H'' ⟨rfl, rfl⟩
          have f1 := fmod_nn (a := z) (b := 2147483629) (by omega)
          have f2 := fmod_lt' (a := z) (b := 2147483629) (by omega)
          refine ⟨_, rfl, _, _, rfl, rfl, (by omega), _, rfl, a, _, 3, _, rfl, rfl, SqL.of h4a, rfl, _, _, rfl, rfl, .inl ⟨by omega, by omega⟩, _, _, rfl, rfl, _, _, rfl, rfl, ⟨by omega, by omega, by omega⟩, _, _, rfl, rfl, (by omega), ?_⟩
          have big : ∀ y : Int, 0 ≤ y → y < 2147483647 → (y * (2 * (c + 1) + 1) + 7919).natAbs < 2 ^ 64 := by
            intro y g1 g2
            have g3 : 0 ≤ y * (2 * (c + 1) + 1) := Int.mul_nonneg g1 (by omega)
            have g4 : y * (2 * (c + 1) + 1) ≤ 2147483647 * 2000005 := Int.mul_le_mul (by omega) (by omega) (by omega) (by omega)
            omega
          have sml : ∀ y : Int, 0 ≤ y → y < 2147483647 → -(2 ^ 64) < y ∧ y < 2 ^ 64 := by
            intro y g1 g2
            omega
          refine ⟨_, rfl, _, rfl, a, _, 3, _, rfl, rfl, SqL.of h4a, rfl, _, _, rfl, rfl, .inl ⟨by omega, by omega⟩, _, _, rfl, rfl, _, _, rfl, rfl, .inl (sml _ (fmod_nn (by omega)) (fmod_lt' (by omega))), _, _, rfl, rfl, _, _, rfl, rfl, ⟨by omega, by omega, big _ (fmod_nn (by omega)) (fmod_lt' (by omega))⟩, _, _, rfl, rfl, (by omega), ?_⟩
          refine ⟨_, rfl, _, _, rfl, rfl, ⟨by omega, by omega⟩, _, rfl, _, _, rfl, rfl, (by omega), ?_⟩
          exact k _ _ (fmod_nn (by omega)) (fmod_lt' (by omega)) sb4 ⟨ns, p + 1, l, c + 1, h4a, h4s, hl, by omega, by omega, by omega⟩

abbrev spNumber : Sp := spNum (-99) 100 2
theorem ok_l_number (D : Df K mg "_law_number" s_l_number) (B : Bn mg) (h_l_draw : Has P w K mg base "_law_draw" 1 p_l_draw spDraw) :
    Has P w K mg base "_law_number" 2 p_l_number spNumber := by
  refine has_of (k := 1) D sc_l_number bn_l_number spNum_len ?_
  rintro f cdv A outer s0 H vs Q E hr ⟨a, s, n, rfl, hF, hn, k⟩
  refine ⟨_, (pss_cons (ps_asg (pe_has (h_l_draw) (hr.mono (by decide)) (by rfl) (pa_cons (pv 0) (pa_cons pe_int pa_nil))) (pg_name (i := 1) sc_l_number.nd rfl (by first | exact Or.inl rfl | exact Or.inr rfl)))
      (pss_cons (ps_if (pt_cmpR op_eq (pv 1) pe_int (nomark _)) (pss_one (ps_ret pe_int)) pss_nil)
      (pss_one (ps_ret (pe_ifExp (pt_cmpR op_lt (pv 1) pe_int (nomark _)) (pe_op op_sub (pe_has (h_l_draw) (hr.mono (by decide)) (by rfl) (pa_cons (pv 0) (pa_cons pe_int pa_nil))) pe_int) (pe_op op_sub (pe_has (h_l_draw) (hr.mono (by decide)) (by rfl) (pa_cons (pv 0) (pa_cons pe_int pa_nil))) pe_int)))))), ?_⟩
  refine ⟨_, rfl, a, s, _, n, rfl, hF, by omega, by decide, by decide, fun r H1 r0 r1 sb1 f1 => ?_⟩
  refine ⟨_, rfl, rfl, _, rfl, ?_⟩
  refine ite2 (fun _ => ?_) (fun _ => ?_)
  · exact k _ _ (by decide) (by decide) sb1 (f1.mono (by omega))
  · refine ⟨_, rfl, _, _, rfl, rfl, _, rfl, ?_⟩
    refine ite2 (fun _ => ?_) (fun _ => ?_)
    · refine ⟨_, rfl, a, s, _, n + 1, rfl, f1, by omega, by decide, by decide, fun r2 H2 r20 r21 sb2 f2 => ?_⟩
      exact ⟨_, _, rfl, rfl, k _ _ (by omega) (by omega) (Sb.trans sb1 sb2) f2⟩
    · refine ⟨_, rfl, a, s, _, n + 1, rfl, f1, by omega, by decide, by decide, fun r2 H2 r20 r21 sb2 f2 => ?_⟩
      exact ⟨_, _, rfl, rfl, k _ _ (by omega) (by omega) (Sb.trans sb1 sb2) f2⟩

def OkR (w : Nat) (r : List Int) : Prop := r.length = w ∧ ∀ x ∈ r, -99 ≤ x ∧ x ≤ 99
def spRows (K : PySem.W.Frag) : Sp := fun vs H Q _ => ∃ (a s : Addr) (m wd n : Nat),
  vs = [.ref a, .int m, .int wd] ∧ Fd H a s n ∧ m ≤ 8 ∧ wd ≤ 8 ∧ n + 200 ≤ 1000000 ∧
  ∀ (v : V) (H' : Hp) (rs : List (List Int)), Sb a H H' → Fd H' a s (n + 200) → OkT m wd rs → Dp K H' v (rowsD rs) → Q v H'
theorem ok_l_rows (D : Df K mg "_law_rows" s_l_rows) (B : Bn mg) (h_l_draw : Has P w K mg base "_law_draw" 1 p_l_draw spDraw)
    (h_l_number : Has P w K mg base "_law_number" 2 p_l_number spNumber) :
    Has P w K mg base "_law_rows" 3 p_l_rows (spRows K) := by
  refine has_of (k := 2) D sc_l_rows bn_l_rows ?_ ?_
  · rintro vs H Q E ⟨a, s, m, wd, n, rfl, _⟩
    rfl
  rintro f cdv A outer s0 H vs Q E hr ⟨a, s, m, wd, n, rfl, hF, hm, hwd, hn, k⟩
  refine ⟨_, (pss_cons (ps_asg (pe_lst pa_nil) (pg_name (i := 3) sc_l_rows.nd rfl (by first | exact Or.inl rfl | exact Or.inr rfl)))
      (pss_cons (ps_for PassesOwn.never rfl (pi_range1 (by rfl) B.range_ (pa_cons (pv 1) pa_nil)) (pg_name (i := 4) sc_l_rows.nd rfl (by first | exact Or.inl rfl | exact Or.inr rfl)) (pss_cons (ps_asg (pe_has (h_l_draw) (hr.mono (by decide)) (by rfl) (pa_cons (pv 0) (pa_cons pe_int pa_nil))) (pg_name (i := 5) sc_l_rows.nd rfl (by first | exact Or.inl rfl | exact Or.inr rfl)))
      (pss_cons (ps_asg (pe_op (op_repK (K := K) (by rfl)) (pe_tup (pa_cons pe_int pa_nil)) (pv 2)) (pg_name (i := 6) sc_l_rows.nd rfl (by first | exact Or.inl rfl | exact Or.inr rfl)))
      (Evl.pss_cut (ps_if (PW.pt (pw_or (pt_cmpR op_gt (pv 5) pe_int (nomark _)) (pw_or1 (PW.pt (pw_and (pt_cmpR op_gt (pv 5) pe_int (nomark _)) (pw_and1 (pt_cmpR (op_eqK (K := K) (by rfl) hr.units) (pv 3) (pe_lst pa_nil) (nomark _)))))))) (pss_one (ps_asg (pe_callTy (call_tupleK (K := K) (by rfl)) (by rfl) B.tuple_ (by decide +kernel) (pa_cons (pe_lc (own := [("_law_j", 7)]) rfl sc_l_rows.nd (pi_range1 (by rfl) B.range_ (pa_cons (pv 2) pa_nil)) (blkOk_by (own := [("_law_j", 7)]) (N := n_l_rows) (sc := defScope s_l_rows) (by decide +kernel)) (fun _ _ _ _ _ => (pg_name (i := 7) sc_l_rows.nd rfl (by first | exact Or.inl rfl | exact Or.inr rfl))) (fun _ _ _ _ _ => pts_nil) (fun _ _ _ _ _ => (pe_has (h_l_number) (hr.mono (by decide)) (by rfl) (pa_cons (pv 0) pa_nil)))) pa_nil)) (pg_name (i := 6) sc_l_rows.nd rfl (by first | exact Or.inl rfl | exact Or.inr rfl)))) (pss_one (ps_if (pt_cmpR op_gt (pv 5) pe_int (nomark _)) (pss_cons (ps_asg (pe_ix (ix_listK (K := K) (by rfl)) (pv 3) (pe_has (h_l_draw) (hr.mono (by decide)) (by rfl) (pa_cons (pv 0) (pa_cons (pe_callB (call_lenK (K := K) (by rfl)) (by rfl) B.len_ (by decide +kernel) (pa_cons (pv 3) pa_nil)) pa_nil))) (fun _ _ => rfl)) (pg_name (i := 6) sc_l_rows.nd rfl (by first | exact Or.inl rfl | exact Or.inr rfl)))
      (pss_one (ps_asg (pe_ifExp (pt_cmpR op_eq (pv 5) pe_int (nomark _)) (pv 6) (pe_callTy (call_tupleK (K := K) (by rfl)) (by rfl) B.tuple_ (by decide +kernel) (pa_cons (pe_lc (own := [("_law_number_here", 8)]) rfl sc_l_rows.nd (pi_tupK (K := K) (by rfl) (pv 6)) (blkOk_by (own := [("_law_number_here", 8)]) (N := n_l_rows) (sc := defScope s_l_rows) (by decide +kernel)) (fun _ _ _ _ _ => (pg_name (i := 8) sc_l_rows.nd rfl (by first | exact Or.inl rfl | exact Or.inr rfl))) (fun _ _ _ _ _ => pts_nil) (fun _ _ _ _ _ => (pe_un un_neg (pv 8)))) pa_nil))) (pg_name (i := 6) sc_l_rows.nd rfl (by first | exact Or.inl rfl | exact Or.inr rfl))))) pss_nil)))
      (pss_one (ps_expr (pe_bm PySem.F.plainAttrs_list PySem.F.slot_list_append PySem.F.type_list_append mt_append (pv 3) (pa_cons (pv 6) pa_nil))))))))
      (pss_one (ps_ret (pe_callTy (call_tupleK (K := K) (by rfl)) (by rfl) B.tuple_ (by decide +kernel) (pa_cons (pv 3) pa_nil)))))), ?_⟩
  refine ⟨Nat.zero_le _, fun l nl => ?_⟩
  obtain ⟨la, ls⟩ := hF.apart nl
  refine ⟨_, rfl, (m : Int), rfl, by omega, by omega, for_range (lo := 0) (n := m) (fun i σ H' => ∃ (ys : List V) (rs : List (List Int)) (v4 v5 v6 v7 v8 : Option V),
    σ = [some (.ref a), some (.int m), some (.int wd), some (.ref l), v4, v5, v6, v7, v8] ∧ H' l = some (.lst ys) ∧ DpAll K H' ys (rs.map rowD) ∧
    OkT i wd rs ∧ Sb a H H' ∧ Fd H' a s (n + 20 * i)) ?_ ?_ ?_⟩
  · exact ⟨[], [], none, none, none, none, none, rfl, upd_same, .nil, ⟨rfl, fun r h => by cases h⟩, Sb.new nl, hF.upd la ls⟩
  · rintro i σ H' hi ⟨ys, rs, v4, v5, v6, v7, v8, rfl, hl, hall, hok, sb, f⟩
    have tall : tupAll (rs.map rowD) = true := rows_tup rs
    refine ⟨_, rfl, a, s, _, n + 20 * i, rfl, f, by omega, by decide, by decide, fun r H1 r0 r1 sb1 f1 => ?_⟩
    have hl1 := sb1 _ _ la hl
    have hall1 := DpAll.tk (f.tk sb1) _ _ tall hall
    refine ⟨by show 1 ≤ sizeLine; decide, fun p np => ⟨_, rfl, ?_⟩⟩
    refine rep_dp (K := K) (z := 0) (mk_row (r := [0]) (SqT.of upd_same)) (by omega) (by omega) fun v H2 e2 hv => ?_
    have e12 := (Same.new np).trans e2
    have hl2 := e12 _ _ hl1
    have hall2 := DpAll.same e12 _ _ hall1
    have f2 := f1.same e12
    have sb2 := (sb.trans sb1).trans (Sb.of (a := a) e12)
    -- a row of new numbers
    have body1 : ∀ (Hx : Hp) (D' : Ends), Hx l = some (.lst ys) → DpAll K Hx ys (rs.map rowD) → Sb a H Hx → Fd Hx a s (n + 20 * i + 1) →
        (∀ (u : V) (rw : List Int) (Hy : Hp), Hy l = some (.lst ys) → DpAll K Hy ys (rs.map rowD) → Sb a H Hy → Fd Hy a s (n + 20 * i + 19) → OkR wd rw → Dp K Hy u (rowD rw) →
          D'.nx [some (.ref a), some (.int m), some (.int wd), some (.ref l), some (.int (0 + (i : Int))), some (.int r), some u, v7, v8] Hy) →
        tAsg (tCB (rTupleK K) (tCons (tLc (iRng1 (tCons (tVar 2) tNil)) (gName 7) tYes (tCall spNumber [] E0 (tCons (tVar 0) tNil)) [7]) tNil)) (gName 6) D'
          [some (.ref a), some (.int m), some (.int wd), some (.ref l), some (.int (0 + (i : Int))), some (.int r), some v, v7, v8] Hx := by
      intro Hx D' hlx hallx sbx fx kx
      refine ⟨_, rfl, (wd : Int), rfl, by omega, by omega, fun D1 hD1 => ?_⟩
      refine lcrF (m := wd) (c := 2) (fun z => -99 ≤ z ∧ z ≤ 99) hD1 fx (by omega) (fun _ => rfl) ?_ ?_
      · intro j H3 Q3 hj sb3 f3 k3
        exact ⟨_, rfl, a, s, _, rfl, f3, by omega, fun z H4 z0 z1 sb4 f4 => k3 z H4 sb4 f4 ⟨z0, by omega⟩⟩
      · intro H3 ns sb3 f3 h3 hlen hb
        have tk3 := fx.tk sb3
        refine ⟨D1, _, rfl, .inl ⟨SqL.of h3, fun q nq => ?_⟩⟩
        have eq := Same.new (o := .tup (ns.map V.int)) nq
        refine kx _ ns _ (eq _ _ (sb3 _ _ la hlx)) (DpAll.same eq _ _ (DpAll.tk tk3 _ _ tall hallx)) ((sbx.trans sb3).trans (Sb.of eq)) ((f3.same eq).mono (by omega)) ⟨hlen, hb⟩ (mk_row (SqT.of upd_same))
    refine ⟨fun σ' H' => ∃ (u : V) (rw : List Int) (v4 v5 v7 v8 : Option V), σ' = [some (.ref a), some (.int m), some (.int wd), some (.ref l), v4, v5, some u, v7, v8] ∧
      H' l = some (.lst ys) ∧ DpAll K H' ys (rs.map rowD) ∧ Sb a H H' ∧ Fd H' a s (n + 20 * i + 19) ∧ OkR wd rw ∧ Dp K H' u (rowD rw), ?_, ?_⟩
    · refine ⟨_, rfl, _, _, rfl, rfl, _, rfl, ?_⟩
      refine ite2 (fun _ => ?_) (fun h2 => ?_)
      · exact body1 H2 _ hl2 hall2 sb2 (f2.mono (by omega)) fun u rw Hy g1 g2 g3 g4 g5 g6 => ⟨u, rw, _, _, _, _, rfl, g1, g2, g3, g4, g5, g6⟩
      · have h2 : ¬ r > 2 := fun z => h2 (decide_eq_true z)
        refine ⟨_, rfl, _, _, rfl, rfl, _, rfl, ?_⟩
        refine ite2 (fun h0 => ?_) (fun h0 => ?_)
        · have h0 : r > 0 := of_decide_eq_true h0
          refine ⟨_, rfl, Nat.zero_le _, fun q nq => ?_⟩
          have eq := Same.new (o := .lst []) nq
          have hl3 := eq _ _ hl2
          have hall3 := DpAll.same eq _ _ hall2
          have f3 := f2.same eq
          have sb3 := sb2.trans (Sb.of (a := a) eq)
          refine ⟨.list (rs.map rowD), .list [], .lst (SqL.of hl3) hall3, .lst (SqL.of upd_same) .nil, ?_, ints_shaped [], _, rfl, ?_⟩
          · exact rows_shaped rs
          rw [rows_nil]
          refine ite2 (fun he => ?_) (fun he => ?_)
          · exact body1 _ _ hl3 hall3 sb3 (f3.mono (by omega)) fun u rw Hy g1 g2 g3 g4 g5 g6 => ⟨u, rw, _, _, _, _, rfl, g1, g2, g3, g4, g5, g6⟩
          · have hne : rs ≠ [] := fun z => he (decide_eq_true z)
            have hpos : 0 < rs.length := List.length_pos_iff.mpr hne
            have hlen : ys.length = rs.length := by rw [dpa_len _ _ hall3, List.length_map]
            refine ⟨_, rfl, _, _, rfl, rfl, _, rfl, ?_⟩
            rw [decide_eq_true (show r > 0 from h0)]
            refine iteT ?_
            refine ⟨_, rfl, _, rfl, _, rfl, l, _, rfl, .inl (SqL.of hl3), ?_⟩
            have hb := hok.1
            refine ⟨a, s, _, n + 20 * i + 1, rfl, f3.mono (by omega), by omega, by omega, by omega, fun j H4 j0 j1 sb4 f4 => ?_⟩
            have hl4 := sb4 _ _ la hl3
            have hall4 := DpAll.tk (f3.tk sb4) _ _ tall hall3
            obtain ⟨j', rfl⟩ := Int.eq_ofNat_of_zero_le j0
            have hj' : j' < rs.length := by omega
            obtain ⟨x, hx, hdx⟩ := dpa_at _ _ j' _ hall4 (rows_getD hj')
            refine ⟨l, _, _, _, rfl, rfl, SqL.of hl4, atI_nat hx, ?_⟩
            have hmem := hok.2 _ (getD_mem (d := []) hj')
            have sb5 := sb3.trans sb4
            refine ⟨_, rfl, rfl, _, rfl, ?_⟩
            refine ite2 (fun _ => ?_) (fun _ => ?_)
            · exact ⟨_, rfl, x, _, _, _, _, _, rfl, hl4, hall4, sb5, f4.mono (by omega), hmem, hdx⟩
            · obtain ⟨px, rfl, hpx⟩ := dp_row hdx
              refine ⟨_, rfl, px, rfl, ⟨_, hpx⟩, fun D1 hD1 => ?_⟩
              refine lct (K := K) (j := 8) (fun c => .int (-((rs.getD j' []).getD c 0))) hD1 hpx (by rw [List.length_map, hmem.1]; omega) (fun _ _ => by simp [tupOnly]) (fun _ => rfl) ?_ ?_
              · intro c x H5 Q5 hx5 e5 k5
                obtain ⟨hc, rfl⟩ := row_get hx5
                exact ⟨_, rfl, _, rfl, k5 _ _ (Same.refl _) (.int _)⟩
              · intro H5 zs e5 h5 hd5
                rw [List.length_map] at hd5
                try dsimp only [tC, tNil]
                refine tupL_dp h5 hd5 fun v6 H6 e6 hv6 => ?_
                rw [mapR_row] at hv6
                have e56 := e5.trans e6
                refine ⟨v6, _, _, _, _, _, rfl, e56 _ _ hl4, DpAll.same e56 _ _ hall4, sb5.trans (Sb.of e56), (f4.same e56).mono (by omega), ⟨?_, ?_⟩, hv6⟩
                · rw [List.length_map, List.length_range]
                  exact hmem.1
                · intro z hz
                  obtain ⟨c, hc, rfl⟩ := List.mem_map.mp hz
                  have := hmem.2 _ (getD_mem (d := 0) (List.mem_range.mp hc))
                  omega
        · refine ⟨_, rfl, _, _, rfl, rfl, _, rfl, ?_⟩
          refine ite2 (fun hz => absurd hz h0) (fun _ => ?_)
          refine ⟨v, _, _, _, _, _, rfl, hl2, hall2, sb2, f2.mono (by omega), ⟨?_, ?_⟩, hv⟩
          · simp
          · intro x hx
            rw [(List.mem_replicate.mp hx).2]
            decide
    · rintro σ' H9 ⟨u, rw', w4, w5, w7, w8, rfl, hl9, hall9, sb9, f9, hok9, hu9⟩
      have hlen : ys.length = rs.length := by rw [dpa_len _ _ hall9, List.length_map]
      refine ⟨_, rfl, .inl ⟨rfl, _, SqL.of hl9⟩, _, rfl, l, _, _, rfl, rfl, hl9, ?_, ?_⟩
      · rw [hlen, hok.1]
        exact Nat.lt_of_lt_of_le (show i < 100 by omega) (by decide)
      · have tk := Tk.lst (o := .lst (ys ++ [u])) hl9
        refine ⟨ys ++ [u], rs ++ [rw'], _, _, _, _, _, rfl, upd_same, ?_, ⟨?_, ?_⟩, sb9.mut nl, (f9.upd la ls).mono (by omega)⟩
        · rw [List.map_append]
          exact dpa_snoc _ _ _ _ (DpAll.tk tk _ _ tall hall9) (Dp.tk tk _ _ (rowD_tup _) hu9)
        · rw [List.length_append, hok.1]
          rfl
        · intro r' hr'
          rcases List.mem_append.mp hr' with h | h
          · exact hok.2 r' h
          · rw [List.mem_singleton.mp h]
            exact hok9
  · rintro σ H' ⟨ys, rs, v4, v5, v6, v7, v8, rfl, hl, hall, hok, sb, f⟩
    refine ⟨_, rfl, ?_⟩
    try dsimp only [tC, tNil]
    refine tupL_dp hl hall fun v2 H2 e2 hv2 => ?_
    exact k _ _ rs (sb.trans (Sb.of e2)) ((f.same e2).mono (by omega)) hok hv2
def spTable (K : PySem.W.Frag) : Sp := fun vs H Q _ => ∃ (a s : Addr) (m wd n : Nat),
  vs = [.ref a, .int m, .int wd] ∧ Fd H a s n ∧ m ≤ 8 ∧ wd ≤ 8 ∧ n + 200 ≤ 1000000 ∧
  ∀ (v : V) (H' : Hp) (rs : List (List Int)), Sb a H H' → Fd H' a s (n + 200) → OkT m wd rs → Dp K H' v (tabD wd rs) → Q v H'
theorem ok_l_table (D : Df K mg "_law_table" s_l_table) (B : Bn mg) (h_l_rows : Has P w K mg base "_law_rows" 3 p_l_rows (spRows K)) :
    Has P w K mg base "_law_table" 4 p_l_table (spTable K) := by
  refine has_of (k := 3) D sc_l_table bn_l_table ?_ ?_
  · rintro vs H Q E ⟨a, s, m, wd, n, rfl, _⟩
    rfl
  rintro f cdv A outer s0 H vs Q E hr ⟨a, s, m, wd, n, rfl, hF, hm, hwd, hn, k⟩
  refine ⟨_, (pss_one (ps_ret (pe_tup (pa_cons (pv 2) (pa_cons (pe_has (h_l_rows) (hr.mono (by decide)) (by rfl) (pa_cons (pv 0) (pa_cons (pv 1) (pa_cons (pv 2) pa_nil)))) pa_nil))))), ?_⟩
  refine ⟨_, rfl, _, rfl, _, rfl, _, rfl, a, s, m, wd, n, rfl, hF, hm, hwd, hn, fun v H1 rs sb1 f1 hok hv => ?_⟩
  try dsimp only [tC, tNil]
  refine tup_dp (K := K) (.cons (.int _) (.cons hv .nil)) (by simp) fun v3 H3 e3 hv3 => ?_
  exact k _ _ rs (sb1.trans (Sb.of e3)) (f1.same e3) hok hv3

theorem other_row {m i r : Nat} (h1 : i < m) (h2 : m ≤ 8) (h3 : r + 1 < m) :
    ∃ j : Nat, ((i : Int) + 1 + (r : Int)).fmod (m : Int) = (j : Int) ∧ j < m ∧ i ≠ j := by
  rw [Int.fmod_eq_emod_of_nonneg _ (by omega)]
  have c : m = 2 ∨ m = 3 ∨ m = 4 ∨ m = 5 ∨ m = 6 ∨ m = 7 ∨ m = 8 := by omega
  refine ⟨(((i : Int) + 1 + (r : Int)) % (m : Int)).toNat, ?_, ?_, ?_⟩
  · rcases c with rfl | rfl | rfl | rfl | rfl | rfl | rfl <;> omega
  · rcases c with rfl | rfl | rfl | rfl | rfl | rfl | rfl <;> omega
  · rcases c with rfl | rfl | rfl | rfl | rfl | rfl | rfl <;> omega
def spLDeed (K : PySem.W.Frag) : Sp := fun vs H Q _ => ∃ (a s : Addr) (m n : Nat),
  vs = [.ref a, .int m] ∧ Fd H a s n ∧ 1 ≤ m ∧ m ≤ 8 ∧ n + 10 ≤ 1000000 ∧
  ∀ (v : V) (H' : Hp) (d : Deed), Sb a H H' → Fd H' a s (n + 10) → OkD m 99 d → Dp K H' v (deedD d) → Q v H'
theorem ok_l_deed (D : Df K mg "_law_deed" s_l_deed) (B : Bn mg) (h_l_draw : Has P w K mg base "_law_draw" 1 p_l_draw spDraw)
    (h_l_number : Has P w K mg base "_law_number" 2 p_l_number spNumber) :
    Has P w K mg base "_law_deed" 3 p_l_deed (spLDeed K) := by
  refine has_of (k := 2) D sc_l_deed bn_l_deed ?_ ?_
  · rintro vs H Q E ⟨a, s, m, n, rfl, _⟩
    rfl
  rintro f cdv A outer s0 H vs Q E hr ⟨a, s, m, n, rfl, hF, hm1, hm8, hn, k⟩
  refine ⟨_, (pss_cons (ps_asg (pe_has (h_l_draw) (hr.mono (by decide)) (by rfl) (pa_cons (pv 0) (pa_cons (pv 1) pa_nil))) (pg_name (i := 2) sc_l_deed.nd rfl (by first | exact Or.inl rfl | exact Or.inr rfl)))
      (pss_cons (ps_asg (pe_has (h_l_draw) (hr.mono (by decide)) (by rfl) (pa_cons (pv 0) (pa_cons pe_int pa_nil))) (pg_name (i := 3) sc_l_deed.nd rfl (by first | exact Or.inl rfl | exact Or.inr rfl)))
      (Evl.pss_cut (ps_if (PW.pt (pw_or (pt_cmpR op_eq (pv 1) pe_int (nomark _)) (pw_or1 (pt_cmpR op_eq (pv 3) pe_int (nomark _))))) (pss_one (ps_ret (pe_tup (pa_cons pe_str (pa_cons (pv 2) pa_nil))))) pss_nil)
      (pss_cons (ps_asg (pe_op op_modN (pe_op op_add (pe_op op_add (pv 2) pe_int) (pe_has (h_l_draw) (hr.mono (by decide)) (by rfl) (pa_cons (pv 0) (pa_cons (pe_op op_sub (pv 1) pe_int) pa_nil)))) (pv 1)) (pg_name (i := 4) sc_l_deed.nd rfl (by first | exact Or.inl rfl | exact Or.inr rfl)))
      (pss_one (ps_ret (pe_ifExp (pt_cmpR op_eq (pv 3) pe_int (nomark _)) (pe_tup (pa_cons pe_str (pa_cons (pv 2) (pa_cons (pv 4) pa_nil)))) (pe_tup (pa_cons pe_str (pa_cons (pv 2) (pa_cons (pv 4) (pa_cons (pe_has (h_l_number) (hr.mono (by decide)) (by rfl) (pa_cons (pv 0) pa_nil)) pa_nil)))))))))))), ?_⟩
  refine ⟨_, rfl, _, rfl, a, s, _, n, rfl, hF, by omega, by omega, by omega, fun ri H1 r0 r1 sb1 f1 => ?_⟩
  refine ⟨_, rfl, a, s, _, n + 1, rfl, f1, by omega, by decide, by decide, fun rw H2 w0 w1 sb2 f2 => ?_⟩
  obtain ⟨i, rfl⟩ := Int.eq_ofNat_of_zero_le r0
  have hi : i < m := by omega
  have sb02 := sb1.trans sb2
  refine ⟨fun σ' H' => H' = H2 ∧ m ≠ 1 ∧ σ' = [some (.ref a), some (.int m), some (.int i), some (.int rw), none], ?_, ?_⟩
  · have turn : ∀ (D' : Ends), D'.rt = Q → tRet (tTup (tCons (tC (V.str "turn")) (tCons (tVar 2) tNil))) D' [some (.ref a), some (.int m), some (.int i), some (.int rw), none] H2 := by
      intro D' hD
      refine ⟨_, rfl, by show 2 ≤ sizeLine; decide, fun p np => ?_⟩
      show D'.rt _ _
      rw [hD]
      have ep := Same.new (o := .tup [V.str "turn", V.int i]) np
      exact k _ _ (.turn i) (sb02.trans (Sb.of ep)) ((f2.same ep).mono (by omega)) hi (.tup (SqT.of upd_same) (.cons (.str _) (.cons (.int _) .nil)))
    refine ⟨_, rfl, rfl, _, rfl, ?_⟩
    refine ite2 (fun _ => turn _ rfl) (fun hne => ?_)
    have hne : m ≠ 1 := fun z => hne (decide_eq_true (by rw [z]; rfl))
    refine ⟨_, rfl, rfl, _, rfl, ?_⟩
    exact ite2 (fun _ => turn _ rfl) (fun _ => ⟨rfl, hne, rfl⟩)
  · rintro σ' H' ⟨rfl, hne, rfl⟩
    refine ⟨_, rfl, _, _, rfl, rfl, _, rfl, _, rfl, _, _, rfl, rfl, a, s, _, n + 2, rfl, f2, by omega, by omega, by omega, fun rj H3 j0 j1 sb3 f3 => ?_⟩
    obtain ⟨r, rfl⟩ := Int.eq_ofNat_of_zero_le j0
    obtain ⟨j, ej, hj, hij⟩ := other_row (r := r) hi hm8 (by omega)
    refine ⟨_, _, rfl, rfl, _, rfl, _, _, rfl, rfl, by omega, ?_⟩
    dsimp only
    rw [ej]
    have sb03 := sb02.trans sb3
    refine ⟨_, rfl, rfl, _, rfl, ?_⟩
    refine ite2 (fun _ => ?_) (fun _ => ?_)
    · refine ⟨_, rfl, _, rfl, by show 3 ≤ sizeLine; decide, fun p np => ?_⟩
      have ep := Same.new (o := .tup [V.str "swap", V.int i, V.int j]) np
      exact k _ _ (.swap i j) (sb03.trans (Sb.of ep)) ((f3.same ep).mono (by omega)) ⟨hi, hj, hij⟩ (.tup (SqT.of upd_same) (.cons (.str _) (.cons (.int _) (.cons (.int _) .nil))))
    · refine ⟨_, rfl, _, rfl, _, rfl, a, s, n + 3, rfl, f3, by omega, fun kk H4 k0 k1 sb4 f4 => ?_⟩
      refine ⟨by show 4 ≤ sizeLine; decide, fun p np => ?_⟩
      have ep := Same.new (o := .tup [V.str "add", V.int i, V.int j, V.int kk]) np
      exact k _ _ (.add i j kk) ((sb03.trans sb4).trans (Sb.of ep)) ((f4.same ep).mono (by omega)) ⟨hi, hj, hij, k0, by omega⟩
        (.tup (SqT.of upd_same) (.cons (.str _) (.cons (.int _) (.cons (.int _) (.cons (.int _) .nil)))))
theorem deeds_of {m : Nat} {b : Int} : ∀ es : List PyData, (∀ e ∈ es, ∃ d, e = deedD d ∧ OkD m b d) → ∃ ds : List Deed, es = ds.map deedD ∧ ∀ d ∈ ds, OkD m b d
  | [], _ => ⟨[], rfl, fun d h => by cases h⟩
  | e :: es, h => by
    obtain ⟨d, rfl, hd⟩ := h e (List.mem_cons_self ..)
    obtain ⟨ds, rfl, hs⟩ := deeds_of es (fun x hx => h x (List.mem_cons_of_mem _ hx))
    refine ⟨d :: ds, rfl, fun x hx => ?_⟩
    rcases List.mem_cons.mp hx with rfl | hx
    · exact hd
    · exact hs x hx
def spLDeeds (K : PySem.W.Frag) : Sp := fun vs H Q _ => ∃ (a s : Addr) (m t n : Nat),
  vs = [.ref a, .int m, .int t] ∧ Fd H a s n ∧ m ≤ 8 ∧ t ≤ 12 ∧ n + 200 ≤ 1000000 ∧
  ∀ (v : V) (H' : Hp) (ds : List Deed), Sb a H H' → Fd H' a s (n + 200) → (∀ d ∈ ds, OkD m 99 d) → ds.length ≤ t → Dp K H' v (deedsD ds) → Q v H'
theorem ok_l_deeds (D : Df K mg "_law_deeds" s_l_deeds) (B : Bn mg) (h_l_deed : Has P w K mg base "_law_deed" 3 p_l_deed (spLDeed K))
    (h_l_draw : Has P w K mg base "_law_draw" 1 p_l_draw spDraw) :
    Has P w K mg base "_law_deeds" 4 p_l_deeds (spLDeeds K) := by
  refine has_of (k := 3) D sc_l_deeds bn_l_deeds ?_ ?_
  · rintro vs H Q E ⟨a, s, m, t, n, rfl, _⟩
    rfl
  rintro f cdv A outer s0 H vs Q E hr ⟨a, s, m, t, n, rfl, hF, hm, ht, hn, k⟩
  refine ⟨_, (pss_one (ps_ret (pe_callTy (call_tupleK (K := K) (by rfl)) (by rfl) B.tuple_ (by decide +kernel) (pa_cons (pe_lc (own := [("_law_k", 3)]) rfl sc_l_deeds.nd (pi_range1 (by rfl) B.range_ (pa_cons (pe_op op_mul (pe_has (h_l_draw) (hr.mono (by decide)) (by rfl) (pa_cons (pv 0) (pa_cons (pe_op op_add (pv 2) pe_int) pa_nil))) (pe_callTy call_int1 (by rfl) B.int_ (by decide +kernel) (pa_cons (pe_cmpR op_gt (pv 1) pe_int (nomark _)) pa_nil))) pa_nil)) (blkOk_by (own := [("_law_k", 3)]) (N := n_l_deeds) (sc := defScope s_l_deeds) (by decide +kernel)) (fun _ _ _ _ _ => (pg_name (i := 3) sc_l_deeds.nd rfl (by first | exact Or.inl rfl | exact Or.inr rfl))) (fun _ _ _ _ _ => pts_nil) (fun _ _ _ _ _ => (pe_has (h_l_deed) (hr.mono (by decide)) (by rfl) (pa_cons (pv 0) (pa_cons (pv 1) pa_nil))))) pa_nil)))), ?_⟩
  refine ⟨_, rfl, _, rfl, _, _, rfl, rfl, a, s, _, n, rfl, hF, by omega, by omega, by omega, fun r H1 r0 r1 sb1 f1 => ?_⟩
  obtain ⟨r, rfl⟩ := Int.eq_ofNat_of_zero_le r0
  refine ⟨_, rfl, _, _, rfl, rfl, .inr ⟨_, rfl, ?_⟩⟩
  have fin : ∀ q : Nat, (q = 0 ∨ (1 ≤ m ∧ q = r)) → ∀ z : Int, z = (q : Int) → ∀ (R : It → Hp → Prop),
      (R (Itr 0 z.toNat) H1) → ∃ nn : Int, [V.int z] = [V.int nn] ∧ -(2 ^ 62) ≤ nn ∧ nn < 2 ^ 62 ∧ R (Itr 0 nn.toNat) H1 := by
    intro q hq z hz R hR
    refine ⟨z, rfl, ?_, ?_, hR⟩
    · omega
    · omega
  by_cases h0 : 0 < m
  · rw [decide_eq_true (show (m : Int) > 0 by omega)]
    refine ⟨_, _, rfl, rfl, .inl ⟨by omega, by omega⟩, _, rfl, ?_, ?_, fun D1 hD1 => ?_⟩
    · show -(2 ^ 62) ≤ (r : Int) * 1
      omega
    · show (r : Int) * 1 < 2 ^ 62
      omega
    have er : ((r : Int) * (if true = true then 1 else 0)).toNat = r := by
      show ((r : Int) * 1).toNat = r
      omega
    rw [er]
    refine lcrD (K := K) (m := r) (c := 10) (fun e => ∃ d, e = deedD d ∧ OkD m 99 d) hD1 f1 (by omega) (fun e he => by obtain ⟨d, rfl, _⟩ := he; exact deedD_tup d) (fun _ => rfl) ?_ ?_
    · intro j H3 Q3 hj sb3 f3 k3
      exact ⟨_, rfl, _, rfl, a, s, m, _, rfl, f3, by omega, hm, by omega, fun v H4 d sb4 f4 hd hv => k3 v _ H4 sb4 f4 ⟨d, rfl, hd⟩ hv⟩
    · intro H3 ys es sb3 f3 h3 ha3 hl3 hp3
      obtain ⟨ds, rfl, hds⟩ := deeds_of es hp3
      try dsimp only [tC, tNil]
      refine tupL_dp h3 ha3 fun v2 H2 e2 hv2 => ?_
      refine k _ _ ds ((sb1.trans sb3).trans (Sb.of e2)) ((f3.same e2).mono (by omega)) hds ?_ hv2
      rw [List.length_map] at hl3
      omega
  · have em : m = 0 := by omega
    rw [decide_eq_false (show ¬ (m : Int) > 0 by omega)]
    refine ⟨_, _, rfl, rfl, .inl ⟨by omega, by omega⟩, _, rfl, ?_, ?_, fun D1 hD1 => ?_⟩
    · show -(2 ^ 62) ≤ (r : Int) * 0
      omega
    · show (r : Int) * 0 < 2 ^ 62
      omega
    have er : ((r : Int) * (if false = true then 1 else 0)).toNat = 0 := by
      show ((r : Int) * 0).toNat = 0
      omega
    rw [er]
    refine lcrD (K := K) (m := 0) (c := 10) (fun e => ∃ d, e = deedD d ∧ OkD m 99 d) hD1 f1 (by omega) (fun e he => by obtain ⟨d, rfl, _⟩ := he; exact deedD_tup d) (fun _ => rfl) ?_ ?_
    · intro j H3 Q3 hj sb3 f3 k3
      omega
    · intro H3 ys es sb3 f3 h3 ha3 hl3 hp3
      obtain ⟨ds, rfl, hds⟩ := deeds_of es hp3
      try dsimp only [tC, tNil]
      refine tupL_dp h3 ha3 fun v2 H2 e2 hv2 => ?_
      refine k _ _ ds ((sb1.trans sb3).trans (Sb.of e2)) ((f3.same e2).mono (by omega)) hds ?_ hv2
      rw [List.length_map] at hl3
      omega

end K11

set_option Elab.async false
set_option linter.all false
set_option maxRecDepth 100000
set_option maxHeartbeats 1000000
namespace K11
open PySem PySem.Spec PyProof.Rows L2 Gd
variable {P : Program} {w : World} {K : PySem.W.Frag} {mg : Str → Option Value} {base : Heap}
theorem Sh.str {x : Str} {n : Nat} (h : (reprText x).length ≤ n) : Sh 0 n (.str x) := by
  refine ⟨?_, ?_, ?_, ?_⟩
  · simp only [PyData.showable]
  · simp only [PyData.hasDict]
  · simp only [PyData.depth]
    omega
  · simp only [PyData.shown]
    exact h
theorem sh_deed {d : Deed} {m : Nat} (hm : m ≤ 1000) (h : OkD m 99 d) : Sh 1 10000 (deedD d) := by
  have nn : ∀ i : Nat, i < m → Sh 0 1901 (.int (i : Int)) := fun i hi => Sh.int (nat_1900 (by omega))
  cases d with
  | swap i j =>
    refine (Sh.tup (k := 0) (n := 1901) (m := 3) ?_ (by simp)).mono (by decide) (by decide)
    intro d hd
    simp only [List.mem_cons, List.not_mem_nil, or_false] at hd
    rcases hd with rfl | rfl | rfl
    · exact Sh.str (by decide +kernel)
    · exact nn _ h.1
    · exact nn _ h.2.1
  | turn i =>
    refine (Sh.tup (k := 0) (n := 1901) (m := 2) ?_ (by simp)).mono (by decide) (by decide)
    intro d hd
    simp only [List.mem_cons, List.not_mem_nil, or_false] at hd
    rcases hd with rfl | rfl
    · exact Sh.str (by decide +kernel)
    · exact nn _ h
  | add i j k =>
    refine (Sh.tup (k := 0) (n := 1901) (m := 4) ?_ (by simp)).mono (by decide) (by decide)
    intro d hd
    simp only [List.mem_cons, List.not_mem_nil, or_false] at hd
    rcases hd with rfl | rfl | rfl | rfl
    · exact Sh.str (by decide +kernel)
    · exact nn _ h.1
    · exact nn _ h.2.1
    · exact Sh.int (int_1900 (by have := h.2.2.2; omega))
theorem sh_deeds {ds : List Deed} {m : Nat} (hm : m ≤ 1000) (h : ∀ d ∈ ds, OkD m 99 d) (hl : ds.length ≤ 26) : Sh 3 270000 (deedsD ds) := by
  refine (Sh.tup (k := 1) (n := 10000) (m := 26) ?_ (by rw [List.length_map]; exact hl)).mono (by decide) (by decide)
  intro d hd
  obtain ⟨x, hx, rfl⟩ := List.mem_map.mp hd
  exact sh_deed hm (h x hx)
theorem repr_dp {H : Hp} {v : V} {d : PyData} {k n : Nat} {Q : VK} {S : Str} (hd : Dp K H v d) (ht : ∃ ds, d = .tuple ds) (hs : Sh k n d) (hk : k ≤ 60) (hn : n ≤ 16000000)
    (e : d.shown = S) (q : Q (.str S) H) : rRepr K [v] H Q := by
  obtain ⟨ds, rfl⟩ := ht
  obtain ⟨p, xs, rfl, _⟩ := dp_tup hd
  subst e
  exact repr_at hd hs hk hn q
theorem pow_100 {n : Nat} (h : n ≤ 12) : 99 * (99 + 1) ^ n ≤ 10 ^ 30 :=
  Nat.le_trans (Nat.mul_le_mul_left 99 (Nat.pow_le_pow_right (by decide) h)) (by decide)
theorem rk_all {m wd : Nat} {rs : List (List Int)} {ds : List Deed} (hm : m ≤ 8) (hwd : wd ≤ 8) (o : OkT m wd rs) (h : ∀ d ∈ ds, OkD m 99 d) (hl : ds.length ≤ 12) : Rk (allD rs ds) := by
  obtain ⟨f1, f2, f3⟩ := allD_facts (b := 99) (c := 99) o.1 (fun r hr => (o.2 r hr).1) o.bs (by decide) ds h
  refine ⟨by omega, fun r hr => ⟨by rw [f2 r hr]; exact hwd, fun x hx => int_1900 ?_⟩⟩
  have h1 := f3 r hr x hx
  have h2 := pow_100 hl
  omega

theorem repr_dpL {H : Hp} {v : V} {d : PyData} {k n : Nat} {Q : VK} {S : Str} (hd : Dp K H v d) (ht : ∃ ds, d = .list ds) (hs : Sh k n d) (hk : k ≤ 60) (hn : n ≤ 16000000)
    (e : d.shown = S) (q : Q (.str S) H) : rRepr K [v] H Q := by
  obtain ⟨ds, rfl⟩ := ht
  subst e
  cases hd with
  | lst h1 h2 => exact repr_at (.lst h1 h2) hs hk hn q
theorem bigU {n : Nat} (h : n ≤ 12) : 1 * (99 + 1) ^ n < 2 ^ 4000 :=
  Nat.lt_of_le_of_lt (Nat.le_trans (Nat.mul_le_mul_right _ (by decide : 1 ≤ 99)) (pow_100 h)) (Nat.lt_of_lt_of_le (by decide : 10 ^ 30 < 2 ^ 100) (Nat.pow_le_pow_right (by decide) (by decide)))
theorem small1 : 99 < 2 ^ 4000 := Nat.lt_of_lt_of_le (by decide : 99 < 2 ^ 100) (Nat.pow_le_pow_right (by decide) (by decide))
theorem rk_allU {m : Nat} {ds : List Deed} (hm : m ≤ 8) (h : ∀ d ∈ ds, OkD m 99 d) (hl : ds.length ≤ 12) : Rk (allD (unitR m) ds) := by
  obtain ⟨f1, f2, f3⟩ := allD_facts (b := 1) (c := 99) (unitR_len m) unitR_wide bs_unit (by decide) ds h
  refine ⟨by omega, fun r hr => ⟨by rw [f2 r hr]; exact hm, fun x hx => int_1900 ?_⟩⟩
  have h1 := f3 r hr x hx
  have h2 := pow_100 hl
  have h3 := Nat.mul_le_mul_right ((99 + 1) ^ ds.length) (by decide : 1 ≤ 99)
  omega
theorem unit_parts {m c : Nat} (hc : c < m) :
    (PyData.tuple ((List.replicate (0 + (c : Int)).toNat 0).map PyData.int ++ [PyData.int 1] ++ (List.replicate ((m : Int) - (0 + (c : Int)) - 1).toNat 0).map PyData.int)) = rowD (unitRow m c) := by
  have e1 : (0 + (c : Int)).toNat = c := by omega
  have e2 : ((m : Int) - (0 + (c : Int)) - 1).toNat = m - c - 1 := by omega
  rw [e1, e2]
  unfold rowD
  congr 1
  have e3 : unitRow m c = List.replicate c 0 ++ [1] ++ List.replicate (m - c - 1) 0 := by
    unfold unitRow
    apply List.ext_getElem
    · simp; omega
    · intro i h1 h2
      simp only [List.getElem_map, List.getElem_range]
      rcases Nat.lt_trichotomy i c with h | h | h
      · rw [if_neg (by omega), List.getElem_append_left (by simp; omega), List.getElem_append_left (by simp; omega)]
        simp
      · subst h
        rw [if_pos rfl, List.getElem_append_left (by simp)]
        simp
      · rw [if_neg (by omega), List.getElem_append_right (by simp; omega)]
        simp
  rw [e3]
  simp

theorem pow_big {n : Nat} (h : n ≤ 40) : 99 * (99 + 1) ^ n < 2 ^ 4000 :=
  Nat.lt_of_le_of_lt (Nat.mul_le_mul_left 99 (Nat.pow_le_pow_right (by decide) h)) (Nat.lt_of_lt_of_le (by decide : 99 * (99 + 1) ^ 40 < 2 ^ 300) (Nat.pow_le_pow_right (by decide) (by decide)))
theorem pow_big1 {n : Nat} (h : n ≤ 40) : 1 * (99 + 1) ^ n < 2 ^ 4000 :=
  Nat.lt_of_le_of_lt (Nat.mul_le_mul_right _ (by decide : 1 ≤ 99)) (pow_big h)
theorem pow_big2 {n k : Nat} (h : n + k ≤ 40) : 99 * (99 + 1) ^ n * (99 + 1) ^ k < 2 ^ 4000 := by
  rw [Nat.mul_assoc, ← Nat.pow_add]
  exact pow_big h
theorem pow_big3 {n k : Nat} (h : n + k ≤ 40) : 1 * (99 + 1) ^ n * (99 + 1) ^ k < 2 ^ 4000 := by
  rw [Nat.mul_assoc, ← Nat.pow_add]
  exact pow_big1 h
theorem tb_allU {m : Nat} {ds : List Deed} (hm : m ≤ 1000) (h : ∀ d ∈ ds, OkD m 99 d) : Tb m (allD (unitR m) ds) := allD_tb (unit_tb hm) (unitR_len m) h
theorem len_allU {m : Nat} {ds : List Deed} : (allD (unitR m) ds).length = m := by rw [allD_len, unitR_len]
theorem bs_allU {m : Nat} {ds : List Deed} (h : ∀ d ∈ ds, OkD m 99 d) : Bs ((1 * (99 + 1) ^ ds.length : Nat) : Int) (allD (unitR m) ds) :=
  (allD_facts (b := 1) (c := 99) (unitR_len m) unitR_wide bs_unit (by decide) ds h).2.2
theorem wd_allU {m : Nat} {ds : List Deed} (h : ∀ d ∈ ds, OkD m 99 d) (hl : ds.length ≤ 40) : ∀ r ∈ allD (unitR m) ds, Wd r := Bs.wd (bs_allU h) (pow_big1 hl)
theorem bs_all {m wd : Nat} {rs : List (List Int)} {ds : List Deed} (o : OkT m wd rs) (h : ∀ d ∈ ds, OkD m 99 d) : Bs ((99 * (99 + 1) ^ ds.length : Nat) : Int) (allD rs ds) :=
  (allD_facts (b := 99) (c := 99) o.1 (fun r hr => (o.2 r hr).1) o.bs (by decide) ds h).2.2
theorem wd_ok {m wd : Nat} {rs : List (List Int)} (o : OkT m wd rs) : ∀ r ∈ rs, Wd r := Bs.wd (b := 99) o.bs small1
theorem deeds_cat {ds es : List Deed} : PyData.tuple (ds.map deedD ++ es.map deedD) = deedsD (ds ++ es) := by
  unfold deedsD
  rw [List.map_append]
theorem ok_app {m : Nat} {b : Int} {ds es : List Deed} (h1 : ∀ d ∈ ds, OkD m b d) (h2 : ∀ d ∈ es, OkD m b d) : ∀ d ∈ ds ++ es, OkD m b d := fun d hd => by
  rcases List.mem_append.mp hd with h | h
  · exact h1 d h
  · exact h2 d h
def spRight (K : PySem.W.Frag) : Sp := fun vs H Q _ => ∃ (v u1 u2 : V) (wd : Nat) (rs : List (List Int)) (ds es : List Deed), vs = [v, u1, u2] ∧ Dp K H v (tabD wd rs) ∧ Dp K H u1 (deedsD ds) ∧ Dp K H u2 (deedsD es) ∧
  OkT rs.length wd rs ∧ rs.length ≤ 8 ∧ wd ≤ 8 ∧ (∀ d ∈ ds, OkD rs.length 99 d) ∧ (∀ d ∈ es, OkD rs.length 99 d) ∧ ds.length ≤ 6 ∧ es.length ≤ 6 ∧ ∀ H', Same H H' → Q (.bl true) H'
theorem ok_l_right (D : Df K mg "_law_right" s_l_right) (B : Bn mg)
    (h_deeds_table : Has P w K mg base "deeds_table" 7 p_deeds_table (spDTable K))
    (h_times : Has P w K mg base "times" 2 p_times (spTimes K))
    (h_done : Has P w K mg base "done" 6 p_done (spDone K))
    (h_led_back : Has P w K mg base "led_back" 2 p_led_back (spBack K))
    (h_is_back : Has P w K mg base "is_back" 5 p_is_back (spIsBack K)) :
    Has P w K mg base "_law_right" 8 p_l_right (spRight K) := by
  refine has_of (k := 7) D sc_l_right bn_l_right ?_ ?_
  · rintro vs H Q E ⟨v, u1, u2, wd, rs, ds, es, rfl, _⟩
    rfl
  rintro f cdv A outer s0 H vs Q E hr ⟨v, u1, u2, wd, rs, ds, es, rfl, hv, hu1, hu2, o, hm, hw, ok1, ok2, l1, l2, k⟩
  have tb : Tb wd rs := o.tb (by omega) (by omega)
  have ok12 := ok_app ok1 ok2
  have okb := backD_ok ok1
  have lb := backD_len ds
  refine ⟨_, (pss_cons (ps_asg (pe_callB (call_lenK (K := K) (by rfl)) (by rfl) B.len_ (by decide +kernel) (pa_cons (pe_ix (ix_tupK (K := K) (by rfl)) (pv 0) pe_int (fun _ _ => rfl)) pa_nil)) (pg_name (i := 3) sc_l_right.nd rfl (by first | exact Or.inl rfl | exact Or.inr rfl)))
      (pss_cons (ps_par (i := 4) (j := 5) (by rfl) sc_l_right.nd rfl rfl (by decide) rfl rfl (pa_cons (pe_has (h_deeds_table) (hr.mono (by decide)) (by rfl) (pa_cons (pv 3) (pa_cons (pv 1) pa_nil))) (pa_cons (pe_has (h_deeds_table) (hr.mono (by decide)) (by rfl) (pa_cons (pv 3) (pa_cons (pv 2) pa_nil))) pa_nil)) (by rfl))
      (Evl.pss_cut (ps_if (PW.pt (pw_or (pt_cmpR (op_neK (K := K) (by rfl) hr.units) (pe_has (h_times) (hr.mono (by decide)) (by rfl) (pa_cons (pv 4) (pa_cons (pv 0) pa_nil))) (pe_has (h_done) (hr.mono (by decide)) (by rfl) (pa_cons (pv 0) (pa_cons (pv 1) pa_nil))) (nomark _)) (pw_or1 (pt_cmpR (op_neK (K := K) (by rfl) hr.units) (pe_has (h_deeds_table) (hr.mono (by decide)) (by rfl) (pa_cons (pv 3) (pa_cons (pe_op (op_catK (K := K) (by rfl)) (pv 1) (pv 2)) pa_nil))) (pe_has (h_times) (hr.mono (by decide)) (by rfl) (pa_cons (pv 5) (pa_cons (pv 4) pa_nil))) (nomark _))))) (pss_one (ps_ret pe_bl)) pss_nil)
      (pss_cons (ps_if (pt_cmpR (op_neK (K := K) (by rfl) hr.units) (pe_has (h_done) (hr.mono (by decide)) (by rfl) (pa_cons (pe_has (h_done) (hr.mono (by decide)) (by rfl) (pa_cons (pv 0) (pa_cons (pv 1) pa_nil))) (pa_cons (pv 2) pa_nil))) (pe_has (h_done) (hr.mono (by decide)) (by rfl) (pa_cons (pv 0) (pa_cons (pe_op (op_catK (K := K) (by rfl)) (pv 1) (pv 2)) pa_nil))) (nomark _)) (pss_one (ps_ret pe_bl)) pss_nil)
      (pss_cons (ps_asg (pe_has (h_led_back) (hr.mono (by decide)) (by rfl) (pa_cons (pv 1) pa_nil)) (pg_name (i := 6) sc_l_right.nd rfl (by first | exact Or.inl rfl | exact Or.inr rfl)))
      (Evl.pss_cut (ps_if (PW.pt (pw_or (pt_cmpR (op_neK (K := K) (by rfl) hr.units) (pe_has (h_done) (hr.mono (by decide)) (by rfl) (pa_cons (pe_has (h_done) (hr.mono (by decide)) (by rfl) (pa_cons (pv 0) (pa_cons (pv 1) pa_nil))) (pa_cons (pv 6) pa_nil))) (pv 0) (nomark _)) (pw_or1 (pt_cmpR (op_neK (K := K) (by rfl) hr.units) (pe_has (h_done) (hr.mono (by decide)) (by rfl) (pa_cons (pe_has (h_done) (hr.mono (by decide)) (by rfl) (pa_cons (pv 0) (pa_cons (pv 6) pa_nil))) (pa_cons (pv 1) pa_nil))) (pv 0) (nomark _))))) (pss_one (ps_ret pe_bl)) pss_nil)
      (pss_cons (ps_asg (pe_has (h_deeds_table) (hr.mono (by decide)) (by rfl) (pa_cons (pv 3) (pa_cons (pv 6) pa_nil))) (pg_name (i := 7) sc_l_right.nd rfl (by first | exact Or.inl rfl | exact Or.inr rfl)))
      (pss_one (ps_ret (pe_and (pe_cmpR op_isB (pe_has (h_is_back) (hr.mono (by decide)) (by rfl) (pa_cons (pv 4) (pa_cons (pv 7) pa_nil))) pe_bl (nomark _)) (pe_one (pe_cmpR op_isB (pe_has (h_is_back) (hr.mono (by decide)) (by rfl) (pa_cons (pv 7) (pa_cons (pv 4) pa_nil))) pe_bl (nomark _))))))))))))), ?_⟩
  refine ⟨_, rfl, ?_⟩
  try dsimp only [tC, tNil]
  refine ix_dp (i := 1) hv rfl fun z hz => ?_
  try dsimp only [tC, tNil]
  refine len_dp hz ?_
  rw [List.length_map]
  refine ⟨_, rfl, _, rfl, u1, rs.length, 99, ds, rfl, hu1, by omega, by decide, ok1, pow_big1 (by omega), small1, fun y1 H1 e1 hy1 => ?_⟩
  refine ⟨_, rfl, _, rfl, u2, rs.length, 99, es, rfl, Dp.same e1 _ _ hu2, by omega, by decide, ok2, pow_big1 (by omega), small1, fun y2 H2 e2 hy2 => ?_⟩
  have e02 := e1.trans e2
  have hy1 := Dp.same e2 _ _ hy1
  have hv2 := Dp.same e02 _ _ hv
  have hu12 := Dp.same e02 _ _ hu1
  have hu22 := Dp.same e02 _ _ hu2
  refine ⟨_, _, rfl, ?_⟩
  refine ⟨fun σ' H' => Same H2 H' ∧ σ' = [some v, some u1, some u2, some (.int rs.length), some y1, some y2, none, none], ?_, ?_⟩
  · refine ⟨_, rfl, _, rfl, y1, v, rs.length, _, wd, rs, rfl, hy1, hv2, tb_allU (by omega) ok1, tb, rfl, wd_allU ok1 (by omega), wd_ok o, fun y3 H3 e3 hy3 => ?_⟩
    refine ⟨_, rfl, _, rfl, v, u1, wd, 99, 99, rs, ds, rfl, Dp.same e3 _ _ hv2, Dp.same e3 _ _ hu12, tb.2.2, by omega, by omega, o.bs, by decide, ok1, pow_big (by omega), small1, fun y4 H4 e4 hy4 => ?_⟩
    rw [deeds_mul tb rfl ok1] at hy3
    refine ne_dp (K := K) (Dp.same e4 _ _ hy3) hy4 (shp_tab _ _) (by decide) (tabD_tup _ _) ?_
    refine ⟨_, rfl, iteF ?_⟩
    have e24 := e3.trans e4
    refine ⟨_, rfl, _, rfl, _, rfl, ?_⟩
    refine cat_dp (K := K) (Dp.same e24 _ _ hu12) (Dp.same e24 _ _ hu22) (by rw [List.length_map, List.length_map]; omega) fun v5 H5 e5 hv5 => ?_
    rw [deeds_cat] at hv5
    refine ⟨v5, rs.length, 99, _, rfl, hv5, by omega, by decide, ok12, pow_big1 (by rw [List.length_append]; omega), small1, fun y6 H6 e6 hy6 => ?_⟩
    have e26 := (e24.trans e5).trans e6
    refine ⟨_, rfl, _, rfl, y2, y1, rs.length, _, rs.length, _, rfl, Dp.same e26 _ _ hy2, Dp.same e26 _ _ hy1, tb_allU (by omega) ok2, tb_allU (by omega) ok1, len_allU.symm, wd_allU ok2 (by omega), wd_allU ok1 (by omega), fun y7 H7 e7 hy7 => ?_⟩
    rw [both_mul (by omega) ok1 ok2] at hy7
    refine ne_dp (K := K) (Dp.same e7 _ _ hy6) hy7 (shp_tab _ _) (by decide) (tabD_tup _ _) ?_
    exact ⟨_, rfl, iteF ⟨e26.trans e7, rfl⟩⟩
  · rintro σ' H3 ⟨e3, rfl⟩
    have hv3 := Dp.same e3 _ _ hv2
    have hu13 := Dp.same e3 _ _ hu12
    have hu23 := Dp.same e3 _ _ hu22
    have tb1 : Tb wd (allD rs ds) := allD_tb tb rfl ok1
    have la1 : (allD rs ds).length = rs.length := allD_len ds
    refine ⟨_, rfl, _, rfl, v, u1, wd, 99, 99, rs, ds, rfl, hv3, hu13, tb.2.2, by omega, by omega, o.bs, by decide, ok1, pow_big (by omega), small1, fun y4 H4 e4 hy4 => ?_⟩
    refine ⟨_, rfl, y4, u2, wd, _, 99, _, es, rfl, hy4, Dp.same e4 _ _ hu23, tb1.2.2, by omega, by omega, bs_all o ok1, by decide, by rw [la1]; exact ok2, pow_big2 (by omega), small1, fun y5 H5 e5 hy5 => ?_⟩
    have e35 := e4.trans e5
    refine ⟨_, rfl, _, rfl, _, rfl, ?_⟩
    refine cat_dp (K := K) (Dp.same e35 _ _ hu13) (Dp.same e35 _ _ hu23) (by rw [List.length_map, List.length_map]; omega) fun v6 H6 e6 hv6 => ?_
    rw [deeds_cat] at hv6
    refine ⟨v, v6, wd, 99, 99, rs, _, rfl, Dp.same (e35.trans e6) _ _ hv3, hv6, tb.2.2, by omega, by omega, o.bs, by decide, ok12, pow_big (by rw [List.length_append]; omega), small1, fun y7 H7 e7 hy7 => ?_⟩
    rw [allD_app] at hy7
    refine ne_dp (K := K) (Dp.same (e6.trans e7) _ _ hy5) hy7 (shp_tab _ _) (by decide) (tabD_tup _ _) ?_
    refine ⟨_, rfl, iteF ?_⟩
    have e37 := (e35.trans e6).trans e7
    have hv7 := Dp.same e37 _ _ hv3
    have hu17 := Dp.same e37 _ _ hu13
    refine ⟨_, rfl, u1, ds, rfl, hu17, by omega, fun y8 H8 e8 hy8 => ?_⟩
    refine ⟨fun σ' H' => Same H8 H' ∧ σ' = [some v, some u1, some u2, some (.int rs.length), some y1, some y2, some y8, none], ?_, ?_⟩
    · have hv8 := Dp.same e8 _ _ hv7
      have hu18 := Dp.same e8 _ _ hu17
      refine ⟨_, rfl, _, rfl, v, u1, wd, 99, 99, rs, ds, rfl, hv8, hu18, tb.2.2, by omega, by omega, o.bs, by decide, ok1, pow_big (by omega), small1, fun y9 H9 e9 hy9 => ?_⟩
      refine ⟨_, rfl, y9, y8, wd, _, 99, _, _, rfl, hy9, Dp.same e9 _ _ hy8, tb1.2.2, by omega, by omega, bs_all o ok1, by decide, by rw [la1]; exact okb, pow_big2 (by omega), small1, fun y10 H10 e10 hy10 => ?_⟩
      rw [allD_back ds rs rfl ok1] at hy10
      refine ⟨_, rfl, ?_⟩
      refine ne_dp (K := K) hy10 (Dp.same (e9.trans e10) _ _ hv8) (shp_tab _ _) (by decide) (tabD_tup _ _) ?_
      refine ⟨_, rfl, iteF ?_⟩
      have e810 := e9.trans e10
      refine ⟨_, rfl, _, rfl, v, y8, wd, 99, 99, rs, _, rfl, Dp.same e810 _ _ hv8, Dp.same e810 _ _ hy8, tb.2.2, by omega, by omega, o.bs, by decide, okb, pow_big (by omega), small1, fun y11 H11 e11 hy11 => ?_⟩
      have tbb : Tb wd (allD rs (backD ds)) := allD_tb tb rfl okb
      have lab : (allD rs (backD ds)).length = rs.length := allD_len _
      have e811 := e810.trans e11
      refine ⟨_, rfl, y11, u1, wd, _, 99, _, ds, rfl, hy11, Dp.same e811 _ _ hu18, tbb.2.2, by omega, by omega, bs_all o okb, by decide, by rw [lab]; exact ok1, pow_big2 (by omega), small1, fun y12 H12 e12 hy12 => ?_⟩
      rw [allD_forth ds rs rfl ok1] at hy12
      refine ⟨_, rfl, ?_⟩
      refine ne_dp (K := K) hy12 (Dp.same (e811.trans e12) _ _ hv8) (shp_tab _ _) (by decide) (tabD_tup _ _) ?_
      exact ⟨_, rfl, iteF ⟨e811.trans e12, rfl⟩⟩
    · rintro σ' H9 ⟨e9, rfl⟩
      refine ⟨_, rfl, _, rfl, y8, rs.length, 99, _, rfl, Dp.same e9 _ _ hy8, by omega, by decide, okb, pow_big1 (by omega), small1, fun y10 H10 e10 hy10 => ?_⟩
      have e210 := (((e3.trans e37).trans e8).trans e9).trans e10
      have hy1' := Dp.same e210 _ _ hy1
      refine ⟨_, rfl, _, rfl, y1, y10, rs.length, _, _, rfl, hy1', hy10, tb_allU (by omega) ok1, tb_allU (by omega) okb, len_allU, len_allU, wd_allU ok1 (by omega), wd_allU okb (by omega), fun H11 e11 => ?_⟩
      rw [decide_eq_true (there_back (by omega) ok1)]
      refine ⟨_, _, rfl, rfl, true, rfl, iteT ?_⟩
      refine ⟨_, rfl, _, rfl, y10, y1, rs.length, _, _, rfl, Dp.same e11 _ _ hy10, Dp.same e11 _ _ hy1', tb_allU (by omega) okb, tb_allU (by omega) ok1, len_allU, len_allU, wd_allU okb (by omega), wd_allU ok1 (by omega), fun H12 e12 => ?_⟩
      rw [decide_eq_true (back_there (by omega) ok1)]
      exact ⟨_, _, rfl, rfl, k _ (((e02.trans e210).trans e11).trans e12)⟩
end K11

set_option Elab.async false
set_option linter.all false
set_option maxRecDepth 100000
set_option maxHeartbeats 1000000
namespace K11
open PySem PySem.Spec PyProof.Rows L2 Gd
variable {P : Program} {w : World} {K : PySem.W.Frag} {mg : Str → Option Value} {base : Heap}
def spMore (K : PySem.W.Frag) : Sp := fun vs H Q _ => ∃ (a s : Addr) (n : Nat), vs = [.ref a] ∧ Fd H a s n ∧ n + 1000 ≤ 1000000 ∧ ∀ H', Q (.bl true) H'
def kept2 (ds es : List Deed) : PyData := .tuple [deedsD ds, deedsD es]
theorem sh_kept2 {m : Nat} {ds es : List Deed} (hm : m ≤ 1000) (h1 : ∀ d ∈ ds, OkD m 99 d) (h2 : ∀ d ∈ es, OkD m 99 d) (l1 : ds.length ≤ 26) (l2 : es.length ≤ 26) : Sh 4 1900000 (kept2 ds es) := by
  refine (Sh.tup (k := 3) (n := 270000) (m := 2) ?_ (by simp)).mono (by decide) (by decide)
  intro d hd
  simp only [List.mem_cons, List.not_mem_nil, or_false] at hd
  rcases hd with rfl | rfl
  · exact sh_deeds hm h1 l1
  · exact sh_deeds hm h2 l2
theorem nat_of {r : Int} {m : Nat} (h0 : 0 ≤ r) (h1 : r < m) : ∃ k : Nat, r = (k : Int) ∧ k < m := ⟨r.toNat, by omega, by omega⟩
theorem ok_l_more_right (D : Df K mg "_law_more_right" s_l_more_right) (B : Bn mg)
    (h_l_draw : Has P w K mg base "_law_draw" 1 p_l_draw spDraw)
    (h_l_deeds : Has P w K mg base "_law_deeds" 4 p_l_deeds (spLDeeds K))
    (h_deeds_table : Has P w K mg base "deeds_table" 7 p_deeds_table (spDTable K))
    (h_led_back : Has P w K mg base "led_back" 2 p_led_back (spBack K))
    (h_times : Has P w K mg base "times" 2 p_times (spTimes K))
    (h_is_back : Has P w K mg base "is_back" 5 p_is_back (spIsBack K))
    (h_done : Has P w K mg base "done" 6 p_done (spDone K)) :
    HasG P w K mg base "_law_more_right" 8 p_l_more_right (spMore K) := by
  refine hasG_of (k := 7) D sc_l_more_right bn_l_more_right ?_ ?_
  · rintro vs H Q E ⟨a, s, n, rfl, _⟩
    rfl
  rintro f cdv A outer s0 H vs Q E hG hr ⟨a, s, n, rfl, f0, hn, k⟩
  refine ⟨_, (pss_cons (ps_asg (pe_has (h_l_draw) (hr.mono (by decide)) (by rfl) (pa_cons (pv 0) (pa_cons pe_int pa_nil))) (pg_name (i := 1) sc_l_more_right.nd rfl (by first | exact Or.inl rfl | exact Or.inr rfl)))
      (pss_cons (ps_asg (pe_op op_add pe_int (pe_has (h_l_draw) (hr.mono (by decide)) (by rfl) (pa_cons (pv 0) (pa_cons pe_int pa_nil)))) (pg_name (i := 2) sc_l_more_right.nd rfl (by first | exact Or.inl rfl | exact Or.inr rfl)))
      (pss_cons (ps_asg (pe_has (h_l_draw) (hr.mono (by decide)) (by rfl) (pa_cons (pv 0) (pa_cons (pv 2) pa_nil))) (pg_name (i := 3) sc_l_more_right.nd rfl (by first | exact Or.inl rfl | exact Or.inr rfl)))
      (pss_cons (ps_asg (pe_op op_modN (pe_op op_add (pe_op op_add (pv 3) pe_int) (pe_has (h_l_draw) (hr.mono (by decide)) (by rfl) (pa_cons (pv 0) (pa_cons (pe_op op_sub (pv 2) pe_int) pa_nil)))) (pv 2)) (pg_name (i := 4) sc_l_more_right.nd rfl (by first | exact Or.inl rfl | exact Or.inr rfl)))
      (pss_cons (ps_par (i := 5) (j := 6) (by rfl) sc_l_more_right.nd rfl rfl (by decide) rfl rfl (pa_cons (pe_has (h_l_deeds) (hr.mono (by decide)) (by rfl) (pa_cons (pv 0) (pa_cons (pv 2) (pa_cons pe_int pa_nil)))) (pa_cons (pe_has (h_l_deeds) (hr.mono (by decide)) (by rfl) (pa_cons (pv 0) (pa_cons (pv 2) (pa_cons pe_int pa_nil)))) pa_nil)) (by rfl))
      (pss_cons (ps_asg (pe_callB (call_reprK (K := K) (by rfl) hG hr.units) (by rfl) B.repr_ (by decide +kernel) (pa_cons (pe_tup (pa_cons (pv 5) (pa_cons (pv 6) pa_nil))) pa_nil)) (pg_name (i := 7) sc_l_more_right.nd rfl (by first | exact Or.inl rfl | exact Or.inr rfl)))
      (pss_cons (ps_par (i := 8) (j := 9) (by rfl) sc_l_more_right.nd rfl rfl (by decide) rfl rfl (pa_cons (pe_has (h_deeds_table) (hr.mono (by decide)) (by rfl) (pa_cons (pv 2) (pa_cons (pv 5) pa_nil))) (pa_cons (pe_has (h_deeds_table) (hr.mono (by decide)) (by rfl) (pa_cons (pv 2) (pa_cons (pv 6) pa_nil))) pa_nil)) (by rfl))
      (pss_cons (ps_asg (pe_has (h_deeds_table) (hr.mono (by decide)) (by rfl) (pa_cons (pv 2) (pa_cons (pe_op (op_catK (K := K) (by rfl)) (pv 5) (pv 6)) pa_nil))) (pg_name (i := 10) sc_l_more_right.nd rfl (by first | exact Or.inl rfl | exact Or.inr rfl)))
      (pss_cons (ps_asg (pe_has (h_deeds_table) (hr.mono (by decide)) (by rfl) (pa_cons (pv 2) (pa_cons (pe_has (h_led_back) (hr.mono (by decide)) (by rfl) (pa_cons (pe_op (op_catK (K := K) (by rfl)) (pv 5) (pv 6)) pa_nil)) pa_nil))) (pg_name (i := 11) sc_l_more_right.nd rfl (by first | exact Or.inl rfl | exact Or.inr rfl)))
      (pss_cons (ps_asg (pe_has (h_times) (hr.mono (by decide)) (by rfl) (pa_cons (pe_has (h_deeds_table) (hr.mono (by decide)) (by rfl) (pa_cons (pv 2) (pa_cons (pe_has (h_led_back) (hr.mono (by decide)) (by rfl) (pa_cons (pv 5) pa_nil)) pa_nil))) (pa_cons (pe_has (h_deeds_table) (hr.mono (by decide)) (by rfl) (pa_cons (pv 2) (pa_cons (pe_has (h_led_back) (hr.mono (by decide)) (by rfl) (pa_cons (pv 6) pa_nil)) pa_nil))) pa_nil))) (pg_name (i := 12) sc_l_more_right.nd rfl (by first | exact Or.inl rfl | exact Or.inr rfl)))
      (Evl.pss_cut (ps_if (PW.pt (pw_or (pt_cmpR (op_neK (K := K) (by rfl) hr.units) (pv 10) (pe_has (h_times) (hr.mono (by decide)) (by rfl) (pa_cons (pv 9) (pa_cons (pv 8) pa_nil))) (nomark _)) (pw_or1 (pt_cmpR (op_neK (K := K) (by rfl) hr.units) (pv 11) (pv 12) (nomark _))))) (pss_one (ps_ret pe_bl)) pss_nil)
      (Evl.pss_cut (ps_if (PW.pt (pw_or (pt_cmpR op_isNotB (pe_has (h_is_back) (hr.mono (by decide)) (by rfl) (pa_cons (pv 10) (pa_cons (pv 11) pa_nil))) pe_bl (nomark _)) (pw_or1 (pt_cmpR op_isNotB (pe_has (h_is_back) (hr.mono (by decide)) (by rfl) (pa_cons (pv 11) (pa_cons (pv 10) pa_nil))) pe_bl (nomark _))))) (pss_one (ps_ret pe_bl)) pss_nil)
      (pss_cons (ps_asg (pe_has (h_done) (hr.mono (by decide)) (by rfl) (pa_cons (pv 10) (pa_cons (pe_tup (pa_cons (pe_ix (ix_listK (K := K) (by rfl)) (pe_lst (pa_cons (pe_tup (pa_cons pe_str (pa_cons (pv 3) pa_nil))) (pa_cons (pe_tup (pa_cons pe_str (pa_cons (pv 3) (pa_cons (pv 4) (pa_cons pe_int pa_nil))))) pa_nil))) (pv 1) (fun _ _ => rfl)) pa_nil)) pa_nil))) (pg_name (i := 13) sc_l_more_right.nd rfl (by first | exact Or.inl rfl | exact Or.inr rfl)))
      (pss_one (ps_ret (pe_and (pe_cmpR op_isB (pe_has (h_is_back) (hr.mono (by decide)) (by rfl) (pa_cons (pv 13) (pa_cons (pv 11) pa_nil))) pe_bl (nomark _)) (pe_and (pe_cmpR op_isB (pe_has (h_is_back) (hr.mono (by decide)) (by rfl) (pa_cons (pv 11) (pa_cons (pv 13) pa_nil))) pe_bl (nomark _)) (pe_one (pe_cmpR op_eq (pe_callB (call_reprK (K := K) (by rfl) hG hr.units) (by rfl) B.repr_ (by decide +kernel) (pa_cons (pe_tup (pa_cons (pv 5) (pa_cons (pv 6) pa_nil))) pa_nil)) (pv 7) (nomark _)))))))))))))))))))), ?_⟩
  refine ⟨_, rfl, a, s, _, n, rfl, f0, by omega, by decide, by decide, fun rw H1 w0 w1 sb1 f1 => ?_⟩
  refine ⟨_, rfl, a, s, _, n + 1, rfl, f1, by omega, by decide, by decide, fun rm H2 m0 m1 sb2 f2 => ⟨_, _, rfl, rfl, ?_⟩⟩
  obtain ⟨m, em, hm5, hm8⟩ : ∃ m : Nat, 5 + rm = (m : Int) ∧ 5 ≤ m ∧ m ≤ 8 := ⟨(5 + rm).toNat, by omega, by omega, by omega⟩
  dsimp only
  rw [em]
  refine ⟨_, rfl, _, rfl, a, s, _, n + 2, rfl, f2, by omega, by omega, by omega, fun ri H3 i0 i1 sb3 f3 => ?_⟩
  obtain ⟨i, rfl⟩ := Int.eq_ofNat_of_zero_le i0
  have hi : i < m := by omega
  refine ⟨_, rfl, _, _, rfl, rfl, _, rfl, _, rfl, _, _, rfl, rfl, a, s, _, n + 3, rfl, f3, by omega, by omega, by omega, fun rj H4 j0 j1 sb4 f4 => ?_⟩
  obtain ⟨r, rfl⟩ := Int.eq_ofNat_of_zero_le j0
  obtain ⟨j, ej, hj, hij⟩ := other_row (r := r) hi hm8 (by omega)
  refine ⟨_, _, rfl, rfl, _, rfl, _, _, rfl, rfl, by omega, ?_⟩
  dsimp only
  rw [ej]
  refine ⟨_, rfl, _, rfl, a, s, m, 6, n + 4, rfl, f4, by omega, by omega, by omega, fun u1 H5 ds sb5 f5 ok1 l1 hu1 => ?_⟩
  refine ⟨_, rfl, _, rfl, a, s, m, 6, n + 204, rfl, f5, by omega, by omega, by omega, fun u2 H6 es sb6 f6 ok2 l2 hu2 => ?_⟩
  have hu1 := Dp.tk (f5.tk sb6) _ _ (deedsD_tup _) hu1
  refine ⟨_, _, rfl, ?_⟩
  have sk := sh_kept2 (by omega) ok1 ok2 (by omega) (by omega)
  obtain ⟨S1, hS1⟩ : ∃ S1, (kept2 ds es).shown = S1 := ⟨_, rfl⟩
  refine ⟨_, rfl, _, rfl, by show 2 ≤ sizeLine; decide, fun p7 np7 => ?_⟩
  obtain ⟨H7, xH7, e7, h7⟩ := tup_new (K := K) np7 (.cons hu1 (.cons hu2 .nil))
  rw [xH7]
  have h7 : Dp K H7 (.ref p7) (kept2 ds es) := h7
  try dsimp only [tC, tNil]
  refine repr_dp h7 ⟨_, rfl⟩ sk (by decide) (by decide) hS1 ?_
  have hu1 := Dp.same e7 _ _ hu1
  have hu2 := Dp.same e7 _ _ hu2
  have ok12 := ok_app ok1 ok2
  have okb := backD_ok ok12
  have l12 : (ds ++ es).length ≤ 12 := by rw [List.length_append]; omega
  have lb := backD_len (ds ++ es)
  refine ⟨_, rfl, _, rfl, u1, m, 99, ds, rfl, hu1, by omega, by decide, ok1, pow_big1 (by omega), small1, fun y1 H8 e8 hy1 => ?_⟩
  refine ⟨_, rfl, _, rfl, u2, m, 99, es, rfl, Dp.same e8 _ _ hu2, by omega, by decide, ok2, pow_big1 (by omega), small1, fun y2 H9 e9 hy2 => ?_⟩
  have e79 := e8.trans e9
  have hy1 := Dp.same e9 _ _ hy1
  have hu1 := Dp.same e79 _ _ hu1
  have hu2 := Dp.same e79 _ _ hu2
  refine ⟨_, _, rfl, ?_⟩
  refine ⟨_, rfl, _, rfl, _, rfl, ?_⟩
  refine cat_dp (K := K) hu1 hu2 (by rw [List.length_map, List.length_map]; omega) fun v10 H10 e10 hv10 => ?_
  rw [deeds_cat] at hv10
  refine ⟨v10, m, 99, _, rfl, hv10, by omega, by decide, ok12, pow_big1 (by omega), small1, fun y3 H11 e11 hy3 => ?_⟩
  have e911 := e10.trans e11
  have hu1 := Dp.same e911 _ _ hu1
  have hu2 := Dp.same e911 _ _ hu2
  refine ⟨_, rfl, _, rfl, _, rfl, ?_⟩
  refine cat_dp (K := K) hu1 hu2 (by rw [List.length_map, List.length_map]; omega) fun v12 H12 e12 hv12 => ?_
  rw [deeds_cat] at hv12
  refine ⟨v12, _, rfl, hv12, by omega, fun v13 H13 e13 hv13 => ?_⟩
  refine ⟨v13, m, 99, _, rfl, hv13, by omega, by decide, okb, pow_big1 (by omega), small1, fun y4 H14 e14 hy4 => ?_⟩
  have e1114 := (e12.trans e13).trans e14
  have hu1 := Dp.same e1114 _ _ hu1
  have hu2 := Dp.same e1114 _ _ hu2
  have hy3 := Dp.same e1114 _ _ hy3
  refine ⟨_, rfl, _, rfl, u1, ds, rfl, hu1, by omega, fun v15 H15 e15 hv15 => ?_⟩
  refine ⟨v15, m, 99, _, rfl, hv15, by omega, by decide, backD_ok ok1, pow_big1 (by rw [backD_len]; omega), small1, fun y5 H16 e16 hy5 => ?_⟩
  have e1416 := e15.trans e16
  refine ⟨_, rfl, _, rfl, u2, es, rfl, Dp.same e1416 _ _ hu2, by omega, fun v17 H17 e17 hv17 => ?_⟩
  refine ⟨v17, m, 99, _, rfl, hv17, by omega, by decide, backD_ok ok2, pow_big1 (by rw [backD_len]; omega), small1, fun y6 H18 e18 hy6 => ?_⟩
  have e1618 := e17.trans e18
  refine ⟨y5, y6, m, _, m, _, rfl, Dp.same e1618 _ _ hy5, hy6, tb_allU (by omega) (backD_ok ok1), tb_allU (by omega) (backD_ok ok2), len_allU.symm, wd_allU (backD_ok ok1) (by rw [backD_len]; omega), wd_allU (backD_ok ok2) (by rw [backD_len]; omega), fun y7 H19 e19 hy7 => ?_⟩
  rw [both_mul (by omega) (backD_ok ok2) (backD_ok ok1), ← backD_app] at hy7
  have e1419 := (e1416.trans e1618).trans e19
  have hu1 := Dp.same e1419 _ _ hu1
  have hu2 := Dp.same e1419 _ _ hu2
  have hy3 := Dp.same e1419 _ _ hy3
  have hy4 := Dp.same e1419 _ _ hy4
  have e919 := (e911.trans e1114).trans e1419
  have hy1 := Dp.same e919 _ _ hy1
  have hy2 := Dp.same e919 _ _ hy2
  have t1 := tb_allU (by omega : m ≤ 1000) ok1
  have t2 := tb_allU (by omega : m ≤ 1000) ok2
  have t12 := tb_allU (by omega : m ≤ 1000) ok12
  have tbk := tb_allU (by omega : m ≤ 1000) okb
  refine ⟨fun σ' H' => Same H19 H' ∧ σ' = [some (.ref a), some (.int rw), some (.int m), some (.int i), some (.int j), some u1, some u2, some (.str S1), some y1, some y2, some y3, some y4, some y7, none], ?_, ?_⟩
  · refine ⟨_, rfl, _, rfl, _, rfl, y2, y1, m, _, m, _, rfl, hy2, hy1, t2, t1, len_allU.symm, wd_allU ok2 (by omega), wd_allU ok1 (by omega), fun y8 H20 e20 hy8 => ?_⟩
    rw [both_mul (by omega) ok1 ok2] at hy8
    refine ne_dp (K := K) (Dp.same e20 _ _ hy3) hy8 (shp_tab _ _) (by decide) (tabD_tup _ _) ?_
    refine ⟨_, rfl, iteF ?_⟩
    refine ⟨_, rfl, _, rfl, ?_⟩
    refine ne_dp (K := K) (Dp.same e20 _ _ hy4) (Dp.same e20 _ _ hy7) (shp_tab _ _) (by decide) (tabD_tup _ _) ?_
    exact ⟨_, rfl, iteF ⟨e20, rfl⟩⟩
  rintro σ' H20 ⟨e20, rfl⟩
  have hu1 := Dp.same e20 _ _ hu1
  have hu2 := Dp.same e20 _ _ hu2
  have hy3 := Dp.same e20 _ _ hy3
  have hy4 := Dp.same e20 _ _ hy4
  refine ⟨fun σ' H' => Same H20 H' ∧ σ' = [some (.ref a), some (.int rw), some (.int m), some (.int i), some (.int j), some u1, some u2, some (.str S1), some y1, some y2, some y3, some y4, some y7, none], ?_, ?_⟩
  · refine ⟨_, rfl, _, rfl, y3, y4, m, _, _, rfl, hy3, hy4, t12, tbk, len_allU, len_allU, wd_allU ok12 (by omega), wd_allU okb (by omega), fun H21 e21 => ?_⟩
    rw [decide_eq_true (there_back (by omega) ok12)]
    refine ⟨_, _, rfl, rfl, _, rfl, iteF ?_⟩
    refine ⟨_, rfl, _, rfl, y4, y3, m, _, _, rfl, Dp.same e21 _ _ hy4, Dp.same e21 _ _ hy3, tbk, t12, len_allU, len_allU, wd_allU okb (by omega), wd_allU ok12 (by omega), fun H22 e22 => ?_⟩
    rw [decide_eq_true (back_there (by omega) ok12)]
    exact ⟨_, _, rfl, rfl, _, rfl, iteF ⟨e21.trans e22, rfl⟩⟩
  rintro σ' H21 ⟨e21, rfl⟩
  have hu1 := Dp.same e21 _ _ hu1
  have hu2 := Dp.same e21 _ _ hu2
  have hy3 := Dp.same e21 _ _ hy3
  have hy4 := Dp.same e21 _ _ hy4
  refine ⟨_, rfl, ?_⟩
  refine ⟨_, rfl, by show 2 ≤ sizeLine; decide, fun p1 np1 => ?_⟩
  obtain ⟨H22, xH22, e22, h22⟩ := tup_new (K := K) np1 (.cons (.str "turn") (.cons (.int (i : Int)) .nil))
  rw [xH22]
  refine ⟨_, rfl, _, rfl, by show 4 ≤ sizeLine; decide, fun p2 np2 => ?_⟩
  obtain ⟨H23, xH23, e23, h23⟩ := tup_new (K := K) np2 (.cons (.str "add") (.cons (.int (i : Int)) (.cons (.int (j : Int)) (.cons (.int 1) .nil))))
  rw [xH23]
  refine ⟨by show 2 ≤ sizeLine; decide, fun p3 np3 => ?_⟩
  obtain ⟨H24, xH24, e24, h24, _⟩ := lst_new (K := K) np3 (.cons (Dp.same e23 _ _ h22) (.cons h23 .nil))
  rw [xH24]
  have hturn : Dp K H24 (.ref p1) (deedD (.turn i)) := Dp.same (e23.trans e24) _ _ h22
  have hadd : Dp K H24 (.ref p2) (deedD (.add i j 1)) := Dp.same e24 _ _ h23
  obtain ⟨x, dd, hat, hx, okd, hne⟩ : ∃ (x : V) (dd : Deed), atI [V.ref p1, V.ref p2] rw = some x ∧ Dp K H24 x (deedD dd) ∧ OkD m 99 dd ∧ stepD (unitR m) dd ≠ unitR m := by
    have : rw = 0 ∨ rw = 1 := by omega
    rcases this with rfl | rfl
    · exact ⟨.ref p1, .turn i, rfl, hturn, hi, unit_turn_ne hi⟩
    · exact ⟨.ref p2, .add i j 1, rfl, hadd, ⟨hi, hj, hij, by decide, by decide⟩, unit_add_ne hi hj hij⟩
  refine ⟨_, rfl, p3, _, rw, x, rfl, rfl, SqL.of h24, hat, ?_⟩
  refine ⟨by show 1 ≤ sizeLine; decide, fun p4 np4 => ?_⟩
  obtain ⟨H25, xH25, e25, h25⟩ := tup_new (K := K) np4 (.cons hx .nil)
  rw [xH25]
  have h25 : Dp K H25 (.ref p4) (deedsD [dd]) := h25
  have e2125 := ((e22.trans e23).trans e24).trans e25
  have okdd : ∀ d ∈ [dd], OkD m 99 d := fun d hd => by
    rw [List.mem_singleton.mp hd]
    exact okd
  refine ⟨y3, .ref p4, m, _, 99, _, [dd], rfl, Dp.same e2125 _ _ hy3, h25, t12.2.2, by omega, by rw [len_allU]; omega, bs_allU ok12, by decide, by rw [len_allU]; exact okdd, pow_big3 (by show (ds ++ es).length + 1 ≤ 40; omega), small1, fun y8 H26 e26 hy8 => ?_⟩
  have hy8 : Dp K H26 y8 (tabD m (stepD (allD (unitR m) (ds ++ es)) dd)) := hy8
  have tf : Tb m (stepD (allD (unitR m) (ds ++ es)) dd) := ⟨by rw [stepD_len, len_allU]; omega, by omega, stepD_wide t12.2.2 len_allU okd⟩
  have lf : (stepD (allD (unitR m) (ds ++ es)) dd).length = m := by rw [stepD_len, len_allU]
  have wf : ∀ r ∈ stepD (allD (unitR m) (ds ++ es)) dd, Wd r := by
    have := wd_allU (ds := (ds ++ es) ++ [dd]) (ok_app ok12 okdd) (by rw [List.length_append]; show (ds ++ es).length + 1 ≤ 40; omega)
    rw [allD_app] at this
    exact this
  have e2126 := e2125.trans e26
  have hu1 := Dp.same e2126 _ _ hu1
  have hu2 := Dp.same e2126 _ _ hu2
  have hy4 := Dp.same e2126 _ _ hy4
  refine ⟨_, rfl, _, rfl, y8, y4, m, _, _, rfl, hy8, hy4, tf, tbk, lf, len_allU, wf, wd_allU okb (by omega), fun H27 e27 => ?_⟩
  rw [decide_eq_false (by rw [further_mul (by omega) ok12 okd]; exact hne)]
  refine ⟨_, _, rfl, rfl, true, rfl, iteT ?_⟩
  refine ⟨_, rfl, _, rfl, y4, y8, m, _, _, rfl, Dp.same e27 _ _ hy4, Dp.same e27 _ _ hy8, tbk, tf, len_allU, lf, wd_allU okb (by omega), wf, fun H28 e28 => ?_⟩
  rw [decide_eq_false (mul_further (by omega) ok12 okd hne)]
  refine ⟨_, _, rfl, rfl, true, rfl, iteT ?_⟩
  have e2628 := e27.trans e28
  refine ⟨_, rfl, _, rfl, by show 2 ≤ sizeLine; decide, fun p5 np5 => ?_⟩
  obtain ⟨H29, xH29, e29, h29⟩ := tup_new (K := K) np5 (.cons (Dp.same e2628 _ _ hu1) (.cons (Dp.same e2628 _ _ hu2) .nil))
  rw [xH29]
  have h29 : Dp K H29 (.ref p5) (kept2 ds es) := h29
  try dsimp only [tC, tNil]
  refine repr_dp h29 ⟨_, rfl⟩ sk (by decide) (by decide) hS1 ?_
  refine ⟨_, rfl, rfl, ?_⟩
  rw [decide_eq_true (rfl : V.str _ = V.str _)]
  exact k _
end K11

set_option Elab.async false
set_option linter.all false
set_option maxRecDepth 100000
set_option maxHeartbeats 1000000
namespace K11
open PySem PySem.Spec PyProof.Rows L2 Gd
variable {P : Program} {w : World} {K : PySem.W.Frag} {mg : Str → Option Value} {base : Heap}
theorem sql_sb {K : PySem.W.Frag} {H0 H1 H' : Hp} {a sc : Addr} {xs : List V} (h0 : SqL K H0 sc xs) (na : H0 a = none) (e1 : Same H0 H1) (sb : Sb a H1 H') : SqL K H' sc xs := by
  rcases h0 with (h | ⟨o, h⟩) | h
  · exact Or.inl (Or.inl (sb _ _ (ne_of_none h na) (e1 _ _ h)))
  · exact Or.inl (Or.inr ⟨o, sb _ _ (ne_of_none h na) (e1 _ _ h)⟩)
  · exact Or.inr h
def kept3 (wd : Nat) (rs : List (List Int)) (ds es : List Deed) : PyData := .tuple [tabD wd rs, deedsD ds, deedsD es]
theorem sh_kept3 {m wd : Nat} {rs : List (List Int)} {ds es : List Deed} (hm : m ≤ 8) (hw : wd ≤ 8) (o : OkT m wd rs) (h1 : ∀ d ∈ ds, OkD m 99 d) (h2 : ∀ d ∈ es, OkD m 99 d) (l1 : ds.length ≤ 26) (l2 : es.length ≤ 26) : Sh 4 1900000 (kept3 wd rs ds es) := by
  refine (Sh.tup (k := 3) (n := 270000) (m := 3) ?_ (by simp)).mono (by decide) (by decide)
  intro d hd
  simp only [List.mem_cons, List.not_mem_nil, or_false] at hd
  rcases hd with rfl | rfl | rfl
  · exact sh_tab (nat_1900 (by omega)) (rk_ok o hm hw)
  · exact sh_deeds (by omega) h1 l1
  · exact sh_deeds (by omega) h2 l2
def spLaw (K : PySem.W.Frag) : Sp := fun vs H Q _ => ∃ (a : Addr) (ns : List Int), vs = [.ref a] ∧ SqL K H a (ns.map V.int) ∧ ns.length ≤ 63 ∧ ∀ H', Q (.bl true) H'
abbrev FnP (K : PySem.W.Frag) (x : Str) (st : Stmt) (f : Addr) (fd : FuncData) : Prop := FunD K x x (defArgs st) (defBody st) (defScope st) [] [] f fd
theorem ok_law {f : Addr} {fd : FuncData} (F : FnP K "law" s_law f fd) (B : Bn mg)
    (h_l_feed : Has P w K mg base "_law_feed" 1 p_l_feed (spFeed K))
    (h_l_draw : Has P w K mg base "_law_draw" 1 p_l_draw spDraw)
    (h_l_table : Has P w K mg base "_law_table" 4 p_l_table (spTable K))
    (h_l_deeds : Has P w K mg base "_law_deeds" 4 p_l_deeds (spLDeeds K))
    (h_l_right : Has P w K mg base "_law_right" 8 p_l_right (spRight K))
    (h_turned_over : Has P w K mg base "turned_over" 1 p_turned_over (spTurn K))
    (h_done : Has P w K mg base "done" 6 p_done (spDone K))
    (h_times : Has P w K mg base "times" 2 p_times (spTimes K))
    (h_deeds_table : Has P w K mg base "deeds_table" 7 p_deeds_table (spDTable K))
    (h_l_more_right : HasG P w K mg base "_law_more_right" 8 p_l_more_right (spMore K)) :
    FnG P w K mg base 9 f fd ["_law_script"] (spLaw K) := by
  refine okG (k := 8) F sc_law ?_ ?_
  · rintro vs H Q E ⟨a, ns, rfl, _⟩
    rfl
  rintro cdv A outer s0 H vs Q E hG hr ⟨sc, ns, rfl, hS, hl, k⟩
  refine ⟨_, PSs.nox (pss_cons (ps_asg (pe_has (h_l_feed) (hr.mono (by decide)) (by rfl) (pa_cons (pv 0) pa_nil)) (pg_name (i := 1) sc_law.nd rfl (by first | exact Or.inl rfl | exact Or.inr rfl)))
      (pss_cons (ps_for PassesOwn.never rfl (pi_range1 (by rfl) B.range_ (pa_cons pe_int pa_nil)) (pg_name (i := 2) sc_law.nd rfl (by first | exact Or.inl rfl | exact Or.inr rfl)) (pss_cons (ps_asg (pe_op op_add pe_int (pe_has (h_l_draw) (hr.mono (by decide)) (by rfl) (pa_cons (pv 1) (pa_cons pe_int pa_nil)))) (pg_name (i := 3) sc_law.nd rfl (by first | exact Or.inl rfl | exact Or.inr rfl)))
      (pss_cons (ps_asg (pe_has (h_l_table) (hr.mono (by decide)) (by rfl) (pa_cons (pv 1) (pa_cons (pv 3) (pa_cons (pe_has (h_l_draw) (hr.mono (by decide)) (by rfl) (pa_cons (pv 1) (pa_cons pe_int pa_nil))) pa_nil)))) (pg_name (i := 4) sc_law.nd rfl (by first | exact Or.inl rfl | exact Or.inr rfl)))
      (pss_cons (ps_par (i := 5) (j := 6) (by rfl) sc_law.nd rfl rfl (by decide) rfl rfl (pa_cons (pe_has (h_l_deeds) (hr.mono (by decide)) (by rfl) (pa_cons (pv 1) (pa_cons (pv 3) (pa_cons pe_int pa_nil)))) (pa_cons (pe_has (h_l_deeds) (hr.mono (by decide)) (by rfl) (pa_cons (pv 1) (pa_cons (pv 3) (pa_cons pe_int pa_nil)))) pa_nil)) (by rfl))
      (pss_cons (ps_asg (pe_callB (call_reprK (K := K) (by rfl) hG hr.units) (by rfl) B.repr_ (by decide +kernel) (pa_cons (pe_tup (pa_cons (pv 4) (pa_cons (pv 5) (pa_cons (pv 6) pa_nil)))) pa_nil)) (pg_name (i := 7) sc_law.nd rfl (by first | exact Or.inl rfl | exact Or.inr rfl)))
      (pss_cons (ps_if (pt_not (pt_val (pe_has (h_l_right) (hr.mono (by decide)) (by rfl) (pa_cons (pv 4) (pa_cons (pv 5) (pa_cons (pv 6) pa_nil)))))) (pss_one (ps_ret pe_bl)) pss_nil)
      (pss_cons (ps_asg (pe_has (h_turned_over) (hr.mono (by decide)) (by rfl) (pa_cons (pv 4) pa_nil)) (pg_name (i := 8) sc_law.nd rfl (by first | exact Or.inl rfl | exact Or.inr rfl)))
      (pss_cons (ps_if (pt_cmpR (op_neK (K := K) (by rfl) hr.units) (pe_has (h_turned_over) (hr.mono (by decide)) (by rfl) (pa_cons (pe_has (h_done) (hr.mono (by decide)) (by rfl) (pa_cons (pv 8) (pa_cons (pe_tup pa_nil) pa_nil))) pa_nil)) (pv 4) (nomark _)) (pss_one (ps_ret pe_bl)) pss_nil)
      (Evl.pss_cut (ps_if (pt_cmpR op_gt (pe_ix (ix_tupK (K := K) (by rfl)) (pv 4) pe_int (fun _ _ => rfl)) pe_int (nomark _)) (pss_cons (ps_asg (pe_has (h_l_deeds) (hr.mono (by decide)) (by rfl) (pa_cons (pv 1) (pa_cons (pe_ix (ix_tupK (K := K) (by rfl)) (pv 4) pe_int (fun _ _ => rfl)) (pa_cons pe_int pa_nil)))) (pg_name (i := 9) sc_law.nd rfl (by first | exact Or.inl rfl | exact Or.inr rfl)))
      (pss_cons (ps_asg (pe_has (h_turned_over) (hr.mono (by decide)) (by rfl) (pa_cons (pe_has (h_done) (hr.mono (by decide)) (by rfl) (pa_cons (pv 8) (pa_cons (pv 9) pa_nil))) pa_nil)) (pg_name (i := 10) sc_law.nd rfl (by first | exact Or.inl rfl | exact Or.inr rfl)))
      (pss_one (ps_if (pt_cmpR (op_neK (K := K) (by rfl) hr.units) (pv 10) (pe_has (h_times) (hr.mono (by decide)) (by rfl) (pa_cons (pv 4) (pa_cons (pe_has (h_turned_over) (hr.mono (by decide)) (by rfl) (pa_cons (pe_has (h_deeds_table) (hr.mono (by decide)) (by rfl) (pa_cons (pe_ix (ix_tupK (K := K) (by rfl)) (pv 4) pe_int (fun _ _ => rfl)) (pa_cons (pv 9) pa_nil))) pa_nil)) pa_nil))) (nomark _)) (pss_one (ps_ret pe_bl)) pss_nil)))) pss_nil)
      (pss_one (ps_if (pt_cmpR op_ne (pe_callB (call_reprK (K := K) (by rfl) hG hr.units) (by rfl) B.repr_ (by decide +kernel) (pa_cons (pe_tup (pa_cons (pv 4) (pa_cons (pv 5) (pa_cons (pv 6) pa_nil)))) pa_nil)) (pv 7) (nomark _)) (pss_one (ps_ret pe_bl)) pss_nil)))))))))))
      (pss_cons (ps_asg (pe_has (h_l_feed) (hr.mono (by decide)) (by rfl) (pa_cons (pe_revLK (K := K) (by rfl) (pe_slice (sl_listK (K := K) (by rfl)) (pv 0) po_none (po_some pe_int))) pa_nil)) (pg_name (i := 11) sc_law.nd rfl (by first | exact Or.inl rfl | exact Or.inr rfl)))
      (pss_cons (ps_asg pe_int (pg_sub (pv 11) pe_int set_list))
      (pss_one (ps_ret (pe_hasG (h_l_more_right) hG (hr.mono (by decide)) (by rfl) (pa_cons (pv 11) pa_nil)))))))), ?_⟩
  refine ⟨_, rfl, sc, ns, rfl, hS, hl, fun a s H1 na ns1 e1 f1 => ?_⟩
  refine ⟨3, rfl, by decide, by decide, for_range (lo := 0) (n := 3) (fun i σ H' => (∃ v2 v3 v4 v5 v6 v7 v8 v9 v10 v11 : Option V,
    σ = [some (.ref sc), some (.ref a), v2, v3, v4, v5, v6, v7, v8, v9, v10, v11]) ∧ Fd H' a s (2000 * i) ∧ Sb a H1 H') ?_ ?_ ?_⟩
  · exact ⟨⟨_, _, _, _, _, _, _, _, _, _, rfl⟩, f1, Sb.refl a H1⟩
  · rintro i σ H0 hi ⟨⟨v2, v3, v4, v5, v6, v7, v8, v9, v10, v11, rfl⟩, f0, sb0⟩
    refine ⟨_, rfl, a, s, _, 2000 * i, rfl, f0, by omega, by decide, by decide, fun rm H2 m0 m1 sb2 f2 => ⟨_, _, rfl, rfl, ?_⟩⟩
    obtain ⟨m, em, hm1, hm4⟩ : ∃ m : Nat, 1 + rm = (m : Int) ∧ 1 ≤ m ∧ m ≤ 4 := ⟨(1 + rm).toNat, by omega, by omega, by omega⟩
    dsimp only
    rw [em]
    refine ⟨_, rfl, _, rfl, _, rfl, a, s, _, 2000 * i + 1, rfl, f2, by omega, by decide, by decide, fun rw H3 w0 w1 sb3 f3 => ?_⟩
    obtain ⟨wd, rfl, hwd⟩ := nat_of (m := 5) w0 w1
    refine ⟨a, s, m, wd, 2000 * i + 2, rfl, f3, by omega, by omega, by omega, fun v1 H4 rs sb4 f4 o hv1 => ?_⟩
    refine ⟨_, rfl, _, rfl, a, s, m, 6, 2000 * i + 202, rfl, f4, by omega, by omega, by omega, fun u1 H5 ds sb5 f5 ok1 l1 hu1 => ?_⟩
    have hv1 := Dp.tk (f4.tk sb5) _ _ (tabD_tup _ _) hv1
    refine ⟨_, rfl, _, rfl, a, s, m, 6, 2000 * i + 402, rfl, f5, by omega, by omega, by omega, fun u2 H6 es sb6 f6 ok2 l2 hu2 => ?_⟩
    have hv1 := Dp.tk (f5.tk sb6) _ _ (tabD_tup _ _) hv1
    have hu1 := Dp.tk (f5.tk sb6) _ _ (deedsD_tup _) hu1
    refine ⟨_, _, rfl, ?_⟩
    have sb06 := ((((sb0.trans sb2).trans sb3).trans sb4).trans sb5).trans sb6
    have hlen : rs.length = m := o.1
    subst hlen
    have tb : Tb wd rs := o.tb (by omega) (by omega)
    have sk := sh_kept3 (by omega) (by omega) o ok1 ok2 (by omega) (by omega)
    obtain ⟨S1, hS1⟩ : ∃ S1, (kept3 wd rs ds es).shown = S1 := ⟨_, rfl⟩
    refine ⟨_, rfl, _, rfl, _, rfl, by show 3 ≤ sizeLine; decide, fun p7 np7 => ?_⟩
    obtain ⟨H7, xH7, e7, h7⟩ := tup_new (K := K) np7 (.cons hv1 (.cons hu1 (.cons hu2 .nil)))
    rw [xH7]
    have h7 : Dp K H7 (.ref p7) (kept3 wd rs ds es) := h7
    try dsimp only [tC, tNil]
    refine repr_dp h7 ⟨_, rfl⟩ sk (by decide) (by decide) hS1 ?_
    have hv1 := Dp.same e7 _ _ hv1
    have hu1 := Dp.same e7 _ _ hu1
    have hu2 := Dp.same e7 _ _ hu2
    refine ⟨_, rfl, _, rfl, _, rfl, v1, u1, u2, wd, rs, ds, es, rfl, hv1, hu1, hu2, o, by omega, by omega, ok1, ok2, l1, l2, fun H8 e8 => ?_⟩
    refine ⟨_, rfl, iteF ?_⟩
    have hv1 := Dp.same e8 _ _ hv1
    refine ⟨_, rfl, v1, wd, rs, rfl, hv1, tb, fun y9 H9 e9 hy9 => ?_⟩
    have hv1 := Dp.same e9 _ _ hv1
    have tt : Tb rs.length (turnR wd rs) := turn_tb tb.1 tb.2.1
    have bt : Bs ((99 : Nat) : Int) (turnR wd rs) := bs_turn (by decide) o.bs
    refine ⟨_, rfl, by show 0 ≤ sizeLine; decide, fun p10 np10 => ?_⟩
    obtain ⟨H10, xH10, e10, h10⟩ := tup_new (K := K) np10 .nil
    rw [xH10]
    have h10 : Dp K H10 (.ref p10) (deedsD []) := h10
    refine ⟨y9, .ref p10, rs.length, 99, 99, turnR wd rs, [], rfl, Dp.same e10 _ _ hy9, h10, tt.2.2, by omega, by rw [turn_len]; omega, bt, by decide, (fun d hd => nomatch hd), pow_big (n := 0) (by decide), small1, fun y11 H11 e11 hy11 => ?_⟩
    have hy11 : Dp K H11 y11 (tabD rs.length (turnR wd rs)) := hy11
    refine ⟨y11, rs.length, _, rfl, hy11, tt, fun y12 H12 e12 hy12 => ?_⟩
    rw [turn_turn tb, turn_len] at hy12
    have e912 := (e10.trans e11).trans e12
    have hv1 := Dp.same e912 _ _ hv1
    have hy9 := Dp.same e912 _ _ hy9
    refine ⟨_, rfl, ?_⟩
    refine ne_dp (K := K) hy12 hv1 (shp_tab _ _) (by decide) (tabD_tup _ _) ?_
    refine ⟨_, rfl, iteF ?_⟩
    have e612 := (((e7.trans e8).trans e9).trans e912)
    have f12 := f6.same e612
    have sb012 := sb06.trans (Sb.of e612)
    refine ⟨fun σ' H' => (∃ v9 v10 : Option V, σ' = [some (.ref sc), some (.ref a), some (.int (0 + (i : Int))), some (.int rs.length), some v1, some u1, some u2, some (.str S1), some y9, v9, v10, v11]) ∧
      Fd H' a s (2000 * i + 802) ∧ Sb a H12 H', ?_, ?_⟩
    · refine ⟨_, rfl, ?_⟩
      try dsimp only [tC, tNil]
      refine ix_dp (i := 0) hv1 rfl fun z hz => ?_
      have ez := dp_int hz
      subst ez
      refine ⟨_, _, rfl, rfl, _, rfl, ?_⟩
      refine ite2 (fun hpos => ?_) (fun _ => ?_)
      · refine ⟨_, rfl, _, rfl, ?_⟩
        try dsimp only [tC, tNil]
        refine ix_dp (i := 0) hv1 rfl fun z hz => ?_
        have ez := dp_int hz
        subst ez
        refine ⟨a, s, wd, 6, 2000 * i + 602, rfl, f12, by omega, by omega, by omega, fun u3 H13 cs sb13 f13 ok3 l3 hu3 => ?_⟩
        have hv1 := Dp.tk (f12.tk sb13) _ _ (tabD_tup _ _) hv1
        have hy9 := Dp.tk (f12.tk sb13) _ _ (tabD_tup _ _) hy9
        refine ⟨_, rfl, _, rfl, y9, u3, rs.length, 99, 99, turnR wd rs, cs, rfl, hy9, hu3, tt.2.2, by omega, by rw [turn_len]; omega, bt, by decide, by rw [turn_len]; exact ok3, pow_big (by omega), small1, fun y14 H14 e14 hy14 => ?_⟩
        have ta : Tb rs.length (allD (turnR wd rs) cs) := allD_tb tt turn_len ok3
        have la : (allD (turnR wd rs) cs).length = wd := by rw [allD_len, turn_len]
        refine ⟨y14, rs.length, _, rfl, hy14, ta, fun y15 H15 e15 hy15 => ?_⟩
        rw [la, cols_mul tb rfl ok3] at hy15
        have hv1 := Dp.same (e14.trans e15) _ _ hv1
        have hu3 := Dp.same (e14.trans e15) _ _ hu3
        refine ⟨_, rfl, _, rfl, _, rfl, ?_⟩
        try dsimp only [tC, tNil]
        refine ix_dp (i := 0) hv1 rfl fun z hz => ?_
        have ez := dp_int hz
        subst ez
        refine ⟨_, rfl, u3, wd, 99, cs, rfl, hu3, by omega, by decide, ok3, pow_big1 (by omega), small1, fun y16 H16 e16 hy16 => ?_⟩
        have tu := tb_allU (by omega : wd ≤ 1000) ok3
        refine ⟨y16, wd, _, rfl, hy16, tu, fun y17 H17 e17 hy17 => ?_⟩
        rw [len_allU] at hy17
        have hv1 := Dp.same (e16.trans e17) _ _ hv1
        have tw : Tb wd (turnR wd (allD (unitR wd) cs)) := by
          have := turn_tb (rs := allD (unitR wd) cs) (w := wd) tu.1 tu.2.1
          rw [len_allU] at this
          exact this
        have bw : ∀ r ∈ turnR wd (allD (unitR wd) cs), Wd r := Bs.wd (b := 1 * (99 + 1) ^ cs.length) (bs_turn (by omega) (bs_allU ok3)) (pow_big1 (by omega))
        refine ⟨v1, y17, wd, rs, wd, _, rfl, hv1, hy17, tb, tw, turn_len.symm, wd_ok o, bw, fun y18 H18 e18 hy18 => ?_⟩
        refine ne_dp (K := K) (Dp.same ((e16.trans e17).trans e18) _ _ hy15) hy18 (shp_tab _ _) (by decide) (tabD_tup _ _) ?_
        have e1318 := (((e14.trans e15).trans e16).trans e17).trans e18
        exact ⟨_, rfl, iteF ⟨⟨_, _, rfl⟩, f13.same e1318, sb13.trans (Sb.of e1318)⟩⟩
      · exact ⟨⟨_, _, rfl⟩, f12.mono (by omega), Sb.refl a H12⟩
    · rintro σ' H13 ⟨⟨w9, w10, rfl⟩, f13, sb13⟩
      have tk13 := f12.tk sb13
      have e812 := e9.trans e912
      have hv1 := Dp.tk tk13 _ _ (tabD_tup _ _) hv1
      have hu1 := Dp.tk tk13 _ _ (deedsD_tup _) (Dp.same (e8.trans e812) _ _ hu1)
      have hu2 := Dp.tk tk13 _ _ (deedsD_tup _) (Dp.same (e8.trans e812) _ _ hu2)
      refine ⟨_, rfl, _, rfl, _, rfl, by show 3 ≤ sizeLine; decide, fun p14 np14 => ?_⟩
      obtain ⟨H14, xH14, e14, h14⟩ := tup_new (K := K) np14 (.cons hv1 (.cons hu1 (.cons hu2 .nil)))
      rw [xH14]
      have h14 : Dp K H14 (.ref p14) (kept3 wd rs ds es) := h14
      try dsimp only [tC, tNil]
      refine repr_dp h14 ⟨_, rfl⟩ sk (by decide) (by decide) hS1 ?_
      refine ⟨_, rfl, rfl, _, rfl, ?_⟩
      refine iteNS rfl ⟨⟨_, _, _, _, _, _, _, _, _, _, rfl⟩, ?_, ?_⟩
      · exact (f13.same e14).mono (by omega)
      · exact (sb012.trans sb13).trans (Sb.of e14)
  · rintro σ H' ⟨⟨v2, v3, v4, v5, v6, v7, v8, v9, v10, v11, rfl⟩, f0, sb0⟩
    have hS' := sql_sb hS na e1 sb0
    refine ⟨_, rfl, _, rfl, sc, _, rfl, hS', fun p1 np1 => ?_⟩
    obtain ⟨ms, ems, hms⟩ := cut_ints ns none (some 63)
    rw [ems]
    refine ⟨p1, _, rfl, SqL.of upd_same, fun p2 np2 => ?_⟩
    rw [← List.map_reverse]
    refine ⟨p2, ms.reverse, rfl, SqL.of upd_same, by rw [List.length_reverse]; omega, fun a2 s2 H2 na2 ns2 e2 f2 => ?_⟩
    obtain ⟨qs, p, l, c, ha, hs, hl2, hp, hc, hcn⟩ := f2
    have nsa : s2 ≠ a2 := ne_of hs ha ref_ints
    refine ⟨_, rfl, a2, _, 3, 3, rfl, rfl, ha, rfl, ?_⟩
    have f3 : Fd (upd H2 a2 (.lst [.ref s2, .int p, .int l, .int 500])) a2 s2 500 := ⟨qs, p, l, 500, upd_same, by rw [upd_ne nsa]; exact hs, hl2, hp, by decide, by decide⟩
    exact ⟨_, rfl, a2, s2, 500, rfl, f3, by decide, fun H' => k H'⟩
def d_is_number : He.DefD := ⟨("is_number", none), "is_number", "is_number", defArgs s_is_number, defBody s_is_number, defScope s_is_number, [], []⟩
def d_is_row : He.DefD := ⟨("is_row", none), "is_row", "is_row", defArgs s_is_row, defBody s_is_row, defScope s_is_row, [], []⟩
def d_is_table : He.DefD := ⟨("is_table", none), "is_table", "is_table", defArgs s_is_table, defBody s_is_table, defScope s_is_table, [], []⟩
def d_is_unit : He.DefD := ⟨("is_unit", none), "is_unit", "is_unit", defArgs s_is_unit, defBody s_is_unit, defScope s_is_unit, [], []⟩
def d_unit : He.DefD := ⟨("unit", none), "unit", "unit", defArgs s_unit, defBody s_unit, defScope s_unit, [], []⟩
def d_unit_row : He.DefD := ⟨("unit_row", none), "unit_row", "unit_row", defArgs s_unit_row, defBody s_unit_row, defScope s_unit_row, [], []⟩
def d_row_sum : He.DefD := ⟨("row_sum", none), "row_sum", "row_sum", defArgs s_row_sum, defBody s_row_sum, defScope s_row_sum, [], []⟩
def d_row_scaled : He.DefD := ⟨("row_scaled", none), "row_scaled", "row_scaled", defArgs s_row_scaled, defBody s_row_scaled, defScope s_row_scaled, [], []⟩
def d_row_times : He.DefD := ⟨("row_times", none), "row_times", "row_times", defArgs s_row_times, defBody s_row_times, defScope s_row_times, [], []⟩
def d_times : He.DefD := ⟨("times", none), "times", "times", defArgs s_times, defBody s_times, defScope s_times, [], []⟩
def d_turned_over : He.DefD := ⟨("turned_over", none), "turned_over", "turned_over", defArgs s_turned_over, defBody s_turned_over, defScope s_turned_over, [], []⟩
def d_is_row_number : He.DefD := ⟨("is_row_number", none), "is_row_number", "is_row_number", defArgs s_is_row_number, defBody s_is_row_number, defScope s_is_row_number, [], []⟩
def d_are_two_rows : He.DefD := ⟨("are_two_rows", none), "are_two_rows", "are_two_rows", defArgs s_are_two_rows, defBody s_are_two_rows, defScope s_are_two_rows, [], []⟩
def d_is_deed : He.DefD := ⟨("is_deed", none), "is_deed", "is_deed", defArgs s_is_deed, defBody s_is_deed, defScope s_is_deed, [], []⟩
def d_refuse_other_than_deeds : He.DefD := ⟨("refuse_other_than_deeds", none), "refuse_other_than_deeds", "refuse_other_than_deeds", defArgs s_refuse_other_than_deeds, defBody s_refuse_other_than_deeds, defScope s_refuse_other_than_deeds, [], []⟩
def d_do_deed : He.DefD := ⟨("do_deed", none), "do_deed", "do_deed", defArgs s_do_deed, defBody s_do_deed, defScope s_do_deed, [], []⟩
def d_done : He.DefD := ⟨("done", none), "done", "done", defArgs s_done, defBody s_done, defScope s_done, [], []⟩
def d_deeds_table : He.DefD := ⟨("deeds_table", none), "deeds_table", "deeds_table", defArgs s_deeds_table, defBody s_deeds_table, defScope s_deeds_table, [], []⟩
def d_contrary_deed : He.DefD := ⟨("contrary_deed", none), "contrary_deed", "contrary_deed", defArgs s_contrary_deed, defBody s_contrary_deed, defScope s_contrary_deed, [], []⟩
def d_led_back : He.DefD := ⟨("led_back", none), "led_back", "led_back", defArgs s_led_back, defBody s_led_back, defScope s_led_back, [], []⟩
def d_is_back : He.DefD := ⟨("is_back", none), "is_back", "is_back", defArgs s_is_back, defBody s_is_back, defScope s_is_back, [], []⟩
def d_l_feed : He.DefD := ⟨("_law_feed", none), "_law_feed", "_law_feed", defArgs s_l_feed, defBody s_l_feed, defScope s_l_feed, [], []⟩
def d_l_draw : He.DefD := ⟨("_law_draw", none), "_law_draw", "_law_draw", defArgs s_l_draw, defBody s_l_draw, defScope s_l_draw, [], []⟩
def d_l_number : He.DefD := ⟨("_law_number", none), "_law_number", "_law_number", defArgs s_l_number, defBody s_l_number, defScope s_l_number, [], []⟩
def d_l_rows : He.DefD := ⟨("_law_rows", none), "_law_rows", "_law_rows", defArgs s_l_rows, defBody s_l_rows, defScope s_l_rows, [], []⟩
def d_l_table : He.DefD := ⟨("_law_table", none), "_law_table", "_law_table", defArgs s_l_table, defBody s_l_table, defScope s_l_table, [], []⟩
def d_l_deed : He.DefD := ⟨("_law_deed", none), "_law_deed", "_law_deed", defArgs s_l_deed, defBody s_l_deed, defScope s_l_deed, [], []⟩
def d_l_deeds : He.DefD := ⟨("_law_deeds", none), "_law_deeds", "_law_deeds", defArgs s_l_deeds, defBody s_l_deeds, defScope s_l_deeds, [], []⟩
def d_l_right : He.DefD := ⟨("_law_right", none), "_law_right", "_law_right", defArgs s_l_right, defBody s_l_right, defScope s_l_right, [], []⟩
def d_l_more_right : He.DefD := ⟨("_law_more_right", none), "_law_more_right", "_law_more_right", defArgs s_l_more_right, defBody s_l_more_right, defScope s_l_more_right, [], []⟩
def d_law : He.DefD := ⟨("law", none), "law", "law", defArgs s_law, defBody s_law, defScope s_law, [], []⟩
def fnL : List He.DefD := [d_is_number, d_is_row, d_is_table, d_is_unit, d_unit, d_unit_row, d_row_sum, d_row_scaled, d_row_times, d_times, d_turned_over, d_is_row_number, d_are_two_rows, d_is_deed, d_refuse_other_than_deeds, d_do_deed, d_done, d_deeds_table, d_contrary_deed, d_led_back, d_is_back, d_l_feed, d_l_draw, d_l_number, d_l_rows, d_l_table, d_l_deed, d_l_deeds, d_l_right, d_l_more_right, d_law]
def faL : List He.Fa := [.glo "is_number", .glo "is_row", .glo "is_table", .glo "is_unit", .glo "unit", .glo "unit_row", .glo "row_sum", .glo "row_scaled", .glo "row_times", .glo "times", .glo "turned_over", .glo "is_row_number", .glo "are_two_rows", .glo "is_deed", .glo "refuse_other_than_deeds", .glo "do_deed", .glo "done", .glo "deeds_table", .glo "contrary_deed", .glo "led_back", .glo "is_back", .glo "_law_feed", .glo "_law_draw", .glo "_law_number", .glo "_law_rows", .glo "_law_table", .glo "_law_deed", .glo "_law_deeds", .glo "_law_right", .glo "_law_more_right", .glo "law", .free "isinstance", .free "int", .free "bool", .free "all", .free "tuple", .free "len", .free "range", .free "zip", .free "sum", .free "enumerate", .free "list", .free "reversed", .free "repr"]
abbrev Rw : PySem.W.OpenRow := PySem.W.OpenLaw.row PySem.Challenge.rw_stepforms_k11_whole_deeds
abbrev hk : PySem.W.Hook := He.hookD 4 faL fnL
def ob (s : PySem.W.SharedT) : He.AlD := He.obsDG 4 faL fnL (HandSHeadRun.getT s)
theorem ob_eq (s : PySem.W.SharedT) : ob s = hk.obs s.abs := He.obsDG_eq (HandSHeadRun.getT_eq s)
abbrev loose : List Str := ["FormError", "NoDeed", "is_number", "is_row", "is_table", "is_unit", "unit", "unit_row", "row_sum", "row_scaled", "row_times", "times", "turned_over", "is_row_number", "are_two_rows", "is_deed", "refuse_other_than_deeds", "do_deed", "done", "deeds_table", "contrary_deed", "led_back", "is_back", "_law_feed", "_law_draw", "_law_number", "_law_rows", "_law_table", "_law_deed", "_law_deeds", "_law_right", "_law_more_right"]
theorem run (w : World) : HandSHeadRun.RunEq Rw (PySem.W.view Rw.prog [38]) hk ob 2000 loose w := by
  intro os
  kernel_rfl
theorem facts {P : Program} {w : World} {K : PySem.W.Frag} {h : Heap} {mg : Str → Option Value} {f : Addr}
    (X : K.In h) (G : h.Ns mainGlobals mg) (hfa : mg ("law" : Str) = some (.ref f)) (c : He.SaysD faL fnL K) :
    ∃ fd : FuncData, (∀ (s : Shared) (v : Value), BindsTo s fd ⟨[v], []⟩ [("_law_script", v)]) ∧
      ∀ base : Heap, K.In base → base.Ns mainGlobals mg →
        FnG P w K mg base 9 f fd ["_law_script"] (spLaw K) := by
  obtain ⟨fd0, F0⟩ := c.def_ 0 (d := d_is_number) rfl
  have D0 : Df K mg "is_number" s_is_number := ⟨_, _, F0, He.glo_ok X G (c.fact 0 (f := .glo "is_number") rfl)⟩
  obtain ⟨fd1, F1⟩ := c.def_ 1 (d := d_is_row) rfl
  have D1 : Df K mg "is_row" s_is_row := ⟨_, _, F1, He.glo_ok X G (c.fact 1 (f := .glo "is_row") rfl)⟩
  obtain ⟨fd2, F2⟩ := c.def_ 2 (d := d_is_table) rfl
  have D2 : Df K mg "is_table" s_is_table := ⟨_, _, F2, He.glo_ok X G (c.fact 2 (f := .glo "is_table") rfl)⟩
  obtain ⟨fd3, F3⟩ := c.def_ 3 (d := d_is_unit) rfl
  have D3 : Df K mg "is_unit" s_is_unit := ⟨_, _, F3, He.glo_ok X G (c.fact 3 (f := .glo "is_unit") rfl)⟩
  obtain ⟨fd4, F4⟩ := c.def_ 4 (d := d_unit) rfl
  have D4 : Df K mg "unit" s_unit := ⟨_, _, F4, He.glo_ok X G (c.fact 4 (f := .glo "unit") rfl)⟩
  obtain ⟨fd5, F5⟩ := c.def_ 5 (d := d_unit_row) rfl
  have D5 : Df K mg "unit_row" s_unit_row := ⟨_, _, F5, He.glo_ok X G (c.fact 5 (f := .glo "unit_row") rfl)⟩
  obtain ⟨fd6, F6⟩ := c.def_ 6 (d := d_row_sum) rfl
  have D6 : Df K mg "row_sum" s_row_sum := ⟨_, _, F6, He.glo_ok X G (c.fact 6 (f := .glo "row_sum") rfl)⟩
  obtain ⟨fd7, F7⟩ := c.def_ 7 (d := d_row_scaled) rfl
  have D7 : Df K mg "row_scaled" s_row_scaled := ⟨_, _, F7, He.glo_ok X G (c.fact 7 (f := .glo "row_scaled") rfl)⟩
  obtain ⟨fd8, F8⟩ := c.def_ 8 (d := d_row_times) rfl
  have D8 : Df K mg "row_times" s_row_times := ⟨_, _, F8, He.glo_ok X G (c.fact 8 (f := .glo "row_times") rfl)⟩
  obtain ⟨fd9, F9⟩ := c.def_ 9 (d := d_times) rfl
  have D9 : Df K mg "times" s_times := ⟨_, _, F9, He.glo_ok X G (c.fact 9 (f := .glo "times") rfl)⟩
  obtain ⟨fd10, F10⟩ := c.def_ 10 (d := d_turned_over) rfl
  have D10 : Df K mg "turned_over" s_turned_over := ⟨_, _, F10, He.glo_ok X G (c.fact 10 (f := .glo "turned_over") rfl)⟩
  obtain ⟨fd11, F11⟩ := c.def_ 11 (d := d_is_row_number) rfl
  have D11 : Df K mg "is_row_number" s_is_row_number := ⟨_, _, F11, He.glo_ok X G (c.fact 11 (f := .glo "is_row_number") rfl)⟩
  obtain ⟨fd12, F12⟩ := c.def_ 12 (d := d_are_two_rows) rfl
  have D12 : Df K mg "are_two_rows" s_are_two_rows := ⟨_, _, F12, He.glo_ok X G (c.fact 12 (f := .glo "are_two_rows") rfl)⟩
  obtain ⟨fd13, F13⟩ := c.def_ 13 (d := d_is_deed) rfl
  have D13 : Df K mg "is_deed" s_is_deed := ⟨_, _, F13, He.glo_ok X G (c.fact 13 (f := .glo "is_deed") rfl)⟩
  obtain ⟨fd14, F14⟩ := c.def_ 14 (d := d_refuse_other_than_deeds) rfl
  have D14 : Df K mg "refuse_other_than_deeds" s_refuse_other_than_deeds := ⟨_, _, F14, He.glo_ok X G (c.fact 14 (f := .glo "refuse_other_than_deeds") rfl)⟩
  obtain ⟨fd15, F15⟩ := c.def_ 15 (d := d_do_deed) rfl
  have D15 : Df K mg "do_deed" s_do_deed := ⟨_, _, F15, He.glo_ok X G (c.fact 15 (f := .glo "do_deed") rfl)⟩
  obtain ⟨fd16, F16⟩ := c.def_ 16 (d := d_done) rfl
  have D16 : Df K mg "done" s_done := ⟨_, _, F16, He.glo_ok X G (c.fact 16 (f := .glo "done") rfl)⟩
  obtain ⟨fd17, F17⟩ := c.def_ 17 (d := d_deeds_table) rfl
  have D17 : Df K mg "deeds_table" s_deeds_table := ⟨_, _, F17, He.glo_ok X G (c.fact 17 (f := .glo "deeds_table") rfl)⟩
  obtain ⟨fd18, F18⟩ := c.def_ 18 (d := d_contrary_deed) rfl
  have D18 : Df K mg "contrary_deed" s_contrary_deed := ⟨_, _, F18, He.glo_ok X G (c.fact 18 (f := .glo "contrary_deed") rfl)⟩
  obtain ⟨fd19, F19⟩ := c.def_ 19 (d := d_led_back) rfl
  have D19 : Df K mg "led_back" s_led_back := ⟨_, _, F19, He.glo_ok X G (c.fact 19 (f := .glo "led_back") rfl)⟩
  obtain ⟨fd20, F20⟩ := c.def_ 20 (d := d_is_back) rfl
  have D20 : Df K mg "is_back" s_is_back := ⟨_, _, F20, He.glo_ok X G (c.fact 20 (f := .glo "is_back") rfl)⟩
  obtain ⟨fd21, F21⟩ := c.def_ 21 (d := d_l_feed) rfl
  have D21 : Df K mg "_law_feed" s_l_feed := ⟨_, _, F21, He.glo_ok X G (c.fact 21 (f := .glo "_law_feed") rfl)⟩
  obtain ⟨fd22, F22⟩ := c.def_ 22 (d := d_l_draw) rfl
  have D22 : Df K mg "_law_draw" s_l_draw := ⟨_, _, F22, He.glo_ok X G (c.fact 22 (f := .glo "_law_draw") rfl)⟩
  obtain ⟨fd23, F23⟩ := c.def_ 23 (d := d_l_number) rfl
  have D23 : Df K mg "_law_number" s_l_number := ⟨_, _, F23, He.glo_ok X G (c.fact 23 (f := .glo "_law_number") rfl)⟩
  obtain ⟨fd24, F24⟩ := c.def_ 24 (d := d_l_rows) rfl
  have D24 : Df K mg "_law_rows" s_l_rows := ⟨_, _, F24, He.glo_ok X G (c.fact 24 (f := .glo "_law_rows") rfl)⟩
  obtain ⟨fd25, F25⟩ := c.def_ 25 (d := d_l_table) rfl
  have D25 : Df K mg "_law_table" s_l_table := ⟨_, _, F25, He.glo_ok X G (c.fact 25 (f := .glo "_law_table") rfl)⟩
  obtain ⟨fd26, F26⟩ := c.def_ 26 (d := d_l_deed) rfl
  have D26 : Df K mg "_law_deed" s_l_deed := ⟨_, _, F26, He.glo_ok X G (c.fact 26 (f := .glo "_law_deed") rfl)⟩
  obtain ⟨fd27, F27⟩ := c.def_ 27 (d := d_l_deeds) rfl
  have D27 : Df K mg "_law_deeds" s_l_deeds := ⟨_, _, F27, He.glo_ok X G (c.fact 27 (f := .glo "_law_deeds") rfl)⟩
  obtain ⟨fd28, F28⟩ := c.def_ 28 (d := d_l_right) rfl
  have D28 : Df K mg "_law_right" s_l_right := ⟨_, _, F28, He.glo_ok X G (c.fact 28 (f := .glo "_law_right") rfl)⟩
  obtain ⟨fd29, F29⟩ := c.def_ 29 (d := d_l_more_right) rfl
  have D29 : Df K mg "_law_more_right" s_l_more_right := ⟨_, _, F29, He.glo_ok X G (c.fact 29 (f := .glo "_law_more_right") rfl)⟩
  obtain ⟨fd30, F30⟩ := c.def_ 30 (d := d_law) rfl
  have D30 : Df K mg "law" s_law := ⟨_, _, F30, He.glo_ok X G (c.fact 30 (f := .glo "law") rfl)⟩
  have B : Bn mg := ⟨He.free_ok X G (c.fact 31 (f := .free "isinstance") rfl), He.free_ok X G (c.fact 32 (f := .free "int") rfl), He.free_ok X G (c.fact 33 (f := .free "bool") rfl), He.free_ok X G (c.fact 34 (f := .free "all") rfl), He.free_ok X G (c.fact 35 (f := .free "tuple") rfl), He.free_ok X G (c.fact 36 (f := .free "len") rfl), He.free_ok X G (c.fact 37 (f := .free "range") rfl), He.free_ok X G (c.fact 38 (f := .free "zip") rfl), He.free_ok X G (c.fact 39 (f := .free "sum") rfl), He.free_ok X G (c.fact 40 (f := .free "enumerate") rfl), He.free_ok X G (c.fact 41 (f := .free "list") rfl), He.free_ok X G (c.fact 42 (f := .free "reversed") rfl), He.free_ok X G (c.fact 43 (f := .free "repr") rfl)⟩
  have e := hfa.symm.trans (He.glo_ok X G (c.fact 30 (f := .glo "law") rfl))
  cases e
  have b := FunD.bindsA (ps := ["_law_script"]) F30 fun _ _ _ _ _ _ us hl => match us, hl with | [_], _ => rfl
  refine ⟨fd30, fun s v => b s [v] rfl, fun base _ _ => ?_⟩
  have H0 := ok_is_number (P := P) (w := w) (base := base) D0 B
  have H5 := ok_unit_row (P := P) (w := w) (base := base) D5 B
  have H6 := ok_row_sum (P := P) (w := w) (base := base) D6 B
  have H7 := ok_row_scaled (P := P) (w := w) (base := base) D7 B
  have H8 := ok_row_times (P := P) (w := w) (base := base) D8 B
  have H10 := ok_turned_over (P := P) (w := w) (base := base) D10 B
  have H18 := ok_contrary_deed (P := P) (w := w) (base := base) D18 B
  have H21 := ok_l_feed (P := P) (w := w) (base := base) D21 B
  have H22 := ok_l_draw (P := P) (w := w) (base := base) D22 B
  have H1 := ok_is_row (P := P) (w := w) (base := base) D1 B (h_is_number := H0)
  have H4 := ok_unit (P := P) (w := w) (base := base) D4 B (h_unit_row := H5)
  have H9 := ok_times (P := P) (w := w) (base := base) D9 B (h_row_times := H8)
  have H11 := ok_is_row_number (P := P) (w := w) (base := base) D11 B (h_is_number := H0)
  have H15 := ok_do_deed (P := P) (w := w) (base := base) D15 B (h_row_scaled := H7) (h_row_sum := H6)
  have H19 := ok_led_back (P := P) (w := w) (base := base) D19 B (h_contrary_deed := H18)
  have H23 := ok_l_number (P := P) (w := w) (base := base) D23 B (h_l_draw := H22)
  have H2 := ok_is_table (P := P) (w := w) (base := base) D2 B (h_is_number := H0) (h_is_row := H1)
  have H12 := ok_are_two_rows (P := P) (w := w) (base := base) D12 B (h_is_row_number := H11)
  have H24 := ok_l_rows (P := P) (w := w) (base := base) D24 B (h_l_draw := H22) (h_l_number := H23)
  have H26 := ok_l_deed (P := P) (w := w) (base := base) D26 B (h_l_draw := H22) (h_l_number := H23)
  have H3 := ok_is_unit (P := P) (w := w) (base := base) D3 B (h_is_table := H2) (h_unit := H4)
  have H13 := ok_is_deed (P := P) (w := w) (base := base) D13 B (h_are_two_rows := H12) (h_is_row_number := H11) (h_is_number := H0)
  have H25 := ok_l_table (P := P) (w := w) (base := base) D25 B (h_l_rows := H24)
  have H27 := ok_l_deeds (P := P) (w := w) (base := base) D27 B (h_l_deed := H26) (h_l_draw := H22)
  have H14 := ok_refuse_other_than_deeds (P := P) (w := w) (base := base) D14 B (h_is_deed := H13)
  have H20 := ok_is_back (P := P) (w := w) (base := base) D20 B (h_is_unit := H3) (h_times := H9)
  have H16 := ok_done (P := P) (w := w) (base := base) D16 B (h_refuse_other_than_deeds := H14) (h_do_deed := H15)
  have H17 := ok_deeds_table (P := P) (w := w) (base := base) D17 B (h_done := H16) (h_unit := H4)
  have H28 := ok_l_right (P := P) (w := w) (base := base) D28 B (h_led_back := H19) (h_deeds_table := H17) (h_done := H16) (h_times := H9) (h_is_back := H20)
  have H29 := ok_l_more_right (P := P) (w := w) (base := base) D29 B (h_l_draw := H22) (h_deeds_table := H17) (h_times := H9) (h_done := H16) (h_l_deeds := H27) (h_led_back := H19) (h_is_back := H20)
  exact ok_law F30 B (h_l_feed := H21) (h_l_more_right := H29) (h_l_table := H25) (h_turned_over := H10) (h_l_draw := H22) (h_l_deeds := H27) (h_l_right := H28) (h_done := H16) (h_times := H9) (h_deeds_table := H17)
end K11
open PySem PySem.W PySem.Calls PyProof.Rows
set_option maxRecDepth 100000 in
set_option maxHeartbeats 0 in
theorem PySem.Challenge.cw_stepforms_k11_whole_deeds_holds : PySem.Challenge.rw_stepforms_k11_whole_deeds.Holds := by
  w_on; o_law
  refine HandSHeadRun.head_any (r := OpenLaw.row PySem.Challenge.rw_stepforms_k11_whole_deeds)
    (q := view (OpenLaw.row PySem.Challenge.rw_stepforms_k11_whole_deeds).prog [38]) (H := K11.hk) (ob := K11.ob)
    (M := 2000) (loose := K11.loose) (d := HandSHeadRun.topDef (OpenLaw.row PySem.Challenge.rw_stepforms_k11_whole_deeds).prog 38)
    (kwd := []) K11.ob_eq (by kernel_rfl) (fun s => by kernel_rfl) K11.run (by kernel_rfl) (by kernel_rfl)
    (by kernel_rfl) (by rfl) (by first | assumption | decide +kernel) (by decide +kernel)
    ⟨rfl, rfl, rfl, rfl, rfl, by decide +kernel⟩ ?hw ?hc
  case hw => w_witness2
  case hc =>
    refine Gd.walkG (l := PySem.Challenge.rw_stepforms_k11_whole_deeds) (n := 63) (k := 9) (x := "_law_script") rfl
      (by decide) (by kernel_rfl) ⟨rfl, by decide, by decide⟩ ?F
    intro w mg fa h Y G hmg0
    obtain ⟨K, KX, c⟩ := Y
    have hmg : mg ("law" : PySem.Str) = some (.ref fa) := by
      have e : (HandSHeadRun.topDef (OpenLaw.row PySem.Challenge.rw_stepforms_k11_whole_deeds).prog 38).name = ("law" : PySem.Str) := by
        kernel_rfl
      rw [← e]
      exact hmg0
    obtain ⟨fd, hb, hF⟩ := K11.facts (P := (PySem.Challenge.rw_stepforms_k11_whole_deeds).prog) (w := w) KX G hmg c
    exact ⟨K, fd, K11.spLaw K, KX, hb,
      fun H a ns hl _ hS => ⟨a, ns, rfl, hS, hl, fun _ => rfl⟩, hF⟩
