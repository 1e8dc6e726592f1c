import PyProof.Rows.All
import Wide.All
import OpenK.AllK
import Wide.FinOn
import HandS.ForMost
import HandS.Nested
import HandS.Codes
import HandS.Exc
import HandS.ExcInit
import HandS.ExcField
import HandS.IsInst
import HandS.TryOnly
import HandS.WordsExc
import KE.KExcIs
import HandS.TryMany
import HandS.CallSlots
import HandS.ExcCtx
import HandS.SuiteRaise
import HandS.RaiseFrom
import HandS.ExcInitHot
import KE.KExcInit
import PyProof.ExcBaseAll.LookupError
import HandS.FStr
import HandS.Dict
import HandS.Lambda
import HandS.Walk
import HandS.SetKeys
import HandS.DictComp
import HandS.FStrTup
import HandS.Text
import PyProof.StrOps2
import HandS.Style
import PyProof.EqKinds
import HandS.Conv
import HandS.EndTab
import PySem.Challenge.RW_ordermerge_k11_base_accessors
set_option Elab.async false
set_option linter.all false
set_option maxRecDepth 100000
set_option maxHeartbeats 8000000
/-! a def's promise where no repr is under way -/
namespace OM
open PySem PySem.Spec PyProof.Rows L2

/-- FnOk, for callers around whom nothing is being shown -/
structure FnG (P : Program) (w : World) (K : PySem.W.Frag)
    (mg : Str → Option Value) (base : Heap) (CX : CXT)
    (k : Nat) (f : Addr) (fd : FuncData) (ps : List Str) (sp : Sp) : Prop where
  len : ∀ vs H Q E, sp vs H Q E → vs.length = ps.length
  run : ∀ (A : Around) (outer : List Env) (s : Shared) (H : Hp)
      (args : Args) (us : List Value) (vs : List V) (Q : VK) (E : XK),
    Room k A → A.guards = some [] →
    Env0 P w K mg base A outer s H →
    BindsTo s fd args (ps.zip us) → Vals vs us → sp vs H Q E →
    codeAny (model P w) A (.call (.ref f) args)
      (CR CX outer P w H s Q E) s

section
variable {P : Program} {w : World} {K : PySem.W.Frag}
  {mg : Str → Option Value} {base : Heap} {CX : CXT}
theorem FnG.ofOk {k : Nat} {f : Addr} {fd : FuncData} {ps : List Str} {sp : Sp}
    (F : FnOk P w K mg base CX k f fd ps sp) :
    FnG P w K mg base CX k f fd ps sp :=
  ⟨F.len, fun A o s H ar us vs Q E r _ e b v z =>
    F.run A o s H ar us vs Q E r e b v z⟩

theorem FnG.mk' {k : Nat} {f : Addr} {nm qual : Str} {pr : Arguments}
    {bd : List Stmt} {sc : Scope} {dV kV dc pm cv ct oc : Value}
    {an od : Option Addr} {sl : Array (Option Value)} {N ps : List Str} {sp : Sp}
    (lk : K.lookup f = some ⟨oc, od,
      .func (PySem.W.fnOf nm qual pr bd sc dV kV dc pm an cv ct), sl⟩)
    (hc : PySem.W.codeIn K cv qual = true) (S : FnScope N ps sc)
    (len : ∀ vs H Q E, sp vs H Q E → vs.length = ps.length)
    (body : ∀ (A : Around) (outer : List Env) (s : Shared) (H : Hp)
        (vs : List V) (Q : VK) (E : XK),
      Room k (A.deeper (envOfC qual sc s.heap.objs.size f cv)) →
      A.guards = some [] → sp vs H Q E →
      ∃ t, PSs (cxOf CX P w K mg base N qual sc f cv A outer s H E) bd t ∧
        t { nx := fun _ H' => Q .non H', rt := Q } (start N vs) H) :
    FnG P w K mg base CX (k + 1) f
      (PySem.W.fnOf nm qual pr bd sc dV kV dc pm an cv ct) ps sp := by
  refine ⟨len, ?_⟩
  intro A outer s H args us vs Q E room gd env bnd rel hsp
  have kin : K.In s.heap :=
    env.mod.kin.keeps fun b o q => (env.bs b o q).1
  have nol : s.heap.NoLimit :=
    env.mod.nolimit.keeps fun b o q => (env.bs b o q).1
  have kinds : ∀ y ∈ ps.zip us, sc.names.lookup y.1 = some .local ∨
      (sc.names.lookup y.1 = some .cell ∧
        ((cellsFrom (s.heap.objs.size + 1) sc.names []).lookup y.1).isSome
          = true) := by
    rintro ⟨n, v⟩ hy
    cases S.par n (List.of_mem_zip hy).1 with
    | inl q => exact Or.inl q
    | inr q => exact Or.inr ⟨q, PySem.W.cellsFrom_some _ _ _ (.inl q)⟩
  refine codeAny_call_function room.depth (kin _ _ lk) rfl S.co S.gen rfl
    (PySem.W.codeRec_of kin hc) (bnd _ _ _ _ ?_)
  refine wpAny_newFunctionEnv_cells S.kind kinds ?_
  intro env' he s1 x
  subst he
  refine ⟨nol.keeps x.toInCall.keep, codeAny_func ?_⟩
  obtain ⟨t, ht, hq⟩ := body A outer s H vs Q E (room.deeper _) gd hsp
  have I := inv_start (CX := CX) (E := E) S room.hd env
    (len _ _ _ _ hsp) rel x
  refine wpAny_mono (ht.run [] s1 (start N vs) H _ I hq) ?_
    (fun e s' z => z)
  intro fl s' hs
  cases fl with
  | ret u =>
    obtain ⟨v, σ', H', J, rv, q⟩ := hs
    exact ⟨v, H', J.os, J.bare, J.base, J.hok, rv, q⟩
  | next =>
    obtain ⟨σ', H', J, q⟩ := hs
    exact ⟨V.non, H', J.os, J.bare, J.base, J.hok, rfl, q⟩
  | brk => exact (hs.choose_spec.choose_spec.2 : False).elim
  | cont => exact (hs.choose_spec.choose_spec.2 : False).elim

/-- a def of the text, by its body -/
theorem okG {x qual : Str} {st : Stmt} {f : Addr} {fd : FuncData}
    {N ps : List Str} {k : Nat} {sp : Sp} (F : Fun K x qual st f fd)
    (S : FnScope N ps (defScope st))
    (len : ∀ vs H Q E, sp vs H Q E → vs.length = ps.length)
    (body : ∀ (cv : Value) (A : Around) (outer : List Env) (s : Shared)
        (H : Hp) (vs : List V) (Q : VK) (E : XK),
      Room k (A.deeper (envOfC qual (defScope st) s.heap.objs.size f cv)) →
      A.guards = some [] → sp vs H Q E →
      ∃ t, PSs (cxOf CX0 P w K mg base N qual (defScope st) f cv A
          outer s H E).nox (defBody st) t ∧
        t { nx := fun _ H' => Q .non H', rt := Q } (start N vs) H) :
    FnG P w K mg base CX0 (k + 1) f fd ps sp := by
  obtain ⟨oc, od, kV, dc, pm, an, cv, ct, sl, rfl, lk, hc⟩ := F.ex
  refine FnG.mk' lk hc S len ?_
  intro A outer s H vs Q E room gd hsp
  obtain ⟨t, h, q⟩ := body cv A outer s H vs Q E room gd hsp
  exact ⟨t, h.nox, q⟩
end

section
variable {X : Cx} {CX : CXT} {k : Nat} {f : Addr} {fd : FuncData}
  {ps : List Str} {sp : Sp} {dvs : List V} {ds : List Value} {E : XK}
theorem runG {pins : List (Addr × Obj)} {σ : L2.St} {H : Hp} {s : Shared}
    {Q : VK} {us : List Value} {vs : List V}
    (F : FnG X.prog X.w X.K X.mg X.base CX k f fd ps sp)
    (room : Room k X.A) (gd : X.A.guards = some [])
    (hb : Binds X.K fd ps ds) (hd : Vals dvs ds) (hx : Passes CX X E)
    (I : Inv X pins σ H s) (r : Vals vs us) (h : sp (vs ++ dvs) H Q E) :
    wpAny (model X.prog X.w) X.A (call (.ref f) us) (EP X pins σ Q) X.xe s := by
  have rr := r.append hd
  have hl : (us ++ ds).length = ps.length :=
    rr.length.symm.trans (F.len _ _ _ _ h)
  refine wpAny_call (codeAny_mono (F.run X.A X.stack s H ⟨us, []⟩ (us ++ ds)
    (vs ++ dvs) Q E room gd I.env0 (hb s us I.kIn hl) rr h) ?_)
  intro r s' hq
  match r, hq with
  | .error e, hq => exact hx pins σ H s e s' I hq
  | .ok (.ret u), hq => exact I.after hq
  | .ok .next, hq => exact False.elim hq
  | .ok .brk, hq => exact False.elim hq
  | .ok .cont, hq => exact False.elim hq

theorem pe_callG {x : Str} {p pos : Pos} {e : Expr} {es : List Expr} {t : TA}
    (F : FnG X.prog X.w X.K X.mg X.base CX k f fd ps sp)
    (room : Room k X.A) (gd : X.A.guards = some []) (hg : Gl X x)
    (hm : X.mg x = some (.ref f)) (hk : PySem.W.keepIn X.K (.ref f) = true)
    (hb : Binds X.K fd ps ds) (hd : Vals dvs ds) (hx : Passes CX X E)
    (ha : PA X (e :: es) t)
    (h1 : (x == ("__debug__" : Str)) = false := by decide)
    (h2 : starEach (e :: es) X.env =
      (false, eval e X.env) :: starEach es X.env := by rfl)
    (h3 : (backTo pos (starEach es X.env)).any (·.1) = false := by rfl) :
    PE X (.Call (.Name x p) (e :: es) [] pos) (tCall sp dvs E t) := by
  constructor
  intro pins s σ H Q I h
  refine wpAny_Call_Name_kw (ld_glob I hg hm ?_ h1)
  refine PySem.W.callWith_K (h₀ := X.base) I.ok.mod.kin hk
    (thn (ha.run pos pins s σ H _ I h) ?_) h2 h3
  rintro us s1 ⟨vs, H1, I1, r, q⟩
  exact ⟨I1.kIn, runG F room gd hb hd hx I1 r q⟩
end

/-! ### repr of data -/
section
variable {X : Cx}
theorem DpAll.noDict : ∀ {K : PySem.W.Frag} {H : Hp} (ds : List PyData)
    {vs : List V}, (∀ d ∈ ds, ∀ v, Dp K H v d → d.hasDict = false) →
    DpAll K H vs ds → PyData.hasDictAll ds = false
  | _, _, [], _, _, _ => by simp only [PyData.hasDictAll]
  | _, _, d :: ds, _, f, h => by
    cases h with
    | cons h1 h2 =>
      simp only [PyData.hasDictAll]
      rw [f d List.mem_cons_self _ h1,
        DpAll.noDict ds (fun e he => f e (List.mem_cons_of_mem _ he)) h2]
      rfl
mutual
theorem Dp.noDict {K : PySem.W.Frag} {H : Hp} :
    ∀ (d : PyData) {v : V}, Dp K H v d → d.hasDict = false
  | .none, _, _ => by simp only [PyData.hasDict]
  | .bool _, _, _ => by simp only [PyData.hasDict]
  | .int _, _, _ => by simp only [PyData.hasDict]
  | .str _, _, _ => by simp only [PyData.hasDict]
  | .list ds, _, h => by
    cases h with
    | lst _ h => simp only [PyData.hasDict]; exact Dp.noDicts ds h
  | .tuple ds, _, h => by
    cases h with
    | tup _ h => simp only [PyData.hasDict]; exact Dp.noDicts ds h
  | .dict _, _, h => by cases h
theorem Dp.noDicts {K : PySem.W.Frag} {H : Hp} :
    ∀ (ds : List PyData) {vs : List V}, DpAll K H vs ds →
      PyData.hasDictAll ds = false
  | [], _, _ => by simp only [PyData.hasDictAll]
  | d :: ds, _, h => by
    cases h with
    | cons h1 h2 =>
      simp only [PyData.hasDictAll]
      rw [Dp.noDict d h1, Dp.noDicts ds h2]
      rfl
end
/-- repr(x) of data without dicts -/
def rRepr (K : PySem.W.Frag) : List V → Hp → VK → Prop := fun xs H Q =>
  ∃ v d, xs = [v] ∧ Dp K H v d ∧ d.showable = true ∧ d.depth ≤ 60 ∧
    d.shown.length ≤ sizeLine ∧ Q (.str d.shown) H
theorem call_reprD {k : Nat} (room : Room k X.A)
    (gd : X.A.guards = some []) :
    CallR X (.builtin "repr") (rRepr X.K) := by
  intro pins s σ H xs us Q I r h
  obtain ⟨v, d, rfl, hd, sh, dp, sz, q⟩ := h
  cases r with
  | cons rv rn =>
    cases rn
    rename_i u
    obtain ⟨as, rd⟩ := Dp.reads I d v u hd rv
    have un := room.units
    cases hd with
    | non =>
      cases rv
      exact PySem.P.repr_of_none ⟨.str _, H, I.tok _, ⟨_, rfl⟩, q⟩
    | bl b =>
      cases rv
      exact PySem.P.repr_of_bool ⟨.str _, H, I.tok _, ⟨_, rfl⟩, q⟩
    | int i =>
      obtain ⟨t, rfl⟩ := rv
      refine PySem.P.repr_of_int ?_ ⟨.str _, H, I.tok _, ⟨_, rfl⟩, q⟩
      simpa [PyData.showable] using sh
    | str x =>
      obtain ⟨t, rfl⟩ := rv
      exact PySem.P.repr_of_str ⟨.str _, H, I.tok _, ⟨_, rfl⟩, q⟩ sz
    | lst a b =>
      cases rv
      refine repr_of_reads' rd sh (PyData.noDict_hsm
        (Dp.noDict _ (Dp.lst a b))) gd (by omega) (fun _ _ e => e)
        (fun h' u tk hk => ?_) sz
      exact ⟨.str _, H, I.kept hk, ⟨_, rfl⟩, q⟩
    | tup a b =>
      cases rv
      refine repr_of_reads' rd sh (PyData.noDict_hsm
        (Dp.noDict _ (Dp.tup a b))) gd (by omega) (fun _ _ e => e)
        (fun h' u tk hk => ?_) sz
      exact ⟨.str _, H, I.kept hk, ⟨_, rfl⟩, q⟩
end
end OM
namespace OM
open PySem PySem.Spec PyProof.Rows L2

/-- the law's call, nothing being shown around it -/
theorem lawG {P : Program} {w : World} {K : PySem.W.Frag}
    {mg mb : Str → Option Value} {k : Nat} {fa a : Addr} {fd : FuncData}
    {x : Str} {sp : Sp} {s1 : Shared} {vs : List Value} {ns : List Int}
    (kin : K.In s1.heap) (glob : s1.heap.Ns mainGlobals mg)
    (blt : s1.heap.Ns builtinsNs mb)
    (boot : ∀ x : Str, x ≠ "__name__" → mb x = bootBuiltins x)
    (nol : s1.heap.NoLimit) (gens : s1.gens = #[])
    (ha : s1.heap.get? a =
      some { cls := .type "list", data := .seq vs.toArray })
    (hints : IntsAre vs ns) (hl : ns.length ≤ sizeLine)
    (room : Room k callerA)
    (F : ∀ base : Heap, K.In base → base.Ns mainGlobals mg →
      FnG P w K mg base CX0 k fa fd [x] sp)
    (bind : ∀ (s : Shared) (u : Value), BindsTo s fd ⟨[u], []⟩ [(x, u)])
    (hsp : ∀ H : Hp, Only H → SqL K H a (ns.map V.int) →
      sp [.ref a] H (fun v _ => v = .bl true) E0) :
    codeAny (model P w) callerA (.call (.ref fa) ⟨[.ref a], []⟩)
      (fun r s' => r = .ok (.ret (.bool true)) ∧ OldK s1.heap s'.heap ∧
        s'.os = s1.os ∧ AllBare s'.gens) s1 := by
  have rel := vals_ints hints
  have lv := hints.length
  -- H tracks the script alone, or nothing
  suffices core : ∀ H : Hp, Only H → SqL K H a (ns.map V.int) →
      HOk P w H s1.heap → (∀ b, H b ≠ none → b = a) →
      (H a ≠ none → K.lookup a = none) →
      codeAny (model P w) callerA (.call (.ref fa) ⟨[.ref a], []⟩)
        (fun r s' => r = .ok (.ret (.bool true)) ∧ OldK s1.heap s'.heap ∧
          s'.os = s1.os ∧ AllBare s'.gens) s1 by
    by_cases hk : ∃ o, K.lookup a = some o
    · obtain ⟨o, hk⟩ := hk
      have e := kin a o hk
      rw [ha] at e
      cases e
      refine core (fun _ => none) (fun _ => Or.inl rfl) (Or.inr ?_)
        (fun b u z => ?_) (fun b z => absurd rfl z) (fun z => absurd rfl z)
      · exact ⟨_, vs.toArray, _, hk, rfl, rfl, rfl,
          by rw [List.size_toArray, lv]; exact hl, by simpa using rel⟩
      · cases (show (none : Option HO) = some u from z)
    · have hk : K.lookup a = none := by
        cases q : K.lookup a with
        | none => rfl
        | some o => exact absurd ⟨o, q⟩ hk
      let ob : Obj := { cls := .type "list", data := .seq vs.toArray }
      refine core (fun b => if b = a then
          some (.frz ob (.lst (ns.map V.int))) else none)
        (fun b => ?_) (Or.inl (Or.inr ⟨ob, if_pos rfl⟩))
        (fun b u z => ?_) (fun b z => ?_) (fun _ => hk)
      · by_cases hb : b = a
        · exact Or.inr ⟨_, _, if_pos hb⟩
        · exact Or.inl (if_neg hb)
      · by_cases hb : b = a
        · cases (if_pos hb).symm.trans z
          subst hb
          exact ⟨ha, by rw [List.length_map]; exact hl, vs, _, rel, ha⟩
        · cases (if_neg hb).symm.trans z
      · by_cases hb : b = a
        · exact hb
        · exact absurd (if_neg hb) z
  intro H only sq ok alone notK
  have untracked : ∀ {b : Addr} {o : Obj}, s1.heap.get? b = some o →
      (∀ z, o.data ≠ .seq z 0) → H b = none := by
    intro b o e d
    cases q : H b with
    | none => rfl
    | some u =>
      have z : b = a := alone b (by rw [q]; exact nofun)
      subst z
      rw [ha] at e
      cases e
      exact absurd rfl (d _)
  have ns' : ∀ {b : Addr} {m : Str → Option Value}, s1.heap.Ns b m →
      (hidT s1.heap H).Ns b m := by
    rintro b m ⟨o, es, ep, e, d, r⟩
    refine ⟨o, es, ep, hidT_get e (untracked e fun z y => ?_), d, r⟩
    cases d.symm.trans y
  have kin' : K.In (hidT s1.heap H) := by
    intro b o e
    refine hidT_get (kin b o e) ?_
    cases q : H b with
    | none => rfl
    | some u =>
      have z : b = a := alone b (by rw [q]; exact nofun)
      subst z
      rw [notK (by rw [q]; exact nofun)] at e
      cases e
  have md : Mod K mg (hidT s1.heap H) := by
    obtain ⟨mc, h1, h2⟩ := nol
    exact ⟨kin', ns' glob, ⟨mb, ns' blt, boot⟩, ⟨mc, ns' h1, h2⟩⟩
  have env : Env0 P w K mg (hidT s1.heap H) callerA [] s1 H :=
    ⟨rfl, md, fun b o e => of_hidT e, Nat.le_of_eq (hidT_size _ _), trivial,
      fun b hb => (nomatch (show b ∈ ([] : List Addr) from hb)), ok,
      .of_eq gens⟩
  refine codeAny_mono ((F _ kin' (ns' glob)).run callerA [] s1 H ⟨[.ref a], []⟩
    [.ref a] [.ref a] _ _ room rfl env (bind s1 (.ref a)) (.cons rfl .nil)
    (hsp H only sq)) ?_
  intro r s' h
  match r, h with
  | .error e, h => exact False.elim h
  | .ok .next, h => exact False.elim h
  | .ok .brk, h => exact False.elim h
  | .ok .cont, h => exact False.elim h
  | .ok (.ret u), h =>
    obtain ⟨v, H', os, bare, un, ok', rv, q⟩ := h
    cases (show v = .bl true from q)
    cases (show u = Value.bool true from rv)
    refine ⟨rfl, OldK.of_keep fun b o e => ?_, os, bare⟩
    cases q : H b with
    | none =>
      exact un.keep b o e q
        (fun z => nomatch (show b ∈ ([] : List Addr) from z)) (by simp)
    | some u =>
      cases only b with
      | inl z => rw [q] at z; cases z
      | inr z =>
        obtain ⟨ob, xs, z⟩ := z
        have e1 := (ok b _ z).1
        have e2 := (ok' b _ (un.frzs b ob _ z)).1
        rw [e] at e1
        cases e1
        exact e2

/-- what the head leaves, from the law's promise -/
theorem walkG {l : PySem.W.OpenLaw} {n k : Nat} {q : Program} {ls : List Str}
    {XP : (Str → Option Value) → Heap → Prop} {YP : World → Heap → Prop}
    {d : DefRec} {K : Params → PySem.W.Frag} {sp : PySem.W.Frag → Sp} {x : Str}
    (hn : l.most = some n) (hn2 : n ≤ sizeLine)
    (hdf : d.params.defaults = []) (room : Room k callerA)
    (hY : ∀ (w : World) (h : Heap), YP w h → (K w.params).In h)
    (F : ∀ (w : World) (mg : Str → Option Value) (fa : Addr) (h : Heap),
      (K w.params).In h → h.Ns mainGlobals mg → mg d.name = some (.ref fa) →
      ∃ fd : FuncData,
        (∀ (s : Shared) (u : Value), BindsTo s fd ⟨[u], []⟩ [(x, u)]) ∧
        ∀ base : Heap, (K w.params).In base → base.Ns mainGlobals mg →
          FnG l.prog w (K w.params) mg base CX0 k fa fd [x]
            (sp (K w.params)))
    (hsp : ∀ (K : PySem.W.Frag) (H : Hp) (a : Addr) (ns : List Int),
      ns.length ≤ n → Only H → SqL K H a (ns.map V.int) →
      sp K [.ref a] H (fun v _ => v = .bl true) E0) :
    PySem.W.WalkO q ls XP YP l.row.toRowW d []
      (fun f vs => PySem.call f vs) := by
  refine Att.attach_call hn hdf ?_
  intro w s₀ s1 mg mb fa o pm cd doc a vs ns G Y ho hd hcd hmg hobj hi hlen hg
  have KX := hY w _ Y
  obtain ⟨fd, hb, hF⟩ := F w mg fa _ KX G.T.g hmg
  exact lawG KX G.T.g G.T.b G.T.builtins G.T.nolimit hg hobj hi
    (Nat.le_trans hlen hn2) room hF hb
    (fun H hO hS => hsp (K w.params) H a ns hlen hO hS)
end OM
namespace OM
open PySem PySem.Spec PyProof.Rows L2
def topS (i : Nat) : Stmt :=
  PySem.Challenge.pw_ordermerge_k11_base_accessors.main.body.getD i
    (.Pass ⟨0, 0, 0, 0⟩)
abbrev s_InvalidBase_init : Stmt := inClass (topS 2) 0
abbrev N_InvalidBase_init : List Str := ["self", "problem", "position"]
theorem sc_InvalidBase_init : FnScope N_InvalidBase_init
    ["self", "problem", "position"] (defScope s_InvalidBase_init) :=
  ⟨rfl, rfl, rfl, by decide +kernel, rfl,
    by decide +kernel, by decide +kernel⟩
abbrev s_UnknownItem_init : Stmt := inClass (topS 3) 0
abbrev N_UnknownItem_init : List Str := ["self", "value"]
theorem sc_UnknownItem_init : FnScope N_UnknownItem_init
    ["self", "value"] (defScope s_UnknownItem_init) :=
  ⟨rfl, rfl, rfl, by decide +kernel, rfl,
    by decide +kernel, by decide +kernel⟩
abbrev s_UnknownUser_init : Stmt := inClass (topS 4) 0
abbrev N_UnknownUser_init : List Str := ["self", "value"]
theorem sc_UnknownUser_init : FnScope N_UnknownUser_init
    ["self", "value"] (defScope s_UnknownUser_init) :=
  ⟨rfl, rfl, rfl, by decide +kernel, rfl,
    by decide +kernel, by decide +kernel⟩
abbrev s_UnknownReplica_init : Stmt := inClass (topS 5) 0
abbrev N_UnknownReplica_init : List Str := ["self", "value"]
theorem sc_UnknownReplica_init : FnScope N_UnknownReplica_init
    ["self", "value"] (defScope s_UnknownReplica_init) :=
  ⟨rfl, rfl, rfl, by decide +kernel, rfl,
    by decide +kernel, by decide +kernel⟩
abbrev s_UnknownMessage_init : Stmt := inClass (topS 6) 0
abbrev N_UnknownMessage_init : List Str := ["self", "value"]
theorem sc_UnknownMessage_init : FnScope N_UnknownMessage_init
    ["self", "value"] (defScope s_UnknownMessage_init) :=
  ⟨rfl, rfl, rfl, by decide +kernel, rfl,
    by decide +kernel, by decide +kernel⟩
abbrev s_is_name : Stmt := topS 10
abbrev N_is_name : List Str := ["value", "letter"]
theorem sc_is_name : FnScope N_is_name
    ["value"] (defScope s_is_name) :=
  ⟨rfl, rfl, rfl, by decide +kernel, rfl,
    by decide +kernel, by decide +kernel⟩
abbrev s_names_fault : Stmt := topS 11
abbrev N_names_fault : List Str := ["value", "most", "seen", "at", "name"]
theorem sc_names_fault : FnScope N_names_fault
    ["value", "most"] (defScope s_names_fault) :=
  ⟨rfl, rfl, rfl, by decide +kernel, rfl,
    by decide +kernel, by decide +kernel⟩
abbrev s_check_items : Stmt := topS 12
abbrev N_check_items : List Str := ["items", "fault", "problem", "position"]
theorem sc_check_items : FnScope N_check_items
    ["items"] (defScope s_check_items) :=
  ⟨rfl, rfl, rfl, by decide +kernel, rfl,
    by decide +kernel, by decide +kernel⟩
abbrev s_Base_init : Stmt := inClass (topS 13) 0
abbrev N_Base_init : List Str := ["self", "items", "name", "at"]
theorem sc_Base_init : FnScope N_Base_init
    ["self", "items"] (defScope s_Base_init) :=
  ⟨rfl, rfl, rfl, by decide +kernel, rfl,
    by decide +kernel, by decide +kernel⟩
abbrev s_Base_eq : Stmt := inClass (topS 13) 1
abbrev N_Base_eq : List Str := ["self", "other"]
theorem sc_Base_eq : FnScope N_Base_eq
    ["self", "other"] (defScope s_Base_eq) :=
  ⟨rfl, rfl, rfl, by decide +kernel, rfl,
    by decide +kernel, by decide +kernel⟩
abbrev s_Base_len : Stmt := inClass (topS 13) 2
abbrev N_Base_len : List Str := ["self"]
theorem sc_Base_len : FnScope N_Base_len
    ["self"] (defScope s_Base_len) :=
  ⟨rfl, rfl, rfl, by decide +kernel, rfl,
    by decide +kernel, by decide +kernel⟩
abbrev s_Base_repr : Stmt := inClass (topS 13) 3
abbrev N_Base_repr : List Str := ["self"]
theorem sc_Base_repr : FnScope N_Base_repr
    ["self"] (defScope s_Base_repr) :=
  ⟨rfl, rfl, rfl, by decide +kernel, rfl,
    by decide +kernel, by decide +kernel⟩
abbrev s_Base_names : Stmt := inClass (topS 13) 4
abbrev N_Base_names : List Str := ["self"]
theorem sc_Base_names : FnScope N_Base_names
    ["self"] (defScope s_Base_names) :=
  ⟨rfl, rfl, rfl, by decide +kernel, rfl,
    by decide +kernel, by decide +kernel⟩
abbrev s_Base_has_item : Stmt := inClass (topS 13) 5
abbrev N_Base_has_item : List Str := ["self", "value"]
theorem sc_Base_has_item : FnScope N_Base_has_item
    ["self", "value"] (defScope s_Base_has_item) :=
  ⟨rfl, rfl, rfl, by decide +kernel, rfl,
    by decide +kernel, by decide +kernel⟩
abbrev s_Base_position_of : Stmt := inClass (topS 13) 6
abbrev N_Base_position_of : List Str := ["self", "item"]
theorem sc_Base_position_of : FnScope N_Base_position_of
    ["self", "item"] (defScope s_Base_position_of) :=
  ⟨rfl, rfl, rfl, by decide +kernel, rfl,
    by decide +kernel, by decide +kernel⟩
abbrev s_Base_precedes : Stmt := inClass (topS 13) 7
abbrev N_Base_precedes : List Str := ["self", "first", "second"]
theorem sc_Base_precedes : FnScope N_Base_precedes
    ["self", "first", "second"] (defScope s_Base_precedes) :=
  ⟨rfl, rfl, rfl, by decide +kernel, rfl,
    by decide +kernel, by decide +kernel⟩
abbrev s_Lrng : Stmt := topS 15
abbrev N_Lrng : List Str := ["_law_script", "_law_k", "_law_cell"]
theorem sc_Lrng : FnScope N_Lrng
    ["_law_script", "_law_k"] (defScope s_Lrng) :=
  ⟨rfl, rfl, rfl, by decide +kernel, rfl,
    by decide +kernel, by decide +kernel⟩
abbrev s_Ldraw : Stmt := topS 16
abbrev N_Ldraw : List Str := ["_law_rng_here", "_law_many", "_law_digit"]
theorem sc_Ldraw : FnScope N_Ldraw
    ["_law_rng_here", "_law_many"] (defScope s_Ldraw) :=
  ⟨rfl, rfl, rfl, by decide +kernel, rfl,
    by decide +kernel, by decide +kernel⟩
abbrev s_Lchoice : Stmt := topS 17
abbrev N_Lchoice : List Str := ["_law_rng_here", "_law_options"]
theorem sc_Lchoice : FnScope N_Lchoice
    ["_law_rng_here", "_law_options"] (defScope s_Lchoice) :=
  ⟨rfl, rfl, rfl, by decide +kernel, rfl,
    by decide +kernel, by decide +kernel⟩
abbrev s_Lname : Stmt := topS 18
abbrev N_Lname : List Str := ["_law_rng_here", "_law_used", "_law_letters", "_law_length", "_law_name_here", "_law_k", "_law_fresh", "_law_one"]
theorem sc_Lname : FnScope N_Lname
    ["_law_rng_here", "_law_used"] (defScope s_Lname) :=
  ⟨rfl, rfl, rfl, by decide +kernel, rfl,
    by decide +kernel, by decide +kernel⟩
abbrev s_Lnames : Stmt := topS 19
abbrev N_Lnames : List Str := ["_law_rng_here", "_law_many", "_law_used", "_law_result", "_law_k"]
theorem sc_Lnames : FnScope N_Lnames
    ["_law_rng_here", "_law_many", "_law_used"] (defScope s_Lnames) :=
  ⟨rfl, rfl, rfl, by decide +kernel, rfl,
    by decide +kernel, by decide +kernel⟩
abbrev s_Linvalid_item : Stmt := topS 20
abbrev N_Linvalid_item : List Str := ["_law_rng_here", "_law_items", "_law_values"]
theorem sc_Linvalid_item : FnScope N_Linvalid_item
    ["_law_rng_here", "_law_items"] (defScope s_Linvalid_item) :=
  ⟨rfl, rfl, rfl, by decide +kernel, rfl,
    by decide +kernel, by decide +kernel⟩
abbrev s_Lerror : Stmt := topS 21
abbrev N_Lerror : List Str := ["_law_call", "_law_actual", "e", "_law_others"]
theorem sc_Lerror : FnScope N_Lerror
    ["_law_call"] (defScope s_Lerror) :=
  ⟨rfl, rfl, rfl, by decide +kernel, rfl,
    by decide +kernel, by decide +kernel⟩
abbrev s_Lis_name : Stmt := topS 22
abbrev N_Lis_name : List Str := ["_law_value", "_law_sign"]
theorem sc_Lis_name : FnScope N_Lis_name
    ["_law_value"] (defScope s_Lis_name) :=
  ⟨rfl, rfl, rfl, by decide +kernel, rfl,
    by decide +kernel, by decide +kernel⟩
abbrev s_Lerrors_right : Stmt := topS 23
abbrev N_Lerrors_right : List Str := ["_law_rng_here", "_law_base", "_law_items", "_law_wrong", "_law_strange", "_law_item", "_law_calls", "_law_call", "_law_names_here", "_law_name_here"]
theorem sc_Lerrors_right : FnScope N_Lerrors_right
    ["_law_rng_here", "_law_base", "_law_items"] (defScope s_Lerrors_right) :=
  ⟨rfl, rfl, rfl, by decide +kernel, rfl,
    by decide +kernel, by decide +kernel⟩
abbrev s_Lequal : Stmt := topS 24
abbrev N_Lequal : List Str := ["_law_first", "_law_second", "_law_expected", "_law_results"]
theorem sc_Lequal : FnScope N_Lequal
    ["_law_first", "_law_second", "_law_expected"] (defScope s_Lequal) :=
  ⟨rfl, rfl, rfl, by decide +kernel, rfl,
    by decide +kernel, by decide +kernel⟩
abbrev s_Lequality_right : Stmt := topS 25
abbrev N_Lequality_right : List Str := ["_law_rng_here", "_law_base", "_law_items", "_law_others", "_law_other", "_law_values"]
theorem sc_Lequality_right : FnScope N_Lequality_right
    ["_law_rng_here", "_law_base", "_law_items"] (defScope s_Lequality_right) :=
  ⟨rfl, rfl, rfl, by decide +kernel, rfl,
    by decide +kernel, by decide +kernel⟩
abbrev s_Ltold_right : Stmt := topS 26
abbrev N_Ltold_right : List Str := ["_law_base", "_law_items", "_law_position", "_law_item"]
theorem sc_Ltold_right : FnScope N_Ltold_right
    ["_law_base", "_law_items"] (defScope s_Ltold_right) :=
  ⟨rfl, rfl, rfl, by decide +kernel, rfl,
    by decide +kernel, by decide +kernel⟩
abbrev s_Lcheck : Stmt := topS 27
abbrev N_Lcheck : List Str := ["_law_rng_here", "_law_items", "_law_given", "_law_base", "_law_turn", "_law_first", "_law_second", "_law_shown"]
theorem sc_Lcheck : FnScope N_Lcheck
    ["_law_rng_here", "_law_items"] (defScope s_Lcheck) :=
  ⟨rfl, rfl, rfl, by decide +kernel, rfl,
    by decide +kernel, by decide +kernel⟩
abbrev s_law : Stmt := topS 28
abbrev N_law : List Str := ["_law_script", "_law_k", "_law_rng_here", "_law_many"]
theorem sc_law : FnScope N_law
    ["_law_script"] (defScope s_law) :=
  ⟨rfl, rfl, rfl, by decide +kernel, rfl,
    by decide +kernel, by decide +kernel⟩
end OM
namespace OM
open PySem PySem.Spec PyProof.Rows L2

/-! ### a callee, in one word -/
structure Cal (P : Program) (w : World) (K : PySem.W.Frag)
    (mg : Str → Option Value) (base : Heap) (k : Nat) (x : Str)
    (ps : List Str) (sp : Sp) : Prop where
  ex : ∃ f fd, FnOk P w K mg base CX0 k f fd ps sp ∧
    mg x = some (.ref f) ∧ PySem.W.keepIn K (.ref f) = true ∧
    Binds K fd ps []
structure CalG (P : Program) (w : World) (K : PySem.W.Frag)
    (mg : Str → Option Value) (base : Heap) (k : Nat) (x : Str)
    (ps : List Str) (sp : Sp) : Prop where
  ex : ∃ f fd, FnG P w K mg base CX0 k f fd ps sp ∧
    mg x = some (.ref f) ∧ PySem.W.keepIn K (.ref f) = true ∧
    Binds K fd ps []
section
variable {X : Cx} {k : Nat} {ps : List Str} {sp : Sp} {x : Str}
  {p pos : Pos} {e : Expr} {es : List Expr} {t : TA}
theorem pe_cal (C : Cal X.prog X.w X.K X.mg X.base k x ps sp)
    (room : Room k X.A) (ha : PA X (e :: es) t)
    (hg : Gl X x := by rfl)
    (h1 : (x == ("__debug__" : Str)) = false := by decide)
    (h2 : starEach (e :: es) X.env =
      (false, eval e X.env) :: starEach es X.env := by rfl)
    (h3 : (backTo pos (starEach es X.env)).any (·.1) = false := by rfl) :
    PE X (.Call (.Name x p) (e :: es) [] pos) (tCall sp [] E0 t) := by
  obtain ⟨f, fd, F, m, kp, b⟩ := C.ex
  exact pe_call F room hg m kp b .nil pass0 ha h1 h2 h3
theorem pe_calG (C : CalG X.prog X.w X.K X.mg X.base k x ps sp)
    (room : Room k X.A) (gd : X.A.guards = some [])
    (ha : PA X (e :: es) t)
    (hg : Gl X x := by rfl)
    (h1 : (x == ("__debug__" : Str)) = false := by decide)
    (h2 : starEach (e :: es) X.env =
      (false, eval e X.env) :: starEach es X.env := by rfl)
    (h3 : (backTo pos (starEach es X.env)).any (·.1) = false := by rfl) :
    PE X (.Call (.Name x p) (e :: es) [] pos) (tCall sp [] E0 t) := by
  obtain ⟨f, fd, F, m, kp, b⟩ := C.ex
  exact pe_callG F room gd hg m kp b .nil pass0 ha h1 h2 h3
end

/-! ### heaps: what may have changed -/
/-- all but p is as it was -/
def But (p : Addr) (H H' : Hp) : Prop :=
  ∀ q o, H q = some o → q ≠ p → H' q = some o
theorem But.refl {p : Addr} (H : Hp) : But p H H := fun _ _ h _ => h
theorem But.trans {p : Addr} {H H1 H2 : Hp} (a : But p H H1)
    (b : But p H1 H2) : But p H H2 :=
  fun q o h n => b q o (a q o h n) n
theorem But.of {p : Addr} {H H' : Hp} (a : Same H H') : But p H H' :=
  fun q o h _ => a q o h
theorem But.new {p q : Addr} {o : HO} {H H' : Hp} (a : But p H H')
    (n : H q = none) : But p H (upd H' q o) := fun b u h nb => by
  rw [upd_ne (ne_of_none h n)]
  exact a b u h nb
theorem But.at {p : Addr} {o : HO} {H H' : Hp} (a : But p H H') :
    But p H (upd H' p o) := fun b u h nb => by
  rw [upd_ne nb]
  exact a b u h nb
theorem But.same {p : Addr} {H H' : Hp} (a : But p H H')
    (n : H p = none) : Same H H' := fun q o h =>
  a q o h (ne_of_none h n)
theorem sameNew {H : Hp} {p : Addr} {o : HO} (h : H p = none) :
    Same H (upd H p o) := fun b x e => by
  rw [upd_ne (ne_of_none e h)]
  exact e
theorem Same.put {H H' : Hp} {p : Addr} {o : HO} (a : Same H H')
    (h : H p = none) : Same H (upd H' p o) := fun b x e => by
  rw [upd_ne (ne_of_none e h)]
  exact a b x e
theorem But.free {p q : Addr} {H H' : Hp} (a : But p H H') (n : q ≠ p)
    (h : H' q = none) : H q = none := by
  cases e : H q with
  | none => rfl
  | some o => rw [a q o e n] at h; cases h
theorem But.seq {K : PySem.W.Frag} {p a : Addr} {H H' : Hp} {xs : List V}
    (b : But p H H') (h : SqL K H a xs) (n : a ≠ p) : SqL K H' a xs := by
  rcases h with (h | ⟨o, h⟩) | h
  · exact .inl (.inl (b _ _ h n))
  · exact .inl (.inr ⟨o, b _ _ h n⟩)
  · exact .inr h

/-! ### the built-ins' names -/
structure Bl (mg : Str → Option Value) : Prop where
  len : mg "len" = none
  divmod : mg "divmod" = none
  abs : mg "abs" = none
  max : mg "max" = none
  min : mg "min" = none
  range : mg "range" = none
  enum : mg "enumerate" = none
  isi : mg "isinstance" = none
  str : mg "str" = none
  list : mg "list" = none
  set : mg "set" = none
  all : mg "all" = none
  repr : mg "repr" = none
theorem bt_divmod : bootBuiltins "divmod" = some (.builtin "divmod") := by
  decide +kernel
theorem bt_abs : bootBuiltins "abs" = some (.builtin "abs") := by
  decide +kernel
theorem bt_max : bootBuiltins "max" = some (.builtin "max") := by
  decide +kernel
theorem bt_min : bootBuiltins "min" = some (.builtin "min") := by
  decide +kernel
theorem bt_isi : bootBuiltins "isinstance" = some (.builtin "isinstance") := by
  decide +kernel
theorem bt_str : bootBuiltins "str" = some (.type "str") := by
  decide +kernel
theorem bt_list : bootBuiltins "list" = some (.type "list") := by
  decide +kernel
theorem bt_set : bootBuiltins "set" = some (.type "set") := by
  decide +kernel
theorem bt_all : bootBuiltins "all" = some (.builtin "all") := by
  decide +kernel
theorem bt_repr : bootBuiltins "repr" = some (.builtin "repr") := by
  decide +kernel

/-! ### the drawing state -/
def Rng (H : Hp) (p : Addr) : Prop :=
  ∃ a b : Int, H p = some (.lst [.int a, .int b]) ∧ 0 ≤ a ∧ 0 ≤ b ∧
    b < 2147483647
theorem Rng.but {H H' : Hp} {p q : Addr} (r : Rng H p) (b : But q H H')
    (n : p ≠ q) : Rng H' p := by
  obtain ⟨x, y, e, z⟩ := r
  exact ⟨x, y, b _ _ e n, z⟩
theorem Rng.same {H H' : Hp} {p : Addr} (r : Rng H p) (b : Same H H') :
    Rng H' p := by
  obtain ⟨x, y, e, z⟩ := r
  exact ⟨x, y, b _ _ e, z⟩
theorem Rng.ne {H : Hp} {p q : Addr} (r : Rng H p) (n : H q = none) :
    p ≠ q := by
  obtain ⟨x, y, e, z⟩ := r
  exact ne_of_none e n

/-- a draw below m: some number, the state moved on -/
def spDraw : Sp := fun vs H Q _ => ∃ (p : Addr) (m : Int),
  vs = [.ref p, .int m] ∧ Rng H p ∧ 0 < m ∧ m < 1000000 ∧
  ∀ (d : Int) (H' : Hp), 0 ≤ d → d < m → Rng H' p → But p H H' →
    Q (.int d) H'
/-- a new drawing state -/
def spRng (K : PySem.W.Frag) : Sp := fun vs H Q _ =>
  ∃ (a : Addr) (ns : List Int) (k : Nat), vs = [.ref a, .int k] ∧
  SqL K H a (ns.map V.int) ∧ k ≤ 1000 ∧
  ∀ (p : Addr) (H' : Hp), H p = none → Rng H' p → Same H H' →
    Q (.ref p) H'
end OM
/-! lambdas that are kept: what stands at their address, how they are made -/
namespace OM
open PySem PySem.Spec PyProof.Rows L2
/-- a lambda without parameters: its words, its captured cells, its code object -/
structure LF where
  qual : Str
  params : Arguments
  body : Expr
  scope : Scope
  cl : List (Str × Addr)
  c : Addr
abbrev LF.obj (F : LF) (pm ctv : Value) : Obj := PySem.W.kla_obj "<lambda>" F.qual F.params F.body F.scope F.cl pm F.c ctv
/-- such a one stands at f -/
def LamO (f : Addr) (F : LF) : HO := .ext fun h => ∃ pm ctv : Value, h.get? f = some (F.obj pm ctv)
theorem lamO_ne {f : Addr} {F : LF} (ps : Array Value) : LamO f F ≠ .tbl ps := fun z => by
  unfold LamO at z
  cases z
theorem lamO_get {P : Program} {w : World} {H : Hp} {h : Heap} {f : Addr} {F : LF} (x : HOk P w H h) (e : H f = some (LamO f F)) :
    ∃ pm ctv : Value, h.get? f = some (F.obj pm ctv) := by
  obtain ⟨z, _⟩ := x f _ e
  exact z
section
variable {X : Cx} {pins : List (Addr × Obj)} {σ : L2.St} {H : Hp} {s : Shared}
theorem inv_lam {F : LF} {t' : Nat} {pm ctv : Value} (I : Inv X pins σ H s) :
    Inv X pins σ (upd H s.heap.objs.size (LamO s.heap.objs.size F)) { s with heap := s.heap.push (F.obj pm ctv), toks := t' } := by
  have here : (s.heap.push (F.obj pm ctv)).get? s.heap.objs.size = some (F.obj pm ctv) := Heap.get?_push_size _ rfl
  refine I.laid (a := s.heap.objs.size) (fun b u z => Heap.get?_push_of_some _ z) (Nat.le_refl _) ?_
  refine ⟨⟨pm, ctv, here⟩, ⟨_, here⟩, ?_⟩
  rintro h1 h2 ⟨p, t, z⟩ stays
  exact ⟨p, t, stays _ z⟩
/-- what is known where a lambda has been made -/
structure Made (T : List (Addr × Str)) (mk : Addr → LF) (H : Hp) (f c' : Addr) (H1 : Hp) : Prop where
  ext : LamX.ExtN H H1
  non : ∀ b, H1 b = none → H b = none
  tab : LamX.Tabs T H1
  new : H f = none
  at_ : H1 f = some (LamO f (mk c'))
  cod : H1 c' = some (LamX.CodeO c' (mk c').qual)
/-- the reading of a lambda that is kept -/
def tLamK (T : List (Addr × Str)) (mk : Addr → LF) : TE := fun _ H Q =>
  LamX.Tabs T H ∧ ∀ (f c' : Addr) (H1 : Hp), Made T mk H f c' H1 → Q (.ref f) H1
theorem upd_non {a b : Addr} {o : HO} (z : upd H a o b = none) : H b = none := by
  unfold upd at z
  by_cases q : b = a
  · rw [if_pos q] at z
    cases z
  · rw [if_neg q] at z
    exact z
theorem lam_kept {T : List (Addr × Str)} {c P : Addr} {pr : Arguments} {bd : Expr} {sc : Scope} {pos : Pos} {E Q : Value → Shared → Prop}
    (I : Inv X pins σ H s) (TB : LamX.TabB X.base X.mg c P) (hc : X.env.code = .ref c) (hm : (P, X.env.qual ++ "<lambda>") ∈ T)
    (hu : ∀ p ∈ T, p.1 = P → p.2 = X.env.qual ++ "<lambda>") (hT : LamX.Tabs T H) (hd : defaultsOf pr X.env = ([], []))
    (hf : ∀ y ∈ sc.names, y.2 = .free → ∃ c, X.env.cells.lookup y.1 = some c)
    (q : ∀ (f c' : Addr) (H1 : Hp) (s' : Shared), Inv X pins σ H1 s' →
      Made T (fun c' => ⟨X.env.qual ++ "<lambda>", pr, bd, sc, cloFrom X.env.cells sc.names [], c'⟩) H f c' H1 → Q (.ref f) s') :
    wpAny (model X.prog X.w) X.A (eval (.Lambda pr bd sc pos) X.env) Q E s := by
  obtain ⟨ps, tb, tr, am⟩ := hT _ hm
  have bP : s.heap.BuiltinsAt X.mg P := TB.bm.keeps I.bk
  have gP : s.heap.get? P = some { cls := .none, data := .fields ps } := I.hok P _ tb
  refine PySem.W.kla_eval hd ?_
  cases look : codeAmong pos ps.toList with
  | some cv =>
    obtain ⟨c', rfl, co⟩ := am pos _ look
    refine PySem.W.kla_makeFunctionHit (mg := X.mg) (c := c) (P := P) (ps := ps) (closure_ok hf) I.ok.glob (I.mod.glob.keeps I.bk) hc
      (TB.code.keeps I.bk) gP tr look bP ?_
    intro ctv h' tk keep _
    have I1 : Inv X pins σ H { s with heap := h', toks := tk } := I.kept keep
    have nf : H h'.objs.size = none := I1.hok.fresh (Nat.le_refl _)
    have I2 := inv_lam (F := ⟨X.env.qual ++ "<lambda>", pr, bd, sc, cloFrom X.env.cells sc.names [], c'⟩) (t' := tk)
      (pm := (X.mg "__name__").getD .none) (ctv := ctv) I1
    have up : ∀ b o, H b = some o → upd H h'.objs.size (LamO h'.objs.size ⟨X.env.qual ++ "<lambda>", pr, bd, sc, cloFrom X.env.cells sc.names [], c'⟩) b = some o :=
      fun b o z => (upd_ne (ne_of_none z nf)).trans z
    exact q _ c' _ _ I2 ⟨fun b o z _ => up b o z, fun _ z => upd_non z, hT.ext up, nf, upd_same, up _ _ co⟩
  | none =>
    refine PySem.W.kla_makeFunction (mg := X.mg) (c := c) (P := P) (ps := ps) (closure_ok hf) I.ok.glob (I.mod.glob.keeps I.bk) hc
      (TB.code.keeps I.bk) gP tr look TB.gP bP ?_
    intro c' ctv h' tk keep le lt rec tab
    obtain ⟨c2, oc, vs, t, e2, ho, hdt, hv⟩ := rec
    cases e2
    have nc : H c' = none := I.hok.fresh le
    have I1 := LamX.inv_table (t' := tk) (more := #[rawInt pos.line, rawInt pos.col, .ref c']) (h' := h') I tb
      (fun b o n z => keep b o n z) tab le ⟨oc, vs, t, ho, hdt, hv⟩
    generalize hH : upd (upd H P (.tbl (ps ++ #[rawInt pos.line, rawInt pos.col, .ref c']))) c' (LamX.CodeO c' (X.env.qual ++ "<lambda>")) = H1 at I1
    have cP : P ≠ c' := ne_of_none tb nc
    have atP : H1 P = some (.tbl (ps ++ #[rawInt pos.line, rawInt pos.col, .ref c'])) := by
      rw [← hH, upd_ne cP, upd_same]
    have atc : H1 c' = some (LamX.CodeO c' (X.env.qual ++ "<lambda>")) := by rw [← hH, upd_same]
    have ext : LamX.ExtN H H1 := fun b o z n => by
      have nP : b ≠ P := fun w => by
        rw [w, tb] at z
        exact n ps (Option.some.inj z).symm
      rw [← hH, upd_ne (ne_of_none z nc), upd_ne nP]
      exact z
    have non1 : ∀ b, H1 b = none → H b = none := fun b z => by
      rw [← hH] at z
      exact upd_non (upd_non z)
    have tabs : LamX.Tabs T H1 := fun p hp => by
      by_cases w : p.1 = P
      · rw [hu p hp w, w]
        have eL : (ps ++ #[rawInt pos.line, rawInt pos.col, .ref c']).toList = ps.toList ++ [rawInt pos.line, rawInt pos.col, .ref c'] := by simp
        refine ⟨_, atP, by rw [eL]; exact PySem.TriplesOk_snoc _ _ _ _ tr, ?_⟩
        intro p' cv hcv
        rw [eL] at hcv
        cases LamX.among_app _ tr hcv with
        | inl old =>
          obtain ⟨c0, e1, e3⟩ := am p' cv old
          exact ⟨c0, e1, ext _ _ e3 LamX.codeO_ne⟩
        | inr now => exact ⟨c', now, atc⟩
      · obtain ⟨ps', a1, a2, a3⟩ := hT p hp
        refine ⟨ps', ?_, a2, ?_⟩
        · rw [← hH, upd_ne (ne_of_none a1 nc), upd_ne w]
          exact a1
        · intro p' cv hcv
          obtain ⟨c0, e1, e3⟩ := a3 p' cv hcv
          exact ⟨c0, e1, ext _ _ e3 LamX.codeO_ne⟩
    have nf : H1 h'.objs.size = none := I1.hok.fresh (Nat.le_refl _)
    have I2 := inv_lam (F := ⟨X.env.qual ++ "<lambda>", pr, bd, sc, cloFrom X.env.cells sc.names [], c'⟩) (t' := tk)
      (pm := (X.mg "__name__").getD .none) (ctv := ctv) I1
    have up : ∀ b o, H1 b = some o → upd H1 h'.objs.size (LamO h'.objs.size ⟨X.env.qual ++ "<lambda>", pr, bd, sc, cloFrom X.env.cells sc.names [], c'⟩) b = some o :=
      fun b o z => (upd_ne (ne_of_none z nf)).trans z
    exact q _ c' _ _ I2 ⟨fun b o z n => up b o (ext b o z n), fun _ z => non1 _ (upd_non z), tabs.ext up,
      I.hok.fresh (Nat.le_trans le (Nat.le_of_lt lt)), upd_same, up _ _ atc⟩
end
/-- lambda: .., kept -/
theorem pe_lamK {X : Cx} {T : List (Addr × Str)} {c P : Addr} {pr : Arguments} {bd : Expr} {sc : Scope} {pos : Pos}
    (TB : LamX.TabB X.base X.mg c P) (hc : X.env.code = .ref c) (hm : (P, X.env.qual ++ "<lambda>") ∈ T)
    (hu : ∀ p ∈ T, p.1 = P → p.2 = X.env.qual ++ "<lambda>") (L : LamX.LamS X.env.scope sc) (hd : defaultsOf pr X.env = ([], []) := by rfl) :
    PE X (.Lambda pr bd sc pos) (tLamK T fun c' => ⟨X.env.qual ++ "<lambda>", pr, bd, sc, cloFrom X.env.cells sc.names [], c'⟩) :=
  ⟨fun pins s σ H Q I h => lam_kept I TB hc hm hu h.1 hd (L.has I.ok) fun f c' H1 s' I1 m => ⟨.ref f, H1, I1, rfl, h.2 f c' H1 m⟩⟩
end OM
/-! lambdas that are kept: what their cells hold, their call -/
namespace OM
open PySem PySem.Spec PyProof.Rows L2
/-- the object o stands at c, as long as it does -/
def CellE (c : Addr) (o : Obj) : HO := .ext fun h => h.get? c = some o
/-- the cell at c is known, and holds v -/
def CellIs (H : Hp) (c : Addr) (v : V) : Prop := ∃ o u, H c = some (CellE c o) ∧ o.data = .cell (some u) ∧ RelV v u
theorem CellIs.same {H H' : Hp} {c : Addr} {v : V} (x : CellIs H c v) (e : H' c = H c) : CellIs H' c v := by
  obtain ⟨o, u, h1, h2, h3⟩ := x
  exact ⟨o, u, e.trans h1, h2, h3⟩
/-- the heap without what stands at cs -/
def drops (cs : List Addr) (H : Hp) : Hp := fun b => if b ∈ cs then none else H b
def backs (cs : List Addr) (H H' : Hp) : Hp := fun b => if b ∈ cs then H b else H' b
section
variable {cs : List Addr} {H H' : Hp} {b : Addr} {o : HO}
theorem drops_in (m : b ∈ cs) : drops cs H b = none := if_pos m
theorem drops_out (n : b ∉ cs) : drops cs H b = H b := if_neg n
theorem backs_in (m : b ∈ cs) : backs cs H H' b = H b := if_pos m
theorem backs_out (n : b ∉ cs) : backs cs H H' b = H' b := if_neg n
theorem drops_to (e : drops cs H b = some o) : b ∉ cs ∧ H b = some o := by
  by_cases m : b ∈ cs
  · rw [drops_in m] at e
    cases e
  · rw [drops_out m] at e
    exact ⟨m, e⟩
theorem drops_le : Same (drops cs H) H := fun _ _ e => (drops_to e).2
theorem drops_same (s : Same H H') : Same (drops cs H) (drops cs H') := fun b o e => by
  obtain ⟨n, e⟩ := drops_to e
  rw [drops_out n]
  exact s _ _ e
theorem drops_none (e : H b = none) : drops cs H b = none := by
  by_cases m : b ∈ cs
  · exact drops_in m
  · rw [drops_out m]
    exact e
theorem backs_of (s : Same (drops cs H) H') : Same H (backs cs H H') := fun b o e => by
  by_cases m : b ∈ cs
  · rw [backs_in m]
    exact e
  · rw [backs_out m]
    exact s b o (by rw [drops_out m]; exact e)
end
/-- the cells cs are known, each by its object -/
def Knows (cs : List Addr) (H : Hp) : Prop := ∀ c ∈ cs, ∃ o, H c = some (CellE c o)
theorem cellE_own {c x : Addr} {o : Obj} : CellE c o ≠ .own x := fun z => by
  unfold CellE at z
  cases z
theorem cellE_tup {c : Addr} {o : Obj} {xs : List V} : CellE c o ≠ .tup xs := fun z => by
  unfold CellE at z
  cases z
theorem cellE_frz {c : Addr} {o q : Obj} {u : HO} : CellE c o ≠ .frz q u := fun z => by
  unfold CellE at z
  cases z
theorem cellE_tbl {c : Addr} {o : Obj} {ps : Array Value} : CellE c o ≠ .tbl ps := fun z => by
  unfold CellE at z
  cases z
section
variable {P : Program} {w : World} {K : PySem.W.Frag} {mg : Str → Option Value} {base : Heap} {A : Around} {outer : List Env} {s s' : Shared}
  {H H' : Hp} {cs : List Addr} {h h' B : Heap}
theorem Knows.out {b : Addr} {o : HO} (k : Knows cs H) (e : H b = some o) (n : ∀ q, CellE b q ≠ o) : b ∉ cs := fun m => by
  obtain ⟨q, z⟩ := k b m
  rw [z] at e
  exact n q (Option.some.inj e)
theorem hok_drops (k : Knows cs H) (x : HOk P w H h) : HOk P w (drops cs H) h := fun b u e => by
  obtain ⟨n, e⟩ := drops_to e
  refine (x b u e).stay (fun _ _ _ q => q) (fun c q => ?_) fun c xs q => ?_
  · rw [drops_out (k.out q fun _ => cellE_own)]
    exact q
  · rw [drops_out (k.out q fun _ => cellE_tup)]
    exact q
theorem env0_drops (k : Knows cs H) (e : Env0 P w K mg base A outer s H) : Env0 P w K mg base A outer s (drops cs H) :=
  ⟨e.frames, e.mod, fun b o z => ⟨(e.bs b o z).1, drops_none (e.bs b o z).2⟩, e.bsz, e.funs, fun b m => drops_none (e.frf b m), hok_drops k e.hok, e.bare⟩
theorem un_back (k : Knows cs H) (u : Un (frs outer) [] (drops cs H) H' h h') : Un (frs outer) [] H (backs cs H H') h h' := by
  have out : ∀ b, H b = none → b ∉ cs := fun b z m => by
    obtain ⟨q, e⟩ := k b m
    rw [z] at e
    cases e
  have dn : ∀ b, H b = none → drops cs H b = none := fun b z => drops_none z
  refine ⟨fun b o q n => u.keep b o q (dn b n), fun b o q n => u.slot b o q (dn b n), ?_, u.there, ?_, ?_, ?_⟩
  · intro b o q n x
    rw [backs_out (out b n)]
    exact u.free b o q (dn b n) x
  · intro b xs q
    have n := k.out q fun _ => cellE_tup
    rw [backs_out n]
    exact u.tups b xs (by rw [drops_out n]; exact q)
  · intro b o x q
    have n := k.out q fun _ => cellE_frz
    rw [backs_out n]
    exact u.frzs b o x (by rw [drops_out n]; exact q)
  · intro b ps q
    have n := k.out q fun _ => cellE_tbl
    rw [backs_out n]
    exact u.tbls b ps (by rw [drops_out n]; exact q)
/-- the cells stand as before, where what stood at them is kept -/
theorem hok_back (k : Knows cs H) (x : HOk P w H h) (fr : ∀ b o, h.get? b = some o → drops cs H b = none → H' b = none)
    (kp : ∀ c ∈ cs, ∀ o, h.get? c = some o → B.get? c = some o) (y : HOk P w H' B) : HOk P w (backs cs H H') B := by
  have gone : ∀ c ∈ cs, H' c = none := fun c m => by
    obtain ⟨q, z⟩ := k c m
    obtain ⟨_, ⟨o, ho⟩, _⟩ := x c _ z
    exact fr c o ho (drops_in m)
  intro b u e
  by_cases m : b ∈ cs
  · rw [backs_in m] at e
    obtain ⟨q, z⟩ := k b m
    rw [z] at e
    cases e
    obtain ⟨ho, _, _⟩ := x b _ z
    have h2 := kp b m _ ho
    exact ⟨h2, ⟨_, h2⟩, fun h1 h2 z st => st _ z⟩
  · rw [backs_out m] at e
    refine (y b u e).stay (fun _ _ _ q => q) (fun c q => ?_) fun c xs q => ?_
    · rw [backs_out fun m' => by rw [gone c m'] at q; cases q]
      exact q
    · rw [backs_out fun m' => by rw [gone c m'] at q; cases q]
      exact q
theorem ce_back {Q : VK} {u : Value} (k : Knows cs H) (e : Env0 P w K mg base A outer s H)
    (x : CE outer P w (drops cs H) s (fun v H' => (∀ c ∈ cs, H' c = none) → Q v (backs cs H H')) u s') : CE outer P w H s Q u s' := by
  obtain ⟨v, H', os, bare, un, hok, r, q⟩ := x
  refine ⟨v, backs cs H H', os, bare, un_back k un, ?_, r, q fun c m => ?_⟩
  case refine_2 =>
    obtain ⟨_, z⟩ := k c m
    obtain ⟨_, ⟨o, ho⟩, _⟩ := e.hok c _ z
    exact un.free c o ho (drops_in m) (by simp)
  refine hok_back k e.hok (fun b o z n => un.free b o z n (by simp)) (fun c m o z => ?_) hok
  refine un.keep c o z (drops_in m) (fun f => ?_) (by simp)
  obtain ⟨q, z⟩ := k c m
  rw [e.frf c f] at z
  cases z
theorem cx_back {E : XK} {u : Value} (k : Knows cs H) (e : Env0 P w K mg base A outer s H)
    (x : L2.CX P w outer (drops cs H) s (fun cls d H' => (∀ c ∈ cs, H' c = none) → E cls d (backs cs H H')) u s') : L2.CX P w outer H s E u s' := by
  obtain ⟨a, B, H', cls, d, rfl, fl, hok, ub, na, os, ag, he⟩ := x
  have out : ∀ b, H b = none → b ∉ cs := fun b z m => by
    obtain ⟨q, e⟩ := k b m
    rw [z] at e
    cases e
  have kp : ∀ c ∈ cs, ∀ o, s.heap.get? c = some o → B.get? c = some o := fun c m o z => by
    refine ub.keep c o z (drops_in m) fun f => ?_
    obtain ⟨q, z⟩ := k c m
    rw [e.frf c f] at z
    cases z
  refine ⟨a, B, backs cs H H', cls, d, rfl, fl, hok_back k e.hok (fun b o z n => ub.free b o z n) kp hok, ⟨?_, ub.slot, ?_, ub.there, ?_, ?_, ?_⟩, ?_, os, ag, he fun c m => ?_⟩
  case refine_7 =>
    obtain ⟨_, z⟩ := k c m
    obtain ⟨_, ⟨o, ho⟩, _⟩ := e.hok c _ z
    exact ub.free c o ho (drops_in m)
  · exact fun b o z n => ub.keep b o z (drops_none n)
  · intro b o z n
    rw [backs_out (out b n)]
    exact ub.free b o z (drops_none n)
  · intro b xs q
    have n := k.out q fun _ => cellE_tup
    rw [backs_out n]
    exact ub.tups b xs (by rw [drops_out n]; exact q)
  · intro b o x q
    have n := k.out q fun _ => cellE_frz
    rw [backs_out n]
    exact ub.frzs b o x (by rw [drops_out n]; exact q)
  · intro b ps q
    have n := k.out q fun _ => cellE_tbl
    rw [backs_out n]
    exact ub.tbls b ps (by rw [drops_out n]; exact q)
  · refine (backs_out fun m => ?_).trans na
    obtain ⟨q, z⟩ := k a m
    obtain ⟨ho, _, _⟩ := e.hok a _ z
    have q := kp a m _ ho
    rw [fl.2.1] at q
    cases q
end
/-! ### the body -/
/-- the names of a lambda: captured ones and globals -/
structure LScope (fr : List Str) (sc : Scope) : Prop where
  kind : sc.kind = .function
  co : sc.isCoroutine = false
  gen : sc.isGenerator = false
  nd : fr.Nodup
  own : ∀ y ∈ sc.names, y.2 ≠ .local ∧ y.2 ≠ .cell
  free : ∀ y ∈ sc.names, y.2 = .free → y.1 ∈ fr
  frk : ∀ x ∈ fr, sc.names.lookup x = some .free
def lscB (fr : List Str) (sc : Scope) : Bool :=
  decide (sc.kind = .function) && !sc.isCoroutine && !sc.isGenerator && decide fr.Nodup && sc.names.all (fun y => !decide (y.2 = .local) && !decide (y.2 = .cell)) &&
    sc.names.all (fun y => !decide (y.2 = .free) || decide (y.1 ∈ fr)) && fr.all fun x => decide (sc.names.lookup x = some .free)
theorem lscope_by {fr : List Str} {sc : Scope} (h : lscB fr sc = true) : LScope fr sc := by
  unfold lscB at h
  simp only [Bool.and_eq_true, Bool.not_eq_true', decide_eq_true_eq, List.all_eq_true, Bool.or_eq_true, decide_eq_false_iff_not] at h
  obtain ⟨⟨⟨⟨⟨⟨h1, h2⟩, h3⟩, h4⟩, h5⟩, h6⟩, h7⟩ := h
  exact ⟨h1, h2, h3, h4, fun y m => h5 y m, fun y m z => (h6 y m).elim (fun q => absurd z q) id, h7⟩
abbrev envK (F : LF) (f L : Addr) : Env := PySem.W.envX F.qual F.scope L f (.ref F.c) F.cl
/-- the context of a lambda's body, entered at s -/
def kcx (P : Program) (w : World) (K : PySem.W.Frag) (mg : Str → Option Value) (base : Heap) (fr : List Str) (F : LF) (f : Addr) (A : Around) (outer : List Env) (s : Shared) (H : Hp) (E : XK) : Cx where
  prog := P
  w := w
  K := K
  mg := mg
  base := base
  A := A.deeper (envK F f s.heap.objs.size)
  N := fr
  s_0 := s
  H_0 := H
  env := envK F f s.heap.objs.size
  outer := outer
  stack := envK F f s.heap.objs.size :: outer
  ex := []
  fn := fun _ => false
  calm := true
  pn := []
  xe := fun e s' => wpAny (model P w) (A.deeper (envK F f s.heap.objs.size)) (leaving (envK F f s.heap.objs.size) e) (fun _ s2 => L2.CX P w outer H s E e s2) (fun e2 s2 => L2.CX P w outer H s E e2 s2) s'
/-- what its captured cells hold -/
structure CapK (cl : List (Str × Addr)) (fr : List Str) (ws : List V) (H : Hp) : Prop where
  len : ws.length = fr.length
  kn : ∀ y c, cl.lookup y = some c → ∃ v, CellIs H c v
  inj : ∀ x y c, cl.lookup x = some c → cl.lookup y = some c → x = y
  at_ : ∀ (i : Nat) (y : Str) (v : V), fr[i]? = some y → ws[i]? = some v → ∃ c, cl.lookup y = some c ∧ CellIs H c v
abbrev LF.cs (F : LF) : List Addr := F.cl.map (·.2)
theorem look_mem {α β : Type} [BEq α] : ∀ {l : List (α × β)} {y : α} {c : β}, l.lookup y = some c → c ∈ l.map (·.2)
  | (k, v) :: r, y, c, h => by
    rw [List.lookup_cons] at h
    cases q : y == k with
    | true =>
      rw [q] at h
      cases h
      exact List.mem_cons_self
    | false =>
      rw [q] at h
      exact List.mem_cons_of_mem _ (look_mem h)
section
variable {P : Program} {w : World} {K : PySem.W.Frag} {mg : Str → Option Value} {base : Heap} {A : Around} {outer : List Env} {s : Shared} {H : Hp} {E : XK}
  {fr : List Str} {F : LF} {f : Addr} {ws : List V}
theorem kstart {h1 : Heap} {tk : Nat} (S : LScope fr F.scope) (hd : A.handled = none) (kn : Knows F.cs H) (e0 : Env0 P w K mg base A outer s H) (C : CapK F.cl fr ws H)
    (ns : h1.Ns s.heap.objs.size fun y => ([] : List (Str × Value)).reverse.lookup y) (kp : ∀ b o, s.heap.get? b = some o → h1.get? b = some o) :
    Inv (kcx P w K mg base fr F f A outer s (drops F.cs H) E) [] (ws.map some) (drops F.cs H) { s with heap := h1, toks := tk } := by
  have e := env0_drops kn e0
  have no : ∀ b : Addr, b ∉ (kcx P w K mg base fr F f A outer s (drops F.cs H) E).ex := fun b z => absurd (show b ∈ ([] : List Addr) from z) (by simp)
  have cell : ∀ {c : Addr} {v : V}, CellIs H c v → ∃ u, RelV v u ∧ h1.IsCell c (some u) := fun {c v} x => by
    obtain ⟨o, u, z, d, r⟩ := x
    obtain ⟨ho, _⟩ := e0.hok c _ z
    exact ⟨u, r, o, kp _ _ ho, d⟩
  have nofree : ∀ y, F.scope.names.lookup y = some .free → y ∈ fr := fun y z => S.free _ (PySem.mem_of_lookup z) rfl
  refine ⟨⟨e.mod, S.kind, rfl, rfl, Nat.le_refl _, C.inj, ?_, (fun y c z _ => nomatch (show false = true from z)), fun _ => hd, Around.frames_deeper e.frames, .inr ⟨rfl, rfl⟩,
      fun b z => absurd z (no b), e.bs, e.bsz, fun b _ _ => no b, fun b z => absurd z (no b), e.funs, e.frf⟩, rfl, e.bare, Un.kept kp, ⟨_, ns, ?_⟩, ?_, e.hok.fresh (Nat.le_refl _), ?_, ?_, e.hok.kept kp, ?_⟩
  · intro y k
    have k : F.scope.names.lookup y = some .cell ∨ F.scope.names.lookup y = some .free := k
    cases k with
    | inl k => exact absurd rfl (S.own _ (PySem.mem_of_lookup k)).2
    | inr k =>
      obtain ⟨i, hi⟩ := List.mem_iff_getElem?.mp (nofree y k)
      have lt : i < ws.length := by
        rw [C.len]
        exact (List.getElem?_eq_some_iff.mp hi).1
      obtain ⟨c, hc, _⟩ := C.at_ i y _ hi (List.getElem?_eq_getElem lt)
      exact ⟨c, hc⟩
  · intro i y v e1 e2 _
    have e1 : fr[i]? = some y := e1
    rw [List.getElem?_map] at e2
    cases q : ws[i]? with
    | none =>
      rw [q] at e2
      cases e2
    | some x =>
      rw [q] at e2
      cases e2
      obtain ⟨c, hc, z⟩ := C.at_ i y _ e1 q
      obtain ⟨u, r, k⟩ := cell z
      exact ⟨u, r, .inr ⟨.inr (S.frk y (List.mem_of_getElem? e1)), c, hc, k⟩⟩
  · intro y c z
    obtain ⟨v, x⟩ := C.kn y c z
    obtain ⟨u, _, k⟩ := cell x
    exact ⟨_, k⟩
  · exact fun y c z => drops_in (look_mem z)
  · exact fun q m => absurd (show q ∈ ([] : List (Addr × Obj)) ++ [] from m) (by simp)
  · show (ws.map some).length = fr.length
    rw [List.length_map, C.len]
end
/-! ### what it promises -/
/-- f may be called where I is true: tl tells what comes of it -/
structure Thk (P : Program) (w : World) (K : PySem.W.Frag) (mg : Str → Option Value) (base : Heap) (k : Nat) (f : Addr) (I : Hp → Prop) (tl : XK → Hp → VK → Prop) : Prop where
  at_ : ∀ H, I H → ∃ F, H f = some (LamO f F)
  run : ∀ (A : Around) (outer : List Env) (s : Shared) (H : Hp) (Q : VK) (E : XK), Room k A → A.guards = some [] → Env0 P w K mg base A outer s H → I H → tl E H Q →
    codeAny (model P w) A (.call (.ref f) ⟨[], []⟩) (CR (L2.CX P w) outer P w H s Q E) s
/-- the lambda F stands at f, its cells hold ws -/
structure LamIs (F : LF) (fr : List Str) (ws : List V) (f : Addr) (H : Hp) : Prop where
  fn : H f = some (LamO f F)
  co : H F.c = some (LamX.CodeO F.c F.qual)
  kn : Knows F.cs H
  ca : CapK F.cl fr ws H
section
variable {P : Program} {w : World} {K : PySem.W.Frag} {mg : Str → Option Value} {base : Heap}
theorem Thk.mono {j k : Nat} {f : Addr} {I : Hp → Prop} {tl : XK → Hp → VK → Prop} (t : Thk P w K mg base j f I tl) (h : j ≤ k) : Thk P w K mg base k f I tl :=
  ⟨t.at_, fun A outer s H Q E r => t.run A outer s H Q E (r.mono h)⟩
/-- by its body -/
theorem thk_of {k : Nat} {F : LF} {fr : List Str} {ws : List V} {f : Addr} {tb : XK → TE} (S : LScope fr F.scope)
    (hb : ∀ pm ctv : Value, bindArgs (PySem.W.kla_fn "<lambda>" F.qual F.params F.body F.scope F.cl pm (.ref F.c) ctv) ⟨[], []⟩ = pure [])
    (body : ∀ (A : Around) (outer : List Env) (s : Shared) (H : Hp) (E : XK), Room k (A.deeper (envK F f s.heap.objs.size)) → A.guards = some [] → PE (kcx P w K mg base fr F f A outer s H E) F.body (tb E)) :
    Thk P w K mg base (k + 1) f (LamIs F fr ws f) fun E H Q => tb (fun cls d H' => (∀ c ∈ F.cs, H' c = none) → E cls d (backs F.cs H H')) (ws.map some) (drops F.cs H) fun v H' => (∀ c ∈ F.cs, H' c = none) → Q v (backs F.cs H H') := by
  refine ⟨fun H x => ⟨F, x.fn⟩, ?_⟩
  intro A outer s H Q E room gd e0 x q
  obtain ⟨pm, ctv, at_⟩ := lamO_get e0.hok x.fn
  have cr : s.heap.CodeRec (.ref F.c) F.qual := by
    obtain ⟨⟨oc, vs, t, a, b, c⟩, _⟩ := e0.hok F.c _ x.co
    exact ⟨F.c, oc, vs, t, rfl, a, b, c⟩
  have lim : s.heap.NoLimit := e0.mod.nolimit.keeps fun b o z => (e0.bs b o z).1
  refine codeAny_mono (R := CR (L2.CX P w) outer P w (drops F.cs H) s (fun v H' => (∀ c ∈ F.cs, H' c = none) → Q v (backs F.cs H H')) fun cls d H' => (∀ c ∈ F.cs, H' c = none) → E cls d (backs F.cs H H')) ?_ ?_
  · refine PySem.W.kla_callFunE room.depth at_ rfl S.co S.gen rfl cr ?_
    rw [hb pm ctv]
    refine wpAny_pure (wpAny_newFunctionEnv (fun y m => (S.own y m).2) (fun y m => absurd m (by simp)) ?_ S.kind)
    intro h1 ns bound
    refine ⟨lim.fresh _ bound, ?_⟩
    have kp : ∀ b o, s.heap.get? b = some o → h1.get? b = some o := fun b o z =>
      bound.extBut b o (Nat.ne_of_lt (Heap.lt_size z)) (Heap.get?_push_of_some _ z)
    have J := kstart (tk := s.toks + ([] : List (Str × Value)).length) (f := f) (E := fun cls d H' => (∀ c ∈ F.cs, H' c = none) → E cls d (backs F.cs H H')) S room.hd x.kn e0 x.ca ns kp
    refine PySem.W.kla_codeExpr (wpAny_mono ((body A outer s _ _ (room.deeper _) gd).run [] _ _ _ _ J q) ?_ fun _ _ z => z)
    rintro v s' ⟨v', H', J', r, q'⟩
    exact ⟨v', H', J'.os, J'.bare, J'.base, J'.hok, r, q'⟩
  · intro r s' z
    match r, z with
    | .error e, z => exact cx_back x.kn e0 z
    | .ok (.ret u), z => exact ce_back x.kn e0 z
    | .ok .next, z => exact False.elim z
    | .ok .brk, z => exact False.elim z
    | .ok .cont, z => exact False.elim z
end
/-- x(), x a name that holds such a lambda -/
theorem pe_thk {Z : Cx} {k i : Nat} {x : Str} {f : Addr} {I : Hp → Prop} {tl : XK → Hp → VK → Prop} {W : WX} {E : XK} {p pos : Pos}
    (t : Thk Z.prog Z.w Z.K Z.mg Z.base k f I tl) (room : Room k Z.A) (gd : Z.A.guards = some []) (tk : Takes Z W) (hW : ∀ cls d σ H, E cls d H → W cls d σ H)
    (hN : Z.N[i]? = some x) (hv : Vis Z.env.scope x) (h1 : (x == ("__debug__" : Str)) = false := by decide) (h2 : (x == ("__classdict__" : Str)) = false := by decide) :
    PE Z (.Call (.Name x p) [] [] pos) (fun σ H Q => σ[i]? = some (some (.ref f)) ∧ I H ∧ tl E H Q) := by
  constructor
  intro pins s σ H Q J q
  obtain ⟨hs, hI, ht⟩ := q
  refine wpAny_Call_Name_kw (thn ((pe_var (pos := p) hN hv h1 h2).run pins s σ H (fun v H1 => v = .ref f ∧ H1 = H) J ⟨.ref f, hs, rfl, rfl⟩) ?_)
  rintro u s1 ⟨v, H1, J1, r, e1, e2⟩
  subst e1
  rw [e2] at J1
  obtain rfl : u = Value.ref f := r
  obtain ⟨F, hF⟩ := t.at_ H hI
  obtain ⟨pm, ctv, hf⟩ := lamO_get J1.hok hF
  refine PySem.W.callWith_F0 ⟨_, _, _, _, hf⟩ ?_
  refine wpAny_call (codeAny_mono (t.run Z.A Z.stack s1 H Q E room gd J1.env0 hI ht) ?_)
  intro r s' z
  match r, z with
  | .error e, z => exact passes_call tk hW pins σ H s1 e s' J1 z
  | .ok (.ret u), z => exact J1.after z
  | .ok .next, z => exact False.elim z
  | .ok .brk, z => exact False.elim z
  | .ok .cont, z => exact False.elim z
end OM
namespace OM
open PySem PySem.Spec PyProof.Rows L2
/-- a suite, read where there are as many letters as there are -/
def tLnK (n : Nat) (t : TS) : TS := fun D σ H => σ.length = n → t D σ H
theorem pss_lnK {X : Cx} {ss : List Stmt} {t : TS} {n : Nat} (hn : X.N.length = n) (h : PSs X ss t) : PSs X ss (tLnK n t) :=
  ⟨fun pins s σ H D I q => h.run pins s σ H D I (q (I.len.trans hn))⟩
/-- a suite that is read by a choice -/
theorem pss_exK {X : Cx} {ss : List Stmt} {α : Type} {c : α → Prop} {t : α → TS} (h : ∀ a, c a → PSs X ss (t a)) : PSs X ss (fun D σ H => ∃ a, c a ∧ t a D σ H) :=
  ⟨fun pins s σ H D I ⟨a, ca, q⟩ => (h a ca).run pins s σ H D I q⟩
end OM
/-! names as lists of codes -/
namespace OM
open PySem L2

/-- one to eight letters from a to z -/
structure Nm (l : List Nat) : Prop where
  lo : 1 ≤ l.length
  hi : l.length ≤ 8
  az : ∀ c ∈ l, 97 ≤ c ∧ c ≤ 122
abbrev vS (l : List Nat) : V := .str (SX.S l)
theorem vS_inj {a b : List Nat} (h : vS a = vS b) : a = b :=
  SX.S_inj (V.str.inj h)

theorem nodup_le {α : Type} [BEq α] [LawfulBEq α] : ∀ {l m : List α},
    l.Nodup → (∀ x ∈ l, x ∈ m) → l.length ≤ m.length
  | [], _, _, _ => Nat.zero_le _
  | x :: l, m, nd, h => by
    have hx : x ∈ m := h x List.mem_cons_self
    have nd' := List.nodup_cons.mp nd
    have r : l.length ≤ (m.erase x).length := by
      refine nodup_le nd'.2 fun y hy => ?_
      have ne : y ≠ x := fun e => nd'.1 (e ▸ hy)
      exact (List.mem_erase_of_ne ne).mpr (h y (List.mem_cons_of_mem _ hy))
    rw [List.length_erase_of_mem hx] at r
    have : 0 < m.length := List.length_pos_of_mem hx
    rw [List.length_cons]
    omega

/-- the k-th name to fall back upon -/
def frs6 (l : List Nat) (k : Nat) : List Nat :=
  l.take 6 ++ [97 + k / 26, 97 + k % 26]
theorem frs6_inj {l : List Nat} {j k : Nat} (h : frs6 l j = frs6 l k) :
    j = k := by
  have e := List.append_cancel_left h
  injection e with e1 e2
  injection e2 with e2 _
  omega
theorem Nm.frs {l : List Nat} (n : Nm l) {k : Nat} (hk : k < 676) :
    Nm (frs6 l k) := by
  unfold frs6
  refine ⟨?_, ?_, ?_⟩
  · simp
  · rw [List.length_append, List.length_take]
    show min 6 l.length + 2 ≤ 8
    omega
  · intro c hc
    rcases List.mem_append.mp hc with h | h
    · exact n.az c (List.mem_of_mem_take h)
    · rcases List.mem_cons.mp h with h | h
      · omega
      · rcases List.mem_cons.mp h with h | h
        · omega
        · cases h
def fresh (l : List Nat) : List (List Nat) :=
  l :: (List.range 676).map (frs6 l)
theorem fresh_nm {l : List Nat} (n : Nm l) : ∀ x ∈ fresh l, Nm x := by
  intro x hx
  rcases List.mem_cons.mp hx with h | h
  · rw [h]; exact n
  · obtain ⟨k, hk, rfl⟩ := List.mem_map.mp h
    exact n.frs (List.mem_range.mp hk)
theorem nodup_map {α β : Type} {f : α → β} (hf : ∀ a b, f a = f b → a = b) :
    ∀ {l : List α}, l.Nodup → (l.map f).Nodup
  | [], _ => List.nodup_nil
  | x :: l, h => by
    have h' := List.nodup_cons.mp h
    rw [List.map_cons]
    refine List.nodup_cons.mpr ⟨fun m => ?_, nodup_map hf h'.2⟩
    obtain ⟨y, hy, e⟩ := List.mem_map.mp m
    exact h'.1 (hf _ _ e ▸ hy)
theorem fresh_some {l : List Nat} {us : List (List Nat)}
    (h : us.length < 676) :
    ∃ x r, (fresh l).filter (fun y => decide (y ∉ us)) = x :: r := by
  cases e : (fresh l).filter (fun y => decide (y ∉ us)) with
  | cons x r => exact ⟨x, r, rfl⟩
  | nil =>
    exfalso
    have all : ∀ x ∈ (List.range 676).map (frs6 l), x ∈ us := by
      intro x hx
      apply Classical.byContradiction
      intro nx
      have : x ∈ (fresh l).filter (fun y => decide (y ∉ us)) :=
        List.mem_filter.mpr ⟨List.mem_cons_of_mem _ hx, decide_eq_true nx⟩
      rw [e] at this
      cases this
    have le := nodup_le (nodup_map (fun a b => frs6_inj (l := l))
      List.nodup_range) all
    rw [List.length_map, List.length_range] at le
    omega
theorem inV_S (x : List Nat) : ∀ us : List (List Nat),
    inV (vS x) (us.map vS) = decide (x ∈ us)
  | [] => by simp [inV]
  | u :: us => by
    have ih := inV_S x us
    unfold inV at ih ⊢
    rw [List.map_cons, List.any_cons, ih]
    by_cases e : u = x
    · subst e
      simp [eqV]
    · have ne : ¬ x = u := fun z => e z.symm
      have : eqV (vS u) (vS x) = false := by
        unfold eqV
        simp
        intro z
        exact e z
      rw [this]
      simp [ne]
theorem flat_S (us : List (List Nat)) : (us.map vS).all flatV = true := by
  rw [List.all_eq_true]
  intro v hv
  obtain ⟨l, _, rfl⟩ := List.mem_map.mp hv
  rfl
end OM
namespace OM
open PySem PySem.Spec PyProof.Rows L2
/-- an expression, with a word behind it -/
def tMid (t : TE) : TE := fun σ H Q =>
  ∃ M : V → Hp → Prop, t σ H M ∧ ∀ v H', M v H' → Q v H'
theorem pe_mid {X : Cx} {e : Expr} {t : TE} (h : PE X e t) :
    PE X e (tMid t) := by
  constructor
  intro pins s σ H Q I q
  obtain ⟨M, m, k⟩ := q
  refine thn (h.run pins s σ H M I m) ?_
  rintro u s1 ⟨v, H1, I1, r, z⟩
  exact ⟨v, H1, I1, r, k v H1 z⟩
def tMidT (t : TT) : TT := fun σ H Q =>
  ∃ M : Bool → Hp → Prop, t σ H M ∧ ∀ v H', M v H' → Q v H'
theorem pt_mid {X : Cx} {e : Expr} {t : TT} (h : PT X e t) :
    PT X e (tMidT t) := by
  constructor
  intro pins s σ H Q I q
  obtain ⟨M, m, k⟩ := q
  refine thn (h.run pins s σ H M I m) ?_
  rintro u s1 ⟨H1, I1, z⟩
  exact ⟨H1, I1, k u H1 z⟩
theorem But.put {p t : Addr} {o : HO} {H H1 : Hp} (a : But p H H1)
    (n : H1 t = none) (ne : t ≠ p) : But p H (upd H1 t o) :=
  a.new (a.free ne n)
/-- len of a list or tuple, the written part a letter -/
def rLenK (K : PySem.W.Frag) : List V → Hp → VK → Prop := fun xs H Q =>
  ∃ p ys, xs = [.ref p] ∧ (SqL K H p ys ∨ SqT K H p ys) ∧
    Q (.int ys.length) H
theorem call_lenK {X : Cx} : CallR X (.builtin "len") (rLenK X.K) :=
  call_len_seq
theorem sz {n : Nat} (h : n ≤ 100000) : n ≤ sizeLine :=
  Nat.le_trans h (by decide)
theorem sz' {n : Nat} (h : n < 100000) : n < sizeLine :=
  Nat.lt_of_lt_of_le h (by decide)
end OM
namespace OM
open PySem PySem.Spec PyProof.Rows L2
/-- what the written part says of an error's class -/
structure XCl (K : PySem.W.Frag) (C : Addr) : Prop where
  ox : OexC K C
  xf : XfC K C
  ha : PySem.W.findIn K (.ref C) "__class__" =
    some (some (.builtin "object.__class__"))
  hn : PySem.W.specialIn K (.builtin "object.__class__") "__get__" =
    some (some (.builtin "getset_descriptor.__get__"))
  ht : PySem.W.takesIn K (.builtin "object.__class__") = some true
  hm : PySem.W.mroIn K C (.type "object") = some true
theorem ps_imp {X : Cx} {st : Stmt} {t t' : TS} (h : PS X st t)
    (i : ∀ D σ H, t' D σ H → t D σ H) : PS X st t' :=
  ⟨fun pins s σ H D I w => h.run pins s σ H D I (i D σ H w)⟩
/-- the promise of an error's __init__ of two fields -/
def spX2 (C : Addr) (f1 f2 : Str) : Sp := fun vs H Q _ =>
  ∃ (a : Addr) (v1 v2 : V), vs = [.ref a, v1, v2] ∧
  H a = some (exo a C none) ∧ ∀ dx, H dx = none → dx ≠ a →
    Q .non (upd (upd (upd H dx (exd dx [(f1, v1)])) a (exo a C (some dx))) dx
      (exd dx [(f2, v2), (f1, v1)]))
def spX1 (C : Addr) (f1 : Str) : Sp := fun vs H Q _ =>
  ∃ (a : Addr) (v1 : V), vs = [.ref a, v1] ∧
  H a = some (exo a C none) ∧ ∀ dx, H dx = none → dx ≠ a →
    Q .non (upd (upd H dx (exd dx [(f1, v1)])) a (exo a C (some dx)))
/-- a class whose error is raised, in one word -/
structure XMk (P : Program) (w : World) (K : PySem.W.Frag)
    (mg : Str → Option Value) (base : Heap) (C : Addr) (k : Nat) (x : Str)
    (ps : List Str) (sp : Sp) : Prop where
  mgC : mg x = some (.ref C)
  cl : XCl K C
  ex : ∃ f fd, FnOk P w K mg base CX0 k f fd ps sp ∧
    PySem.W.findIn K (.ref C) "__init__" = some (some (.ref f)) ∧
    PySem.W.typeIn K (.ref f) = some (.type "function") ∧ Binds K fd ps []
section
variable {X : Cx}
theorem pass0' {E : XK} : Passes CX0 X E := fun _ _ _ _ _ _ _ h => h.elim
/-- raise C(e1, e2) -/
def tRaise2 (C : Addr) (f1 f2 : Str) (W : WX) (ta : TA) : TS := fun _ σ H =>
  ta σ H fun vs H1 => ∃ v1 v2, vs = [v1, v2] ∧ ∀ d H', H1 d = none →
    H' d = some (.xd [(f2, v2), (f1, v1)]) → Same H1 H' →
    W (.ref C) (some d) σ H'
def tMidA (t : TA) : TA := fun σ H Q =>
  ∃ M : List V → Hp → Prop, t σ H M ∧ ∀ vs H', M vs H' → Q vs H'
theorem pa_mid {es : List Expr} {t : TA} (h : PA X es t) :
    PA X es (tMidA t) := by
  constructor
  intro pos pins s σ H Q I q
  obtain ⟨M, m, k⟩ := q
  refine thn (h.run pos pins s σ H M I m) ?_
  rintro u s1 ⟨v, H1, I1, r, z⟩
  exact ⟨v, H1, I1, r, k v H1 z⟩
theorem made_same {H : Hp} {a d : Addr} {C : Addr} {fs : List (Str × V)}
    {H2 : Hp} (na : H a = none) (nd : H d = none)
    (s : ∀ b o, H b = some o → H2 b = some o) :
    (upd (del H2 a) d (.xd fs)) d = some (.xd fs) ∧
    Same H (upd (del H2 a) d (.xd fs)) :=
  ⟨upd_same, fun b o e => by
    rw [upd_ne (ne_of_none e nd), del_ne (ne_of_none e na)]
    exact s b o e⟩
theorem ps_raise2 {C : Addr} {k : Nat} {x : Str} {ps : List Str}
    {f1 f2 : Str} {W : WX} {p pos pos2 : Pos} {e : Expr} {es : List Expr}
    {ta : TA} (M : XMk X.prog X.w X.K X.mg X.base C k x ps (spX2 C f1 f2))
    (room : Room (k + 1) X.A) (hc : X.calm = true) (tk : Takes X W)
    (ha : PA X (e :: es) ta) (hg : Gl X x := by rfl)
    (h1 : (x == ("__debug__" : Str)) = false := by decide)
    (h2 : starEach (e :: es) X.env =
      (false, eval e X.env) :: starEach es X.env := by rfl)
    (h3 : (backTo pos (starEach es X.env)).any (·.1) = false := by rfl) :
    PS X (.Raise (some (.Call (.Name x p) (e :: es) [] pos)) none pos2)
      (tRaise2 C f1 f2 W ta) := by
  obtain ⟨f, fd, F, iC, tI, b⟩ := M.ex
  refine ps_imp (ps_raise hc tk (pmk_oex M.cl.ox iC tI F room b .nil pass0' hg
    M.mgC (pa_mid ha) h1 h2 h3)) ?_
  intro D σ H h
  refine ⟨_, h, ?_⟩
  rintro vs H1 ⟨v1, v2, rfl, q⟩
  refine ⟨by simp, fun a na => ⟨a, v1, v2, rfl, upd_same, fun d nd ne => ?_⟩⟩
  have nd1 : H1 d = none := by rw [upd_ne ne] at nd; exact nd
  refine ⟨rfl, d, _, ?_, upd_same, nd1, ?_⟩
  · rw [upd_ne ne.symm, upd_same]
  · obtain ⟨e1, e2⟩ := made_same (C := C) (fs := [(f2, v2), (f1, v1)]) na nd1
      (H2 := upd (upd (upd (upd H1 a (exo a C none)) d (exd d [(f1, v1)])) a
        (exo a C (some d))) d (exd d [(f2, v2), (f1, v1)])) fun b o z => by
        rw [upd_ne (ne_of_none z nd1), upd_ne (ne_of_none z na),
          upd_ne (ne_of_none z nd1), upd_ne (ne_of_none z na)]
        exact z
    exact q d _ nd1 e1 e2
/-- raise C(e1) -/
def tRaise1 (C : Addr) (f1 : Str) (W : WX) (ta : TA) : TS := fun _ σ H =>
  ta σ H fun vs H1 => ∃ v1, vs = [v1] ∧ ∀ d H', H1 d = none →
    H' d = some (.xd [(f1, v1)]) → Same H1 H' → W (.ref C) (some d) σ H'
theorem ps_raise1 {C : Addr} {k : Nat} {x : Str} {ps : List Str}
    {f1 : Str} {W : WX} {p pos pos2 : Pos} {e : Expr} {es : List Expr}
    {ta : TA} (M : XMk X.prog X.w X.K X.mg X.base C k x ps (spX1 C f1))
    (room : Room (k + 1) X.A) (hc : X.calm = true) (tk : Takes X W)
    (ha : PA X (e :: es) ta) (hg : Gl X x := by rfl)
    (h1 : (x == ("__debug__" : Str)) = false := by decide)
    (h2 : starEach (e :: es) X.env =
      (false, eval e X.env) :: starEach es X.env := by rfl)
    (h3 : (backTo pos (starEach es X.env)).any (·.1) = false := by rfl) :
    PS X (.Raise (some (.Call (.Name x p) (e :: es) [] pos)) none pos2)
      (tRaise1 C f1 W ta) := by
  obtain ⟨f, fd, F, iC, tI, b⟩ := M.ex
  refine ps_imp (ps_raise hc tk (pmk_oex M.cl.ox iC tI F room b .nil pass0' hg
    M.mgC (pa_mid ha) h1 h2 h3)) ?_
  intro D σ H h
  refine ⟨_, h, ?_⟩
  rintro vs H1 ⟨v1, rfl, q⟩
  refine ⟨by simp, fun a na => ⟨a, v1, rfl, upd_same, fun d nd ne => ?_⟩⟩
  have nd1 : H1 d = none := by rw [upd_ne ne] at nd; exact nd
  refine ⟨rfl, d, [(f1, v1)], upd_same, ?_, nd1, ?_⟩
  · rw [upd_ne ne, upd_same]
  · obtain ⟨e1, e2⟩ := made_same (C := C) (fs := [(f1, v1)]) na nd1
      (H2 := upd (upd (upd H1 a (exo a C none)) d (exd d [(f1, v1)])) a
        (exo a C (some d))) fun b o z => by
        rw [upd_ne (ne_of_none z na), upd_ne (ne_of_none z nd1),
          upd_ne (ne_of_none z na)]
        exact z
    exact q d _ nd1 e1 e2
/-- the error that a suite holds -/
theorem suite_inst {a C dd : Addr} {oe : Obj} {pn : List (Addr × Obj)}
    {pins : List (Addr × Obj)} {σ : L2.St} {H : Hp} {s : Shared}
    {fs : List (Str × V)}
    (I : Inv (X.suite a ((a, oe) :: pn)) pins σ H s)
    (hz : Zc (.ref C) (some dd) oe) (hf : ∃ vs, oe.data = .fields vs)
    (hd : H dd = some (.xd fs)) :
    ∃ od, PySem.W.InstAt s.heap a oe C (some od) := by
  obtain ⟨ha, _⟩ := I.pin (a, oe) (List.mem_append_left _ List.mem_cons_self)
  obtain ⟨vs, hv⟩ := hf
  obtain ⟨mA, hns, _⟩ := (show ObjOk X.prog X.w H s.heap dd (.xd fs) from
    I.hok dd _ hd)
  obtain ⟨od, ho, _⟩ := lookIn_ns hns
  exact ⟨od, ha, hz.1, by unfold PySem.W.notCls; rw [hv] <;> rfl,
    by rw [hz.2]; exact ho⟩
def rIsX (K : PySem.W.Frag) (a : Addr) (cls : Value) (d : Option Addr) :
    List V → Hp → VK → Prop := fun xs H Q =>
  ∃ (C dd : Addr) (fs : List (Str × V)) (c : V) (cv : Value) (b : Bool),
    XCl K C ∧ cls = .ref C ∧ d = some dd ∧ H dd = some (.xd fs) ∧
    xs = [.ref a, c] ∧ ClsV c cv ∧
    PySem.W.kitOne K (.ref C) cv = some b ∧ Q (.bl b) H
theorem call_isX {a : Addr} {cls : Value} {d : Option Addr} {oe : Obj}
    {pn : List (Addr × Obj)} (hz : Zc cls d oe)
    (hf : ∃ vs, oe.data = .fields vs) :
    CallR (X.suite a ((a, oe) :: pn)) (.builtin "isinstance")
      (rIsX X.K a cls d) := by
  intro pins s σ H xs us Q I r h
  obtain ⟨C, dd, fs, c, cv, b, T, rfl, rfl, hd, rfl, k, e, q⟩ := h
  obtain ⟨u1, u2, rfl, r1, r2⟩ := vals2 r
  cases r1
  cases k.eq r2
  obtain ⟨od, J⟩ := suite_inst I hz hf hd
  obtain ⟨cd, hc, _⟩ := PySem.W.any_some T.xf.hdC
  exact PySem.W.kia_one (PySem.W.kitx_exc (by rw [hc]; rfl) T.xf.ga T.xf.gg
    T.xf.exC T.ha T.hn T.ht T.hm) I.kIn J e (fun z => nomatch z) fun tk =>
    ⟨.bl b, H, I.kept (t' := tk) fun _ _ z => z, rfl, q⟩
def rIsXT (K : PySem.W.Frag) (a : Addr) (cls : Value) (d : Option Addr) :
    List V → Hp → VK → Prop := fun xs H Q =>
  ∃ (C dd tp : Addr) (fs : List (Str × V)) (cs : List V) (us : List Value)
    (b : Bool), XCl K C ∧ cls = .ref C ∧ d = some dd ∧
    H dd = some (.xd fs) ∧ xs = [.ref a, .ref tp] ∧ H tp = some (.tup cs) ∧
    Paired ClsV cs us ∧ PySem.W.kitAny K (.ref C) us = some b ∧ Q (.bl b) H
theorem paired_eq : ∀ {cs : List V} {us vs : List Value},
    Paired ClsV cs us → Vals cs vs → vs = us
  | _, _, _, .nil, .nil => rfl
  | _, _, _, .cons h t, .cons r s => by
    rw [h.eq r, paired_eq t s]
theorem call_isXT {a : Addr} {cls : Value} {d : Option Addr} {oe : Obj}
    {pn : List (Addr × Obj)} (hz : Zc cls d oe)
    (hf : ∃ vs, oe.data = .fields vs) :
    CallR (X.suite a ((a, oe) :: pn)) (.builtin "isinstance")
      (rIsXT X.K a cls d) := by
  intro pins s σ H xs us Q I r h
  obtain ⟨C, dd, tp, fs, cs, vs, b, T, rfl, rfl, hd, rfl, ht, pr, e, q⟩ := h
  obtain ⟨u1, u2, rfl, r1, r2⟩ := vals2 r
  cases r1
  cases r2
  obtain ⟨od, J⟩ := suite_inst I hz hf hd
  obtain ⟨cd, hc, _⟩ := PySem.W.any_some T.xf.hdC
  obtain ⟨z, its, rv, ob, ho, hcl, n, hdt⟩ := I.hok tp _ ht
  cases paired_eq pr rv
  obtain ⟨oc, od', da, sl⟩ := ob
  dsimp only at hcl hdt
  subst hcl hdt
  exact PySem.W.kia_tup (PySem.W.kitx_exc (by rw [hc]; rfl) T.xf.ga T.xf.gg
    T.xf.exC T.ha T.hn T.ht T.hm) I.kIn J ho e (fun z => nomatch z) fun tk =>
    ⟨.bl b, H, I.kept (t' := tk) fun _ _ z => z, rfl, q⟩
end
end OM
/-! try with several clauses «except C as n», all of one name; no error
goes past the last of them. -/
namespace OM
open PySem PySem.Spec PyProof.Rows L2
abbrev HdS : Type := Addr → Value → Option Addr → TS
/-- behind a suite the name is gone -/
def endAs (i : Nat) (D : Ends) : Ends where
  nx := fun σ H => D.nx (σ.set i none) H
  rt := D.rt
  bk := fun σ H => D.bk (σ.set i none) H
  ct := fun σ H => D.ct (σ.set i none) H
/-- what the clauses wish of an error, one after the other -/
def wEach (K : PySem.W.Frag) (i : Nat) (D : Ends) :
    List (Value × HdS) → WX
  | [] => fun _ _ _ _ => False
  | q :: r => fun cls d σ H => ∃ b : Bool,
    PySem.W.exmOne K cls q.1 = some b ∧
    (b = true → ∀ a, H a = none →
      q.2 a cls d (endAs i D) (σ.set i (some (.ref a))) H) ∧
    (b = false → wEach K i D r cls d σ H)
inductive EachOk (X : Cx) (n : Str) : List ExceptHandler →
    List (Value × HdS) → Prop
  | nil : EachOk X n [] []
  | cons {x : Str} {c : Value} {ts : HdS} {st : Stmt} {more : List Stmt}
      {np pos : Pos} {hds : List ExceptHandler} {l : List (Value × HdS)}
      (nms : Names X x c)
      (suite : ∀ (a : Addr) (oe : Obj) (cls : Value) (d : Option Addr)
        (pn : List (Addr × Obj)), Zc cls d oe → (∃ vs, oe.data = .fields vs) →
        PSs (X.suite a ((a, oe) :: pn)) (st :: more) (ts a cls d))
      (rest : EachOk X n hds l) :
      EachOk X n (.ExceptHandler (some (.Name x np)) (some n) (st :: more)
        pos :: hds) ((c, ts) :: l)
section
variable {X : Cx}
/-- what is behind the try, from what is behind its body -/
theorem sp_ofTry {pins : List (Addr × Obj)} {pn : List (Addr × Obj)}
    {xe : Value → Shared → Prop} {D : Ends} {f : Flow} {s : Shared} (ok : X.Ok)
    (h : SP (X.tr (pn ++ pins) xe) [] D f s) (e : pn = X.pn) :
    SP X pins D f s := by
  subst e
  cases f with
  | next =>
    obtain ⟨σ', H', J, q⟩ := h
    exact ⟨σ', H', J.ofTry ok, q⟩
  | brk =>
    obtain ⟨σ', H', J, q⟩ := h
    exact ⟨σ', H', J.ofTry ok, q⟩
  | cont =>
    obtain ⟨σ', H', J, q⟩ := h
    exact ⟨σ', H', J.ofTry ok, q⟩
  | ret u =>
    obtain ⟨v, σ', H', J, r, q⟩ := h
    exact ⟨v, σ', H', J.ofTry ok, r, q⟩
theorem ps_tryEach {n : Str} {i : Nat} {body : List Stmt} {h₀ : ExceptHandler}
    {hds : List ExceptHandler} {l : List (Value × HdS)} {pos : Pos}
    {tb : WX → TS} (hs : X.stack = X.env :: X.outer)
    (hf : X.env.frame = some X.env.locals) (hN : X.N.Nodup)
    (hi : X.N[i]? = some n) (hl : X.env.kindOf n = some .local)
    (hb : ∀ (W : WX) (pn : List (Addr × Obj)) (xe : Value → Shared → Prop),
      Takes (X.tr pn xe) W → PassesOwn (model X.prog X.w) X.A X.env xe →
      PSs (X.tr pn xe) body (tb W))
    (hh : EachOk X n (h₀ :: hds) l) :
    PS X (.Try body (h₀ :: hds) [] [] pos)
      (fun D σ H => tb (wEach X.K i D l) D σ H) := by
  constructor
  intro pins s σ H D I h
  have ok := I.ok
  have frames : X.A.frames = some (X.env :: X.outer) := by rw [ok.frames, hs]
  refine wpAny_Try_except ?_
  refine wpAny_mono ((hb (wEach X.K i D l) (X.pn ++ pins)
    (fun e s1 => wpAny (model X.prog X.w) X.A (noteFrame e X.env)
      (fun _ s2 => wpAny (model X.prog X.w) X.A (setFlight e none)
        (fun _ s3 => wpAny (model X.prog X.w) X.A
          (handleBy e X.env (h₀ :: hds)) (SP X pins D) X.xe s3) X.xe s2)
      X.xe s1) ?_ PassesOwn.looking).run [] s σ H D (I.toTry _) h) ?_
    (fun _ _ z => z)
  · rintro u s' ⟨a, B, sI, pins', σ', H', cls, d, rfl, J', nb, up, sky, na, os,
      ag, wish⟩
    have J : Inv X pins σ' H' sI := J'.ofTry ok
    rw [hs] at sky
    show wpAny (model X.prog X.w) X.A (noteFrame (.ref a) X.env) _ _ _
    refine Sky.land Zc.steady frames hf sky ?_
    intro h3 fl up3
    have J3 : Inv X pins σ' H' { s' with heap := h3 } :=
      J.landed nb fl.1 (up.trans up3) os ag
    obtain ⟨oe, vs, he, hz, hd⟩ := fl.there
    have away : a ∉ frs (X.env :: X.outer) := fun m => by
      obtain ⟨_, o', e', no⟩ := fl.2.2.1.mem m
      rw [he] at e'
      cases e'
      exact no _ hd
    have nL : a ≠ X.env.locals := fun z => away (List.mem_filterMap.mpr
      ⟨X.env, List.mem_cons_self, by rw [hf, z]⟩)
    have nF : a ∉ X.fs := fun m => by
      obtain ⟨e, m1, m2⟩ := List.mem_filterMap.mp m
      exact away (List.mem_filterMap.mpr
        ⟨e, List.mem_cons_of_mem _ m1, m2⟩)
    have S3 := J3.suite he hd na nL nF
    clear hb h
    generalize h₀ :: hds = hs1 at hh
    induction hh with
    | nil => exact False.elim wish
    | @cons x c ts st more np pos1 hds2 l2 nms suite rest ih =>
      obtain ⟨b, isC, yes, no⟩ := wish
      refine wpAny_handleBy_cons (codeAny_handlers_test ?_)
        (by intro z; cases z)
      have kind : PySem.W.Looks (model X.prog X.w) h3 (typeOf (.ref a)) cls :=
        fun A Q E s k q => wpAny_typeOf_ref (k _ _ he) (by
          rw [hz.1]
          exact q)
      have asked := PySem.W.exm_one (M := model X.prog X.w) J3.kIn kind isC
      have named : ∀ {Q : Value → Shared → Prop} {E : Value → Shared → Prop},
          Q c { s' with heap := h3 } →
          wpAny (model X.prog X.w) (X.A.mark (some (.ref a)))
            (eval (.Name x np) X.env) Q E { s' with heap := h3 } := by
        intro Q E q
        obtain ⟨g, nd, m | ⟨m, bt, nn⟩⟩ := nms
        · exact ld_glob (X := X.suite a ((a, oe) :: (X.pn ++ pins))) S3 g m q nd
        · exact ld_blt (X := X.suite a ((a, oe) :: (X.pn ++ pins))) S3 g m bt q
            nn nd
      refine named (asked.here ?_)
      cases b with
      | false =>
        show wpAny _ X.A (handleBy (.ref a) X.env hds2) _ _ _
        exact ih (no rfl)
      | true =>
        refine codeAny_handlers_suite_as ?_
        refine PySem.HandSPX.lands_againZ fl ?_
        intro h4 fl4 up4
        have J4 : Inv X pins σ' H' { s' with heap := h4 } :=
          J.landed nb fl4.1 ((up.trans up3).trans up4) os ag
        obtain ⟨oe4, vs4, he4, hz4, hd4⟩ := fl4.there
        have S4 := J4.suite he4 hd4 na nL nF
        refine store_ok (X := X.suite a ((a, oe4) :: (X.pn ++ pins)))
          (v := .ref a) S4 hN hi (.inl hl) rfl ?_ (.inr hl)
        intro s5 S5
        refine wpAny_mono ((suite a oe4 cls d (X.pn ++ pins) hz4
          ⟨_, hd4⟩).run [] s5 _ H' _ S5 (yes rfl a na)) ?_
          (fun _ _ z => False.elim z)
        intro f s6 out
        have close : ∀ {σ6 : L2.St} {H6 : Hp} {Q : Shared → Prop},
            Inv (X.suite a ((a, oe4) :: (X.pn ++ pins))) [] σ6 H6 s6 →
            (∀ s7, Inv X pins (σ6.set i none) H6 s7 → Q s7) →
            wpAny (model X.prog X.w) X.A (do
                bindName X.env n .none
                unbindBehindTheSuite X.env n pos1)
              (fun _ s7 => Q s7) X.xe s6 :=
          fun {σ6 H6 Q} S6 hq => gone_ok (S6.unsuite ok) hN hi hl hq
        cases f with
        | next =>
          obtain ⟨σ6, H6, S6, q6⟩ := out
          exact close S6 fun s7 J7 => ⟨_, _, J7, q6⟩
        | brk =>
          obtain ⟨σ6, H6, S6, q6⟩ := out
          exact close S6 fun s7 J7 => ⟨_, _, J7, q6⟩
        | cont =>
          obtain ⟨σ6, H6, S6, q6⟩ := out
          exact close S6 fun s7 J7 => ⟨_, _, J7, q6⟩
        | ret u =>
          obtain ⟨v6, σ6, H6, S6, r6, q6⟩ := out
          exact close S6 fun s7 J7 => ⟨_, _, _, J7, r6, q6⟩
  · intro f s1 out
    have z := sp_ofTry (pn := X.pn) ok out rfl
    cases f with
    | next => exact wpAny_execs_nil z
    | brk => exact z
    | cont => exact z
    | ret u => exact z
end
end OM
namespace OM
open PySem PySem.Spec PyProof.Rows L2
section
variable {X : Cx} {k : Nat} {ps : List Str} {sp : Sp} {x : Str} {C : Addr}
  {p pos : Pos} {e : Expr} {es : List Expr} {t : TA}
/-- a callee that may raise -/
structure CalX (P : Program) (w : World) (K : PySem.W.Frag)
    (mg : Str → Option Value) (base : Heap) (k : Nat) (x : Str)
    (ps : List Str) (sp : Sp) : Prop where
  ex : ∃ f fd, FnOk P w K mg base (L2.CX P w) k f fd ps sp ∧
    mg x = some (.ref f) ∧ PySem.W.keepIn K (.ref f) = true ∧
    Binds K fd ps []
/-- f(..), what leaves f leaves this def -/
theorem pe_calX {E : XK} {W : WX}
    (M : CalX X.prog X.w X.K X.mg X.base k x ps sp)
    (room : Room k X.A) (tk : Takes X W)
    (hW : ∀ cls d σ H, E cls d H → W cls d σ H) (ha : PA X (e :: es) t)
    (hg : Gl X x := by rfl)
    (h1 : (x == ("__debug__" : Str)) = false := by decide)
    (h2 : starEach (e :: es) X.env =
      (false, eval e X.env) :: starEach es X.env := by rfl)
    (h3 : (backTo pos (starEach es X.env)).any (·.1) = false := by rfl) :
    PE X (.Call (.Name x p) (e :: es) [] pos) (tCall sp [] E t) := by
  obtain ⟨f, fd, F, m, kp, b⟩ := M.ex
  exact pe_call F room hg m kp b .nil (passes_call tk hW) ha h1 h2 h3
/-- a class that is made, its __init__ may raise -/
structure CalCX (P : Program) (w : World) (K : PySem.W.Frag)
    (mg : Str → Option Value) (base : Heap) (C : Addr) (k : Nat) (x : Str)
    (ps : List Str) (sp : Sp) : Prop where
  mgC : mg x = some (.ref C)
  ex : ∃ f fd, FnOk P w K mg base (L2.CX P w) k f fd ps sp ∧ Mk K C f ∧
    Binds K fd ps []
def tMakeS (C : Addr) (sp : Sp) (E : L2.St → XK) (t : TA) : TE :=
  fun σ H Q => t σ H fun vs H1 => ∀ x dx, H1 x = none → H1 dx = none →
    dx ≠ x → sp (.ref x :: vs) (upd (upd H1 dx (.own x)) x (.ins C dx []))
      (fun v H2 => v = .non ∧ Q (.ref x) H2) (E σ)
theorem pe_makeS {E : L2.St → XK}
    (M : CalCX X.prog X.w X.K X.mg X.base C k x ps sp)
    (room : Room (k + 1) X.A)
    (hx : ∀ σ, PassesAt (L2.CX X.prog X.w) X σ (E σ))
    (ha : PA X (e :: es) t) (hg : Gl X x := by rfl)
    (h1 : (x == ("__debug__" : Str)) = false := by decide)
    (h2 : starEach (e :: es) X.env =
      (false, eval e X.env) :: starEach es X.env := by rfl)
    (h3 : (backTo pos (starEach es X.env)).any (·.1) = false := by rfl) :
    PE X (.Call (.Name x p) (e :: es) [] pos) (tMakeS C sp E t) := by
  obtain ⟨f, fd, F, mk, b⟩ := M.ex
  constructor
  intro pins s σ H Q I h
  refine wpAny_Call_Name_kw (ld_glob I hg M.mgC ?_ h1)
  refine PySem.W.callWith_K (h₀ := X.base) I.ok.mod.kin mk.kp
    (thn (ha.run pos pins s σ H _ I h) ?_) h2 h3
  rintro us s1 ⟨vs, H1, I1, r, q⟩
  refine ⟨I1.kIn, ?_⟩
  show wpAny _ _ (call (.ref C) us) _ _ s1
  let a := s1.heap.objs.size + 1
  have q1 := q a s1.heap.objs.size (I1.hok.fresh (Nat.le_succ _))
    (I1.hok.fresh (Nat.le_refl _)) (Nat.ne_of_lt (Nat.lt_succ_self _))
  have I2 := Inv.made (C := C) I1
  have rr : Vals (V.ref a :: vs) (Value.ref a :: us) := .cons rfl r
  have hl : (Value.ref a :: us).length = ps.length :=
    rr.length.symm.trans (F.len _ _ _ _ q1)
  have bd := b _ (Value.ref a :: us) I2.kIn (by
    rw [List.append_nil]; exact hl)
  rw [List.append_nil] at bd
  refine wpAny_call (make_map (f := f) I1.kIn mk.makes mk.init
    (beq_iff_eq.mp mk.fn) (codeAny_mono (F.run _ X.stack _ _
      ⟨Value.ref a :: us, []⟩ (Value.ref a :: us) _ _ (E σ)
      (room.make C us []) (I2.env0.make C us []) bd rr q1) ?_))
  intro r s' hq
  match r, hq with
  | .error e, hq => exact hx σ pins _ _ e s' I2 hq
  | .ok .next, hq => exact False.elim hq
  | .ok .brk, hq => exact False.elim hq
  | .ok .cont, hq => exact False.elim hq
  | .ok (.ret u), hq =>
    obtain ⟨v, H', I3, rv, ev, q3⟩ := I2.after hq
    subst ev
    exact ⟨rv, ⟨V.ref a, H', I3, rfl, q3⟩⟩
end
end OM
/-! Errors whose context is None: raised in a def, passed on by its callers,
caught where the suite raises another one. -/
namespace OM
open PySem PySem.Spec PyProof.Rows L2
section
variable {X : Cx} {k : Nat} {ps : List Str} {sp : Sp} {x : Str} {C : Addr}
  {p pos pos2 : Pos} {e : Expr} {es : List Expr} {ta : TA}
/-- C(e, ..), made in order to be raised where nothing is handled -/
theorem pmkN (M : XMk X.prog X.w X.K X.mg X.base C k x ps sp)
    (room : Room (k + 1) X.A) (ha : PA X (e :: es) ta)
    (hg : Gl X x := by rfl)
    (h1 : (x == ("__debug__" : Str)) = false := by decide)
    (h2 : starEach (e :: es) X.env =
      (false, eval e X.env) :: starEach es X.env := by rfl)
    (h3 : (backTo pos (starEach es X.env)).any (·.1) = false := by rfl) :
    L2N.PMk X (.Call (.Name x p) (e :: es) [] pos) (tMkO C sp [] ta) := by
  obtain ⟨f, fd, fn, at_, ty, bd⟩ := M.ex
  have ox := M.cl.ox
  obtain ⟨_, _, _, _, bm, _, _, _, _, _, _, _, _, _, _, known, isVE⟩ := ox.cls
  intro pins s σ H Q I h
  refine wpAny_Call_Name_kw (ld_glob I hg M.mgC ?_ h1)
  refine PySem.W.callWith_K (h₀ := X.base) I.ok.mod.kin ox.kC
    (thn (ha.run pos pins s σ H _ I h) ?_) h2 h3
  rintro us ⟨hp, g, dr, tk, os⟩ ⟨vs, H1, I1, r1, few, q1⟩
  refine ⟨I1.kIn, ?_⟩
  show wpAny _ _ (call (.ref C) us) _ _ _
  have above : hp.objs.size ≤ hp.objs.size + 1 := Nat.le_succ _
  have todo := q1 (hp.objs.size + 1) (I1.hok.fresh above)
  rw [List.append_nil] at todo
  have grown : ∀ b o, hp.get? b = some o →
      ((hp.push (PySem.W.kdv_tup us)).push
        (PySem.HandSPX.excO C hp.objs.size)).get? b = some o :=
    fun b o z => Heap.get?_push_of_some _ (Heap.get?_push_of_some _ z)
  have new : ((hp.push (PySem.W.kdv_tup us)).push
      (PySem.HandSPX.excO C hp.objs.size)).get? (hp.objs.size + 1) =
      some (PySem.HandSPX.excO C hp.objs.size) := by heap_get
  have I2 := I1.laid (t' := tk) (o := exo (hp.objs.size + 1) C none) grown above
    (exo_ok new)
  have rr : Vals (V.ref (hp.objs.size + 1) :: vs)
      (Value.ref (hp.objs.size + 1) :: us) := .cons rfl r1
  have many : (Value.ref (hp.objs.size + 1) :: us).length = ps.length :=
    rr.length.symm.trans (fn.len _ _ _ _ todo)
  have args := bd _ (Value.ref (hp.objs.size + 1) :: us) I2.kIn (by
    rw [List.append_nil]; exact many)
  rw [List.append_nil] at args
  have short : us.length ≤ sizeLine := by
    have := Paired.length r1
    rw [sizeLine_eq]
    omega
  have ran := fn.run _ X.stack _ _ ⟨Value.ref (hp.objs.size + 1) :: us, []⟩
    (Value.ref (hp.objs.size + 1) :: us) _ _ (fun _ _ _ => False)
    (room.make C us []) (I2.env0.make C us []) args rr todo
  refine wpAny_call (PySem.HandSPX.call_own PySem.F.excBase_ValueError
    (fun Y => PySem.HandSPX.refsVE_contains Y bm isVE) (I1.kIn _ _ known)
    (PySem.W.looks_findIn I1.kIn at_)
    (fun self => PySem.W.bind_fn I1.kIn self ty) short
    (codeAny_mono ran ?_))
  rintro r ⟨h2', g2, d2, t2, os2⟩ out
  match r, out with
  | .error er, out => exact False.elim out
  | .ok .next, out => exact False.elim out
  | .ok .brk, out => exact False.elim out
  | .ok .cont, out => exact False.elim out
  | .ok (.ret u), out =>
    obtain ⟨v, H2, eo, bare, un, hok, rv, ev, d, fs, ea, ed, nd, q2⟩ := out
    subst ev
    obtain ⟨t0, G, J, kG, ng, at2, na⟩ := mk_end0 (d2 := d2) (t2 := t2) I1
      above grown un hok eo bare ea ed nd
    exact ⟨rv, hp.objs.size + 1, _, _, ⟨G, g2, d2, t2, os2⟩, _, .ref C, some d,
      rfl, J, kG, ng, at2, ⟨rfl, rfl, fun vs z => by cases z; rfl⟩, rfl, rfl, na,
      rfl, bare, raises_own ox.exC ox.tyC, q2⟩
/-- raise C(e1, e2), its context None -/
theorem ps_raise2N {f1 f2 : Str} {W : WX}
    (M : XMk X.prog X.w X.K X.mg X.base C k x ps (spX2 C f1 f2))
    (room : Room (k + 1) X.A) (hc : X.calm = true) (tk : L2N.Takes X W)
    (ha : PA X (e :: es) ta) (hg : Gl X x := by rfl)
    (h1 : (x == ("__debug__" : Str)) = false := by decide)
    (h2 : starEach (e :: es) X.env =
      (false, eval e X.env) :: starEach es X.env := by rfl)
    (h3 : (backTo pos (starEach es X.env)).any (·.1) = false := by rfl) :
    PS X (.Raise (some (.Call (.Name x p) (e :: es) [] pos)) none pos2)
      (tRaise2 C f1 f2 W ta) := by
  refine ps_imp (L2N.ps_raise hc tk (pmkN M room (pa_mid ha) hg h1 h2 h3)) ?_
  intro D σ H h
  refine ⟨_, h, ?_⟩
  rintro vs H1 ⟨v1, v2, rfl, q⟩
  refine ⟨by simp, fun a na => ⟨a, v1, v2, rfl, upd_same, fun d nd ne => ?_⟩⟩
  have nd1 : H1 d = none := by rw [upd_ne ne] at nd; exact nd
  refine ⟨rfl, d, _, ?_, upd_same, nd1, ?_⟩
  · rw [upd_ne ne.symm, upd_same]
  · obtain ⟨e1, e2⟩ := made_same (C := C) (fs := [(f2, v2), (f1, v1)]) na nd1
      (H2 := upd (upd (upd (upd H1 a (exo a C none)) d (exd d [(f1, v1)])) a
        (exo a C (some d))) d (exd d [(f2, v2), (f1, v1)])) fun b o z => by
        rw [upd_ne (ne_of_none z nd1), upd_ne (ne_of_none z na),
          upd_ne (ne_of_none z nd1), upd_ne (ne_of_none z na)]
        exact z
    exact q d _ nd1 e1 e2
/-- a class whose error is raised while another one is handled -/
structure XMkH (P : Program) (w : World) (K : PySem.W.Frag)
    (mg : Str → Option Value) (base : Heap) (C : Addr) (k : Nat) (x : Str)
    (ps : List Str) (sp : Sp) : Prop where
  mgC : mg x = some (.ref C)
  cl : XCl K C
  ex : ∃ f fd, L2H.FnH P w K mg base CX0 k f fd ps sp ∧
    PySem.W.findIn K (.ref C) "__init__" = some (some (.ref f)) ∧
    PySem.W.typeIn K (.ref f) = some (.type "function") ∧ Binds K fd ps []
/-- raise C(e1) from None, in an except suite -/
theorem ps_raise1H {f1 : Str} {W : WX} {j : Nat} {cpos : Pos}
    (M : XMkH X.prog X.w X.K X.mg X.base C k x ps (spX1 C f1))
    (room : L2H.RoomH (k + 1) X.A) (hc : L2H.HotC X) (tk : L2.Takes X W)
    (ha : PA X (e :: es) ta) (hg : Gl X x := by rfl)
    (h1 : (x == ("__debug__" : Str)) = false := by decide)
    (h2 : starEach (e :: es) X.env =
      (false, eval e X.env) :: starEach es X.env := by rfl)
    (h3 : (backTo pos (starEach es X.env)).any (·.1) = false := by rfl) :
    PS X (.Raise (some (.Call (.Name x p) (e :: es) [] pos))
      (some (.Constant .none j cpos)) pos2) (tRaise1 C f1 W ta) := by
  obtain ⟨f, fd, fn, iC, tI, b⟩ := M.ex
  refine ps_imp (L2H.ps_raiseHN hc tk (L2H.pmk5_oexH M.cl.ox iC tI fn room hc b
    pass0' hg M.mgC (pa_mid ha) h1 h2 h3)) ?_
  intro D σ H h
  refine ⟨_, h, ?_⟩
  rintro vs H1 ⟨v1, rfl, q⟩
  refine ⟨by simp, fun a na => ⟨a, v1, rfl, upd_same, fun d nd ne => ?_⟩⟩
  have nd1 : H1 d = none := by rw [upd_ne ne] at nd; exact nd
  refine ⟨rfl, d, [(f1, v1)], upd_same, ?_, nd1, ?_⟩
  · rw [upd_ne ne, upd_same]
  · obtain ⟨e1, e2⟩ := made_same (C := C) (fs := [(f1, v1)]) na nd1
      (H2 := upd (upd (upd H1 a (exo a C none)) d (exd d [(f1, v1)])) a
        (exo a C (some d))) fun b o z => by
        rw [upd_ne (ne_of_none z na), upd_ne (ne_of_none z nd1),
          upd_ne (ne_of_none z na)]
        exact z
    exact q d _ nd1 e1 e2
end
/-! ### callees that raise, whatever is known of what they raise -/
section
variable {X : Cx} {k : Nat} {ps : List Str} {sp : Sp} {x : Str} {C : Addr}
  {p pos : Pos} {e : Expr} {es : List Expr} {t : TA} {CX : CXT}
structure CalE (CX : CXT) (P : Program) (w : World) (K : PySem.W.Frag)
    (mg : Str → Option Value) (base : Heap) (k : Nat) (x : Str)
    (ps : List Str) (sp : Sp) : Prop where
  ex : ∃ f fd, FnOk P w K mg base CX k f fd ps sp ∧
    mg x = some (.ref f) ∧ PySem.W.keepIn K (.ref f) = true ∧
    Binds K fd ps []
theorem pe_calE {E : XK} (M : CalE CX X.prog X.w X.K X.mg X.base k x ps sp)
    (room : Room k X.A) (hx : Passes CX X E) (ha : PA X (e :: es) t)
    (hg : Gl X x := by rfl)
    (h1 : (x == ("__debug__" : Str)) = false := by decide)
    (h2 : starEach (e :: es) X.env =
      (false, eval e X.env) :: starEach es X.env := by rfl)
    (h3 : (backTo pos (starEach es X.env)).any (·.1) = false := by rfl) :
    PE X (.Call (.Name x p) (e :: es) [] pos) (tCall sp [] E t) := by
  obtain ⟨f, fd, fn, m, kp, b⟩ := M.ex
  exact pe_call fn room hg m kp b .nil hx ha h1 h2 h3
structure CalCE (CX : CXT) (P : Program) (w : World) (K : PySem.W.Frag)
    (mg : Str → Option Value) (base : Heap) (C : Addr) (k : Nat) (x : Str)
    (ps : List Str) (sp : Sp) : Prop where
  mgC : mg x = some (.ref C)
  ex : ∃ f fd, FnOk P w K mg base CX k f fd ps sp ∧ Mk K C f ∧
    Binds K fd ps []
theorem pe_makeE {E : L2.St → XK}
    (M : CalCE CX X.prog X.w X.K X.mg X.base C k x ps sp)
    (room : Room (k + 1) X.A) (hx : ∀ σ, PassesAt CX X σ (E σ))
    (ha : PA X (e :: es) t) (hg : Gl X x := by rfl)
    (h1 : (x == ("__debug__" : Str)) = false := by decide)
    (h2 : starEach (e :: es) X.env =
      (false, eval e X.env) :: starEach es X.env := by rfl)
    (h3 : (backTo pos (starEach es X.env)).any (·.1) = false := by rfl) :
    PE X (.Call (.Name x p) (e :: es) [] pos) (tMakeS C sp E t) := by
  obtain ⟨f, fd, F, mk, b⟩ := M.ex
  constructor
  intro pins s σ H Q I h
  refine wpAny_Call_Name_kw (ld_glob I hg M.mgC ?_ h1)
  refine PySem.W.callWith_K (h₀ := X.base) I.ok.mod.kin mk.kp
    (thn (ha.run pos pins s σ H _ I h) ?_) h2 h3
  rintro us s1 ⟨vs, H1, I1, r, q⟩
  refine ⟨I1.kIn, ?_⟩
  show wpAny _ _ (call (.ref C) us) _ _ s1
  let a := s1.heap.objs.size + 1
  have q1 := q a s1.heap.objs.size (I1.hok.fresh (Nat.le_succ _))
    (I1.hok.fresh (Nat.le_refl _)) (Nat.ne_of_lt (Nat.lt_succ_self _))
  have I2 := Inv.made (C := C) I1
  have rr : Vals (V.ref a :: vs) (Value.ref a :: us) := .cons rfl r
  have hl : (Value.ref a :: us).length = ps.length :=
    rr.length.symm.trans (F.len _ _ _ _ q1)
  have bd := b _ (Value.ref a :: us) I2.kIn (by
    rw [List.append_nil]; exact hl)
  rw [List.append_nil] at bd
  refine wpAny_call (make_map (f := f) I1.kIn mk.makes mk.init
    (beq_iff_eq.mp mk.fn) (codeAny_mono (F.run _ X.stack _ _
      ⟨Value.ref a :: us, []⟩ (Value.ref a :: us) _ _ (E σ)
      (room.make C us []) (I2.env0.make C us []) bd rr q1) ?_))
  intro r s' hq
  match r, hq with
  | .error e, hq => exact hx σ pins _ _ e s' I2 hq
  | .ok .next, hq => exact False.elim hq
  | .ok .brk, hq => exact False.elim hq
  | .ok .cont, hq => exact False.elim hq
  | .ok (.ret u), hq =>
    obtain ⟨v, H', I3, rv, ev, q3⟩ := I2.after hq
    subst ev
    exact ⟨rv, ⟨V.ref a, H', I3, rfl, q3⟩⟩
end
section
variable {P : Program} {w : World} {K : PySem.W.Frag}
  {mg : Str → Option Value} {base : Heap} {CX : CXT}
/-- a def, whatever is told of what it raises -/
theorem okE {x qual : Str} {st : Stmt} {f : Addr} {fd : FuncData}
    {N ps : List Str} {k : Nat} {sp : Sp} (F : Fun K x qual st f fd)
    (S : FnScope N ps (defScope st))
    (len : ∀ vs H Q E, sp vs H Q E → vs.length = ps.length)
    (body : ∀ (cdv : Value) (A : Around) (outer : List Env) (s : Shared)
      (H : Hp) (vs : List V) (Q : VK) (E : XK),
      Room k (A.deeper (envOfC qual (defScope st) s.heap.objs.size f cdv)) →
      sp vs H Q E → ∃ t, PSs (cxOf CX P w K mg base N qual (defScope st) f cdv
        A outer s H E) (defBody st) t ∧
        t { nx := fun _ H' => Q .non H', rt := Q } (start N vs) H) :
    FnOk P w K mg base CX (k + 1) f fd ps sp := by
  obtain ⟨_, _, _, _, _, _, cdv, _, _, rfl, lk, hcd⟩ := F.ex
  exact fn_of lk hcd S len fun A outer s H vs Q E room h =>
    body cdv A outer s H vs Q E room h
/-- a def called while an error is handled -/
theorem okH {x qual : Str} {st : Stmt} {f : Addr} {fd : FuncData}
    {N ps : List Str} {k : Nat} {sp : Sp} (F : Fun K x qual st f fd)
    (S : FnScope N ps (defScope st))
    (len : ∀ vs H Q E, sp vs H Q E → vs.length = ps.length)
    (body : ∀ (cdv : Value) (A : Around) (outer : List Env) (s : Shared)
      (H : Hp) (vs : List V) (Q : VK) (E : XK) (p : Addr × Obj),
      sp vs H Q E → ∃ t, PSs (L2H.cxH CX P w K mg base N qual (defScope st) f
        cdv A outer s H E p) (defBody st) t ∧
        t { nx := fun _ H' => Q .non H', rt := Q } (start N vs) H) :
    L2H.FnH P w K mg base CX (k + 1) f fd ps sp := by
  obtain ⟨_, _, _, _, _, _, cdv, _, _, rfl, lk, hcd⟩ := F.ex
  exact L2H.fn_ofH lk hcd S len fun A outer s H vs Q E p _ _ h =>
    body cdv A outer s H vs Q E p h
end
end OM
/-! Own errors whose class stands right below a built-in one (LookupError ..),
with one field. -/
namespace OM
open PySem PySem.Spec PyProof.Rows L2
/-- what is asked of the built-in class -/
structure Fam (B newId initId : String) (bm : List Value) : Prop where
  base : ExcBaseFacts B newId initId bm
  pass : ∀ self : Value, refuseLoop self "__setattr__" bm = pure ()
  obj : bm.contains (.type "object") = true
abbrev leTail : List Value :=
  [.type "LookupError", .type "Exception", .type "BaseException",
    .type "object"]
theorem fam_LE : Fam "LookupError" "LookupError.__new__"
    "LookupError.__init__" leTail :=
  ⟨PySem.F.excBase_LookupError, PySem.F.store_LookupError.passes,
    by decide +kernel⟩
/-- what the written part says of the own class -/
structure OexF (K : PySem.W.Frag) (C : Addr) : Prop where
  cls : ∃ B newId initId bm nm q N bs sn sub ab col dd k0 k1 k2 k3 k5,
    Fam B newId initId bm ∧ K.lookup C = some (excClassObj nm q C N bs bm true
      sn sub ab col dd k0 k1 k2 k3 k5 newId)
  sa : PySem.W.findIn K (.ref C) "__setattr__" =
    some (some (.builtin "object.__setattr__"))
  exC : PySem.W.subIn K (.ref C) (.type "BaseException") = some true
  tyC : PySem.W.typeIn K (.ref C) = some (.type "type")
  kC : PySem.W.keepIn K (.ref C) = true
section
open Builtin Builtin.ObjectAttr
variable {P : Program} {w : World} {A : Around} {R : Result → Shared → Prop}
  {hp : Heap} {g : Array GenState} {d : Drawn} {t : Nat} {os : OsState}
/-- self.name = v, the error having no dict as yet -/
theorem fam_store {K : PySem.W.Frag} {name : Str} {tk : Tok} {v : Value}
    {x C : Addr} {fv : Array Value} {cd : ClassData} {bm : List Value}
    {B newId initId : String} (fm : Fam B newId initId bm) (kin : K.In hp)
    (hx : hp.get? x = some { cls := .ref C, data := .fields fv })
    (hcd : PySem.W.clsIn K C = some cd) (hm : cd.mro = .ref C :: bm)
    (hh : cd.hasDict = true)
    (ha : PySem.W.findIn K (.ref C) name = some none)
    (hq : ∀ h' tk' dx,
      (∀ b o, b ≠ x → hp.get? b = some o → h'.get? b = some o) →
      hp.objs.size ≤ dx → dx ≠ x →
      h'.get? x = some { cls := .ref C, dict := some dx, data := .fields fv } →
      h'.Ns1 dx (fun y => if y = name then some v else none) →
      R (.ok (.ret .none)) ⟨h', g, d, tk', os⟩) :
    codeAny (model P w) A (.call (.builtin "object.__setattr__")
      ⟨[.ref x, .str name tk, v], []⟩) R ⟨hp, g, d, t, os⟩ := by
  have at_ : PySem.W.InstAt hp x { cls := .ref C, data := .fields fv } C none :=
    ⟨hx, rfl, rfl, trivial⟩
  have low : x ≠ hp.objs.size := Nat.ne_of_lt (Heap.lt_size hx)
  have hasObj : cd.mro.contains (.type "object") = true := by
    rw [hm, List.contains_cons, fm.obj, Bool.or_true]
  have notNil : cd.mro.isEmpty = false := by rw [hm]; rfl
  have isObj : PySem.W.Looks (model P w) hp
      (isInstance (.ref x) (.type "object")) true := by
    refine at_.type.andThen (PySem.W.looks_mroIn kin ?_)
    unfold PySem.W.mroIn
    rw [hcd, Option.bind_some, if_neg (by rw [notNil]; decide), hasObj]
  have data : PySem.W.Looks (model P w) hp (classData C) cd :=
    PySem.W.looks_clsIn kin hcd
  have line : PySem.W.Looks (model P w) hp (mroOf (.ref C)) cd.mro :=
    (PySem.W.looks_clsIn kin hcd).andThen .now
  have noTaker : PySem.W.Looks (model P w) hp (storeTaker? none) none := .now
  have st := PySem.F.store_object
  refine codeAny_call_builtin st.slot.plain st.entry
    (@PySem.W.check_slot (model P w) _ _ ⟨hp, g, d, t, os⟩
      "object.__setattr__" "object" "__setattr__" (.ref x)
      [.str name tk, v] [] _ st.kind st.split isObj
      (st.args (.ref x) (.str name tk) v) ?_)
  rw [PySem.W.osa_eq, refuse_eq]
  refine wpAny_bind (wpAny_bind (at_.type.at (wpAny_bind
    (line.at ?_))))
  rw [hm, refuseLoop_ref, fm.pass]
  refine wpAny_pure (wpAny_bind (at_.type.at (wpAny_bind
    ((PySem.W.looks_findIn kin ha).at (wpAny_bind (noTaker.at ?_))))))
  show wpAny _ _ (storeInOwnDict (.ref x) (.ref C) (.str name tk) name v
    false) _ _ _
  rcases cd with ⟨c1, c2, c3, c4, c5, c6, c7, c8, c9, c10, c11⟩
  have hh' : c6 = true := hh
  subst hh'
  unfold storeInOwnDict ownDictForStores
  repeat (first
    | with_reducible refine PySem.HandSPX.store_in_new ?_ ?_
    | with_reducible refine wpAny_loadPart_at hx ?_
    | with_reducible refine data.at ?_
    | wp_step)
  · exact ⟨_, #[], _, (Heap.get?_update_ne _ _ _ _ low.symm).trans
      (Heap.get?_push_at rfl rfl), rfl,
      fun e he => absurd he (by simp), fun _ => rfl⟩
  · intro h' tk' hn' hs
    refine hq h' tk' hp.objs.size (fun b o hb ho => ?_) (Nat.le_refl _)
      low.symm ?_ hn'
    · have z := hs.2 b (Nat.ne_of_lt (Heap.lt_size ho))
      exact z.trans ((Heap.get?_update_ne _ _ _ _ hb).trans
        (Heap.get?_push_of_some _ ho))
    · exact (hs.2 x low).trans (Heap.get?_update_self _
        (Heap.get?_push_of_some _ hx) rfl)
end
section
variable {X : Cx}
theorem ostF {pins : List (Addr × Obj)} {σ : L2.St} {H : Hp} {s : Shared}
    {a C : Addr} {f : Str} {y : V} {u : Value} {Q : Unit → Shared → Prop}
    {E : Value → Shared → Prop} {A : Around}
    (T : OexF X.K C) (I : Inv X pins σ H s)
    (e : H a = some (exo a C none))
    (hno : PySem.W.findIn X.K (.ref C) f = some none) (ry : RelV y u)
    (h : ∀ dx s', H dx = none → dx ≠ a → Inv X pins σ
      (upd (upd H dx (exd dx [(f, y)])) a (exo a C (some dx))) s' → Q () s') :
    wpAny (model X.prog X.w) A (setAttr (.ref a) f u) Q E s := by
  obtain ⟨B, nw, ini, bm, nm, q, N, bs, sn, sub, ab, col, dd, k0, k1, k2, k3,
    k5, fm, hC⟩ := T.cls
  obtain ⟨t1, ho⟩ := exo_at I.hok e
  rcases s with ⟨hp, g, d, t, os⟩
  refine PySem.W.set_plain I.kIn
    (ox := { cls := .ref C, dict := none,
             data := .fields #[.ref t1, .none, .none, .none, .bool false,
               .none] })
    (od := none) ⟨ho, rfl, rfl, trivial⟩ T.sa ?_
  refine fam_store (cd := ⟨nm, bs, .ref C :: bm, N, q, true, sn, sub, ab, col,
    false⟩) fm I.kIn ho ?_ rfl rfl hno ?_
  · unfold PySem.W.clsIn
    rw [hC] <;> rfl
  intro h' tk' dx stay above dne hx hn
  have nH : H dx = none := I.hok.fresh above
  have old : ∀ {b : Addr} {o : Obj}, hp.get? b = some o → b ≠ dx :=
    fun {b o} z => Nat.ne_of_lt (Nat.lt_of_lt_of_le (Heap.lt_size z) above)
  have notA : ∀ {b : Addr}, H b = none → b ≠ a := fun {b} n z => by
    rw [z, e] at n
    cases n
  have U : Un X.fs [] H (upd (upd H dx (exd dx [(f, y)])) a
      (exo a C (some dx))) hp h' :=
    { keep := fun b o z n _ _ => stay b o (notA n) z
      slot := fun b o z n _ _ => ⟨o.slots, stay b o (notA n) z⟩
      free := fun b o z n _ => by
        rw [upd_ne (notA n), upd_ne (old z)]
        exact n
      there := fun b o z _ => by
        by_cases hb : b = a
        · rw [hb]
          exact ⟨_, hx⟩
        · exact ⟨o, stay b o hb z⟩
      tups := fun b xs z => by
        rw [upd_ne (at_ne e z exo_tup), upd_ne (ne_of_none z nH)]
        exact z
      frzs := fun b o v z => by
        rw [upd_ne (at_ne e z exo_frz), upd_ne (ne_of_none z nH)]
        exact z
      tbls := fun b ps z => by
        refine ⟨#[], ?_⟩
        rw [upd_ne (at_ne e z exo_tbl), upd_ne (ne_of_none z nH), z]
        simp }
  refine h dx _ nH dne (I.un (t' := tk') U fun b o z => ?_)
  by_cases hb : b = a
  · subst hb
    rw [upd_same] at z
    cases z
    exact exo_ok hx
  rw [upd_ne hb] at z
  by_cases hd : b = dx
  · subst hd
    rw [upd_same] at z
    cases z
    exact exd_ok hn (relO_put (fs := []) ry fun _ => True.intro)
  rw [upd_ne hd] at z
  refine (I.hok b o z).stay (fun c v hc y => stay c v ?_ y) (fun c hc => ?_)
    (fun c xs hc => ?_)
  · rcases hc with hc | hc
    · rw [hc]
      exact hb
    · exact at_ne e hc exo_own
  · rw [upd_ne (at_ne e hc exo_own), upd_ne (ne_of_none hc nH)]
    exact hc
  · rw [upd_ne (at_ne e hc exo_tup), upd_ne (ne_of_none hc nH)]
    exact hc
/-- self.f = e, the only field -/
def tOstF (K : PySem.W.Frag) (f : Str) (to te : TE) : TS := fun D σ H =>
  te σ H fun y H1 => to σ H1 fun x H2 => ∃ a C : Addr, x = .ref a ∧
    OexF K C ∧ PySem.W.findIn K (.ref C) f = some none ∧
    H2 a = some (exo a C none) ∧ ∀ dx, H2 dx = none → dx ≠ a →
      D.nx σ (upd (upd H2 dx (exd dx [(f, y)])) a (exo a C (some dx)))
theorem ps_ostF {o e : Expr} {to te : TE} {f : Str} {p' pos : Pos}
    (ho : PE X o to) (he : PE X e te)
    (hs : swapsWith e (some (.Attribute o f p')) pos.line X.env =
      pure false := by rfl) :
    PS X (.Assign [.Attribute o f p'] e pos) (tOstF X.K f to te) := by
  constructor
  intro pins s σ H D I h
  refine plainObj_wpAny_Assign_Attribute (thn (he.run pins s σ H _ I h) ?_) hs
  rintro v s1 ⟨y, H1, I1, r1, q1⟩
  refine thn (ho.run pins s1 σ H1 _ I1 q1) ?_
  rintro u s2 ⟨x, H2, I2, r2, a, C, rfl, T, hno, ea, q⟩
  cases (show u = Value.ref a from r2)
  exact ostF T I2 ea hno r1 fun dx s' n ne J => ⟨σ, _, J, q dx n ne⟩
/-- such a class, in one word -/
structure XClF (K : PySem.W.Frag) (C : Addr) : Prop where
  ox : OexF K C
  xf : XfC K C
  ha : PySem.W.findIn K (.ref C) "__class__" =
    some (some (.builtin "object.__class__"))
  hn : PySem.W.specialIn K (.builtin "object.__class__") "__get__" =
    some (some (.builtin "getset_descriptor.__get__"))
  ht : PySem.W.takesIn K (.builtin "object.__class__") = some true
  hm : PySem.W.mroIn K C (.type "object") = some true
structure XMkF (P : Program) (w : World) (K : PySem.W.Frag)
    (mg : Str → Option Value) (base : Heap) (C : Addr) (k : Nat) (x : Str)
    (ps : List Str) (sp : Sp) : Prop where
  mgC : mg x = some (.ref C)
  cl : XClF K C
  ex : ∃ f fd, FnOk P w K mg base CX0 k f fd ps sp ∧
    PySem.W.findIn K (.ref C) "__init__" = some (some (.ref f)) ∧
    PySem.W.typeIn K (.ref f) = some (.type "function") ∧ Binds K fd ps []
variable {k : Nat} {ps : List Str} {sp : Sp} {x : Str} {C : Addr}
  {p pos pos2 : Pos} {e : Expr} {es : List Expr} {ta : TA}
theorem pmkF (M : XMkF X.prog X.w X.K X.mg X.base C k x ps sp)
    (room : Room (k + 1) X.A) (ha : PA X (e :: es) ta)
    (hg : Gl X x := by rfl)
    (h1 : (x == ("__debug__" : Str)) = false := by decide)
    (h2 : starEach (e :: es) X.env =
      (false, eval e X.env) :: starEach es X.env := by rfl)
    (h3 : (backTo pos (starEach es X.env)).any (·.1) = false := by rfl) :
    L2.PMk X (.Call (.Name x p) (e :: es) [] pos) (tMkO C sp [] ta) := by
  obtain ⟨f, fd, fn, at_, ty, bd⟩ := M.ex
  have ox := M.cl.ox
  obtain ⟨B, nw, ini, bm, _, _, _, _, _, _, _, _, _, _, _, _, _, _, fm,
    known⟩ := ox.cls
  intro pins s σ H Q I h
  refine wpAny_Call_Name_kw (ld_glob I hg M.mgC ?_ h1)
  refine PySem.W.callWith_K (h₀ := X.base) I.ok.mod.kin ox.kC
    (thn (ha.run pos pins s σ H _ I h) ?_) h2 h3
  rintro us ⟨hp, g, dr, tk, os⟩ ⟨vs, H1, I1, r1, few, q1⟩
  refine ⟨I1.kIn, ?_⟩
  show wpAny _ _ (call (.ref C) us) _ _ _
  have above : hp.objs.size ≤ hp.objs.size + 1 := Nat.le_succ _
  have todo := q1 (hp.objs.size + 1) (I1.hok.fresh above)
  rw [List.append_nil] at todo
  have grown : ∀ b o, hp.get? b = some o →
      ((hp.push (PySem.W.kdv_tup us)).push
        (PySem.HandSPX.excO C hp.objs.size)).get? b = some o :=
    fun b o z => Heap.get?_push_of_some _ (Heap.get?_push_of_some _ z)
  have new : ((hp.push (PySem.W.kdv_tup us)).push
      (PySem.HandSPX.excO C hp.objs.size)).get? (hp.objs.size + 1) =
      some (PySem.HandSPX.excO C hp.objs.size) := by heap_get
  have I2 := I1.laid (t' := tk) (o := exo (hp.objs.size + 1) C none) grown above
    (exo_ok new)
  have rr : Vals (V.ref (hp.objs.size + 1) :: vs)
      (Value.ref (hp.objs.size + 1) :: us) := .cons rfl r1
  have many : (Value.ref (hp.objs.size + 1) :: us).length = ps.length :=
    rr.length.symm.trans (fn.len _ _ _ _ todo)
  have args := bd _ (Value.ref (hp.objs.size + 1) :: us) I2.kIn (by
    rw [List.append_nil]; exact many)
  rw [List.append_nil] at args
  have short : us.length ≤ sizeLine := by
    have := Paired.length r1
    rw [sizeLine_eq]
    omega
  have ran := fn.run _ X.stack _ _ ⟨Value.ref (hp.objs.size + 1) :: us, []⟩
    (Value.ref (hp.objs.size + 1) :: us) _ _ (fun _ _ _ => False)
    (room.make C us []) (I2.env0.make C us []) args rr todo
  refine wpAny_call (PySem.HandSPX.call_own fm.base (fun _ => rfl)
    (I1.kIn _ _ known) (PySem.W.looks_findIn I1.kIn at_)
    (fun self => PySem.W.bind_fn I1.kIn self ty) short
    (codeAny_mono ran ?_))
  rintro r ⟨h2', g2, d2, t2, os2⟩ out
  match r, out with
  | .error er, out => exact False.elim out
  | .ok .next, out => exact False.elim out
  | .ok .brk, out => exact False.elim out
  | .ok .cont, out => exact False.elim out
  | .ok (.ret u), out =>
    obtain ⟨v, H2, eo, bare, un, hok, rv, ev, d, fs, ea, ed, nd, q2⟩ := out
    subst ev
    exact ⟨rv, mk_end (raises_own ox.exC ox.tyC) I1 above grown un hok eo bare
      ea ed nd q2⟩
/-- raise C(e1) -/
theorem ps_raise1F {f1 : Str} {W : WX}
    (M : XMkF X.prog X.w X.K X.mg X.base C k x ps (spX1 C f1))
    (room : Room (k + 1) X.A) (hc : X.calm = true) (tk : Takes X W)
    (ha : PA X (e :: es) ta) (hg : Gl X x := by rfl)
    (h1 : (x == ("__debug__" : Str)) = false := by decide)
    (h2 : starEach (e :: es) X.env =
      (false, eval e X.env) :: starEach es X.env := by rfl)
    (h3 : (backTo pos (starEach es X.env)).any (·.1) = false := by rfl) :
    PS X (.Raise (some (.Call (.Name x p) (e :: es) [] pos)) none pos2)
      (tRaise1 C f1 W ta) := by
  refine ps_imp (ps_raise hc tk (pmkF M room (pa_mid ha) hg h1 h2 h3)) ?_
  intro D σ H h
  refine ⟨_, h, ?_⟩
  rintro vs H1 ⟨v1, rfl, q⟩
  refine ⟨by simp, fun a na => ⟨a, v1, rfl, upd_same, fun d nd ne => ?_⟩⟩
  have nd1 : H1 d = none := by rw [upd_ne ne] at nd; exact nd
  refine ⟨rfl, d, [(f1, v1)], upd_same, ?_, nd1, ?_⟩
  · rw [upd_ne ne, upd_same]
  · obtain ⟨e1, e2⟩ := made_same (C := C) (fs := [(f1, v1)]) na nd1
      (H2 := upd (upd (upd H1 a (exo a C none)) d (exd d [(f1, v1)])) a
        (exo a C (some d))) fun b o z => by
        rw [upd_ne (ne_of_none z na), upd_ne (ne_of_none z nd1),
          upd_ne (ne_of_none z na)]
        exact z
    exact q d _ nd1 e1 e2
/-! isinstance of such an error, in the suite that holds it -/
def rIsF (K : PySem.W.Frag) (a : Addr) (cls : Value) (d : Option Addr) :
    List V → Hp → VK → Prop := fun xs H Q =>
  ∃ (C dd : Addr) (fs : List (Str × V)) (c : V) (cv : Value) (b : Bool),
    XClF K C ∧ cls = .ref C ∧ d = some dd ∧ H dd = some (.xd fs) ∧
    xs = [.ref a, c] ∧ ClsV c cv ∧
    PySem.W.kitOne K (.ref C) cv = some b ∧ Q (.bl b) H
theorem call_isF {a : Addr} {cls : Value} {d : Option Addr} {oe : Obj}
    {pn : List (Addr × Obj)} (hz : Zc cls d oe)
    (hf : ∃ vs, oe.data = .fields vs) :
    CallR (X.suite a ((a, oe) :: pn)) (.builtin "isinstance")
      (rIsF X.K a cls d) := by
  intro pins s σ H xs us Q I r h
  obtain ⟨C, dd, fs, c, cv, b, T, rfl, rfl, hd, rfl, k, e, q⟩ := h
  obtain ⟨u1, u2, rfl, r1, r2⟩ := vals2 r
  cases r1
  cases k.eq r2
  obtain ⟨od, J⟩ := suite_inst I hz hf hd
  obtain ⟨cd, hc, _⟩ := PySem.W.any_some T.xf.hdC
  exact PySem.W.kia_one (PySem.W.kitx_exc (by rw [hc]; rfl) T.xf.ga T.xf.gg
    T.xf.exC T.ha T.hn T.ht T.hm) I.kIn J e (fun z => nomatch z) fun tk =>
    ⟨.bl b, H, I.kept (t' := tk) fun _ _ z => z, rfl, q⟩
def rIsFT (K : PySem.W.Frag) (a : Addr) (cls : Value) (d : Option Addr) :
    List V → Hp → VK → Prop := fun xs H Q =>
  ∃ (C dd tp : Addr) (fs : List (Str × V)) (cs : List V) (us : List Value)
    (b : Bool), XClF K C ∧ cls = .ref C ∧ d = some dd ∧
    H dd = some (.xd fs) ∧ xs = [.ref a, .ref tp] ∧ H tp = some (.tup cs) ∧
    Paired ClsV cs us ∧ PySem.W.kitAny K (.ref C) us = some b ∧ Q (.bl b) H
theorem call_isFT {a : Addr} {cls : Value} {d : Option Addr} {oe : Obj}
    {pn : List (Addr × Obj)} (hz : Zc cls d oe)
    (hf : ∃ vs, oe.data = .fields vs) :
    CallR (X.suite a ((a, oe) :: pn)) (.builtin "isinstance")
      (rIsFT X.K a cls d) := by
  intro pins s σ H xs us Q I r h
  obtain ⟨C, dd, tp, fs, cs, vs, b, T, rfl, rfl, hd, rfl, ht, pr, e, q⟩ := h
  obtain ⟨u1, u2, rfl, r1, r2⟩ := vals2 r
  cases r1
  cases r2
  obtain ⟨od, J⟩ := suite_inst I hz hf hd
  obtain ⟨cd, hc, _⟩ := PySem.W.any_some T.xf.hdC
  obtain ⟨z, its, rv, ob, ho, hcl, n, hdt⟩ := I.hok tp _ ht
  cases paired_eq pr rv
  obtain ⟨oc, od', da, sl⟩ := ob
  dsimp only at hcl hdt
  subst hcl hdt
  exact PySem.W.kia_tup (PySem.W.kitx_exc (by rw [hc]; rfl) T.xf.ga T.xf.gg
    T.xf.exC T.ha T.hn T.ht T.hm) I.kIn J ho e (fun z => nomatch z) fun tk =>
    ⟨.bl b, H, I.kept (t' := tk) fun _ _ z => z, rfl, q⟩
end
end OM
namespace OM
open PySem PySem.Spec PyProof.Rows L2
section
variable {X : Cx} {n : Nat} {f C : Addr} {fd : FuncData} {ps : List Str}
  {sp : Sp}
/-- a def runs at another depth of the same frame -/
theorem runAt {A : Around} {pins : List (Addr × Obj)} {σ : L2.St} {H : Hp}
    {s : Shared} {Q : VK} {us : List Value} {vs : List V}
    (F : FnG X.prog X.w X.K X.mg X.base CX0 n f fd ps sp)
    (room : Room n A) (gd : A.guards = some []) (fr : A.frames = X.A.frames)
    (hb : Binds X.K fd ps []) (I : Inv X pins σ H s) (r : Vals vs us)
    (h : sp vs H Q E0) :
    wpAny (model X.prog X.w) A (call (.ref f) us) (EP X pins σ Q) X.xe s := by
  have hl : us.length = ps.length := r.length.symm.trans (F.len _ _ _ _ h)
  have e0 : Env0 X.prog X.w X.K X.mg X.base A X.stack s H := by
    have e := I.env0
    exact ⟨by rw [fr]; exact e.frames, e.mod, e.bs, e.bsz, e.funs, e.frf,
      e.hok, e.bare⟩
  have bd : BindsTo s fd ⟨us, []⟩ (ps.zip us) := by
    have := hb s us I.kIn (by rw [List.append_nil]; exact hl)
    rw [List.append_nil] at this
    exact this
  refine wpAny_call (codeAny_mono (F.run A X.stack s H ⟨us, []⟩ us vs Q E0
    room gd e0 bd r h) ?_)
  intro r s' hq
  match r, hq with
  | .error e, hq => exact False.elim hq
  | .ok (.ret u), hq => exact I.after hq
  | .ok .next, hq => exact False.elim hq
  | .ok .brk, hq => exact False.elim hq
  | .ok .cont, hq => exact False.elim hq
/-- the same of a def that asks nothing of what is shown -/
theorem runAt0 {A : Around} {pins : List (Addr × Obj)} {σ : L2.St} {H : Hp}
    {s : Shared} {Q : VK} {us : List Value} {vs : List V}
    (F : FnOk X.prog X.w X.K X.mg X.base CX0 n f fd ps sp)
    (room : Room n A) (fr : A.frames = X.A.frames)
    (hb : Binds X.K fd ps []) (I : Inv X pins σ H s) (r : Vals vs us)
    (h : sp vs H Q E0) :
    wpAny (model X.prog X.w) A (call (.ref f) us) (EP X pins σ Q) X.xe s := by
  have hl : us.length = ps.length := r.length.symm.trans (F.len _ _ _ _ h)
  have e0 : Env0 X.prog X.w X.K X.mg X.base A X.stack s H := by
    have e := I.env0
    exact ⟨by rw [fr]; exact e.frames, e.mod, e.bs, e.bsz, e.funs, e.frf,
      e.hok, e.bare⟩
  have bd : BindsTo s fd ⟨us, []⟩ (ps.zip us) := by
    have := hb s us I.kIn (by rw [List.append_nil]; exact hl)
    rw [List.append_nil] at this
    exact this
  refine wpAny_call (codeAny_mono (F.run A X.stack s H ⟨us, []⟩ us vs Q E0
    room e0 bd r h) ?_)
  intro r s' hq
  match r, hq with
  | .error e, hq => exact False.elim hq
  | .ok (.ret u), hq => exact I.after hq
  | .ok .next, hq => exact False.elim hq
  | .ok .brk, hq => exact False.elim hq
  | .ok .cont, hq => exact False.elim hq
/-- an own method that the interpreter calls by itself -/
structure Spec1 (K : PySem.W.Frag) (C : Addr) (m : Str) (f : Addr)
    (fd : FuncData) (ps : List Str) : Prop where
  at_ : PySem.W.findIn K (.ref C) m = some (some (.ref f))
  fn : PySem.W.isFn K (.ref f) = true
  bd : Binds K fd ps []
/-- x == y, both of the class at C -/
def rEqOwn (C : Addr) (sp : Sp) : R2 := fun x y H Q =>
  ∃ a b dx dy fs gs, x = .ref a ∧ y = .ref b ∧
    H a = some (.ins C dx fs) ∧ H b = some (.ins C dy gs) ∧
    sp [.ref a, .ref b] H (fun v H' => ∃ r, v = .bl r ∧ Q (.bl r) H') E0
theorem op_eqOwn (S : Spec1 X.K C "__eq__" f fd ps)
    (F : FnOk X.prog X.w X.K X.mg X.base CX0 n f fd ps sp)
    (room : Room n X.A) : OpR X (compareOp .Eq) (rEqOwn C sp) := by
  intro pins s σ H x y v u Q I rx ry h
  obtain ⟨a, b, dx, dy, fs, gs, rfl, rfl, ha, hb, q⟩ := h
  cases rx
  cases ry
  obtain ⟨mA, J, _⟩ := ins_get I.hok ha
  obtain ⟨mB, J', _⟩ := ins_get I.hok hb
  obtain ⟨od, J, _⟩ := J.look
  obtain ⟨od', J', _⟩ := J'.look
  obtain ⟨m, hF⟩ := I.fr
  show wpAny _ X.A (richCompare .Eq (.ref a) (.ref b)) _ _ s
  refine PySem.W.cmp_K (op := .Eq) (tb := .ref C) room.units0 hF
    I.ok.mod.kin J J'.type (by simp [PySem.W.notFirst]) S.at_ S.fn ?_
  refine wpAny_mono (runAt0 F room rfl S.bd I (us := [.ref a, .ref b])
    (vs := [.ref a, .ref b])
    (.cons rfl (.cons rfl .nil)) q) ?_ (fun _ _ z => z)
  rintro z s' ⟨v, H', I', rv, r, rfl, q'⟩
  cases rv
  exact ⟨.bl r, H', I', rfl, q'⟩
/-- len(x) of the class at C -/
def rLenOwn (C : Addr) (sp : Sp) : List V → Hp → VK → Prop := fun xs H Q =>
  ∃ a dx fs, xs = [.ref a] ∧ H a = some (.ins C dx fs) ∧
    sp [.ref a] H (fun v H' => ∃ n : Nat, v = .int n ∧ n < 2 ^ 60 ∧
      Q (.int n) H') E0
theorem call_lenOwn (S : Spec1 X.K C "__len__" f fd ps)
    (F : FnOk X.prog X.w X.K X.mg X.base CX0 n f fd ps sp)
    (room : Room (n + 1) X.A) :
    CallR X (.builtin "len") (rLenOwn C sp) := by
  intro pins s σ H xs us Q I r h
  obtain ⟨a, dx, fs, rfl, ha, q⟩ := h
  cases r with
  | cons rv rn =>
    cases rn
    cases rv
    obtain ⟨mA, J, _⟩ := ins_get I.hok ha
    obtain ⟨od, J, _⟩ := J.look
    obtain ⟨m, hF⟩ := I.fr
    refine PySem.W.len_K hF I.ok.mod.kin J S.at_ S.fn ?_
    refine wpAny_mono (runAt0 (A := X.A.in1) F room.in1 rfl S.bd I
      (us := [.ref a]) (vs := [.ref a]) (.cons rfl .nil) q) ?_ (fun _ _ z => z)
    rintro z s' ⟨v, H', I', rv, k, rfl, hk, q'⟩
    obtain ⟨t, rfl⟩ := rv
    exact ⟨⟨by omega, by omega⟩, .int k, H', I'.tok _, ⟨_, rfl⟩, q'⟩
/-- repr(x) of the class at C -/
def rReprOwn (C : Addr) (sp : Sp) : List V → Hp → VK → Prop := fun xs H Q =>
  ∃ a dx fs, xs = [.ref a] ∧ H a = some (.ins C dx fs) ∧
    sp [.ref a] H (fun v H' => ∃ x : Str, v = .str x ∧ Q (.str x) H') E0
theorem call_reprOwn (S : Spec1 X.K C "__repr__" f fd ps)
    (F : FnG X.prog X.w X.K X.mg X.base CX0 n f fd ps sp)
    (room : Room (n + 1) X.A) (gd : X.A.guards = some []) :
    CallR X (.builtin "repr") (rReprOwn C sp) := by
  intro pins s σ H xs us Q I r h
  obtain ⟨a, dx, fs, rfl, ha, q⟩ := h
  cases r with
  | cons rv rn =>
    cases rn
    cases rv
    obtain ⟨mA, J, _⟩ := ins_get I.hok ha
    obtain ⟨od, J, _⟩ := J.look
    obtain ⟨m, hF⟩ := I.fr
    refine PySem.W.repr_K (by have := room.units; show X.A.units + 1 < _; omega) hF I.ok.mod.kin J S.at_ S.fn ?_
    refine wpAny_mono (runAt (A := X.A.in1) F room.in1 gd rfl S.bd I
      (us := [.ref a]) (vs := [.ref a]) (.cons rfl .nil) q) ?_ (fun _ _ z => z)
    rintro z s' ⟨v, H', I', rv, x, rfl, q'⟩
    obtain ⟨t, rfl⟩ := rv
    exact ⟨.str x, H', I', ⟨_, rfl⟩, q'⟩
/-- {x!r} of data -/
def tFmtD (K : PySem.W.Frag) (te : TE) : TE := fun σ H Q =>
  te σ H fun v H1 => ∃ a d, v = .ref a ∧ Dp K H1 v d ∧ d.showable = true ∧
    d.depth ≤ 60 ∧ d.shown.length ≤ sizeLine ∧ Q (.str d.shown) H1
theorem pe_fmtD {e : Expr} {te : TE} {pos : Pos} {k : Nat}
    (room : Room k X.A) (gd : X.A.guards = some []) (he : PE X e te) :
    PE X (.FormattedValue e 114 none pos) (tFmtD X.K te) := by
  constructor
  intro pins s σ H Q I h
  refine wpAny_FormattedValue_repr (thn (he.run pins s σ H _ I h) ?_)
  rintro v s1 ⟨x, H1, I1, r1, a, d, rfl, hd, sh, dp, sz, q⟩
  cases r1
  obtain ⟨as, rd⟩ := Dp.reads I1 d _ _ hd rfl
  have un := room.units
  refine pyReprObj_of_reads rd sh (PyData.noDict_hsm (Dp.noDict _ hd)) gd
    (by omega) (fun _ _ e => e) (fun h' u tk hk => ?_) sz
  exact wpAny_formatField_str ⟨.str _, H1, I1.kept hk, ⟨_, rfl⟩, q⟩
    ⟨.str _, H1, (I1.kept (t' := tk) hk).tok _, ⟨_, rfl⟩, q⟩ sz
end
end OM
namespace OM
open PySem PySem.Spec PyProof.Rows L2
/-! ### data with small dicts -/
mutual
inductive DX (H : Hp) : V → PyData → Prop
  | non : DX H .non .none
  | bl (b : Bool) : DX H (.bl b) (.bool b)
  | int (i : Int) : DX H (.int i) (.int i)
  | str (x : Str) : DX H (.str x) (.str x)
  | lst {a : Addr} {xs : List V} {ds : List PyData} :
      H a = some (.lst xs) → DXs H xs ds → DX H (.ref a) (.list ds)
  | tup {a : Addr} {xs : List V} {ds : List PyData} :
      H a = some (.tup xs) → DXs H xs ds → DX H (.ref a) (.tuple ds)
  | d0 {a : Addr} : H a = some (.dK []) → DX H (.ref a) (.dict [])
  | d1 {a : Addr} {x : Str} {v : V} {d : PyData} :
      H a = some (.dK [(Sum.inr x, v)]) → DX H v d →
      DX H (.ref a) (.dict [(.str x, d)])
inductive DXs (H : Hp) : List V → List PyData → Prop
  | nil : DXs H [] []
  | cons {v : V} {vs : List V} {d : PyData} {ds : List PyData} :
      DX H v d → DXs H vs ds → DXs H (v :: vs) (d :: ds)
end
mutual
theorem DX.same {H H' : Hp} (s : Same H H') : ∀ (d : PyData) (v : V),
    DX H v d → DX H' v d
  | .none, _, h => by cases h; exact .non
  | .bool b, _, h => by cases h; exact .bl b
  | .int i, _, h => by cases h; exact .int i
  | .str x, _, h => by cases h; exact .str x
  | .list ds, _, h => by
    cases h with
    | lst e t => exact .lst (s _ _ e) (DXs.same s ds _ t)
  | .tuple ds, _, h => by
    cases h with
    | tup e t => exact .tup (s _ _ e) (DXs.same s ds _ t)
  | .dict [], _, h => by
    cases h with
    | d0 e => exact .d0 (s _ _ e)
  | .dict [(k, d)], _, h => by
    cases h with
    | d1 e t => exact .d1 (s _ _ e) (DX.same s d _ t)
  | .dict (_ :: _ :: _), _, h => by cases h
theorem DXs.same {H H' : Hp} (s : Same H H') : ∀ (ds : List PyData)
    (vs : List V), DXs H vs ds → DXs H' vs ds
  | [], _, h => by cases h; exact .nil
  | d :: ds, _, h => by
    cases h with
    | cons a t => exact .cons (DX.same s d _ a) (DXs.same s ds _ t)
end
section
variable {X : Cx} {pins : List (Addr × Obj)} {σ : L2.St} {H : Hp} {s : Shared}
theorem dict_parts {a : Addr} {kvs : List (Key × V)} (I : Inv X pins σ H s)
    (e : H a = some (.dK kvs)) : ∃ o es n vs, s.heap.get? a = some o ∧
      o.cls = .type "dict" ∧ o.data = .dict es n ∧
      Pairs (mixKind X.prog X.w) es.toList vs ∧ KV kvs vs := by
  obtain ⟨_, _, vs, kv, o, es, ep, h1, h2, h3, _, h5, _⟩ := dk_of I.hok e
  exact ⟨o, es, ep, vs, h1, h2.1, h3, h5, kv⟩
theorem keyIs_inr {x : Str} {v : Value} (h : keyIs (.inr x) v = true) :
    ∃ t, v = .str x t := by
  rcases keyIs_shape h with ⟨i, t, e, _⟩ | ⟨y, t, e, e2⟩
  · cases e
  · cases e; exact ⟨t, e2⟩
mutual
theorem DX.reads (I : Inv X pins σ H s) (hs : H sysModules = none) :
    ∀ (d : PyData) (v : V) (u : Value), DX H v d → RelV v u →
      ∃ as, Reads s.heap u d as ∧ sysModules ∉ as
  | .none, _, _, h, r => by
    cases h; cases r; exact ⟨_, Reads.none, by simp⟩
  | .bool b, _, _, h, r => by
    cases h; cases r; exact ⟨_, Reads.bool b, by simp⟩
  | .int i, _, _, h, r => by
    cases h; obtain ⟨t, rfl⟩ := r; exact ⟨_, Reads.int i t, by simp⟩
  | .str x, _, _, h, r => by
    cases h; obtain ⟨t, rfl⟩ := r; exact ⟨_, Reads.str x t, by simp⟩
  | .list ds, _, _, h, r => by
    cases h with
    | lst e t =>
      cases r
      obtain ⟨_, its, n, rv, ho⟩ := I.hok _ _ e
      obtain ⟨as, q, nm⟩ := DXs.reads I hs ds _ its t rv
      refine ⟨_, Reads.list ho rfl rfl (by simpa using q), ?_⟩
      intro m
      rcases List.mem_cons.mp m with z | z
      · rw [z, e] at hs; cases hs
      · exact nm z
  | .tuple ds, _, _, h, r => by
    cases h with
    | tup e t =>
      cases r
      obtain ⟨_, its, rv, o, ho, hc, n, hd⟩ := I.hok _ _ e
      obtain ⟨as, q, nm⟩ := DXs.reads I hs ds _ its t rv
      exact ⟨_, Reads.tuple ho hc hd (by simpa using q), nm⟩
  | .dict [], _, _, h, r => by
    cases h with
    | d0 e =>
      cases r
      obtain ⟨o, es, n, vs, h1, h2, h3, h4, kv⟩ := dict_parts I e
      cases kv
      have ez : es.toList = [] := by cases hz : es.toList with
        | nil => rfl
        | cons a b => rw [hz] at h4; cases h4
      refine ⟨_, Reads.dict (kvs := []) h1 h2 h3 (by rw [ez]; exact .nil)
        (by rw [ez]; exact .nil), ?_⟩
      intro m
      rcases List.mem_cons.mp m with z | z
      · rw [z, e] at hs; cases hs
      · cases z
  | .dict [(k, d)], _, _, h, r => by
    cases h with
    | d1 e t =>
      cases r
      obtain ⟨o, es, n, vs, h1, h2, h3, h4, kv⟩ := dict_parts I e
      cases kv with
      | cons p q =>
        cases q
        cases ez : es.toList with
        | nil => rw [ez] at h4; cases h4
        | cons en er =>
          rw [ez] at h4
          cases h4 with
          | cons k1 v1 r1 =>
            cases r1
            obtain ⟨p1, p2⟩ := p
            obtain ⟨as, rd, nm⟩ := DX.reads I hs d _ _ t p2
            rw [← p1] at k1
            obtain ⟨tk, ek⟩ := keyIs_inr k1
            refine ⟨_, Reads.dict (kvs := [(_, d)]) h1 h2 h3 (as := [])
              (bs := as ++ []) ?_ ?_, ?_⟩
            · rw [ez]
              show ReadsAll _ [en.key] [_] ([] ++ [])
              rw [ek]
              exact .cons (.str _ _) .nil
            · rw [ez]
              show ReadsAll _ [en.val] [d] _
              rw [v1]
              exact .cons rd .nil
            · intro m
              rcases List.mem_cons.mp m with z | z
              · rw [z, e] at hs; cases hs
              · have z' : sysModules ∈ ([] : List Addr) ++ (as ++ []) := z
                rw [List.nil_append, List.append_nil] at z'
                exact nm z'
  | .dict (_ :: _ :: _), _, _, h, _ => by cases h
theorem DXs.reads (I : Inv X pins σ H s) (hs : H sysModules = none) :
    ∀ (ds : List PyData) (vs : List V) (us : List Value), DXs H vs ds →
      Vals vs us → ∃ as, ReadsAll s.heap us ds as ∧ sysModules ∉ as
  | [], _, _, h, r => by
    cases h; cases r; exact ⟨_, ReadsAll.nil, by simp⟩
  | d :: ds, _, _, h, r => by
    cases h with
    | cons h1 h2 =>
      cases r with
      | cons r1 r2 =>
        obtain ⟨as, q1, n1⟩ := DX.reads I hs d _ _ h1 r1
        obtain ⟨bs, q2, n2⟩ := DXs.reads I hs ds _ _ h2 r2
        exact ⟨_, ReadsAll.cons q1 q2, fun m => (List.mem_append.mp m).elim n1 n2⟩
end
/-- repr(x) of data with small dicts -/
def rReprX : List V → Hp → VK → Prop := fun xs H Q =>
  ∃ v d, xs = [v] ∧ DX H v d ∧ d.showable = true ∧ d.depth ≤ 60 ∧
    d.shown.length ≤ sizeLine ∧ Q (.str d.shown) H
theorem call_reprX {k : Nat} (room : Room k X.A)
    (gd : X.A.guards = some [])
    (sm : ∃ o, X.base.get? sysModules = some o) :
    CallR X (.builtin "repr") rReprX := by
  intro pins s σ H xs us Q I r h
  obtain ⟨v, d, rfl, hd, sh, dp, sz, q⟩ := h
  cases r with
  | cons rv rn =>
    cases rn
    rename_i u
    obtain ⟨o, ho⟩ := sm
    have hs : H sysModules = none := (I.env0.bs _ o ho).2
    obtain ⟨as, rd, nm⟩ := DX.reads I hs d v u hd rv
    have un := room.units
    have key : ∀ a : Addr, u = .ref a → wpAny (model X.prog X.w) X.A
        (call (.builtin "repr") [u]) (EP X pins σ Q) X.xe s := by
      rintro a rfl
      refine repr_of_reads' rd sh (fun _ => nm) gd (by omega) (fun _ _ e => e)
        (fun h' u tk hk => ?_) sz
      exact ⟨.str _, H, I.kept hk, ⟨_, rfl⟩, q⟩
    cases hd with
    | non =>
      cases rv
      exact PySem.P.repr_of_none ⟨.str _, H, I.tok _, ⟨_, rfl⟩, q⟩
    | bl b =>
      cases rv
      exact PySem.P.repr_of_bool ⟨.str _, H, I.tok _, ⟨_, rfl⟩, q⟩
    | int i =>
      obtain ⟨t, rfl⟩ := rv
      refine PySem.P.repr_of_int ?_ ⟨.str _, H, I.tok _, ⟨_, rfl⟩, q⟩
      simpa [PyData.showable] using sh
    | str x =>
      obtain ⟨t, rfl⟩ := rv
      exact PySem.P.repr_of_str ⟨.str _, H, I.tok _, ⟨_, rfl⟩, q⟩ sz
    | lst a b => cases rv; exact key _ rfl
    | tup a b => cases rv; exact key _ rfl
    | d0 a => cases rv; exact key _ rfl
    | d1 a b => cases rv; exact key _ rfl
end
end OM
namespace OM
open PySem PySem.Spec PyProof.Rows L2
/-! ### repr, also of a dict from texts to 1, also in an except suite -/
def ones (ls : List (List Nat)) : List (Key × V) :=
  ls.map fun l => (Sum.inr (SX.S l), V.int 1)
def onesD (ls : List (List Nat)) : List (PyData × PyData) :=
  ls.map fun l => (.str (SX.S l), .int 1)
def DY (H : Hp) (v : V) (d : PyData) : Prop :=
  DX H v d ∨ ∃ (a : Addr) (ls : List (List Nat)), v = .ref a ∧
    H a = some (.dK (ones ls)) ∧ d = .dict (onesD ls)
mutual
theorem DX.ext {H H' : Hp} (s : LamX.ExtN H H') : ∀ (d : PyData) (v : V),
    DX H v d → DX H' v d
  | .none, _, h => by cases h; exact .non
  | .bool b, _, h => by cases h; exact .bl b
  | .int i, _, h => by cases h; exact .int i
  | .str x, _, h => by cases h; exact .str x
  | .list ds, _, h => by
    cases h with
    | lst e t => exact .lst (s _ _ e nofun) (DXs.ext s ds _ t)
  | .tuple ds, _, h => by
    cases h with
    | tup e t => exact .tup (s _ _ e nofun) (DXs.ext s ds _ t)
  | .dict [], _, h => by
    cases h with
    | d0 e => exact .d0 (s _ _ e nofun)
  | .dict [(k, d)], _, h => by
    cases h with
    | d1 e t => exact .d1 (s _ _ e nofun) (DX.ext s d _ t)
  | .dict (_ :: _ :: _), _, h => by cases h
theorem DXs.ext {H H' : Hp} (s : LamX.ExtN H H') : ∀ (ds : List PyData)
    (vs : List V), DXs H vs ds → DXs H' vs ds
  | [], _, h => by cases h; exact .nil
  | d :: ds, _, h => by
    cases h with
    | cons a t => exact .cons (DX.ext s d _ a) (DXs.ext s ds _ t)
end
theorem DY.ext {H H' : Hp} {v : V} {d : PyData} (h : DY H v d)
    (s : LamX.ExtN H H') : DY H' v d := by
  rcases h with h | ⟨a, ls, rfl, e, rfl⟩
  · exact .inl (DX.ext s d v h)
  · exact .inr ⟨a, ls, rfl, s _ _ e nofun, rfl⟩
theorem DY.same {H H' : Hp} {v : V} {d : PyData} (h : DY H v d)
    (s : Same H H') : DY H' v d := h.ext (LamX.ExtN.of s)
section
variable {X : Cx} {pins : List (Addr × Obj)} {σ : L2.St} {H : Hp} {s : Shared}
theorem ones_reads {h : Heap} {P : Program} {w : World} :
    ∀ (ls : List (List Nat)) (es : List DictEntry) (vs : List (Key × Value)),
    Pairs (mixKind P w) es vs → KV (ones ls) vs →
    ReadsAll h (es.map (·.key)) ((onesD ls).map (·.1)) [] ∧
    ReadsAll h (es.map (·.val)) ((onesD ls).map (·.2)) []
  | [], es, vs, p, k => by
    cases k
    cases p
    exact ⟨.nil, .nil⟩
  | l :: ls, es, vs, p, k => by
    cases k with
    | cons k1 k2 =>
      cases p with
      | cons p1 p2 p3 =>
        obtain ⟨a, b⟩ := ones_reads ls _ _ p3 k2
        obtain ⟨q1, q2⟩ := k1
        rw [← q1] at p1
        obtain ⟨tk, ek⟩ := keyIs_inr p1
        obtain ⟨ti, ei⟩ := q2
        refine ⟨?_, ?_⟩
        · rw [List.map_cons, ek]
          exact ReadsAll.cons (as := []) (bs := []) (.str _ _) a
        · rw [List.map_cons, p2, ei]
          exact ReadsAll.cons (as := []) (bs := []) (.int _ _) b
def rReprY : List V → Hp → VK → Prop := fun xs H Q =>
  ∃ v d, xs = [v] ∧ DY H v d ∧ d.showable = true ∧ d.depth ≤ 60 ∧
    d.shown.length ≤ sizeLine ∧ Q (.str d.shown) H
theorem call_reprY (un : X.A.units + 64 < cLine)
    (gd : X.A.guards = some [])
    (sm : ∃ o, X.base.get? sysModules = some o) :
    CallR X (.builtin "repr") rReprY := by
  intro pins s σ H xs us Q I r h
  obtain ⟨v, d, rfl, hd, sh, dp, sz, q⟩ := h
  cases r with
  | cons rv rn =>
    cases rn
    rename_i u
    obtain ⟨o, ho⟩ := sm
    have hs : H sysModules = none := (I.env0.bs _ o ho).2
    have key : ∀ (a : Addr) (as : List Addr), u = .ref a →
        Reads s.heap u d as → sysModules ∉ as →
        wpAny (model X.prog X.w) X.A
        (call (.builtin "repr") [u]) (EP X pins σ Q) X.xe s := by
      rintro a as rfl rd nm
      refine repr_of_reads' rd sh (fun _ => nm) gd (by omega) (fun _ _ e => e)
        (fun h' u tk hk => ?_) sz
      exact ⟨.str _, H, I.kept hk, ⟨_, rfl⟩, q⟩
    rcases hd with hd | ⟨a, ls, rfl, e, rfl⟩
    · obtain ⟨as, rd, nm⟩ := DX.reads I hs d v u hd rv
      cases hd with
      | non =>
        cases rv
        exact PySem.P.repr_of_none ⟨.str _, H, I.tok _, ⟨_, rfl⟩, q⟩
      | bl b =>
        cases rv
        exact PySem.P.repr_of_bool ⟨.str _, H, I.tok _, ⟨_, rfl⟩, q⟩
      | int i =>
        obtain ⟨t, rfl⟩ := rv
        refine PySem.P.repr_of_int ?_ ⟨.str _, H, I.tok _, ⟨_, rfl⟩, q⟩
        simpa [PyData.showable] using sh
      | str x =>
        obtain ⟨t, rfl⟩ := rv
        exact PySem.P.repr_of_str ⟨.str _, H, I.tok _, ⟨_, rfl⟩, q⟩ sz
      | lst a b => cases rv; exact key _ _ rfl rd nm
      | tup a b => cases rv; exact key _ _ rfl rd nm
      | d0 a => cases rv; exact key _ _ rfl rd nm
      | d1 a b => cases rv; exact key _ _ rfl rd nm
    · cases rv
      obtain ⟨o2, es, n, vs, h1, h2, h3, h4, kv⟩ := dict_parts I e
      obtain ⟨r1, r2⟩ := ones_reads (h := s.heap) ls es.toList vs h4 kv
      refine key a _ rfl (Reads.dict h1 h2 h3 r1 r2) fun m => ?_
      rcases List.mem_cons.mp m with z | z
      · rw [z, e] at hs
        cases hs
      · cases z
end
end OM
namespace OM
open PySem PySem.Spec PyProof.Rows L2
section
variable {P : Program} {w : World} {K : PySem.W.Frag}
  {mg : Str → Option Value} {base : Heap}
theorem at0 (x y : V) : atI [x, y] 0 = some x := atI_nat (j := 0) rfl
theorem at1 (x y : V) : atI [x, y] 1 = some y := atI_nat (j := 1) rfl
theorem ok_draw {f : Addr} {fd : FuncData} {k : Nat}
    (F : Fun K "_law_draw" "_law_draw" s_Ldraw f fd) (B : Bl mg) :
    FnOk P w K mg base CX0 (k + 1) f fd ["_law_rng_here", "_law_many"]
      spDraw := by
  refine F.ok sc_Ldraw (fun vs H Q E h => ?_)
    (fun cv A outer s H vs Q E hr h => ?_)
  · obtain ⟨p, m, rfl, _⟩ := h
    rfl
  obtain ⟨p, m, rfl, rg, m0, m1, q⟩ := h
  obtain ⟨a, b, hp, a0, b0, b1⟩ := rg
  have nd := sc_Ldraw.nd
  refine ⟨_, pss_cons (ps_if (pt_cmpR op_gt
      (pe_ix ix_list (pv 0) pe_int (fun _ _ => rfl)) pe_int (nomark _))
      (pss_cons (ps_asg (pe_callB call_divmod (by rfl) B.divmod bt_divmod
          (pa_cons (pe_ix ix_list (pv 0) pe_int (fun _ _ => rfl))
            (pa_cons (pv 1) pa_nil)))
        (pg_tup rfl (pgs_cons (pg_sub (pv 0) pe_int set_list)
          (pgs_cons (pg_name (i := 2) nd rfl (.inl rfl)) pgs_nil))))
        (pss_one (ps_ret (pv 2)))) pss_nil)
    (pss_cons (ps_asg (pe_op op_mod (pe_op op_add (pe_op op_mul
        (pe_ix ix_list (pv 0) pe_int (fun _ _ => rfl)) pe_int) pe_int) pe_int)
        (pg_sub (pv 0) pe_int set_list))
    (pss_one (ps_ret (pe_op op_mod (pe_op op_fdiv (pe_op op_mod (pe_op op_mul
        (pe_ix ix_list (pv 0) pe_int (fun _ _ => rfl))
        (pe_ix ix_list (pv 0) pe_int (fun _ _ => rfl))) pe_int) pe_int)
        (pv 1))))), ?_⟩
  refine ⟨_, rfl, p, _, 0, _, rfl, rfl, SqL.of hp, at0 _ _, _, _, rfl, rfl,
    _, rfl, ite2 (fun c => ?_) (fun c => ?_)⟩
  · have c' : 0 < a := of_decide_eq_true c
    refine ⟨_, rfl, p, _, 0, _, rfl, rfl, SqL.of hp, at0 _ _, _, rfl, a, m,
      rfl, ⟨m0, by omega⟩, fun t nt => ?_⟩
    have nt' : p ≠ t := ne_of_none hp nt
    have hp' : (upd H t (.tup [.int (a / m), .int (a % m)])) p =
        some (.lst [.int a, .int b]) := by rw [upd_ne nt']; exact hp
    refine ⟨t, _, rfl, .inl (.inl upd_same), rfl, _, _, rfl, _, rfl, p, _, 0,
      0, rfl, rfl, hp', rfl, _, _, rfl, rfl, _, rfl, ?_⟩
    refine q _ _ (Int.emod_nonneg _ (by omega)) (Int.emod_lt_of_pos _ m0)
      ⟨a / m, b, upd_same, Int.ediv_nonneg a0 (by omega), b0, b1⟩ ?_
    exact ((But.refl H).new nt).at
  · have b2 : 0 ≤ (b * 48271 + 10007) % 2147483587 :=
      Int.emod_nonneg _ (by decide)
    have b3 : (b * 48271 + 10007) % 2147483587 < 2147483587 :=
      Int.emod_lt_of_pos _ (by decide)
    refine ⟨_, rfl, p, _, 1, _, rfl, rfl, SqL.of hp, at1 _ _, _, _, rfl, rfl,
      .inl ⟨by omega, by omega⟩, _, _, rfl, rfl, _, _, rfl, rfl,
      (by show (0 : Int) < 2147483587; decide), _, rfl, p, _, 1, 1, rfl, rfl,
      hp, rfl, ?_⟩
    have hp' : (upd H p (.lst [.int a,
        .int ((b * 48271 + 10007) % 2147483587)])) p = _ := upd_same
    refine ⟨_, rfl, p, _, 1, _, rfl, rfl, SqL.of hp', at1 _ _, _, rfl, p, _,
      1, _, rfl, rfl, SqL.of hp', at1 _ _, _, _, rfl, rfl,
      .inl ⟨by omega, by omega⟩, _, _, rfl, rfl,
      (by show (0 : Int) < 2147483549; decide), _, _, rfl, rfl,
      ⟨by decide, by decide⟩, _, rfl, _, _, rfl, rfl, m0, ?_⟩
    refine q _ _ (Int.emod_nonneg _ (by omega)) (Int.emod_lt_of_pos _ m0)
      ⟨a, _, upd_same, a0, b2, by omega⟩ (But.refl H).at
end
end OM
namespace OM
open PySem PySem.Spec PyProof.Rows L2
section
variable {P : Program} {w : World} {K : PySem.W.Frag}
  {mg : Str → Option Value} {base : Heap}
theorem ifx_cut {tA : TT} {ta tb : TE} {σ : L2.St} {H : Hp} {R : VK}
    (v : V) (h : ∀ R : VK, R v H → tIf tA ta tb σ H R) (k : R v H) :
    tIf tA ta tb σ H R := h R k
theorem ok_rng {f : Addr} {fd : FuncData} {k : Nat}
    (F : Fun K "_law_rng" "_law_rng" s_Lrng f fd) (B : Bl mg) :
    FnOk P w K mg base CX0 (k + 1) f fd ["_law_script", "_law_k"]
      (spRng K) := by
  refine F.ok sc_Lrng (fun vs H Q E h => ?_)
    (fun cv A outer s H vs Q E hr h => ?_)
  · obtain ⟨a, ns, k, rfl, _⟩ := h
    rfl
  obtain ⟨a, ns, n, rfl, hS, hn, q⟩ := h
  have nd := sc_Lrng.nd
  refine ⟨_, pss_cons (ps_set (i := 2) nd rfl (.inl rfl) (pe_ifExp
      (pt_cmpR op_lt (pv 1) (pe_callB call_len_seq (by rfl) B.len
        PySem.boot_len (pa_cons (pv 0) pa_nil)) (nomark _))
      (pe_callB call_abs (by rfl) B.abs bt_abs
        (pa_cons (pe_ix ix_list (pv 0) (pv 1) (fun _ _ => rfl)) pa_nil))
      pe_int))
    (pss_one (ps_ret (pe_lst (pa_cons
      (pe_callB (call_max2 rfl) (by rfl) B.max bt_max
        (pa_cons pe_int (pa_cons (pe_op op_sub (pv 2)
          (pe_op op_pow pe_int pe_int)) pa_nil)))
      (pa_cons (pe_op op_add (pe_op op_mod (pe_op op_pow
        (pe_op op_add (pe_op op_add (pe_op op_mod (pv 2) pe_int)
          (pe_op op_mul pe_int (pv 1))) pe_int) pe_int) pe_int) pe_int)
        pa_nil))))), ?_⟩
  obtain ⟨c, hc⟩ : ∃ c : Int, (n < ns.length → c =
      if ns.getD n 0 < 0 then - ns.getD n 0 else ns.getD n 0) ∧
      (¬ n < ns.length → c = 0) := by
    by_cases h : n < ns.length
    · exact ⟨_, fun _ => rfl, fun z => absurd h z⟩
    · exact ⟨0, fun z => absurd z h, fun _ => rfl⟩
  refine ifx_cut (.int c) (fun R hR => ?_) ?_
  · refine ⟨_, rfl, _, rfl, a, _, rfl, .inl hS, _, _, rfl, rfl, _, rfl,
      ite2 (fun z => ?_) (fun z => ?_)⟩
    · have z' : (n : Int) < ((ns.map V.int).length : Int) :=
        of_decide_eq_true z
      rw [List.length_map] at z'
      have hn' : n < ns.length := by omega
      have g : (ns.map V.int)[n]? = some (.int (ns.getD n 0)) := by
        rw [List.getElem?_map, List.getElem?_eq_getElem hn',
          List.getD_eq_getElem?_getD, List.getElem?_eq_getElem hn']
        rfl
      refine ⟨_, rfl, _, rfl, a, _, n, _, rfl, rfl, hS, atI_nat g, _, rfl, ?_⟩
      rw [← hc.1 hn']
      exact hR
    · have z' : ¬ n < ns.length := fun y => z (decide_eq_true (by
        rw [List.length_map]; omega))
      rw [hc.2 z'] at hR
      exact hR
  · have c0 : 0 ≤ c % 2147483543 := Int.emod_nonneg _ (by decide)
    have c1 : c % 2147483543 < 2147483543 :=
      Int.emod_lt_of_pos _ (by decide)
    refine ⟨_, rfl, _, _, rfl, rfl, ⟨by decide, by decide, by decide⟩, _, _,
      rfl, rfl, _, _, rfl, _, rfl, _, _, rfl, rfl,
      (by show (0 : Int) < 2147483543; decide), _, rfl, _, _, rfl, rfl,
      .inl ⟨by decide, by decide⟩, _, _, rfl, rfl, _, _, rfl, rfl, _, _, rfl,
      rfl, ⟨by decide, by decide, by omega⟩, _, _, rfl, rfl,
      (by show (0 : Int) < 2147483497; decide), _, _, rfl, rfl,
      (by show 2 ≤ sizeLine; decide), fun p np => ?_⟩
    generalize hb : ((c % 2147483543 + 101 * (n : Int) + 7) ^
      (2 : Int).toNat) % 2147483497 = b
    have b0 : 0 ≤ b := by rw [← hb]; exact Int.emod_nonneg _ (by decide)
    have b1 : b < 2147483497 := by
      rw [← hb]; exact Int.emod_lt_of_pos _ (by decide)
    refine q p _ np ⟨_, b + 1, upd_same, ?_, by omega, by omega⟩
      (sameNew np)
    split <;> omega
end
end OM
namespace OM
open PySem PySem.Spec PyProof.Rows L2
abbrev lets : Str := "abcdefghijklmnopqrstuvwxyz"
theorem lets_tl : lets.cps.toList = List.range' 97 26 := by decide +kernel
theorem lets_at {i : Int} (h0 : 0 ≤ i) (h1 : i < 26) :
    atI lets.cps.toList i = some (97 + i.toNat) := by
  have e : i = ((i.toNat : Nat) : Int) := by omega
  rw [e, lets_tl]
  refine atI_nat ?_
  rw [Int.toNat_natCast, List.getElem?_range' (by omega)]
  simp
theorem yes {σ : L2.St} {H : Hp} {A B : Hp → Prop} (h : A H) :
    tYes σ H fun b H' => if b = true then A H' else B H' :=
  iteT (B := B H) h
theorem joinL_ones : ∀ cs : List Nat,
    TL.joinL [] (cs.map fun c => [c]) = cs
  | [] => rfl
  | [c] => rfl
  | c :: d :: r => by
    have ih := joinL_ones (d :: r)
    show [c] ++ [] ++ TL.joinL [] ((d :: r).map fun c => [c]) = _
    rw [ih]
    rfl
def nmB (l : List Nat) : Bool :=
  decide (1 ≤ l.length) && decide (l.length ≤ 8) &&
    l.all fun c => decide (97 ≤ c) && decide (c ≤ 122)
theorem nmB_iff {l : List Nat} : nmB l = true ↔ Nm l := by
  unfold nmB
  simp only [Bool.and_eq_true, decide_eq_true_eq, List.all_eq_true]
  exact ⟨fun ⟨⟨a, b⟩, c⟩ => ⟨a, b, c⟩, fun n => ⟨⟨n.lo, n.hi⟩, n.az⟩⟩
theorem nm_of (x : Str) (h : nmB x.cps.toList = true) :
    ∃ l, (.str x : V) = vS l ∧ Nm l :=
  ⟨x.cps.toList, by rw [vS, SX.S_tl], nmB_iff.mp h⟩
/-- an item of eight written ones -/
theorem at8 {α : Type} {P : α → Prop} {a b c d e f g h : α} {i : Int}
    (h0 : 0 ≤ i) (h1 : i < 8) (pa : P a) (pb : P b) (pc : P c) (pd : P d)
    (pe : P e) (pf : P f) (pg : P g) (ph : P h) :
    ∃ v, atI [a, b, c, d, e, f, g, h] i = some v ∧ P v := by
  have e : i = 0 ∨ i = 1 ∨ i = 2 ∨ i = 3 ∨ i = 4 ∨ i = 5 ∨ i = 6 ∨ i = 7 := by
    omega
  rcases e with rfl | rfl | rfl | rfl | rfl | rfl | rfl | rfl
  · exact ⟨a, rfl, pa⟩
  · exact ⟨b, rfl, pb⟩
  · exact ⟨c, rfl, pc⟩
  · exact ⟨d, rfl, pd⟩
  · exact ⟨_, rfl, pe⟩
  · exact ⟨f, rfl, pf⟩
  · exact ⟨g, rfl, pg⟩
  · exact ⟨h, rfl, ph⟩
theorem at4 {α : Type} {P : α → Prop} {a b c d : α} {i : Int}
    (h0 : 0 ≤ i) (h1 : i < 4) (pa : P a) (pb : P b) (pc : P c) (pd : P d) :
    ∃ v, atI [a, b, c, d] i = some v ∧ P v := by
  have e : i = 0 ∨ i = 1 ∨ i = 2 ∨ i = 3 := by omega
  rcases e with rfl | rfl | rfl | rfl
  · exact ⟨a, rfl, pa⟩
  · exact ⟨b, rfl, pb⟩
  · exact ⟨c, rfl, pc⟩
  · exact ⟨d, rfl, pd⟩
/-- a new name that is not among us -/
def spName (K : PySem.W.Frag) : Sp := fun vs H Q _ =>
  ∃ (p a : Addr) (us : List (List Nat)), vs = [.ref p, .ref a] ∧ Rng H p ∧
  SqL K H a (us.map vS) ∧ a ≠ p ∧ us.length ≤ 600 ∧
  ∀ (l : List Nat) (H' : Hp), Nm l → l ∉ us → Rng H' p → But p H H' →
    Q (vS l) H'
section
variable {P : Program} {w : World} {K : PySem.W.Frag}
  {mg : Str → Option Value} {base : Heap}
abbrev CalDraw (P : Program) (w : World) (K : PySem.W.Frag)
    (mg : Str → Option Value) (base : Heap) (k : Nat) : Prop :=
  Cal P w K mg base k "_law_draw" ["_law_rng_here", "_law_many"] spDraw
theorem ok_name {f : Addr} {fd : FuncData} {k : Nat}
    (F : Fun K "_law_name" "_law_name" s_Lname f fd) (B : Bl mg)
    (C : CalDraw P w K mg base k) :
    FnOk P w K mg base CX0 (k + 1) f fd ["_law_rng_here", "_law_used"]
      (spName K) := by
  refine F.ok sc_Lname (fun vs H Q E h => ?_)
    (fun cv A outer s H vs Q E hr h => ?_)
  · obtain ⟨p, a, us, rfl, _⟩ := h
    rfl
  obtain ⟨p, a, us, rfl, rg, hS, nap, hus, q⟩ := h
  have nd := sc_Lname.nd
  refine ⟨_, C8.pss_cut (ps_set (i := 2) nd rfl (.inr rfl) pe_str)
    (C8.pss_cut (ps_set (i := 3) nd rfl (.inl rfl) (pe_ix ix_list
      (pe_lst (pa_cons pe_int (pa_cons pe_int (pa_cons pe_int (pa_cons
        (pe_op op_add pe_int (pe_cal C hr (pa_cons (pv 0)
          (pa_cons pe_int pa_nil)))) pa_nil)))))
      (pe_cal C hr (pa_cons (pv 0) (pa_cons pe_int pa_nil)))
      (fun _ _ => rfl)))
    (C8.pss_cut (ps_set (i := 4) nd rfl (.inr rfl) (pe_join pe_str
      (pe_lc (own := [("_law_k", 5)]) (g := gName 5) (tt := tYes) rfl nd
        (pi_range1 (by rfl) B.range (pa_cons (pv 3) pa_nil))
        (blkOk_by (N := N_Lname) (sc := defScope s_Lname) (by decide +kernel))
        (fun _ _ _ _ _ => pg_name (i := 5) nd rfl (Or.inl rfl))
        (fun _ _ _ _ _ => pts_nil)
        (fun _ _ _ _ _ => pe_ix ix_str (pv 2)
          (pe_cal C hr (pa_cons (pv 0) (pa_cons pe_int pa_nil)))
          (fun _ _ => rfl)))))
    (C8.pss_cut (ps_if (pt_cmpR op_eq (pe_cal C hr (pa_cons (pv 0)
        (pa_cons pe_int pa_nil))) pe_int (nomark _))
      (pss_one (ps_set (i := 4) nd rfl (.inr rfl) (pe_ix ix_list
        (pe_lst (pa_cons pe_str (pa_cons pe_str (pa_cons pe_str (pa_cons
          pe_str (pa_cons pe_str (pa_cons pe_str (pa_cons pe_str (pa_cons
          pe_str pa_nil)))))))))
        (pe_cal C hr (pa_cons (pv 0) (pa_cons pe_int pa_nil)))
        (fun _ _ => rfl)))) pss_nil)
    (C8.pss_cut (ps_set (i := 6) nd rfl (.inl rfl) (pe_op op_cat
      (pe_lst (pa_cons (pv 4) pa_nil))
      (pe_lc (own := [("_law_k", 5)]) (g := gName 5) (tt := tYes) rfl nd
        (pi_range1 (by rfl) B.range (pa_cons pe_int pa_nil))
        (blkOk_by (N := N_Lname) (sc := defScope s_Lname) (by decide +kernel))
        (fun _ _ _ _ _ => pg_name (i := 5) nd rfl (Or.inl rfl))
        (fun _ _ _ _ _ => pts_nil)
        (fun _ _ _ _ _ => pe_op op_add_str (pe_op op_add_str
          (pe_slice sl_str (pv 4) po_none (po_some pe_int))
          (pe_ix ix_str (pv 2) (pe_op op_fdiv (pv 5) pe_int)
            (fun _ _ => rfl)))
          (pe_ix ix_str (pv 2) (pe_op op_mod (pv 5) pe_int)
            (fun _ _ => rfl))))))
    (pss_one (ps_ret (pe_ix ix_list
      (pe_lc (own := [("_law_one", 7)]) (g := gName 7) rfl nd
        (pi_list (pv 6))
        (blkOk_by (N := N_Lname) (sc := defScope s_Lname) (by decide +kernel))
        (fun _ _ _ _ _ => pg_name (i := 7) nd rfl (Or.inl rfl))
        (fun _ _ _ _ _ => pts_one (pt_cmpR (r := rIn K true) op_notIn_seq (pv 7) (pv 1) (by rfl)))
        (fun _ _ _ _ _ => pv 7))
      pe_int (fun _ _ => rfl)))))))), ?_⟩
  -- letters
  refine ⟨fun σ' H' => σ' = [some (.ref p), some (.ref a), some (.str lets),
    none, none, none, none, none] ∧ H = H', ⟨rfl, rfl⟩, ?_⟩
  rintro _ _ ⟨rfl, rfl⟩
  -- length
  refine ⟨fun σ' H' => ∃ n : Int, 1 ≤ n ∧ n ≤ 8 ∧ σ' = [some (.ref p),
    some (.ref a), some (.str lets), some (.int n), none, none, none, none] ∧
    Rng H' p ∧ But p H H', ?_, ?_⟩
  · refine ⟨_, rfl, p, 8, rfl, rg, by decide, by decide,
      fun d H1 d0 d1 rg1 b1 => ⟨_, _, rfl, rfl, sz (by simp), fun t nt =>
      ⟨_, rfl, p, 4, rfl, rg1.same (sameNew nt), by decide, by decide,
      fun d2 H2 e0 e1 rg2 b2 => ?_⟩⟩⟩
    have ne : t ≠ p := (rg1.ne nt).symm
    obtain ⟨v, hv, n, rfl, n0, n1⟩ := at4 (a := V.int 1) (b := V.int 1)
      (c := V.int 2) (d := V.int (1 + d))
      (P := fun v => ∃ n : Int, v = .int n ∧ 1 ≤ n ∧ n ≤ 8) e0 e1
      ⟨1, rfl, by omega, by omega⟩ ⟨1, rfl, by omega, by omega⟩
      ⟨2, rfl, by omega, by omega⟩ ⟨1 + d, rfl, by omega, by omega⟩
    exact ⟨t, _, d2, _, rfl, rfl, SqL.of (b2 t _ upd_same ne), hv, n, n0, n1,
      rfl, rg2, (b1.put nt ne).trans b2⟩
  rintro _ H1 ⟨n, n0, n1, rfl, rg1, b1⟩
  -- the letters drawn
  refine ⟨fun σ' H' => ∃ l, Nm l ∧ σ' = [some (.ref p), some (.ref a),
    some (.str lets), some (.int n), some (vS l), none, none, none] ∧
    Rng H' p ∧ But p H H', ?_, ?_⟩
  · refine ⟨⟨_, rfl⟩, _, rfl, n, rfl, by omega, by omega, fun D nD => ?_⟩
    have ne : D ≠ p := (rg1.ne nD).symm
    refine lc_range (lo := 0) (n := n.toNat) (fun i H' => ∃ cs : List Nat,
      cs.length = i ∧ (∀ c ∈ cs, 97 ≤ c ∧ c ≤ 122) ∧
      H' D = some (.lst (cs.map fun c => vS [c])) ∧ Rng H' p ∧ But p H H')
      ⟨[], rfl, nofun, upd_same, rg1.same (sameNew nD), b1.put nD ne⟩ ?_ ?_
    · rintro i H2 hi ⟨cs, hl, az, hD, rg2, b2⟩
      refine ⟨rfl, yes ⟨_, rfl, _, rfl, p, 26, rfl, rg2, by decide,
        by decide, fun d H3 d0 d1 rg3 b3 => ⟨_, d, _, rfl, rfl,
        sz (by decide), lets_at d0 d1, _, b3 D _ hD ne, ?_, cs ++
        [97 + d.toNat], ?_, ?_, ?_, ?_, ?_⟩⟩⟩
      · rw [List.length_map]
        exact sz' (by omega)
      · rw [List.length_append, hl]
        rfl
      · intro c hc
        rcases List.mem_append.mp hc with h | h
        · exact az c h
        · rcases List.mem_cons.mp h with h | h
          · omega
          · cases h
      · rw [upd_same, List.map_append]
        rfl
      · exact rg3.but (But.at (p := D) (But.refl H3)) ne.symm
      · exact (b2.trans b3).new (b1.free ne nD)
    · rintro H2 ⟨cs, hl, az, hD, rg2, b2⟩
      refine ⟨_, D, cs.map fun c => SX.S [c], rfl, rfl,
        .inl (SqL.of (by rw [List.map_map]; exact hD)), ?_, cs,
        ⟨by omega, by omega, az⟩, ?_, rg2, b2⟩
      · have e1 : ((cs.map fun c => SX.S [c]).map fun x => x.length).sum =
            cs.length := by
          rw [List.map_map]
          clear hl az hD
          induction cs with
          | nil => rfl
          | cons c cs ih =>
            rw [List.map_cons, List.sum_cons, ih, List.length_cons]
            show 1 + cs.length = cs.length + 1
            omega
        rw [e1, List.length_map, show (Str.ofString "").length = 0 from rfl]
        omega
      · have e2 : Txt.join (Str.ofString "") (cs.map fun c => SX.S [c]) =
            SX.S cs := by
          have := SX.join_S [] (cs.map fun c => [c])
          rw [List.map_map, joinL_ones] at this
          exact this
        rw [e2]
        rfl
  rintro _ H2 ⟨l, nl, rfl, rg2, b2⟩
  -- a command's name
  refine ⟨fun σ' H' => ∃ l, Nm l ∧ σ' = [some (.ref p), some (.ref a),
    some (.str lets), some (.int n), some (vS l), none, none, none] ∧
    Rng H' p ∧ But p H H', ?_, ?_⟩
  · refine ⟨_, rfl, p, 8, rfl, rg2, by decide, by decide,
      fun d H3 d0 d1 rg3 b3 => ⟨rfl, _, rfl, ite2 (fun _ => ?_)
        (fun _ => ⟨l, nl, rfl, rg3, b2.trans b3⟩)⟩⟩
    refine ⟨sz (by decide), fun t nt => ⟨_, rfl, p, 8, rfl,
      rg3.same (sameNew nt), by decide, by decide,
      fun d2 H4 e0 e1 rg4 b4 => ?_⟩⟩
    have ne : t ≠ p := (rg3.ne nt).symm
    obtain ⟨v, hv, l', rfl, nl'⟩ := at8 (P := fun v => ∃ l, v = vS l ∧ Nm l)
      e0 e1 (nm_of "swap" (by decide +kernel)) (nm_of "move" (by decide +kernel))
      (nm_of "base" (by decide +kernel)) (nm_of "users" (by decide +kernel))
      (nm_of "merged" (by decide +kernel)) (nm_of "log" (by decide +kernel))
      (nm_of "ok" (by decide +kernel)) (nm_of "undo" (by decide +kernel))
    exact ⟨t, _, d2, _, rfl, rfl, SqL.of (b4 t _ upd_same ne), hv, l', nl',
      rfl, rg4, ((b2.trans b3).put nt ne).trans b4⟩
  clear nl rg2 b2
  rintro _ H2 ⟨l, nl, rfl, rg2, b2⟩
  -- names to fall back upon
  refine ⟨fun σ' H' => ∃ fr, σ' = [some (.ref p), some (.ref a),
    some (.str lets), some (.int n), some (vS l), none, some (.ref fr), none]
    ∧ fr ≠ p ∧ H' fr = some (.lst ((fresh l).map vS)) ∧
    Rng H' p ∧ But p H H', ?_, ?_⟩
  · refine ⟨_, rfl, sz (by simp), fun t nt => ?_⟩
    have ne : t ≠ p := (rg2.ne nt).symm
    refine ⟨676, rfl, by decide, by decide, fun D nD => ?_⟩
    have rg3 : Rng (upd H2 t (.lst [vS l])) p := rg2.same (sameNew nt)
    have neD : D ≠ p := (rg3.ne nD).symm
    have net : t ≠ D := fun e => by rw [← e, upd_same] at nD; cases nD
    have b3 : But p H (upd H2 t (.lst [vS l])) := b2.put nt ne
    refine lc_range (lo := 0) (n := 676) (fun i H' =>
      H' D = some (.lst (((List.range i).map (frs6 l)).map vS)) ∧
      H' t = some (.lst [vS l]) ∧ Rng H' p ∧ But p H H')
      ⟨upd_same, by rw [upd_ne net, upd_same], rg3.same (sameNew nD),
        b3.put nD neD⟩ ?_ ?_
    · rintro i H4 hi ⟨hD, ht, rg4, b4⟩
      have f1 : 0 ≤ (0 + (i : Int)) / 26 := by omega
      have f2 : (0 + (i : Int)) / 26 < 26 := by omega
      have f3 : 0 ≤ (0 + (i : Int)) % 26 := by omega
      have f4 : (0 + (i : Int)) % 26 < 26 := by omega
      have ll := nl.hi
      have ec : cutS (SX.S l) none (some 6) = SX.S (l.take 6) := by
        rw [C8.cutS_slice, SX.slice_to (by decide)]
        rfl
      refine ⟨rfl, yes ⟨_, rfl, 6, rfl, SX.S l, rfl,
        sz (by rw [SX.S_len]; omega), _, rfl, _, rfl, _, _, rfl, rfl,
        ⟨by decide, by decide⟩, _, _, _, rfl, rfl, sz (by decide),
        lets_at f1 f2, _, _, rfl, rfl, ?_, _, rfl, _, rfl, _, _, rfl, rfl,
        (by show (0 : Int) < 26; decide), _, _, _, rfl, rfl, sz (by decide),
        lets_at f3 f4, _, _, rfl, rfl, ?_, _, hD, ?_, ?_, ?_, ?_, ?_⟩⟩
      · rw [ec, SX.S_len, List.length_take]
        show min 6 l.length + 1 ≤ _
        exact sz (by omega)
      · rw [ec, strLen_append, SX.S_len, List.length_take]
        show min 6 l.length + 1 + 1 ≤ _
        exact sz (by omega)
      · rw [List.length_map, List.length_map, List.length_range]
        exact sz' (by omega)
      · rw [upd_same, ec]
        have e5 : SX.S (l.take 6) ++ (⟨#[97 + ((0 + (i : Int)) / 26).toNat]⟩ :
            Str) ++ ⟨#[97 + ((0 + (i : Int)) % 26).toNat]⟩ =
            SX.S (frs6 l i) := by
          have e6 : ((0 + (i : Int)) / 26).toNat = i / 26 := by omega
          have e7 : ((0 + (i : Int)) % 26).toNat = i % 26 := by omega
          rw [e6, e7]
          show SX.S (l.take 6) ++ SX.S [97 + i / 26] ++ SX.S [97 + i % 26] = _
          rw [SX.S_cat, SX.S_cat]
          unfold frs6
          rw [List.append_assoc]
          rfl
        rw [e5, List.range_succ, List.map_append, List.map_append]
        rfl
      · rw [upd_ne net]
        exact ht
      · exact rg4.but (But.at (p := D) (But.refl H4)) neD.symm
      · exact b4.new (b3.free neD nD)
    · rintro H4 ⟨hD, ht, rg4, b4⟩
      refine ⟨t, D, _, _, rfl, rfl, ht, hD, ?_, fun fr nfr => ⟨fr, rfl,
        (rg4.ne nfr).symm, ?_, rg4.same (sameNew nfr),
        b4.put nfr (rg4.ne nfr).symm⟩⟩
      · rw [List.length_map, List.length_map, List.length_range]
        exact sz (by simp)
      · rw [upd_same]
        rfl
  clear rg2 b2
  rintro _ H3 ⟨fr, rfl, nfp, hfr, rg3, b3⟩
  -- the first one that is free
  refine ⟨_, rfl, fr, rfl, ⟨_, SqL.of hfr⟩, fun D nD => ?_⟩
  have neD : D ≠ p := (rg3.ne nD).symm
  have nfD : fr ≠ D := ne_of_none hfr nD
  have hS3 : SqL K H3 a (us.map vS) := b3.seq hS nap
  have naD : SqL K (upd H3 D (.lst [])) a (us.map vS) := (sameNew nD).seq hS3
  refine lc_list (K := K) (a := fr) (xs := (fresh l).map vS) (fun i H' =>
    H' D = some (.lst ((((fresh l).take i).filter
      (fun y => decide (y ∉ us))).map vS)) ∧
    H' fr = some (.lst ((fresh l).map vS)) ∧ Rng H' p ∧ But p H3 H' ∧
    SqL K H' a (us.map vS))
    ⟨upd_same, by rw [upd_ne nfD]; exact hfr, rg3.same (sameNew nD),
      (But.refl H3).put nD neD, naD⟩ (fun i H' _ z => SqL.of z.2.1) ?_ ?_
  · rintro i y H4 hy ⟨hD, hf, rg4, b4, hS4⟩
    rw [List.getElem?_map] at hy
    obtain ⟨x, hx, rfl⟩ : ∃ x, (fresh l)[i]? = some x ∧ vS x = y := by
      cases e : (fresh l)[i]? with
      | none => rw [e] at hy; cases hy
      | some x => rw [e] at hy; exact ⟨x, rfl, Option.some.inj hy⟩
    have et : (fresh l).take (i + 1) = (fresh l).take i ++ [x] := by
      rw [List.take_add_one, hx]
      rfl
    refine ⟨rfl, _, rfl, _, rfl, a, _, rfl, .inl hS4, rfl, flat_S us, _, rfl,
      ?_⟩
    rw [inV_S]
    have hlen : ((((fresh l).take i).filter
        (fun y => decide (y ∉ us))).map vS).length < sizeLine := by
      rw [List.length_map]
      refine sz' (Nat.lt_of_le_of_lt (List.length_filter_le _ _) ?_)
      rw [List.length_take]
      have : (fresh l).length = 677 := by
        unfold fresh
        rw [List.length_cons, List.length_map, List.length_range]
      omega
    by_cases hm : x ∈ us
    · rw [decide_eq_true hm]
      refine iteF ⟨?_, hf, rg4, b4, hS4⟩
      rw [hD, et, List.filter_append, List.filter_cons_of_neg (by simp [hm]),
        List.filter_nil, List.append_nil]
    · rw [decide_eq_false hm]
      refine iteT ⟨_, rfl, _, hD, hlen, ?_, ?_, ?_, ?_, ?_⟩
      · rw [upd_same, et, List.filter_append,
          List.filter_cons_of_pos (by simp [hm]), List.filter_nil,
          List.map_append]
        rfl
      · rw [upd_ne nfD]
        exact hf
      · exact rg4.but (But.at (p := D) (But.refl H4)) neD.symm
      · exact b4.new nD
      · have naD' : But D H4 (upd H4 D (.lst ((((fresh l).take i).filter
            (fun y => decide (y ∉ us))).map vS ++ [vS x]))) :=
          But.at (But.refl H4)
        by_cases had : a = D
        · subst had
          rcases hS3 with (h | ⟨o, h⟩) | h
          · rw [h] at nD; cases nD
          · rw [h] at nD; cases nD
          · exact .inr h
        · exact naD'.seq hS4 had
  · rintro H4 ⟨hD, hf, rg4, b4, hS4⟩
    obtain ⟨x, r, ex⟩ := fresh_some (l := l) (us := us) (by omega)
    rw [List.take_of_length_le (by rw [List.length_map]; exact Nat.le_refl _),
      ex] at hD
    have mx : x ∈ (fresh l).filter (fun y => decide (y ∉ us)) := by
      rw [ex]; exact List.mem_cons_self
    have mx' := List.mem_filter.mp mx
    exact ⟨D, _, 0, _, rfl, rfl, SqL.of hD, atI_nat (j := 0) rfl,
      q x H4 (fresh_nm nl x mx'.1) (of_decide_eq_true mx'.2) rg4
        (b3.trans b4)⟩
end
end OM
namespace OM
open PySem PySem.Spec PyProof.Rows L2
/-- some new names -/
def spNames : Sp := fun vs H Q _ =>
  ∃ (p u : Addr) (m : Nat) (us : List (List Nat)),
  vs = [.ref p, .int m, .ref u] ∧ Rng H p ∧ H u = some (.lst (us.map vS)) ∧
  u ≠ p ∧ m ≤ 100 ∧ us.length ≤ 400 ∧
  ∀ (q : Addr) (ls : List (List Nat)) (H' : Hp), H q = none →
    ls.length = m → (∀ l ∈ ls, Nm l) → ls.Nodup → (∀ l ∈ ls, l ∉ us) →
    H' q = some (.lst (ls.map vS)) → Rng H' p → But p H H' →
    Q (.ref q) H'
section
variable {P : Program} {w : World} {K : PySem.W.Frag}
  {mg : Str → Option Value} {base : Heap}
theorem ok_names {f : Addr} {fd : FuncData} {k : Nat}
    (F : Fun K "_law_names" "_law_names" s_Lnames f fd) (B : Bl mg)
    (C : Cal P w K mg base k "_law_name" ["_law_rng_here", "_law_used"]
      (spName K)) :
    FnOk P w K mg base CX0 (k + 1) f fd
      ["_law_rng_here", "_law_many", "_law_used"] spNames := by
  refine F.ok sc_Lnames (fun vs H Q E h => ?_)
    (fun cv A outer s H vs Q E hr h => ?_)
  · obtain ⟨p, u, m, us, rfl, _⟩ := h
    rfl
  obtain ⟨p, u, m, us, rfl, rg, hu, nup, hm, hus, q⟩ := h
  have nd := sc_Lnames.nd
  refine ⟨_, pss_cons (ps_set (i := 3) nd rfl (.inl rfl) (pe_lst pa_nil))
    (pss_cons (ps_for PassesOwn.never rfl
      (pi_range1 (by rfl) B.range (pa_cons (pv 1) pa_nil))
      (pg_name (i := 4) nd rfl (.inl rfl))
      (pss_one (ps_expr (pe_bm PySem.F.plainAttrs_list
        PySem.F.slot_list_append PySem.F.type_list_append mt_append (pv 3)
        (pa_cons (pe_cal C hr (pa_cons (pv 0) (pa_cons
          (pe_op op_cat (pv 2) (pv 3)) pa_nil))) pa_nil)))))
    (pss_one (ps_ret (pv 3)))), ?_⟩
  refine ⟨sz (by simp), fun r nr => ?_⟩
  have nrp : r ≠ p := (rg.ne nr).symm
  have nru : u ≠ r := ne_of_none hu nr
  refine ⟨_, rfl, m, rfl, by omega, by omega, ?_⟩
  refine for_range (lo := 0) (n := m) (fun i σ H' => ∃ (ls : List (List Nat))
      (v : Option V), σ = [some (.ref p), some (.int m), some (.ref u),
      some (.ref r), v] ∧ ls.length = i ∧ (∀ l ∈ ls, Nm l) ∧ ls.Nodup ∧
      (∀ l ∈ ls, l ∉ us) ∧ H' r = some (.lst (ls.map vS)) ∧ Rng H' p ∧
      But p H H')
    ⟨[], none, rfl, rfl, nofun, List.nodup_nil, nofun, upd_same,
      rg.same (sameNew nr), (But.refl H).put nr nrp⟩ ?_ ?_
  · rintro i σ H1 hi ⟨ls, v, rfl, hl, nm, nd1, no, h1, rg1, b1⟩
    refine ⟨_, rfl, .inl ⟨rfl, _, SqL.of h1⟩, _, rfl, _, rfl, _, rfl, u, r,
      _, _, rfl, rfl, b1 u _ hu nup, h1, ?_, fun t nt => ?_⟩
    · rw [List.length_map, List.length_map]
      exact sz (by omega)
    have ntp : t ≠ p := (rg1.ne nt).symm
    have ntr : r ≠ t := ne_of_none h1 nt
    refine ⟨p, t, us ++ ls, rfl, rg1.same (sameNew nt), ?_, ntp, ?_,
      fun l H2 nl ni rg2 b2 => ?_⟩
    · rw [List.map_append]
      exact SqL.of upd_same
    · rw [List.length_append]
      omega
    · have h2 : H2 r = some (.lst (ls.map vS)) :=
        b2 r _ (by rw [upd_ne ntr]; exact h1) nrp
      refine ⟨r, _, _, rfl, rfl, h2, ?_, ls ++ [l], _, rfl, ?_, ?_, ?_, ?_, ?_,
        ?_, ?_⟩
      · rw [List.length_map]
        exact sz' (by omega)
      · rw [List.length_append, hl]
        rfl
      · intro x hx
        rcases List.mem_append.mp hx with h | h
        · exact nm x h
        · rw [List.mem_singleton.mp h]
          exact nl
      · refine List.nodup_append.mpr ⟨nd1, by simp, ?_⟩
        intro x hx y hy e
        rw [List.mem_singleton.mp hy] at e
        exact ni (List.mem_append_right _ (e ▸ hx))
      · intro x hx
        rcases List.mem_append.mp hx with h | h
        · exact no x h
        · rw [List.mem_singleton.mp h]
          exact fun z => ni (List.mem_append_left _ z)
      · rw [upd_same, List.map_append]
        rfl
      · exact rg2.but (But.at (p := r) (But.refl H2)) nrp.symm
      · exact ((b1.put nt ntp).trans b2).new nr
  · rintro σ H1 ⟨ls, v, rfl, hl, nm, nd1, no, h1, rg1, b1⟩
    exact ⟨_, rfl, q r ls H1 nr hl nm nd1 no h1 rg1 b1⟩
end
end OM
namespace OM
open PySem PySem.Spec PyProof.Rows L2
theorem lt1 (c d : Nat) : decide (([c] : List Nat) < [d]) = decide (c < d) := by
  by_cases h : c < d
  · rw [decide_eq_true h]
    refine decide_eq_true ?_
    rw [List.cons_lt_cons_iff]
    exact Or.inl h
  · rw [decide_eq_false h]
    refine decide_eq_false fun z => ?_
    rw [List.cons_lt_cons_iff] at z
    rcases z with z | ⟨_, z⟩
    · exact h z
    · exact absurd z (by simp)
def azB (c : Nat) : Bool := decide (97 ≤ c) && decide (c ≤ 122)
theorem all_az (l : List Nat) :
    ((l.map azB).all id) = l.all azB := by
  rw [List.all_map]
  rfl
/-- is it a name: a text, or a value of another type -/
def spIsName (K : PySem.W.Frag) : Sp := fun vs H Q _ => ∃ v, vs = [v] ∧
  ((∃ x : Str, v = .str x ∧ x.length ≤ sizeLine ∧ ∀ H', Same H H' →
      Q (.bl (nmB x.cps.toList)) H') ∨
   (∃ t, TyX K H v t ∧ PySem.W.kitOne K t (.type "str") = some false ∧
      Q (.bl false) H))
section
variable {P : Program} {w : World} {K : PySem.W.Frag}
  {mg : Str → Option Value} {base : Heap}
theorem ok_isname {f : Addr} {fd : FuncData} {k : Nat}
    (F : Fun K "is_name" "is_name" s_is_name f fd) (B : Bl mg)
    {t8 : Tok} (m8 : mg "MAX_NAME_LENGTH" = some (.int 8 t8)) :
    FnOk P w K mg base CX0 (k + 1) f fd ["value"] (spIsName K) := by
  refine F.ok sc_is_name (fun vs H Q E h => ?_)
    (fun cv A outer s H vs Q E hr h => ?_)
  · obtain ⟨v, rfl, _⟩ := h
    rfl
  obtain ⟨v, rfl, h⟩ := h
  have nd := sc_is_name.nd
  refine ⟨_, pss_cons (ps_if (pt_mid (PW.pt (pw_or (pt_not (pt_val
      (pe_callB call_isi (by rfl) B.isi bt_isi (pa_cons (pv 0) (pa_cons
        (pe_bltn (v := .ty "str") (by rfl) B.str bt_str rfl) pa_nil)))))
      (pw_or1 (pt_not (pt_chain op_le op_le pe_int
        (pe_callB call_len_str (by rfl) B.len PySem.boot_len
          (pa_cons (pv 0) pa_nil))
        (pe_glob (v := .int 8) (by rfl) m8 ⟨_, rfl⟩)))))))
      (pss_one (ps_ret pe_bl)) pss_nil)
    (pss_one (ps_ret (pe_callB (cr_all rfl) (by rfl) B.all bt_all (pa_cons
      (pe_lc (own := [("letter", 1)]) (g := gName 1) (tt := tYes) rfl nd
        (pi_str (pv 0))
        (blkOk_by (N := N_is_name) (sc := defScope s_is_name)
          (by decide +kernel))
        (fun _ _ _ _ _ => pg_name (i := 1) nd rfl (Or.inl rfl))
        (fun _ _ _ _ _ => pts_nil)
        (fun _ _ _ _ _ => pe_mid (pe_chain op_le_str op_le_str pe_str
          (pv 1) pe_str))) pa_nil)))), ?_⟩
  rcases h with ⟨x, rfl, hx, q⟩ | ⟨t, ty, kt, q⟩
  · refine ⟨fun b H' => b = !(decide (1 ≤ x.length) && decide (x.length ≤ 8)) ∧
      H = H', ?_, ?_⟩
    · refine ⟨_, rfl, _, _, _, _, true, rfl, .ty "str", .base (.str x),
        kit_ty (by decide +kernel), _, rfl, iteF ?_⟩
      refine ⟨_, rfl, x, rfl, hx, _, _, rfl, rfl, _, rfl, ite2 (fun c => ?_)
        (fun c => ?_)⟩
      · have c' : (1 : Int) ≤ x.length := of_decide_eq_true c
        refine ⟨_, _, rfl, rfl, _, rfl, ?_, rfl⟩
        rw [decide_eq_true (show 1 ≤ x.length by omega), Bool.true_and]
        congr 1
        exact decide_eq_decide.mpr ⟨fun z => by omega, fun z => by omega⟩
      · refine ⟨_, rfl, ?_, rfl⟩
        rw [decide_eq_false (show ¬ 1 ≤ x.length from fun z =>
          c (decide_eq_true (by omega)))]
        rfl
    · rintro b _ ⟨rfl, rfl⟩
      by_cases c : 1 ≤ x.length ∧ x.length ≤ 8
      · rw [decide_eq_true c.1, decide_eq_true c.2]
        refine iteF ⟨_, rfl, x, rfl, fun D nD => ?_⟩
        refine lc_it walk_str (fun i H' => H' D = some (.lst
          (((x.cps.toList.take i).map azB).map V.bl)) ∧ Same H H')
          ⟨upd_same, sameNew nD⟩ (fun _ _ _ _ => trivial) ?_ ?_
        · rintro i v _ H1 hi ⟨hD, sm⟩ ⟨rfl, c0, hc, rfl⟩
          have hc' : x.cps.toList[i]? = some c0 := by
            rw [Array.getElem?_toList]; exact hc
          refine ⟨rfl, yes ⟨fun v H' => v = .bl (azB c0) ∧ H1 = H', ?_, ?_⟩⟩
          · refine ⟨_, rfl, _, _, rfl, rfl, _, rfl, ite2 (fun z => ?_)
              (fun z => ?_)⟩
            · refine ⟨_, _, rfl, rfl, ?_, rfl⟩
              have z' : ¬ c0 < 97 := by
                rw [show (Str.ofString "a").cps.toList = [97] by
                  decide +kernel, lt1] at z
                simpa using z
              rw [show (Str.ofString "z").cps.toList = [122] by
                decide +kernel, lt1]
              unfold azB
              rw [decide_eq_true (show 97 ≤ c0 by omega), Bool.true_and]
              congr 1
              by_cases y : c0 ≤ 122
              · rw [decide_eq_true y, decide_eq_false (by omega)]
                rfl
              · rw [decide_eq_false y, decide_eq_true (by omega)]
                rfl
            · refine ⟨?_, rfl⟩
              have z' : c0 < 97 := by
                rw [show (Str.ofString "a").cps.toList = [97] by
                  decide +kernel, lt1] at z
                simpa using z
              unfold azB
              rw [decide_eq_false (show ¬ 97 ≤ c0 by omega)]
              rfl
          · rintro v _ ⟨rfl, rfl⟩
            refine ⟨_, hD, ?_, ?_, ?_⟩
            · rw [List.length_map, List.length_map, List.length_take]
              refine sz' ?_
              have : x.length = x.cps.toList.length := TL.len_tl x
              omega
            · rw [upd_same, List.take_add_one, hc', List.map_append,
                List.map_append]
              rfl
            · exact OM.Same.put sm nD
        · rintro H1 ⟨hD, sm⟩
          rw [List.take_of_length_le (by
            rw [Array.length_toList]; exact Nat.le_refl _)] at hD
          refine ⟨D, _, rfl, SqL.of hD, ?_⟩
          rw [all_az]
          have := q H1 sm
          unfold nmB at this
          rw [← TL.len_tl x] at this
          rw [decide_eq_true c.1, decide_eq_true c.2, Bool.true_and,
            Bool.true_and] at this
          exact this
      · have e : (decide (1 ≤ x.length) && decide (x.length ≤ 8)) = false := by
          by_cases c1 : 1 ≤ x.length
          · rw [decide_eq_false (show ¬ x.length ≤ 8 from fun z => c ⟨c1, z⟩)]
            exact Bool.and_false _
          · rw [decide_eq_false c1]
            exact Bool.false_and _
        rw [e]
        refine iteT ?_
        have := q H (Same.refl H)
        unfold nmB at this
        rw [← TL.len_tl x, e, Bool.false_and] at this
        exact this
  · refine ⟨fun b H' => b = true ∧ H = H', ?_, ?_⟩
    · exact ⟨_, rfl, _, _, _, _, false, rfl, .ty "str", ty, kt, _, rfl,
        iteT ⟨rfl, rfl⟩⟩
    · rintro b _ ⟨rfl, rfl⟩
      exact iteT q
end
end OM
namespace OM
open PySem PySem.Spec PyProof.Rows L2
/-- what makes a base -/
structure Good (ls : List (List Nat)) : Prop where
  nm : ∀ l ∈ ls, Nm l
  nd : ls.Nodup
  lo : 1 ≤ ls.length
  hi : ls.length ≤ 40
theorem Nm.len {l : List Nat} (n : Nm l) : (SX.S l).length ≤ sizeLine := by
  rw [SX.S_len]
  have := n.hi
  exact sz (by omega)
theorem Nm.b {l : List Nat} (n : Nm l) : nmB (SX.S l).cps.toList = true :=
  nmB_iff.mpr n
theorem get_map {ls : List (List Nat)} {i : Nat} {v : V}
    (h : (ls.map vS)[i]? = some v) : ∃ l, ls[i]? = some l ∧ v = vS l := by
  rw [List.getElem?_map] at h
  cases e : ls[i]? with
  | none => rw [e] at h; cases h
  | some l => rw [e] at h; exact ⟨l, rfl, (Option.some.inj h).symm⟩
theorem nodup_take {α : Type} {ls : List α} {i : Nat} {l : α}
    (nd : ls.Nodup) (h : ls[i]? = some l) : l ∉ ls.take i := by
  intro hm
  obtain ⟨j, hj, e⟩ := List.getElem_of_mem hm
  rw [List.length_take] at hj
  rw [List.getElem_take] at e
  obtain ⟨hi, e2⟩ := List.getElem?_eq_some_iff.mp h
  have := (List.getElem_inj nd).mp (e.trans e2.symm)
  omega
def spCheckOk : Sp := fun vs H Q _ => ∃ (a : Addr) (ls : List (List Nat)),
  vs = [.ref a] ∧ H a = some (.lst (ls.map vS)) ∧ Good ls ∧
  ∀ H', Same H H' → Q .non H'
def spNFaultOk : Sp := fun vs H Q _ => ∃ (a : Addr) (ls : List (List Nat)),
  vs = [.ref a, .int 40] ∧ H a = some (.lst (ls.map vS)) ∧ Good ls ∧
  ∀ H', Same H H' → Q .non H'
section
variable {P : Program} {w : World} {K : PySem.W.Frag}
  {mg : Str → Option Value} {base : Heap}
abbrev CalIsName (P : Program) (w : World) (K : PySem.W.Frag)
    (mg : Str → Option Value) (base : Heap) (k : Nat) : Prop :=
  Cal P w K mg base k "is_name" ["value"] (spIsName K)
theorem ok_nfault {f : Addr} {fd : FuncData} {k : Nat}
    (F : Fun K "names_fault" "names_fault" s_names_fault f fd) (B : Bl mg)
    (C : CalIsName P w K mg base k) :
    FnOk P w K mg base CX0 (k + 1) f fd ["value", "most"] spNFaultOk := by
  refine F.ok sc_names_fault (fun vs H Q E h => ?_)
    (fun cv A outer s H vs Q E hr h => ?_)
  · obtain ⟨a, ls, rfl, _⟩ := h
    rfl
  obtain ⟨a, ls, rfl, ha, gd, q⟩ := h
  have nd := sc_names_fault.nd
  refine ⟨_, pss_cons (ps_if (pt_not (pt_val
      (pe_callB call_isi (by rfl) B.isi bt_isi (pa_cons (pv 0) (pa_cons
        (pe_bltn (v := .ty "list") (by rfl) B.list bt_list rfl) pa_nil)))))
      (pss_one ps_never) pss_nil)
    (pss_cons (ps_set (i := 2) nd rfl (.inl rfl)
      (pe_callTy0 cr_set0K (by rfl) B.set bt_set))
    (pss_cons (ps_for PassesOwn.never rfl
      (pi_enum (by rfl) B.enum (pa_cons (pv 0) pa_nil))
      (pg_tup rfl (pgs_cons (pg_name (i := 3) nd rfl (.inl rfl))
        (pgs_cons (pg_name (i := 4) nd rfl (.inl rfl)) pgs_nil)))
      (pss_cons (ps_if (pt_not (pt_val (pe_cal C hr (pa_cons (pv 4) pa_nil))))
        (pss_one ps_never) pss_nil)
      (pss_cons (ps_if (pt_cmpR or_sinK (pv 4) (pv 2) (by rfl))
        (pss_one ps_never) pss_nil)
      (pss_one (ps_expr (pe_saddK (pv 2) (pa_cons (pv 4) pa_nil)))))))
    (pss_cons (ps_if (pt_not (pt_chain op_le op_le pe_int
        (pe_callB call_len_seq (by rfl) B.len PySem.boot_len
          (pa_cons (pv 0) pa_nil)) (pv 1)))
      (pss_one ps_never) pss_nil)
    (pss_one (ps_ret pe_non))))), ?_⟩
  refine ⟨_, rfl, _, _, _, _, true, rfl, .ty "list", .base (.lst ha),
    kit_ty (by decide +kernel), _, rfl, iteF ?_⟩
  refine ⟨rfl, fun sn nsn => ?_⟩
  have nas : a ≠ sn := ne_of_none ha nsn
  have ha1 : (upd H sn (SetK P w sn (fun _ => false) 0)) a =
      some (.lst (ls.map vS)) := by rw [upd_ne nas]; exact ha
  refine ⟨_, rfl, a, _, rfl, SqL.of ha1, ?_⟩
  refine for_it (walk_enum (K := K) (a := a) (xs := ls.map vS))
    (fun i σ H' => ∃ (S : Key → Bool) (n : Nat) (y z : Option V),
      σ = [some (.ref a), some (.int 40), some (.ref sn), y, z] ∧ n ≤ i ∧
      (∀ l, S (Sum.inr (SX.S l)) = decide (l ∈ ls.take i)) ∧
      H' sn = some (SetK P w sn S n) ∧ H' a = some (.lst (ls.map vS)) ∧
      Same H H')
    ⟨fun _ => false, 0, none, none, rfl, Nat.le_refl _, fun l => by simp,
      upd_same, ha1, sameNew nsn⟩
    (fun i σ H' _ z => by obtain ⟨_, _, _, _, _, _, _, _, h, _⟩ := z; exact SqL.of h)
    ?_ ?_
  · rintro i v σ H1 H2 hi ⟨S, n, y, z, rfl, hn, hS, hs, ha2, sm⟩
      ⟨T, x1, x2, rfl, nT, rfl, e1, e2⟩
    obtain ⟨l, hl, rfl⟩ := get_map e2
    cases Option.some.inj e1
    rw [List.length_map] at hi
    have nl : Nm l := gd.nm l (List.mem_of_getElem? hl)
    have nTs : sn ≠ T := ne_of_none hs nT
    have nTa : a ≠ T := ne_of_none ha2 nT
    have sm1 : Same H (upd H1 T (.tup [.int (i : Nat), vS l])) :=
      sm.trans (sameNew nT)
    have nin : l ∉ ls.take i := nodup_take gd.nd hl
    refine ⟨T, _, rfl, .inl (.inl upd_same), rfl, _, _, rfl, _, _, rfl, rfl,
      ?_⟩
    refine ⟨_, rfl, _, rfl, .inl ⟨_, rfl, nl.len, fun H3 sm3 => ?_⟩⟩
    rw [nl.b]
    have hs3 : H3 sn = some (SetK P w sn S n) :=
      sm3 _ _ (by rw [upd_ne nTs]; exact hs)
    have ha3 : H3 a = some (.lst (ls.map vS)) :=
      sm3 _ _ (by rw [upd_ne nTa]; exact ha2)
    refine ⟨_, rfl, iteF ?_⟩
    refine ⟨_, rfl, _, rfl, Sum.inr (SX.S l), sn, S, n, rfl, rfl, hs3, _, rfl,
      ?_⟩
    have sf : S (Sum.inr (SX.S l)) = false := by
      rw [hS]; exact decide_eq_false nin
    rw [sf]
    refine iteF ?_
    refine ⟨_, rfl, ⟨sn, S, n, rfl, hs3⟩, _, rfl, sn, Sum.inr (SX.S l), S, n,
      rfl, rfl, hs3, ?_, ?_⟩
    · have := gd.hi
      show n + 1 < 4096
      omega
    refine ⟨_, _, _, _, rfl, ?_, ?_, upd_same, ?_, ?_⟩
    · rw [sf]
      show n + 1 ≤ i + 1
      omega
    · intro l'
      show (S (Sum.inr (SX.S l')) || decide ((Sum.inr (SX.S l') : Key) =
        Sum.inr (SX.S l))) = _
      rw [hS, List.take_add_one, hl]
      by_cases e : l' = l
      · subst e
        simp
      · have : ¬ ((Sum.inr (SX.S l') : Key) = Sum.inr (SX.S l)) :=
          fun z => e (SX.S_inj (Sum.inr.inj z))
        rw [decide_eq_false this, Bool.or_false]
        refine decide_eq_decide.mpr ?_
        rw [List.mem_append]
        constructor
        · exact Or.inl
        · rintro (z | z)
          · exact z
          · exact absurd (by simpa using z) e
    · rw [upd_ne nas]
      exact ha3
    · exact OM.Same.put (sm1.trans sm3) nsn
  · rintro σ H1 ⟨S, n, y, z, rfl, hn, hS, hs, ha2, sm⟩
    have h1 := gd.lo
    have h2 := gd.hi
    refine ⟨_, rfl, a, _, rfl, .inl (SqL.of ha2), _, _, rfl, rfl, _, rfl, ?_⟩
    rw [List.length_map, decide_eq_true (show (1 : Int) ≤ ls.length by omega)]
    refine iteT ⟨_, rfl, _, _, rfl, rfl, _, rfl, ?_⟩
    rw [decide_eq_true (show (ls.length : Int) ≤ 40 by omega)]
    exact iteF (q H1 sm)
theorem ok_check {f : Addr} {fd : FuncData} {k : Nat}
    (F : Fun K "check_items" "check_items" s_check_items f fd)
    (Cf : Cal P w K mg base k "names_fault" ["value", "most"] spNFaultOk)
    {t40 : Tok} (m40 : mg "MAX_ITEMS" = some (.int 40 t40)) :
    FnOk P w K mg base CX0 (k + 1) f fd ["items"] spCheckOk := by
  refine F.ok sc_check_items (fun vs H Q E h => ?_)
    (fun cv A outer s H vs Q E hr h => ?_)
  · obtain ⟨a, ls, rfl, _⟩ := h
    rfl
  obtain ⟨a, ls, rfl, ha, gd, q⟩ := h
  have nd := sc_check_items.nd
  refine ⟨_, pss_cons (ps_set (i := 1) nd rfl (.inl rfl)
      (pe_cal Cf hr (pa_cons (pv 0) (pa_cons
        (pe_glob (v := .int 40) (by rfl) m40 ⟨_, rfl⟩) pa_nil))))
    (pss_one (ps_if (pt_cmpR op_notN (pv 1) pe_non (nomark _))
      (pss_cons ps_never (pss_one ps_never)) pss_nil)), ?_⟩
  exact ⟨_, rfl, a, ls, rfl, ha, gd, fun H1 s1 =>
    ⟨_, rfl, rfl, _, rfl, iteF (q H1 s1)⟩⟩
end
end OM
namespace OM
open PySem PySem.Spec PyProof.Rows L2
abbrev dN (ls : List (List Nat)) : List PyData := ls.map fun l => .str (SX.S l)
theorem dpAll_N {K : PySem.W.Frag} {H : Hp} : ∀ ls : List (List Nat),
    DpAll K H (ls.map vS) (dN ls)
  | [] => .nil
  | l :: r => .cons (.str _) (dpAll_N r)
theorem dp_N {K : PySem.W.Frag} {H : Hp} {a : Addr} {ls : List (List Nat)}
    (h : SqL K H a (ls.map vS)) : Dp K H (.ref a) (.list (dN ls)) :=
  .lst h (dpAll_N ls)
theorem eqv_N : ∀ ls ms : List (List Nat),
    PyData.eqvAll (dN ls) (dN ms) = decide (ls = ms)
  | [], [] => by simp [PyData.eqvAll]
  | [], m :: ms => by simp [PyData.eqvAll]
  | l :: ls, [] => by simp [PyData.eqvAll]
  | l :: ls, m :: ms => by
    have ih := eqv_N ls ms
    show (PyData.eqv (.str (SX.S l)) (.str (SX.S m)) &&
      PyData.eqvAll (dN ls) (dN ms)) = _
    rw [ih]
    unfold PyData.eqv
    rw [SX.S_beq_eq]
    by_cases e : l = m
    · subst e
      simp
    · have : ¬ (l :: ls = m :: ms) := fun z => e (List.cons.inj z).1
      rw [decide_eq_false e, decide_eq_false this]
      rfl
theorem eqv_L (ls ms : List (List Nat)) :
    PyData.eqv (.list (dN ls)) (.list (dN ms)) = decide (ls = ms) := by
  rw [show PyData.eqv (.list (dN ls)) (.list (dN ms)) =
    PyData.eqvAll (dN ls) (dN ms) by simp only [PyData.eqv]]
  exact eqv_N ls ms
/-- texts of Unicode's codes -/
def Uni (ls : List (List Nat)) : Prop := ∀ l ∈ ls, ∀ c ∈ l, c < 1114112
theorem lay_N : ∀ ls : List (List Nat), Uni ls →
    PyData.canLayAll0 (dN ls) = true
  | [], _ => by simp [PyData.canLayAll0]
  | l :: ls, h => by
    have ih := lay_N ls fun x hx => h x (List.mem_cons_of_mem _ hx)
    have ok : PyData.strOk (SX.S l) = true := by
      unfold PyData.strOk
      rw [Array.all_eq_true]
      intro i hi
      have := h l List.mem_cons_self l.toArray[i] (by simp)
      exact decide_eq_true this
    show PyData.canLayAll0 (.str (SX.S l) :: dN ls) = true
    simp only [PyData.canLayAll0, PyData.canLay0, ih, ok, Bool.and_self]
theorem depth_N : ∀ ls : List (List Nat), PyData.depthAll (dN ls) ≤ 1
  | [] => by simp [PyData.depthAll]
  | l :: ls => by
    have ih := depth_N ls
    show PyData.depthAll (.str (SX.S l) :: dN ls) ≤ 1
    simp only [PyData.depthAll, PyData.depth]
    omega
theorem depth_L (ls : List (List Nat)) : (PyData.list (dN ls)).depth ≤ 2 := by
  simp only [PyData.depth]
  have := depth_N ls
  omega
theorem shaped_L {ls : List (List Nat)} (h : Uni ls) :
    SeqAt.shaped (.list (dN ls)) = true := by
  unfold SeqAt.shaped
  rw [show PyData.canLay0 (.list (dN ls)) = PyData.canLayAll0 (dN ls) by
    simp only [PyData.canLay0], lay_N ls h]
  have := depth_L ls
  exact decide_eq_true (by omega)
theorem showable_N : ∀ ls : List (List Nat), PyData.showableAll (dN ls) = true
  | [] => by simp [PyData.showableAll]
  | l :: ls => by
    have ih := showable_N ls
    show PyData.showableAll (.str (SX.S l) :: dN ls) = true
    simp only [PyData.showableAll, PyData.showable, ih, Bool.and_self]
theorem showable_L (ls : List (List Nat)) :
    (PyData.list (dN ls)).showable = true := by
  simp only [PyData.showable]
  exact showable_N ls
/-- short lists of short texts are shown shortly -/
theorem piled_N : ∀ (ls : List (List Nat)) (m : Nat),
    (∀ l ∈ ls, l.length ≤ m ∧ ∀ c ∈ l, c < 1114112) →
    piled (PyData.shownAll (dN ls)) ≤ ls.length * (10 * m + 4)
  | [], _, _ => by
    show piled (PyData.shownAll []) ≤ _
    simp only [PyData.shownAll]
    exact Nat.zero_le _
  | l :: ls, m, h => by
    have ih := piled_N ls m fun x hx => h x (List.mem_cons_of_mem _ hx)
    obtain ⟨h1, h2⟩ := h l List.mem_cons_self
    have h3 := StrLaws.reprText_len (SX.S l) (fun c hc => Nat.lt_of_lt_of_le
      (h2 c hc) (by decide))
    have h4 : (SX.S l).length = l.length := SX.S_len l
    have h5 : (reprText (SX.S l)).length ≤ 10 * m + 2 := by
      refine Nat.le_trans h3 ?_
      rw [h4]
      omega
    show piled (PyData.shownAll (.str (SX.S l) :: dN ls)) ≤ _
    simp only [PyData.shownAll, PyData.shown]
    rw [piled_cons, List.length_cons, Nat.add_mul]
    omega
theorem shown_L {ls : List (List Nat)} {m : Nat} (hn : ls.length ≤ 1000)
    (hm : m ≤ 1000) (h : ∀ l ∈ ls, l.length ≤ m ∧ ∀ c ∈ l, c < 1114112) :
    (PyData.list (dN ls)).shown.length ≤ sizeLine := by
  have p := piled_N ls m h
  have e : (PyData.list (dN ls)).shown =
      listText (PyData.shownAll (dN ls)) := by simp only [PyData.shown]
  rw [e]
  have q := listText_len_le (PyData.shownAll (dN ls))
  have r : ((PyData.shownAll (dN ls)).map (·.length)).sum +
      2 * (PyData.shownAll (dN ls)).length =
      piled (PyData.shownAll (dN ls)) := by
    generalize PyData.shownAll (dN ls) = ts
    induction ts with
    | nil => rfl
    | cons t ts ih =>
      rw [piled_cons, List.map_cons, List.sum_cons, List.length_cons]
      omega
  have s : ls.length * (10 * m + 4) ≤ 1000 * 10004 :=
    Nat.mul_le_mul hn (by omega)
  refine Nat.le_trans (show _ ≤ 10004003 by omega) (by decide)
end OM
namespace OM
open PySem PySem.Spec PyProof.Rows L2
/-! ### what a base holds -/
def prs : Nat → List (List Nat) → List (Key × V)
  | _, [] => []
  | n, l :: r => (Sum.inr (SX.S l), .int (n : Int)) :: prs (n + 1) r
theorem prs_len : ∀ (n : Nat) (ls : List (List Nat)),
    (prs n ls).length = ls.length
  | _, [] => rfl
  | n, _ :: r => congrArg (· + 1) (prs_len (n + 1) r)
theorem prs_snoc : ∀ (n : Nat) (ls : List (List Nat)) (l : List Nat),
    prs n (ls ++ [l]) =
      prs n ls ++ [(Sum.inr (SX.S l), .int ((n + ls.length : Nat) : Int))]
  | n, [], l => rfl
  | n, x :: r, l => by
    have ih := prs_snoc (n + 1) r l
    show (Sum.inr (SX.S x), V.int (n : Int)) :: prs (n + 1) (r ++ [l]) = _
    rw [ih, List.length_cons, show n + 1 + r.length = n + (r.length + 1) by
      omega]
    rfl
theorem val_prs (l : List Nat) : ∀ (n : Nat) (ls : List (List Nat)),
    valV (prs n ls) (Sum.inr (SX.S l) : Key) =
      if l ∈ ls then some (.int ((n + ls.idxOf l : Nat) : Int)) else none
  | n, [] => rfl
  | n, x :: r => by
    have ih := val_prs l (n + 1) r
    by_cases e : x = l
    · subst e
      rw [if_pos List.mem_cons_self, List.idxOf_cons_self]
      show Option.map _ (List.find? _ ((Sum.inr (SX.S x), _) :: _)) = _
      rw [List.find?_cons_of_pos (by simp)]
      rfl
    · have ne : ¬ ((Sum.inr (SX.S x) : Key) = Sum.inr (SX.S l)) :=
        fun z => e (SX.S_inj (Sum.inr.inj z))
      have hv : valV (prs n (x :: r)) (Sum.inr (SX.S l) : Key) =
          valV (prs (n + 1) r) (Sum.inr (SX.S l)) := by
        show Option.map _ (List.find? _ ((Sum.inr (SX.S x), _) :: _)) = _
        rw [List.find?_cons_of_neg (by simpa using ne)]
        rfl
      rw [hv, ih]
      by_cases m : l ∈ r
      · rw [if_pos m, if_pos (List.mem_cons_of_mem _ m),
          List.idxOf_cons, show (x == l) = false from
            beq_eq_false_iff_ne.mpr e]
        show some (V.int ((n + 1 + r.idxOf l : Nat) : Int)) =
          some (V.int ((n + (r.idxOf l + 1) : Nat) : Int))
        rw [show n + 1 + r.idxOf l = n + (r.idxOf l + 1) by omega]
      · rw [if_neg m, if_neg fun z => ?_]
        rcases List.mem_cons.mp z with z | z
        · exact e z.symm
        · exact m z
/-- the attributes -/
def bf (lo d : Addr) : List (Str × V) :=
  putF "places" (.ref d) (putF "listed" (.ref lo) [])
theorem ne_pl : ¬ (("listed" : Str) = "places") := by decide +kernel
theorem bf_listed (lo d : Addr) :
    (bf lo d).lookup ("listed" : Str) = some (.ref lo) := by
  unfold bf
  rw [lookup_putF, if_neg ne_pl, lookup_putF, if_pos rfl]
theorem bf_places (lo d : Addr) :
    (bf lo d).lookup ("places" : Str) = some (.ref d) := by
  unfold bf
  rw [lookup_putF, if_pos rfl]
theorem bf_no (lo d : Addr) {m : Str} (h1 : ¬ m = "places")
    (h2 : ¬ m = "listed") : (bf lo d).lookup m = none := by
  unfold bf
  rw [lookup_putF, if_neg h1, lookup_putF, if_neg h2]
  rfl
structure BaseAt (C : Addr) (H : Hp) (b : Addr) (ls : List (List Nat)) :
    Prop where
  ob : ∃ dx lo d, H b = some (.ins C dx (bf lo d)) ∧
    H lo = some (.lst (ls.map vS)) ∧ H d = some (.dK (prs 0 ls))
theorem BaseAt.same {C b : Addr} {H H' : Hp} {ls : List (List Nat)}
    (x : BaseAt C H b ls) (s : Same H H') : BaseAt C H' b ls := by
  obtain ⟨dx, lo, d, h1, h2, h3⟩ := x.ob
  exact ⟨dx, lo, d, s _ _ h1, s _ _ h2, s _ _ h3⟩
theorem neRng {H : Hp} {p q : Addr} {ls : List (List Nat)} (r : Rng H p)
    (h : H q = some (.lst (ls.map vS))) : q ≠ p := by
  obtain ⟨a, b, e, _⟩ := r
  refine ne_of h e fun z => ?_
  have z' := HO.lst.inj z
  cases ls with
  | nil => cases z'
  | cons l r =>
    rw [List.map_cons] at z'
    cases (List.cons.inj z').1
theorem BaseAt.but {C b p : Addr} {H H' : Hp} {ls : List (List Nat)}
    (x : BaseAt C H b ls) (r : Rng H p) (s : But p H H') :
    BaseAt C H' b ls := by
  obtain ⟨dx, lo, d, h1, h2, h3⟩ := x.ob
  have n2 := neRng r h2
  obtain ⟨i, j, e, _⟩ := r
  exact ⟨dx, lo, d, s _ _ h1 (ne_of h1 e nofun), s _ _ h2 n2,
    s _ _ h3 (ne_of h3 e nofun)⟩
theorem BaseAt.ne {C b p : Addr} {H : Hp} {ls : List (List Nat)}
    (x : BaseAt C H b ls) (n : H p = none) : b ≠ p := by
  obtain ⟨dx, lo, d, h1, h2, h3⟩ := x.ob
  exact ne_of_none h1 n
structure BC (K : PySem.W.Frag) (mg : Str → Option Value) (C : Addr) :
    Prop where
  ic : C8.InsC K C
  nL : NoAttr K C "listed"
  nP : NoAttr K C "places"
  mgC : mg "Base" = some (.ref C)
  kC : PySem.W.keepIn K (.ref C) = true
theorem BC.cl {K : PySem.W.Frag} {mg : Str → Option Value} {C : Addr}
    (x : BC K mg C) : Cls K C := x.ic.cl
/-- Base(items), the items being right -/
def spInitOk (C : Addr) : Sp := fun vs H Q _ =>
  ∃ (b a dx : Addr) (ls : List (List Nat)), vs = [.ref b, .ref a] ∧
  H b = some (.ins C dx []) ∧ H a = some (.lst (ls.map vS)) ∧ Good ls ∧
  ∀ H', BaseAt C H' b ls → But b H H' → Q .non H'
/-- a walk of a dict comprehension -/
theorem dc_walk {J : It} {n : Nat} {G : Hp → Prop}
    {Y : Nat → Hp → V → Hp → Prop} (wk : Walk J n G Y) {g : TG} {tt : TT}
    {tk tv : TE} {vs : List Nat} {σ : L2.St} {H1 : Hp} {D : Addr}
    {Qd : Hp → Prop} (Pv : Nat → Hp → Prop)
    (h0 : Pv 0 (upd H1 D (.dK []))) (hG : ∀ i H, i ≤ n → Pv i H → G H)
    (hs : ∀ i x H H', i < n → Pv i H → Y i H x H' →
      g x (wipe σ vs) H' fun σ2 H2 => wipe σ2 vs = wipe σ vs ∧
        tt σ2 H2 fun b H3 => if b = true then tk σ2 H3 fun y H4 =>
          tv σ2 H4 fun z H5 => ∃ kvs k, y = kV k ∧ H5 D = some (.dK kvs) ∧
            kvs.length < sizeLine ∧ Pv (i + 1) (upd H5 D (.dK (putK kvs k z)))
          else Pv (i + 1) H3)
    (hd : ∀ H, Pv n H → Qd H) :
    ∃ W : Nat → Nat → Hp → Prop, (∃ m, W 0 m (upd H1 D (.dK []))) ∧
      ∀ i m H, W i m H → (J.stop i H ∧ Qd H) ∨ (J.go i H ∧
        ∃ Nx : Hp → Prop, (∀ H', Nx H' → ∃ m', m' < m ∧ W (i + 1) m' H') ∧
        ∀ x H', J.yld i H x H' → g x (wipe σ vs) H' fun σ2 H2 =>
          wipe σ2 vs = wipe σ vs ∧ tt σ2 H2 fun b H3 => if b = true then
            tk σ2 H3 fun y H4 => tv σ2 H4 fun z H5 => ∃ kvs k, y = kV k ∧
              H5 D = some (.dK kvs) ∧ kvs.length < sizeLine ∧
              Nx (upd H5 D (.dK (putK kvs k z))) else Nx H3) := by
  refine ⟨fun i m H => m + i = n ∧ Pv i H, ⟨n, rfl, h0⟩, ?_⟩
  rintro i m H ⟨e, p⟩
  have q := hG i H (by omega) p
  rcases Nat.lt_or_ge i n with lt | ge
  · exact .inr ⟨wk.goes i H lt q, Pv (i + 1),
      fun H' p' => ⟨m - 1, by omega, by omega, p'⟩,
      fun x H' y => hs i x H H' lt p (wk.yields i H x H' lt q y)⟩
  · have e' : i = n := by omega
    subst e'
    exact .inl ⟨wk.stops H q, hd H p⟩
section
variable {P : Program} {w : World} {K : PySem.W.Frag}
  {mg : Str → Option Value} {base : Heap} {C : Addr}
theorem ok_init {f : Addr} {fd : FuncData} {k : Nat}
    (F : Fun K "__init__" "Base.__init__" s_Base_init f fd) (B : Bl mg)
    (T : BC K mg C)
    (Ck : Cal P w K mg base k "check_items" ["items"] spCheckOk) :
    FnOk P w K mg base CX0 (k + 1) f fd ["self", "items"] (spInitOk C) := by
  refine F.ok sc_Base_init (fun vs H Q E h => ?_)
    (fun cv A outer s H vs Q E hr h => ?_)
  · obtain ⟨b, a, dx, ls, rfl, _⟩ := h
    rfl
  obtain ⟨b, a, dx, ls, rfl, hb, ha, gd, q⟩ := h
  have nd := sc_Base_init.nd
  refine ⟨_, pss_cons (ps_expr (pe_cal Ck hr (pa_cons (pv 1) pa_nil)))
    (pss_cons (ps_fld (pv 0) (pe_callTy call_list_of (by rfl) B.list bt_list
      (pa_cons (pv 1) pa_nil)) rfl)
    (pss_one (ps_fld (pv 0)
      (pe_dc (own := [("name", 2), ("at", 3)])
        (g := gTup K 2 (gCons (gName 3) (gCons (gName 2) gNil)))
        (tt := tYes) rfl nd
        (pi_enum (by rfl) B.enum (pa_cons (pv 1) pa_nil))
        (blkOk_by (N := N_Base_init) (sc := defScope s_Base_init)
          (by decide +kernel))
        (fun _ _ _ _ _ => pg_tup rfl (pgs_cons (pg_name (i := 3) nd rfl
          (Or.inl rfl)) (pgs_cons (pg_name (i := 2) nd rfl (Or.inl rfl))
          pgs_nil)))
        (fun _ _ _ _ _ => pts_nil) (fun _ _ _ _ _ => pv 2)
        (fun _ _ _ _ _ => pv 3)) rfl))), ?_⟩
  refine ⟨_, rfl, a, ls, rfl, ha, gd, fun H1 s1 => ?_⟩
  have nba : b ≠ a := ne_of hb ha nofun
  have hb1 := s1 _ _ hb
  have ha1 := s1 _ _ ha
  refine ⟨_, rfl, a, _, rfl, .inl (SqL.of ha1), fun lo nlo => ?_⟩
  have nbl : b ≠ lo := ne_of_none hb1 nlo
  have nal : a ≠ lo := ne_of_none ha1 nlo
  refine ⟨_, rfl, b, C, dx, [], rfl, by rw [upd_ne nbl]; exact hb1, T.cl, T.nL,
    by decide, ?_⟩
  generalize eH2 : upd (upd H1 lo (.lst (ls.map vS))) b
    (.ins C dx (putF "listed" (.ref lo) [])) = H2
  have hb2 : H2 b = some (.ins C dx (putF "listed" (.ref lo) [])) := by
    rw [← eH2]; exact upd_same
  have ha2 : H2 a = some (.lst (ls.map vS)) := by
    rw [← eH2, upd_ne nba.symm, upd_ne nal]; exact ha1
  have hl2 : H2 lo = some (.lst (ls.map vS)) := by
    rw [← eH2, upd_ne nbl.symm, upd_same]
  have b2 : But b H H2 := by
    rw [← eH2]
    exact ((But.of s1).new (s1.free nlo)).at
  refine ⟨_, rfl, a, _, rfl, SqL.of ha2, fun d nd' => ?_⟩
  have ndb : b ≠ d := ne_of_none hb2 nd'
  have nda : a ≠ d := ne_of_none ha2 nd'
  have ndl : lo ≠ d := ne_of_none hl2 nd'
  refine dc_walk (walk_enum (K := K) (a := a) (xs := ls.map vS))
    (fun i H' => H' d = some (.dK (prs 0 (ls.take i))) ∧
      H' b = some (.ins C dx (putF "listed" (.ref lo) [])) ∧
      H' a = some (.lst (ls.map vS)) ∧ H' lo = some (.lst (ls.map vS)) ∧
      But b H H')
    ⟨upd_same, by rw [upd_ne ndb]; exact hb2, by rw [upd_ne nda]; exact ha2,
      by rw [upd_ne ndl]; exact hl2, b2.put nd' ndb.symm⟩
    (fun i H' _ z => SqL.of z.2.2.1) ?_ ?_
  · rintro i v H3 H4 hi ⟨hd, h1, h2, h3, b3⟩ ⟨T', x1, x2, rfl, nT, rfl, e1, e2⟩
    obtain ⟨l, hl, rfl⟩ := get_map e2
    cases Option.some.inj e1
    rw [List.length_map] at hi
    have hhi := gd.hi
    refine ⟨T', _, rfl, .inl (.inl upd_same), rfl, _, _, rfl, _, _, rfl, rfl,
      rfl, yes ⟨_, rfl, _, rfl, prs 0 (ls.take i), Sum.inr (SX.S l), rfl, ?_, ?_,
      ?_, ?_, ?_, ?_, ?_⟩⟩
    · rw [upd_ne (ne_of_none hd nT)]
      exact hd
    · rw [prs_len, List.length_take]
      exact sz' (by omega)
    · rw [upd_same, putK_new _ (by
        rw [val_prs, if_neg (nodup_take gd.nd hl)]),
        List.take_add_one, hl]
      show _ = some (HO.dK (prs 0 (ls.take i ++ [l])))
      rw [prs_snoc, List.length_take, Nat.min_eq_left (by omega),
        Nat.zero_add]
    · rw [upd_ne ndb, upd_ne (ne_of_none h1 nT)]
      exact h1
    · rw [upd_ne nda, upd_ne (ne_of_none h2 nT)]
      exact h2
    · rw [upd_ne ndl, upd_ne (ne_of_none h3 nT)]
      exact h3
    · exact (b3.put nT (ne_of_none h1 nT).symm).new (b2.free ndb.symm nd')
  · rintro H3 ⟨hd, h1, h2, h3, b3⟩
    rw [List.take_of_length_le (by rw [List.length_map]; exact Nat.le_refl _)]
      at hd
    refine ⟨_, rfl, b, C, dx, _, rfl, h1, T.cl, T.nP,
      by show 1 < 1000; decide, ?_⟩
    refine q _ ⟨dx, lo, d, upd_same, ?_, ?_⟩ b3.at
    · rw [upd_ne nbl.symm]
      exact h3
    · rw [upd_ne ndb.symm]
      exact hd
end
end OM
namespace OM
open PySem PySem.Spec PyProof.Rows L2
/-! ### a method, in one word -/
structure CalM (P : Program) (w : World) (K : PySem.W.Frag)
    (mg : Str → Option Value) (base : Heap) (C : Addr) (k : Nat) (x : Str)
    (ps : List Str) (sp : Sp) : Prop where
  cl : Cls K C
  ex : ∃ f fd, FnOk P w K mg base CX0 k f fd ps sp ∧ Meth K C x f ∧
    Binds K fd ps []
section
variable {X : Cx} {k : Nat} {ps : List Str} {sp : Sp} {x : Str} {C : Addr}
  {p pos : Pos} {o e : Expr} {es : List Expr} {t : TA} {to : TE}
theorem pe_calM {pl : Sem Bool} (M : CalM X.prog X.w X.K X.mg X.base C k x ps sp)
    (room : Room k X.A) (ho : PE X o to) (ha : PA X (e :: es) t)
    (h1 : starEach (e :: es) X.env =
      (false, eval e X.env) :: starEach es X.env := by rfl)
    (h2 : (backTo pos (starEach es X.env)).any (·.1) = false := by rfl)
    (h3 : eval (.Call (.Attribute o x p) (e :: es) [] pos) X.env = (do
      let ov ← eval o X.env
      standAt p.atName
      let (f, first) ← holding [ov] (getMethod ov x pl)
      callWith pos f first (backTo pos (starEach (e :: es) X.env))
        (backToKw pos (keywordEach [] X.env))) := by rfl) :
    PE X (.Call (.Attribute o x p) (e :: es) [] pos)
      (tMeth C x sp [] E0 to t) := by
  obtain ⟨f, fd, F, m, b⟩ := M.ex
  exact pe_meth (pl := pl) ho M.cl m F room b .nil pass0 ha h1 h2 h3
theorem pe_calM0 {pl : Sem Bool} (M : CalM X.prog X.w X.K X.mg X.base C k x ps sp)
    (room : Room k X.A) (ho : PE X o to)
    (h3 : eval (.Call (.Attribute o x p) [] [] pos) X.env = (do
      let ov ← eval o X.env
      standAt p.atName
      let (f, first) ← holding [ov] (getMethod ov x pl)
      callWith pos f first (backTo pos (starEach [] X.env))
        (backToKw pos (keywordEach [] X.env))) := by rfl) :
    PE X (.Call (.Attribute o x p) [] [] pos)
      (tMeth C x sp [] E0 to tNil) := by
  obtain ⟨f, fd, F, m, b⟩ := M.ex
  exact pe_meth0 (pl := pl) ho M.cl m F room b .nil pass0 h3
end
def spGetNames (C : Addr) : Sp := fun vs H Q _ =>
  ∃ (b : Addr) (ls : List (List Nat)), vs = [.ref b] ∧ BaseAt C H b ls ∧
  ∀ q H', H q = none → H' q = some (.lst (ls.map vS)) → Same H H' →
    Q (.ref q) H'
def spLenB (C : Addr) : Sp := fun vs H Q _ =>
  ∃ (b : Addr) (ls : List (List Nat)), vs = [.ref b] ∧ BaseAt C H b ls ∧
  Q (.int ls.length) H
/-- == of two bases -/
def spEqB (C : Addr) : Sp := fun vs H Q _ =>
  ∃ (b o : Addr) (ls ms : List (List Nat)), vs = [.ref b, .ref o] ∧
  BaseAt C H b ls ∧ BaseAt C H o ms ∧ Uni ls ∧ Uni ms ∧
  Q (.bl (decide (ls = ms))) H
def baseText (ls : List (List Nat)) : Str :=
  Str.empty ++ Str.ofString "Base(" ++ (PyData.list (dN ls)).shown ++
    Str.ofString ")"
/-- repr of a base -/
def spReprB (C : Addr) : Sp := fun vs H Q _ =>
  ∃ (b : Addr) (ls : List (List Nat)), vs = [.ref b] ∧ BaseAt C H b ls ∧
  Good ls ∧ Q (.str (baseText ls)) H
theorem Nm.uni {l : List Nat} (n : Nm l) : ∀ c ∈ l, c < 1114112 := fun c h => by
  have := n.az c h
  omega
theorem Good.uni {ls : List (List Nat)} (g : Good ls) : Uni ls :=
  fun l h => (g.nm l h).uni
theorem Good.shown {ls : List (List Nat)} (g : Good ls) :
    (PyData.list (dN ls)).shown.length ≤ sizeLine := by
  have := g.hi
  exact shown_L (m := 8) (by omega) (by omega) fun l h =>
    ⟨(g.nm l h).hi, (g.nm l h).uni⟩
section
variable {P : Program} {w : World} {K : PySem.W.Frag}
  {mg : Str → Option Value} {base : Heap} {C : Addr}
theorem ok_getnames {f : Addr} {fd : FuncData} {k : Nat}
    (F : Fun K "names" "Base.names" s_Base_names f fd) (B : Bl mg)
    (T : BC K mg C) :
    FnOk P w K mg base CX0 (k + 1) f fd ["self"] (spGetNames C) := by
  refine F.ok sc_Base_names (fun vs H Q E h => ?_)
    (fun cv A outer s H vs Q E hr h => ?_)
  · obtain ⟨b, ls, rfl, _⟩ := h
    rfl
  obtain ⟨b, ls, rfl, hb, q⟩ := h
  obtain ⟨dx, lo, d, h1, h2, h3⟩ := hb.ob
  refine ⟨_, pss_one (ps_ret (pe_callTy call_list_of (by rfl) B.list bt_list
    (pa_cons (pe_fld (pv 0) rfl) pa_nil))), ?_⟩
  exact ⟨_, rfl, b, C, dx, _, _, rfl, h1, T.cl, T.nL, bf_listed _ _, lo, _, rfl,
    .inl (SqL.of h2), fun l nl => q l _ nl upd_same (sameNew nl)⟩
theorem ok_lenB {f : Addr} {fd : FuncData} {k : Nat}
    (F : Fun K "__len__" "Base.__len__" s_Base_len f fd) (B : Bl mg)
    (T : BC K mg C) :
    FnOk P w K mg base CX0 (k + 1) f fd ["self"] (spLenB C) := by
  refine F.ok sc_Base_len (fun vs H Q E h => ?_)
    (fun cv A outer s H vs Q E hr h => ?_)
  · obtain ⟨b, ls, rfl, _⟩ := h
    rfl
  obtain ⟨b, ls, rfl, hb, q⟩ := h
  obtain ⟨dx, lo, d, h1, h2, h3⟩ := hb.ob
  refine ⟨_, pss_one (ps_ret (pe_callB call_len_seq (by rfl) B.len
    PySem.boot_len (pa_cons (pe_fld (pv 0) rfl) pa_nil))), ?_⟩
  refine ⟨_, rfl, b, C, dx, _, _, rfl, h1, T.cl, T.nL, bf_listed _ _, lo, _,
    rfl, .inl (SqL.of h2), ?_⟩
  rw [List.length_map]
  exact q
theorem ok_eqB {f : Addr} {fd : FuncData} {k : Nat}
    (F : Fun K "__eq__" "Base.__eq__" s_Base_eq f fd) (B : Bl mg)
    (T : BC K mg C) :
    FnOk P w K mg base CX0 (k + 1) f fd ["self", "other"] (spEqB C) := by
  refine F.ok sc_Base_eq (fun vs H Q E h => ?_)
    (fun cv A outer s H vs Q E hr h => ?_)
  · obtain ⟨b, o, ls, ms, rfl, _⟩ := h
    rfl
  obtain ⟨b, o, ls, ms, rfl, hb, ho, u1, u2, q⟩ := h
  obtain ⟨dx, lo, d, h1, h2, h3⟩ := hb.ob
  obtain ⟨dy, mo, e, g1, g2, g3⟩ := ho.ob
  refine ⟨_, pss_one (ps_ret (pe_and
    (pe_callB (C8.call_isC T.ic) (by rfl) B.isi bt_isi (pa_cons (pv 1)
      (pa_cons (pe_glob (v := .ref C) (by rfl) T.mgC rfl) pa_nil)))
    (pe_one (pe_cmpR (op_eqD hr.units) (pe_fld (pv 0) rfl) (pe_fld (pv 1) rfl)
      (nomark _))))), ?_⟩
  refine ⟨_, rfl, o, dy, _, rfl, g1, _, rfl, iteT ?_⟩
  refine ⟨_, rfl, b, C, dx, _, _, rfl, h1, T.cl, T.nL, bf_listed _ _, _, rfl, o,
    C, dy, _, _, rfl, g1, T.cl, T.nL, bf_listed _ _, _, _, dp_N (SqL.of h2),
    dp_N (SqL.of g2), shaped_L u1, shaped_L u2, ?_⟩
  rw [eqv_L]
  exact q
theorem ok_reprB {f : Addr} {fd : FuncData} {k : Nat}
    (F : Fun K "__repr__" "Base.__repr__" s_Base_repr f fd)
    (T : BC K mg C) :
    FnG P w K mg base CX0 (k + 1) f fd ["self"] (spReprB C) := by
  refine okG F sc_Base_repr (fun vs H Q E h => ?_)
    (fun cv A outer s H vs Q E hr gd h => ?_)
  · obtain ⟨b, ls, rfl, _⟩ := h
    rfl
  obtain ⟨b, ls, rfl, hb, good, q⟩ := h
  obtain ⟨dx, lo, d, h1, h2, h3⟩ := hb.ob
  refine ⟨_, pss_one (ps_ret (pe_joined (.cons pe_str (.cons
    (pe_fmtD hr gd (pe_fld (pv 0) rfl)) (.cons pe_str .nil))))), ?_⟩
  have l1 := good.shown
  have l2 : (PyData.list (dN ls)).shown.length ≤ 10004003 := by
    have e : (PyData.list (dN ls)).shown =
        listText (PyData.shownAll (dN ls)) := by simp only [PyData.shown]
    have p := piled_N ls 8 fun l h => ⟨(good.nm l h).hi, (good.nm l h).uni⟩
    have q := listText_len_le (PyData.shownAll (dN ls))
    rw [e]
    have r : ((PyData.shownAll (dN ls)).map (·.length)).sum +
        2 * (PyData.shownAll (dN ls)).length =
        piled (PyData.shownAll (dN ls)) := by
      generalize PyData.shownAll (dN ls) = ts
      induction ts with
      | nil => rfl
      | cons t ts ih =>
        rw [piled_cons, List.map_cons, List.sum_cons, List.length_cons]
        omega
    have s : ls.length * (10 * 8 + 4) ≤ 40 * 84 :=
      Nat.mul_le_mul good.hi (Nat.le_refl _)
    omega
  have l3 : (Str.ofString "Base(").length = 5 := by decide +kernel
  have l4 : (Str.ofString ")").length = 1 := by decide +kernel
  have l5 : (Str.empty).length = 0 := by decide +kernel
  have l6 : 10005000 ≤ sizeLine := by decide
  refine ⟨_, rfl, ?_, _, rfl, b, C, dx, _, _, rfl, h1, T.cl, T.nL,
    bf_listed _ _, lo, _, rfl, dp_N (SqL.of h2), showable_L ls,
    Nat.le_trans (depth_L ls) (by decide), l1, _, rfl, ?_, _, rfl, ?_, q⟩
  · rw [strLen_append]
    omega
  · rw [strLen_append, strLen_append]
    omega
  · rw [strLen_append, strLen_append, strLen_append]
    omega
end
end OM
namespace OM
open PySem PySem.Spec PyProof.Rows L2
/-! ### a class that is made, in one word -/
structure CalC (P : Program) (w : World) (K : PySem.W.Frag)
    (mg : Str → Option Value) (base : Heap) (C : Addr) (k : Nat) (x : Str)
    (ps : List Str) (sp : Sp) : Prop where
  mgC : mg x = some (.ref C)
  ex : ∃ f fd, FnOk P w K mg base CX0 k f fd ps sp ∧ Mk K C f ∧
    Binds K fd ps []
section
variable {X : Cx} {k : Nat} {ps : List Str} {sp : Sp} {x : Str} {C : Addr}
  {p pos : Pos} {e : Expr} {es : List Expr} {t : TA}
theorem pe_calC (M : CalC X.prog X.w X.K X.mg X.base C k x ps sp)
    (room : Room (k + 1) X.A) (ha : PA X (e :: es) t)
    (hg : Gl X x := by rfl)
    (h1 : (x == ("__debug__" : Str)) = false := by decide)
    (h2 : starEach (e :: es) X.env =
      (false, eval e X.env) :: starEach es X.env := by rfl)
    (h3 : (backTo pos (starEach es X.env)).any (·.1) = false := by rfl) :
    PE X (.Call (.Name x p) (e :: es) [] pos) (tMake C sp [] E0 t) := by
  obtain ⟨f, fd, F, m, b⟩ := M.ex
  exact pe_make m F room hg M.mgC b .nil pass0 ha h1 h2 h3
end
theorem cut_to (xs : List V) {n : Nat} (h : n ≤ xs.length) :
    cutV xs none (some (n : Int)) = xs.take n := by
  unfold cutV
  rw [HT.sIx_nat, HT.sIx_none, Nat.min_eq_left h, Nat.sub_zero,
    List.drop_zero]
theorem cut_from (xs : List V) {n : Nat} (h : n ≤ xs.length) :
    cutV xs (some (n : Int)) none = xs.drop n := by
  unfold cutV
  rw [HT.sIx_nat, HT.sIx_none, Nat.min_eq_left h]
  exact List.take_of_length_le (by rw [List.length_drop]; exact Nat.le_refl _)
/-- os is an order of the base -/
structure Ord (C : Addr) (H : Hp) (b a : Addr) (ls os : List (List Nat)) :
    Prop where
  ba : BaseAt C H b ls
  good : Good ls
  li : H a = some (.lst (os.map vS))
  pm : os.Perm ls
theorem Ord.same {C b a : Addr} {H H' : Hp} {ls os : List (List Nat)}
    (x : Ord C H b a ls os) (s : Same H H') : Ord C H' b a ls os :=
  ⟨x.ba.same s, x.good, s _ _ x.li, x.pm⟩
theorem Good.perm {ls os : List (List Nat)} (g : Good ls)
    (p : os.Perm ls) : Good os :=
  ⟨fun l h => g.nm l (p.mem_iff.mp h), p.nodup_iff.mpr g.nd,
    by rw [p.length_eq]; exact g.lo, by rw [p.length_eq]; exact g.hi⟩
end OM
namespace OM
open PySem PySem.Spec PyProof.Rows L2
theorem bt_LE : bootBuiltins "LookupError" = some (.type "LookupError") := by
  decide +kernel
/-- what is known of the errors' classes -/
structure XU11 (K : PySem.W.Frag) (mg : Str → Option Value) (CU CO CM CR CS : Addr) : Prop where
  cU : XClF K CU
  mU : mg "UnknownItem" = some (.ref CU)
  mO : mg "OrderError" = some (.ref CO)
  mM : mg "UnknownMessage" = some (.ref CM)
  mR : mg "UnknownReplica" = some (.ref CR)
  mS : mg "UnknownUser" = some (.ref CS)
  mL : mg "LookupError" = none
  exU : PySem.W.exmOne K (.ref CU) (.ref CU) = some true
  kN : PySem.W.kitAny K (.ref CU) [.ref CO, .ref CM, .ref CR, .ref CS] = some false
  kL : PySem.W.kitOne K (.ref CU) (.type "LookupError") = some true
  nU : PySem.W.findIn K (.ref CU) "value" = some none
/-- the error that _law_error tells -/
def Ech11 (CU : Addr) (Q : VK) : XK := fun cls d H' => ∃ (dd : Addr) (v : V) (e : PyData), cls = .ref CU ∧ d = some dd ∧ H' dd = some (.xd [("value", v)]) ∧ DX H' v e ∧
  e.showable = true ∧ e.depth ≤ 50 ∧ e.shown.length ≤ sizeLine ∧ ∀ H2, Same H' H2 → Q (.str e.shown) H2
/-- what becomes of a lambda that _law_error is handed -/
def spErr11 (P : Program) (w : World) (K : PySem.W.Frag) (mg : Str → Option Value) (base : Heap) (j : Nat) (CU : Addr) : Sp := fun vs H Q _ =>
  ∃ (f : Addr) (I : Hp → Prop) (tl : XK → Hp → VK → Prop), vs = [.ref f] ∧ Thk P w K mg base j f I tl ∧ I H ∧ tl (Ech11 CU Q) H fun _ H1 => ∃ u, some (some (V.str "no error")) = some (some u) ∧ Q u H1
section
variable {P : Program} {w : World} {K : PySem.W.Frag} {mg : Str → Option Value} {base : Heap} {CU CO CM CR CS : Addr}
theorem ok_error11 {f : Addr} {fd : FuncData} {k j : Nat} (F : Fun K "_law_error" "_law_error" s_Lerror f fd) (B : Bl mg) (T : XU11 K mg CU CO CM CR CS)
    (sm : ∃ o, base.get? sysModules = some o) (hj : j ≤ k) :
    FnG P w K mg base CX0 (k + 1) f fd ["_law_call"] (spErr11 P w K mg base j CU) := by
  refine okG F sc_Lerror (fun vs H Q E h => ?_) (fun cv A outer s H vs Q E hr gd h => ?_)
  · obtain ⟨f, I, tl, rfl, _⟩ := h
    rfl
  obtain ⟨f', I, tl, rfl, th, hI, q⟩ := h
  have nd := sc_Lerror.nd
  have un := hr.units
  refine ⟨_, pss_cons (ps_set (i := 1) nd rfl (.inl rfl) pe_str)
    (pss_cons (ps_tryEach (i := 2) (n := "e")
      (X := (cxOf CX0 P w K mg base N_Lerror "_law_error" (defScope s_Lerror) f cv A outer s H E).nox) rfl rfl nd rfl rfl
      (fun W pn xe tk _ => pss_exK (α := XK) (c := fun Ech => ∀ cls d σ' H', Ech cls d H' → W cls d σ' H')
        fun Ech hW => pss_one (ps_expr (pe_thk (i := 0) (E := Ech) th (hr.mono hj) gd tk hW rfl (.inl rfl))))
      (.cons ⟨rfl, by decide, .inl T.mU⟩
        (fun a oe cls d pn hz hf => pss_lnK
          (X := (cxOf CX0 P w K mg base N_Lerror "_law_error" (defScope s_Lerror) f cv A outer s H E).nox.suite a ((a, oe) :: pn)) (n := 4) rfl
          (pss_cons (ps_set (i := 3) nd rfl (.inl rfl) (pe_callB (call_isFT hz hf) (by rfl) B.isi bt_isi
            (pa_cons (pv 2) (pa_cons (pe_tup (pa_cons (pe_glob (v := .ref CO) (by rfl) T.mO rfl) (pa_cons (pe_glob (v := .ref CM) (by rfl) T.mM rfl)
              (pa_cons (pe_glob (v := .ref CR) (by rfl) T.mR rfl) (pa_cons (pe_glob (v := .ref CS) (by rfl) T.mS rfl) pa_nil))))) pa_nil))))
          (pss_one (ps_set (i := 1) nd rfl (.inl rfl) (pe_ifExp (PW.pt (pw_or (pt_val (pv 3)) (pw_or1 (pt_not (pt_val (pe_callB (call_isF hz hf) (by rfl) B.isi bt_isi
              (pa_cons (pv 2) (pa_cons (pe_bltn (v := .ty "LookupError") (by rfl) T.mL bt_LE rfl) pa_nil))))))))
              pe_str (pe_callB (call_reprY un gd sm) (by rfl) B.repr bt_repr (pa_cons (pe_xf T.cU.xf T.nU hz hf (pv 2)) pa_nil)))))))
        .nil))
    (pss_one (ps_ret (pv 1)))), ?_⟩
  refine ⟨Ech11 CU Q, ?_, rfl, hI, q⟩
  rintro cls d σ' H' ⟨dd, v, e, rfl, rfl, hd, dx, sh, dp, sz, qe⟩
  refine ⟨true, T.exU, fun _ a na => ?_, fun z => nomatch z⟩
  intro hl
  rw [List.length_set] at hl
  obtain ⟨x0, x1, x2, x3, rfl⟩ : ∃ x0 x1 x2 x3, σ' = [x0, x1, x2, x3] := by
    match σ', hl with
    | [x0, x1, x2, x3], _ => exact ⟨_, _, _, _, rfl⟩
  refine ⟨_, rfl, by show 4 ≤ sizeLine; decide, fun tp ntp => ?_⟩
  have hd4 : ∀ o, (upd H' tp o) dd = some (.xd [("value", v)]) := fun o => by
    rw [upd_ne (ne_of_none hd ntp)]
    exact hd
  refine ⟨CU, dd, tp, _, _, _, false, T.cU, rfl, rfl, hd4 _, rfl, upd_same, .cons (.own _) (.cons (.own _) (.cons (.own _) (.cons (.own _) .nil))), T.kN, ?_⟩
  refine ⟨_, rfl, _, rfl, iteF ?_⟩
  refine ⟨_, rfl, CU, dd, _, _, _, true, T.cU, rfl, rfl, hd4 _, rfl, .ty _, T.kL, _, rfl, iteF ?_⟩
  refine ⟨_, rfl, rfl, rfl, dd, _, _, rfl, hd4 _, rfl, v, e, rfl, .inl (DX.same (sameNew ntp) _ _ dx), sh, by omega, sz, ?_⟩
  exact ⟨_, rfl, qe _ (sameNew ntp)⟩
end
end OM
namespace OM
open PySem PySem.Spec PyProof.Rows L2
/-- what a comprehension walks, whatever its turn does -/
theorem walkW {J : It} {n : Nat} {G : Hp → Prop}
    {Y : Nat → Hp → V → Hp → Prop} (wk : Walk J n G Y) {H0 : Hp}
    {Qd : Hp → Prop} {body : V → Hp → (Hp → Prop) → Prop}
    (Pv : Nat → Hp → Prop) (h0 : Pv 0 H0) (hG : ∀ i H, i ≤ n → Pv i H → G H)
    (hs : ∀ i x H H', i < n → Pv i H → Y i H x H' → body x H' (Pv (i + 1)))
    (hd : ∀ H, Pv n H → Qd H) :
    ∃ W : Nat → Nat → Hp → Prop, (∃ m, W 0 m H0) ∧
      ∀ i m H, W i m H → (J.stop i H ∧ Qd H) ∨ (J.go i H ∧
        ∃ Nx : Hp → Prop, (∀ H', Nx H' → ∃ m', m' < m ∧ W (i + 1) m' H') ∧
        ∀ x H', J.yld i H x H' → body x H' Nx) := by
  refine ⟨fun i m H => m + i = n ∧ Pv i H, ⟨n, rfl, h0⟩, ?_⟩
  rintro i m H ⟨e, p⟩
  have q := hG i H (by omega) p
  rcases Nat.lt_or_ge i n with lt | ge
  · exact .inr ⟨wk.goes i H lt q, Pv (i + 1),
      fun H' p' => ⟨m - 1, by omega, by omega, p'⟩,
      fun x H' y => hs i x H H' lt p (wk.yields i H x H' lt q y)⟩
  · have e' : i = n := by omega
    subst e'
    exact .inl ⟨wk.stops H q, hd H p⟩
/-! ### pairs of names -/
abbrev Pr := List Nat × List Nat
abbrev vT (p : Pr) : List V := [vS p.1, vS p.2]
def PrsAt (H : Hp) (rs : List Addr) (ps : List Pr) : Prop :=
  Paired (fun r p => H r = some (.tup (vT p))) rs ps
theorem PrsAt.same {H H' : Hp} : ∀ {rs : List Addr} {ps : List Pr},
    PrsAt H rs ps → Same H H' → PrsAt H' rs ps
  | _, _, .nil, _ => .nil
  | _, _, .cons h t, s => .cons (s _ _ h) (PrsAt.same t s)
theorem PrsAt.snoc {H : Hp} {r : Addr} {p : Pr} (h : H r = some (.tup (vT p))) :
    ∀ {rs : List Addr} {ps : List Pr}, PrsAt H rs ps →
      PrsAt H (rs ++ [r]) (ps ++ [p])
  | _, _, .nil => .cons h .nil
  | _, _, .cons a t => .cons a (PrsAt.snoc h t)
theorem PrsAt.app {H : Hp} {qs : List Addr} {us : List Pr}
    (h : PrsAt H qs us) : ∀ {rs : List Addr} {ps : List Pr}, PrsAt H rs ps →
      PrsAt H (rs ++ qs) (ps ++ us)
  | _, _, .nil => h
  | _, _, .cons a t => .cons a (PrsAt.app h t)
theorem PrsAt.len {H : Hp} : ∀ {rs : List Addr} {ps : List Pr},
    PrsAt H rs ps → rs.length = ps.length
  | _, _, .nil => rfl
  | _, _, .cons _ t => congrArg (· + 1) (PrsAt.len t)
abbrev dT (p : Pr) : PyData := .tuple [.str (SX.S p.1), .str (SX.S p.2)]
abbrev dP (ps : List Pr) : List PyData := ps.map dT
theorem dp_T {K : PySem.W.Frag} {H : Hp} {r : Addr} {p : Pr}
    (h : H r = some (.tup (vT p))) : Dp K H (.ref r) (dT p) :=
  .tup (SqT.of h) (.cons (.str _) (.cons (.str _) .nil))
theorem dpAll_P {K : PySem.W.Frag} {H : Hp} : ∀ {rs : List Addr}
    {ps : List Pr}, PrsAt H rs ps → DpAll K H (rs.map V.ref) (dP ps)
  | _, _, .nil => .nil
  | _, _, .cons h t => .cons (dp_T h) (dpAll_P t)
theorem dp_P {K : PySem.W.Frag} {H : Hp} {a : Addr} {rs : List Addr}
    {ps : List Pr} (h : SqL K H a (rs.map V.ref)) (p : PrsAt H rs ps) :
    Dp K H (.ref a) (.list (dP ps)) := .lst h (dpAll_P p)
theorem eqv_T (p q : Pr) : PyData.eqv (dT p) (dT q) = decide (p = q) := by
  obtain ⟨a, b⟩ := p
  obtain ⟨c, d⟩ := q
  show PyData.eqv (.tuple [.str (SX.S a), .str (SX.S b)])
    (.tuple [.str (SX.S c), .str (SX.S d)]) = _
  simp only [PyData.eqv, PyData.eqvAll, SX.S_beq_eq, Bool.and_true]
  by_cases e : a = c
  · by_cases f : b = d
    · subst e; subst f; simp
    · simp [e, f]
  · simp [e]
theorem eqv_PA : ∀ ps qs : List Pr,
    PyData.eqvAll (dP ps) (dP qs) = decide (ps = qs)
  | [], [] => by simp [PyData.eqvAll]
  | [], m :: ms => by simp [PyData.eqvAll]
  | l :: ls, [] => by simp [PyData.eqvAll]
  | l :: ls, m :: ms => by
    have ih := eqv_PA ls ms
    show (PyData.eqv (dT l) (dT m) && PyData.eqvAll (dP ls) (dP ms)) = _
    rw [ih, eqv_T]
    by_cases e : l = m
    · subst e
      simp
    · have : ¬ (l :: ls = m :: ms) := fun z => e (List.cons.inj z).1
      rw [decide_eq_false e, decide_eq_false this]
      rfl
theorem eqv_P (ps qs : List Pr) :
    PyData.eqv (.list (dP ps)) (.list (dP qs)) = decide (ps = qs) := by
  rw [show PyData.eqv (.list (dP ps)) (.list (dP qs)) =
    PyData.eqvAll (dP ps) (dP qs) by simp only [PyData.eqv]]
  exact eqv_PA ps qs
theorem any_P (q : Pr) : ∀ ps : List Pr,
    ((dP ps).any fun z => PyData.eqv z (dT q)) = decide (q ∈ ps)
  | [] => by simp
  | p :: ps => by
    have ih := any_P q ps
    rw [show dP (p :: ps) = dT p :: dP ps from rfl, List.any_cons, ih, eqv_T]
    by_cases e : p = q
    · subst e
      simp
    · have ne : ¬ q = p := fun z => e z.symm
      simp [e, ne]
/-- names in pairs -/
def UniP (ps : List Pr) : Prop := ∀ p ∈ ps,
  (p.1.length ≤ 8 ∧ ∀ c ∈ p.1, c < 1114112) ∧
  (p.2.length ≤ 8 ∧ ∀ c ∈ p.2, c < 1114112)
theorem strOkS {l : List Nat} (h : ∀ c ∈ l, c < 1114112) :
    PyData.strOk (SX.S l) = true := by
  unfold PyData.strOk
  rw [Array.all_eq_true]
  intro i hi
  have := h l.toArray[i] (by simp)
  exact decide_eq_true this
theorem lay_T {p : Pr} (h1 : ∀ c ∈ p.1, c < 1114112)
    (h2 : ∀ c ∈ p.2, c < 1114112) : PyData.canLay0 (dT p) = true := by
  simp only [PyData.canLay0, PyData.canLayAll0, strOkS h1, strOkS h2,
    Bool.and_self]
theorem lay_P : ∀ ps : List Pr, UniP ps → PyData.canLayAll0 (dP ps) = true
  | [], _ => by simp [PyData.canLayAll0]
  | p :: ps, h => by
    have ih := lay_P ps fun x hx => h x (List.mem_cons_of_mem _ hx)
    have hp := h p List.mem_cons_self
    show PyData.canLayAll0 (dT p :: dP ps) = true
    rw [show PyData.canLayAll0 (dT p :: dP ps) =
      (PyData.canLay0 (dT p) && PyData.canLayAll0 (dP ps)) by
        simp only [PyData.canLayAll0], ih, lay_T hp.1.2 hp.2.2]
    rfl
theorem depth_T (p : Pr) : (dT p).depth ≤ 2 := by
  simp only [PyData.depth, PyData.depthAll]
  omega
theorem depth_PA : ∀ ps : List Pr, PyData.depthAll (dP ps) ≤ 2
  | [] => by simp [PyData.depthAll]
  | p :: ps => by
    have ih := depth_PA ps
    have h := depth_T p
    show PyData.depthAll (dT p :: dP ps) ≤ 2
    rw [show PyData.depthAll (dT p :: dP ps) =
      max (dT p).depth (PyData.depthAll (dP ps)) by
        simp only [PyData.depthAll]]
    omega
theorem depth_P (ps : List Pr) : (PyData.list (dP ps)).depth ≤ 3 := by
  rw [show (PyData.list (dP ps)).depth = PyData.depthAll (dP ps) + 1 by
    simp only [PyData.depth]]
  have := depth_PA ps
  omega
theorem shaped_T {p : Pr} (h1 : ∀ c ∈ p.1, c < 1114112)
    (h2 : ∀ c ∈ p.2, c < 1114112) : SeqAt.shaped (dT p) = true := by
  unfold SeqAt.shaped
  rw [lay_T h1 h2]
  have := depth_T p
  exact decide_eq_true (by omega)
theorem shaped_P {ps : List Pr} (h : UniP ps) :
    SeqAt.shaped (.list (dP ps)) = true := by
  unfold SeqAt.shaped
  rw [show PyData.canLay0 (.list (dP ps)) = PyData.canLayAll0 (dP ps) by
    simp only [PyData.canLay0], lay_P ps h]
  have := depth_P ps
  exact decide_eq_true (by omega)
theorem showable_P : ∀ ps : List Pr, PyData.showableAll (dP ps) = true
  | [] => by simp [PyData.showableAll]
  | p :: ps => by
    have ih := showable_P ps
    show PyData.showableAll (dT p :: dP ps) = true
    simp only [PyData.showableAll, PyData.showable, ih, Bool.and_self]
theorem showable_PL (ps : List Pr) : (PyData.list (dP ps)).showable = true := by
  rw [show (PyData.list (dP ps)).showable = PyData.showableAll (dP ps) by
    simp only [PyData.showable]]
  exact showable_P ps
theorem shown_T {p : Pr} (h1 : p.1.length ≤ 8 ∧ ∀ c ∈ p.1, c < 1114112)
    (h2 : p.2.length ≤ 8 ∧ ∀ c ∈ p.2, c < 1114112) :
    (dT p).shown.length ≤ 200 := by
  have e : (dT p).shown = tupleText [reprText (SX.S p.1),
    reprText (SX.S p.2)] := by simp only [PyData.shown, PyData.shownAll]
  rw [e]
  have t := fmt_text [reprText (SX.S p.1), reprText (SX.S p.2)]
  rw [piled_cons, piled_cons, piled_nil] at t
  have a := StrLaws.reprText_len (SX.S p.1) (fun c hc => Nat.lt_of_lt_of_le
    (h1.2 c hc) (by decide))
  have b := StrLaws.reprText_len (SX.S p.2) (fun c hc => Nat.lt_of_lt_of_le
    (h2.2 c hc) (by decide))
  have c : (SX.S p.1).length = p.1.length := SX.S_len _
  have d : (SX.S p.2).length = p.2.length := SX.S_len _
  rw [c] at a
  rw [d] at b
  omega
theorem shown_PA : ∀ (ps : List Pr), UniP ps →
    piled (PyData.shownAll (dP ps)) ≤ ps.length * 202
  | [], _ => by
    show piled (PyData.shownAll []) ≤ _
    simp only [PyData.shownAll]
    exact Nat.zero_le _
  | p :: ps, h => by
    have ih := shown_PA ps fun x hx => h x (List.mem_cons_of_mem _ hx)
    have hp := h p List.mem_cons_self
    have t := shown_T hp.1 hp.2
    show piled (PyData.shownAll (dT p :: dP ps)) ≤ _
    rw [show PyData.shownAll (dT p :: dP ps) =
      (dT p).shown :: PyData.shownAll (dP ps) by simp only [PyData.shownAll],
      piled_cons, List.length_cons, Nat.add_mul]
    omega
theorem shown_P {ps : List Pr} (h : UniP ps) (hn : ps.length ≤ 2000) :
    (PyData.list (dP ps)).shown.length ≤ sizeLine := by
  have p := shown_PA ps h
  have e : (PyData.list (dP ps)).shown =
      listText (PyData.shownAll (dP ps)) := by simp only [PyData.shown]
  rw [e]
  have q := listText_len_le (PyData.shownAll (dP ps))
  have r : ((PyData.shownAll (dP ps)).map (·.length)).sum +
      2 * (PyData.shownAll (dP ps)).length =
      piled (PyData.shownAll (dP ps)) := by
    generalize PyData.shownAll (dP ps) = ts
    induction ts with
    | nil => rfl
    | cons t ts ih =>
      rw [piled_cons, List.map_cons, List.sum_cons, List.length_cons]
      omega
  refine Nat.le_trans (show _ ≤ 404003 by omega) (by decide)
/-! ### the inverted pairs -/
def invF (os : List (List Nat)) (f : List Nat) (r : List (List Nat)) :
    List Pr :=
  (r.filter fun s => decide (os.idxOf s < os.idxOf f)).map fun s => (f, s)
def invTo (ls os : List (List Nat)) : Nat → List Pr
  | 0 => []
  | i + 1 => invTo ls os i ++ match ls[i]? with
    | some f => invF os f (ls.drop (i + 1))
    | none => []
def invAll (ls os : List (List Nat)) : List Pr := invTo ls os ls.length
theorem invF_mem {os : List (List Nat)} {f : List Nat} {r : List (List Nat)}
    {p : Pr} : p ∈ invF os f r ↔ p.1 = f ∧ p.2 ∈ r ∧
      os.idxOf p.2 < os.idxOf f := by
  unfold invF
  obtain ⟨a, b⟩ := p
  simp only [List.mem_map, List.mem_filter, decide_eq_true_eq, Prod.mk.injEq]
  constructor
  · rintro ⟨x, ⟨h1, h2⟩, rfl, rfl⟩
    exact ⟨rfl, h1, h2⟩
  · rintro ⟨rfl, h1, h2⟩
    exact ⟨b, ⟨h1, h2⟩, rfl, rfl⟩
theorem invTo_mem {ls os : List (List Nat)} {p : Pr} : ∀ {i : Nat},
    p ∈ invTo ls os i ↔ ∃ j < i, ls[j]? = some p.1 ∧ p.2 ∈ ls.drop (j + 1) ∧
      os.idxOf p.2 < os.idxOf p.1
  | 0 => by simp [invTo]
  | i + 1 => by
    have ih := invTo_mem (ls := ls) (os := os) (p := p) (i := i)
    show p ∈ invTo ls os i ++ _ ↔ _
    rw [List.mem_append, ih]
    constructor
    · rintro (⟨j, hj, h⟩ | h)
      · exact ⟨j, by omega, h⟩
      · cases e : ls[i]? with
        | none => rw [e] at h; cases h
        | some f =>
          rw [e] at h
          obtain ⟨h1, h2, h3⟩ := invF_mem.mp h
          exact ⟨i, by omega, by rw [h1]; exact e, h2, by rw [h1]; exact h3⟩
    · rintro ⟨j, hj, h1, h2, h3⟩
      by_cases e : j = i
      · subst e
        refine .inr ?_
        rw [h1]
        exact invF_mem.mpr ⟨rfl, h2, h3⟩
      · exact .inl ⟨j, by omega, h1, h2, h3⟩
theorem invF_len (os : List (List Nat)) (f : List Nat) (r : List (List Nat)) :
    (invF os f r).length ≤ r.length := by
  unfold invF
  rw [List.length_map]
  exact List.length_filter_le _ _
theorem invTo_len (ls os : List (List Nat)) : ∀ i, i ≤ ls.length →
    (invTo ls os i).length ≤ i * ls.length
  | 0, _ => Nat.zero_le _
  | i + 1, h => by
    have ih := invTo_len ls os i (by omega)
    show (invTo ls os i ++ _).length ≤ _
    rw [List.length_append, Nat.add_mul]
    have : (match ls[i]? with
      | some f => invF os f (ls.drop (i + 1))
      | none => []).length ≤ ls.length := by
      cases ls[i]? with
      | none => exact Nat.zero_le _
      | some f =>
        refine Nat.le_trans (invF_len _ _ _) ?_
        rw [List.length_drop]
        omega
    omega
end OM
namespace OM
open PySem PySem.Spec PyProof.Rows L2
/-! ### lists of lists of names -/
def OssAt (H : Hp) (rs : List Addr) (oss : List (List (List Nat))) : Prop :=
  Paired (fun r (os : List (List Nat)) => H r = some (.lst (os.map vS))) rs oss
theorem OssAt.same {H H' : Hp} : ∀ {rs : List Addr}
    {oss : List (List (List Nat))}, OssAt H rs oss → Same H H' → OssAt H' rs oss
  | _, _, .nil, _ => .nil
  | _, _, .cons h t, s => .cons (s _ _ h) (OssAt.same t s)
theorem OssAt.snoc {H : Hp} {r : Addr} {o : List (List Nat)}
    (h : H r = some (.lst (o.map vS))) :
    ∀ {rs : List Addr} {os : List (List (List Nat))}, OssAt H rs os →
      OssAt H (rs ++ [r]) (os ++ [o])
  | _, _, .nil => .cons h .nil
  | _, _, .cons a t => .cons a (OssAt.snoc h t)
theorem OssAt.app {H : Hp} {qs : List Addr} {us : List (List (List Nat))}
    (h : OssAt H qs us) : ∀ {rs : List Addr} {ps : List (List (List Nat))},
      OssAt H rs ps → OssAt H (rs ++ qs) (ps ++ us)
  | _, _, .nil => h
  | _, _, .cons a t => .cons a (OssAt.app h t)
theorem OssAt.len {H : Hp} : ∀ {rs : List Addr} {oss : List (List (List Nat))},
    OssAt H rs oss → rs.length = oss.length
  | _, _, .nil => rfl
  | _, _, .cons _ t => congrArg (· + 1) (OssAt.len t)
theorem OssAt.rd {H : Hp} : ∀ {rs : List Addr} {oss : List (List (List Nat))}
    {i : Nat} {r : Addr}, OssAt H rs oss → rs[i]? = some r →
    ∃ os, oss[i]? = some os ∧ H r = some (.lst (os.map vS))
  | _, _, _, _, .nil, h => by simp at h
  | _, _, 0, _, .cons a _, h => by cases h; exact ⟨_, rfl, a⟩
  | _, _, i + 1, _, .cons _ t, h => OssAt.rd (i := i) t h
theorem OssAt.keep {H H' : Hp} : ∀ {rs : List Addr}
    {os : List (List (List Nat))}, OssAt H rs os →
    (∀ r o, r ∈ rs → H r = some o → H' r = some o) → OssAt H' rs os
  | _, _, .nil, _ => .nil
  | _, _, .cons h t, s => .cons (s _ _ List.mem_cons_self h)
    (OssAt.keep t fun r o m => s r o (List.mem_cons_of_mem _ m))
/-- a list of names is no drawing state -/
theorem rng_no {H : Hp} {p r : Addr} {os : List (List Nat)} (g : Rng H p)
    (h : H r = some (.lst (os.map vS))) : r ≠ p := by
  obtain ⟨x, y, e, _⟩ := g
  rintro rfl
  rw [e] at h
  have h := HO.lst.inj (Option.some.inj h)
  cases os with
  | nil => cases h
  | cons o os => cases (List.cons.inj h).1
theorem OssAt.bu {H H' : Hp} {p : Addr} (g : Rng H p) (b : But p H H') :
    ∀ {rs : List Addr} {oss : List (List (List Nat))}, OssAt H rs oss →
      OssAt H' rs oss
  | _, _, .nil => .nil
  | _, _, .cons h t => .cons (b _ _ h (rng_no g h)) (OssAt.bu g b t)
/-! ### .. as data -/
abbrev dO (o : List (List Nat)) : PyData := .list (dN o)
abbrev dOs (os : List (List (List Nat))) : List PyData := os.map dO
theorem dpAll_O {K : PySem.W.Frag} {H : Hp} : ∀ {rs : List Addr}
    {os : List (List (List Nat))}, OssAt H rs os →
      DpAll K H (rs.map V.ref) (dOs os)
  | _, _, .nil => .nil
  | _, _, .cons h t => .cons (dp_N (SqL.of h)) (dpAll_O t)
theorem dp_Os {K : PySem.W.Frag} {H : Hp} {a : Addr} {rs : List Addr}
    {os : List (List (List Nat))} (h : SqL K H a (rs.map V.ref))
    (p : OssAt H rs os) : Dp K H (.ref a) (.list (dOs os)) := .lst h (dpAll_O p)
theorem eqv_OA : ∀ os ps : List (List (List Nat)),
    PyData.eqvAll (dOs os) (dOs ps) = decide (os = ps)
  | [], [] => by simp [PyData.eqvAll]
  | [], m :: ms => by simp [PyData.eqvAll]
  | l :: ls, [] => by simp [PyData.eqvAll]
  | l :: ls, m :: ms => by
    have ih := eqv_OA ls ms
    show (PyData.eqv (dO l) (dO m) && PyData.eqvAll (dOs ls) (dOs ms)) = _
    rw [ih, eqv_L]
    by_cases e : l = m
    · subst e
      simp
    · have : ¬ (l :: ls = m :: ms) := fun z => e (List.cons.inj z).1
      rw [decide_eq_false e, decide_eq_false this]
      rfl
theorem eqv_O (os ps : List (List (List Nat))) :
    PyData.eqv (.list (dOs os)) (.list (dOs ps)) = decide (os = ps) := by
  rw [show PyData.eqv (.list (dOs os)) (.list (dOs ps)) =
    PyData.eqvAll (dOs os) (dOs ps) by simp only [PyData.eqv]]
  exact eqv_OA os ps
theorem lay_Os : ∀ os : List (List (List Nat)), (∀ o ∈ os, Uni o) →
    PyData.canLayAll0 (dOs os) = true
  | [], _ => by simp [PyData.canLayAll0]
  | o :: os, h => by
    have ih := lay_Os os fun x hx => h x (List.mem_cons_of_mem _ hx)
    have hp := lay_N o (h o List.mem_cons_self)
    show PyData.canLayAll0 (dO o :: dOs os) = true
    rw [show PyData.canLayAll0 (dO o :: dOs os) =
      (PyData.canLay0 (dO o) && PyData.canLayAll0 (dOs os)) by
        simp only [PyData.canLayAll0], ih,
      show PyData.canLay0 (dO o) = PyData.canLayAll0 (dN o) by
        simp only [PyData.canLay0], hp]
    rfl
theorem depth_OA : ∀ os : List (List (List Nat)),
    PyData.depthAll (dOs os) ≤ 2
  | [] => by simp [PyData.depthAll]
  | o :: os => by
    have ih := depth_OA os
    have h : (dO o).depth ≤ 2 := depth_L o
    show PyData.depthAll (dO o :: dOs os) ≤ 2
    rw [show PyData.depthAll (dO o :: dOs os) =
      max (dO o).depth (PyData.depthAll (dOs os)) by
        simp only [PyData.depthAll]]
    omega
theorem depth_O (os : List (List (List Nat))) :
    (PyData.list (dOs os)).depth ≤ 3 := by
  rw [show (PyData.list (dOs os)).depth = PyData.depthAll (dOs os) + 1 by
    simp only [PyData.depth]]
  have := depth_OA os
  omega
theorem shaped_O {os : List (List (List Nat))} (h : ∀ o ∈ os, Uni o) :
    SeqAt.shaped (.list (dOs os)) = true := by
  unfold SeqAt.shaped
  rw [show PyData.canLay0 (.list (dOs os)) = PyData.canLayAll0 (dOs os) by
    simp only [PyData.canLay0], lay_Os os h]
  have := depth_O os
  exact decide_eq_true (by omega)
theorem showable_OA : ∀ os : List (List (List Nat)),
    PyData.showableAll (dOs os) = true
  | [] => by simp [PyData.showableAll]
  | o :: os => by
    have ih := showable_OA os
    have h : (dO o).showable = true := showable_L o
    show PyData.showableAll (dO o :: dOs os) = true
    rw [show PyData.showableAll (dO o :: dOs os) =
      ((dO o).showable && PyData.showableAll (dOs os)) by
        simp only [PyData.showableAll], ih, h]
    rfl
theorem showable_O (os : List (List (List Nat))) :
    (PyData.list (dOs os)).showable = true := by
  rw [show (PyData.list (dOs os)).showable = PyData.showableAll (dOs os) by
    simp only [PyData.showable]]
  exact showable_OA os
theorem sum_piled (ts : List Str) : (ts.map (·.length)).sum + 2 * ts.length =
    piled ts := by
  induction ts with
  | nil => rfl
  | cons t ts ih =>
    rw [piled_cons, List.map_cons, List.sum_cons, List.length_cons]
    omega
/-- short names -/
def Short (ls : List (List Nat)) : Prop :=
  ls.length ≤ 40 ∧ ∀ l ∈ ls, l.length ≤ 8 ∧ ∀ c ∈ l, c < 1114112
theorem Short.uni {ls : List (List Nat)} (h : Short ls) : Uni ls :=
  fun l hl => (h.2 l hl).2
theorem shown_O1 {ls : List (List Nat)} (h : Short ls) :
    (dO ls).shown.length ≤ 3400 := by
  have p := piled_N ls 8 h.2
  have e : (PyData.list (dN ls)).shown =
      listText (PyData.shownAll (dN ls)) := by simp only [PyData.shown]
  show (PyData.list (dN ls)).shown.length ≤ _
  rw [e]
  have q := listText_len_le (PyData.shownAll (dN ls))
  have r := sum_piled (PyData.shownAll (dN ls))
  have l := h.1
  omega
theorem shown_OA : ∀ os : List (List (List Nat)), (∀ o ∈ os, Short o) →
    piled (PyData.shownAll (dOs os)) ≤ os.length * 3402
  | [], _ => by
    show piled (PyData.shownAll []) ≤ _
    simp only [PyData.shownAll]
    exact Nat.zero_le _
  | o :: os, h => by
    have ih := shown_OA os fun x hx => h x (List.mem_cons_of_mem _ hx)
    have hp := shown_O1 (h o List.mem_cons_self)
    show piled (PyData.shownAll (dO o :: dOs os)) ≤ _
    rw [show PyData.shownAll (dO o :: dOs os) =
      (dO o).shown :: PyData.shownAll (dOs os) by simp only [PyData.shownAll],
      piled_cons, List.length_cons, Nat.add_mul]
    omega
theorem shown_O {os : List (List (List Nat))} (h : ∀ o ∈ os, Short o)
    (hn : os.length ≤ 1000) :
    (PyData.list (dOs os)).shown.length ≤ sizeLine := by
  have p := shown_OA os h
  have e : (PyData.list (dOs os)).shown =
      listText (PyData.shownAll (dOs os)) := by simp only [PyData.shown]
  rw [e]
  have q := listText_len_le (PyData.shownAll (dOs os))
  have r := sum_piled (PyData.shownAll (dOs os))
  refine Nat.le_trans (show _ ≤ 3402003 by omega) (by decide)
/-! ### == of two orders, as they stand -/
theorem short_perm {ls os : List (List Nat)} (h : Short ls) (p : os.Perm ls) :
    Short os :=
  ⟨by rw [p.length_eq]; exact h.1, fun l hl => h.2 l (p.mem_iff.mp hl)⟩
end OM
namespace OM
open PySem PySem.Spec PyProof.Rows L2
/-! ### what is shown has code points only -/
def Okc (x : Str) : Prop := ∀ c ∈ x.cps.toList, c < 0x110000
theorem okc_app {a b : Str} (ha : Okc a) (hb : Okc b) : Okc (a ++ b) := by
  intro c hc
  have e : (a ++ b).cps = a.cps ++ b.cps := rfl
  rw [e, Array.toList_append] at hc
  rcases List.mem_append.mp hc with h | h
  · exact ha c h
  · exact hb c h
theorem chr_lt (c : Char) : c.toNat < 0x110000 := by
  have h := c.valid
  rcases h with h | h
  · exact Nat.lt_trans h (by decide)
  · exact h.2
theorem okc_lit (s : String) : Okc (Str.ofString s) := by
  intro c hc
  rw [Str.ofString_eq_toList] at hc
  obtain ⟨d, _, rfl⟩ := List.mem_map.mp hc
  exact chr_lt d
theorem okc_char {q c : Nat} (hc : c < 0x110000) :
    ∀ d ∈ PySem.Builtin.Str.reprChar q c, d < 0x110000 := by
  have hx : ∀ (w d : Nat), d ∈ (List.replicate (w - ((Nat.toDigits 16 c).map
      Char.toNat).length) 48 ++ (Nat.toDigits 16 c).map Char.toNat) →
      d < 0x110000 := by
    intro w d hd
    rcases List.mem_append.mp hd with h | h
    · rw [List.eq_of_mem_replicate h]
      decide
    · obtain ⟨e, _, rfl⟩ := List.mem_map.mp h
      exact chr_lt e
  intro d hd
  unfold PySem.Builtin.Str.reprChar at hd
  dsimp only at hd
  have two : ∀ {x y : Nat}, x < 0x110000 → y < 0x110000 → d ∈ [x, y] →
      d < 0x110000 := by
    intro x y h1 h2 m
    rcases List.mem_cons.mp m with rfl | m
    · exact h1
    · rw [List.mem_singleton.mp m]; exact h2
  split at hd
  · exact two (by decide) hc hd
  split at hd
  · exact two (by decide) (by decide) hd
  split at hd
  · exact two (by decide) (by decide) hd
  split at hd
  · exact two (by decide) (by decide) hd
  split at hd
  · rw [List.mem_singleton.mp hd]; exact hc
  split at hd
  · rcases List.mem_append.mp hd with h | h
    · exact two (by decide) (by decide) h
    · exact hx 2 d h
  split at hd
  · rcases List.mem_append.mp hd with h | h
    · exact two (by decide) (by decide) h
    · exact hx 4 d h
  · rcases List.mem_append.mp hd with h | h
    · exact two (by decide) (by decide) h
    · exact hx 8 d h
theorem okc_fold (q : Nat) : ∀ (l : List Nat) (acc : Array Nat),
    (∀ c ∈ l, c < 0x110000) → (∀ c ∈ acc.toList, c < 0x110000) →
    ∀ c ∈ (l.foldl (fun out c => out ++ (PySem.Builtin.Str.reprChar q c).toArray) acc).toList,
      c < 0x110000
  | [], _, _, h => h
  | x :: r, acc, hl, ha => by
    refine okc_fold q r _ (fun c hc => hl c (List.mem_cons_of_mem _ hc)) ?_
    intro c hc
    rw [Array.toList_append] at hc
    rcases List.mem_append.mp hc with h | h
    · exact ha c h
    · exact okc_char (hl x List.mem_cons_self) c h
theorem okc_repr {x : Str} (h : Okc x) : Okc (reprText x) := by
  have hq : reprQuote x < 0x110000 := by
    unfold reprQuote
    split <;> decide
  intro c hc
  unfold reprText at hc
  rw [Array.toList_push, ← Array.foldl_toList] at hc
  rcases List.mem_append.mp hc with m | m
  · refine okc_fold _ _ _ h (fun c hc => ?_) c m
    rw [List.mem_singleton.mp hc]
    exact hq
  · rw [List.mem_singleton.mp m]
    exact hq
theorem okc_from : ∀ (ts : List Str) (k : Nat) (acc : Str), Okc acc →
    (∀ t ∈ ts, Okc t) → Okc (textFrom k acc ts)
  | [], _, _, h, _ => h
  | t :: ts, k, acc, h, hs => by
    refine okc_from ts (k + 1) _ (okc_app (okc_app h (okc_lit _))
      (hs t List.mem_cons_self)) fun u hu => hs u (List.mem_cons_of_mem _ hu)
theorem okc_list {ts : List Str} (h : ∀ t ∈ ts, Okc t) : Okc (listText ts) :=
  okc_app (okc_from ts 0 _ (okc_lit _) h) (okc_lit _)
theorem okc_join {s : Str} (hs : Okc s) : ∀ (ts : List Str), (∀ t ∈ ts, Okc t) →
    Okc (Str.join s ts)
  | [], _ => fun _ h => by simp [Str.join, Str.empty] at h
  | [x], h => h x List.mem_cons_self
  | x :: y :: r, h => okc_app (okc_app (h x List.mem_cons_self) hs)
    (okc_join hs (y :: r) fun t ht => h t (List.mem_cons_of_mem _ ht))
theorem okc_tuple {ts : List Str} (h : ∀ t ∈ ts, Okc t) : Okc (tupleText ts) :=
  okc_app (okc_app (okc_lit _) (okc_join (okc_lit _) ts h)) (okc_lit _)
mutual
theorem okc_shown : ∀ d : PyData, d.canLay0 = true → Okc d.shown
  | .none, _ => by simp only [PyData.shown]; exact okc_lit _
  | .bool b, _ => by
    simp only [PyData.shown]
    cases b <;> exact okc_lit _
  | .int i, _ => by simp only [PyData.shown]; exact okc_lit _
  | .str x, h => by
    simp only [PyData.shown]
    refine okc_repr fun c hc => ?_
    have h1 : PyData.strOk x = true := by
      simpa only [PyData.canLay0] using h
    have h' : (x.cps.all (· < 0x110000)) = true := h1
    rw [Array.all_eq_true'] at h'
    exact of_decide_eq_true (h' c (Array.mem_toList_iff.mp hc))
  | .list xs, h => by
    simp only [PyData.shown]
    exact okc_list (okc_shownA xs (by simpa only [PyData.canLay0] using h))
  | .tuple xs, h => by
    simp only [PyData.shown]
    exact okc_tuple (okc_shownA xs (by simpa only [PyData.canLay0] using h))
  | .dict kvs, h => by simp only [PyData.canLay0] at h; cases h
theorem okc_shownA : ∀ ds : List PyData, PyData.canLayAll0 ds = true →
    ∀ t ∈ PyData.shownAll ds, Okc t
  | [], _ => fun t ht => by simp only [PyData.shownAll] at ht; cases ht
  | d :: ds, h => fun t ht => by
    simp only [PyData.canLayAll0, Bool.and_eq_true] at h
    simp only [PyData.shownAll] at ht
    rcases List.mem_cons.mp ht with rfl | m
    · exact okc_shown d h.1
    · exact okc_shownA ds h.2 t m
end
/-! ### lists of texts as data -/
abbrev dTx (ts : List Str) : List PyData := ts.map .str
theorem lay_Tx : ∀ {ts : List Str}, (∀ t ∈ ts, Okc t) →
    PyData.canLayAll0 (dTx ts) = true
  | [], _ => by simp [PyData.canLayAll0]
  | t :: ts, h => by
    have ih := lay_Tx (ts := ts) fun x hx => h x (List.mem_cons_of_mem _ hx)
    show PyData.canLayAll0 (.str t :: dTx ts) = true
    simp only [PyData.canLayAll0, PyData.canLay0, Bool.and_eq_true]
    refine ⟨?_, ih⟩
    show t.cps.all (· < 0x110000) = true
    rw [Array.all_eq_true']
    exact fun c hc => decide_eq_true (h t List.mem_cons_self c
      (Array.mem_toList_iff.mpr hc))
theorem depth_Tx : ∀ ts : List Str, PyData.depthAll (dTx ts) ≤ 1
  | [] => by simp [PyData.depthAll]
  | t :: ts => by
    have ih := depth_Tx ts
    show PyData.depthAll (.str t :: dTx ts) ≤ 1
    simp only [PyData.depthAll, PyData.depth]
    omega
theorem shaped_Tx {ts : List Str} (h : ∀ t ∈ ts, Okc t) :
    SeqAt.shaped (.list (dTx ts)) = true := by
  unfold SeqAt.shaped
  rw [show PyData.canLay0 (.list (dTx ts)) = PyData.canLayAll0 (dTx ts) by
    simp only [PyData.canLay0], lay_Tx h]
  have e : (PyData.list (dTx ts)).depth = PyData.depthAll (dTx ts) + 1 := by
    simp only [PyData.depth]
  have := depth_Tx ts
  exact decide_eq_true (by omega)
theorem dpAll_Tx {K : PySem.W.Frag} {H : Hp} : ∀ ts : List Str,
    DpAll K H (ts.map V.str) (dTx ts)
  | [] => .nil
  | _ :: ts => .cons (.str _) (dpAll_Tx ts)
theorem dp_Tx {K : PySem.W.Frag} {H : Hp} {a : Addr} {ts : List Str}
    (h : SqL K H a (ts.map V.str)) : Dp K H (.ref a) (.list (dTx ts)) :=
  .lst h (dpAll_Tx ts)
theorem eqv_TAx : ∀ ts us : List Str,
    PyData.eqvAll (dTx ts) (dTx us) = decide (ts = us)
  | [], [] => by simp [PyData.eqvAll]
  | [], u :: us => by simp [PyData.eqvAll]
  | t :: ts, [] => by simp [PyData.eqvAll]
  | t :: ts, u :: us => by
    have ih := eqv_TAx ts us
    show PyData.eqvAll (.str t :: dTx ts) (.str u :: dTx us) = _
    simp only [PyData.eqvAll, PyData.eqv, ih]
    by_cases h1 : t = u <;> by_cases h2 : ts = us <;> simp [h1, h2]
theorem eqv_Tx (ts us : List Str) :
    PyData.eqv (.list (dTx ts)) (.list (dTx us)) = decide (ts = us) := by
  rw [show PyData.eqv (.list (dTx ts)) (.list (dTx us)) =
    PyData.eqvAll (dTx ts) (dTx us) by simp only [PyData.eqv]]
  exact eqv_TAx ts us
end OM
namespace OM
open PySem PySem.Spec PyProof.Rows L2
/-! ### small data: short texts, some numbers, a dozen parts, a few levels -/
def IntS (i : Int) : Prop := (-1 ≤ i ∧ i ≤ 140) ∨ i = 10 ^ 30
inductive Sml : Nat → PyData → Prop
  | non (n : Nat) : Sml n .none
  | bl (n : Nat) (b : Bool) : Sml n (.bool b)
  | int (n : Nat) {i : Int} : IntS i → Sml n (.int i)
  | str (n : Nat) {x : Str} : x.length ≤ 64 → Okc x → Sml n (.str x)
  | l0 (n : Nat) : Sml n (.list [])
  | t0 (n : Nat) : Sml n (.tuple [])
  | d0 (n : Nat) : Sml n (.dict [])
  | lst {n : Nat} {ds : List PyData} : ds.length ≤ 12 →
      (∀ i j, ds ≠ [.int i, .int j]) → (∀ d ∈ ds, Sml n d) → Sml (n + 1) (.list ds)
  | tup {n : Nat} {ds : List PyData} : ds.length ≤ 12 → (∀ d ∈ ds, Sml n d) →
      Sml (n + 1) (.tuple ds)
def smB : Nat → Nat
  | 0 => 700
  | n + 1 => 12 * (smB n + 2) + 3
theorem smB_lo : ∀ n, 700 ≤ smB n
  | 0 => Nat.le_refl _
  | n + 1 => by
    have := smB_lo n
    show 700 ≤ 12 * (smB n + 2) + 3
    omega
theorem int_small : ∀ i : Fin 142, (PyData.int ((i.val : Int) - 1)).showable = true ∧
    (PyData.int ((i.val : Int) - 1)).shown.length ≤ 5 := by decide +kernel
theorem int_big : (PyData.int (10 ^ 30)).showable = true ∧
    (PyData.int (10 ^ 30)).shown.length ≤ 40 := by decide +kernel
theorem intS_ok {i : Int} (h : IntS i) : (PyData.int i).showable = true ∧
    (PyData.int i).shown.length ≤ 40 := by
  rcases h with ⟨h1, h2⟩ | rfl
  · have := int_small ⟨(i + 1).toNat, by omega⟩
    have e : ((⟨(i + 1).toNat, by omega⟩ : Fin 142).val : Int) - 1 = i := by
      show (((i + 1).toNat : Nat) : Int) - 1 = i
      omega
    rw [e] at this
    exact ⟨this.1, by omega⟩
  · exact int_big
theorem showA {ds : List PyData} (h : ∀ d ∈ ds, d.showable = true) :
    PyData.showableAll ds = true := by
  induction ds with
  | nil => simp [PyData.showableAll]
  | cons d ds ih =>
    simp only [PyData.showableAll]
    rw [h d List.mem_cons_self, ih fun x hx => h x (List.mem_cons_of_mem _ hx)]
    rfl
theorem depthA {m : Nat} {ds : List PyData} (h : ∀ d ∈ ds, d.depth ≤ m) :
    PyData.depthAll ds ≤ m := by
  induction ds with
  | nil => simp [PyData.depthAll]
  | cons d ds ih =>
    have a := h d List.mem_cons_self
    have b := ih fun x hx => h x (List.mem_cons_of_mem _ hx)
    simp only [PyData.depthAll]
    omega
theorem piledA {m : Nat} {ds : List PyData} (h : ∀ d ∈ ds, d.shown.length ≤ m) :
    piled (PyData.shownAll ds) ≤ ds.length * (m + 2) := by
  induction ds with
  | nil => simp [PyData.shownAll, piled]
  | cons d ds ih =>
    have a := h d List.mem_cons_self
    have b := ih fun x hx => h x (List.mem_cons_of_mem _ hx)
    simp only [PyData.shownAll]
    rw [piled_cons, List.length_cons, Nat.add_mul]
    omega
theorem lst_le (ds : List PyData) : (PyData.list ds).shown.length ≤
    piled (PyData.shownAll ds) + 3 := by
  have e : (PyData.list ds).shown = listText (PyData.shownAll ds) := by
    simp only [PyData.shown]
  rw [e]
  have := listText_len_le (PyData.shownAll ds)
  rw [sum_piled] at this
  exact this
theorem tup_le (ds : List PyData) : (PyData.tuple ds).shown.length ≤
    piled (PyData.shownAll ds) + 3 := by
  have e : (PyData.tuple ds).shown = tupleText (PyData.shownAll ds) := by
    simp only [PyData.shown]
  rw [e]
  have := tupleText_len_le (PyData.shownAll ds)
  rw [sum_piled] at this
  exact this
theorem sml_ok {n : Nat} {d : PyData} (h : Sml n d) : d.showable = true ∧
    d.depth ≤ n + 1 ∧ d.shown.length ≤ smB n := by
  induction h with
  | non n =>
    have := smB_lo n
    refine ⟨by simp [PyData.showable], by simp [PyData.depth], ?_⟩
    exact Nat.le_trans (show PyData.none.shown.length ≤ 700 by decide +kernel) this
  | bl n b =>
    have := smB_lo n
    refine ⟨by simp [PyData.showable], by simp [PyData.depth], ?_⟩
    refine Nat.le_trans ?_ this
    cases b <;> decide +kernel
  | @int n i hi =>
    have := smB_lo n
    obtain ⟨a, b⟩ := intS_ok hi
    exact ⟨a, by simp [PyData.depth], by omega⟩
  | @str n x hx ho =>
    have := smB_lo n
    refine ⟨by simp [PyData.showable], by simp [PyData.depth], ?_⟩
    have e : (PyData.str x).shown = reprText x := by simp only [PyData.shown]
    rw [e]
    have := StrLaws.reprText_len x fun c hc => Nat.lt_of_lt_of_le (ho c hc) (by decide)
    omega
  | l0 n =>
    have := smB_lo n
    refine ⟨by simp [PyData.showable, PyData.showableAll],
      by simp [PyData.depth, PyData.depthAll], ?_⟩
    exact Nat.le_trans (show (PyData.list []).shown.length ≤ 700 by decide +kernel) this
  | t0 n =>
    have := smB_lo n
    refine ⟨by simp [PyData.showable, PyData.showableAll],
      by simp [PyData.depth, PyData.depthAll], ?_⟩
    exact Nat.le_trans (show (PyData.tuple []).shown.length ≤ 700 by decide +kernel) this
  | d0 n =>
    have := smB_lo n
    refine ⟨by simp [PyData.showable, PyData.showableKv],
      by simp [PyData.depth, PyData.depthKv], ?_⟩
    exact Nat.le_trans (show (PyData.dict []).shown.length ≤ 700 by decide +kernel) this
  | @lst n ds hl _ hs ih =>
    refine ⟨?_, ?_, ?_⟩
    · simp only [PyData.showable]
      exact showA fun d hd => (ih d hd).1
    · have := depthA fun d hd => (ih d hd).2.1
      rw [show (PyData.list ds).depth = PyData.depthAll ds + 1 by
        simp only [PyData.depth]]
      omega
    · have a := piledA fun d hd => (ih d hd).2.2
      have b := lst_le ds
      have c : ds.length * (smB n + 2) ≤ 12 * (smB n + 2) := Nat.mul_le_mul_right _ hl
      show _ ≤ 12 * (smB n + 2) + 3
      omega
  | @tup n ds hl hs ih =>
    refine ⟨?_, ?_, ?_⟩
    · simp only [PyData.showable]
      exact showA fun d hd => (ih d hd).1
    · have := depthA fun d hd => (ih d hd).2.1
      rw [show (PyData.tuple ds).depth = PyData.depthAll ds + 1 by
        simp only [PyData.depth]]
      omega
    · have a := piledA fun d hd => (ih d hd).2.2
      have b := tup_le ds
      have c : ds.length * (smB n + 2) ≤ 12 * (smB n + 2) := Nat.mul_le_mul_right _ hl
      show _ ≤ 12 * (smB n + 2) + 3
      omega
theorem smB_line : ∀ n, n ≤ 4 → smB n ≤ sizeLine := by decide +kernel
theorem Sml.up {n : Nat} {d : PyData} (h : Sml n d) : ∀ m, n ≤ m → Sml m d := by
  induction h with
  | non n => exact fun m _ => .non m
  | bl n b => exact fun m _ => .bl m b
  | int n hi => exact fun m _ => .int m hi
  | str n hx ho => exact fun m _ => .str m hx ho
  | l0 n => exact fun m _ => .l0 m
  | t0 n => exact fun m _ => .t0 m
  | d0 n => exact fun m _ => .d0 m
  | @lst n ds hl hn hs ih =>
    intro m hm
    obtain ⟨k, rfl⟩ : ∃ k, m = k + 1 := ⟨m - 1, by omega⟩
    exact .lst hl hn fun d hd => ih d hd k (by omega)
  | @tup n ds hl hs ih =>
    intro m hm
    obtain ⟨k, rfl⟩ : ∃ k, m = k + 1 := ⟨m - 1, by omega⟩
    exact .tup hl fun d hd => ih d hd k (by omega)
theorem DXs.each {H H' : Hp} : ∀ {ds : List PyData} {vs : List V},
    (∀ d ∈ ds, ∀ v, DX H v d → DX H' v d) → DXs H vs ds → DXs H' vs ds
  | _, _, _, .nil => .nil
  | _, _, k, .cons h t => .cons (k _ List.mem_cons_self _ h)
    (DXs.each (fun d hd => k d (List.mem_cons_of_mem _ hd)) t)
/-- the drawing state is none of it -/
theorem DX.bu {H H' : Hp} {p : Addr} (r : Rng H p) (b : But p H H') {n : Nat}
    {d : PyData} (sm : Sml n d) : ∀ v, DX H v d → DX H' v d := by
  obtain ⟨i0, j0, ep, _⟩ := r
  induction sm with
  | non n => intro v h; cases h; exact .non
  | bl n b => intro v h; cases h; exact .bl _
  | int n hi => intro v h; cases h; exact .int _
  | str n hx ho => intro v h; cases h; exact .str _
  | l0 n =>
    intro v h
    cases h with
    | lst e t =>
      cases t
      exact .lst (b _ _ e (ne_of e ep fun z => by cases HO.lst.inj z)) .nil
  | t0 n =>
    intro v h
    cases h with
    | tup e t =>
      cases t
      exact .tup (b _ _ e (ne_of e ep nofun)) .nil
  | d0 n =>
    intro v h
    cases h with
    | d0 e => exact .d0 (b _ _ e (ne_of e ep nofun))
  | @lst n ds hl hn hs ih =>
    intro v h
    cases h with
    | lst e t =>
      refine .lst (b _ _ e (ne_of e ep fun z => ?_)) (DXs.each ih t)
      have z := HO.lst.inj z
      subst z
      match ds, t with
      | _, .cons h1 (.cons h2 .nil) =>
        cases h1
        cases h2
        exact hn _ _ rfl
  | @tup n ds hl hs ih =>
    intro v h
    cases h with
    | tup e t => exact .tup (b _ _ e (ne_of e ep nofun)) (DXs.each ih t)
/-! ### what kind of value -/
def isTup : PyData → Bool
  | .tuple _ => true
  | _ => false
def isLst : PyData → Bool
  | .list _ => true
  | _ => false
def isStr : PyData → Bool
  | .str _ => true
  | _ => false
def isInB : PyData → Bool
  | .int _ => true
  | .bool _ => true
  | _ => false
def isBoo : PyData → Bool
  | .bool _ => true
  | _ => false
theorem kitS {K : PySem.W.Frag} (T : String) (a b c d e : Bool)
    (h : kitB T "tuple" = some a ∧ kitB T "list" = some b ∧ kitB T "str" = some c ∧
      kitB T "int" = some d ∧ kitB T "bool" = some e) :
    PySem.W.kitOne K (.type T) (.type "tuple") = some a ∧
      PySem.W.kitOne K (.type T) (.type "list") = some b ∧
      PySem.W.kitOne K (.type T) (.type "str") = some c ∧
      PySem.W.kitOne K (.type T) (.type "int") = some d ∧
      PySem.W.kitOne K (.type T) (.type "bool") = some e :=
  ⟨kit_ty h.1, kit_ty h.2.1, kit_ty h.2.2.1, kit_ty h.2.2.2.1, kit_ty h.2.2.2.2⟩
theorem DX.kit {K : PySem.W.Frag} {H : Hp} {v : V} {d : PyData} (h : DX H v d) :
    ∃ t, TyX K H v t ∧ PySem.W.kitOne K t (.type "tuple") = some (isTup d) ∧
      PySem.W.kitOne K t (.type "list") = some (isLst d) ∧
      PySem.W.kitOne K t (.type "str") = some (isStr d) ∧
      PySem.W.kitOne K t (.type "int") = some (isInB d) ∧
      PySem.W.kitOne K t (.type "bool") = some (isBoo d) := by
  cases h with
  | non => exact ⟨_, .base .non, kitS "NoneType" false false false false false (by decide +kernel)⟩
  | bl b => exact ⟨_, .base (.bl b), kitS "bool" false false false true true (by decide +kernel)⟩
  | int i => exact ⟨_, .base (.int i), kitS "int" false false false true false (by decide +kernel)⟩
  | str x => exact ⟨_, .base (.str x), kitS "str" false false true false false (by decide +kernel)⟩
  | lst e _ => exact ⟨_, .base (.lst e), kitS "list" false true false false false (by decide +kernel)⟩
  | tup e _ => exact ⟨_, .base (.tup e), kitS "tuple" true false false false false (by decide +kernel)⟩
  | d0 e => exact ⟨_, .base (.dK e), kitS "dict" false false false false false (by decide +kernel)⟩
  | d1 e _ => exact ⟨_, .base (.dK e), kitS "dict" false false false false false (by decide +kernel)⟩
end OM
namespace OM
open PySem PySem.Spec PyProof.Rows L2
/-! ### data with dicts: its parts; what the drawing state is no part of; what can be shown -/
theorem dx_str {H : Hp} {x : V} {d : PyData} (h : DX H x d) (e : isStr d = true) : ∃ s, x = .str s ∧ d = .str s := by
  cases h <;> first | exact ⟨_, rfl, rfl⟩ | cases e
theorem dx_tup {H : Hp} {v : V} {ds : List PyData} (h : DX H v (.tuple ds)) : ∃ t xs, v = .ref t ∧ H t = some (.tup xs) ∧ DXs H xs ds := by
  cases h with
  | tup e t => exact ⟨_, _, rfl, e, t⟩
theorem dx_lst {H : Hp} {v : V} {ds : List PyData} (h : DX H v (.list ds)) : ∃ t xs, v = .ref t ∧ H t = some (.lst xs) ∧ DXs H xs ds := by
  cases h with
  | lst e t => exact ⟨_, _, rfl, e, t⟩
theorem dxs_len {H : Hp} : ∀ {xs : List V} {ds : List PyData}, DXs H xs ds → xs.length = ds.length
  | _, _, .nil => rfl
  | _, _, .cons _ t => congrArg (· + 1) (dxs_len t)
theorem dxs_get {H : Hp} : ∀ {xs : List V} {ds : List PyData} {i : Nat} {v : V}, DXs H xs ds → xs[i]? = some v →
    ∃ d, ds[i]? = some d ∧ DX H v d
  | _, _, _, _, .nil, h => by simp at h
  | _, _, 0, _, .cons a _, h => by
    cases h
    exact ⟨_, rfl, a⟩
  | _, _, i + 1, _, .cons _ t, h => dxs_get (i := i) t h
def hide (p : Addr) (H : Hp) : Hp := fun a => if a = p then none else H a
theorem hide_of {p a : Addr} {H : Hp} {o : HO} (n : a ≠ p) (e : H a = some o) : hide p H a = some o := by
  unfold hide
  rw [if_neg n]
  exact e
theorem hide_to {p a : Addr} {H : Hp} {o : HO} (e : hide p H a = some o) : a ≠ p ∧ H a = some o := by
  unfold hide at e
  split at e
  · cases e
  · rename_i c
    exact ⟨c, e⟩
theorem hide_le {p : Addr} {H : Hp} : Same (hide p H) H := fun _ _ e => (hide_to e).2
theorem hide_but {p : Addr} {H H' : Hp} (b : But p H H') : Same (hide p H) (hide p H') := fun a o e => by
  obtain ⟨n, e⟩ := hide_to e
  exact hide_of n (b _ _ e n)
theorem hide_same {p : Addr} {H H' : Hp} (b : Same H H') : Same (hide p H) (hide p H') := hide_but (But.of b)
theorem hid {p a : Addr} {H H' : Hp} {o : HO} (r : Rng H p) (n : H a = none) (e : H' a = some o) : hide p H' a = some o :=
  hide_of (r.ne n).symm e
theorem But.hide {p v : Addr} {H H' : Hp} (b : But p H H') : But p (hide v H) (hide v H') := fun a o e n => by
  obtain ⟨n1, e⟩ := hide_to e
  exact hide_of n1 (b _ _ e n)
theorem hide_new {v : Addr} {H H' : Hp} (s : Same H H') (n : H v = none) : Same H (hide v H') := fun a o e =>
  hide_of (ne_of_none e n) (s _ _ e)
theorem hide_put {v : Addr} {H : Hp} {o : HO} : Same (hide v H) (upd H v o) := fun a x e => by
  obtain ⟨n, e⟩ := hide_to e
  rw [upd_ne n]
  exact e
theorem Rng.but_hide {p v : Addr} {H : Hp} (r : Rng H p) (n : v ≠ p) : Rng (OM.hide v H) p := by
  obtain ⟨x, y, e, z⟩ := r
  exact ⟨x, y, hide_of n.symm e, z⟩
def Sh (n m : Nat) (e : PyData) : Prop := e.showable = true ∧ e.depth ≤ n ∧ e.shown.length ≤ m
theorem Sh.up {n m n' m' : Nat} {e : PyData} (s : Sh n m e) (a : n ≤ n') (b : m ≤ m') : Sh n' m' e :=
  ⟨s.1, Nat.le_trans s.2.1 a, Nat.le_trans s.2.2 b⟩
theorem sh_sml {n : Nat} {e : PyData} (h : Sml n e) : Sh (n + 1) (smB n) e := sml_ok h
theorem sh_lst {n m : Nat} {ds : List PyData} (h : ∀ d ∈ ds, Sh n m d) : Sh (n + 1) (ds.length * (m + 2) + 3) (.list ds) := by
  refine ⟨?_, ?_, ?_⟩
  · simp only [PyData.showable]
    exact showA fun d hd => (h d hd).1
  · have := depthA fun d hd => (h d hd).2.1
    rw [show (PyData.list ds).depth = PyData.depthAll ds + 1 by simp only [PyData.depth]]
    omega
  · have a := piledA fun d hd => (h d hd).2.2
    have b := lst_le ds
    omega
theorem sh_tup {n m : Nat} {ds : List PyData} (h : ∀ d ∈ ds, Sh n m d) : Sh (n + 1) (ds.length * (m + 2) + 3) (.tuple ds) := by
  refine ⟨?_, ?_, ?_⟩
  · simp only [PyData.showable]
    exact showA fun d hd => (h d hd).1
  · have := depthA fun d hd => (h d hd).2.1
    rw [show (PyData.tuple ds).depth = PyData.depthAll ds + 1 by simp only [PyData.depth]]
    omega
  · have a := piledA fun d hd => (h d hd).2.2
    have b := tup_le ds
    omega
theorem shb {b : Bool} : (PyData.bool b).showable = true ∧ (PyData.bool b).depth ≤ 60 ∧ (PyData.bool b).shown.length ≤ sizeLine := by
  obtain ⟨a, b', c⟩ := sh_sml (.bl 0 b)
  exact ⟨a, Nat.le_trans b' (by omega), Nat.le_trans c (by decide)⟩
end OM
namespace OM
open PySem PySem.Spec PyProof.Rows L2
/-! ### the first problem of a list -/
def tx : V → Option (List Nat)
  | .str x => some x.cps.toList
  | _ => none
def jd : List (List Nat) → Nat → List (Option (List Nat)) → Option (Str × Nat)
  | _, _, [] => none
  | _, i, none :: _ => some ("name", i)
  | seen, i, some l :: r =>
    if nmB l = true then
      if l ∈ seen then some ("duplicate", i) else jd (seen ++ [l]) (i + 1) r
    else some ("name", i)
def judge (xs : List V) : Option (Str × Nat) :=
  match jd [] 0 (xs.map tx) with
  | some r => some r
  | none => if 1 ≤ xs.length ∧ xs.length ≤ 40 then none else some ("count", 0)
/-- a value that is_name tells: a text, or one of another type -/
def Elt (K : PySem.W.Frag) (H : Hp) (v : V) : Prop :=
  (∃ l, v = vS l ∧ l.length ≤ 10000) ∨
  (∃ t, TyX K H v t ∧ PySem.W.kitOne K t (.type "str") = some false ∧
    tx v = none)
theorem TyOf.same {K : PySem.W.Frag} {H H' : Hp} {v : V} {t : Value}
    (h : TyOf K H v t) (s : Same H H') : TyOf K H' v t := by
  cases h with
  | non => exact .non
  | bl x => exact .bl x
  | int i => exact .int i
  | str x => exact .str x
  | flt x => exact .flt x
  | lst e => exact .lst (s _ _ e)
  | frz e => exact .frz (s _ _ e)
  | tup e => exact .tup (s _ _ e)
  | dK e => exact .dK (s _ _ e)
  | dT e => exact .dT (s _ _ e)
  | ins e cl ha hn ht hm => exact .ins (s _ _ e) cl ha hn ht hm
/-- the types that are asked about, and stay -/
def TyS (K : PySem.W.Frag) (H : Hp) (v : V) (t : Value) : Prop := TyOf K H v t
/-- InvalidBase leaves -/
def IbOut (C : Addr) (H : Hp) (E : XK) (r : Str × Nat) : Prop :=
  ∀ d H', H d = none → H' d = some (.xd [("position", .int (r.2 : Nat)),
    ("problem", .str r.1)]) → Same H H' → E (.ref C) (some d) H'
theorem IbOut.back {C : Addr} {H H1 : Hp} {E : XK} {r : Str × Nat}
    (h : IbOut C H E r) (s : Same H H1) : IbOut C H1 E r :=
  fun d H' n e s' => h d H' (s.free n) e (s.trans s')
def Elt1 (K : PySem.W.Frag) (H : Hp) (v : V) : Prop :=
  (∃ l, v = vS l ∧ l.length ≤ 10000) ∨
  (∃ t, TyOf K H v t ∧ PySem.W.kitOne K t (.type "str") = some false ∧
    tx v = none)
theorem Elt1.same {K : PySem.W.Frag} {H H' : Hp} {v : V}
    (h : Elt1 K H v) (s : Same H H') : Elt1 K H' v := by
  rcases h with h | ⟨t, a, b, c⟩
  · exact .inl h
  · exact .inr ⟨t, OM.TyOf.same a s, b, c⟩
/-- names_fault tells a problem -/
def NfOut (H : Hp) (Q : V → Hp → Prop) (r : Str × Nat) : Prop :=
  ∀ t H', H' t = some (.tup [.str r.1, .int (r.2 : Nat)]) → Same H H' →
    Q (.ref t) H'
theorem NfOut.back {H H1 : Hp} {Q : V → Hp → Prop} {r : Str × Nat}
    (h : NfOut H Q r) (s : Same H H1) : NfOut H1 Q r :=
  fun t H' e s' => h t H' e (s.trans s')
/-- names_fault, whatever it is given -/
def spNfX (K : PySem.W.Frag) : Sp := fun vs H Q _ =>
  ∃ v, vs = [v, .int 40] ∧
  ((∃ t, TyOf K H v t ∧ PySem.W.kitOne K t (.type "list") = some false ∧
      NfOut H Q ("list", 0)) ∨
   (∃ a xs, v = .ref a ∧ H a = some (.lst xs) ∧ (∀ x ∈ xs, Elt1 K H x) ∧
      xs.length ≤ 1000 ∧
      (∀ r, judge xs = some r → NfOut H Q r) ∧
      (judge xs = none → ∀ H', Same H H' → Q .non H')))
/-- check_items, whatever it is given -/
def spCheckX (K : PySem.W.Frag) (C : Addr) : Sp := fun vs H Q E =>
  ∃ v, vs = [v] ∧
  ((∃ t, TyOf K H v t ∧ PySem.W.kitOne K t (.type "list") = some false ∧
      IbOut C H E ("list", 0)) ∨
   (∃ a xs, v = .ref a ∧ H a = some (.lst xs) ∧ (∀ x ∈ xs, Elt1 K H x) ∧
      xs.length ≤ 1000 ∧
      (∀ r, judge xs = some r → IbOut C H E r) ∧
      (judge xs = none → ∀ H', Same H H' → Q .non H')))
theorem jd_step {ls : List (List Nat)} {l : List Nat} {i : Nat}
    {r : List (Option (List Nat))} (h1 : nmB l = true) (h2 : l ∉ ls) :
    jd ls i (some l :: r) = jd (ls ++ [l]) (i + 1) r := by
  show (if nmB l = true then _ else _) = _
  rw [if_pos h1, if_neg h2]
theorem drop_cons {α : Type} {xs : List α} {i : Nat} {x : α}
    (h : xs[i]? = some x) : xs.drop i = x :: xs.drop (i + 1) := by
  obtain ⟨hi, e⟩ := List.getElem?_eq_some_iff.mp h
  rw [List.drop_eq_getElem_cons hi, e]
section
variable {P : Program} {w : World} {K : PySem.W.Frag}
  {mg : Str → Option Value} {base : Heap} {CI : Addr}
/-- self.problem = problem; self.position = position -/
theorem ok_ibinit {f : Addr} {fd : FuncData} {k : Nat} {q : Str}
    (F : Fun K "__init__" q s_InvalidBase_init f fd) (T : OexC K CI)
    (n1 : PySem.W.findIn K (.ref CI) "problem" = some none)
    (n2 : PySem.W.findIn K (.ref CI) "position" = some none) :
    FnOk P w K mg base CX0 (k + 1) f fd ["self", "problem", "position"]
      (spX2 CI "problem" "position") := by
  refine F.ok sc_InvalidBase_init (fun vs H Q E h => ?_)
    (fun cv A outer s H vs Q E hr h => ?_)
  · obtain ⟨a, v1, v2, rfl, _⟩ := h
    rfl
  obtain ⟨a, v1, v2, rfl, ha, q⟩ := h
  refine ⟨_, pss_cons (ps_ost (pv 0) (pv 1)) (pss_one (ps_ost (pv 0) (pv 2))),
    ?_⟩
  refine ⟨_, rfl, _, rfl, a, CI, rfl, T, n1, .inl ⟨ha, fun dx nd ne => ?_⟩⟩
  refine ⟨_, rfl, _, rfl, a, CI, rfl, T, n2, .inr ⟨dx,
    [("problem", v1)], upd_same, ?_, ?_, ?_⟩⟩
  · rw [upd_ne ne, upd_same]
  · simp
  · exact q dx nd ne
theorem ok_nfaultX {f : Addr} {fd : FuncData} {k : Nat}
    (F : Fun K "names_fault" "names_fault" s_names_fault f fd) (B : Bl mg)
    (C : CalIsName P w K mg base k) :
    FnOk P w K mg base CX0 (k + 1) f fd ["value", "most"] (spNfX K) := by
  refine F.ok sc_names_fault (fun vs H Q E h => ?_)
    (fun cv A outer s H vs Q E hr h => ?_)
  · obtain ⟨v, rfl, _⟩ := h
    rfl
  obtain ⟨v, rfl, h⟩ := h
  have nd := sc_names_fault.nd
  refine ⟨_, pss_cons (ps_if (pt_not (pt_val
      (pe_callB call_isi (by rfl) B.isi bt_isi (pa_cons (pv 0) (pa_cons
        (pe_bltn (v := .ty "list") (by rfl) B.list bt_list rfl) pa_nil)))))
      (pss_one (ps_ret (pe_tup (pa_cons pe_str (pa_cons pe_int pa_nil))))) pss_nil)
    (pss_cons (ps_set (i := 2) nd rfl (.inl rfl)
      (pe_callTy0 cr_set0K (by rfl) B.set bt_set))
    (pss_cons (ps_for PassesOwn.never rfl
      (pi_enum (by rfl) B.enum (pa_cons (pv 0) pa_nil))
      (pg_tup rfl (pgs_cons (pg_name (i := 3) nd rfl (.inl rfl))
        (pgs_cons (pg_name (i := 4) nd rfl (.inl rfl)) pgs_nil)))
      (pss_cons (ps_if (pt_not (pt_val (pe_cal C hr (pa_cons (pv 4) pa_nil))))
        (pss_one (ps_ret (pe_tup (pa_cons pe_str (pa_cons (pv 3) pa_nil))))) pss_nil)
      (pss_cons (ps_if (pt_cmpR or_sinK (pv 4) (pv 2) (by rfl))
        (pss_one (ps_ret (pe_tup (pa_cons pe_str (pa_cons (pv 3) pa_nil))))) pss_nil)
      (pss_one (ps_expr (pe_saddK (pv 2) (pa_cons (pv 4) pa_nil)))))))
    (pss_cons (ps_if (pt_mid (pt_not (pt_chain op_le op_le pe_int
        (pe_callB call_len_seq (by rfl) B.len PySem.boot_len
          (pa_cons (pv 0) pa_nil)) (pv 1))))
      (pss_one (ps_ret (pe_tup (pa_cons pe_str (pa_cons pe_int pa_nil)))))
      pss_nil) (pss_one (ps_ret pe_non))))), ?_⟩
  rcases h with ⟨t, ty, kt, out⟩ | ⟨a, xs, rfl, ha, el, hx, bad, good⟩
  · refine ⟨_, rfl, _, _, _, _, false, rfl, .ty "list", .base ty, kt, _, rfl,
      iteT ⟨sz (by simp), fun t nt => ?_⟩⟩
    exact out t _ upd_same (sameNew nt)
  refine ⟨_, rfl, _, _, _, _, true, rfl, .ty "list", .base (.lst ha),
    kit_ty (by decide +kernel), _, rfl, iteF ?_⟩
  refine ⟨rfl, fun sn nsn => ?_⟩
  have nas : a ≠ sn := ne_of_none ha nsn
  have ha1 : (upd H sn (SetK P w sn (fun _ => false) 0)) a = some (.lst xs) := by
    rw [upd_ne nas]; exact ha
  refine ⟨_, rfl, a, _, rfl, SqL.of ha1, ?_⟩
  refine for_it (walk_enum (K := K) (a := a) (xs := xs))
    (fun i σ H' => ∃ (ls : List (List Nat)) (S : Key → Bool) (n : Nat)
      (y z : Option V),
      σ = [some (.ref a), some (.int 40), some (.ref sn), y, z] ∧ n ≤ i ∧ ls.length = i ∧
      xs.take i = ls.map vS ∧ (∀ l ∈ ls, nmB l = true) ∧
      jd [] 0 (xs.map tx) = jd ls i ((xs.drop i).map tx) ∧
      (∀ l, S (Sum.inr (SX.S l)) = decide (l ∈ ls)) ∧
      H' sn = some (SetK P w sn S n) ∧ H' a = some (.lst xs) ∧ Same H H')
    ⟨[], fun _ => false, 0, none, none, rfl, Nat.le_refl _, rfl, rfl, nofun, rfl,
      fun l => by simp, upd_same, ha1, sameNew nsn⟩
    (fun i σ H' _ z => by
      obtain ⟨_, _, _, _, _, _, _, _, _, _, _, _, _, h, _⟩ := z
      exact SqL.of h)
    ?_ ?_
  · rintro i v σ H1 H2 hi ⟨ls, S, n, y, z, rfl, hn, ll, tk, nml, jde, hS, hs,
      ha2, sm⟩ ⟨T, x1, x2, rfl, nT, rfl, e1, e2⟩
    cases Option.some.inj e1
    have nTs : sn ≠ T := ne_of_none hs nT
    have nTa : a ≠ T := ne_of_none ha2 nT
    have sm1 : Same H (upd H1 T (.tup [.int (i : Nat), x2])) :=
      sm.trans (sameNew nT)
    have dc := drop_cons e2
    rw [dc, List.map_cons] at jde
    have judg : ∀ r, jd ls i (tx x2 :: (xs.drop (i + 1)).map tx) = some r →
        judge xs = some r := fun r hr => by
      unfold judge
      rw [jde, hr]
    have hname : ∀ H3, Same (upd H1 T (.tup [.int (i : Nat), x2])) H3 →
        jd ls i (tx x2 :: (xs.drop (i + 1)).map tx) = some (("name" : Str), i) →
        NfOut H3 Q ("name", i) := fun H3 s3 hj =>
      (bad _ (judg _ hj)).back (sm1.trans s3)
    refine ⟨T, _, rfl, .inl (.inl upd_same), rfl, _, _, rfl, _, _, rfl, rfl,
      ?_⟩
    rcases (el x2 (List.mem_of_getElem? e2)) with ⟨l, rfl, hl⟩ | ⟨t, ty, kt, tn⟩
    · have ell : (SX.S l).length ≤ sizeLine := by
        rw [SX.S_len]; exact sz (by omega)
      refine ⟨_, rfl, _, rfl, .inl ⟨_, rfl, ell, fun H3 s3 => ?_⟩⟩
      have hs3 : H3 sn = some (SetK P w sn S n) :=
        s3 _ _ (by rw [upd_ne nTs]; exact hs)
      have ha3 : H3 a = some (.lst xs) :=
        s3 _ _ (by rw [upd_ne nTa]; exact ha2)
      cases nb : nmB l with
      | false =>
        refine ⟨_, rfl, iteT ⟨_, rfl, sz (by simp), fun t nt => ?_⟩⟩
        refine hname H3 s3 ?_ t _ upd_same (sameNew nt)
        show (if nmB l = true then _ else _) = _
        rw [if_neg (by rw [nb]; exact Bool.false_ne_true)]
      | true =>
        refine ⟨_, rfl, iteF ?_⟩
        refine ⟨_, rfl, _, rfl, Sum.inr (SX.S l), sn, S, n, rfl, rfl, hs3, _, rfl,
          ?_⟩
        by_cases ml : l ∈ ls
        · have st : S (Sum.inr (SX.S l)) = true := by
            rw [hS]; exact decide_eq_true ml
          rw [st]
          refine iteT ⟨_, rfl, sz (by simp), fun t nt => ?_⟩
          refine (bad ("duplicate", i) (judg _ ?_)).back (sm1.trans s3) t _
            upd_same (sameNew nt)
          show (if nmB l = true then _ else _) = _
          rw [if_pos nb, if_pos ml]
        · have sf : S (Sum.inr (SX.S l)) = false := by
            rw [hS]; exact decide_eq_false ml
          rw [sf]
          refine iteF ?_
          refine ⟨_, rfl, ⟨sn, S, n, rfl, hs3⟩, _, rfl, sn, Sum.inr (SX.S l), S,
            n, rfl, rfl, hs3, ?_, ?_⟩
          · show n + 1 < 4096
            omega
          refine ⟨ls ++ [l], _, _, _, _, rfl, ?_, ?_, ?_, ?_, ?_, ?_, upd_same,
            ?_, ?_⟩
          · rw [sf]
            show n + 1 ≤ i + 1
            omega
          · rw [List.length_append, ll]
            rfl
          · rw [List.take_add_one, show xs[i]? = some (vS l) from e2, tk,
              List.map_append]
            rfl
          · intro x hx
            rcases List.mem_append.mp hx with h | h
            · exact nml x h
            · rw [List.mem_singleton.mp h]
              exact nb
          · rw [jde]
            exact jd_step nb ml
          · intro l'
            show (S (Sum.inr (SX.S l')) || decide ((Sum.inr (SX.S l') : Key) =
              Sum.inr (SX.S l))) = _
            rw [hS]
            by_cases e : l' = l
            · subst e
              simp
            · have : ¬ ((Sum.inr (SX.S l') : Key) = Sum.inr (SX.S l)) :=
                fun z => e (SX.S_inj (Sum.inr.inj z))
              rw [decide_eq_false this, Bool.or_false]
              refine decide_eq_decide.mpr ?_
              rw [List.mem_append]
              constructor
              · exact Or.inl
              · rintro (z | z)
                · exact z
                · exact absurd (List.mem_singleton.mp z) e
          · rw [upd_ne nas]
            exact ha3
          · exact OM.Same.put (sm1.trans s3) nsn
    · refine ⟨_, rfl, _, rfl, .inr ⟨t, .base (OM.TyOf.same ty sm1), kt, ?_⟩⟩
      refine ⟨_, rfl, iteT ⟨_, rfl, sz (by simp), fun t nt => ?_⟩⟩
      refine hname _ (Same.refl _) ?_ t _ upd_same (sameNew nt)
      rw [tn]
      rfl
  · rintro σ H1 ⟨ls, S, n, y, z, rfl, hn, ll, tk, nml, jde, hS, hs, ha2, sm⟩
    rw [List.drop_length] at jde
    have jn : jd [] 0 (xs.map tx) = none := jde
    refine ⟨fun b H' => b = !(decide (1 ≤ xs.length) && decide (xs.length ≤ 40))
      ∧ H1 = H', ?_, ?_⟩
    · refine ⟨_, rfl, a, _, rfl, .inl (SqL.of ha2), _, _, rfl, rfl, _, rfl,
        ite2 (fun c => ?_) (fun c => ?_)⟩
      · have c' : (1 : Int) ≤ xs.length := of_decide_eq_true c
        refine ⟨_, rfl, _, _, rfl, rfl, _, rfl, ?_, rfl⟩
        rw [decide_eq_true (show 1 ≤ xs.length by omega), Bool.true_and]
        congr 1
        exact decide_eq_decide.mpr ⟨fun z => by omega, fun z => by omega⟩
      · refine ⟨_, rfl, ?_, rfl⟩
        rw [decide_eq_false (show ¬ 1 ≤ xs.length from fun z =>
          c (decide_eq_true (by omega)))]
        rfl
    · rintro b _ ⟨rfl, rfl⟩
      by_cases c : 1 ≤ xs.length ∧ xs.length ≤ 40
      · rw [decide_eq_true c.1, decide_eq_true c.2]
        refine iteF (good ?_ H1 sm)
        unfold judge
        rw [jn]
        exact if_pos c
      · have e : (decide (1 ≤ xs.length) && decide (xs.length ≤ 40)) = false := by
          by_cases c1 : 1 ≤ xs.length
          · rw [decide_eq_false (show ¬ xs.length ≤ 40 from fun z => c ⟨c1, z⟩)]
            exact Bool.and_false _
          · rw [decide_eq_false c1]
            exact Bool.false_and _
        rw [e]
        refine iteT ⟨sz (by simp), fun t nt => ?_⟩
        refine (bad ("count", 0) ?_).back sm t _ upd_same (sameNew nt)
        unfold judge
        rw [jn]
        exact if_neg c
theorem ok_checkX {f : Addr} {fd : FuncData} {k j : Nat}
    (F : Fun K "check_items" "check_items" s_check_items f fd)
    (Cf : Cal P w K mg base k "names_fault" ["value", "most"] (spNfX K))
    (M : XMk P w K mg base CI j "InvalidBase"
      ["self", "problem", "position"] (spX2 CI "problem" "position"))
    (hj : j + 1 ≤ k)
    {t40 : Tok} (m40 : mg "MAX_ITEMS" = some (.int 40 t40)) :
    FnOk P w K mg base (L2.CX P w) (k + 1) f fd ["items"]
      (spCheckX K CI) := by
  refine Fun.okX F sc_check_items (fun vs H Q E h => ?_)
    (fun cv A outer s H vs Q E hr h => ?_)
  · obtain ⟨v, rfl, _⟩ := h
    rfl
  obtain ⟨v, rfl, h⟩ := h
  have nd := sc_check_items.nd
  have hrj := hr.mono hj
  refine ⟨_, pss_cons (ps_set (i := 1) nd rfl (.inl rfl)
      (pe_cal Cf hr (pa_cons (pv 0) (pa_cons
        (pe_glob (v := .int 40) (by rfl) m40 ⟨_, rfl⟩) pa_nil))))
    (pss_one (ps_if (pt_cmpR op_notN (pv 1) pe_non (nomark _))
      (pss_cons (ps_asg (pv 1) (pg_tup rfl
        (pgs_cons (pg_name (i := 2) nd rfl (.inl rfl))
        (pgs_cons (pg_name (i := 3) nd rfl (.inl rfl)) pgs_nil))))
      (pss_one (ps_raise2 M hrj rfl (takes_of rfl rfl rfl rfl)
        (pa_cons (pv 2) (pa_cons (pv 3) pa_nil))))) pss_nil)), ?_⟩
  refine ⟨_, rfl, v, rfl, ?_⟩
  rcases h with ⟨t, ty, kt, out⟩ | ⟨a, xs, rfl, ha, el, hx, bad, good⟩
  · exact .inl ⟨t, ty, kt, fun T H1 e s => ⟨_, rfl, rfl, _, rfl, iteT ⟨_, rfl,
      T, _, rfl, .inl (.inl e), rfl, _, _, rfl, _, _, rfl, rfl, _, rfl, _, rfl,
      _, _, rfl, fun d H' n e' s' => out d H' (s.free n) e' (s.trans s')⟩⟩⟩
  · exact .inr ⟨a, xs, rfl, ha, el, hx, fun r hr T H1 e s => ⟨_, rfl, rfl, _,
      rfl, iteT ⟨_, rfl, T, _, rfl, .inl (.inl e), rfl, _, _, rfl, _, _, rfl, rfl,
      _, rfl, _, rfl, _, _, rfl, fun d H' n e' s' =>
      bad r hr d H' (s.free n) e' (s.trans s')⟩⟩,
      fun jn H1 s1 => ⟨_, rfl, rfl, _, rfl, iteF (good jn H1 s1)⟩⟩
end
end OM
namespace OM
open PySem PySem.Spec PyProof.Rows L2
/-- a draw, in one word -/
abbrev CalDr (P : Program) (w : World) (K : PySem.W.Frag)
    (mg : Str → Option Value) (base : Heap) (k : Nat) : Prop :=
  Cal P w K mg base k "_law_draw" ["_law_rng_here", "_law_many"] spDraw
/-- one of the options -/
def spChoice (K : PySem.W.Frag) : Sp := fun vs H Q _ =>
  ∃ (p a : Addr) (xs : List V), vs = [.ref p, .ref a] ∧ Rng H p ∧
  SqL K H a xs ∧ a ≠ p ∧ 0 < xs.length ∧ xs.length ≤ 1000 ∧
  ∀ (x : V) (H' : Hp), x ∈ xs → Rng H' p → But p H H' → Q x H'
section
variable {P : Program} {w : World} {K : PySem.W.Frag}
  {mg : Str → Option Value} {base : Heap}
end
end OM
namespace OM
open PySem PySem.Spec PyProof.Rows L2
section
variable {P : Program} {w : World} {K : PySem.W.Frag}
  {mg : Str → Option Value} {base : Heap}
theorem ok_choice {f : Addr} {fd : FuncData} {k : Nat}
    (F : Fun K "_law_choice" "_law_choice" s_Lchoice f fd) (B : Bl mg)
    (Cd : CalDr P w K mg base k) :
    FnOk P w K mg base CX0 (k + 1) f fd ["_law_rng_here", "_law_options"]
      (spChoice K) := by
  refine F.ok sc_Lchoice (fun vs H Q E h => ?_)
    (fun cv A outer s H vs Q E hr h => ?_)
  · obtain ⟨p, a, xs, rfl, _⟩ := h
    rfl
  obtain ⟨p, a, xs, rfl, rg, hS, nap, h0, h1, q⟩ := h
  refine ⟨_, pss_one (ps_ret (pe_ix ix_list (pv 1) (pe_cal Cd hr
    (pa_cons (pv 0) (pa_cons (pe_callB call_len_seq (by rfl) B.len
      PySem.boot_len (pa_cons (pv 1) pa_nil)) pa_nil))) (fun _ _ => rfl))), ?_⟩
  refine ⟨_, rfl, _, rfl, _, rfl, a, _, rfl, .inl hS, p, xs.length, rfl, rg,
    by omega, by omega, fun d H1 d0 d1 rg1 b1 => ?_⟩
  have hd : d.toNat < xs.length := by omega
  have ed : d = ((d.toNat : Nat) : Int) := by omega
  refine ⟨a, xs, d, xs[d.toNat], rfl, rfl, b1.seq hS nap, ?_,
    q _ H1 (List.getElem_mem hd) rg1 b1⟩
  have := atI_nat (List.getElem?_eq_getElem hd)
  rw [← ed] at this
  exact this
end
end OM

namespace OM
open PySem PySem.Spec PyProof.Rows L2
theorem cps_app (x y : Str) : (x ++ y).cps.toList = x.cps.toList ++ y.cps.toList := by
  show (x.cps ++ y.cps).toList = _
  simp
theorem dx_elt {K : PySem.W.Frag} {H : Hp} {v : V} {e : PyData} (h : DX H v e) (b : ∀ x, v = .str x → x.length ≤ 10000) : Elt1 K H v := by
  cases h with
  | non => exact .inr ⟨_, .non, kit_ty (by decide +kernel), rfl⟩
  | bl c => exact .inr ⟨_, .bl _, kit_ty (by decide +kernel), rfl⟩
  | int i => exact .inr ⟨_, .int _, kit_ty (by decide +kernel), rfl⟩
  | str x =>
    refine .inl ⟨x.cps.toList, by rw [vS, SX.S_tl], ?_⟩
    have := b x rfl
    rw [TL.len_tl] at this
    exact this
  | lst e _ => exact .inr ⟨_, .lst e, kit_ty (by decide +kernel), rfl⟩
  | tup e _ => exact .inr ⟨_, .tup e, kit_ty (by decide +kernel), rfl⟩
  | d0 e => exact .inr ⟨_, .dK e, kit_ty (by decide +kernel), rfl⟩
  | d1 e _ => exact .inr ⟨_, .dK e, kit_ty (by decide +kernel), rfl⟩
theorem sh_str {x : Str} {n : Nat} (h : x.length ≤ n) (c : ∀ c ∈ x.cps.toList, c < 1114112) : Sh 1 (10 * n + 2) (.str x) := by
  refine ⟨by simp only [PyData.showable], by simp only [PyData.depth]; omega, ?_⟩
  simp only [PyData.shown]
  have := StrLaws.reprText_len x (fun d hd => Nat.lt_of_lt_of_le (c d hd) (by decide))
  omega
/-- a drawn value that is no name -/
def Wv11 (p : Addr) (H : Hp) (v : V) : Prop := ∃ e, DX (hide p H) v e ∧ Sh 3 2000 e ∧ Okc e.shown ∧ ∀ x, v = .str x → x.length ≤ 100 ∧ nmB x.cps.toList = false
section
variable {p : Addr} {H H' : Hp} {v : V}
theorem Wv11.but (w : Wv11 p H v) (b : But p H H') : Wv11 p H' v := by
  obtain ⟨e, a, c⟩ := w
  exact ⟨e, DX.same (hide_but b) _ _ a, c⟩
theorem Wv11.same (w : Wv11 p H v) (b : Same H H') : Wv11 p H' v := w.but (But.of b)
theorem wv_non : Wv11 p H .non := ⟨_, .non, ⟨by decide +kernel, by decide +kernel, by decide +kernel⟩, okc_shown _ (by decide +kernel), nofun⟩
theorem wv_bl : Wv11 p H (.bl true) := ⟨_, .bl _, ⟨by decide +kernel, by decide +kernel, by decide +kernel⟩, okc_shown _ (by decide +kernel), nofun⟩
theorem wv_i0 : Wv11 p H (.int 0) := ⟨_, .int _, ⟨by decide +kernel, by decide +kernel, by decide +kernel⟩, okc_shown _ (by decide +kernel), nofun⟩
theorem wv_i1 : Wv11 p H (.int (-1)) := ⟨_, .int _, ⟨by decide +kernel, by decide +kernel, by decide +kernel⟩, okc_shown _ (by decide +kernel), nofun⟩
theorem wv_str {x : Str} (l : x.length ≤ 30) (c : ∀ c ∈ x.cps.toList, c < 1114112) (n : nmB x.cps.toList = false) : Wv11 p H (.str x) :=
  ⟨_, .str x, (sh_str l c).up (by omega) (by omega), (by simp only [PyData.shown]; exact okc_repr c), fun y h => by cases h; exact ⟨by omega, n⟩⟩
theorem wv_con {x : Str} (h : (decide (x.length ≤ 30) && (x.cps.toList.all (fun c => decide (c < 1114112)) && !nmB x.cps.toList)) = true) : Wv11 p H (.str x) := by
  obtain ⟨h1, h2⟩ := Bool.and_eq_true_iff.mp h
  obtain ⟨h2, h3⟩ := Bool.and_eq_true_iff.mp h2
  refine wv_str (of_decide_eq_true h1) (fun c hc => of_decide_eq_true (List.all_eq_true.mp h2 c hc)) ?_
  cases q : nmB x.cps.toList with
  | false => rfl
  | true =>
    rw [q] at h3
    cases h3
/-! texts made of an item -/
theorem wv_sp {l : List Nat} (n : Nm l) : Wv11 p H (.str (SX.S l ++ Str.ofString " ")) := by
  have e : (SX.S l ++ Str.ofString " ").cps.toList = l ++ [32] := cps_app _ _
  refine wv_str ?_ ?_ ?_
  · rw [TL.len_tl]
    show ((SX.S l ++ Str.ofString " ").cps.toList).length ≤ 30
    rw [e, List.length_append]
    have := n.hi
    show l.length + 1 ≤ 30
    omega
  · rw [e]
    intro c hc
    rcases List.mem_append.mp hc with z | z
    · have := n.az c z
      omega
    · rw [List.mem_singleton.mp z]
      decide
  · have z : (([32] : List Nat).all fun c => decide (97 ≤ c) && decide (c ≤ 122)) = false := by decide
    rw [e]
    unfold nmB
    rw [List.all_append, z, Bool.and_false, Bool.and_false]
theorem wv_nine {l : List Nat} (n : Nm l) : Wv11 p H (.str (SX.S l ++ SX.S l ++ Str.ofString "ninechars")) := by
  have e9 : (Str.ofString "ninechars").cps.toList = [110, 105, 110, 101, 99, 104, 97, 114, 115] := by decide +kernel
  have e : (SX.S l ++ SX.S l ++ Str.ofString "ninechars").cps.toList = (l ++ l) ++ [110, 105, 110, 101, 99, 104, 97, 114, 115] := by
    rw [cps_app, cps_app, e9]
  have len : ((l ++ l) ++ [110, 105, 110, 101, 99, 104, 97, 114, 115]).length = l.length + l.length + 9 := by
    rw [List.length_append, List.length_append]
    rfl
  have := n.hi
  refine wv_str ?_ ?_ ?_
  · rw [TL.len_tl]
    show ((SX.S l ++ SX.S l ++ Str.ofString "ninechars").cps.toList).length ≤ 30
    rw [e, len]
    omega
  · rw [e]
    intro c hc
    rcases List.mem_append.mp hc with z | z
    · rcases List.mem_append.mp z with z | z
      · have := n.az c z
        omega
      · have := n.az c z
        omega
    · simp only [List.mem_cons, List.not_mem_nil, or_false] at z
      omega
  · rw [e]
    unfold nmB
    rw [len]
    have z : decide (l.length + l.length + 9 ≤ 8) = false := decide_eq_false (by omega)
    rw [z, Bool.and_false, Bool.false_and]
theorem wv_up {l : List Nat} (n : Nm l) : Wv11 p H (.str (Txt.upper (SX.S l))) := by
  have hu : Txt.upper (SX.S l) = SX.S (l.map PyProof.Rows.up1) := SX.upper_S (List.all_eq_true.mpr fun c hc => decide_eq_true (by have := n.az c hc; omega))
  have up : ∀ c ∈ l, PyProof.Rows.up1 c = c - 32 := fun c hc => by
    have := n.az c hc
    unfold PyProof.Rows.up1
    rw [if_pos (by omega)]
  have := n.hi
  have lo := n.lo
  rw [hu]
  have e : (SX.S (l.map PyProof.Rows.up1)).cps.toList = l.map PyProof.Rows.up1 := rfl
  refine wv_str ?_ ?_ ?_
  · rw [TL.len_tl]
    show ((SX.S (l.map PyProof.Rows.up1)).cps.toList).length ≤ 30
    rw [e, List.length_map]
    omega
  · rw [e]
    intro c hc
    obtain ⟨d, hd, rfl⟩ := List.mem_map.mp hc
    rw [up d hd]
    have := n.az d hd
    omega
  · rw [e]
    match l, n, up, lo with
    | c :: r, n, up, _ =>
      have z := n.az c List.mem_cons_self
      have q : PyProof.Rows.up1 c = c - 32 := up c List.mem_cons_self
      unfold nmB
      rw [List.map_cons, List.all_cons, q, decide_eq_false (show ¬ 97 ≤ c - 32 by omega), Bool.false_and, Bool.false_and, Bool.and_false]
end
theorem nm_sh {l : List Nat} (n : Nm l) : Sh 1 82 (.str (SX.S l)) := by
  have := n.hi
  exact sh_str (n := 8) (by rw [SX.S_len]; omega) (fun c hc => by have := n.az c hc; omega)
theorem nm_okc {l : List Nat} (n : Nm l) : Okc (SX.S l) := fun c hc => by
  have := n.az c hc
  omega
theorem okc_d0 : Okc (PyData.dict []).shown := by
  intro c hc
  have z : ((PyData.dict []).shown.cps.toList.all fun c => decide (c < 0x110000)) = true := by decide +kernel
  exact of_decide_eq_true (List.all_eq_true.mp z c hc)
theorem okc_l1 {l : List Nat} (n : Nm l) : Okc (PyData.list [.str (SX.S l)]).shown := by
  simp only [PyData.shown, PyData.shownAll]
  refine okc_list fun t ht => ?_
  rw [List.mem_singleton.mp ht]
  exact okc_repr (nm_okc n)
theorem okc_t1 {l : List Nat} (n : Nm l) : Okc (PyData.tuple [.str (SX.S l)]).shown := by
  simp only [PyData.shown, PyData.shownAll]
  refine okc_tuple fun t ht => ?_
  rw [List.mem_singleton.mp ht]
  exact okc_repr (nm_okc n)
theorem okc_d1 {l : List Nat} (n : Nm l) : Okc (PyData.dict [(.str (SX.S l), .int 0)]).shown := by
  simp only [PyData.shown, PyData.shownKv]
  unfold dictText
  refine okc_app (okc_app (okc_lit _) (okc_join (okc_lit _) _ fun t ht => ?_)) (okc_lit _)
  rw [List.mem_singleton.mp ht]
  exact okc_app (okc_app (okc_repr (nm_okc n)) (okc_lit _)) (okc_lit _)
theorem sh_d1 {l : List Nat} (n : Nm l) : Sh 3 2000 (.dict [(.str (SX.S l), .int 0)]) := by
  have a := nm_sh n
  refine ⟨?_, ?_, ?_⟩
  · simp only [PyData.showable, PyData.showableKv]
    decide +kernel
  · simp only [PyData.depth, PyData.depthKv]
    omega
  · simp only [PyData.shown, PyData.shownKv]
    have b := a.2.2
    simp only [PyData.shown] at b
    refine Nat.le_trans (dictText_len_le _) ?_
    simp only [List.map_cons, List.map_nil, List.sum_cons, List.sum_nil, List.length_cons, List.length_nil, strLen_append]
    have z : (Str.ofString ": ").length = 2 := by decide +kernel
    have y : (Str.ofString (toString (0 : Int))).length = 1 := by decide +kernel
    omega
/-- one of the values that are no names -/
def spInv11 : Sp := fun vs H Q _ => ∃ (p it : Addr) (l : List Nat) (ls : List (List Nat)), vs = [.ref p, .ref it] ∧ Rng H p ∧ it ≠ p ∧ H it = some (.lst ((l :: ls).map vS)) ∧ Nm l ∧
  ∀ x H', Wv11 p H' x → Rng H' p → But p H H' → Q x H'
section
variable {P : Program} {w : World} {K : PySem.W.Frag} {mg : Str → Option Value} {base : Heap}
theorem ok_inv11 {f : Addr} {fd : FuncData} {k : Nat} (F : Fun K "_law_invalid_item" "_law_invalid_item" s_Linvalid_item f fd)
    (Cc : Cal P w K mg base k "_law_choice" ["_law_rng_here", "_law_options"] (spChoice K)) :
    FnOk P w K mg base CX0 (k + 1) f fd ["_law_rng_here", "_law_items"] spInv11 := by
  refine F.ok sc_Linvalid_item (fun vs H Q E h => ?_) (fun cv A outer s H vs Q E hr h => ?_)
  · obtain ⟨p, it, l, ls, rfl, _⟩ := h
    rfl
  obtain ⟨p, it, l, ls, rfl, rg, nip, hi, nl, q⟩ := h
  have nd := sc_Linvalid_item.nd
  refine ⟨_, pss_cons (ps_set (i := 2) nd rfl (.inl rfl) (pe_lst (pa_cons pe_non
      (pa_cons pe_int (pa_cons pe_bl (pa_cons (pe_un un_neg pe_int) (pa_cons
      pe_str (pa_cons pe_str (pa_cons pe_str (pa_cons pe_str (pa_cons pe_str
      (pa_cons (pe_tup pa_nil) (pa_cons (pe_lst pa_nil) (pa_cons pe_dnewK
      (pa_cons (pe_lst (pa_cons (pe_ix ix_list (pv 1) pe_int (fun _ _ => rfl))
      pa_nil)) (pa_cons (pe_tup (pa_cons (pe_ix ix_list (pv 1) pe_int (fun _ _
      => rfl)) pa_nil)) (pa_cons (pe_disp (pps_cons (pe_ix ix_list (pv 1) pe_int (fun _ _ => rfl)) pe_int pps_nil) (by rfl) (by rfl)
        (fun z => by cases z) (by decide))
      pa_nil))))))))))))))))) (pss_cons (ps_set (i := 2) nd rfl (.inl rfl)
      (pe_op op_cat (pv 2) (pe_lst (pa_cons (pe_op op_add_str (pe_ix ix_list (pv
      1) pe_int (fun _ _ => rfl)) pe_str) (pa_cons (pe_op op_add_str (pe_op
      op_add_str (pe_ix ix_list (pv 1) pe_int (fun _ _ => rfl)) (pe_ix ix_list (pv
      1) pe_int (fun _ _ => rfl))) pe_str) (pa_cons (pe_upper (pe_ix ix_list (pv 1) pe_int (fun _ _ => rfl))) pa_nil)))))) (pss_one (ps_ret
      (pe_cal Cc hr (pa_cons (pv 0) (pa_cons (pv 2) pa_nil)))))), ?_⟩
  have pit : atI ((l :: ls).map vS) 0 = some (vS l) := atI_nat (show ((l :: ls).map vS)[0]? = some (vS l) by rw [List.map_cons]; rfl)
  have one : 1 ≤ sizeLine := by decide
  refine ⟨1, rfl, ?_⟩
  refine ⟨by decide, fun x1 nx1 => ?_⟩
  have z1 := sameNew (o := .tup []) nx1
  have h1 : (upd H x1 (.tup [])) x1 = some (.tup []) := upd_same
  generalize upd H x1 (.tup []) = H1 at z1 h1 ⊢
  have e1 : Wv11 p H1 (.ref x1) := ⟨_, .tup (hide_of (rg.ne nx1).symm h1) .nil, ⟨by decide +kernel, by decide +kernel, by decide +kernel⟩, okc_shown _ (by decide +kernel), nofun⟩
  have rg1 := rg.same z1
  have i1 := z1 _ _ hi
  refine ⟨by decide, fun x2 nx2 => ?_⟩
  have z2 := sameNew (o := .lst []) nx2
  have h2 : (upd H1 x2 (.lst [])) x2 = some (.lst []) := upd_same
  generalize upd H1 x2 (.lst []) = H2 at z2 h2 ⊢
  have e2 : Wv11 p H2 (.ref x2) := ⟨_, .lst (hide_of (rg1.ne nx2).symm h2) .nil, ⟨by decide +kernel, by decide +kernel, by decide +kernel⟩, okc_shown _ (by decide +kernel), nofun⟩
  have rg2 := rg1.same z2
  have i2 := z2 _ _ i1
  intro x3 nx3
  have z3 := sameNew (o := .dK []) nx3
  have h3 : (upd H2 x3 (.dK [])) x3 = some (.dK []) := upd_same
  generalize upd H2 x3 (.dK []) = H3 at z3 h3 ⊢
  have e3 : Wv11 p H3 (.ref x3) := ⟨_, .d0 (hide_of (rg2.ne nx3).symm h3), ⟨by decide +kernel, by decide +kernel, by decide +kernel⟩, okc_d0, nofun⟩
  have rg3 := rg2.same z3
  have i3 := z3 _ _ i2
  refine ⟨_, rfl, it, _, 0, _, rfl, rfl, SqL.of i3, pit, one, fun x4 nx4 => ?_⟩
  have z4 := sameNew (o := .lst [vS l]) nx4
  have h4 : (upd H3 x4 (.lst [vS l])) x4 = some (.lst [vS l]) := upd_same
  generalize upd H3 x4 (.lst [vS l]) = H4 at z4 h4 ⊢
  have e4 : Wv11 p H4 (.ref x4) := ⟨_, .lst (hide_of (rg3.ne nx4).symm h4) (.cons (.str _) .nil), (sh_lst (n := 1) (m := 82) (ds := [.str (SX.S l)]) (fun d hd => by rw [List.mem_singleton.mp hd]; exact nm_sh nl)).up (by omega) (by show 1 * 84 + 3 ≤ 2000; omega), okc_l1 nl, nofun⟩
  have rg4 := rg3.same z4
  have i4 := z4 _ _ i3
  refine ⟨_, rfl, it, _, 0, _, rfl, rfl, SqL.of i4, pit, one, fun x5 nx5 => ?_⟩
  have z5 := sameNew (o := .tup [vS l]) nx5
  have h5 : (upd H4 x5 (.tup [vS l])) x5 = some (.tup [vS l]) := upd_same
  generalize upd H4 x5 (.tup [vS l]) = H5 at z5 h5 ⊢
  have e5 : Wv11 p H5 (.ref x5) := ⟨_, .tup (hide_of (rg4.ne nx5).symm h5) (.cons (.str _) .nil), (sh_tup (n := 1) (m := 82) (ds := [.str (SX.S l)]) (fun d hd => by rw [List.mem_singleton.mp hd]; exact nm_sh nl)).up (by omega) (by show 1 * 84 + 3 ≤ 2000; omega), okc_t1 nl, nofun⟩
  have rg5 := rg4.same z5
  have i5 := z5 _ _ i4
  intro x6 nx6
  have z6 := sameNew (o := .dK []) nx6
  have h6 : (upd H5 x6 (.dK [])) x6 = some (.dK []) := upd_same
  generalize upd H5 x6 (.dK []) = H6 at z6 h6 ⊢
  have i6 := z6 _ _ i5
  refine ⟨_, rfl, it, _, 0, _, rfl, rfl, SqL.of i6, pit, ?_⟩
  refine ⟨h6, [(Sum.inr (SX.S l), .int 0)], rfl, by show 1 ≤ 15; decide, ?_⟩
  have z7 : Same H5 (upd H6 x6 (.dK (mergeK [] [(Sum.inr (SX.S l), .int 0)]))) := OM.Same.put z6 nx6
  have h7 : (upd H6 x6 (.dK (mergeK [] [(Sum.inr (SX.S l), .int 0)]))) x6 = some (.dK [(Sum.inr (SX.S l), .int 0)]) := upd_same
  generalize upd H6 x6 (.dK (mergeK [] [(Sum.inr (SX.S l), .int 0)])) = H7 at z7 h7 ⊢
  have e6 : Wv11 p H7 (.ref x6) := ⟨_, .d1 (hide_of (rg5.ne nx6).symm h7) (.int 0), sh_d1 nl, okc_d1 nl, nofun⟩
  have rg7 := rg5.same z7
  have i7 := z7 _ _ i5
  refine ⟨by show 15 ≤ sizeLine; decide, fun x7 nx7 => ?_⟩
  have z8 := sameNew (o := .lst [.non, .int 0, .bl true, .int (-1), .str "", .str "Aa", .str "a b", .str "a1", .str "ninechars", .ref x1, .ref x2, .ref x3, .ref x4, .ref x5, .ref x6]) nx7
  have h8 : (upd H7 x7 (.lst [.non, .int 0, .bl true, .int (-1), .str "", .str "Aa", .str "a b", .str "a1", .str "ninechars", .ref x1, .ref x2, .ref x3, .ref x4, .ref x5, .ref x6])) x7 = some (.lst [.non, .int 0, .bl true, .int (-1), .str "", .str "Aa", .str "a b", .str "a1", .str "ninechars", .ref x1, .ref x2, .ref x3, .ref x4, .ref x5, .ref x6]) := upd_same
  generalize upd H7 x7 (.lst [.non, .int 0, .bl true, .int (-1), .str "", .str "Aa", .str "a b", .str "a1", .str "ninechars", .ref x1, .ref x2, .ref x3, .ref x4, .ref x5, .ref x6]) = H8 at z8 h8 ⊢
  have rg8 := rg7.same z8
  have i8 := z8 _ _ i7
  have nlen : (SX.S l).length ≤ 8 := by rw [SX.S_len]; exact nl.hi
  have n9 : (Str.ofString "ninechars").length = 9 := by decide +kernel
  have n1 : (Str.ofString " ").length = 1 := by decide +kernel
  have big : 100 ≤ sizeLine := by decide
  refine ⟨_, rfl, ?_⟩
  refine ⟨_, rfl, it, _, 0, _, rfl, rfl, SqL.of i8, pit, _, _, rfl, rfl, by omega, ?_⟩
  refine ⟨_, rfl, it, _, 0, _, rfl, rfl, SqL.of i8, pit, _, rfl, it, _, 0, _, rfl, rfl, SqL.of i8, pit, _, _, rfl, rfl, by omega, _, _, rfl, rfl, by rw [strLen_append]; omega, ?_⟩
  refine ⟨_, rfl, it, _, 0, _, rfl, rfl, SqL.of i8, pit, ?_⟩
  refine ⟨⟨_, rfl⟩, _, rfl, rfl, by omega, by show 3 ≤ sizeLine; decide, fun x8 nx8 => ?_⟩
  have z9 := sameNew (o := .lst [.str (SX.S l ++ Str.ofString " "), .str (SX.S l ++ SX.S l ++ Str.ofString "ninechars"), .str (Txt.upper (SX.S l))]) nx8
  have h9 : (upd H8 x8 (.lst [.str (SX.S l ++ Str.ofString " "), .str (SX.S l ++ SX.S l ++ Str.ofString "ninechars"), .str (Txt.upper (SX.S l))])) x8 = some (.lst [.str (SX.S l ++ Str.ofString " "), .str (SX.S l ++ SX.S l ++ Str.ofString "ninechars"), .str (Txt.upper (SX.S l))]) := upd_same
  generalize upd H8 x8 (.lst [.str (SX.S l ++ Str.ofString " "), .str (SX.S l ++ SX.S l ++ Str.ofString "ninechars"), .str (Txt.upper (SX.S l))]) = H9 at z9 h9 ⊢
  have rg9 := rg8.same z9
  refine ⟨x7, x8, _, _, rfl, rfl, z9 _ _ h8, h9, by show 18 ≤ sizeLine; decide, fun x9 nx9 => ?_⟩
  have zA := sameNew (o := .lst ([.non, .int 0, .bl true, .int (-1), .str "", .str "Aa", .str "a b", .str "a1", .str "ninechars", .ref x1, .ref x2, .ref x3, .ref x4, .ref x5, .ref x6] ++ [.str (SX.S l ++ Str.ofString " "), .str (SX.S l ++ SX.S l ++ Str.ofString "ninechars"), .str (Txt.upper (SX.S l))])) nx9
  have hA : (upd H9 x9 (.lst ([.non, .int 0, .bl true, .int (-1), .str "", .str "Aa", .str "a b", .str "a1", .str "ninechars", .ref x1, .ref x2, .ref x3, .ref x4, .ref x5, .ref x6] ++ [.str (SX.S l ++ Str.ofString " "), .str (SX.S l ++ SX.S l ++ Str.ofString "ninechars"), .str (Txt.upper (SX.S l))]))) x9 = some (.lst ([.non, .int 0, .bl true, .int (-1), .str "", .str "Aa", .str "a b", .str "a1", .str "ninechars", .ref x1, .ref x2, .ref x3, .ref x4, .ref x5, .ref x6] ++ [.str (SX.S l ++ Str.ofString " "), .str (SX.S l ++ SX.S l ++ Str.ofString "ninechars"), .str (Txt.upper (SX.S l))])) := upd_same
  generalize upd H9 x9 (.lst ([.non, .int 0, .bl true, .int (-1), .str "", .str "Aa", .str "a b", .str "a1", .str "ninechars", .ref x1, .ref x2, .ref x3, .ref x4, .ref x5, .ref x6] ++ [.str (SX.S l ++ Str.ofString " "), .str (SX.S l ++ SX.S l ++ Str.ofString "ninechars"), .str (Txt.upper (SX.S l))])) = HA at zA hA ⊢
  have rgA := rg9.same zA
  have t7 : Same H7 HA := z8.trans (z9.trans zA)
  have t5 : Same H5 HA := z7.trans t7
  have t4 := z5.trans t5
  have t3 := z4.trans t4
  have t2 := z3.trans t3
  have t1 := z2.trans t2
  have t0 := z1.trans t1
  refine ⟨_, rfl, _, rfl, p, x9, _, rfl, rgA, SqL.of hA, (rg9.ne nx9).symm, by show 0 < 18; decide, by show 18 ≤ 1000; decide, fun x H' hx rg' b' => ?_⟩
  refine q x H' (Wv11.but (H := HA) ?_ b') rg' ((But.of t0).trans b')
  simp only [List.cons_append, List.nil_append, List.mem_cons, List.not_mem_nil, or_false] at hx
  rcases hx with rfl | rfl | rfl | rfl | rfl | rfl | rfl | rfl | rfl | rfl | rfl | rfl | rfl | rfl | rfl | rfl | rfl | rfl
  · exact wv_non
  · exact wv_i0
  · exact wv_bl
  · exact wv_i1
  · exact wv_con (by decide +kernel)
  · exact wv_con (by decide +kernel)
  · exact wv_con (by decide +kernel)
  · exact wv_con (by decide +kernel)
  · exact wv_con (by decide +kernel)
  · exact e1.same t1
  · exact e2.same t2
  · exact e3.same t3
  · exact e4.same t4
  · exact e5.same t5
  · exact e6.same t7
  · exact wv_sp nl
  · exact wv_nine nl
  · exact wv_up nl
end
end OM
/-! Comprehensions of several clauses, clause by clause. -/
namespace OM
open PySem PySem.Spec PyProof.Rows L2
abbrev noE : Value → Shared → Prop := fun _ _ => False
/-- the tests of a clause -/
abbrev testsOf (ifs : List Expr) (env : Env) : Sem Bool :=
  forIn ifs true fun c r => if r = true then do
    let ok ← isTrue c env (eval c env); pure (ForInStep.yield ok)
    else pure (ForInStep.yield r)
/-- how the loop of a clause runs: what comes behind the tests is Body -/
def LoopRule (P : Program) (w : World) (A : Around) (c : Expr) (idx : Nat)
    (it acc : Value) (env : Env) (tg : Expr) (ifs : List Expr)
    (Body : (Shared → Prop) → Shared → Prop) : Prop :=
  ∀ (R : Result → Shared → Prop) (I : Nat → Shared → Prop),
    (∀ n s, I n s → wpAny (model P w) A (pyNext it) (fun r s1 => match r with
      | none => R (.ok .next) s1
      | some v => wpAny (model P w) A (letOwnedTupleGo tg it v) (fun _ s2 =>
          wpAny (model P w) A (assign tg env v) (fun _ s3 =>
            wpAny (model P w) A (testsOf ifs env) (fun ok s4 =>
              if ok = true then Body (fun s' => ∃ m, m < n ∧ I m s') s4
              else ∃ m, m < n ∧ I m s4) noE s3) noE s2) noE s1) noE s) →
    ∀ n s, I n s → codeAny (model P w) A (.compLoop c idx it acc env) R s
/-- what a clause has to show -/
def tCl (J : It) (g : TG) (tt : TT) (vs : List Nat)
    (body : L2.St → Hp → (Hp → Prop) → Prop) (σ : L2.St) (Done : Hp → Prop)
    (H0 : Hp) : Prop :=
  ∃ W : Nat → Nat → Hp → Prop, (∃ m, W 0 m H0) ∧ ∀ i m H, W i m H →
    (J.stop i H ∧ Done H) ∨ (J.go i H ∧ ∃ Nx : Hp → Prop,
      (∀ H', Nx H' → ∃ m', m' < m ∧ W (i + 1) m' H') ∧
      ∀ x H', J.yld i H x H' → g x (wipe σ vs) H' fun σ2 H2 =>
        wipe σ2 vs = wipe σ vs ∧ tt σ2 H2 fun b H3 =>
          if b = true then body σ2 H3 Nx else Nx H3)
/-- the one knows what the other knows -/
structure Kn (σ σ' : L2.St) : Prop where
  len : σ.length = σ'.length
  at_ : ∀ (j : Nat) v, σ[j]? = some (some v) → σ'[j]? = some (some v)
theorem kn_wipe {σ σ2 : L2.St} {vs : List Nat} (h : wipe σ2 vs = wipe σ vs) :
    Kn (wipe σ vs) σ2 :=
  ⟨by rw [← h, wipe_length], fun j v e => by
    rw [← h] at e; exact (wipe_some e).1⟩
theorem kn_wipe2 {σ σ2 : L2.St} {vs vs1 : List Nat}
    (h : wipe σ2 vs = wipe σ vs) (hv : ∀ i ∈ vs1, i ∈ vs) :
    Kn (wipe σ vs) (wipe σ2 vs1) :=
  ⟨by rw [← h, wipe_length, wipe_length], fun j v e => by
    rw [← h] at e
    obtain ⟨e1, e2⟩ := wipe_some e
    rw [wipe_out fun z => e2 (hv j z)]
    exact e1⟩
section
variable {B : Cx} {c : Expr} {idx : Nat} {acc : Value} {tg : Expr}
  {ifs : List Expr} {Body : (Shared → Prop) → Shared → Prop}
  {it : Addr} {fp : List Addr} {tn : Nat → Heap → Prop} {J : It} {g : TG}
  {tt : TT} {vs : List Nat} {body : L2.St → Hp → (Hp → Prop) → Prop}
  {σ : L2.St} {Done : Hp → Prop} {H0 : Hp} {s0 : Shared}
  {pins : List (Addr × Obj)} {R : Result → Shared → Prop}
theorem clause (calm : B.calm = true) (xe : B.xe = noE)
    (rule : LoopRule B.prog B.w B.A c idx (.ref it) acc B.env tg ifs Body)
    (T : Turn B.prog B.w B.K tg J fp it tn) (pg : PG B tg g) (pt : PTs B ifs tt)
    (I0 : Inv B pins (wipe σ vs) H0 s0) (st0 : tn 0 s0.heap)
    (f0 : ∀ b ∈ fp, FpOk B pins H0 b) (h : tCl J g tt vs body σ Done H0)
    (hbody : ∀ σ2 H3 s' pins' Nx (Post : Shared → Prop),
      wipe σ2 vs = wipe σ vs → Inv B pins' σ2 H3 s' → body σ2 H3 Nx →
      (∀ σ3 H' s'', Kn (wipe σ vs) σ3 → Inv B pins' σ3 H' s'' → Nx H' →
        Post s'') → Body Post s')
    (hdone : ∀ H' s', Inv B pins (wipe σ vs) H' s' → Done H' →
      R (.ok .next) s') :
    codeAny (model B.prog B.w) B.A (.compLoop c idx (.ref it) acc B.env) R
      s0 := by
  obtain ⟨W, ⟨m0, w0⟩, turn⟩ := h
  have fx : ∀ {H' : Hp}, (∀ b ∈ fp, H' b = none) →
      ∀ b ∈ fp, FpOk B pins H' b := fun hn b hb => ⟨hn b hb, (f0 b hb).2⟩
  refine rule R (fun n s' => ∃ i H', Inv B pins (wipe σ vs) H' s' ∧
    tn i s'.heap ∧ (∀ b ∈ fp, H' b = none) ∧ W i n H') ?_ m0 s0
    ⟨0, H0, I0, st0, fun b hb => (f0 b hb).1, w0⟩
  rintro n s1 ⟨i, H1, I1, st1, n1, w1⟩
  rcases turn i n H1 w1 with ⟨stop, dn⟩ | ⟨go, Nx, hNx, step⟩
  · refine thn (T.done B rfl rfl rfl calm i pins s1 _ H1 noE I1 (fx n1) st1
      stop) ?_
    rintro r s2 ⟨rfl, I2⟩
    exact hdone H1 s2 I2 dn
  · refine thn (T.item B rfl rfl rfl calm i pins s1 _ H1 noE I1 (fx n1) st1
      go) ?_
    rintro r s2 ⟨u, rfl, q2⟩
    refine thn q2 ?_
    rintro _ s3 ⟨x, H3, I3, r3, y3, st3, n3⟩
    have P3 := I3.pinned (fx n3) (T.obj _ _ st3)
    have pgr := pg.run _ s3 _ H3 x u _ P3 r3 (step x H3 y3)
    rw [xe] at pgr
    refine thn pgr ?_
    rintro _ s4 ⟨σ4, H4, I4, w4, q4⟩
    have ptr := pt.run _ s4 σ4 H4 _ I4 q4
    rw [xe] at ptr
    refine thn ptr ?_
    rintro b s5 ⟨H5, I5, q5⟩
    have fin : ∀ σ3 H' s'', Kn (wipe σ vs) σ3 →
        Inv B (pins ++ pinsAt fp s3.heap) σ3 H' s'' → Nx H' →
        ∃ m, m < n ∧ ∃ i H', Inv B pins (wipe σ vs) H' s'' ∧
          tn i s''.heap ∧ (∀ b ∈ fp, H' b = none) ∧ W i m H' := by
      intro σ3 H' s'' kn I' nx
      obtain ⟨m', lt, w'⟩ := hNx H' nx
      have held : ∀ b ∈ fp, ∀ o, s3.heap.get? b = some o →
          s''.heap.get? b = some o ∧ H' b = none := fun b hb o e => by
        have z := I'.pin (b, o) (List.mem_append_right _
          (List.mem_append_right _ (mem_pinsAt hb e)))
        exact ⟨z.1, z.2.1⟩
      refine ⟨m', lt, i + 1, H', I'.unpinned.weak kn.len kn.at_,
        T.keep _ _ _ st3 fun b hb o e => (held b hb o e).1, fun b hb => ?_, w'⟩
      obtain ⟨o, e, _⟩ := T.obj _ _ st3 b hb
      exact (held b hb o e).2
    cases b with
    | false =>
      rw [if_neg Bool.false_ne_true] at q5 ⊢
      exact fin σ4 H5 s5 (kn_wipe w4) I5 q5
    | true =>
      rw [if_pos rfl] at q5 ⊢
      exact hbody σ4 H5 s5 _ Nx _ w4 I5 q5 fin
end
/-! ### what stands behind the tests -/
/-- the next clause -/
def BNext (P : Program) (w : World) (A : Around) (c : Expr) (idx : Nat)
    (acc : Value) (env : Env) (iter : Expr) (Post : Shared → Prop)
    (s : Shared) : Prop :=
  wpAny (model P w) A (eval iter env) (fun x s1 =>
    wpAny (model P w) A (pyIter x) (fun it s2 =>
      codeAny (model P w) A (.compStart c idx it acc env) (fun r s' => match r with
        | .ok _ => Post s'
        | .error _ => False) s2) noE s1) noE s
/-- an element more -/
def BApp (P : Program) (w : World) (A : Around) (acc : Value) (env : Env)
    (elt : Expr) (Post : Shared → Prop) (s : Shared) : Prop :=
  wpAny (model P w) A (eval elt env) (fun x s1 =>
    wpAny (model P w) A (call (.builtin "list.append") [acc, x])
      (fun _ s2 => Post s2) noE s1) noE s
section
variable {B : Cx} {c : Expr} {idx : Nat} {acc : Value} {tg : Expr}
  {ifs : List Expr} {Body : (Shared → Prop) → Shared → Prop}
  {g : TG} {tt : TT} {vs vs1 : List Nat} {iter : Expr} {wi : TI}
  {body : L2.St → Hp → (Hp → Prop) → Prop} {σ : L2.St}
/-- a clause within a clause -/
theorem clause_next (calm : B.calm = true) (xe : B.xe = noE)
    (rule : ∀ it : Addr, LoopRule B.prog B.w B.A c idx (.ref it) acc B.env tg
      ifs Body)
    (start : ∀ (it : Addr) (R : Result → Shared → Prop) (s : Shared),
      codeAny (model B.prog B.w) B.A (.compLoop c idx (.ref it) acc B.env) R s →
      wpAny (model B.prog B.w) B.A (pyIter (.ref it)) (fun it' s' =>
        codeAny (model B.prog B.w) B.A (.compLoop c idx it' acc B.env) R s')
        (notedBy (model B.prog B.w) B.A B.env fun x s' => R (.error x) s') s →
      codeAny (model B.prog B.w) B.A (.compStart c idx (.ref it) acc B.env) R s)
    (pi : PI B tg iter wi) (pg : PG B tg g) (pt : PTs B ifs tt)
    (hv : ∀ i ∈ vs1, i ∈ vs)
    (hbody : ∀ σ1 σ2 H3 s' pins' Nx (Post : Shared → Prop),
      wipe σ2 vs1 = wipe σ1 vs1 → Inv B pins' σ2 H3 s' → body σ2 H3 Nx →
      (∀ σ3 H' s'', Kn (wipe σ1 vs1) σ3 → Inv B pins' σ3 H' s'' → Nx H' →
        Post s'') → Body Post s') :
    ∀ σ2 H3 s' pins' Nx (Post : Shared → Prop),
      wipe σ2 vs = wipe σ vs → Inv B pins' σ2 H3 s' →
      (wi σ2 H3 fun J H4 => tCl J g tt vs1 body σ2 Nx H4) →
      (∀ σ3 H' s'', Kn (wipe σ vs) σ3 → Inv B pins' σ3 H' s'' → Nx H' →
        Post s'') →
      BNext B.prog B.w B.A c idx acc B.env iter Post s' := by
  intro σ2 H3 s' pins' Nx Post w2 I2 q fin
  have run := pi.run pins' s' σ2 H3 _ I2 q
  rw [xe] at run
  refine thn run ?_
  intro xv s1 hx
  refine thn hx ?_
  rintro itv s2 ⟨it, fp, tn, J, H4, rfl, I4, T, st, fo, cl⟩
  have loop : codeAny (model B.prog B.w) B.A (.compLoop c idx (.ref it) acc
      B.env) (fun r s' => match r with
        | .ok _ => Post s'
        | .error _ => False) s2 := by
    refine clause calm xe (rule it) T pg pt
      (I4.weak (wipe_length _ _) fun j v e => (wipe_some e).1) st fo cl
      (fun σ3 H5 s3 p3 N3 P3 w3 I3 b3 f3 => hbody σ2 σ3 H5 s3 p3 N3 P3 w3 I3 b3
        f3) fun H' s3 I3 dn => ?_
    exact fin _ H' s3 (kn_wipe2 w2 hv) I3 dn
  exact start it _ s2 loop (T.self B.A 0 _ _ _ st loop)
end
end OM
namespace OM
open PySem PySem.Spec PyProof.Rows L2
/-! ### [e for .. for .. for ..] -/
abbrev lc3 (e t0 i0 t1 i1 t2 i2 : Expr) (f0 f1 f2 : List Expr) (sc : Scope)
    (pos : Pos) : Expr :=
  .ListComp e [⟨t0, i0, f0, 0⟩, ⟨t1, i1, f1, 0⟩, ⟨t2, i2, f2, 0⟩] sc pos
section
variable {P : Program} {w : World} {A : Around} {e t0 i0 t1 i1 t2 i2 : Expr}
  {f0 f1 f2 : List Expr} {sc : Scope} {pos : Pos} {it acc : Value} {env : Env}
theorem turn3_0 : compTurn (lc3 e t0 i0 t1 i1 t2 i2 f0 f1 f2 sc pos) 0 it acc
    env = (do
      standAt i0.pos
      match ← pyNext it with
      | none => pure (.done .next)
      | some v =>
        letOwnedTupleGo t0 it v
        assign t0 env v
        let mut ok := true
        for c in f0 do
          if ok then ok ← isTrue c env (eval c env)
        if ok then
          let x ← eval i1 env
          standAt i1.pos
          let x ← foldedSetIterable i1 env x
          let _ ← runOwn (.compStart (lc3 e t0 i0 t1 i1 t2 i2 f0 f1 f2 sc pos) 1
            (← holding [x] (pyIter x)) acc env) env
        again (.compLoop (lc3 e t0 i0 t1 i1 t2 i2 f0 f1 f2 sc pos) 0 it acc
          env)) := by rfl
theorem turn3_1 : compTurn (lc3 e t0 i0 t1 i1 t2 i2 f0 f1 f2 sc pos) 1 it acc
    env = (do
      standAt i1.pos
      match ← pyNext it with
      | none => pure (.done .next)
      | some v =>
        letOwnedTupleGo t1 it v
        assign t1 env v
        let mut ok := true
        for c in f1 do
          if ok then ok ← isTrue c env (eval c env)
        if ok then
          let x ← eval i2 env
          standAt i2.pos
          let x ← foldedSetIterable i2 env x
          let _ ← runOwn (.compStart (lc3 e t0 i0 t1 i1 t2 i2 f0 f1 f2 sc pos) 2
            (← holding [x] (pyIter x)) acc env) env
        again (.compLoop (lc3 e t0 i0 t1 i1 t2 i2 f0 f1 f2 sc pos) 1 it acc
          env)) := by rfl
theorem turn3_2 : compTurn (lc3 e t0 i0 t1 i1 t2 i2 f0 f1 f2 sc pos) 2 it acc
    env = (do
      standAt i2.pos
      match ← pyNext it with
      | none => pure (.done .next)
      | some v =>
        letOwnedTupleGo t2 it v
        assign t2 env v
        let mut ok := true
        for c in f2 do
          if ok then ok ← isTrue c env (eval c env)
        if ok then
          (do let _ ← call (.builtin "list.append") [acc, ← eval e env])
        again (.compLoop (lc3 e t0 i0 t1 i1 t2 i2 f0 f1 f2 sc pos) 2 it acc
          env)) := by rfl
theorem fls {α : Type} {M : Model} {t : Sem α} {Q : α → Shared → Prop}
    {E : Value → Shared → Prop} {s : Shared} (h : wpAny M A t Q noE s) :
    wpAny M A t Q E s := wpAny_mono h (fun _ _ x => x) fun _ _ z => z.elim
theorem rule3_0 (fs : ∀ x, foldedSetIterable i1 env x = pure x) :
    LoopRule P w A (lc3 e t0 i0 t1 i1 t2 i2 f0 f1 f2 sc pos) 0 it acc env t0 f0
      (BNext P w A (lc3 e t0 i0 t1 i1 t2 i2 f0 f1 f2 sc pos) 1 acc env i1) := by
  intro R I turn n s h
  refine codeAny_loop rfl I (fun n s hI => ?_) n h
  show wpAny _ A ((compTurn (lc3 e t0 i0 t1 i1 t2 i2 f0 f1 f2 sc pos) 0 it acc
    env).onRaise (fun x => do noteFrame x env; theTreesLotGoes x)) _ _ s
  refine wpAny_noted ?_
  rw [turn3_0]
  refine wpAny_bind (wpAny_standAt (wpAny_bind (thn (fls (turn n s hI)) ?_)))
  intro r s1 h1
  cases r with
  | none => exact wpAny_pure h1
  | some v =>
    refine wpAny_bind (thn (fls h1) fun _ s2 h2 => ?_)
    refine wpAny_bind (thn (fls h2) fun _ s3 h3 => ?_)
    refine wpAny_bind (thn (fls h3) fun ok s4 h4 => ?_)
    cases ok with
    | false => exact wpAny_pure ⟨rfl, h4⟩
    | true =>
      refine wpAny_bind (thn (fls h4) fun x s5 h5 => ?_)
      refine wpAny_bind (wpAny_standAt (wpAny_bind (wpAny_of_eq (fs x)
        (wpAny_bind (wpAny_holding (thn (fls h5) fun itv s6 h6 => ?_))))))
      refine wpAny_bind (wpAny_runOwn ?_)
      rw [Around.mark_none]
      refine codeAny_mono h6 fun r s' hr => ?_
      cases r with
      | ok f =>
        first
          | exact wpAny_pure ⟨rfl, hr⟩
          | exact wpAny_bind (wpAny_pure (wpAny_pure ⟨rfl, hr⟩))
      | error e => exact hr.elim
theorem rule3_1 (fs : ∀ x, foldedSetIterable i2 env x = pure x) :
    LoopRule P w A (lc3 e t0 i0 t1 i1 t2 i2 f0 f1 f2 sc pos) 1 it acc env t1 f1
      (BNext P w A (lc3 e t0 i0 t1 i1 t2 i2 f0 f1 f2 sc pos) 2 acc env i2) := by
  intro R I turn n s h
  refine codeAny_loop rfl I (fun n s hI => ?_) n h
  show wpAny _ A ((compTurn (lc3 e t0 i0 t1 i1 t2 i2 f0 f1 f2 sc pos) 1 it acc
    env).onRaise (fun x => do noteFrame x env; theTreesLotGoes x)) _ _ s
  refine wpAny_noted ?_
  rw [turn3_1]
  refine wpAny_bind (wpAny_standAt (wpAny_bind (thn (fls (turn n s hI)) ?_)))
  intro r s1 h1
  cases r with
  | none => exact wpAny_pure h1
  | some v =>
    refine wpAny_bind (thn (fls h1) fun _ s2 h2 => ?_)
    refine wpAny_bind (thn (fls h2) fun _ s3 h3 => ?_)
    refine wpAny_bind (thn (fls h3) fun ok s4 h4 => ?_)
    cases ok with
    | false => exact wpAny_pure ⟨rfl, h4⟩
    | true =>
      refine wpAny_bind (thn (fls h4) fun x s5 h5 => ?_)
      refine wpAny_bind (wpAny_standAt (wpAny_bind (wpAny_of_eq (fs x)
        (wpAny_bind (wpAny_holding (thn (fls h5) fun itv s6 h6 => ?_))))))
      refine wpAny_bind (wpAny_runOwn ?_)
      rw [Around.mark_none]
      refine codeAny_mono h6 fun r s' hr => ?_
      cases r with
      | ok f =>
        first
          | exact wpAny_pure ⟨rfl, hr⟩
          | exact wpAny_bind (wpAny_pure (wpAny_pure ⟨rfl, hr⟩))
      | error e => exact hr.elim
theorem rule3_2 :
    LoopRule P w A (lc3 e t0 i0 t1 i1 t2 i2 f0 f1 f2 sc pos) 2 it acc env t2 f2
      (BApp P w A acc env e) := by
  intro R I turn n s h
  refine codeAny_loop rfl I (fun n s hI => ?_) n h
  show wpAny _ A ((compTurn (lc3 e t0 i0 t1 i1 t2 i2 f0 f1 f2 sc pos) 2 it acc
    env).onRaise (fun x => do noteFrame x env; theTreesLotGoes x)) _ _ s
  refine wpAny_noted ?_
  rw [turn3_2]
  refine wpAny_bind (wpAny_standAt (wpAny_bind (thn (fls (turn n s hI)) ?_)))
  intro r s1 h1
  cases r with
  | none => exact wpAny_pure h1
  | some v =>
    refine wpAny_bind (thn (fls h1) fun _ s2 h2 => ?_)
    refine wpAny_bind (thn (fls h2) fun _ s3 h3 => ?_)
    refine wpAny_bind (thn (fls h3) fun ok s4 h4 => ?_)
    cases ok with
    | false => exact wpAny_pure ⟨rfl, h4⟩
    | true =>
      refine wpAny_bind (wpAny_bind (thn (fls h4) fun x s5 h5 => ?_))
      refine wpAny_bind (thn (fls h5) fun _ s6 h6 => ?_)
      exact wpAny_pure (wpAny_pure ⟨rfl, h6⟩)
/-- a later clause begins -/
theorem start3 {idx : Nat} (hi : idx = 1 ∨ idx = 2)
    {R : Result → Shared → Prop} {s : Shared}
    (h0 : codeAny (model P w) A (.compLoop
      (lc3 e t0 i0 t1 i1 t2 i2 f0 f1 f2 sc pos) idx it acc env) R s)
    (h : wpAny (model P w) A (pyIter it) (fun it' s' => codeAny (model P w) A
      (.compLoop (lc3 e t0 i0 t1 i1 t2 i2 f0 f1 f2 sc pos) idx it' acc env) R s')
      (notedBy (model P w) A env fun x s' => R (.error x) s') s) :
    codeAny (model P w) A (.compStart
      (lc3 e t0 i0 t1 i1 t2 i2 f0 f1 f2 sc pos) idx it acc env) R s := by
  refine codeAny_of_tree ?_
  show wpAny _ _ ((compStart (lc3 e t0 i0 t1 i1 t2 i2 f0 f1 f2 sc pos) idx it
    acc env).onRaise (fun x => do noteFrame x env; standAt theWindowsPlace))
    _ _ s
  refine wpAny_notedAt ?_
  unfold compStart
  rcases hi with rfl | rfl
  · show wpAny _ _ (ask >>= _) _ _ s
    refine wpAny_bind (wpAny_askSetting (wpAny_ite ?_))
    split
    · first
        | exact wpAny_bind (wpAny_pure (wpAny_pure (And.intro rfl h0)))
        | exact wpAny_pure (And.intro rfl h0)
    · refine wpAny_bind (wpAny_rule ?_)
      show wpAny _ _ (standAt i1.pos >>= _) _ _ s
      exact wpAny_bind (wpAny_standAt (wpAny_bind (thn h fun it' s' h' =>
        wpAny_pure (And.intro rfl h'))))
  · show wpAny _ _ (ask >>= _) _ _ s
    refine wpAny_bind (wpAny_askSetting (wpAny_ite ?_))
    split
    · first
        | exact wpAny_bind (wpAny_pure (wpAny_pure (And.intro rfl h0)))
        | exact wpAny_pure (And.intro rfl h0)
    · refine wpAny_bind (wpAny_rule ?_)
      show wpAny _ _ (standAt i2.pos >>= _) _ _ s
      exact wpAny_bind (wpAny_standAt (wpAny_bind (thn h fun it' s' h' =>
        wpAny_pure (And.intro rfl h'))))
end
end OM
/-! a call while the running def's cells are known; a list comprehension whose block is told of them -/
namespace OM
open PySem PySem.Spec PyProof.Rows L2
/-- H0 is H, and the cells cs are known: they hold ws -/
structure RegAt (cs : List Addr) (ws : List V) (H H0 : Hp) : Prop where
  nd : cs.Nodup
  out : ∀ b, b ∉ cs → H0 b = H b
  non : ∀ c ∈ cs, H c = none
  kn : Knows cs H0
  at_ : ∀ (i : Nat) (c : Addr) (v : V), cs[i]? = some c → ws[i]? = some v → CellIs H0 c v
theorem RegAt.same {cs : List Addr} {ws : List V} {H H0 : Hp} (r : RegAt cs ws H H0) : Same H H0 := fun b o e => by
  refine (r.out b fun m => ?_).trans e
  rw [r.non b m] at e
  cases e
theorem RegAt.back {cs : List Addr} {ws : List V} {H H0 : Hp} (r : RegAt cs ws H H0) : drops cs H0 = H := by
  funext b
  by_cases m : b ∈ cs
  · rw [drops_in m, r.non b m]
  · rw [drops_out m, r.out b m]
/-- the cells cs hold ws in s, and are no part of H -/
structure CellSrc (Z : Cx) (cs : List Addr) (ws : List V) (H : Hp) (s : Shared) : Prop where
  nd : cs.Nodup
  at_ : ∀ (i : Nat) (c : Addr), cs[i]? = some c → ∃ v o u, ws[i]? = some v ∧ s.heap.get? c = some o ∧ o.data = .cell (some u) ∧ RelV v u
  non : ∀ c ∈ cs, H c = none ∧ c ∉ frs Z.stack ∧ Z.base.get? c = none
section
variable {Z : Cx} {cs : List Addr} {ws : List V} {pins : List (Addr × Obj)} {σ : L2.St} {H : Hp} {s : Shared}
theorem CellSrc.get (S : CellSrc Z cs ws H s) {c : Addr} (m : c ∈ cs) : ∃ o, s.heap.get? c = some o := by
  obtain ⟨i, hi⟩ := List.mem_iff_getElem?.mp m
  obtain ⟨_, o, _, _, ho, _⟩ := S.at_ i c hi
  exact ⟨o, ho⟩
/-- H with the cells as they stand in h -/
def regs (cs : List Addr) (h : Heap) (H : Hp) : Hp := fun b => if b ∈ cs then (match h.get? b with | some o => some (CellE b o) | none => none) else H b
theorem regs_in {h : Heap} {b : Addr} {o : Obj} (m : b ∈ cs) (e : h.get? b = some o) : regs cs h H b = some (CellE b o) := by
  unfold regs
  rw [if_pos m, e]
theorem regs_out {h : Heap} {b : Addr} (n : b ∉ cs) : regs cs h H b = H b := if_neg n
theorem CellSrc.reg (S : CellSrc Z cs ws H s) : RegAt cs ws H (regs cs s.heap H) := by
  refine ⟨S.nd, fun b n => regs_out n, fun c m => (S.non c m).1, fun c m => ?_, fun i c v e1 e2 => ?_⟩
  · obtain ⟨o, ho⟩ := S.get m
    exact ⟨o, regs_in m ho⟩
  · obtain ⟨v', o, u, e3, ho, hd, r⟩ := S.at_ i c e1
    rw [e2] at e3
    cases e3
    exact ⟨o, u, regs_in (List.mem_of_getElem? e1) ho, hd, r⟩
theorem CellSrc.env0 (S : CellSrc Z cs ws H s) (I : Inv Z pins σ H s) : Env0 Z.prog Z.w Z.K Z.mg Z.base Z.A Z.stack s (regs cs s.heap H) := by
  have e := I.env0
  refine ⟨e.frames, e.mod, fun b o q => ⟨(e.bs b o q).1, ?_⟩, e.bsz, e.funs, fun b m => ?_, ?_, e.bare⟩
  · refine (regs_out fun m => ?_).trans (e.bs b o q).2
    rw [(S.non b m).2.2] at q
    cases q
  · exact (regs_out fun m' => (S.non b m').2.1 m).trans (e.frf b m)
  · have no : ∀ c o, H c = some o → c ∉ cs := fun c o q m => by
      rw [(S.non c m).1] at q
      cases q
    intro b o q
    by_cases m : b ∈ cs
    · obtain ⟨ob, ho⟩ := S.get m
      rw [regs_in m ho] at q
      cases q
      exact ⟨ho, ⟨_, ho⟩, fun h1 h2 z st => st _ z⟩
    · rw [regs_out m] at q
      exact (e.hok b o q).stay (fun _ _ _ q => q) (fun c q => (regs_out (no c _ q)).trans q) fun c xs q => (regs_out (no c _ q)).trans q
theorem CellSrc.after (S : CellSrc Z cs ws H s) (I : Inv Z pins σ H s) {Q : VK} {u : Value} {s' : Shared}
    (x : CE Z.stack Z.prog Z.w (regs cs s.heap H) s (fun v H2 => (∀ c ∈ cs, H2 c = regs cs s.heap H c) ∧ Q v (drops cs H2)) u s') : EP Z pins σ Q u s' := by
  obtain ⟨v, H2, os, bare, un, hok, r, st, q⟩ := x
  have no : ∀ c o, H c = some o → c ∉ cs := fun c o q m => by
    rw [(S.non c m).1] at q
    cases q
  have kn : Knows cs H2 := fun c m => by
    obtain ⟨o, ho⟩ := S.get m
    exact ⟨o, (st c m).trans (regs_in m ho)⟩
  refine I.after ⟨v, drops cs H2, os, bare, ⟨?_, ?_, ?_, un.there, ?_, ?_, ?_⟩, hok_drops kn hok, r, q⟩
  · intro b o ho n f x
    by_cases m : b ∈ cs
    · have e := (st b m).trans (regs_in m ho)
      exact (hok b _ e).1
    · exact un.keep b o ho ((regs_out m).trans n) f x
  · intro b o ho n f x
    exact un.slot b o ho ((regs_out fun m => (S.non b m).2.1 f).trans n) f x
  · intro b o ho n x
    by_cases m : b ∈ cs
    · exact drops_in m
    · rw [drops_out m]
      exact un.free b o ho ((regs_out m).trans n) x
  · intro b xs q
    have n := no b _ q
    rw [drops_out n]
    exact un.tups b xs ((regs_out n).trans q)
  · intro b o y q
    have n := no b _ q
    rw [drops_out n]
    exact un.frzs b o y ((regs_out n).trans q)
  · intro b ps q
    have n := no b _ q
    rw [drops_out n]
    exact un.tbls b ps ((regs_out n).trans q)
end
/-- the reading of g(..) where the cells cs are known meanwhile -/
def tCallR (ok : L2.St → List V → Prop) (cs : List Addr) (sp : Sp) (t : TA) : TE := fun σ H Q => ∃ ws, ok σ ws ∧ t σ H fun vs H1 =>
  ∀ H0, RegAt cs ws H1 H0 → sp vs H0 (fun v H2 => (∀ c ∈ cs, H2 c = H0 c) ∧ Q v (drops cs H2)) E0
theorem pe_calR {Z : Cx} {k : Nat} {ps : List Str} {sp : Sp} {x : Str} {p pos : Pos} {e : Expr} {es : List Expr} {t : TA} {ok : L2.St → List V → Prop} {cs : List Addr}
    (C : CalG Z.prog Z.w Z.K Z.mg Z.base k x ps sp) (room : Room k Z.A) (gd : Z.A.guards = some [])
    (src : ∀ pins σ H s ws, Inv Z pins σ H s → ok σ ws → CellSrc Z cs ws H s) (ha : PA Z (e :: es) t) (hg : Gl Z x := by rfl)
    (h1 : (x == ("__debug__" : Str)) = false := by decide) (h2 : starEach (e :: es) Z.env = (false, eval e Z.env) :: starEach es Z.env := by rfl)
    (h3 : (backTo pos (starEach es Z.env)).any (·.1) = false := by rfl) : PE Z (.Call (.Name x p) (e :: es) [] pos) (tCallR ok cs sp t) := by
  obtain ⟨f, fd, F, hm, kp, bd⟩ := C.ex
  constructor
  rintro pins s σ H Q I ⟨ws, hw, h⟩
  refine wpAny_Call_Name_kw (ld_glob I hg hm ?_ h1)
  refine PySem.W.callWith_K (h₀ := Z.base) I.ok.mod.kin kp (thn (ha.run pos pins s σ H _ I h) ?_) h2 h3
  rintro us s1 ⟨vs, H1, I1, r, q⟩
  refine ⟨I1.kIn, ?_⟩
  have S := src pins σ H1 s1 ws I1 hw
  have q := q _ S.reg
  have len : us.length = ps.length := r.length.symm.trans (F.len _ _ _ _ q)
  have bnd : BindsTo s1 fd ⟨us, []⟩ (ps.zip us) := by
    have z := bd s1 us I1.kIn (by rw [List.append_nil]; exact len)
    rw [List.append_nil] at z
    exact z
  refine wpAny_call (codeAny_mono (F.run Z.A Z.stack s1 _ ⟨us, []⟩ us vs _ E0 room gd (S.env0 I1) bnd r q) ?_)
  intro r s' z
  match r, z with
  | .error e, z => exact pass0 (X := Z) pins σ H1 s1 e s' I1 z
  | .ok (.ret u), z => exact S.after I1 z
  | .ok .next, z => exact False.elim z
  | .ok .brk, z => exact False.elim z
  | .ok .cont, z => exact False.elim z
/-! ### the cells of the running def -/
abbrev cellAt (X : Cx) (y : Str) : Addr := (X.env.cells.lookup y).getD 0
abbrev okAt (js : List Nat) (σ : L2.St) (ws : List V) : Prop := js.map (fun j => σ[j]?) = ws.map fun v => some (some v)
theorem nodup_mapK {α β : Type} {g : α → β} : ∀ {l : List α}, l.Nodup → (∀ x ∈ l, ∀ y ∈ l, g x = g y → x = y) → (l.map g).Nodup
  | [], _, _ => .nil
  | a :: r, nd, h => by
    obtain ⟨n1, n2⟩ := List.nodup_cons.mp nd
    rw [List.map_cons]
    refine List.nodup_cons.mpr ⟨fun m => ?_, nodup_mapK n2 fun x mx y my => h x (List.mem_cons_of_mem _ mx) y (List.mem_cons_of_mem _ my)⟩
    obtain ⟨b, mb, e⟩ := List.mem_map.mp m
    rw [h b (List.mem_cons_of_mem _ mb) a List.mem_cons_self e] at mb
    exact n1 mb
theorem src_own {X : Cx} {fr : List Str} {js : List Nat} (hj : js.map (fun j => X.N[j]?) = fr.map some) (hk : ∀ y ∈ fr, X.env.scope.names.lookup y = some .cell) (hf : ∀ y ∈ fr, X.fn y = true) (nd : fr.Nodup) :
    ∀ pins σ H s ws, Inv X pins σ H s → okAt js σ ws → CellSrc X (fr.map (cellAt X)) ws H s := by
  intro pins σ H s ws I hw
  have cell : ∀ y ∈ fr, ∃ c, X.env.cells.lookup y = some c ∧ cellAt X y = c := fun y m => by
    obtain ⟨c, hc⟩ := I.ok.has y (.inl (hk y m))
    refine ⟨c, hc, ?_⟩
    unfold cellAt
    rw [hc]
    rfl
  refine ⟨?_, ?_, ?_⟩
  · refine nodup_mapK nd fun x mx y my e => ?_
    obtain ⟨c1, h1, e1⟩ := cell x mx
    obtain ⟨c2, h2, e2⟩ := cell y my
    rw [e1, e2] at e
    subst e
    exact I.ok.inj x y c1 h1 h2
  · intro i c e
    rw [List.getElem?_map] at e
    cases ey : fr[i]? with
    | none =>
      rw [ey] at e
      cases e
    | some y =>
    rw [ey] at e
    have m := List.mem_of_getElem? ey
    obtain ⟨c', hc, ec⟩ := cell y m
    have e : cellAt X y = c := Option.some.inj e
    rw [ec] at e
    subst e
    have e2 : (js.map fun j => X.N[j]?)[i]? = some (some y) := by
      rw [hj, List.getElem?_map, ey]
      rfl
    rw [List.getElem?_map] at e2
    cases ej : js[i]? with
    | none =>
      rw [ej] at e2
      cases e2
    | some j =>
    rw [ej] at e2
    have hN : X.N[j]? = some y := Option.some.inj e2
    have e3 : (js.map fun j => σ[j]?)[i]? = some (σ[j]?) := by
      rw [List.getElem?_map, ej]
      rfl
    rw [hw, List.getElem?_map] at e3
    cases ew : ws[i]? with
    | none =>
      rw [ew] at e3
      cases e3
    | some v =>
    rw [ew] at e3
    have hs : σ[j]? = some (some v) := (Option.some.inj e3).symm
    obtain ⟨mm, hn, hl⟩ := I.loc
    obtain ⟨u, r, l⟩ := hl j y v hN hs (.inr (.inl (hk y m)))
    rcases l with ⟨z, _⟩ | ⟨_, c2, hc2, o, ho, hd⟩
    · have z : X.env.scope.names.lookup y = some .local := z
      rw [hk y m] at z
      cases z
    · rw [hc] at hc2
      cases hc2
      exact ⟨v, o, u, rfl, ho, hd, r⟩
  · intro c m
    obtain ⟨y, my, e⟩ := List.mem_map.mp m
    obtain ⟨c', hc, ec⟩ := cell y my
    rw [ec] at e
    subst e
    have low := I.ok.cab y c' (hf y my) hc
    refine ⟨I.freeC y c' hc, fun f => ?_, Heap.get?_none_of_le (Nat.le_trans I.ok.bsz low)⟩
    rcases List.mem_cons.mp (I.stkSub c' f) with z | z
    · exact I.cne y c' hc z
    · obtain ⟨_, o, ho, _⟩ := I.ok.funs.mem z
      exact absurd (Nat.lt_of_lt_of_le (Heap.lt_size ho) low) (Nat.lt_irrefl _)
/-- .. seen from a comprehension's block -/
theorem src_blk {X : Cx} {sc : Scope} {ce : Env} {fp : List Addr} {cs : List Addr} {ws : List V} {H : Hp} {s : Shared} (S : CellSrc X cs ws H s) (nf : ∀ c ∈ cs, c ∉ fp) :
    ∀ pins σ H' s' ws', Inv (X.blk s H sc ce fp) pins σ H' s' → ws' = ws → CellSrc (X.blk s H sc ce fp) cs ws' H' s' := by
  intro pins σ H' s' ws' I e
  subst e
  refine ⟨S.nd, fun i c e => ?_, fun c m => ?_⟩
  · obtain ⟨v, o, u, h1, h2, h3, h4⟩ := S.at_ i c e
    have m := List.mem_of_getElem? e
    have n := S.non c m
    exact ⟨v, o, u, h1, I.base.keep c o h2 n.1 n.2.1 (nf c m), h3, h4⟩
  · obtain ⟨o, ho⟩ := S.get m
    have n := S.non c m
    exact ⟨I.base.free c o ho n.1 (nf c m), n.2.1, n.2.2⟩
/-! ### a lambda that was made here, where the cells are known -/
theorem clo_look {cells : List (Str × Addr)} {names : List (Str × NameKind)} {y : Str} {c : Addr} (e : (cloFrom cells names []).lookup y = some c) :
    (y, NameKind.free) ∈ names ∧ c = (cells.lookup y).getD 0 := by
  rcases cloFrom_mem (PySem.mem_of_lookup e) with z | z
  · cases z
  · exact z
theorem RegAt.sub {cs : List Addr} {ws : List V} {H H0 : Hp} (r : RegAt cs ws H H0) {b : Addr} {o : HO} (e : H b = some o) : b ∉ cs ∧ H0 b = some o := by
  have n : b ∉ cs := fun m => by
    rw [r.non b m] at e
    cases e
  exact ⟨n, (r.out b n).trans e⟩
/-- nothing changed but what is new: the cells are as they were, and may be forgotten -/
theorem RegAt.done {cs : List Addr} {ws : List V} {H H0 H2 : Hp} (r : RegAt cs ws H H0) (s : Same H0 H2) : (∀ c ∈ cs, H2 c = H0 c) ∧ Same H (drops cs H2) := by
  refine ⟨fun c m => ?_, fun b o e => ?_⟩
  · obtain ⟨o, z⟩ := r.kn c m
    rw [z]
    exact s c _ z
  · obtain ⟨n, z⟩ := r.sub e
    rw [drops_out n]
    exact s b o z
theorem lam_is {X : Cx} {fr4 : List Str} {ws4 : List V} {H H0 : Hp} {q : Str} {pr : Arguments} {bd : Expr} {sc : Scope} {f c' : Addr} {fr : List Str} {ws : List V} {ks : List Nat}
    (R : RegAt (fr4.map (cellAt X)) ws4 H H0) (hf : H f = some (LamO f ⟨q, pr, bd, sc, cloFrom X.env.cells sc.names [], c'⟩)) (hc : H c' = some (LamX.CodeO c' q))
    (S : LScope fr sc) (hk : ks.map (fun k => fr4[k]?) = fr.map some) (hw : ks.map (fun k => ws4[k]?) = ws.map some) :
    LamIs ⟨q, pr, bd, sc, cloFrom X.env.cells sc.names [], c'⟩ fr ws f H0 ∧ ∀ c ∈ (cloFrom X.env.cells sc.names []).map (·.2), c ∈ fr4.map (cellAt X) := by
  have len : ws.length = fr.length := by
    have a := congrArg List.length hk
    have b := congrArg List.length hw
    simp only [List.length_map] at a b
    omega
  -- the i-th captured name
  have at_ : ∀ (i : Nat) (y : Str), fr[i]? = some y → ∃ k v, ws[i]? = some v ∧ fr4[k]? = some y ∧ ws4[k]? = some v := fun i y e => by
    have lt : i < ws.length := by
      rw [len]
      exact (List.getElem?_eq_some_iff.mp e).1
    have ew := List.getElem?_eq_getElem lt
    have h1 : (ks.map fun k => fr4[k]?)[i]? = some (some y) := by
      rw [hk, List.getElem?_map, e]
      rfl
    have h2 : (ks.map fun k => ws4[k]?)[i]? = some (some ws[i]) := by
      rw [hw, List.getElem?_map, ew]
      rfl
    rw [List.getElem?_map] at h1 h2
    cases ek : ks[i]? with
    | none =>
      rw [ek] at h1
      cases h1
    | some k =>
      rw [ek] at h1 h2
      exact ⟨k, _, ew, Option.some.inj h1, Option.some.inj h2⟩
  have cell : ∀ (k : Nat) (y : Str), fr4[k]? = some y → (fr4.map (cellAt X))[k]? = some (cellAt X y) := fun k y e => by
    rw [List.getElem?_map, e]
    rfl
  have free : ∀ y, (y, NameKind.free) ∈ sc.names → ∃ i, fr[i]? = some y := fun y m => List.mem_iff_getElem?.mp (S.free _ m rfl)
  have mem : ∀ y, (y, NameKind.free) ∈ sc.names → cellAt X y ∈ fr4.map (cellAt X) := fun y m => by
    obtain ⟨i, hi⟩ := free y m
    obtain ⟨k, v, _, h4, _⟩ := at_ i y hi
    exact List.mem_of_getElem? (cell k y h4)
  have clo : ∀ c ∈ (cloFrom X.env.cells sc.names []).map (·.2), ∃ y, (y, NameKind.free) ∈ sc.names ∧ c = cellAt X y := fun c m => by
    obtain ⟨⟨y, c2⟩, h1, h2⟩ := List.mem_map.mp m
    rcases cloFrom_mem h1 with z | ⟨z1, z2⟩
    · cases z
    · exact ⟨y, z1, h2.symm.trans z2⟩
  refine ⟨⟨(R.sub hf).2, (R.sub hc).2, fun c m => ?_, ⟨len, fun y c e => ?_, fun x y c e1 e2 => ?_, fun i y v e1 e2 => ?_⟩⟩, fun c m => ?_⟩
  · obtain ⟨y, m2, rfl⟩ := clo c m
    exact R.kn _ (mem y m2)
  · obtain ⟨m, rfl⟩ := clo_look e
    obtain ⟨i, hi⟩ := free y m
    obtain ⟨k, v, _, h4, w4⟩ := at_ i y hi
    exact ⟨v, R.at_ k _ v (cell k y h4) w4⟩
  · obtain ⟨m1, z1⟩ := clo_look e1
    obtain ⟨m2, z2⟩ := clo_look e2
    obtain ⟨i1, hi1⟩ := free x m1
    obtain ⟨i2, hi2⟩ := free y m2
    obtain ⟨k1, _, _, h1, _⟩ := at_ i1 x hi1
    obtain ⟨k2, _, _, h2, _⟩ := at_ i2 y hi2
    have c1 := cell k1 x h1
    have c2 := cell k2 y h2
    have lt := (List.getElem?_eq_some_iff.mp c1).1
    have e : k1 = k2 := (List.getElem?_inj lt R.nd).mp (by rw [c1, c2]; exact congrArg some (z1.symm.trans z2))
    rw [e, h2] at h1
    exact (Option.some.inj h1).symm
  · obtain ⟨k, v', h1, h4, w4⟩ := at_ i y e1
    rw [e2] at h1
    cases h1
    have look : (cloFrom X.env.cells sc.names []).lookup y = some (cellAt X y) := by
      have m : (y, NameKind.free) ∈ sc.names := PySem.mem_of_lookup (S.frk y (List.mem_of_getElem? e1))
      obtain ⟨c2, h2⟩ := mem_lookup (cloFrom_has (cells := X.env.cells) (acc := []) m)
      rw [h2, (clo_look h2).2]
    exact ⟨_, look, R.at_ k _ v (cell k y h4) w4⟩
  · obtain ⟨y, m2, rfl⟩ := clo c m
    exact mem y m2
/-! ### [e for t in i] -/
abbrev lc1 (e t0 i0 : Expr) (f0 : List Expr) (sc : Scope) (pos : Pos) : Expr := .ListComp e [⟨t0, i0, f0, 0⟩] sc pos
section
variable {P : Program} {w : World} {A : Around} {e t0 i0 : Expr} {f0 : List Expr} {sc : Scope} {pos : Pos} {it acc : Value} {env : Env}
theorem turn1_0 : compTurn (lc1 e t0 i0 f0 sc pos) 0 it acc env = (do
      standAt i0.pos
      match ← pyNext it with
      | none => pure (.done .next)
      | some v =>
        letOwnedTupleGo t0 it v
        assign t0 env v
        let mut ok := true
        for c in f0 do
          if ok then ok ← isTrue c env (eval c env)
        if ok then
          (do let _ ← call (.builtin "list.append") [acc, ← eval e env])
        again (.compLoop (lc1 e t0 i0 f0 sc pos) 0 it acc env)) := by rfl
theorem rule1_0 : LoopRule P w A (lc1 e t0 i0 f0 sc pos) 0 it acc env t0 f0 (BApp P w A acc env e) := by
  intro R I turn n s h
  refine codeAny_loop rfl I (fun n s hI => ?_) n h
  show wpAny _ A ((compTurn (lc1 e t0 i0 f0 sc pos) 0 it acc env).onRaise (fun x => do noteFrame x env; theTreesLotGoes x)) _ _ s
  refine wpAny_noted ?_
  rw [turn1_0]
  refine wpAny_bind (wpAny_standAt (wpAny_bind (thn (fls (turn n s hI)) ?_)))
  intro r s1 h1
  cases r with
  | none => exact wpAny_pure h1
  | some v =>
    refine wpAny_bind (thn (fls h1) fun _ s2 h2 => ?_)
    refine wpAny_bind (thn (fls h2) fun _ s3 h3 => ?_)
    refine wpAny_bind (thn (fls h3) fun ok s4 h4 => ?_)
    cases ok with
    | false => exact wpAny_pure ⟨rfl, h4⟩
    | true =>
      refine wpAny_bind (wpAny_bind (thn (fls h4) fun x s5 h5 => ?_))
      refine wpAny_bind (thn (fls h5) fun _ s6 h6 => ?_)
      exact wpAny_pure (wpAny_pure ⟨rfl, h6⟩)
end
/-- .. its block told what the cells cs hold -/
def tLcK (ok : L2.St → List V → Prop) (wi : TI) (g : TG) (tt : TT) (te : List V → TE) (vs : List Nat) : TE := fun σ H Q => ∃ ws, ok σ ws ∧ tLc wi g tt (te ws) vs σ H Q
theorem pe_lcK {X : Cx} {e t0 i0 : Expr} {f0 : List Expr} {sc : Scope} {own : List (Str × Nat)} {pos : Pos} {wi : TI} {g : TG} {tt : TT} {te : List V → TE} {ok : L2.St → List V → Prop} {fr : List Str}
    (hc : X.calm = true) (hN : X.N.Nodup) (src : ∀ pins σ H s ws, Inv X pins σ H s → ok σ ws → CellSrc X (fr.map (cellAt X)) ws H s) (hk : ∀ y ∈ fr, X.env.scope.names.lookup y = some .cell)
    (hi0 : PI X t0 i0 wi) (blk : BlkOk X.N X.env.scope sc own)
    (hg0 : ∀ (s : Shared) (H : Hp) (C : Addr) (cl : List (Str × Addr)) (fp : List Addr), PG (X.blk s H sc (compEnvC sc cl C X.env) fp) t0 g)
    (ht0 : ∀ (s : Shared) (H : Hp) (C : Addr) (cl : List (Str × Addr)) (fp : List Addr), PTs (X.blk s H sc (compEnvC sc cl C X.env) fp) f0 tt)
    (he : ∀ (s : Shared) (H : Hp) (C : Addr) (cl : List (Str × Addr)) (fp : List Addr) (ws : List V), CellSrc X (fr.map (cellAt X)) ws H s → (∀ c ∈ fr.map (cellAt X), c ∉ fp) →
      PE (X.blk s H sc (compEnvC sc cl C X.env) fp) e (te ws))
    (hs0 : ∀ x, foldedSetIterable i0 X.env x = pure x := by intro _; rfl) : PE X (lc1 e t0 i0 f0 sc pos) (tLcK ok wi g tt te (own.map (·.2))) := by
  constructor
  rintro pins s σ H Q I ⟨ws, hw, h⟩
  rw [eval_ListComp]
  have closed : ∀ y ∈ sc.names, y.2 = .free → ∃ c, X.env.cells.lookup y.1 = some c := fun y hy z => by
    rcases blk.free y hy z with k | k
    · exact I.ok.has _ (.inl k)
    · exact I.ok.has _ (.inr k)
  refine wpAny_comprehension_free (use := none) rfl hs0 (closure_ok closed) blk.kind (fun y hy z => by rw [blk.uniq y hy, z]) (thn (hi0.run pins s σ H _ I h) ?_)
  intro xv s1 hx
  refine thn hx ?_
  rintro itv s2 ⟨it, fp, tn, J, H2, rfl, I2, T, st2, f2, q⟩
  refine wpAny_newObj_type (newEnv_comp ?_) (by show 0 ≤ sizeLine; decide)
  generalize hD : s2.heap.objs.size = D
  have nD : H2 D = none := I2.hok.fresh (Nat.le_of_eq hD)
  have cl := q D nD
  let nob : Obj := { cls := .type "list", data := .seq ([] : List Value).toArray }
  generalize hs3 : ({ s2 with heap := s2.heap.push nob } : Shared) = s3
  have at3 : s3.heap = s2.heap.push nob := by rw [← hs3]
  have I3 : Inv X pins σ (upd H2 D (.lst [])) s3 := by
    rw [← hs3]
    refine I2.laid (t' := s2.toks) (fun b o z => Heap.get?_push_of_some _ z) (Nat.le_of_eq hD) ⟨Nat.zero_le _, [], 0, .nil, ?_⟩
    rw [← hD]
    exact Heap.get?_push_size _ rfl
  have f3 : ∀ b ∈ fp, FpOk X pins (upd H2 D (.lst [])) b ∧ b < s3.heap.objs.size := fun b hb => by
    obtain ⟨o, z, _⟩ := T.obj _ _ st2 b hb
    have low : b < s2.heap.objs.size := Heap.lt_size z
    refine ⟨⟨?_, (f2 b hb).2⟩, ?_⟩
    · rw [upd_ne (by rw [← hD]; exact Nat.ne_of_lt low)]
      exact (f2 b hb).1
    · rw [at3, Heap.size_push]
      exact Nat.lt_succ_of_lt low
  have st3 : tn 0 s3.heap := T.keep _ _ _ st2 fun b _ o z => by
    rw [at3]
    exact Heap.get?_push_of_some _ z
  have I4 := block_start I3 blk hN f3
  have S3 := src pins σ _ s3 ws I3 hw
  have nfp : ∀ c ∈ fr.map (cellAt X), c ∉ fp := fun c m z => by
    obtain ⟨y, my, ey⟩ := List.mem_map.mp m
    obtain ⟨c', hc'⟩ := I3.ok.has y (.inl (hk y my))
    have e2 : cellAt X y = c' := by
      unfold cellAt
      rw [hc']
      rfl
    exact (f3 c z).1.2.2.2.2.1 y c' hc' (e2.symm.trans ey)
  let cells := cellsFrom (s3.heap.objs.size + 1) sc.names (cloFrom X.env.cells sc.names [])
  have pg := hg0 s3 (upd H2 D (.lst [])) s3.heap.objs.size cells fp
  have pt := ht0 s3 (upd H2 D (.lst [])) s3.heap.objs.size cells fp
  have pe := he s3 (upd H2 D (.lst [])) s3.heap.objs.size cells fp ws S3 nfp
  show codeAny _ _ (.compStart (lc1 e t0 i0 f0 sc pos) 0 (.ref it) (.ref D) (compEnvC sc cells s3.heap.objs.size X.env))
    (compPost (model X.prog X.w) X.A X.xe none (EP X pins σ Q) (.ref D) s3.heap.objs.size)
    { s3 with heap := pushCells (s3.heap.push { cls := .type "dict", data := .dict #[] }) sc.names }
  generalize hce : compEnvC sc cells s3.heap.objs.size X.env = ce at I4 pg pt pe ⊢
  have cL : ce.locals = s3.heap.objs.size := by
    subst hce
    rfl
  have nofp : ∀ b ∈ fp, (upd H2 D (.lst [])) b = none := fun b hb => (f3 b hb).1.1
  generalize hH3 : upd H2 D (.lst []) = H3 at I3 I4 pg pt pe cl nofp f3
  generalize hs4 : (Shared.mk (pushCells (s3.heap.push { cls := .type "dict", data := .dict #[] }) sc.names) s3.gens s3.drawn s3.toks s3.os) = s4 at I4 ⊢
  have st4 : tn 0 s4.heap := T.keep _ _ _ st3 fun b _ o z => by
    rw [← hs4]
    exact pushCells_keeps _ _ _ _ (Heap.get?_push_of_some _ z)
  have fo : ∀ b ∈ fp, FpOk (X.blk s3 H3 sc ce fp) [] H3 b := fun b hb => by
    have z := I4.ok.exf b hb
    exact ⟨nofp b hb, z.1, I4.ok.exfs b hb, .inl hb, fun x c w => z.2 x c w, fun p hp => nomatch (show p ∈ ([] : List (Addr × Obj)) from by simpa using hp)⟩
  have loop : codeAny (model X.prog X.w) X.A (.compLoop (lc1 e t0 i0 f0 sc pos) 0 (.ref it) (.ref D) ce)
      (compPost (model X.prog X.w) X.A X.xe none (EP X pins σ Q) (.ref D) s3.heap.objs.size) s4 := by
    refine clause (B := X.blk s3 H3 sc ce fp) (body := fun σ2 H2 Nx => te ws σ2 H2 fun y H7 => ∃ acc, H7 D = some (.lst acc) ∧ acc.length < sizeLine ∧ Nx (upd H7 D (.lst (acc ++ [y]))))
      (Done := fun H' => Q (.ref D) H') hc rfl (rule1_0 (P := X.prog) (w := X.w) (A := X.A)) T pg pt I4 st4 fo cl ?_ ?_
    · intro σ5 H5 s5 pins5 N2 Post w5 I5 b5 fin
      refine thn (pe.run pins5 s5 σ5 H5 _ I5 b5) ?_
      rintro z s6 ⟨y, H6, I6, r6, ac, hD6, hz6, nx⟩
      exact app_ok (X := X.blk s3 H3 sc ce fp) I6 hD6 hz6 r6 fun s7 I7 => fin σ5 _ s7 (kn_wipe w5) I7 nx
    · intro H' s' I' qq
      have I7 : Inv X pins σ H' s' := I3.call' (ch := fp) I'.os I'.base I'.hok I'.bare fun b hb => ⟨(f3 b hb).1.2.2.2.1, (f3 b hb).1.2.1, (f3 b hb).1.2.2.2.2.1, (f3 b hb).1.2.2.2.2.2⟩
      have nC : H' s3.heap.objs.size = none := by
        have z : H' ce.locals = none := I'.free
        rw [cL] at z
        exact z
      obtain ⟨m, hn, _⟩ := I'.loc
      have hn : s'.heap.Ns ce.locals m := hn
      rw [cL] at hn
      refine ⟨m, hn, fun h2 sb => ?_⟩
      obtain ⟨z0, z1, z2, z3, z4, z5⟩ := I3.fpOk (Nat.le_refl _) nC
      exact ⟨.ref D, H', I7.turned (t' := s'.toks) (fun b o hb z => (sb.2 b hb).trans z) z0 z1 z3 z4 z5, rfl, qq⟩
  exact codeAny_compStart_list loop (T.self X.A 0 _ _ _ st4 loop)
end OM
namespace OM
open PySem PySem.Spec PyProof.Rows L2
section
variable {P : Program} {w : World} {K : PySem.W.Frag} {mg : Str → Option Value} {base : Heap}
/-- a def, its code object told -/
theorem okGK {x qual : Str} {st : Stmt} {f : Addr} {fd : FuncData} {N ps : List Str} {k : Nat} {sp : Sp} {c : Addr}
    (F : Fun K x qual st f fd) (S : FnScope N ps (defScope st)) (hc : fd.code = .ref c) (len : ∀ vs H Q E, sp vs H Q E → vs.length = ps.length)
    (body : ∀ (A : Around) (outer : List Env) (s : Shared) (H : Hp) (vs : List V) (Q : VK) (E : XK),
      Room k (A.deeper (envOfC qual (defScope st) s.heap.objs.size f (.ref c))) → A.guards = some [] → sp vs H Q E →
      ∃ t, PSs (cxOf CX0 P w K mg base N qual (defScope st) f (.ref c) A outer s H E).nox (defBody st) t ∧ t { nx := fun _ H' => Q .non H', rt := Q } (start N vs) H) :
    FnG P w K mg base CX0 (k + 1) f fd ps sp := by
  obtain ⟨oc, od, kV, dc, pm, an, cv, ct, sl, rfl, lk, co⟩ := F.ex
  obtain rfl : cv = .ref c := hc
  refine FnG.mk' lk co S len ?_
  intro A outer s H vs Q E room gd hs
  obtain ⟨t, h, q⟩ := body A outer s H vs Q E room gd hs
  exact ⟨t, h.nox, q⟩
end
/-- all but tables and p stay -/
def XB (p : Addr) (H H' : Hp) : Prop := ∀ b o, H b = some o → (∀ ps, o ≠ .tbl ps) → b ≠ p → H' b = some o
theorem XB.refl {p : Addr} (H : Hp) : XB p H H := fun _ _ e _ _ => e
theorem XB.trans {p : Addr} {H H1 H2 : Hp} (a : XB p H H1) (b : XB p H1 H2) : XB p H H2 := fun c o e n m => b c o (a c o e n m) n m
theorem XB.of {p : Addr} {H H' : Hp} (a : But p H H') : XB p H H' := fun c o e _ m => a c o e m
theorem XB.ext {p : Addr} {H H' : Hp} (a : LamX.ExtN H H') : XB p H H' := fun c o e n _ => a c o e n
theorem XB.rng {p : Addr} {H H' : Hp} (a : LamX.ExtN H H') (r : Rng H p) : Rng H' p := by
  obtain ⟨x, y, e, z⟩ := r
  exact ⟨x, y, a _ _ e nofun, z⟩
theorem cells_by {sc : Scope} {fr : List Str} (h : (fr.all fun y => decide (sc.names.lookup y = some .cell)) = true) : ∀ y ∈ fr, sc.names.lookup y = some .cell :=
  fun y m => of_decide_eq_true (List.all_eq_true.mp h y m)
theorem tabs_lst {T : List (Addr × Str)} {p : Addr} {xs : List V} {H H' : Hp} (t : LamX.Tabs T H) (e : H p = some (.lst xs)) (b : But p H H') : LamX.Tabs T H' := fun q hq => by
  obtain ⟨ps, h1, h2, h3⟩ := t q hq
  refine ⟨ps, b _ _ h1 fun z => ?_, h2, fun pos cv hc => ?_⟩
  · rw [z, e] at h1
    cases h1
  · obtain ⟨c, e1, e2⟩ := h3 pos cv hc
    refine ⟨c, e1, b _ _ e2 fun z => ?_⟩
    rw [z, e] at e2
    cases e2
theorem tabs_but {T : List (Addr × Str)} {p : Addr} {H H' : Hp} (t : LamX.Tabs T H) (r : Rng H p) (b : But p H H') : LamX.Tabs T H' := by
  obtain ⟨x, y, e, _⟩ := r
  exact tabs_lst t e b
theorem lamO_lst {f : Addr} {F : LF} {xs : List V} : LamO f F ≠ .lst xs := fun z => by
  unfold LamO at z
  cases z
theorem codeO_lst {c : Addr} {q : Str} {xs : List V} : LamX.CodeO c q ≠ .lst xs := fun z => by
  unfold LamX.CodeO at z
  cases z
/-- a lambda stands at f -/
structure Sd (mk : Addr → LF) (f c : Addr) (H : Hp) : Prop where
  fn : H f = some (LamO f (mk c))
  co : H c = some (LamX.CodeO c (mk c).qual)
theorem Sd.keep {mk : Addr → LF} {f c p : Addr} {xs : List V} {H H' : Hp} (s : Sd mk f c H) (e : H p = some (.lst xs)) (x : XB p H H') : Sd mk f c H' :=
  ⟨x _ _ s.fn lamO_ne (ne_of s.fn e lamO_lst), x _ _ s.co LamX.codeO_ne (ne_of s.co e codeO_lst)⟩
theorem Sd.ext {mk : Addr → LF} {f c : Addr} {H H' : Hp} (s : Sd mk f c H) (x : LamX.ExtN H H') : Sd mk f c H' :=
  ⟨x _ _ s.fn lamO_ne, x _ _ s.co LamX.codeO_ne⟩
theorem Made.sd {T : List (Addr × Str)} {mk : Addr → LF} {H H1 : Hp} {f c : Addr} (m : Made T mk H f c H1) : Sd mk f c H1 := ⟨m.at_, m.cod⟩
/-- x * 3 of a text -/
def rMul3 : R2 := fun x y H Q => ∃ a, x = .str a ∧ y = .int 3 ∧ a.length ≤ 1000 ∧ ∀ b : Str, b.length ≤ 3000 → Q (.str b) H
theorem op_mul3 {X : Cx} : OpR X (binaryOp .Mult) rMul3 := by
  intro pins s σ H x y v u Q I rx ry h
  obtain ⟨a, rfl, rfl, len, q⟩ := h
  obtain ⟨t, rfl⟩ := rx
  obtain ⟨t', rfl⟩ := ry
  have len3 : (⟨(List.replicate (Int.toNat 3) a.cps).foldl (· ++ ·) #[]⟩ : Str).length = a.length * 3 := by
    show (((#[] ++ a.cps) ++ a.cps) ++ a.cps).size = a.cps.size * 3
    simp only [Array.size_append, Array.size_empty]
    omega
  have z3 : 3000 ≤ sizeLine := by decide
  refine PySem.P.mul_str (by decide) (fun _ _ => by omega) (fun _ _ => ?_) ?_
  · show decide (a.length * 3 > sizeLine) = false
    exact decide_eq_false (by omega)
  · rw [if_neg (by decide)]
    split
    · exact ⟨.str a, H, I, ⟨_, rfl⟩, q a (by omega)⟩
    · refine ⟨by rw [len3]; omega, .str _, H, I.tok _, ⟨_, rfl⟩, q _ (by rw [len3]; omega)⟩
end OM
namespace OM
open PySem PySem.Spec PyProof.Rows L2
/-! ### where a value is no order of the base -/
/-- an error of one field leaves -/
def XOut (C : Addr) (f : Str) (H : Hp) (E : XK) (v : V) : Prop :=
  ∀ d H', H d = none → H' d = some (.xd [(f, v)]) →
    Same H H' → E (.ref C) (some d) H'
theorem XOut.back {C : Addr} {f : Str} {H H1 : Hp} {E : XK} {v : V}
    (h : XOut C f H E v) (s : Same H H1) : XOut C f H1 E v :=
  fun d H' nd e s' => h d H' (s.free nd) e (s.trans s')
section
variable {P : Program} {w : World} {K : PySem.W.Frag}
  {mg : Str → Option Value} {base : Heap} {C CV CU : Addr}
theorem ok_uinit {f : Addr} {fd : FuncData} {k : Nat} {q : Str}
    (F : Fun K "__init__" q s_UnknownItem_init f fd) (T : OexF K CU)
    (n1 : PySem.W.findIn K (.ref CU) "value" = some none) :
    FnOk P w K mg base CX0 (k + 1) f fd ["self", "value"]
      (spX1 CU "value") := by
  refine F.ok sc_UnknownItem_init (fun vs H Q E h => ?_)
    (fun cv A outer s H vs Q E hr h => ?_)
  · obtain ⟨a, v1, rfl, _⟩ := h
    rfl
  obtain ⟨a, v1, rfl, ha, q⟩ := h
  refine ⟨_, pss_one (ps_ostF (pv 0) (pv 1)), ?_⟩
  exact ⟨_, rfl, _, rfl, a, CU, rfl, T, n1, ha, fun dx nd ne => q dx nd ne⟩
end
end OM
namespace OM
open PySem PySem.Spec PyProof.Rows L2
/-- is it an item -/
def spHas (K : PySem.W.Frag) (C : Addr) : Sp := fun vs H Q _ =>
  ∃ (b : Addr) (ls : List (List Nat)) (v : V), vs = [.ref b, v] ∧
  BaseAt C H b ls ∧ (∀ l ∈ ls, Nm l) ∧
  ((∃ x : Str, v = .str x ∧ x.length ≤ sizeLine ∧ ∀ H', Same H H' →
      Q (.bl (decide (x.cps.toList ∈ ls))) H') ∨
   (∃ t, TyX K H v t ∧ PySem.W.kitOne K t (.type "str") = some false ∧
      ∀ H', Same H H' → Q (.bl false) H'))
section
variable {P : Program} {w : World} {K : PySem.W.Frag}
  {mg : Str → Option Value} {base : Heap} {C : Addr}
theorem ok_has {f : Addr} {fd : FuncData} {k : Nat}
    (F : Fun K "has_item" "Base.has_item" s_Base_has_item f fd) (B : Bl mg)
    (T : BC K mg C) (Ci : CalIsName P w K mg base k) :
    FnOk P w K mg base CX0 (k + 1) f fd ["self", "value"] (spHas K C) := by
  refine F.ok sc_Base_has_item (fun vs H Q E h => ?_)
    (fun cv A outer s H vs Q E hr h => ?_)
  · obtain ⟨b, ls, v, rfl, _⟩ := h
    rfl
  obtain ⟨b, ls, v, rfl, hb, nm, h⟩ := h
  have hu := hu_of hr
  refine ⟨_, pss_one (ps_ret (pe_and (pe_cal Ci hr (pa_cons (pv 1) pa_nil))
    (pe_one (pe_cmp (pc_din hu (pv 1) (pe_fld (pv 0) rfl)) rfl)))), ?_⟩
  rcases h with ⟨x, rfl, hx, q⟩ | ⟨t, ty, kt, q⟩
  · refine ⟨_, rfl, _, rfl, .inl ⟨x, rfl, hx, fun H1 s1 => ?_⟩⟩
    obtain ⟨dx, lo, d, h1, h2, h3⟩ := (hb.same s1).ob
    refine ⟨_, rfl, ?_⟩
    by_cases hm : x.cps.toList ∈ ls
    · have e : nmB x.cps.toList = true := nmB_iff.mpr (nm _ hm)
      rw [e]
      refine iteT ⟨_, rfl, _, rfl, b, C, dx, _, _, rfl, h1, T.cl, T.nP,
        bf_places _ _, d, _, rfl, DGet.k (k := Sum.inr x) h3, ?_⟩
      have ex : x = SX.S x.cps.toList := (SX.S_tl x).symm
      rw [ex, val_prs, if_pos hm]
      have := q H1 s1
      rw [decide_eq_true hm] at this
      exact this
    · have qf := q H1 s1
      rw [decide_eq_false hm] at qf
      cases e : nmB x.cps.toList with
      | false => exact iteF qf
      | true =>
        refine iteT ⟨_, rfl, _, rfl, b, C, dx, _, _, rfl, h1, T.cl, T.nP,
          bf_places _ _, d, _, rfl, DGet.k (k := Sum.inr x) h3, ?_⟩
        have ex : x = SX.S x.cps.toList := (SX.S_tl x).symm
        rw [ex, val_prs, if_neg hm]
        exact qf
  · exact ⟨_, rfl, _, rfl, .inr ⟨t, ty, kt, _, rfl, iteF (q H (Same.refl H))⟩⟩
end
end OM
namespace OM
open PySem PySem.Spec PyProof.Rows L2
/-- an item's place -/
def spPos (C : Addr) : Sp := fun vs H Q _ =>
  ∃ (b : Addr) (ls : List (List Nat)) (l : List Nat), vs = [.ref b, vS l] ∧
  BaseAt C H b ls ∧ (∀ l ∈ ls, Nm l) ∧ l ∈ ls ∧
  ∀ H', Same H H' → Q (.int ((ls.idxOf l : Nat) : Int)) H'
def spPrec (C : Addr) : Sp := fun vs H Q _ =>
  ∃ (b : Addr) (ls : List (List Nat)) (l m : List Nat),
  vs = [.ref b, vS l, vS m] ∧
  BaseAt C H b ls ∧ (∀ l ∈ ls, Nm l) ∧ l ∈ ls ∧ m ∈ ls ∧
  ∀ H', Same H H' → Q (.bl (decide (ls.idxOf l < ls.idxOf m))) H'
theorem idx_get {ls : List (List Nat)} {l : List Nat} (h : l ∈ ls) :
    (ls.map vS)[ls.idxOf l]? = some (vS l) := by
  have hl := List.idxOf_lt_length_of_mem h
  rw [List.getElem?_map, List.getElem?_eq_getElem hl, List.getElem_idxOf hl]
  rfl
theorem idx_first {ls : List (List Nat)} {l : List Nat} (m : Nat) (z : V)
    (hm : m < ls.idxOf l) (hz : (ls.map vS)[m]? = some z) :
    eqV z (vS l) = false := by
  rw [List.getElem?_map] at hz
  cases e : ls[m]? with
  | none => rw [e] at hz; cases hz
  | some x =>
    rw [e] at hz
    cases Option.some.inj hz
    have ne : x ≠ l := by
      rintro rfl
      obtain ⟨hl, e2⟩ := List.getElem?_eq_some_iff.mp e
      have := List.not_of_lt_findIdx hm
      simp [e2] at this
    unfold eqV
    simp
    exact ne
theorem eqV_self (l : List Nat) : eqV (vS l) (vS l) = true := by
  unfold eqV
  simp
end OM
namespace OM
open PySem PySem.Spec PyProof.Rows L2
/-! ### one def, two promises -/
section
variable {P : Program} {w : World} {K : PySem.W.Frag}
  {mg : Str → Option Value} {base : Heap} {CX : CXT}
def orSp (sp1 sp2 : Sp) : Sp := fun vs H Q E => sp1 vs H Q E ∨ sp2 vs H Q E
theorem fn_or {k : Nat} {f : Addr} {fd : FuncData} {ps : List Str}
    {sp1 sp2 : Sp} (F1 : FnOk P w K mg base CX0 k f fd ps sp1)
    (F2 : FnOk P w K mg base CX k f fd ps sp2) :
    FnOk P w K mg base CX k f fd ps (orSp sp1 sp2) := by
  refine ⟨fun vs H Q E h => ?_, fun A o s H ar us vs Q E r e b v h => ?_⟩
  · rcases h with h | h
    · exact F1.len vs H Q E h
    · exact F2.len vs H Q E h
  · rcases h with h | h
    · refine codeAny_mono (F1.run A o s H ar us vs Q E r e b v h) ?_
      intro x s' z
      match x, z with
      | .error _, z => exact False.elim z
      | .ok .next, z => exact z
      | .ok .brk, z => exact z
      | .ok .cont, z => exact z
      | .ok (.ret _), z => exact z
    · exact F2.run A o s H ar us vs Q E r e b v h
structure CalME (CX : CXT) (P : Program) (w : World) (K : PySem.W.Frag)
    (mg : Str → Option Value) (base : Heap) (C : Addr) (k : Nat) (x : Str)
    (ps : List Str) (sp : Sp) : Prop where
  cl : Cls K C
  ex : ∃ f fd, FnOk P w K mg base CX k f fd ps sp ∧ Meth K C x f ∧
    Binds K fd ps []
end
section
variable {X : Cx} {k : Nat} {ps : List Str} {sp : Sp} {x : Str} {C : Addr}
  {p pos : Pos} {o e : Expr} {es : List Expr} {t : TA} {to : TE} {CX : CXT}
theorem pe_calME {pl : Sem Bool} {E : XK}
    (M : CalME CX X.prog X.w X.K X.mg X.base C k x ps sp)
    (room : Room k X.A) (hx : Passes CX X E) (ho : PE X o to)
    (ha : PA X (e :: es) t)
    (h1 : starEach (e :: es) X.env =
      (false, eval e X.env) :: starEach es X.env := by rfl)
    (h2 : (backTo pos (starEach es X.env)).any (·.1) = false := by rfl)
    (h3 : eval (.Call (.Attribute o x p) (e :: es) [] pos) X.env = (do
      let ov ← eval o X.env
      standAt p.atName
      let (f, first) ← holding [ov] (getMethod ov x pl)
      callWith pos f first (backTo pos (starEach (e :: es) X.env))
        (backToKw pos (keywordEach [] X.env))) := by rfl) :
    PE X (.Call (.Attribute o x p) (e :: es) [] pos)
      (tMeth C x sp [] E to t) := by
  obtain ⟨f, fd, F, m, b⟩ := M.ex
  exact pe_meth (pl := pl) ho M.cl m F room b .nil hx ha h1 h2 h3
end
end OM
namespace OM
open PySem PySem.Spec PyProof.Rows L2
/-! ### items that the base does not have -/
def NoI (ls : List (List Nat)) (v : V) : Prop := ∀ l, v = vS l → l ∉ ls
def spPosX (K : PySem.W.Frag) (C CU : Addr) : Sp := fun vs H _ E =>
  ∃ (b : Addr) (ls : List (List Nat)) (v : V), vs = [.ref b, v] ∧
  BaseAt C H b ls ∧ (∀ l ∈ ls, Nm l) ∧ Elt1 K H v ∧ NoI ls v ∧
  XOut CU "value" H E v
def spPrecX (K : PySem.W.Frag) (C CU : Addr) : Sp := fun vs H _ E =>
  ∃ (b : Addr) (ls : List (List Nat)) (v u : V), vs = [.ref b, v, u] ∧
  BaseAt C H b ls ∧ (∀ l ∈ ls, Nm l) ∧ Elt1 K H v ∧ Elt1 K H u ∧
  ((NoI ls v ∧ XOut CU "value" H E v) ∨
   (∃ l, v = vS l ∧ l ∈ ls ∧ NoI ls u ∧ XOut CU "value" H E u))
section
variable {P : Program} {w : World} {K : PySem.W.Frag}
  {mg : Str → Option Value} {base : Heap} {C CV CU : Addr}
theorem ok_posX {f : Addr} {fd : FuncData} {k j : Nat}
    (F : Fun K "position_of" "Base.position_of" s_Base_position_of f fd)
    (Mh : CalM P w K mg base C k "has_item" ["self", "value"] (spHas K C))
    (M : XMkF P w K mg base CU j "UnknownItem" ["self", "value"]
      (spX1 CU "value")) (hj : j + 1 ≤ k) :
    FnOk P w K mg base (L2.CX P w) (k + 1) f fd ["self", "item"]
      (spPosX K C CU) := by
  refine okE F sc_Base_position_of (fun vs H Q E h => ?_)
    (fun cv A outer s H vs Q E hr h => ?_)
  · obtain ⟨b, ls, v, rfl, _⟩ := h
    rfl
  obtain ⟨b, ls, v, rfl, hb, nm, el, no, q⟩ := h
  refine ⟨_, pss_cons (ps_if (pt_not (pt_val
      (pe_calM Mh hr (pv 0) (pa_cons (pv 1) pa_nil))))
      (pss_one (ps_raise1F M (hr.mono hj) rfl (takes_of rfl rfl rfl rfl)
        (pa_cons (pv 1) pa_nil))) pss_nil)
    (pss_one ps_never), ?_⟩
  obtain ⟨dx, lo, d, h1, h2, h3⟩ := hb.ob
  refine ⟨_, rfl, b, dx, _, rfl, h1, bf_no _ _ (by decide +kernel)
    (by decide +kernel), _, rfl, b, ls, _, rfl, hb, nm, ?_⟩
  have fin : ∀ H1, Same H H1 → ∀ d H2, H1 d = none →
      H2 d = some (.xd [("value", v)]) → Same H1 H2 →
      E (.ref CU) (some d) H2 := fun H1 s1 d H2 n e s2 =>
    q d H2 (s1.free n) e (s1.trans s2)
  rcases el with ⟨l, rfl, hl⟩ | ⟨t, ty, kt, nt⟩
  · refine .inl ⟨_, rfl, by rw [SX.S_len]; exact sz (by omega),
      fun H1 s1 => ?_⟩
    rw [decide_eq_false (show ¬ (SX.S l).cps.toList ∈ ls from no l rfl)]
    exact ⟨_, rfl, iteT ⟨_, rfl, _, rfl, fun d H2 n e s2 =>
      fin H1 s1 d H2 n e s2⟩⟩
  · exact .inr ⟨t, .base ty, kt, fun H1 s1 => ⟨_, rfl, iteT ⟨_, rfl, _, rfl,
      fun d H2 n e s2 => fin H1 s1 d H2 n e s2⟩⟩⟩
theorem ok_precX {f : Addr} {fd : FuncData} {k : Nat}
    (F : Fun K "precedes" "Base.precedes" s_Base_precedes f fd)
    (Mp : CalME (L2.CX P w) P w K mg base C k "position_of" ["self", "item"]
      (orSp (spPos C) (spPosX K C CU))) :
    FnOk P w K mg base (L2.CX P w) (k + 1) f fd ["self", "first", "second"]
      (spPrecX K C CU) := by
  refine okE F sc_Base_precedes (fun vs H Q E h => ?_)
    (fun cv A outer s H vs Q E hr h => ?_)
  · obtain ⟨b, ls, v, u, rfl, _⟩ := h
    rfl
  obtain ⟨b, ls, v, u, rfl, hb, nm, ev, eu, h⟩ := h
  refine ⟨_, pss_one (ps_ret (pe_cmpR op_lt
    (pe_calME Mp hr (passes_call (takes_of rfl rfl rfl rfl)
      (fun _ _ _ _ z => z)) (pv 0) (pa_cons (pv 1) pa_nil))
    (pe_calME Mp hr (passes_call (takes_of rfl rfl rfl rfl)
      (fun _ _ _ _ z => z)) (pv 0) (pa_cons (pv 2) pa_nil)) (nomark _))), ?_⟩
  obtain ⟨dx, lo, d, h1, h2, h3⟩ := hb.ob
  refine ⟨_, rfl, b, dx, _, rfl, h1, bf_no _ _ (by decide +kernel)
    (by decide +kernel), _, rfl, ?_⟩
  rcases h with ⟨no, q⟩ | ⟨l, rfl, hl, no, q⟩
  · exact .inr ⟨b, ls, v, rfl, hb, nm, ev, no, q⟩
  · refine .inl ⟨b, ls, l, rfl, hb, nm, hl, fun H1 s1 => ?_⟩
    exact ⟨_, rfl, b, dx, _, rfl, s1 _ _ h1, bf_no _ _ (by decide +kernel)
      (by decide +kernel), _, rfl, .inr ⟨b, ls, u, rfl, hb.same s1, nm,
      eu.same s1, no, q.back s1⟩⟩
/-! ### is_inverted, inverted_pairs, dump_order -/
end
end OM
namespace OM
open PySem PySem.Spec PyProof.Rows L2
section
variable {P : Program} {w : World} {K : PySem.W.Frag}
  {mg : Str → Option Value} {base : Heap} {C : Addr}
theorem ok_pos {f : Addr} {fd : FuncData} {k : Nat}
    (F : Fun K "position_of" "Base.position_of" s_Base_position_of f fd)
    (T : BC K mg C)
    (Mh : CalM P w K mg base C k "has_item" ["self", "value"] (spHas K C)) :
    FnOk P w K mg base CX0 (k + 1) f fd ["self", "item"] (spPos C) := by
  refine F.ok sc_Base_position_of (fun vs H Q E h => ?_)
    (fun cv A outer s H vs Q E hr h => ?_)
  · obtain ⟨b, ls, l, rfl, _⟩ := h
    rfl
  obtain ⟨b, ls, l, rfl, hb, nm, hm, q⟩ := h
  have hu := hu_of hr
  refine ⟨_, pss_cons (ps_if (pt_not (pt_val
      (pe_calM Mh hr (pv 0) (pa_cons (pv 1) pa_nil)))) (pss_one ps_never)
      pss_nil)
    (pss_one (ps_ret (pe_dget hu (pe_fld (pv 0) rfl) (pv 1)
      (fun _ _ => rfl)))), ?_⟩
  obtain ⟨dx, lo, d, h1, h2, h3⟩ := hb.ob
  refine ⟨_, rfl, b, dx, _, rfl, h1, bf_no _ _ (by decide +kernel)
    (by decide +kernel), _, rfl, b, ls, _, rfl, hb, nm, .inl ⟨_, rfl,
    (nm l hm).len, fun H1 s1 => ?_⟩⟩
  rw [decide_eq_true (show (SX.S l).cps.toList ∈ ls from hm)]
  refine ⟨_, rfl, iteF ?_⟩
  refine ⟨_, rfl, b, C, dx, _, _, rfl, s1 _ _ h1, T.cl, T.nP, bf_places _ _, _,
    rfl, d, _, rfl, ?_, q H1 s1⟩
  have g := DGet.k (k := Sum.inr (SX.S l)) (s1 _ _ h3)
  rw [val_prs, if_pos hm, Nat.zero_add] at g
  exact g
theorem ok_prec {f : Addr} {fd : FuncData} {k : Nat}
    (F : Fun K "precedes" "Base.precedes" s_Base_precedes f fd)
    (Mp : CalM P w K mg base C k "position_of" ["self", "item"] (spPos C)) :
    FnOk P w K mg base CX0 (k + 1) f fd ["self", "first", "second"]
      (spPrec C) := by
  refine F.ok sc_Base_precedes (fun vs H Q E h => ?_)
    (fun cv A outer s H vs Q E hr h => ?_)
  · obtain ⟨b, ls, l, m, rfl, _⟩ := h
    rfl
  obtain ⟨b, ls, l, m, rfl, hb, nm, hl, hm, q⟩ := h
  refine ⟨_, pss_one (ps_ret (pe_cmpR op_lt
    (pe_calM Mp hr (pv 0) (pa_cons (pv 1) pa_nil))
    (pe_calM Mp hr (pv 0) (pa_cons (pv 2) pa_nil)) (nomark _))), ?_⟩
  obtain ⟨dx, lo, d, h1, h2, h3⟩ := hb.ob
  refine ⟨_, rfl, b, dx, _, rfl, h1, bf_no _ _ (by decide +kernel)
    (by decide +kernel), _, rfl, b, ls, l, rfl, hb, nm, hl, fun H1 s1 => ?_⟩
  refine ⟨_, rfl, b, dx, _, rfl, s1 _ _ h1, bf_no _ _ (by decide +kernel)
    (by decide +kernel), _, rfl, b, ls, m, rfl, hb.same s1, nm, hm,
    fun H2 s2 => ⟨_, _, rfl, rfl, ?_⟩⟩
  have := q H2 (s1.trans s2)
  show Q (.bl (decide (((ls.idxOf l : Nat) : Int) <
    ((ls.idxOf m : Nat) : Int)))) H2
  rw [show decide (((ls.idxOf l : Nat) : Int) < ((ls.idxOf m : Nat) : Int)) =
    decide (ls.idxOf l < ls.idxOf m) from decide_eq_decide.mpr
      ⟨fun z => by omega, fun z => by omega⟩]
  exact this
end
end OM
namespace OM
open PySem PySem.Spec PyProof.Rows L2
theorem jd_none {K : PySem.W.Frag} {H : Hp} : ∀ (xs : List V)
    (seen : List (List Nat)) (i : Nat), (∀ x ∈ xs, Elt1 K H x) →
    jd seen i (xs.map tx) = none →
    ∃ ls : List (List Nat), xs = ls.map vS ∧ (∀ l ∈ ls, Nm l) ∧ ls.Nodup ∧
      ∀ l ∈ ls, l ∉ seen
  | [], _, _, _, _ => ⟨[], rfl, nofun, List.nodup_nil, nofun⟩
  | x :: xs, seen, i, el, h => by
    rcases el x List.mem_cons_self with ⟨l, rfl, hl⟩ | ⟨t, _, _, tn⟩
    · have h' : jd seen i (some l :: xs.map tx) = none := h
      unfold jd at h'
      by_cases nb : nmB l = true
      · rw [if_pos nb] at h'
        by_cases ml : l ∈ seen
        · rw [if_pos ml] at h'; cases h'
        · rw [if_neg ml] at h'
          obtain ⟨ls, e, nm, nd, ns⟩ := jd_none xs _ _
            (fun y hy => el y (List.mem_cons_of_mem _ hy)) h'
          refine ⟨l :: ls, by rw [e]; rfl, ?_, ?_, ?_⟩
          · intro y hy
            rcases List.mem_cons.mp hy with rfl | hy
            · exact nmB_iff.mp nb
            · exact nm y hy
          · refine List.nodup_cons.mpr ⟨fun hm => ?_, nd⟩
            exact ns l hm (List.mem_append_right _ List.mem_cons_self)
          · intro y hy
            rcases List.mem_cons.mp hy with rfl | hy
            · exact ml
            · exact fun z => ns y hy (List.mem_append_left _ z)
      · rw [if_neg nb] at h'; cases h'
    · rw [List.map_cons, tn] at h
      cases h
theorem judge_none {K : PySem.W.Frag} {H : Hp} {xs : List V}
    (el : ∀ x ∈ xs, Elt1 K H x) (h : judge xs = none) :
    ∃ ls : List (List Nat), xs = ls.map vS ∧ Good ls := by
  unfold judge at h
  cases e : jd [] 0 (xs.map tx) with
  | some r => rw [e] at h; cases h
  | none =>
    rw [e] at h
    obtain ⟨ls, e', nm, nd, _⟩ := jd_none xs _ _ el e
    by_cases c : 1 ≤ xs.length ∧ xs.length ≤ 40
    · refine ⟨ls, e', nm, nd, ?_, ?_⟩
      · have := c.1; rw [e', List.length_map] at this; exact this
      · have := c.2; rw [e', List.length_map] at this; exact this
    · simp only [if_neg c] at h
      cases h
/-- Base(items), whatever the items are -/
def spInitX (K : PySem.W.Frag) (C CI : Addr) : Sp := fun vs H Q E =>
  ∃ (b dx : Addr) (v : V), vs = [.ref b, v] ∧ H b = some (.ins C dx []) ∧
  ((∃ t, TyOf K H v t ∧ PySem.W.kitOne K t (.type "list") = some false ∧
      IbOut CI H E ("list", 0)) ∨
   (∃ a xs, v = .ref a ∧ H a = some (.lst xs) ∧ (∀ x ∈ xs, Elt1 K H x) ∧
      xs.length ≤ 1000 ∧ (∀ r, judge xs = some r → IbOut CI H E r) ∧
      (judge xs = none → ∀ ls, xs = ls.map vS → Good ls → ∀ H',
        BaseAt C H' b ls → But b H H' → Q .non H')))
section
variable {P : Program} {w : World} {K : PySem.W.Frag}
  {mg : Str → Option Value} {base : Heap} {C CI : Addr}
theorem ok_initX {f : Addr} {fd : FuncData} {k : Nat}
    (F : Fun K "__init__" "Base.__init__" s_Base_init f fd) (B : Bl mg)
    (T : BC K mg C)
    (Ck : CalX P w K mg base k "check_items" ["items"] (spCheckX K CI)) :
    FnOk P w K mg base (L2.CX P w) (k + 1) f fd ["self", "items"]
      (spInitX K C CI) := by
  refine Fun.okX F sc_Base_init (fun vs H Q E h => ?_)
    (fun cv A outer s H vs Q E hr h => ?_)
  · obtain ⟨b, dx, v, rfl, _⟩ := h
    rfl
  obtain ⟨b, dx, v, rfl, hb, h⟩ := h
  have nd := sc_Base_init.nd
  refine ⟨_, pss_cons (ps_expr (pe_calX Ck hr (takes_of rfl rfl rfl rfl)
      (fun _ _ _ _ z => z) (pa_cons (pv 1) pa_nil)))
    (pss_cons (ps_fld (pv 0) (pe_callTy call_list_of (by rfl) B.list bt_list
      (pa_cons (pv 1) pa_nil)) rfl)
    (pss_one (ps_fld (pv 0)
      (pe_dc (own := [("name", 2), ("at", 3)])
        (g := gTup K 2 (gCons (gName 3) (gCons (gName 2) gNil)))
        (tt := tYes) rfl nd
        (pi_enum (by rfl) B.enum (pa_cons (pv 1) pa_nil))
        (blkOk_by (N := N_Base_init) (sc := defScope s_Base_init)
          (by decide +kernel))
        (fun _ _ _ _ _ => pg_tup rfl (pgs_cons (pg_name (i := 3) nd rfl
          (Or.inl rfl)) (pgs_cons (pg_name (i := 2) nd rfl (Or.inl rfl))
          pgs_nil)))
        (fun _ _ _ _ _ => pts_nil) (fun _ _ _ _ _ => pv 2)
        (fun _ _ _ _ _ => pv 3)) rfl))), ?_⟩
  rcases h with ⟨t, ty, kt, out⟩ | ⟨a, xs, rfl, ha, el, hx, bad, good⟩
  · exact ⟨_, rfl, _, rfl, .inl ⟨t, ty, kt, out⟩⟩
  refine ⟨_, rfl, _, rfl, .inr ⟨a, xs, rfl, ha, el, hx, bad, fun jn H1 s1 => ?_⟩⟩
  obtain ⟨ls, rfl, gd⟩ := judge_none el jn
  have q := good jn ls rfl gd
  have nba : b ≠ a := ne_of hb ha nofun
  have hb1 := s1 _ _ hb
  have ha1 := s1 _ _ ha
  refine ⟨_, rfl, a, _, rfl, .inl (SqL.of ha1), fun lo nlo => ?_⟩
  have nbl : b ≠ lo := ne_of_none hb1 nlo
  have nal : a ≠ lo := ne_of_none ha1 nlo
  refine ⟨_, rfl, b, C, dx, [], rfl, by rw [upd_ne nbl]; exact hb1, T.cl, T.nL,
    by decide, ?_⟩
  generalize eH2 : upd (upd H1 lo (.lst (ls.map vS))) b
    (.ins C dx (putF "listed" (.ref lo) [])) = H2
  have hb2 : H2 b = some (.ins C dx (putF "listed" (.ref lo) [])) := by
    rw [← eH2]; exact upd_same
  have ha2 : H2 a = some (.lst (ls.map vS)) := by
    rw [← eH2, upd_ne nba.symm, upd_ne nal]; exact ha1
  have hl2 : H2 lo = some (.lst (ls.map vS)) := by
    rw [← eH2, upd_ne nbl.symm, upd_same]
  have b2 : But b H H2 := by
    rw [← eH2]
    exact ((But.of s1).new (s1.free nlo)).at
  refine ⟨_, rfl, a, _, rfl, SqL.of ha2, fun d nd' => ?_⟩
  have ndb : b ≠ d := ne_of_none hb2 nd'
  have nda : a ≠ d := ne_of_none ha2 nd'
  have ndl : lo ≠ d := ne_of_none hl2 nd'
  refine dc_walk (walk_enum (K := K) (a := a) (xs := ls.map vS))
    (fun i H' => H' d = some (.dK (prs 0 (ls.take i))) ∧
      H' b = some (.ins C dx (putF "listed" (.ref lo) [])) ∧
      H' a = some (.lst (ls.map vS)) ∧ H' lo = some (.lst (ls.map vS)) ∧
      But b H H')
    ⟨upd_same, by rw [upd_ne ndb]; exact hb2, by rw [upd_ne nda]; exact ha2,
      by rw [upd_ne ndl]; exact hl2, b2.put nd' ndb.symm⟩
    (fun i H' _ z => SqL.of z.2.2.1) ?_ ?_
  · rintro i v H3 H4 hi ⟨hd, h1, h2, h3, b3⟩ ⟨T', x1, x2, rfl, nT, rfl, e1, e2⟩
    obtain ⟨l, hl, rfl⟩ := get_map e2
    cases Option.some.inj e1
    rw [List.length_map] at hi
    have hhi := gd.hi
    refine ⟨T', _, rfl, .inl (.inl upd_same), rfl, _, _, rfl, _, _, rfl, rfl,
      rfl, yes ⟨_, rfl, _, rfl, prs 0 (ls.take i), Sum.inr (SX.S l), rfl, ?_, ?_,
      ?_, ?_, ?_, ?_, ?_⟩⟩
    · rw [upd_ne (ne_of_none hd nT)]
      exact hd
    · rw [prs_len, List.length_take]
      exact sz' (by omega)
    · rw [upd_same, putK_new _ (by
        rw [val_prs, if_neg (nodup_take gd.nd hl)]),
        List.take_add_one, hl]
      show _ = some (HO.dK (prs 0 (ls.take i ++ [l])))
      rw [prs_snoc, List.length_take, Nat.min_eq_left (by omega),
        Nat.zero_add]
    · rw [upd_ne ndb, upd_ne (ne_of_none h1 nT)]
      exact h1
    · rw [upd_ne nda, upd_ne (ne_of_none h2 nT)]
      exact h2
    · rw [upd_ne ndl, upd_ne (ne_of_none h3 nT)]
      exact h3
    · exact (b3.put nT (ne_of_none h1 nT).symm).new (b2.free ndb.symm nd')
  · rintro H3 ⟨hd, h1, h2, h3, b3⟩
    rw [List.take_of_length_le (by rw [List.length_map]; exact Nat.le_refl _)]
      at hd
    refine ⟨_, rfl, b, C, dx, _, rfl, h1, T.cl, T.nP,
      by show 1 < 1000; decide, ?_⟩
    refine q _ ⟨dx, lo, d, upd_same, ?_, ?_⟩ b3.at
    · rw [upd_ne nbl.symm]
      exact h3
    · rw [upd_ne ndb.symm]
      exact hd
end
end OM
namespace OM
open PySem PySem.Spec PyProof.Rows L2

/-- the law's call, nothing being shown around it -/
theorem lawS {P : Program} {w : World} {K : PySem.W.Frag}
    {mg mb : Str → Option Value} {k : Nat} {fa a : Addr} {fd : FuncData}
    {x : Str} {sp : Sp} {s1 : Shared} {vs : List Value} {ns : List Int}
    (kin : K.In s1.heap) (glob : s1.heap.Ns mainGlobals mg)
    (blt : s1.heap.Ns builtinsNs mb)
    (boot : ∀ x : Str, x ≠ "__name__" → mb x = bootBuiltins x)
    (nol : s1.heap.NoLimit) (gens : s1.gens = #[])
    (ha : s1.heap.get? a =
      some { cls := .type "list", data := .seq vs.toArray })
    (hints : IntsAre vs ns) (hl : ns.length ≤ sizeLine)
    (room : Room k callerA)
    (smod : ∃ mm, s1.heap.Ns sysModules mm)
    (F : ∀ base : Heap, K.In base → base.Ns mainGlobals mg →
      (∃ o, base.get? sysModules = some o) →
      FnG P w K mg base CX0 k fa fd [x] sp)
    (bind : ∀ (s : Shared) (u : Value), BindsTo s fd ⟨[u], []⟩ [(x, u)])
    (hsp : ∀ H : Hp, Only H → SqL K H a (ns.map V.int) →
      sp [.ref a] H (fun v _ => v = .bl true) E0) :
    codeAny (model P w) callerA (.call (.ref fa) ⟨[.ref a], []⟩)
      (fun r s' => r = .ok (.ret (.bool true)) ∧ OldK s1.heap s'.heap ∧
        s'.os = s1.os ∧ AllBare s'.gens) s1 := by
  have rel := vals_ints hints
  have lv := hints.length
  -- H tracks the script alone, or nothing
  suffices core : ∀ H : Hp, Only H → SqL K H a (ns.map V.int) →
      HOk P w H s1.heap → (∀ b, H b ≠ none → b = a) →
      (H a ≠ none → K.lookup a = none) →
      codeAny (model P w) callerA (.call (.ref fa) ⟨[.ref a], []⟩)
        (fun r s' => r = .ok (.ret (.bool true)) ∧ OldK s1.heap s'.heap ∧
          s'.os = s1.os ∧ AllBare s'.gens) s1 by
    by_cases hk : ∃ o, K.lookup a = some o
    · obtain ⟨o, hk⟩ := hk
      have e := kin a o hk
      rw [ha] at e
      cases e
      refine core (fun _ => none) (fun _ => Or.inl rfl) (Or.inr ?_)
        (fun b u z => ?_) (fun b z => absurd rfl z) (fun z => absurd rfl z)
      · exact ⟨_, vs.toArray, _, hk, rfl, rfl, rfl,
          by rw [List.size_toArray, lv]; exact hl, by simpa using rel⟩
      · cases (show (none : Option HO) = some u from z)
    · have hk : K.lookup a = none := by
        cases q : K.lookup a with
        | none => rfl
        | some o => exact absurd ⟨o, q⟩ hk
      let ob : Obj := { cls := .type "list", data := .seq vs.toArray }
      refine core (fun b => if b = a then
          some (.frz ob (.lst (ns.map V.int))) else none)
        (fun b => ?_) (Or.inl (Or.inr ⟨ob, if_pos rfl⟩))
        (fun b u z => ?_) (fun b z => ?_) (fun _ => hk)
      · by_cases hb : b = a
        · exact Or.inr ⟨_, _, if_pos hb⟩
        · exact Or.inl (if_neg hb)
      · by_cases hb : b = a
        · cases (if_pos hb).symm.trans z
          subst hb
          exact ⟨ha, by rw [List.length_map]; exact hl, vs, _, rel, ha⟩
        · cases (if_neg hb).symm.trans z
      · by_cases hb : b = a
        · exact hb
        · exact absurd (if_neg hb) z
  intro H only sq ok alone notK
  have untracked : ∀ {b : Addr} {o : Obj}, s1.heap.get? b = some o →
      (∀ z, o.data ≠ .seq z 0) → H b = none := by
    intro b o e d
    cases q : H b with
    | none => rfl
    | some u =>
      have z : b = a := alone b (by rw [q]; exact nofun)
      subst z
      rw [ha] at e
      cases e
      exact absurd rfl (d _)
  have ns' : ∀ {b : Addr} {m : Str → Option Value}, s1.heap.Ns b m →
      (hidT s1.heap H).Ns b m := by
    rintro b m ⟨o, es, ep, e, d, r⟩
    refine ⟨o, es, ep, hidT_get e (untracked e fun z y => ?_), d, r⟩
    cases d.symm.trans y
  have kin' : K.In (hidT s1.heap H) := by
    intro b o e
    refine hidT_get (kin b o e) ?_
    cases q : H b with
    | none => rfl
    | some u =>
      have z : b = a := alone b (by rw [q]; exact nofun)
      subst z
      rw [notK (by rw [q]; exact nofun)] at e
      cases e
  have md : Mod K mg (hidT s1.heap H) := by
    obtain ⟨mc, h1, h2⟩ := nol
    exact ⟨kin', ns' glob, ⟨mb, ns' blt, boot⟩, ⟨mc, ns' h1, h2⟩⟩
  have env : Env0 P w K mg (hidT s1.heap H) callerA [] s1 H :=
    ⟨rfl, md, fun b o e => of_hidT e, Nat.le_of_eq (hidT_size _ _), trivial,
      fun b hb => (nomatch (show b ∈ ([] : List Addr) from hb)), ok,
      .of_eq gens⟩
  have smd : ∃ o, (hidT s1.heap H).get? sysModules = some o := by
    obtain ⟨mm, hm⟩ := smod
    obtain ⟨o, es, ep, e, _⟩ := ns' hm
    exact ⟨o, e⟩
  refine codeAny_mono ((F _ kin' (ns' glob) smd).run callerA [] s1 H ⟨[.ref a], []⟩
    [.ref a] [.ref a] _ _ room rfl env (bind s1 (.ref a)) (.cons rfl .nil)
    (hsp H only sq)) ?_
  intro r s' h
  match r, h with
  | .error e, h => exact False.elim h
  | .ok .next, h => exact False.elim h
  | .ok .brk, h => exact False.elim h
  | .ok .cont, h => exact False.elim h
  | .ok (.ret u), h =>
    obtain ⟨v, H', os, bare, un, ok', rv, q⟩ := h
    cases (show v = .bl true from q)
    cases (show u = Value.bool true from rv)
    refine ⟨rfl, OldK.of_keep fun b o e => ?_, os, bare⟩
    cases q : H b with
    | none =>
      exact un.keep b o e q
        (fun z => nomatch (show b ∈ ([] : List Addr) from z)) (by simp)
    | some u =>
      cases only b with
      | inl z => rw [q] at z; cases z
      | inr z =>
        obtain ⟨ob, xs, z⟩ := z
        have e1 := (ok b _ z).1
        have e2 := (ok' b _ (un.frzs b ob _ z)).1
        rw [e] at e1
        cases e1
        exact e2

/-- what the head leaves, from the law's promise -/
theorem walkS {l : PySem.W.OpenLaw} {n k : Nat} {q : Program} {ls : List Str}
    {XP : (Str → Option Value) → Heap → Prop} {YP : World → Heap → Prop}
    {d : DefRec} {K : Params → PySem.W.Frag} {sp : PySem.W.Frag → Sp} {x : Str}
    (hn : l.most = some n) (hn2 : n ≤ sizeLine) (hq : importsNone q = true)
    (hdf : d.params.defaults = []) (room : Room k callerA)
    (hY : ∀ (w : World) (h : Heap), YP w h → (K w.params).In h)
    (F : ∀ (w : World) (mg : Str → Option Value) (fa : Addr) (h : Heap),
      (K w.params).In h → h.Ns mainGlobals mg → mg d.name = some (.ref fa) →
      ∃ fd : FuncData,
        (∀ (s : Shared) (u : Value), BindsTo s fd ⟨[u], []⟩ [(x, u)]) ∧
        ∀ base : Heap, (K w.params).In base → base.Ns mainGlobals mg →
          (∃ o, base.get? sysModules = some o) →
          FnG l.prog w (K w.params) mg base CX0 k fa fd [x]
            (sp (K w.params)))
    (hsp : ∀ (K : PySem.W.Frag) (H : Hp) (a : Addr) (ns : List Int),
      ns.length ≤ n → Only H → SqL K H a (ns.map V.int) →
      sp K [.ref a] H (fun v _ => v = .bl true) E0) :
    PySem.W.WalkO q ls XP YP l.row.toRowW d []
      (fun f vs => PySem.call f vs) := by
  refine Att.attach_call hn hdf ?_
  intro w s₀ s1 mg mb fa o pm cd doc a vs ns G Y ho hd hcd hmg hobj hi hlen hg
  have KX := hY w _ Y
  obtain ⟨fd, hb, hF⟩ := F w mg fa _ KX G.T.g hmg
  exact lawS KX G.T.g G.T.b G.T.builtins G.T.nolimit hg hobj hi
    (Nat.le_trans hlen hn2) room
    (by obtain ⟨mm, h, _⟩ := (G.T.seer hq).mods; exact ⟨mm, h⟩) hF hb
    (fun H hO hS => hsp (K w.params) H a ns hlen hO hS)
end OM
namespace OM
open PySem PySem.Spec PyProof.Rows L2
section
variable {X : Cx}
/-- xs == [], whatever xs holds -/
def rEqNil : R2 := fun x y H Q => ∃ a b xs, x = .ref a ∧ y = .ref b ∧
  H a = some (.lst xs) ∧ H b = some (.lst []) ∧ Q (.bl xs.isEmpty) H
theorem op_eqNil {k : Nat} (room : Room k X.A) :
    OpR X (compareOp .Eq) rEqNil := by
  intro pins s σ H x y v u Q I rx ry h
  obtain ⟨a, b, xs, rfl, rfl, ha, hb, q⟩ := h
  cases rx
  cases ry
  obtain ⟨_, its, n, rv, ho⟩ := I.hok _ _ ha
  obtain ⟨_, jts, m, rw', ho'⟩ := I.hok _ _ hb
  cases rw'
  have un := room.units
  cases rv with
  | nil =>
    refine SeqAt.eq_listAt (e := fun _ => true) ⟨_, ho, rfl, _, rfl⟩
      ⟨_, ho', rfl, _, rfl⟩ rfl (by omega) (fun j h1 h2 => ?_) ?_
    · simp at h1
    · exact ⟨.bl true, H, I, rfl, q⟩
  | cons r rs =>
    refine SeqAt.eq_list_lengthsAt ⟨_, ho, rfl, _, rfl⟩
      ⟨_, ho', rfl, _, rfl⟩ (by simp) (by omega) ?_
    exact ⟨.bl false, H, I, rfl, q⟩
end
end OM
namespace OM
open PySem PySem.Spec PyProof.Rows L2
def abc : Str := Str.ofString "abcdefghijklmnopqrstuvwxyz"
theorem mem_abc (c : Nat) : decide (c ∈ abc.cps.toList) = azB c := by
  have e : abc.cps.toList = (List.range 26).map (97 + ·) := by decide +kernel
  rw [e]
  unfold azB
  rw [← Bool.decide_and]
  refine decide_eq_decide.mpr ?_
  simp only [List.mem_map, List.mem_range]
  constructor
  · rintro ⟨k, hk, rfl⟩
    omega
  · intro h
    exact ⟨c - 97, by omega, by omega⟩
theorem len0 (x : Str) : decide (V.str x = V.str (Str.ofString "")) =
    decide (x.length = 0) := by
  refine decide_eq_decide.mpr ⟨fun h => ?_, fun h => ?_⟩
  · cases h
    decide +kernel
  · have : x.cps.toList = [] := by
      rw [TL.len_tl] at h
      exact List.eq_nil_of_length_eq_zero h
    rw [← SX.S_tl x, this]
    rfl
theorem two_le {a b : V} : [a, b].length ≤ sizeLine := by
  show 2 ≤ sizeLine
  decide
def badS (l : List Nat) : List V :=
  (l.filter fun c => !azB c).map fun c => .str ⟨#[c]⟩
theorem badS_nil (l : List Nat) : (badS l).isEmpty = l.all azB := by
  unfold badS
  rw [List.isEmpty_map]
  induction l with
  | nil => rfl
  | cons c r ih =>
    rw [List.all_cons, ← ih]
    cases h : azB c with
    | false => simp [h]
    | true => simp [h]
theorem badS_len (l : List Nat) : (badS l).length ≤ l.length := by
  unfold badS
  rw [List.length_map]
  exact List.length_filter_le _ _
/-- a new pair -/
def NewP (H : Hp) (Q : VK) (r : Str × Nat) : Prop := ∀ T H', H T = none →
  H' T = some (.tup [.str r.1, .int (r.2 : Nat)]) → Same H H' → Q (.ref T) H'
theorem NewP.back {H H1 : Hp} {Q : VK} {r : Str × Nat} (h : NewP H Q r)
    (s : Same H H1) : NewP H1 Q r :=
  fun T H' n e s' => h T H' (s.free n) e (s.trans s')
theorem NewP.at_ {H : Hp} {Q : VK} {r : Str × Nat} (h : NewP H Q r) :
    ∀ p, H p = none → Q (.ref p) (upd H p (.tup [.str r.1, .int (r.2 : Nat)])) :=
  fun p n => h p _ n upd_same (sameNew n)
end OM
namespace OM
open PySem PySem.Spec PyProof.Rows L2
section
variable {P : Program} {w : World} {K : PySem.W.Frag}
  {mg : Str → Option Value} {base : Heap}
theorem ok_lisname {f : Addr} {fd : FuncData} {k : Nat}
    (F : Fun K "_law_is_name" "_law_is_name" s_Lis_name f fd) (B : Bl mg) :
    FnOk P w K mg base CX0 (k + 1) f fd ["_law_value"] (spIsName K) := by
  refine F.ok sc_Lis_name (fun vs H Q E h => ?_)
    (fun cv A outer s H vs Q E hr h => ?_)
  · obtain ⟨v, rfl, _⟩ := h
    rfl
  obtain ⟨v, rfl, h⟩ := h
  have nd := sc_Lis_name.nd
  refine ⟨_, pss_cons (ps_if (pt_mid (PW.pt (pw_or (pt_not (pt_val
      (pe_callB call_isi (by rfl) B.isi bt_isi (pa_cons (pv 0) (pa_cons
        (pe_bltn (v := .ty "str") (by rfl) B.str bt_str rfl) pa_nil)))))
      (pw_or (pt_cmpR op_eq (pv 0) pe_str (nomark _))
      (pw_or1 (pt_cmpR op_gt
        (pe_callB call_len_str (by rfl) B.len PySem.boot_len
          (pa_cons (pv 0) pa_nil)) pe_int (nomark _)))))))
      (pss_one (ps_ret pe_bl)) pss_nil)
    (pss_one (ps_ret (pe_cmpR (op_eqNil hr)
      (pe_lc (own := [("_law_sign", 1)]) (g := gName 1) rfl nd
        (pi_str (pv 0))
        (blkOk_by (N := N_Lis_name) (sc := defScope s_Lis_name)
          (by decide +kernel))
        (fun _ _ _ _ _ => pg_name (i := 1) nd rfl (Or.inl rfl))
        (fun _ _ _ _ _ => pts_one (pt_cmpR op_notIn_sign (pv 1) pe_str
          (by rfl)))
        (fun _ _ _ _ _ => pv 1))
      (pe_lst pa_nil) (nomark _)))), ?_⟩
  rcases h with ⟨x, rfl, hx, q⟩ | ⟨t, ty, kt, q⟩
  · refine ⟨fun b H' => b = !(decide (1 ≤ x.length) && decide (x.length ≤ 8)) ∧
      H = H', ?_, ?_⟩
    · refine ⟨_, rfl, _, _, _, _, true, rfl, .ty "str", .base (.str x),
        kit_ty (by decide +kernel), _, rfl, iteF ?_⟩
      refine ⟨_, rfl, rfl, _, rfl, ?_⟩
      rw [len0]
      by_cases c0 : x.length = 0
      · rw [decide_eq_true c0]
        refine iteT ⟨?_, rfl⟩
        rw [decide_eq_false (show ¬ 1 ≤ x.length by omega)]
        rfl
      · rw [decide_eq_false c0]
        refine iteF ⟨_, rfl, x, rfl, hx, _, _, rfl, rfl, _, rfl, ?_, rfl⟩
        rw [decide_eq_true (show 1 ≤ x.length by omega), Bool.true_and]
        by_cases c1 : x.length ≤ 8
        · rw [decide_eq_true c1]
          exact decide_eq_false (by omega)
        · rw [decide_eq_false c1]
          exact decide_eq_true (by omega)
    · rintro b _ ⟨rfl, rfl⟩
      by_cases c : 1 ≤ x.length ∧ x.length ≤ 8
      · rw [decide_eq_true c.1, decide_eq_true c.2]
        refine iteF ⟨_, rfl, x, rfl, fun D nD => ?_⟩
        refine lc_it walk_str (fun i H' => H' D = some (.lst
          (badS (x.cps.toList.take i))) ∧ Same H H')
          ⟨upd_same, sameNew nD⟩ (fun _ _ _ _ => trivial) ?_ ?_
        · rintro i v _ H1 hi ⟨hD, sm⟩ ⟨rfl, c0, hc, rfl⟩
          have hc' : x.cps.toList[i]? = some c0 := by
            rw [Array.getElem?_toList]; exact hc
          have st : x.cps.toList.take (i + 1) = x.cps.toList.take i ++ [c0] := by
            rw [List.take_add_one, hc']
            rfl
          refine ⟨rfl, _, rfl, c0, _, rfl, rfl, _, rfl, ?_⟩
          rw [show decide (c0 ∈ (Str.ofString
            "abcdefghijklmnopqrstuvwxyz").cps.toList) = azB c0 from mem_abc c0]
          cases az : azB c0 with
          | true =>
            refine iteF ⟨?_, sm⟩
            rw [hD, st]
            unfold badS
            rw [List.filter_append]
            simp [az]
          | false =>
            refine iteT ⟨_, rfl, _, hD, ?_, ?_, OM.Same.put sm nD⟩
            · have h1 := badS_len (x.cps.toList.take i)
              rw [List.length_take] at h1
              have h2 : x.length = x.cps.toList.length := TL.len_tl x
              exact sz' (by omega)
            · rw [upd_same, st]
              unfold badS
              rw [List.filter_append]
              simp [az]
        · rintro H1 ⟨hD, sm⟩
          rw [List.take_of_length_le (by
            rw [Array.length_toList]; exact Nat.le_refl _)] at hD
          refine ⟨by decide, fun l nl => ?_⟩
          refine ⟨D, l, _, rfl, rfl, by rw [upd_ne (ne_of_none hD nl)]; exact hD,
            upd_same, ?_⟩
          rw [badS_nil]
          have := q (upd H1 l (.lst [])) (sm.trans (sameNew nl))
          unfold nmB at this
          rw [← TL.len_tl x] at this
          rw [decide_eq_true c.1, decide_eq_true c.2, Bool.true_and,
            Bool.true_and] at this
          exact this
      · have e : (decide (1 ≤ x.length) && decide (x.length ≤ 8)) = false := by
          by_cases c1 : 1 ≤ x.length
          · rw [decide_eq_false (show ¬ x.length ≤ 8 from fun z => c ⟨c1, z⟩)]
            exact Bool.and_false _
          · rw [decide_eq_false c1]
            exact Bool.false_and _
        rw [e]
        refine iteT ?_
        have := q H (Same.refl H)
        unfold nmB at this
        rw [← TL.len_tl x, e, Bool.false_and] at this
        exact this
  · refine ⟨fun b H' => b = true ∧ H = H', ?_, ?_⟩
    · exact ⟨_, rfl, _, _, _, _, false, rfl, .ty "str", ty, kt, _, rfl,
        iteT ⟨rfl, rfl⟩⟩
    · rintro b _ ⟨rfl, rfl⟩
      exact iteT q
end
end OM
namespace OM
open PySem PySem.Spec PyProof.Rows L2
/-- the lambdas' name -/
abbrev lamQ11 : Str := (envOfC "_law_errors_right" (defScope s_Lerrors_right) 0 0 .none).qual ++ "<lambda>"
theorem raised11 {cs : List Addr} {H0 : Hp} {CU : Addr} {v : V} {e : PyData} {Q : VK} (dx : DX H0 v e) (sh : Sh 3 2000 e) (q : ∀ H2, Same H0 H2 → Q (.str e.shown) H2) :
    XOut CU "value" (drops cs H0) (fun cls d H' => (∀ c ∈ cs, H' c = none) → Ech11 CU Q cls d (backs cs H0 H')) v := by
  intro d H' nd hd sm gone
  have s := backs_of sm
  have out : d ∉ cs := fun m => by
    rw [gone d m] at hd
    cases hd
  exact ⟨d, v, e, rfl, rfl, (backs_out out).trans hd, DX.same s _ _ dx, sh.1, by have := sh.2.1; omega, Nat.le_trans sh.2.2 (by decide), fun H2 s2 => q H2 (s.trans s2)⟩
theorem reg_drop {cs ds : List Addr} {ws : List V} {H H0 : Hp} (R : RegAt cs ws H H0) (sub : ∀ c ∈ ds, c ∈ cs) : Same H (drops ds H0) := fun a o e => by
  obtain ⟨n, z⟩ := R.sub e
  rw [drops_out fun m => n (sub a m)]
  exact z
/-- is the value a name -/
def nmV : V → Bool
  | .str x => nmB x.cps.toList
  | _ => false
theorem nil_str {σ : L2.St} {H : Hp} {k : List V → Hp → Prop} (h : k [] H) : tNil σ H k := h
theorem isn_go {K : PySem.W.Frag} {H : Hp} {v : V} {vs : List V} {Q : VK} {E : XK} (hv : vs = [v]) (e : Elt1 K H v) (q : ∀ H', Same H H' → Q (.bl (nmV v)) H') : spIsName K vs H Q E := by
  subst hv
  rcases e with ⟨l, rfl, hl⟩ | ⟨t, ty, kt, nt⟩
  · exact ⟨_, rfl, .inl ⟨_, rfl, by rw [SX.S_len]; exact Nat.le_trans hl (by decide), q⟩⟩
  · refine ⟨_, rfl, .inr ⟨t, .base ty, kt, ?_⟩⟩
    have z : nmV v = false := by
      cases v <;> first | rfl | cases nt
    have := q H (Same.refl H)
    rw [z] at this
    exact this
theorem dxs_bl {H : Hp} : ∀ bs : List Bool, DXs H (bs.map V.bl) (bs.map PyData.bool)
  | [] => .nil
  | b :: r => .cons (.bl b) (dxs_bl r)
theorem sh_bls {bs : List Bool} (h : bs.length ≤ 6) : (PyData.list (bs.map .bool)).showable = true ∧ (PyData.list (bs.map .bool)).depth ≤ 60 ∧ (PyData.list (bs.map .bool)).shown.length ≤ sizeLine := by
  have a : ∀ d ∈ bs.map PyData.bool, Sh 1 (smB 0) d := fun d hd => by
    obtain ⟨b, _, rfl⟩ := List.mem_map.mp hd
    exact sh_sml (.bl 0 b)
  obtain ⟨h1, h2, h3⟩ := sh_lst a
  refine ⟨h1, by omega, Nat.le_trans h3 ?_⟩
  rw [List.length_map]
  have z : 6 * (smB 0 + 2) + 3 ≤ sizeLine := by decide
  have : bs.length * (smB 0 + 2) ≤ 6 * (smB 0 + 2) := Nat.mul_le_mul_right _ h
  omega
def spErrs11 (K : PySem.W.Frag) (C : Addr) (T : List (Addr × Str)) : Sp := fun vs H Q _ => ∃ (p b it : Addr) (ls : List (List Nat)),
  vs = [.ref p, .ref b, .ref it] ∧ Rng H p ∧ BaseAt C H b ls ∧ Good ls ∧ H it = some (.lst (ls.map vS)) ∧ it ≠ p ∧ LamX.Tabs T H ∧
  ∀ H', XB p H H' → Rng H' p → LamX.Tabs T H' → Q (.bl true) H'
section
variable {P : Program} {w : World} {K : PySem.W.Frag} {mg : Str → Option Value} {base : Heap} {C CU : Addr}
theorem ok_errs11 {f c PT : Addr} {fd : FuncData} {k j : Nat} {T : List (Addr × Str)} (F : Fun K "_law_errors_right" "_law_errors_right" s_Lerrors_right f fd)
    (hcode : fd.code = .ref c) (B : Bl mg) (sm : ∃ o, base.get? sysModules = some o) (TB : LamX.TabB base mg c PT) (hmT : (PT, lamQ11) ∈ T) (huT : ∀ p ∈ T, p.1 = PT → p.2 = lamQ11)
    (Ci : Cal P w K mg base k "_law_invalid_item" ["_law_rng_here", "_law_items"] spInv11)
    (Cc : Cal P w K mg base k "_law_choice" ["_law_rng_here", "_law_options"] (spChoice K))
    (Cn : CalIsName P w K mg base k) (Cm : Cal P w K mg base k "_law_is_name" ["_law_value"] (spIsName K))
    (Ce : CalG P w K mg base k "_law_error" ["_law_call"] (spErr11 P w K mg base (j + 1) CU))
    (Mh : CalM P w K mg base C k "has_item" ["self", "value"] (spHas K C))
    (Mp : CalME (L2.CX P w) P w K mg base C j "position_of" ["self", "item"] (orSp (spPos C) (spPosX K C CU)))
    (Mq : CalME (L2.CX P w) P w K mg base C j "precedes" ["self", "first", "second"] (spPrecX K C CU)) :
    FnG P w K mg base CX0 (k + 1) f fd ["_law_rng_here", "_law_base", "_law_items"] (spErrs11 K C T) := by
  refine okGK F sc_Lerrors_right hcode (fun vs H Q E h => ?_) (fun A outer s H vs Q E hr gd h => ?_)
  · obtain ⟨p, b, it, ls, rfl, _⟩ := h
    rfl
  obtain ⟨p, b, it, ls, rfl, rg, hb, go, hi, nip, tb, q⟩ := h
  have nd := sc_Lerrors_right.nd
  refine ⟨_, pss_cons (ps_asg (pe_tup (pa_cons (pe_cal Ci hr (pa_cons (pv
      0) (pa_cons (pv 2) pa_nil))) (pa_cons (pe_cal Ci hr (pa_cons (pv
      0) (pa_cons (pv 2) pa_nil))) (pa_cons (pe_cal Cc hr (pa_cons (pv 0)
      (pa_cons (pv 2) pa_nil))) pa_nil)))) (pg_tup rfl (pgs_cons (pg_name
      (i := 3) nd rfl (.inr rfl)) (pgs_cons (pg_name (i := 4) nd rfl (.inr rfl))
      (pgs_cons (pg_name (i := 5) nd rfl (.inr rfl)) pgs_nil))))) (pss_cons
      (ps_set (i := 6) nd rfl (.inl rfl) (pe_lst (pa_cons (pe_lamK TB rfl hmT huT (LamX.lamS_by (sc := defScope s_Lerrors_right) (by decide +kernel))) pa_nil))) (pss_cons (ps_expr (pe_bm
      PySem.F.plainAttrs_list PySem.F.slot_list_append PySem.F.type_list_append
      mt_append (pv 6) (pa_cons (pe_lamK TB rfl hmT huT (LamX.lamS_by (sc := defScope s_Lerrors_right) (by decide +kernel))) pa_nil))) (pss_cons (ps_expr (pe_bm
      PySem.F.plainAttrs_list PySem.F.slot_list_append PySem.F.type_list_append mt_append (pv 6)
      (pa_cons (pe_lamK TB rfl hmT huT (LamX.lamS_by (sc := defScope s_Lerrors_right) (by decide +kernel)))
      pa_nil))) (pss_cons (ps_expr (pe_bm PySem.F.plainAttrs_list
      PySem.F.slot_list_append PySem.F.type_list_append mt_append (pv 6)
      (pa_cons (pe_lamK TB rfl hmT huT (LamX.lamS_by (sc := defScope s_Lerrors_right) (by decide +kernel))) pa_nil)))
      (pss_cons (ps_if (pt_cmpR (op_neD hr.units)
        (pe_lcK (own := [("_law_call", 7)]) (g := gName 7) (tt := tYes) (fr := ["_law_base", "_law_wrong", "_law_item", "_law_strange"]) rfl nd
          (src_own (js := [1, 3, 5, 4]) (by rfl) (cells_by (sc := defScope s_Lerrors_right) (by decide +kernel)) (fun _ _ => rfl) (by decide)) (cells_by (sc := defScope s_Lerrors_right) (by decide +kernel)) (pi_list (pv 6))
          (blkOk_by (N := N_Lerrors_right) (sc := defScope s_Lerrors_right) (by decide +kernel))
          (fun _ _ _ _ _ => pg_name (i := 7) nd rfl (Or.inl rfl)) (fun _ _ _ _ _ => pts_nil)
          (fun s H C cl fp ws S nf => pe_calR (ok := fun _ z => z = ws) Ce hr gd (src_blk S nf) (pa_cons (pv 7) pa_nil)))
        (pe_op op_rep (pe_lst (pa_cons (pe_callB (call_reprX hr gd sm) (by rfl) B.repr bt_repr (pa_cons (pv 3) pa_nil))
      pa_nil)) pe_int) (nomark _)) (pss_one ps_never) pss_nil) (pss_cons (ps_set
      (i := 8) nd rfl (.inl rfl) (pe_lst (pa_cons (pv 3) (pa_cons (pv 4)
      (pa_cons (pv 5) (pa_cons (pe_op op_add_str (pv 5) pe_str) (pa_cons
      (pe_slice sl_str (pv 5) po_none (po_some pe_int)) (pa_cons (pe_op op_mul3
      (pv 5) pe_int) pa_nil)))))))) (pss_cons (ps_if (pt_cmpR op_ne (pe_callB
      (call_reprX hr gd sm) (by rfl) B.repr bt_repr (pa_cons (pe_lc (own :=
      [("_law_name_here", 9)]) (g := gName 9) (tt := tYes) rfl nd (pi_list (pv
      8)) (blkOk_by (N := N_Lerrors_right) (sc := defScope s_Lerrors_right)
      (by decide +kernel)) (fun _ _ _ _ _ => pg_name (i := 9) nd rfl (Or.inl
      rfl)) (fun _ _ _ _ _ => pts_nil) (fun _ _ _ _ _ => (pe_cal Cn hr
      (pa_cons (pv 9) pa_nil)))) pa_nil)) (pe_callB (call_reprX hr gd sm) (by rfl)
      B.repr bt_repr (pa_cons (pe_lc (own := [("_law_name_here", 9)]) (g :=
      gName 9) (tt := tYes) rfl nd (pi_list (pv 8)) (blkOk_by (N :=
      N_Lerrors_right) (sc := defScope s_Lerrors_right) (by decide +kernel))
      (fun _ _ _ _ _ => pg_name (i := 9) nd rfl (Or.inl rfl)) (fun _ _ _ _ _ =>
      pts_nil) (fun _ _ _ _ _ => (pe_cal Cm hr (pa_cons (pv 9)
      pa_nil)))) pa_nil)) (nomark _)) (pss_one ps_never) pss_nil) (pss_one
      (ps_ret (pe_and (pe_cmpR op_isBl (pe_calM Mh hr (pv 1) (pa_cons
      (pv 3) pa_nil)) pe_bl (nomark _)) (pe_one (pe_cmpR op_isBl (pe_calM
      Mh hr (pv 1) (pa_cons (pv 4) pa_nil)) pe_bl (nomark
      _))))))))))))), ?_⟩
  obtain ⟨l0, lr, rfl⟩ : ∃ l0 lr, ls = l0 :: lr := by
    cases ls with
    | nil => exact absurd go.lo (by decide)
    | cons a r => exact ⟨a, r, rfl⟩
  have n0 : Nm l0 := go.nm l0 List.mem_cons_self
  refine ⟨_, rfl, _, rfl, p, it, l0, lr, rfl, rg, nip, hi, n0, fun v1 H1 w1 rg1 b1 => ?_⟩
  have hi1 := b1 _ _ hi nip
  refine ⟨_, rfl, _, rfl, p, it, l0, lr, rfl, rg1, nip, hi1, n0, fun v2 H2 w2 rg2 b2 => ?_⟩
  have hi2 := b2 _ _ hi1 nip
  refine ⟨_, rfl, _, rfl, p, it, _, rfl, rg2, SqL.of hi2, nip, by rw [List.length_map, List.length_cons]; omega, by rw [List.length_map]; have := go.hi; omega, fun v3 H3 hm rg3 b3 => ?_⟩
  obtain ⟨li, hli, rfl⟩ := List.mem_map.mp hm
  refine ⟨by show 3 ≤ sizeLine; decide, fun xt nxt => ?_⟩
  have rg3' := rg3
  have z4 := sameNew (o := .tup [v1, v2, vS li]) nxt
  have h4 : (upd H3 xt (.tup [v1, v2, vS li])) xt = some (.tup [v1, v2, vS li]) := upd_same
  generalize upd H3 xt (.tup [v1, v2, vS li]) = H4 at z4 h4 ⊢
  refine ⟨_, _, rfl, .inl (.inl h4), rfl, _, _, rfl, _, _, rfl, _, _, rfl, rfl, ?_⟩
  have b03 : But p H H3 := b1.trans (b2.trans b3)
  have tb4 : LamX.Tabs T H4 := (tabs_but tb rg b03).ext z4
  have rg4 := rg3.same z4
  have b04 : But p H H4 := b03.trans (But.of z4)
  have w1' : Wv11 p H4 v1 := (w1.but (b2.trans b3)).same z4
  have w2' : Wv11 p H4 v2 := (w2.but b3).same z4
  have hb4 := hb.but rg b04
  have hi4 := b04 _ _ hi nip
  refine ⟨tb4, fun f1 c1 H5 m1 => ⟨by show 1 ≤ sizeLine; decide, fun xL nxL => ?_⟩⟩
  have z6 := sameNew (o := .lst [.ref f1]) nxL
  have h6 : (upd H5 xL (.lst [.ref f1])) xL = some (.lst [.ref f1]) := upd_same
  generalize upd H5 xL (.lst [.ref f1]) = H6 at z6 h6 ⊢
  have tb6 := m1.tab.ext z6
  have s1 := m1.sd.ext (LamX.ExtN.of z6)
  have nL4 : H4 xL = none := m1.non _ nxL
  have e6 : XB xL H4 H6 := (XB.ext m1.ext).trans (XB.of (But.of z6))
  refine ⟨_, rfl, .inl ⟨rfl, _, SqL.of h6⟩, tb6, fun f2 c2 H7 m2 => ?_⟩
  have h7 := m2.ext _ _ h6 nofun
  refine ⟨xL, _, _, rfl, rfl, h7, by show 1 < sizeLine; decide, ?_⟩
  have b8 : But xL H7 (upd H7 xL (.lst ([.ref f1] ++ [.ref f2]))) := (But.refl H7).at
  have h8 : (upd H7 xL (.lst ([.ref f1] ++ [.ref f2]))) xL = some (.lst [.ref f1, .ref f2]) := upd_same
  generalize upd H7 xL (.lst ([.ref f1] ++ [.ref f2])) = H8 at b8 h8 ⊢
  have s18 := (s1.ext m2.ext).keep h7 (XB.of b8)
  have s28 := m2.sd.keep h7 (XB.of b8)
  have tb8 := tabs_lst m2.tab h7 b8
  have e8 : XB xL H4 H8 := (e6.trans (XB.ext m2.ext)).trans (XB.of b8)
  refine ⟨_, rfl, .inl ⟨rfl, _, SqL.of h8⟩, tb8, fun f3 c3 H9 m3 => ?_⟩
  have h9 := m3.ext _ _ h8 nofun
  refine ⟨xL, _, _, rfl, rfl, h9, by show 2 < sizeLine; decide, ?_⟩
  have b10 : But xL H9 (upd H9 xL (.lst ([.ref f1, .ref f2] ++ [.ref f3]))) := (But.refl H9).at
  have h10 : (upd H9 xL (.lst ([.ref f1, .ref f2] ++ [.ref f3]))) xL = some (.lst [.ref f1, .ref f2, .ref f3]) := upd_same
  generalize upd H9 xL (.lst ([.ref f1, .ref f2] ++ [.ref f3])) = HA at b10 h10 ⊢
  have s1A := (s18.ext m3.ext).keep h9 (XB.of b10)
  have s2A := (s28.ext m3.ext).keep h9 (XB.of b10)
  have s3A := m3.sd.keep h9 (XB.of b10)
  have tbA := tabs_lst m3.tab h9 b10
  have eA : XB xL H4 HA := (e8.trans (XB.ext m3.ext)).trans (XB.of b10)
  refine ⟨_, rfl, .inl ⟨rfl, _, SqL.of h10⟩, tbA, fun f4 c4 HB m4 => ?_⟩
  have h11 := m4.ext _ _ h10 nofun
  refine ⟨xL, _, _, rfl, rfl, h11, by show 3 < sizeLine; decide, ?_⟩
  have b12 : But xL HB (upd HB xL (.lst ([.ref f1, .ref f2, .ref f3] ++ [.ref f4]))) := (But.refl HB).at
  have h12 : (upd HB xL (.lst ([.ref f1, .ref f2, .ref f3] ++ [.ref f4]))) xL = some (.lst [.ref f1, .ref f2, .ref f3, .ref f4]) := upd_same
  generalize upd HB xL (.lst ([.ref f1, .ref f2, .ref f3] ++ [.ref f4])) = HC at b12 h12 ⊢
  have s1C := (s1A.ext m4.ext).keep h11 (XB.of b12)
  have s2C := (s2A.ext m4.ext).keep h11 (XB.of b12)
  have s3C := (s3A.ext m4.ext).keep h11 (XB.of b12)
  have s4C := m4.sd.keep h11 (XB.of b12)
  have tbC := tabs_lst m4.tab h11 b12
  have eC : LamX.ExtN H4 HC := fun a o e n => ((eA.trans (XB.ext m4.ext)).trans (XB.of b12)) a o e n (ne_of_none e nL4)
  clear s1 s18 s28 s1A s2A s3A e6 e8 eA m1 m2 m3 m4 b8 b10 b12 tb6 tb8 tbA h6 h7 h8 h9 h10 h11 z6
  have rgC : Rng HC p := XB.rng eC rg4
  have hbC : BaseAt C HC b (l0 :: lr) := by
    obtain ⟨dx, lo, d, g1, g2, g3⟩ := hb4.ob
    exact ⟨dx, lo, d, eC _ _ g1 nofun, eC _ _ g2 nofun, eC _ _ g3 nofun⟩
  have hiC := eC _ _ hi4 nofun
  obtain ⟨d1, dx1, sh1, ok1, no1⟩ := w1'
  obtain ⟨d2, dx2, sh2, ok2, no2⟩ := w2'
  replace dx1 := DX.ext eC _ _ (DX.same hide_le _ _ dx1)
  replace dx2 := DX.ext eC _ _ (DX.same hide_le _ _ dx2)
  have noI : ∀ {v : V}, (∀ x, v = .str x → x.length ≤ 100 ∧ nmB x.cps.toList = false) → NoI (l0 :: lr) v := fun {v} no l e m => by
    have z := (no (SX.S l) e).2
    rw [show (SX.S l).cps.toList = l from rfl, nmB_iff.mpr (go.nm l m)] at z
    cases z
  have long : ∀ {v : V}, (∀ x, v = .str x → x.length ≤ 100 ∧ nmB x.cps.toList = false) → ∀ x, v = .str x → x.length ≤ 10000 := fun {v} no x e => by
    have := (no x e).1
    omega
  refine ⟨[.ref b, v1, vS li, v2], by rfl, _, rfl, xL, rfl, ⟨_, SqL.of h12⟩, fun D nD => ?_⟩
  refine lc_list (K := K) (a := xL) (xs := [.ref f1, .ref f2, .ref f3, .ref f4]) (fun i H' => H' D = some (.lst (List.replicate i (.str d1.shown))) ∧ Same HC H')
    ⟨upd_same, sameNew nD⟩ (fun i H' _ z => SqL.of (z.2 _ _ h12)) ?_ ?_
  · rintro i y H5 hy ⟨hD, sC⟩
    have hi : i < 4 := (List.getElem?_eq_some_iff.mp hy).1
    refine ⟨rfl, yes ⟨_, rfl, _, rfl, fun H0 R => ?_⟩⟩
    have hb0 : ∀ {ds : List Addr}, (∀ c ∈ ds, c ∈ List.map (cellAt (cxOf CX0 P w K mg base N_Lerrors_right "_law_errors_right" (defScope s_Lerrors_right) f (.ref c) A outer s H E).nox) ["_law_base", "_law_wrong", "_law_item", "_law_strange"]) → BaseAt C (drops ds H0) b (l0 :: lr) :=
      fun sub => (hbC.same sC).same (reg_drop R sub)
    match i, hy with
    | 0, hy =>
      cases hy
      have sd := s1C.ext (LamX.ExtN.of sC)
      obtain ⟨is, sub⟩ := lam_is (X := (cxOf CX0 P w K mg base N_Lerrors_right "_law_errors_right" (defScope s_Lerrors_right) f (.ref c) A outer s H E).nox)
        (fr := ["_law_base", "_law_wrong"]) (ks := [0, 1]) (ws := [.ref b, v1]) R sd.fn sd.co (lscope_by (by decide +kernel)) (by rfl) (by rfl)
      refine ⟨f1, _, _, rfl, thk_of (k := j) (lscope_by (by rfl)) (fun _ _ => rfl) (fun A' outer' s' H' E' hr' gd' =>
        pe_calME Mp hr' (passes_call (takes_of rfl rfl rfl rfl) (fun _ _ _ _ z => z)) (pv 0) (pa_cons (pv 1) pa_nil)), is, ?_⟩
      have hbd := hb0 sub
      obtain ⟨dx, lo, dd, g1, g2, g3⟩ := hbd.ob
      refine ⟨_, rfl, b, dx, _, rfl, g1, bf_no _ _ (by decide +kernel) (by decide +kernel), _, rfl, .inr ⟨b, l0 :: lr, v1, rfl, hbd, go.nm, ?_, noI no1, ?_⟩⟩
      · exact dx_elt (DX.same (reg_drop R sub) _ _ (DX.same sC _ _ dx1)) (long no1)
      · refine raised11 (DX.same (sC.trans R.same) _ _ dx1) sh1 fun H2 s2 => ⟨(R.done s2).1, _, (R.done s2).2 _ _ hD, by rw [List.length_replicate]; exact Nat.lt_of_lt_of_le hi (by decide), ?_, OM.Same.put (sC.trans (R.done s2).2) nD⟩
        rw [upd_same, List.replicate_succ']
    | 1, hy =>
      cases hy
      have sd := s2C.ext (LamX.ExtN.of sC)
      obtain ⟨is, sub⟩ := lam_is (X := (cxOf CX0 P w K mg base N_Lerrors_right "_law_errors_right" (defScope s_Lerrors_right) f (.ref c) A outer s H E).nox)
        (fr := ["_law_base", "_law_wrong", "_law_item"]) (ks := [0, 1, 2]) (ws := [.ref b, v1, vS li]) R sd.fn sd.co (lscope_by (by decide +kernel)) (by rfl) (by rfl)
      refine ⟨f2, _, _, rfl, thk_of (k := j) (lscope_by (by rfl)) (fun _ _ => rfl) (fun A' outer' s' H' E' hr' gd' =>
        pe_calME Mq hr' (passes_call (takes_of rfl rfl rfl rfl) (fun _ _ _ _ z => z)) (pv 0) (pa_cons (pv 1) (pa_cons (pv 2) pa_nil))), is, ?_⟩
      have hbd := hb0 sub
      obtain ⟨dx, lo, dd, g1, g2, g3⟩ := hbd.ob
      refine ⟨_, rfl, b, dx, _, rfl, g1, bf_no _ _ (by decide +kernel) (by decide +kernel), _, rfl, _, rfl, b, l0 :: lr, v1, vS li, rfl, hbd, go.nm, dx_elt (DX.same (reg_drop R sub) _ _ (DX.same sC _ _ dx1)) (long no1), .inl ⟨li, rfl, by have := (go.nm li hli).hi; omega⟩, .inl ⟨noI no1, ?_⟩⟩
      refine raised11 (DX.same (sC.trans R.same) _ _ dx1) sh1 fun H2 s2 => ⟨(R.done s2).1, _, (R.done s2).2 _ _ hD, by rw [List.length_replicate]; exact Nat.lt_of_lt_of_le hi (by decide), ?_, OM.Same.put (sC.trans (R.done s2).2) nD⟩
      rw [upd_same]
      rfl
    | 2, hy =>
      cases hy
      have sd := s3C.ext (LamX.ExtN.of sC)
      obtain ⟨is, sub⟩ := lam_is (X := (cxOf CX0 P w K mg base N_Lerrors_right "_law_errors_right" (defScope s_Lerrors_right) f (.ref c) A outer s H E).nox)
        (fr := ["_law_base", "_law_item", "_law_wrong"]) (ks := [0, 2, 1]) (ws := [.ref b, vS li, v1]) R sd.fn sd.co (lscope_by (by decide +kernel)) (by rfl) (by rfl)
      refine ⟨f3, _, _, rfl, thk_of (k := j) (lscope_by (by rfl)) (fun _ _ => rfl) (fun A' outer' s' H' E' hr' gd' =>
        pe_calME Mq hr' (passes_call (takes_of rfl rfl rfl rfl) (fun _ _ _ _ z => z)) (pv 0) (pa_cons (pv 1) (pa_cons (pv 2) pa_nil))), is, ?_⟩
      have hbd := hb0 sub
      obtain ⟨dx, lo, dd, g1, g2, g3⟩ := hbd.ob
      refine ⟨_, rfl, b, dx, _, rfl, g1, bf_no _ _ (by decide +kernel) (by decide +kernel), _, rfl, _, rfl, b, l0 :: lr, vS li, v1, rfl, hbd, go.nm, .inl ⟨li, rfl, by have := (go.nm li hli).hi; omega⟩, dx_elt (DX.same (reg_drop R sub) _ _ (DX.same sC _ _ dx1)) (long no1), .inr ⟨li, rfl, hli, noI no1, ?_⟩⟩
      refine raised11 (DX.same (sC.trans R.same) _ _ dx1) sh1 fun H2 s2 => ⟨(R.done s2).1, _, (R.done s2).2 _ _ hD, by rw [List.length_replicate]; exact Nat.lt_of_lt_of_le hi (by decide), ?_, OM.Same.put (sC.trans (R.done s2).2) nD⟩
      rw [upd_same]
      rfl
    | 3, hy =>
      cases hy
      have sd := s4C.ext (LamX.ExtN.of sC)
      obtain ⟨is, sub⟩ := lam_is (X := (cxOf CX0 P w K mg base N_Lerrors_right "_law_errors_right" (defScope s_Lerrors_right) f (.ref c) A outer s H E).nox)
        (fr := ["_law_base", "_law_wrong", "_law_strange"]) (ks := [0, 1, 3]) (ws := [.ref b, v1, v2]) R sd.fn sd.co (lscope_by (by decide +kernel)) (by rfl) (by rfl)
      refine ⟨f4, _, _, rfl, thk_of (k := j) (lscope_by (by rfl)) (fun _ _ => rfl) (fun A' outer' s' H' E' hr' gd' =>
        pe_calME Mq hr' (passes_call (takes_of rfl rfl rfl rfl) (fun _ _ _ _ z => z)) (pv 0) (pa_cons (pv 1) (pa_cons (pv 2) pa_nil))), is, ?_⟩
      have hbd := hb0 sub
      obtain ⟨dx, lo, dd, g1, g2, g3⟩ := hbd.ob
      refine ⟨_, rfl, b, dx, _, rfl, g1, bf_no _ _ (by decide +kernel) (by decide +kernel), _, rfl, _, rfl, b, l0 :: lr, v1, v2, rfl, hbd, go.nm, dx_elt (DX.same (reg_drop R sub) _ _ (DX.same sC _ _ dx1)) (long no1), dx_elt (DX.same (reg_drop R sub) _ _ (DX.same sC _ _ dx2)) (long no2), .inl ⟨noI no1, ?_⟩⟩
      refine raised11 (DX.same (sC.trans R.same) _ _ dx1) sh1 fun H2 s2 => ⟨(R.done s2).1, _, (R.done s2).2 _ _ hD, by rw [List.length_replicate]; exact Nat.lt_of_lt_of_le hi (by decide), ?_, OM.Same.put (sC.trans (R.done s2).2) nD⟩
      rw [upd_same]
      rfl
    | n + 4, hy => simp at hy
  · rintro H6 ⟨hD, sC⟩
    have hD : H6 D = some (.lst [.str d1.shown, .str d1.shown, .str d1.shown, .str d1.shown]) := hD
    have dx16 := DX.same sC _ _ dx1
    have big : 2000 ≤ sizeLine := by decide
    refine ⟨_, rfl, v1, d1, rfl, dx16, sh1.1, by have := sh1.2.1; omega, by have := sh1.2.2; omega, by show 1 ≤ sizeLine; decide, fun xM nxM => ?_⟩
    have z7 := sameNew (o := .lst [.str d1.shown]) nxM
    have h7 : (upd H6 xM (.lst [.str d1.shown])) xM = some (.lst [.str d1.shown]) := upd_same
    generalize upd H6 xM (.lst [.str d1.shown]) = H7 at z7 h7 ⊢
    refine ⟨xM, 4, _, rfl, rfl, h7, by decide, by decide, by show 1 * 4 ≤ sizeLine; decide, fun xN nxN => ?_⟩
    have z8 := sameNew (o := .lst (List.replicate (Int.toNat 4) [V.str d1.shown]).flatten) nxN
    have h8 : (upd H7 xN (.lst (List.replicate (Int.toNat 4) [V.str d1.shown]).flatten)) xN = some (.lst (List.replicate (Int.toNat 4) [V.str d1.shown]).flatten) := upd_same
    generalize upd H7 xN (.lst (List.replicate (Int.toNat 4) [V.str d1.shown]).flatten) = H8 at z8 h8 ⊢
    have h8 : H8 xN = some (.lst [.str d1.shown, .str d1.shown, .str d1.shown, .str d1.shown]) := h8
    have four : ∀ t ∈ [d1.shown, d1.shown, d1.shown, d1.shown], Okc t := fun t m => by
      simp only [List.mem_cons, List.not_mem_nil, or_false, or_self] at m
      rw [m]
      exact ok1
    refine ⟨_, _, dp_Tx (ts := [d1.shown, d1.shown, d1.shown, d1.shown]) (SqL.of (z8 _ _ (z7 _ _ hD))), dp_Tx (ts := [d1.shown, d1.shown, d1.shown, d1.shown]) (SqL.of h8), shaped_Tx four, shaped_Tx four, _, rfl, ?_⟩
    rw [eqv_Tx, decide_eq_true rfl]
    refine iteF ?_
    have sF : Same HC H8 := sC.trans (z7.trans z8)
    clear z7 z8 h7 h8 hD nxM nxN dx16 sC
    have nli := go.nm li hli
    have nlen : (SX.S li).length ≤ 8 := by rw [SX.S_len]; exact nli.hi
    have oneZ : (Str.ofString "z").length = 1 := by decide +kernel
    refine ⟨_, rfl, _, rfl, _, rfl, _, rfl, _, _, rfl, rfl, by omega, _, rfl, 1, rfl, _, rfl, by omega, _, rfl, _, rfl, rfl, by omega, fun bb hbb => ⟨by show 6 ≤ sizeLine; decide, fun xK nxK => ?_⟩⟩
    have zK := sameNew (o := .lst [v1, v2, vS li, .str (SX.S li ++ Str.ofString "z"), .str (cutS (SX.S li) none (some 1)), .str bb]) nxK
    have hK : (upd H8 xK (.lst [v1, v2, vS li, .str (SX.S li ++ Str.ofString "z"), .str (cutS (SX.S li) none (some 1)), .str bb])) xK = some (.lst [v1, v2, vS li, .str (SX.S li ++ Str.ofString "z"), .str (cutS (SX.S li) none (some 1)), .str bb]) := upd_same
    generalize upd H8 xK (.lst [v1, v2, vS li, .str (SX.S li ++ Str.ofString "z"), .str (cutS (SX.S li) none (some 1)), .str bb]) = H9 at zK hK ⊢
    have s9 : Same HC H9 := sF.trans zK
    have el : ∀ v ∈ [v1, v2, vS li, V.str (SX.S li ++ Str.ofString "z"), .str (cutS (SX.S li) none (some 1)), .str bb], Elt1 K H9 v := by
      have els : ∀ x : Str, x.length ≤ 10000 → Elt1 K H9 (.str x) := fun x l => .inl ⟨x.cps.toList, by rw [vS, SX.S_tl], by rw [TL.len_tl] at l; exact l⟩
      intro v m
      simp only [List.mem_cons, List.not_mem_nil, or_false] at m
      rcases m with rfl | rfl | rfl | rfl | rfl | rfl
      · exact dx_elt (DX.same s9 _ _ dx1) (long no1)
      · exact dx_elt (DX.same s9 _ _ dx2) (long no2)
      · exact els _ (by omega)
      · exact els _ (by rw [strLen_append]; omega)
      · exact els _ (by have := cutS_length (SX.S li) none (some 1); omega)
      · exact els _ (by omega)
    have six : [v1, v2, vS li, V.str (SX.S li ++ Str.ofString "z"), .str (cutS (SX.S li) none (some 1)), .str bb].length = 6 := rfl
    generalize [v1, v2, vS li, V.str (SX.S li ++ Str.ofString "z"), .str (cutS (SX.S li) none (some 1)), .str bb] = xs at hK el six
    refine ⟨_, rfl, xK, rfl, ⟨_, SqL.of hK⟩, fun D nD => ?_⟩
    refine lc_list (K := K) (a := xK) (xs := xs) (fun i H' => H' D = some (.lst (((xs.take i).map nmV).map V.bl)) ∧ Same H9 H')
      ⟨upd_same, sameNew nD⟩ (fun i H' _ z => SqL.of (z.2 _ _ hK)) ?_ ?_
    · rintro i y HI hy ⟨hD, sI⟩
      have hi := (List.getElem?_eq_some_iff.mp hy).1
      refine ⟨rfl, yes ⟨_, rfl, ?_⟩⟩
      refine nil_str ?_
      refine isn_go (v := y) rfl ((el y (List.mem_of_getElem? hy)).same sI) fun H' s' => ⟨_, s' _ _ hD, ?_, ?_, OM.Same.put (sI.trans s') nD⟩
      · rw [List.length_map, List.length_map, List.length_take]
        exact Nat.lt_of_le_of_lt (Nat.min_le_left _ _) (Nat.lt_of_lt_of_le (by omega : i < 7) (by decide))
      · rw [upd_same, List.take_add_one, hy, List.map_append, List.map_append]
        rfl
    rintro HJ ⟨hD, sJ⟩
    rw [List.take_length] at hD
    have shw := sh_bls (bs := xs.map nmV) (by rw [List.length_map]; omega)
    refine ⟨.ref D, _, rfl, .lst hD (dxs_bl _), shw.1, shw.2.1, shw.2.2, ?_⟩
    have hKJ := sJ _ _ hK
    clear nD hD
    clear D
    refine ⟨_, rfl, xK, rfl, ⟨_, SqL.of hKJ⟩, fun D nD => ?_⟩
    refine lc_list (K := K) (a := xK) (xs := xs) (fun i H' => H' D = some (.lst (((xs.take i).map nmV).map V.bl)) ∧ Same HJ H')
      ⟨upd_same, sameNew nD⟩ (fun i H' _ z => SqL.of (z.2 _ _ hKJ)) ?_ ?_
    · rintro i y HI hy ⟨hD, sI⟩
      have hi := (List.getElem?_eq_some_iff.mp hy).1
      refine ⟨rfl, yes ⟨_, rfl, ?_⟩⟩
      refine nil_str ?_
      refine isn_go (v := y) rfl ((el y (List.mem_of_getElem? hy)).same (sJ.trans sI)) fun H' s' => ⟨_, s' _ _ hD, ?_, ?_, OM.Same.put (sI.trans s') nD⟩
      · rw [List.length_map, List.length_map, List.length_take]
        exact Nat.lt_of_le_of_lt (Nat.min_le_left _ _) (Nat.lt_of_lt_of_le (by omega : i < 7) (by decide))
      · rw [upd_same, List.take_add_one, hy, List.map_append, List.map_append]
        rfl
    rintro HM ⟨hD, sM⟩
    rw [List.take_length] at hD
    refine ⟨.ref D, _, rfl, .lst hD (dxs_bl _), shw.1, shw.2.1, shw.2.2, ?_⟩
    refine ⟨rfl, _, rfl, ?_⟩
    rw [decide_eq_true rfl]
    refine iteF ?_
    have sN : Same HC HM := s9.trans (sJ.trans sM)
    have hbM := hbC.same sN
    have noh : ∀ {v : V} {e : PyData} {H' : Hp} {Q' : VK}, DX H' v e → (∀ x, v = .str x → x.length ≤ 100 ∧ nmB x.cps.toList = false) → BaseAt C H' b (l0 :: lr) → (∀ H2, Same H' H2 → Q' (.bl false) H2) → ∀ {vs : List V},
        vs = [.ref b, v] → spHas K C vs H' Q' E0 := fun {v e H' Q'} dx no hb q' vs hv => by
      subst hv
      refine ⟨b, l0 :: lr, v, rfl, hb, go.nm, ?_⟩
      rcases dx_elt (K := K) dx (long no) with ⟨l, rfl, hl⟩ | ⟨t, ty, kt, nt⟩
      · refine .inl ⟨_, rfl, by rw [SX.S_len]; exact Nat.le_trans hl (by decide), fun H2 s2 => ?_⟩
        rw [decide_eq_false (show ¬ (SX.S l).cps.toList ∈ l0 :: lr from noI no l rfl)]
        exact q' H2 s2
      · exact .inr ⟨t, .base ty, kt, fun H2 s2 => q' H2 s2⟩
    obtain ⟨dx, lo, dd, g1, g2, g3⟩ := hbM.ob
    refine ⟨_, rfl, b, dx, _, rfl, g1, bf_no _ _ (by decide +kernel) (by decide +kernel), _, rfl, ?_⟩
    refine nil_str ?_
    refine noh (DX.same sN _ _ dx1) no1 hbM (fun H2 s2 => ⟨_, _, rfl, rfl, _, rfl, iteT ?_⟩) rfl
    refine ⟨_, rfl, b, dx, _, rfl, s2 _ _ g1, bf_no _ _ (by decide +kernel) (by decide +kernel), _, rfl, ?_⟩
    refine nil_str ?_
    refine noh (DX.same (sN.trans s2) _ _ dx2) no2 (hbM.same s2) (fun H3' s3' => ⟨_, _, rfl, rfl, ?_⟩) rfl
    have sO : Same HC H3' := sN.trans (s2.trans s3')
    exact q H3' ((XB.of b04).trans ((XB.ext eC).trans (XB.of (But.of sO)))) (rgC.same sO) (tbC.ext sO)
end
end OM
namespace OM
open PySem PySem.Spec PyProof.Rows L2
/-! ### an own instance beside a value of another kind: ==, from both sides, and != -/
section
variable {prog : Program} {w : World} {A : Around} {E : Value → Shared → Prop}
  {s : Shared} {K : PySem.W.Frag} {x C L f : Addr} {h₀ : Heap}
  {m : Str → Option Value} {ox : Obj} {od : Option Obj}
/-- a == x, x own: a's type has nothing to say, so x's own __eq__ is asked -/
theorem eq_right {a : Value} {T id : String} {Q : Value → Shared → Prop}
    (hu : A.units < cLine) (F : Fr h₀ L s.heap m) (X₀ : K.In h₀)
    (I : PySem.W.InstAt s.heap x ox C od) (ta : s.TypeIs a T)
    (sl : Slot T (cmpInfo .Eq).2.1 id)
    (sub : PySem.W.subIn K (.ref C) (.type T) = some false)
    (no : ∀ R : Value → Shared → Prop, R .notImplemented s →
      wpAny (model prog w) A (call (.builtin id) [a, .ref x]) R E s)
    (at_ : PySem.W.findIn K (.ref C) (cmpInfo .Eq).2.2 = some (some (.ref f)))
    (fn : PySem.W.isFn K (.ref f) = true)
    (h : wpAny (model prog w) A (call (.ref f) [.ref x, a])
      (PySem.W.CmpBack Q) E s) :
    wpAny (model prog w) A (richCompare .Eq a (.ref x)) Q E s := by
  have XK := X₀.keeps F.keep
  have own : wpAny (model prog w) A (tryCompare (.ref x) (cmpInfo .Eq).2.2 a)
      (fun r s' => ∃ v, r = some v ∧ Q v s') E s := by
    unfold tryCompare
    refine wpAny_bind (PySem.W.ifBound_K XK I at_ fn (wpAny_mono h
      (fun v s' q => ?_) fun _ _ z => z))
    cases v <;> first | exact q.elim | exact wpAny_pure ⟨_, rfl, q⟩
  unfold richCompare
  simp only [ta.oneThing_none]
  refine wpAny_holding (wpAny_bind (wpAny_cRoomFor hu ?_))
  refine wpAny_bind (wpAny_typeOf ta (wpAny_bind (I.type.here ?_)))
  simp only [show (Value.type T != Value.ref C) = true from rfl, if_true]
  refine wpAny_bind ((PySem.W.looks_subIn XK sub).here ?_)
  simp only [Bool.false_eq_true, if_false]
  refine wpAny_bind (wpAny_tryCompare_declines ta sl (no _ ⟨rfl, ?_⟩))
  simp only [Bool.not_false, if_true]
  refine wpAny_bind (wpAny_mono own (fun r s' z => ?_) fun _ _ z => z)
  obtain ⟨v, rfl, q⟩ := z
  exact wpAny_pure q
theorem ne_slot : Slot "object" (Str.ofString "__ne__") "object.__ne__" :=
  Slot.of (T := "object") (name := "__ne__") (owner := "object") (n := "__ne__")
    (by rw [typeLookup_type, builtinLookup_eq_fast]; kernel_rfl)
    (by decide +kernel) (by decide +kernel) (by decide +kernel)
    (.inl (by decide +kernel)) (by rw [isSubtype_type]; kernel_rfl)
/-- object.__ne__ of an own instance turns its own __eq__ round -/
theorem ne_body {b : Value} {Q : Value → Shared → Prop}
    (hu : A.units < cLine) (XK : K.In s.heap)
    (I : PySem.W.InstAt s.heap x ox C od)
    (at_ : PySem.W.findIn K (.ref C) "__eq__" = some (some (.ref f)))
    (fn : PySem.W.isFn K (.ref f) = true)
    (h : wpAny (model prog w) A (call (.ref f) [.ref x, b])
      (fun v s' => ∃ r, v = .bool r ∧ Q (.bool (!r)) s') E s) :
    wpAny (model prog w) A (Builtin.«object.__ne__» ⟨[.ref x, b], []⟩)
      (fun fin s' => ∃ v, fin = .done (.ret v) ∧ Q v s') E s := by
  show wpAny _ _ (cRoomFor "comparison" [.ref x, b] >>= fun _ => _) _ _ s
  refine wpAny_bind (wpAny_cRoomFor hu ?_)
  refine wpAny_bind (PySem.W.ifBound_K XK I at_ fn (wpAny_mono h
    (fun v s' z => ?_) fun _ _ z => z))
  obtain ⟨r, rfl, q⟩ := z
  exact wpAny_bind (wpAny_truthy_bool (wpAny_pure ⟨_, rfl, q⟩))
theorem ne_check {b : Value} (XK : K.In s.heap)
    (I : PySem.W.InstAt s.heap x ox C od)
    (top : PySem.W.subIn K (.ref C) (.type "object") = some true)
    {Q : Unit → Shared → Prop} (q : Q () s) :
    wpAny (model prog w) A (checkBuiltinCall "object.__ne__"
      ⟨[.ref x, b], []⟩) Q E s := by
  simp only [checkBuiltinCall, F.cmpKind_ne, F.cmpSplit_ne]
  refine wpAny_bind ?_
  unfold isInstance
  refine wpAny_bind (I.type.here ((PySem.W.looks_subIn XK top).here ?_))
  rw [if_neg (by decide)]
  cases sg : Manifest.signature? "object.__ne__" with
  | none => exact wpAny_pure q
  | some sig =>
    have ok := F.cmpArgs_ne (.ref x) b
    simp only [argsOk, sg] at ok
    exact wpAny_of_eq ok q
/-- a slot of the bottom class, asked of an own instance -/
theorem asks_slot {name : Str} {id : String} {args : List Value}
    {Q : Option Value → Shared → Prop} (XK : K.In s.heap)
    (I : PySem.W.InstAt s.heap x ox C od)
    (no : PySem.W.findIn K (.ref C) name = some (some (.builtin id)))
    (bd : ∀ self, bindSpecial (.builtin id) self = pure (.builtin id, [self]))
    (h : wpAny (model prog w) A (call (.builtin id) (.ref x :: args))
      (fun v => Q (some v)) E s) :
    wpAny (model prog w) A (callSpecialIfBound? (.ref x) name args) Q E s := by
  have last : wpAny (model prog w) A (call (.builtin id) ([.ref x] ++ args) >>=
      fun v => pure (some v)) Q E s :=
    wpAny_bind (wpAny_mono h (fun _ _ z => wpAny_pure z) fun _ _ z => z)
  unfold callSpecialIfBound? bindSpecialIfBound?
  refine wpAny_holding (wpAny_bind (wpAny_bind (wpAny_bind (I.type.here
    ((PySem.W.looks_findIn XK no).here ?_)))))
  simp only [bd]
  refine wpAny_bind (wpAny_askSetting (wpAny_ite ?_))
  split
  · exact wpAny_bind (wpAny_pure (wpAny_pure last))
  · exact wpAny_tryCatch (wpAny_bind (wpAny_pure (wpAny_pure last)))
/-- x != b, x own and without a __ne__ of its own -/
theorem ne_left {b tb : Value} {Q : Value → Shared → Prop}
    (hu : A.units + 1 < cLine) (Fh : Fr h₀ L s.heap m) (X₀ : K.In h₀)
    (I : PySem.W.InstAt s.heap x ox C od)
    (hb : PySem.W.Looks (model prog w) s.heap (typeOf b) tb)
    (hn : PySem.W.notFirst K C tb = true)
    (top : PySem.W.subIn K (.ref C) (.type "object") = some true)
    (no : PySem.W.findIn K (.ref C) "__ne__" =
      some (some (.builtin "object.__ne__")))
    (at_ : PySem.W.findIn K (.ref C) "__eq__" = some (some (.ref f)))
    (fn : PySem.W.isFn K (.ref f) = true)
    (h : wpAny (model prog w) A.in1 (call (.ref f) [.ref x, b])
      (fun v s' => ∃ r, v = .bool r ∧ Q (.bool (!r)) s') E s) :
    wpAny (model prog w) A (richCompare .NotEq (.ref x) b) Q E s := by
  have XK := X₀.keeps Fh.keep
  have called : wpAny (model prog w) A (call (.builtin "object.__ne__")
      [.ref x, b]) (fun v s' => (∃ r, v = .bool r) ∧ Q v s') E s :=
    wpAny_call (codeAny_call_builtin ne_slot.plain F.cmpEntry_ne
      (ne_check XK I top (wpAny_mono (ne_body (A := A.in1)
        (Q := fun v s' => (∃ r, v = .bool r) ∧ Q v s') hu XK I at_ fn
        (wpAny_mono h (fun v s' z => by
          obtain ⟨r, e, q⟩ := z
          exact ⟨r, e, ⟨_, rfl⟩, q⟩) fun _ _ z => z))
        (fun fin s' z => by obtain ⟨v, rfl, q⟩ := z; exact q) fun _ _ z => z)))
  have told : wpAny (model prog w) A (tryCompare (.ref x)
      (cmpInfo .NotEq).2.1 b) (fun r s' => ∃ v, r = some v ∧ Q v s') E s := by
    unfold tryCompare
    refine wpAny_bind (asks_slot XK I no ne_slot.bind (wpAny_mono called
      (fun v s' z => ?_) fun _ _ z => z))
    obtain ⟨⟨r, rfl⟩, q⟩ := z
    exact wpAny_pure ⟨_, rfl, q⟩
  have ends : wpAny (model prog w) A (do
      if let some v ← tryCompare (.ref x) (cmpInfo .NotEq).2.1 b then return v
      if !false then
        if let some v ← tryCompare b (cmpInfo .NotEq).2.2 (.ref x) then return v
      rule "compare.ne-identity"; return .bool (!(← isSame (.ref x) b))) Q E s :=
    wpAny_bind (wpAny_mono told (fun r s' z => by
      obtain ⟨v, rfl, q⟩ := z
      exact wpAny_pure q) fun _ _ z => z)
  unfold richCompare
  simp only [oneThing_ref]
  refine wpAny_holding (wpAny_bind (wpAny_cRoomFor (Nat.lt_of_succ_lt hu) ?_))
  refine wpAny_bind (I.type.here (wpAny_bind (hb.here ?_)))
  split
  · rename_i ne
    have e : PySem.W.subIn K tb (.ref C) = some false := by
      rcases Bool.or_eq_true_iff.mp hn with z | z
      · rw [beq_iff_eq.mp z] at ne; simp at ne
      · exact beq_iff_eq.mp z
    refine wpAny_bind ((PySem.W.looks_subIn XK e).here ?_)
    simp only [Bool.false_eq_true, if_false]
    exact ends
  · refine wpAny_bind (wpAny_pure ?_)
    simp only [Bool.false_eq_true, if_false]
    exact ends
theorem no_int {a : Int} {tk : Tok} {dx : Addr} {R : Value → Shared → Prop}
    (ho : s.heap.get? x = some (PySem.W.instObj C dx))
    (q : R .notImplemented s) :
    wpAny (model prog w) A (call (.builtin "int.__eq__") [.int a tk, .ref x]) R
      E s := by
  refine wpAny_call_entry F.slot_int_eq rfl F.entry_int_eq ?_
    (F.args_int_eq_2 _ _)
  obtain ⟨hp, g, d, t, os⟩ := s
  wp_walk using SeqAt.wpAny_loadPart' ho, wpAny_load ho
  exact ⟨_, rfl, q⟩
theorem no_bool {a : Bool} {dx : Addr} {R : Value → Shared → Prop}
    (ho : s.heap.get? x = some (PySem.W.instObj C dx))
    (q : R .notImplemented s) :
    wpAny (model prog w) A (call (.builtin "int.__eq__") [.bool a, .ref x]) R
      E s := by
  refine wpAny_call_entry F.slot_bool_eq rfl F.entry_int_eq ?_
    (F.args_int_eq_2 _ _)
  obtain ⟨hp, g, d, t, os⟩ := s
  wp_walk using SeqAt.wpAny_loadPart' ho, wpAny_load ho
  exact ⟨_, rfl, q⟩
theorem no_str {a : Str} {tk : Tok} {dx : Addr} {R : Value → Shared → Prop}
    (ho : s.heap.get? x = some (PySem.W.instObj C dx))
    (q : R .notImplemented s) :
    wpAny (model prog w) A (call (.builtin "str.__eq__") [.str a tk, .ref x]) R
      E s := by
  refine wpAny_call_entry F.slot_str_eq rfl F.entry_str_eq ?_
    (F.args_str_eq_2 _ _)
  obtain ⟨hp, g, d, t, os⟩ := s
  wp_walk using SeqAt.wpAny_loadPart' ho, wpAny_load ho
  exact ⟨_, rfl, q⟩
theorem no_none {dx : Addr} {R : Value → Shared → Prop}
    (ho : s.heap.get? x = some (PySem.W.instObj C dx))
    (q : R .notImplemented s) :
    wpAny (model prog w) A (call (.builtin "NoneType.__eq__") [.none, .ref x]) R
      E s := by
  refine wpAny_call_entry F.slot_NoneType_eq rfl F.entry_NoneType_eq ?_
    (F.args_NoneType_eq_2 _ _)
  obtain ⟨hp, g, d, t, os⟩ := s
  wp_walk using SeqAt.wpAny_loadPart' ho, wpAny_load ho
  exact ⟨_, rfl, q⟩
theorem no_list {p : Addr} {R : Value → Shared → Prop}
    (XK : K.In s.heap) (I : PySem.W.InstAt s.heap x ox C od)
    (tp : s.TypeIs (.ref p) "list")
    (sub : PySem.W.subIn K (.ref C) (.type "list") = some false)
    (q : R .notImplemented s) :
    wpAny (model prog w) A (call (.builtin "list.__eq__") [.ref p, .ref x]) R
      E s := by
  refine wpAny_call_entry F.slot_list_eq tp F.entry_list_eq ?_
    (F.args_list_eq_2 _ _)
  show wpAny _ _ (isInstance (.ref x) (.type "list") >>= _) _ _ s
  unfold isInstance
  refine wpAny_bind (wpAny_bind (I.type.here ((PySem.W.looks_subIn XK
    sub).here ?_)))
  first
    | exact wpAny_pure ⟨_, rfl, q⟩
    | exact wpAny_bind (wpAny_rule (wpAny_pure ⟨_, rfl, q⟩))
theorem no_tup {p : Addr} {R : Value → Shared → Prop}
    (XK : K.In s.heap) (I : PySem.W.InstAt s.heap x ox C od)
    (tp : s.TypeIs (.ref p) "tuple")
    (sub : PySem.W.subIn K (.ref C) (.type "tuple") = some false)
    (q : R .notImplemented s) :
    wpAny (model prog w) A (call (.builtin "tuple.__eq__") [.ref p, .ref x]) R
      E s := by
  refine wpAny_call_entry F.slot_tuple_eq tp F.entry_tuple_eq ?_
    (F.args_tuple_eq_2 _ _)
  show wpAny _ _ (isInstance (.ref x) (.type "tuple") >>= _) _ _ s
  unfold isInstance
  refine wpAny_bind (wpAny_bind (I.type.here ((PySem.W.looks_subIn XK
    sub).here ?_)))
  first
    | exact wpAny_pure ⟨_, rfl, q⟩
    | exact wpAny_bind (wpAny_rule (wpAny_pure ⟨_, rfl, q⟩))
theorem no_dict {p : Addr} {R : Value → Shared → Prop}
    (XK : K.In s.heap) (I : PySem.W.InstAt s.heap x ox C od)
    (tp : s.TypeIs (.ref p) "dict")
    (sub : PySem.W.subIn K (.ref C) (.type "dict") = some false)
    (q : R .notImplemented s) :
    wpAny (model prog w) A (call (.builtin "dict.__eq__") [.ref p, .ref x]) R
      E s := by
  refine wpAny_call_entry F.slot_dict_eq tp F.entry_dict_eq ?_
    (F.args_dict_eq_2 _ _)
  show wpAny _ _ (isInstance (.ref x) (.type "dict") >>= _) _ _ s
  unfold isInstance
  refine wpAny_bind (wpAny_bind (I.type.here ((PySem.W.looks_subIn XK
    sub).here ?_)))
  first
    | exact wpAny_pure ⟨_, rfl, q⟩
    | exact wpAny_bind (wpAny_rule (wpAny_pure ⟨_, rfl, q⟩))
end
/-! ### the layer's rules -/
/-- what an own instance is compared with, if it is not own -/
inductive Pl (H : Hp) : V → String → Prop where
  | non : Pl H .non "NoneType"
  | bl (b : Bool) : Pl H (.bl b) "bool"
  | int (i : Int) : Pl H (.int i) "int"
  | str (y : Str) : Pl H (.str y) "str"
  | lst {a : Addr} {xs : List V} (e : H a = some (.lst xs)) : Pl H (.ref a) "list"
  | tup {a : Addr} {xs : List V} (e : H a = some (.tup xs)) :
    Pl H (.ref a) "tuple"
  | dK {a : Addr} {kvs : List (Key × V)} (e : H a = some (.dK kvs)) :
    Pl H (.ref a) "dict"
theorem Pl.same {H H' : Hp} {v : V} {T : String} (p : Pl H v T)
    (z : Same H H') : Pl H' v T := by
  cases p with
  | non => exact .non
  | bl b => exact .bl b
  | int i => exact .int i
  | str y => exact .str y
  | lst e => exact .lst (z _ _ e)
  | tup e => exact .tup (z _ _ e)
  | dK e => exact .dK (z _ _ e)
/-- the class at C has nothing to do with the kinds above -/
structure Apart (K : PySem.W.Frag) (C : Addr) : Prop where
  up : ∀ T ∈ ["NoneType", "bool", "int", "str", "list", "tuple", "dict"],
    PySem.W.subIn K (.type T) (.ref C) = some false
  dn : ∀ T ∈ ["NoneType", "bool", "int", "str", "list", "tuple", "dict"],
    PySem.W.subIn K (.ref C) (.type T) = some false
theorem Pl.kind {H : Hp} {v : V} {T : String} (p : Pl H v T) :
    T ∈ ["NoneType", "bool", "int", "str", "list", "tuple", "dict"] := by
  cases p <;> decide
section
variable {X : Cx} {pins : List (Addr × Obj)} {σ : L2.St} {H : Hp} {s : Shared}
theorem Pl.typ {v : V} {T : String} {u : Value} (I : L2.Inv X pins σ H s)
    (p : Pl H v T) (r : RelV v u) : s.TypeIs u T := by
  cases p with
  | non => cases (show u = Value.none from r); rfl
  | bl b => cases (show u = Value.bool b from r); rfl
  | int i => obtain ⟨t, z⟩ := (show ∃ t, u = Value.int i t from r); cases z; rfl
  | str y => obtain ⟨t, z⟩ := (show ∃ t, u = Value.str y t from r); cases z; rfl
  | @lst a xs e =>
    cases (show u = Value.ref a from r)
    obtain ⟨_, _, n, _, z⟩ := (show ObjOk X.prog X.w H s.heap a (.lst xs) from
      I.hok a _ e)
    exact ⟨_, z, rfl⟩
  | @tup a xs e =>
    cases (show u = Value.ref a from r)
    obtain ⟨_, _, _, o, z, c, _⟩ := (show ObjOk X.prog X.w H s.heap a
      (.tup xs) from I.hok a _ e)
    exact ⟨o, z, c⟩
  | @dK a kvs e =>
    cases (show u = Value.ref a from r)
    obtain ⟨_, _, _, _, o, _, _, z, c, _⟩ := (show ObjOk X.prog X.w H s.heap a
      (.dK kvs) from I.hok a _ e)
    exact ⟨o, z, c.1⟩
theorem look_of {M : Model} {u : Value} {T : String} (h : s.TypeIs u T) :
    PySem.W.Looks M s.heap (typeOf u) (.type T) := by
  intro A Q E s' k q
  cases u with
  | ref a =>
    obtain ⟨o, z, c⟩ := h
    exact wpAny_typeOf_ref (k _ _ z) (by rw [c]; exact q)
  | _ => exact wpAny_typeOf (s := s') h q
/-- a value with a type that is known -/
def Typd (K : PySem.W.Frag) (C : Addr) (H : Hp) (y : V) : Prop :=
  (∃ T, Pl H y T) ∨ ∃ (b D dy : Addr) (gs : List (Str × V)), y = .ref b ∧
    H b = some (.ins D dy gs) ∧ PySem.W.notFirst K C (.ref D) = true
theorem Typd.look {M : Model} {C : Addr} {y : V} {u : Value}
    (ap : Apart X.K C) (I : L2.Inv X pins σ H s) (p : Typd X.K C H y)
    (r : RelV y u) : ∃ t, PySem.W.Looks M s.heap (typeOf u) t ∧
      PySem.W.notFirst X.K C t = true := by
  rcases p with ⟨T, p⟩ | ⟨b, D, dy, gs, rfl, hb, n⟩
  · refine ⟨.type T, look_of (p.typ I r), ?_⟩
    unfold PySem.W.notFirst
    rw [ap.up T p.kind]
    simp
  · cases r
    obtain ⟨_, J, _⟩ := ins_get I.hok hb
    obtain ⟨_, J, _⟩ := J.look
    exact ⟨.ref D, J.type, n⟩
end
section
variable {X : Cx} {C f : Addr} {fd : FuncData} {n : Nat} {ps : List Str} {sp : Sp}
/-- x == y, x of the class at C -/
def rEqA (K : PySem.W.Frag) (C : Addr) (sp : Sp) : R2 := fun x y H Q =>
  ∃ a dx fs, x = .ref a ∧ H a = some (.ins C dx fs) ∧ Typd K C H y ∧
    sp [.ref a, y] H (fun v H' => ∃ r, v = .bl r ∧ Q (.bl r) H') E0
theorem op_eqA (S : Spec1 X.K C "__eq__" f fd ps) (ap : Apart X.K C)
    (G : FnOk X.prog X.w X.K X.mg X.base CX0 n f fd ps sp)
    (room : Room n X.A) : OpR X (compareOp .Eq) (rEqA X.K C sp) := by
  intro pins s σ H x y v u Q I rx ry h
  obtain ⟨a, dx, fs, rfl, ha, ty, q⟩ := h
  cases rx
  obtain ⟨mA, J, _⟩ := ins_get I.hok ha
  obtain ⟨od, J, _⟩ := J.look
  obtain ⟨m, hF⟩ := I.fr
  obtain ⟨t, lk, nf⟩ := ty.look (M := model X.prog X.w) ap I ry
  show wpAny _ X.A (richCompare .Eq (.ref a) u) _ _ s
  refine PySem.W.cmp_K (op := .Eq) room.units0 hF I.ok.mod.kin J lk nf S.at_
    S.fn ?_
  refine wpAny_mono (runAt0 G room rfl S.bd I (us := [.ref a, u])
    (vs := [.ref a, y]) (.cons rfl (.cons ry .nil)) q) ?_ (fun _ _ z => z)
  rintro z s' ⟨v, H', I', rv, r, rfl, q'⟩
  cases rv
  exact ⟨.bl r, H', I', rfl, q'⟩
/-- x != y, x of the class at C -/
def rNeA (K : PySem.W.Frag) (C : Addr) (sp : Sp) : R2 := fun x y H Q =>
  ∃ a dx fs, x = .ref a ∧ H a = some (.ins C dx fs) ∧ Typd K C H y ∧
    sp [.ref a, y] H (fun v H' => ∃ r, v = .bl r ∧ Q (.bl (!r)) H') E0
theorem op_neA (S : Spec1 X.K C "__eq__" f fd ps) (ap : Apart X.K C)
    (top : PySem.W.subIn X.K (.ref C) (.type "object") = some true)
    (no : PySem.W.findIn X.K (.ref C) "__ne__" =
      some (some (.builtin "object.__ne__")))
    (G : FnOk X.prog X.w X.K X.mg X.base CX0 n f fd ps sp)
    (room : Room (n + 1) X.A) : OpR X (compareOp .NotEq) (rNeA X.K C sp) := by
  intro pins s σ H x y v u Q I rx ry h
  obtain ⟨a, dx, fs, rfl, ha, ty, q⟩ := h
  cases rx
  obtain ⟨mA, J, _⟩ := ins_get I.hok ha
  obtain ⟨od, J, _⟩ := J.look
  obtain ⟨m, hF⟩ := I.fr
  obtain ⟨t, lk, nf⟩ := ty.look (M := model X.prog X.w) ap I ry
  show wpAny _ X.A (richCompare .NotEq (.ref a) u) _ _ s
  refine ne_left room.in1.units0 hF I.ok.mod.kin J lk nf top no S.at_ S.fn ?_
  refine wpAny_mono (runAt0 (A := X.A.in1) G room.in1 rfl S.bd I
    (us := [.ref a, u]) (vs := [.ref a, y]) (.cons rfl (.cons ry .nil)) q) ?_
    (fun _ _ z => z)
  rintro z s' ⟨v, H', I', rv, r, rfl, q'⟩
  cases rv
  exact ⟨r, rfl, .bl (!r), H', I', rfl, q'⟩
/-- x == y, y of the class at C, x of another kind -/
def rEqR (C : Addr) (sp : Sp) : R2 := fun x y H Q =>
  ∃ a dx fs T, y = .ref a ∧ H a = some (.ins C dx fs) ∧ Pl H x T ∧
    sp [.ref a, x] H (fun v H' => ∃ r, v = .bl r ∧ Q (.bl r) H') E0
theorem op_eqR (S : Spec1 X.K C "__eq__" f fd ps) (ap : Apart X.K C)
    (G : FnOk X.prog X.w X.K X.mg X.base CX0 n f fd ps sp)
    (room : Room n X.A) : OpR X (compareOp .Eq) (rEqR C sp) := by
  intro pins s σ H x y v u Q I rx ry h
  obtain ⟨a, dx, fs, T, rfl, ha, p, q⟩ := h
  cases ry
  obtain ⟨mA, J0, _⟩ := ins_get I.hok ha
  obtain ⟨od, J, _⟩ := J0.look
  obtain ⟨m, hF⟩ := I.fr
  have XK : X.K.In s.heap := I.ok.mod.kin.keeps hF.keep
  have run : wpAny (model X.prog X.w) X.A (call (.ref f) [.ref a, v])
      (PySem.W.CmpBack (EP X pins σ Q)) X.xe s := by
    refine wpAny_mono (runAt0 G room rfl S.bd I (us := [.ref a, v])
      (vs := [.ref a, x]) (.cons rfl (.cons rx .nil)) q) ?_ (fun _ _ z => z)
    rintro z s' ⟨v, H', I', rv, r, rfl, q'⟩
    cases rv
    exact ⟨.bl r, H', I', rfl, q'⟩
  have tv := p.typ I rx
  have sub := ap.dn T p.kind
  show wpAny _ X.A (richCompare .Eq v (.ref a)) _ _ s
  cases p with
  | non =>
    cases (show v = Value.none from rx)
    exact eq_right room.units0 hF I.ok.mod.kin J tv F.slot_NoneType_eq sub
      (fun R z => no_none J0.obj z) S.at_ S.fn run
  | bl b =>
    cases (show v = Value.bool b from rx)
    exact eq_right room.units0 hF I.ok.mod.kin J tv F.slot_bool_eq sub
      (fun R z => no_bool J0.obj z) S.at_ S.fn run
  | int i =>
    obtain ⟨t, z⟩ := (show ∃ t, v = Value.int i t from rx)
    cases z
    exact eq_right room.units0 hF I.ok.mod.kin J tv F.slot_int_eq sub
      (fun R z => no_int J0.obj z) S.at_ S.fn run
  | str y =>
    obtain ⟨t, z⟩ := (show ∃ t, v = Value.str y t from rx)
    cases z
    exact eq_right room.units0 hF I.ok.mod.kin J tv F.slot_str_eq sub
      (fun R z => no_str J0.obj z) S.at_ S.fn run
  | @lst b xs e =>
    cases (show v = Value.ref b from rx)
    exact eq_right room.units0 hF I.ok.mod.kin J tv F.slot_list_eq sub
      (fun R z => no_list XK J tv sub z) S.at_ S.fn run
  | @tup b xs e =>
    cases (show v = Value.ref b from rx)
    exact eq_right room.units0 hF I.ok.mod.kin J tv F.slot_tuple_eq sub
      (fun R z => no_tup XK J tv sub z) S.at_ S.fn run
  | @dK b kvs e =>
    cases (show v = Value.ref b from rx)
    exact eq_right room.units0 hF I.ok.mod.kin J tv F.slot_dict_eq sub
      (fun R z => no_dict XK J tv sub z) S.at_ S.fn run
/-- one of two rules -/
theorem op_or {f : Value → Value → Sem Value} {r1 r2 : R2} (h1 : OpR X f r1)
    (h2 : OpR X f r2) : OpR X f (fun x y H Q => r1 x y H Q ∨ r2 x y H Q) := by
  intro pins s σ H x y v u Q I rx ry h
  rcases h with h | h
  · exact h1 pins s σ H x y v u Q I rx ry h
  · exact h2 pins s σ H x y v u Q I rx ry h
end
end OM
/-! a != x, x an own instance without a __ne__ of its own, a of another kind -/
namespace OM
open PySem PySem.Spec PyProof.Rows L2
section
variable {prog : Program} {w : World} {A : Around} {E : Value → Shared → Prop} {s : Shared} {K : PySem.W.Frag} {x C L f : Addr} {h₀ : Heap}
  {m : Str → Option Value} {ox : Obj} {od : Option Obj}
theorem ne_right {a : Value} {T id : String} {Q : Value → Shared → Prop} (hu : A.units + 1 < cLine) (Fh : Fr h₀ L s.heap m) (X₀ : K.In h₀)
    (I : PySem.W.InstAt s.heap x ox C od) (ta : s.TypeIs a T) (sl : Slot T (cmpInfo .NotEq).2.1 id) (sub : PySem.W.subIn K (.ref C) (.type T) = some false)
    (decl : ∀ R : Value → Shared → Prop, R .notImplemented s → wpAny (model prog w) A (call (.builtin id) [a, .ref x]) R E s)
    (top : PySem.W.subIn K (.ref C) (.type "object") = some true) (no : PySem.W.findIn K (.ref C) "__ne__" = some (some (.builtin "object.__ne__")))
    (at_ : PySem.W.findIn K (.ref C) "__eq__" = some (some (.ref f))) (fn : PySem.W.isFn K (.ref f) = true)
    (h : wpAny (model prog w) A.in1 (call (.ref f) [.ref x, a]) (fun v s' => ∃ r, v = .bool r ∧ Q (.bool (!r)) s') E s) :
    wpAny (model prog w) A (richCompare .NotEq a (.ref x)) Q E s := by
  have XK := X₀.keeps Fh.keep
  have called : wpAny (model prog w) A (call (.builtin "object.__ne__") [.ref x, a]) (fun v s' => (∃ r, v = .bool r) ∧ Q v s') E s :=
    wpAny_call (codeAny_call_builtin ne_slot.plain F.cmpEntry_ne (ne_check XK I top (wpAny_mono (ne_body (A := A.in1) (Q := fun v s' => (∃ r, v = .bool r) ∧ Q v s') hu XK I at_ fn
      (wpAny_mono h (fun v s' z => by
        obtain ⟨r, e, q⟩ := z
        exact ⟨r, e, ⟨_, rfl⟩, q⟩) fun _ _ z => z))
      (fun fin s' z => by
        obtain ⟨v, rfl, q⟩ := z
        exact q) fun _ _ z => z)))
  have told : wpAny (model prog w) A (tryCompare (.ref x) (cmpInfo .NotEq).2.2 a) (fun r s' => ∃ v, r = some v ∧ Q v s') E s := by
    unfold tryCompare
    refine wpAny_bind (asks_slot XK I no ne_slot.bind (wpAny_mono called (fun v s' z => ?_) fun _ _ z => z))
    obtain ⟨⟨r, rfl⟩, q⟩ := z
    exact wpAny_pure ⟨_, rfl, q⟩
  unfold richCompare
  simp only [ta.oneThing_none]
  refine wpAny_holding (wpAny_bind (wpAny_cRoomFor (Nat.lt_of_succ_lt hu) ?_))
  refine wpAny_bind (wpAny_typeOf ta (wpAny_bind (I.type.here ?_)))
  simp only [show (Value.type T != Value.ref C) = true from rfl, if_true]
  refine wpAny_bind ((PySem.W.looks_subIn XK sub).here ?_)
  simp only [Bool.false_eq_true, if_false]
  refine wpAny_bind (wpAny_tryCompare_declines ta sl (decl _ ⟨rfl, ?_⟩))
  simp only [Bool.not_false, if_true]
  refine wpAny_bind (wpAny_mono told (fun r s' z => ?_) fun _ _ z => z)
  obtain ⟨v, rfl, q⟩ := z
  exact wpAny_pure q
/-! the built-ins' own != has nothing to say -/
theorem nn_int {a : Int} {tk : Tok} {dx : Addr} {R : Value → Shared → Prop} (ho : s.heap.get? x = some (PySem.W.instObj C dx)) (q : R .notImplemented s) :
    wpAny (model prog w) A (call (.builtin "int.__ne__") [.int a tk, .ref x]) R E s := by
  refine wpAny_call_entry F.slot_int_ne rfl F.entry_int_ne ?_ (F.args_int_ne_2 _ _)
  obtain ⟨hp, g, d, t, os⟩ := s
  wp_walk using SeqAt.wpAny_loadPart' ho, wpAny_load ho
  exact ⟨_, rfl, q⟩
theorem nn_str {a : Str} {tk : Tok} {dx : Addr} {R : Value → Shared → Prop} (ho : s.heap.get? x = some (PySem.W.instObj C dx)) (q : R .notImplemented s) :
    wpAny (model prog w) A (call (.builtin "str.__ne__") [.str a tk, .ref x]) R E s := by
  refine wpAny_call_entry F.slot_str_ne rfl F.entry_str_ne ?_ (F.args_str_ne_2 _ _)
  obtain ⟨hp, g, d, t, os⟩ := s
  wp_walk using SeqAt.wpAny_loadPart' ho, wpAny_load ho
  exact ⟨_, rfl, q⟩
theorem nn_none {dx : Addr} {R : Value → Shared → Prop} (ho : s.heap.get? x = some (PySem.W.instObj C dx)) (q : R .notImplemented s) :
    wpAny (model prog w) A (call (.builtin "NoneType.__ne__") [.none, .ref x]) R E s := by
  refine wpAny_call_entry F.slot_NoneType_ne rfl F.entry_NoneType_ne ?_ (F.args_NoneType_ne_2 _ _)
  obtain ⟨hp, g, d, t, os⟩ := s
  wp_walk using SeqAt.wpAny_loadPart' ho, wpAny_load ho
  exact ⟨_, rfl, q⟩
theorem nn_list {p : Addr} {R : Value → Shared → Prop} (XK : K.In s.heap) (I : PySem.W.InstAt s.heap x ox C od) (tp : s.TypeIs (.ref p) "list")
    (sub : PySem.W.subIn K (.ref C) (.type "list") = some false) (q : R .notImplemented s) : wpAny (model prog w) A (call (.builtin "list.__ne__") [.ref p, .ref x]) R E s := by
  refine wpAny_call_entry F.slot_list_ne tp F.entry_list_ne ?_ (F.args_list_ne_2 _ _)
  show wpAny _ _ (isInstance (.ref x) (.type "list") >>= _) _ _ s
  unfold isInstance
  refine wpAny_bind (wpAny_bind (I.type.here ((PySem.W.looks_subIn XK sub).here ?_)))
  first
    | exact wpAny_pure ⟨_, rfl, q⟩
    | exact wpAny_bind (wpAny_rule (wpAny_pure ⟨_, rfl, q⟩))
theorem nn_tup {p : Addr} {R : Value → Shared → Prop} (XK : K.In s.heap) (I : PySem.W.InstAt s.heap x ox C od) (tp : s.TypeIs (.ref p) "tuple")
    (sub : PySem.W.subIn K (.ref C) (.type "tuple") = some false) (q : R .notImplemented s) : wpAny (model prog w) A (call (.builtin "tuple.__ne__") [.ref p, .ref x]) R E s := by
  refine wpAny_call_entry F.slot_tuple_ne tp F.entry_tuple_ne ?_ (F.args_tuple_ne_2 _ _)
  show wpAny _ _ (isInstance (.ref x) (.type "tuple") >>= _) _ _ s
  unfold isInstance
  refine wpAny_bind (wpAny_bind (I.type.here ((PySem.W.looks_subIn XK sub).here ?_)))
  first
    | exact wpAny_pure ⟨_, rfl, q⟩
    | exact wpAny_bind (wpAny_rule (wpAny_pure ⟨_, rfl, q⟩))
theorem nn_dict {p : Addr} {R : Value → Shared → Prop} (XK : K.In s.heap) (I : PySem.W.InstAt s.heap x ox C od) (tp : s.TypeIs (.ref p) "dict")
    (sub : PySem.W.subIn K (.ref C) (.type "dict") = some false) (q : R .notImplemented s) : wpAny (model prog w) A (call (.builtin "dict.__ne__") [.ref p, .ref x]) R E s := by
  refine wpAny_call_entry F.slot_dict_ne tp F.entry_dict_ne ?_ (F.args_dict_ne_2 _ _)
  show wpAny _ _ (isInstance (.ref x) (.type "dict") >>= _) _ _ s
  unfold isInstance
  refine wpAny_bind (wpAny_bind (I.type.here ((PySem.W.looks_subIn XK sub).here ?_)))
  first
    | exact wpAny_pure ⟨_, rfl, q⟩
    | exact wpAny_bind (wpAny_rule (wpAny_pure ⟨_, rfl, q⟩))
end
section
variable {X : Cx} {C f : Addr} {fd : FuncData} {n : Nat} {ps : List Str} {sp : Sp}
/-- x != y, y of the class at C, x of another kind (no truth value) -/
def rNeR (C : Addr) (sp : Sp) : R2 := fun x y H Q => ∃ a dx fs T, y = .ref a ∧ H a = some (.ins C dx fs) ∧ Pl H x T ∧ (∀ b, x ≠ .bl b) ∧
  sp [.ref a, x] H (fun v H' => ∃ r, v = .bl r ∧ Q (.bl (!r)) H') E0
theorem op_neR (S : Spec1 X.K C "__eq__" f fd ps) (ap : Apart X.K C) (top : PySem.W.subIn X.K (.ref C) (.type "object") = some true)
    (no : PySem.W.findIn X.K (.ref C) "__ne__" = some (some (.builtin "object.__ne__"))) (G : FnOk X.prog X.w X.K X.mg X.base CX0 n f fd ps sp)
    (room : Room (n + 1) X.A) : OpR X (compareOp .NotEq) (rNeR C sp) := by
  intro pins s σ H x y v u Q I rx ry h
  obtain ⟨a, dx, fs, T, rfl, ha, p, nb, q⟩ := h
  cases ry
  obtain ⟨mA, J0, _⟩ := ins_get I.hok ha
  obtain ⟨od, J, _⟩ := J0.look
  obtain ⟨m, hF⟩ := I.fr
  have XK : X.K.In s.heap := I.ok.mod.kin.keeps hF.keep
  have hu := room.in1.units0
  have run : wpAny (model X.prog X.w) X.A.in1 (call (.ref f) [.ref a, v]) (fun z s' => ∃ r, z = .bool r ∧ EP X pins σ Q (.bool (!r)) s') X.xe s := by
    refine wpAny_mono (runAt0 (A := X.A.in1) G room.in1 rfl S.bd I (us := [.ref a, v]) (vs := [.ref a, x]) (.cons rfl (.cons rx .nil)) q) ?_ (fun _ _ z => z)
    rintro z s' ⟨v, H', I', rv, r, rfl, q'⟩
    cases rv
    exact ⟨r, rfl, .bl (!r), H', I', rfl, q'⟩
  have tv := p.typ I rx
  have sub := ap.dn T p.kind
  show wpAny _ X.A (richCompare .NotEq v (.ref a)) _ _ s
  cases p with
  | non =>
    cases (show v = Value.none from rx)
    exact ne_right hu hF I.ok.mod.kin J tv F.slot_NoneType_ne sub (fun R z => nn_none J0.obj z) top no S.at_ S.fn run
  | bl b => exact absurd rfl (nb b)
  | int i =>
    obtain ⟨t, z⟩ := (show ∃ t, v = Value.int i t from rx)
    cases z
    exact ne_right hu hF I.ok.mod.kin J tv F.slot_int_ne sub (fun R z => nn_int J0.obj z) top no S.at_ S.fn run
  | str y =>
    obtain ⟨t, z⟩ := (show ∃ t, v = Value.str y t from rx)
    cases z
    exact ne_right hu hF I.ok.mod.kin J tv F.slot_str_ne sub (fun R z => nn_str J0.obj z) top no S.at_ S.fn run
  | lst e =>
    cases (show v = Value.ref _ from rx)
    exact ne_right hu hF I.ok.mod.kin J tv F.slot_list_ne sub (fun R z => nn_list XK J tv sub z) top no S.at_ S.fn run
  | tup e =>
    cases (show v = Value.ref _ from rx)
    exact ne_right hu hF I.ok.mod.kin J tv F.slot_tuple_ne sub (fun R z => nn_tup XK J tv sub z) top no S.at_ S.fn run
  | dK e =>
    cases (show v = Value.ref _ from rx)
    exact ne_right hu hF I.ok.mod.kin J tv F.slot_dict_ne sub (fun R z => nn_dict XK J tv sub z) top no S.at_ S.fn run
end
end OM
namespace OM
open PySem PySem.Spec PyProof.Rows L2
/-! ### == of bases and of logs, whatever stands on the other side -/
def spEqBX (K : PySem.W.Frag) (C : Addr) : Sp := fun vs H Q _ =>
  ∃ (b : Addr) (ls : List (List Nat)) (v : V), vs = [.ref b, v] ∧
  BaseAt C H b ls ∧ Good ls ∧
  ((∃ o ms, v = .ref o ∧ BaseAt C H o ms ∧ Good ms ∧
      Q (.bl (decide (ls = ms))) H) ∨
   (∃ t, TyOf K H v t ∧ PySem.W.kitOne K t (.ref C) = some false ∧
      Q (.bl false) H))
section
variable {P : Program} {w : World} {K : PySem.W.Frag}
  {mg : Str → Option Value} {base : Heap} {C L : Addr}
theorem ty_ins {K : PySem.W.Frag} {C a dx : Addr} {H : Hp}
    {fs : List (Str × V)} (c : C8.InsC K C) (e : H a = some (.ins C dx fs)) :
    TyOf K H (.ref a) (.ref C) := .ins e c.cl c.ha c.hn c.htk c.hm
theorem ok_eqBX {f : Addr} {fd : FuncData} {k : Nat}
    (F : Fun K "__eq__" "Base.__eq__" s_Base_eq f fd) (B : Bl mg)
    (T : BC K mg C) :
    FnOk P w K mg base CX0 (k + 1) f fd ["self", "other"] (spEqBX K C) := by
  refine F.ok sc_Base_eq (fun vs H Q E h => ?_)
    (fun cv A outer s H vs Q E hr h => ?_)
  · obtain ⟨b, ls, v, rfl, _⟩ := h
    rfl
  obtain ⟨b, ls, v, rfl, hb, gl, h⟩ := h
  obtain ⟨dx, lo, d, h1, h2, h3⟩ := hb.ob
  refine ⟨_, pss_one (ps_ret (pe_and
    (pe_callB call_isi (by rfl) B.isi bt_isi (pa_cons (pv 1)
      (pa_cons (pe_glob (v := .ref C) (by rfl) T.mgC rfl) pa_nil)))
    (pe_one (pe_cmpR (op_eqD hr.units) (pe_fld (pv 0) rfl) (pe_fld (pv 1) rfl)
      (nomark _))))), ?_⟩
  rcases h with ⟨o, ms, rfl, ho, gm, q⟩ | ⟨t, ty, kt, q⟩
  · obtain ⟨dy, mo, e, g1, g2, g3⟩ := ho.ob
    refine ⟨_, rfl, _, _, _, _, true, rfl, .own C, .base (ty_ins T.ic g1),
      T.ic.me, _, rfl, iteT ?_⟩
    refine ⟨_, rfl, b, C, dx, _, _, rfl, h1, T.cl, T.nL, bf_listed _ _, _, rfl,
      o, C, dy, _, _, rfl, g1, T.cl, T.nL, bf_listed _ _, _, _,
      dp_N (SqL.of h2), dp_N (SqL.of g2), shaped_L gl.uni, shaped_L gm.uni, ?_⟩
    rw [eqv_L]
    exact q
  · exact ⟨_, rfl, _, _, _, _, false, rfl, .own C, .base ty, kt, _, rfl, iteF q⟩
end
end OM
namespace OM
open PySem PySem.Spec PyProof.Rows L2
theorem op_two {X : Cx} {g : Value → Value → Sem Value} {r r' : R2} (a : OpR X g r) (b : OpR X g r') : OpR X g (fun x y H Q => r x y H Q ∨ r' x y H Q) :=
  fun pins s σ H x y v u Q I rx ry h => h.elim (fun z => a pins s σ H x y v u Q I rx ry z) fun z => b pins s σ H x y v u Q I rx ry z
/-- what is known of the class beside the built-in ones -/
structure Kin11 (K : PySem.W.Frag) (C : Addr) : Prop where
  ap : Apart K C
  kt : ∀ T ∈ ["NoneType", "bool", "int", "str", "list", "tuple", "dict"], PySem.W.kitOne K (.type T) (.ref C) = some false
  top : PySem.W.subIn K (.ref C) (.type "object") = some true
  no : PySem.W.findIn K (.ref C) "__ne__" = some (some (.builtin "object.__ne__"))
theorem Pl.ty11 {K : PySem.W.Frag} {H : Hp} {v : V} {T : String} (p : Pl H v T) : TyOf K H v (.type T) := by
  cases p with
  | non => exact .non
  | bl b => exact .bl b
  | int i => exact .int i
  | str y => exact .str y
  | lst e => exact .lst e
  | tup e => exact .tup e
  | dK e => exact .dK e
/-- what a base is compared with, and whether it is equal -/
def Oth11 (C : Addr) (H : Hp) (ls : List (List Nat)) (v : V) (e : Bool) : Prop :=
  (∃ o ms, v = .ref o ∧ BaseAt C H o ms ∧ Good ms ∧ e = decide (ls = ms)) ∨ (∃ T, Pl H v T ∧ (∀ b, v ≠ .bl b) ∧ e = false)
def spEql11 (C : Addr) : Sp := fun vs H Q _ => ∃ (b : Addr) (ls : List (List Nat)) (v : V) (e : Bool), vs = [.ref b, v, .bl e] ∧ BaseAt C H b ls ∧ Good ls ∧ Oth11 C H ls v e ∧
  ∀ H', Same H H' → Q (.bl true) H'
section
variable {P : Program} {w : World} {K : PySem.W.Frag} {mg : Str → Option Value} {base : Heap} {C : Addr}
theorem ok_eql11 {f fe : Addr} {fd fde : FuncData} {k n : Nat} (F : Fun K "_law_equal" "_law_equal" s_Lequal f fd) (B : Bl mg) (T : BC K mg C) (kn : Kin11 K C)
    (sm : ∃ o, base.get? sysModules = some o) (S : Spec1 K C "__eq__" fe fde ["self", "other"]) (G : FnOk P w K mg base CX0 n fe fde ["self", "other"] (spEqBX K C)) (hn : n + 1 ≤ k) :
    FnG P w K mg base CX0 (k + 1) f fd ["_law_first", "_law_second", "_law_expected"] (spEql11 C) := by
  refine okG F sc_Lequal (fun vs H Q E h => ?_) (fun cv A outer s H vs Q E hr gd h => ?_)
  · obtain ⟨b, ls, v, e, rfl, _⟩ := h
    rfl
  obtain ⟨b, ls, v, e, rfl, hb, gl, ot, q⟩ := h
  have nd := sc_Lequal.nd
  have h1 := hr.mono hn
  have h0 := hr.mono (show n ≤ k by omega)
  refine ⟨_, pss_cons (ps_set (i := 3) nd rfl (.inl rfl) (pe_lst (pa_cons (pe_cmpR (op_eqA S kn.ap G h0)
      (pv 0) (pv 1) (nomark _)) (pa_cons (pe_cmpR (op_two (op_eqA S kn.ap G h0) (op_eqR S kn.ap G h0)) (pv 1) (pv 0) (nomark
      _)) (pa_cons (pe_cmpR (op_neA S kn.ap kn.top kn.no G h1) (pv 0) (pv 1) (nomark _)) (pa_cons (pe_cmpR
      (op_two (op_neA S kn.ap kn.top kn.no G h1) (op_neR S kn.ap kn.top kn.no G h1)) (pv 1) (pv 0) (nomark _)) pa_nil)))))) (pss_one (ps_ret (pe_cmpR
      op_eq (pe_callB (call_reprX hr gd sm) (by rfl) B.repr bt_repr (pa_cons (pv 3)
      pa_nil)) (pe_callB (call_reprX hr gd sm) (by rfl) B.repr bt_repr (pa_cons
      (pe_lst (pa_cons (pv 2) (pa_cons (pv 2) (pa_cons (pe_not (pv 2)) (pa_cons
      (pe_not (pv 2)) pa_nil))))) pa_nil)) (nomark _)))), ?_⟩
  obtain ⟨dx, lo, d, g1, g2, g3⟩ := hb.ob
  have self : ∀ {o dy : Addr} {fs : List (Str × V)}, H o = some (.ins C dy fs) → Typd K C H (.ref o) := fun {o dy fs} g => .inr ⟨o, C, dy, fs, rfl, g, by unfold PySem.W.notFirst; simp⟩
  have all : (∀ Q' : VK, Q' (.bl e) H → rEqA K C (spEqBX K C) (.ref b) v H Q') ∧ (∀ Q' : VK, Q' (.bl e) H → rEqA K C (spEqBX K C) v (.ref b) H Q' ∨ rEqR C (spEqBX K C) v (.ref b) H Q') ∧
      (∀ Q' : VK, Q' (.bl (!e)) H → rNeA K C (spEqBX K C) (.ref b) v H Q') ∧ (∀ Q' : VK, Q' (.bl (!e)) H → rNeA K C (spEqBX K C) v (.ref b) H Q' ∨ rNeR C (spEqBX K C) v (.ref b) H Q') := by
    rcases ot with ⟨o, ms, rfl, ho, gm, rfl⟩ | ⟨t, p, nb, rfl⟩
    · obtain ⟨dy, lo', d', k1, k2, k3⟩ := ho.ob
      have e2 : decide (ls = ms) = decide (ms = ls) := decide_eq_decide.mpr ⟨Eq.symm, Eq.symm⟩
      refine ⟨fun Q' z => ⟨b, dx, _, rfl, g1, self k1, b, ls, _, rfl, hb, gl, .inl ⟨o, ms, rfl, ho, gm, _, rfl, z⟩⟩,
        fun Q' z => .inl ⟨o, dy, _, rfl, k1, self g1, o, ms, _, rfl, ho, gm, .inl ⟨b, ls, rfl, hb, gl, _, rfl, ?_⟩⟩,
        fun Q' z => ⟨b, dx, _, rfl, g1, self k1, b, ls, _, rfl, hb, gl, .inl ⟨o, ms, rfl, ho, gm, _, rfl, z⟩⟩,
        fun Q' z => .inl ⟨o, dy, _, rfl, k1, self g1, o, ms, _, rfl, ho, gm, .inl ⟨b, ls, rfl, hb, gl, _, rfl, ?_⟩⟩⟩
      · rw [← e2]
        exact z
      · rw [← e2]
        exact z
    · have kt := kn.kt t p.kind
      refine ⟨fun Q' z => ⟨b, dx, _, rfl, g1, .inl ⟨t, p⟩, b, ls, _, rfl, hb, gl, .inr ⟨_, p.ty11, kt, _, rfl, z⟩⟩,
        fun Q' z => .inr ⟨b, dx, _, t, rfl, g1, p, b, ls, _, rfl, hb, gl, .inr ⟨_, p.ty11, kt, _, rfl, z⟩⟩,
        fun Q' z => ⟨b, dx, _, rfl, g1, .inl ⟨t, p⟩, b, ls, _, rfl, hb, gl, .inr ⟨_, p.ty11, kt, _, rfl, z⟩⟩,
        fun Q' z => .inr ⟨b, dx, _, t, rfl, g1, p, nb, b, ls, _, rfl, hb, gl, .inr ⟨_, p.ty11, kt, _, rfl, z⟩⟩⟩
  obtain ⟨c1, c2, c3, c4⟩ := all
  refine ⟨_, rfl, _, rfl, c1 _ ?_⟩
  refine ⟨_, rfl, _, rfl, c2 _ ?_⟩
  refine ⟨_, rfl, _, rfl, c3 _ ?_⟩
  refine ⟨_, rfl, _, rfl, c4 _ ?_⟩
  refine ⟨by show 4 ≤ sizeLine; decide, fun x nx => ?_⟩
  have shw : (PyData.list [.bool e, .bool e, .bool (!e), .bool (!e)]).showable = true ∧ (PyData.list [.bool e, .bool e, .bool (!e), .bool (!e)]).depth ≤ 60 ∧ (PyData.list [.bool e, .bool e, .bool (!e), .bool (!e)]).shown.length ≤ sizeLine := by
    cases e <;> exact ⟨by decide +kernel, by decide +kernel, by decide +kernel⟩
  have z1 := sameNew (o := .lst [.bl e, .bl e, .bl (!e), .bl (!e)]) nx
  have h1' : (upd H x (.lst [.bl e, .bl e, .bl (!e), .bl (!e)])) x = some (.lst [.bl e, .bl e, .bl (!e), .bl (!e)]) := upd_same
  generalize upd H x (.lst [.bl e, .bl e, .bl (!e), .bl (!e)]) = H1 at z1 h1' ⊢
  refine ⟨_, rfl, _, _, rfl, .lst h1' (.cons (.bl _) (.cons (.bl _) (.cons (.bl _) (.cons (.bl _) .nil)))), shw.1, shw.2.1, shw.2.2, ?_⟩
  refine ⟨_, rfl, _, rfl, _, rfl, _, rfl, _, rfl, _, rfl, by show 4 ≤ sizeLine; decide, fun y ny => ?_⟩
  have z2 := sameNew (o := .lst [.bl e, .bl e, .bl (!e), .bl (!e)]) ny
  have h2 : (upd H1 y (.lst [.bl e, .bl e, .bl (!e), .bl (!e)])) y = some (.lst [.bl e, .bl e, .bl (!e), .bl (!e)]) := upd_same
  generalize upd H1 y (.lst [.bl e, .bl e, .bl (!e), .bl (!e)]) = H2 at z2 h2 ⊢
  refine ⟨_, _, rfl, .lst h2 (.cons (.bl _) (.cons (.bl _) (.cons (.bl _) (.cons (.bl _) .nil)))), shw.1, shw.2.1, shw.2.2, rfl, ?_⟩
  rw [decide_eq_true rfl]
  exact q _ (z1.trans z2)
end
end OM
namespace OM
open PySem PySem.Spec PyProof.Rows L2
/-! ### what the top has left -/
structure DefAt (K : PySem.W.Frag) (mg : Str → Option Value) (x : Str)
    (st : Stmt) (ps : List Str) (f : Addr) (fd : FuncData) : Prop where
  fn : Fun K x x st f fd
  mg : mg x = some (.ref f)
  bd : Binds K fd ps []
  bt : ∀ (s : Shared) (us : List Value), us.length = ps.length →
    BindsTo s fd ⟨us, []⟩ (ps.zip us)
theorem defAt {K : PySem.W.Frag} {mg : Str → Option Value} {h : Heap}
    {x : Str} {st : Stmt} {ps : List Str} {f : Addr} {oc : Value}
    {od an : Option Addr} {sl : Array (Option Value)}
    {kV dc pm cv ct : Value} (X : K.In h) (G : h.Ns mainGlobals mg)
    (a : PySem.W.nsIn K mainGlobals x = some (some (.ref f)))
    (l : K.lookup f = some ⟨oc, od, .func (PySem.W.fnOf x x (defArgs st)
      (defBody st) (defScope st) .none kV dc pm an cv ct), sl⟩)
    (c : PySem.W.codeIn K cv x = true)
    (k : PySem.W.keepIn K (.ref f) = true)
    (b : ∀ (kV doc pm : Value) (an : Option Addr) (cdv ct : Value)
      (us : List Value), us.length = ps.length →
      bindArgs (PySem.W.fnOf x x (defArgs st) (defBody st) (defScope st)
        .none kV doc pm an cdv ct) ⟨us, []⟩ = pure (ps.zip us)) :
    ∃ fd, DefAt K mg x st ps f fd :=
  have F := fun_mk (st := st) l c k
  ⟨_, F, PySem.W.mg_of X G a, F.binds b,
    fun _ us hl => .of_eq (b _ _ _ _ _ _ us hl)⟩
section
variable {P : Program} {w : World} {K : PySem.W.Frag}
  {mg : Str → Option Value} {base : Heap} {C : Addr}
theorem DefAt.cal {k j : Nat} {x : Str} {st : Stmt} {ps : List Str} {f : Addr}
    {fd : FuncData} {sp : Sp} (D : DefAt K mg x st ps f fd)
    (G : FnOk P w K mg base CX0 j f fd ps sp) (h : j ≤ k) :
    Cal P w K mg base k x ps sp :=
  ⟨f, fd, G.mono h, D.mg, D.fn.kp, D.bd⟩
theorem FnG.up {j k : Nat} {f : Addr} {fd : FuncData} {ps : List Str} {sp : Sp}
    (F : FnG P w K mg base CX0 j f fd ps sp) (h : j ≤ k) :
    FnG P w K mg base CX0 k f fd ps sp :=
  ⟨F.len, fun A o s H ar us vs Q E r g e b v z =>
    F.run A o s H ar us vs Q E (r.mono h) g e b v z⟩
theorem DefAt.calG {k j : Nat} {x : Str} {st : Stmt} {ps : List Str} {f : Addr}
    {fd : FuncData} {sp : Sp} (D : DefAt K mg x st ps f fd)
    (G : FnG P w K mg base CX0 j f fd ps sp) (h : j ≤ k) :
    CalG P w K mg base k x ps sp :=
  ⟨f, fd, G.up h, D.mg, D.fn.kp, D.bd⟩
end
end OM
namespace OM
open PySem PySem.Spec PyProof.Rows L2
theorem baseText_eq (ls : List (List Nat)) : Str.ofString "Base(" ++ (PyData.list (dN ls)).shown ++ Str.ofString ")" = baseText ls := by
  have em : Str.empty ++ Str.ofString "Base(" = Str.ofString "Base(" := congrArg Str.mk (Array.empty_append (xs := (Str.ofString "Base(").cps))
  unfold baseText
  rw [em]
theorem sum_pl11 (ts : List Str) : (ts.map (·.length)).sum + 2 * ts.length = piled ts := by
  induction ts with
  | nil => rfl
  | cons t r ih =>
    rw [piled_cons, List.map_cons, List.sum_cons, List.length_cons]
    omega
theorem Good.sh4k {ls : List (List Nat)} (g : Good ls) : (PyData.list (dN ls)).shown.length ≤ 4000 := by
  have p := piled_N ls 8 fun l h => ⟨(g.nm l h).hi, (g.nm l h).uni⟩
  have q := listText_len_le (PyData.shownAll (dN ls))
  have r := sum_pl11 (PyData.shownAll (dN ls))
  have s : ls.length * (10 * 8 + 4) ≤ 40 * 84 := Nat.mul_le_mul g.hi (Nat.le_refl _)
  simp only [PyData.shown]
  omega
theorem depth_L60 (ls : List (List Nat)) : (PyData.list (dN ls)).depth ≤ 60 := Nat.le_trans (depth_L ls) (by decide)
def spTold11 (C : Addr) : Sp := fun vs H Q _ => ∃ (b it : Addr) (ls : List (List Nat)), vs = [.ref b, .ref it] ∧ BaseAt C H b ls ∧ Good ls ∧ H it = some (.lst (ls.map vS)) ∧
  ∀ H', Same H H' → Q (.bl true) H'
section
variable {P : Program} {w : World} {K : PySem.W.Frag} {mg : Str → Option Value} {base : Heap} {C : Addr}
theorem ok_told11 {f fl fr : Addr} {fd fdl fdr : FuncData} {k n m : Nat} (F : Fun K "_law_told_right" "_law_told_right" s_Ltold_right f fd) (B : Bl mg)
    (Mn : CalM P w K mg base C k "names" ["self"] (spGetNames C))
    (Mh : CalM P w K mg base C k "has_item" ["self", "value"] (spHas K C))
    (Mp : CalM P w K mg base C k "position_of" ["self", "item"] (spPos C))
    (Sl : Spec1 K C "__len__" fl fdl ["self"]) (Gl_ : FnOk P w K mg base CX0 m fl fdl ["self"] (spLenB C)) (hm : m + 1 ≤ k)
    (Sr : Spec1 K C "__repr__" fr fdr ["self"]) (Gr : FnG P w K mg base CX0 n fr fdr ["self"] (spReprB C)) (hn : n + 1 ≤ k) :
    FnG P w K mg base CX0 (k + 1) f fd ["_law_base", "_law_items"] (spTold11 C) := by
  refine okG F sc_Ltold_right (fun vs H Q E h => ?_) (fun cv A outer s H vs Q E hr gd h => ?_)
  · obtain ⟨b, it, ls, rfl, _⟩ := h
    rfl
  obtain ⟨b, it, ls, rfl, hb, go, hi, q⟩ := h
  have nd := sc_Ltold_right.nd
  have hl := hr.mono hm
  have hrr := hr.mono hn
  refine ⟨_, pss_cons (ps_if (PW.pt (pw_or (pt_cmpR (op_neD hr.units) (pe_calM0 Mn
      hr (pv 0)) (pv 1) (nomark _)) (pw_or (pt_cmpR op_ne (pe_callB (call_lenOwn Sl Gl_ hl)
      (by rfl) B.len PySem.boot_len (pa_cons (pv 0) pa_nil)) (pe_callB
      call_len_seq (by rfl) B.len PySem.boot_len (pa_cons (pv 1) pa_nil))
      (nomark _)) (pw_or1 (pt_cmpR op_ne (pe_callB (call_reprOwn Sr Gr hrr gd) (by rfl)
      B.repr bt_repr (pa_cons (pv 0) pa_nil)) (pe_op op_add_str (pe_op
      op_add_str pe_str (pe_callB (call_reprD hr gd) (by rfl) B.repr bt_repr
      (pa_cons (pv 1) pa_nil))) pe_str) (nomark _)))))) (pss_one ps_never)
      pss_nil) (pss_cons (ps_for PassesOwn.never rfl (pi_enum (by rfl) B.enum
      (pa_cons (pv 1) pa_nil)) (pg_tup rfl (pgs_cons (pg_name (i := 2) nd rfl
      (.inl rfl)) (pgs_cons (pg_name (i := 3) nd rfl (.inl rfl)) pgs_nil)))
      (pss_one (ps_if (pt_cmpR op_ne (pe_callB (call_reprD hr gd) (by rfl)
      B.repr bt_repr (pa_cons (pe_lst (pa_cons (pe_calM Mh hr (pv 0)
      (pa_cons (pv 3) pa_nil)) (pa_cons (pe_calM Mp hr (pv 0)
      (pa_cons (pv 3) pa_nil)) pa_nil))) pa_nil)) (pe_callB (call_reprD hr gd)
      (by rfl) B.repr bt_repr (pa_cons (pe_lst (pa_cons pe_bl (pa_cons (pv 2)
      pa_nil))) pa_nil)) (nomark _)) (pss_one ps_never) pss_nil))) (pss_one
      (ps_ret pe_bl))), ?_⟩
  obtain ⟨dx, lo, dd, g1, g2, g3⟩ := hb.ob
  refine ⟨_, rfl, b, dx, _, rfl, g1, bf_no _ _ (by decide +kernel) (by decide +kernel), b, ls, rfl, hb, fun x H1 nx hx s1 => ?_⟩
  refine ⟨_, rfl, _, _, dp_N (SqL.of hx), dp_N (SqL.of (s1 _ _ hi)), shaped_L go.uni, shaped_L go.uni, _, rfl, ?_⟩
  rw [eqv_L, decide_eq_true rfl]
  refine iteF ?_
  refine ⟨_, rfl, b, dx, _, rfl, s1 _ _ g1, b, ls, rfl, hb.same s1, ls.length, rfl, Nat.lt_of_le_of_lt go.hi (by decide), _, rfl, it, _, rfl, .inl (SqL.of (s1 _ _ hi)), ?_⟩
  rw [List.length_map]
  refine ⟨rfl, _, rfl, ?_⟩
  rw [decide_eq_true rfl]
  refine iteF ?_
  have big : 5000 ≤ sizeLine := by decide
  have b4 := go.sh4k
  have l5 : (Str.ofString "Base(").length = 5 := by decide +kernel
  have l1 : (Str.ofString ")").length = 1 := by decide +kernel
  refine ⟨_, rfl, b, dx, _, rfl, s1 _ _ g1, b, ls, rfl, hb.same s1, go, _, rfl, _, rfl, _, _, rfl, dp_N (SqL.of (s1 _ _ hi)), showable_L ls, depth_L60 ls, by omega, _, _, rfl, rfl, by omega, _, _, rfl, rfl, by rw [strLen_append]; omega, ?_⟩
  rw [baseText_eq]
  refine ⟨rfl, _, rfl, ?_⟩
  rw [decide_eq_true rfl]
  refine iteF ?_
  refine ⟨_, rfl, it, _, rfl, SqL.of (s1 _ _ hi), ?_⟩
  refine for_it (walk_enum (K := K) (a := it) (xs := ls.map vS))
    (fun i σ H' => ∃ y z : Option V, σ = [some (.ref b), some (.ref it), y, z] ∧ Same H H')
    ⟨none, none, rfl, s1⟩ (fun i σ H' _ z => by
      obtain ⟨_, _, _, sm⟩ := z
      exact SqL.of (sm _ _ hi)) ?_ ?_
  · rintro i v σ H2 H3 hi' ⟨y, z, rfl, sm⟩ ⟨T', x1, x2, rfl, nT, rfl, e1, e2⟩
    cases Option.some.inj e1
    have sm2 := sm.trans (sameNew (o := .tup [.int (i : Nat), x2]) nT)
    have hT : (upd H2 T' (.tup [.int (i : Nat), x2])) T' = some (.tup [.int (i : Nat), x2]) := upd_same
    generalize upd H2 T' (.tup [.int (i : Nat), x2]) = H3 at sm2 hT ⊢
    have e2 : (ls.map vS)[i]? = some x2 := e2
    rw [List.getElem?_map] at e2
    obtain ⟨l, hl, rfl⟩ := Option.map_eq_some_iff.mp e2
    have ml := List.mem_of_getElem? hl
    have il : ls.idxOf l = i := by
      have lt := (List.getElem?_eq_some_iff.mp hl).1
      have a := List.idxOf_lt_length_of_mem ml
      refine ((List.getElem?_inj a go.nd).mp ?_)
      rw [hl, List.getElem?_eq_getElem a, List.getElem_idxOf]
    refine ⟨T', _, rfl, .inl (.inl hT), rfl, _, _, rfl, _, _, rfl, rfl, ?_⟩
    refine ⟨_, rfl, b, dx, _, rfl, sm2 _ _ g1, bf_no _ _ (by decide +kernel) (by decide +kernel), _, rfl, b, ls, _, rfl, hb.same sm2, go.nm, .inl ⟨_, rfl, (go.nm l ml).len, fun H4 s4 => ?_⟩⟩
    rw [decide_eq_true (show (SX.S l).cps.toList ∈ ls from ml)]
    have sm4 := sm2.trans s4
    refine ⟨_, rfl, b, dx, _, rfl, sm4 _ _ g1, bf_no _ _ (by decide +kernel) (by decide +kernel), _, rfl, b, ls, l, rfl, hb.same sm4, go.nm, ml, fun H5 s5 => ⟨by show 2 ≤ sizeLine; decide, fun t nt => ?_⟩⟩
    rw [il]
    have sm5 := sm4.trans s5
    have lt : i < ls.length := (List.getElem?_eq_some_iff.mp hl).1
    have sml : Sh 2 (smB 1) (.list [.bool true, .int (i : Int)]) := by
      refine sh_sml (.lst (by show 2 ≤ 12; decide) (fun a c h => by cases h) fun d hd => ?_)
      simp only [List.mem_cons, List.not_mem_nil, or_false] at hd
      have := go.hi
      rcases hd with rfl | rfl
      · exact .bl 0 true
      · exact .int 0 (.inl ⟨by omega, by omega⟩)
    have s700 : smB 1 ≤ sizeLine := by decide
    have z1 := sml.1
    have z2 : (PyData.list [.bool true, .int (i : Int)]).depth ≤ 60 := Nat.le_trans sml.2.1 (by decide)
    have z3 : (PyData.list [.bool true, .int (i : Int)]).shown.length ≤ sizeLine := Nat.le_trans sml.2.2 s700
    have nxt := nt
    refine ⟨_, _, rfl, .lst (SqL.of upd_same) (.cons (.bl _) (.cons (.int _) .nil)), z1, z2, z3, ?_⟩
    have sm6 := sm5.trans (sameNew (o := .lst [.bl true, .int (i : Int)]) nt)
    refine ⟨_, rfl, by show 2 ≤ sizeLine; decide, fun u nu => ?_⟩
    refine ⟨_, _, rfl, .lst (SqL.of upd_same) (.cons (.bl _) (.cons (.int _) .nil)), z1, z2, z3, rfl, _, rfl, ?_⟩
    rw [decide_eq_true rfl]
    exact iteF ⟨_, _, rfl, sm6.trans (sameNew nu)⟩
  · rintro σ H2 ⟨y, z, rfl, sm⟩
    exact q _ sm
end
end OM
namespace OM
open PySem PySem.Spec PyProof.Rows L2
theorem cut_m11 {xs : List V} (h : 0 < xs.length) : cutV xs none (some (-1)) = xs.dropLast := by
  show List.take (((-1 : Int) + (xs.length : Int)).toNat - 0) (List.drop 0 xs) = xs.dropLast
  rw [List.drop_zero, List.dropLast_eq_take]
  congr 1
  omega
def spEqr11 (C : Addr) : Sp := fun vs H Q _ => ∃ (p b it : Addr) (ls : List (List Nat)), vs = [.ref p, .ref b, .ref it] ∧ Rng H p ∧ BaseAt C H b ls ∧ Good ls ∧ H it = some (.lst (ls.map vS)) ∧ it ≠ p ∧
  ∀ H', But p H H' → Rng H' p → Q (.bl true) H'
section
variable {P : Program} {w : World} {K : PySem.W.Frag} {mg : Str → Option Value} {base : Heap} {C : Addr}
theorem ok_eqr11 {f fr : Addr} {fd fdr : FuncData} {k n j : Nat} (F : Fun K "_law_equality_right" "_law_equality_right" s_Lequality_right f fd) (B : Bl mg) (bT : mg "tuple" = none)
    (Cn : Cal P w K mg base k "_law_name" ["_law_rng_here", "_law_used"] (spName K))
    (Cc : Cal P w K mg base k "_law_choice" ["_law_rng_here", "_law_options"] (spChoice K))
    (Ce : CalG P w K mg base k "_law_equal" ["_law_first", "_law_second", "_law_expected"] (spEql11 C))
    (k_Base : CalC P w K mg base C j "Base" ["self", "items"] (spInitOk C)) (hj : j + 1 ≤ k)
    (Sr : Spec1 K C "__repr__" fr fdr ["self"]) (Gr : FnG P w K mg base CX0 n fr fdr ["self"] (spReprB C)) (hn : n + 1 ≤ k) :
    FnG P w K mg base CX0 (k + 1) f fd ["_law_rng_here", "_law_base", "_law_items"] (spEqr11 C) := by
  refine okG F sc_Lequality_right (fun vs H Q E h => ?_) (fun cv A outer s H vs Q E hr gd h => ?_)
  · obtain ⟨p, b, it, ls, rfl, _⟩ := h
    rfl
  obtain ⟨p, b, it, ls, rfl, rg, hb, go, hi, nip, q⟩ := h
  have nd := sc_Lequality_right.nd
  have hr1 := hr.mono hj
  have hrr := hr.mono hn
  refine ⟨_, pss_cons (ps_set (i := 3) nd rfl (.inl rfl) (pe_lst (pa_cons (pe_op op_cat
      (pe_slice sl_list (pv 2) (po_some pe_int) po_none) (pe_slice sl_list (pv
      2) po_none (po_some pe_int))) (pa_cons (pe_op op_cat (pe_slice sl_list (pv
      2) po_none (po_some (pe_un un_neg pe_int))) (pe_lst (pa_cons (pe_cal
      Cn hr (pa_cons (pv 0) (pa_cons (pv 2) pa_nil))) pa_nil))) (pa_cons
      (pe_op op_cat (pv 2) (pe_lst (pa_cons (pe_cal Cn hr (pa_cons (pv 0)
      (pa_cons (pv 2) pa_nil))) pa_nil))) (pa_cons (pe_slice sl_list (pv 2)
      po_none (po_some (pe_un un_neg pe_int))) pa_nil)))))) (pss_cons (ps_for
      PassesOwn.never rfl (pi_list (pv 3)) (pg_name (i := 4) nd rfl (.inl rfl))
      (pss_one (ps_if (PW.pt (pw_and (pt_chain op_lt op_lt pe_int (pe_callB
      call_len_seq (by rfl) B.len PySem.boot_len (pa_cons (pv 4) pa_nil))
      pe_int) (pw_and1 (pt_not (pt_val (pe_calG Ce hr gd (pa_cons (pv 1)
      (pa_cons (pe_calC k_Base hr1 (pa_cons (pv 4) pa_nil)) (pa_cons (pe_cmpR
      (op_eqD hr.units) (pv 4) (pv 2) (nomark _)) pa_nil))))))))) (pss_one
      ps_never) pss_nil))) (pss_cons (ps_set (i := 5) nd rfl (.inl rfl) (pe_lst
      (pa_cons pe_non (pa_cons pe_int (pa_cons (pv 2) (pa_cons (pe_tupleOf
      (by rfl) bT (pv 2)) (pa_cons (pe_join pe_str (pv 2)) (pa_cons (pe_callB
      (call_reprOwn Sr Gr hrr gd) (by rfl) B.repr bt_repr (pa_cons (pv 1) pa_nil))
      (pa_cons pe_dnewK (pa_cons (pe_callB call_len_seq (by rfl) B.len
      PySem.boot_len (pa_cons (pv 2) pa_nil)) pa_nil)))))))))) (pss_one (ps_ret
      (pe_and (pe_calG Ce hr gd (pa_cons (pv 1) (pa_cons (pe_calC k_Base hr1
      (pa_cons (pe_callTy call_list_of (by rfl) B.list bt_list (pa_cons (pv 2)
      pa_nil)) pa_nil)) (pa_cons pe_bl pa_nil)))) (pe_one (pe_calG Ce hr gd
      (pa_cons (pv 1) (pa_cons (pe_cal Cc hr (pa_cons (pv 0) (pa_cons (pv
      5) pa_nil))) (pa_cons pe_bl pa_nil)))))))))), ?_⟩
  have lo := go.lo
  have hi40 := go.hi
  have c1 : cutV (ls.map vS) (some 1) none = (ls.drop 1).map vS := by
    rw [show (1 : Int) = ((1 : Nat) : Int) from rfl, cut_from _ (by rw [List.length_map]; exact lo), List.map_drop]
  have c2 : cutV (ls.map vS) none (some 1) = (ls.take 1).map vS := by
    rw [show (1 : Int) = ((1 : Nat) : Int) from rfl, cut_to _ (by rw [List.length_map]; exact lo), List.map_take]
  have c3 : cutV (ls.map vS) none (some (-1)) = ls.dropLast.map vS := by
    rw [cut_m11 (by rw [List.length_map]; exact lo), List.map_dropLast]
  have sz2 : ∀ n : Nat, n ≤ 100 → n ≤ sizeLine := fun n h => Nat.le_trans h (by decide)
  refine ⟨_, rfl, 1, rfl, it, _, rfl, SqL.of hi, fun x1 nx1 => ?_⟩
  rw [c1]
  have z1 := sameNew (o := .lst ((ls.drop 1).map vS)) nx1
  have h1 : (upd H x1 (.lst ((ls.drop 1).map vS))) x1 = some (.lst ((ls.drop 1).map vS)) := upd_same
  generalize upd H x1 (.lst ((ls.drop 1).map vS)) = H1 at z1 h1 ⊢
  refine ⟨_, rfl, 1, rfl, it, _, rfl, SqL.of (z1 _ _ hi), fun x2 nx2 => ?_⟩
  rw [c2]
  have z2 := sameNew (o := .lst ((ls.take 1).map vS)) nx2
  have h2 : (upd H1 x2 (.lst ((ls.take 1).map vS))) x2 = some (.lst ((ls.take 1).map vS)) := upd_same
  generalize upd H1 x2 (.lst ((ls.take 1).map vS)) = H2 at z2 h2 ⊢
  refine ⟨x1, x2, _, _, rfl, rfl, z2 _ _ h1, h2, sz2 _ (by rw [List.length_map, List.length_map, List.length_drop, List.length_take]; omega), fun x3 nx3 => ?_⟩
  rw [← List.map_append]
  have z3 := sameNew (o := .lst ((ls.drop 1 ++ ls.take 1).map vS)) nx3
  have h3 : (upd H2 x3 (.lst ((ls.drop 1 ++ ls.take 1).map vS))) x3 = some (.lst ((ls.drop 1 ++ ls.take 1).map vS)) := upd_same
  generalize upd H2 x3 (.lst ((ls.drop 1 ++ ls.take 1).map vS)) = H3 at z3 h3 ⊢
  have s3 : Same H H3 := z1.trans (z2.trans z3)
  refine ⟨_, rfl, 1, rfl, _, rfl, it, _, rfl, SqL.of (s3 _ _ hi), fun x4 nx4 => ?_⟩
  rw [c3]
  have z4 := sameNew (o := .lst (ls.dropLast.map vS)) nx4
  have h4 : (upd H3 x4 (.lst (ls.dropLast.map vS))) x4 = some (.lst (ls.dropLast.map vS)) := upd_same
  generalize upd H3 x4 (.lst (ls.dropLast.map vS)) = H4 at z4 h4 ⊢
  have rg4 := rg.same (s3.trans z4)
  have hi4 := z4 _ _ (s3 _ _ hi)
  have h34 := z4 _ _ h3
  have n3p : x3 ≠ p := ((rg.same (z1.trans z2)).ne nx3).symm
  have n4p : x4 ≠ p := ((rg.same s3).ne nx4).symm
  refine ⟨_, rfl, _, rfl, p, it, ls, rfl, rg4, SqL.of hi4, nip, by omega, fun m1 H5 nm1 in1 rg5 b5 => ⟨by show 1 ≤ sizeLine; decide, fun x5 nx5 => ?_⟩⟩
  have z6 := sameNew (o := .lst [vS m1]) nx5
  have h6 : (upd H5 x5 (.lst [vS m1])) x5 = some (.lst [vS m1]) := upd_same
  generalize upd H5 x5 (.lst [vS m1]) = H6 at z6 h6 ⊢
  refine ⟨x4, x5, _, _, rfl, rfl, z6 _ _ (b5 _ _ h4 n4p), h6, sz2 _ (by rw [List.length_map, List.length_dropLast]; show ls.length - 1 + 1 ≤ 100; omega), fun x6 nx6 => ?_⟩
  rw [show ls.dropLast.map vS ++ [vS m1] = (ls.dropLast ++ [m1]).map vS by rw [List.map_append]; rfl]
  have z7 := sameNew (o := .lst ((ls.dropLast ++ [m1]).map vS)) nx6
  have h7 : (upd H6 x6 (.lst ((ls.dropLast ++ [m1]).map vS))) x6 = some (.lst ((ls.dropLast ++ [m1]).map vS)) := upd_same
  generalize upd H6 x6 (.lst ((ls.dropLast ++ [m1]).map vS)) = H7 at z7 h7 ⊢
  have b7 : But p H4 H7 := b5.trans (But.of (z6.trans z7))
  have rg7 := rg5.same (z6.trans z7)
  have n6p : x6 ≠ p := ((rg5.same z6).ne nx6).symm
  have hi7 := b7 _ _ hi4 nip
  have h37 := b7 _ _ h34 n3p
  refine ⟨_, rfl, _, rfl, _, rfl, p, it, ls, rfl, rg7, SqL.of hi7, nip, by omega, fun m2 H8 nm2 in2 rg8 b8 => ⟨by show 1 ≤ sizeLine; decide, fun x7 nx7 => ?_⟩⟩
  have z9 := sameNew (o := .lst [vS m2]) nx7
  have h9 : (upd H8 x7 (.lst [vS m2])) x7 = some (.lst [vS m2]) := upd_same
  generalize upd H8 x7 (.lst [vS m2]) = H9 at z9 h9 ⊢
  have hi9 := z9 _ _ (b8 _ _ hi7 nip)
  refine ⟨it, x7, _, _, rfl, rfl, hi9, h9, sz2 _ (by rw [List.length_map]; show ls.length + 1 ≤ 100; omega), fun x8 nx8 => ?_⟩
  rw [show ls.map vS ++ [vS m2] = (ls ++ [m2]).map vS by rw [List.map_append]; rfl]
  have zA := sameNew (o := .lst ((ls ++ [m2]).map vS)) nx8
  have hA : (upd H9 x8 (.lst ((ls ++ [m2]).map vS))) x8 = some (.lst ((ls ++ [m2]).map vS)) := upd_same
  generalize upd H9 x8 (.lst ((ls ++ [m2]).map vS)) = HA at zA hA ⊢
  refine ⟨_, rfl, 1, rfl, _, rfl, it, _, rfl, SqL.of (zA _ _ hi9), fun x9 nx9 => ?_⟩
  rw [c3]
  have zB := sameNew (o := .lst (ls.dropLast.map vS)) nx9
  have hB : (upd HA x9 (.lst (ls.dropLast.map vS))) x9 = some (.lst (ls.dropLast.map vS)) := upd_same
  generalize upd HA x9 (.lst (ls.dropLast.map vS)) = HB at zB hB ⊢
  refine ⟨by show 4 ≤ sizeLine; decide, fun xo nxo => ?_⟩
  have zC := sameNew (o := .lst [.ref x3, .ref x6, .ref x8, .ref x9]) nxo
  have hC : (upd HB xo (.lst [.ref x3, .ref x6, .ref x8, .ref x9])) xo = some (.lst [.ref x3, .ref x6, .ref x8, .ref x9]) := upd_same
  generalize upd HB xo (.lst [.ref x3, .ref x6, .ref x8, .ref x9]) = HC at zC hC ⊢
  have t9 : Same H8 HC := z9.trans (zA.trans (zB.trans zC))
  have b0C : But p H HC := (But.of (s3.trans z4)).trans (b7.trans (b8.trans (But.of t9)))
  have rgC := rg8.same t9
  have oth : ∀ a ∈ [V.ref x3, .ref x6, .ref x8, .ref x9], ∃ (x : Addr) (os : List (List Nat)), a = .ref x ∧ HC x = some (.lst (os.map vS)) ∧ (0 < os.length → os.length < 41 → Good os) := by
    intro a m
    simp only [List.mem_cons, List.not_mem_nil, or_false] at m
    rcases m with rfl | rfl | rfl | rfl
    · refine ⟨x3, _, rfl, t9 _ _ (b8 _ _ h37 n3p), fun _ _ => go.perm ?_⟩
      exact List.perm_append_comm.trans (List.Perm.of_eq (List.take_append_drop 1 ls))
    · refine ⟨x6, _, rfl, t9 _ _ (b8 _ _ h7 n6p), fun _ _ => ⟨fun l hl => ?_, ?_, by rw [List.length_append]; show 1 ≤ _ + 1; omega, by rw [List.length_append, List.length_dropLast]; show ls.length - 1 + 1 ≤ 40; omega⟩⟩
      · rcases List.mem_append.mp hl with z | z
        · exact go.nm l (List.dropLast_subset _ z)
        · rw [List.mem_singleton.mp z]
          exact nm1
      · refine List.nodup_append.mpr ⟨go.nd.sublist (List.dropLast_sublist _), by simp, fun u hu v hv e => ?_⟩
        rw [List.mem_singleton.mp hv] at e
        rw [e] at hu
        exact in1 (List.dropLast_subset _ hu)
    · refine ⟨x8, _, rfl, zC _ _ (zB _ _ hA), fun _ lt => ⟨fun l hl => ?_, ?_, by rw [List.length_append]; show 1 ≤ _ + 1; omega, by omega⟩⟩
      · rcases List.mem_append.mp hl with z | z
        · exact go.nm l z
        · rw [List.mem_singleton.mp z]
          exact nm2
      · refine List.nodup_append.mpr ⟨go.nd, by simp, fun u hu v hv e => ?_⟩
        rw [List.mem_singleton.mp hv] at e
        rw [e] at hu
        exact in2 hu
    · refine ⟨x9, _, rfl, zC _ _ hB, fun lt _ => ⟨fun l hl => go.nm l (List.dropLast_subset _ hl), go.nd.sublist (List.dropLast_sublist _), lt, by rw [List.length_dropLast]; omega⟩⟩
  have hbC := hb.but rg b0C
  have hiC := b0C _ _ hi nip
  clear z1 z2 z3 z4 z6 z7 z9 zA zB zC h1 h2 h3 h4 h6 h7 h9 hA hB b5 b7 b8 rg4 rg5 rg7 rg8 hi4 hi7 hi9 h34 h37 t9 nx1 nx2 nx3 nx4 nx5 nx6 nx7 nx8 nx9
  refine ⟨_, rfl, xo, rfl, ⟨_, SqL.of hC⟩, ?_⟩
  refine for_list (K := K) (a := xo) (xs := [V.ref x3, .ref x6, .ref x8, .ref x9]) (fun i σ H' => ∃ y : Option V, σ = [some (.ref p), some (.ref b), some (.ref it), some (.ref xo), y, none] ∧ Same HC H')
    ⟨none, rfl, Same.refl HC⟩ (fun i σ H' _ z => by
      obtain ⟨_, _, sm⟩ := z
      exact SqL.of (sm _ _ hC)) ?_ ?_
  · rintro i v σ H1 hv ⟨y, rfl, sm⟩
    obtain ⟨a, os, rfl, ha, ok⟩ := oth v (List.mem_of_getElem? hv)
    have ha1 := sm _ _ ha
    refine ⟨_, rfl, a, _, rfl, .inl (SqL.of ha1), 0, _, rfl, rfl, _, rfl, ?_⟩
    rw [List.length_map]
    refine ite2 (fun c0 => ?_) (fun c0 => ⟨_, rfl, iteF (iteF ⟨_, rfl, sm⟩)⟩)
    refine ⟨_, _, rfl, rfl, _, rfl, ite2 (fun c1 => ?_) (fun c1 => iteF ⟨_, rfl, sm⟩)⟩
    have c0 := of_decide_eq_true c0
    have c1 := of_decide_eq_true c1
    have g := ok (by omega) (by omega)
    refine ⟨_, rfl, _, rfl, fun x2 dx2 nx2 nd2 ne2 => ?_⟩
    have nax : a ≠ x2 := ne_of_none ha1 nx2
    have nad : a ≠ dx2 := ne_of_none ha1 nd2
    refine ⟨x2, a, dx2, os, rfl, upd_same, by rw [upd_ne nax, upd_ne nad]; exact ha1, g, fun H3 hB b3 => ⟨rfl, ?_⟩⟩
    have s3 : Same H1 H3 := fun u o e => by
      have n1 := ne_of_none e nx2
      refine b3 u o ?_ n1
      rw [upd_ne n1, upd_ne (ne_of_none e nd2)]
      exact e
    have sm3 := sm.trans s3
    refine ⟨_, rfl, _, rfl, _, _, dp_N (SqL.of (s3 _ _ ha1)), dp_N (SqL.of (sm3 _ _ hiC)), shaped_L g.uni, shaped_L go.uni, ?_⟩
    rw [eqv_L]
    refine ⟨b, ls, .ref x2, decide (os = ls), rfl, hbC.same sm3, go, .inl ⟨x2, os, rfl, hB, g, decide_eq_decide.mpr ⟨Eq.symm, Eq.symm⟩⟩, fun H4 s4 => ?_⟩
    exact ⟨_, rfl, iteF ⟨_, rfl, sm3.trans s4⟩⟩
  · rintro σ H1 ⟨y, rfl, sm⟩
    have hb1 := hbC.same sm
    have hi1 := sm _ _ hiC
    have rg1 := rgC.same sm
    clear hC oth nxo
    obtain ⟨dx, lo', dd, g1, g2, g3⟩ := hb1.ob
    have join : ((ls.map SX.S).map (·.length)).sum + (ls.map SX.S).length * (Str.ofString " ").length ≤ 16777216 := by
      have one : (Str.ofString " ").length = 1 := by decide +kernel
      have sum : ∀ r : List (List Nat), (∀ l ∈ r, Nm l) → ((r.map SX.S).map (·.length)).sum ≤ 8 * r.length := fun r h => by
        induction r with
        | nil => exact Nat.zero_le _
        | cons l r ih =>
          have a := ih fun l m => h l (List.mem_cons_of_mem _ m)
          have c := (h l List.mem_cons_self).hi
          rw [List.map_cons, List.map_cons, List.sum_cons, SX.S_len, List.length_cons]
          omega
      have := sum ls go.nm
      rw [List.length_map, one]
      omega
    have vls : ls.map vS = (ls.map SX.S).map V.str := by
      rw [List.map_map]
      rfl
    refine ⟨_, rfl, _, rfl, .inl ⟨it, _, rfl, SqL.of hi1, fun x1 nx1 => ?_⟩⟩
    have z1 := sameNew (o := .tup (ls.map vS)) nx1
    have h1 : (upd H1 x1 (.tup (ls.map vS))) x1 = some (.tup (ls.map vS)) := upd_same
    generalize upd H1 x1 (.tup (ls.map vS)) = H2 at z1 h1 ⊢
    refine ⟨⟨_, rfl⟩, _, rfl, _, it, ls.map SX.S, rfl, rfl, .inl (SqL.of (by rw [← vls]; exact z1 _ _ hi1)), join, ?_⟩
    refine ⟨_, rfl, b, dx, _, rfl, z1 _ _ g1, b, ls, rfl, hb1.same z1, go, _, rfl, ?_⟩
    intro x2 nx2
    have z2 := sameNew (o := .dK []) nx2
    have h2 : (upd H2 x2 (.dK [])) x2 = some (.dK []) := upd_same
    generalize upd H2 x2 (.dK []) = H3 at z2 h2 ⊢
    refine ⟨_, rfl, it, _, rfl, .inl (SqL.of (z2 _ _ (z1 _ _ hi1))), by show 8 ≤ sizeLine; decide, fun xv nxv => ?_⟩
    rw [List.length_map]
    have s3 : Same H1 H3 := z1.trans z2
    have h13 := z2 _ _ h1
    have z4 := sameNew (o := .lst [V.non, V.int 0, V.ref it, V.ref x1, V.str (Txt.join (Str.ofString " ") (List.map SX.S ls)), V.str (baseText ls), V.ref x2, V.int (ls.length : Nat)]) nxv
    have h4 : (upd H3 xv (.lst [V.non, V.int 0, V.ref it, V.ref x1, V.str (Txt.join (Str.ofString " ") (List.map SX.S ls)), V.str (baseText ls), V.ref x2, V.int (ls.length : Nat)])) xv = some (.lst [V.non, V.int 0, V.ref it, V.ref x1, V.str (Txt.join (Str.ofString " ") (List.map SX.S ls)), V.str (baseText ls), V.ref x2, V.int (ls.length : Nat)]) := upd_same
    generalize upd H3 xv (.lst [V.non, V.int 0, V.ref it, V.ref x1, V.str (Txt.join (Str.ofString " ") (List.map SX.S ls)), V.str (baseText ls), V.ref x2, V.int (ls.length : Nat)]) = H4 at z4 h4 ⊢
    have s4 : Same H1 H4 := s3.trans z4
    have nvp : xv ≠ p := ((rg1.same s3).ne nxv).symm
    refine ⟨_, rfl, _, rfl, it, _, rfl, .inl (SqL.of (s4 _ _ hi1)), fun xl nxl b2 dx2 nb2 nd2 ne2 => ?_⟩
    have e5 : Same H4 (upd H4 xl (.lst (ls.map vS))) := sameNew nxl
    have nlb : xl ≠ b2 := fun z => by rw [← z, upd_same] at nb2; cases nb2
    have nld : xl ≠ dx2 := fun z => by rw [← z, upd_same] at nd2; cases nd2
    refine ⟨b2, xl, dx2, ls, rfl, upd_same, by rw [upd_ne nlb, upd_ne nld, upd_same], go, fun H6 hB b6 => ⟨rfl, ?_⟩⟩
    have s6 : Same H4 H6 := fun u o e => by
      have nu := ne_of_none (e5 _ _ e) nb2
      refine b6 u o ?_ nu
      rw [upd_ne nu, upd_ne (ne_of_none (e5 _ _ e) nd2)]
      exact e5 _ _ e
    have s16 := s4.trans s6
    refine ⟨b, ls, .ref b2, true, rfl, hb1.same s16, go, .inl ⟨b2, ls, rfl, hB, go, (decide_eq_true rfl).symm⟩, fun H7 s7 => ⟨_, rfl, iteT ?_⟩⟩
    have s17 := s16.trans s7
    have s47 := s6.trans s7
    have rg7 := rg1.same s17
    refine ⟨_, rfl, _, rfl, _, rfl, p, xv, _, rfl, rg7, SqL.of (s47 _ _ h4), nvp, by show 0 < 8; decide, by show 8 ≤ 1000; decide, fun v H8 hv rg8 b8 => ?_⟩
    have b18 : But p H1 H8 := (But.of s17).trans b8
    have bit : H8 it = some (.lst (ls.map vS)) := b18 _ _ hi1 nip
    have n1p : x1 ≠ p := (rg1.ne nx1).symm
    have n2p : x2 ≠ p := ((rg1.same z1).ne nx2).symm
    have bx1 : H8 x1 = some (.tup (ls.map vS)) := b8 _ _ ((z4.trans s47) _ _ h13) n1p
    have bx2 : H8 x2 = some (.dK []) := b8 _ _ ((z4.trans s47) _ _ h2) n2p
    refine ⟨b, ls, v, false, rfl, hb1.but rg1 b18, go, .inr ?_, fun H9 s9 => q _ (b0C.trans ((But.of sm).trans (b18.trans (But.of s9)))) (rg8.same s9)⟩
    simp only [List.mem_cons, List.not_mem_nil, or_false] at hv
    rcases hv with rfl | rfl | rfl | rfl | rfl | rfl | rfl | rfl
    · exact ⟨_, .non, nofun, rfl⟩
    · exact ⟨_, .int _, nofun, rfl⟩
    · exact ⟨_, .lst bit, nofun, rfl⟩
    · exact ⟨_, .tup bx1, nofun, rfl⟩
    · exact ⟨_, .str _, nofun, rfl⟩
    · exact ⟨_, .str _, nofun, rfl⟩
    · exact ⟨_, .dK bx2, nofun, rfl⟩
    · exact ⟨_, .int _, nofun, rfl⟩
end
end OM
namespace OM
open PySem PySem.Spec PyProof.Rows L2
/-! ### a new base: its parts are new -/
def spInitF (C : Addr) : Sp := fun vs H Q _ =>
  ∃ (b a dx : Addr) (ls : List (List Nat)), vs = [.ref b, .ref a] ∧
  H b = some (.ins C dx []) ∧ H a = some (.lst (ls.map vS)) ∧ Good ls ∧
  ∀ H', (∃ dx lo d, H' b = some (.ins C dx (bf lo d)) ∧
    H' lo = some (.lst (ls.map vS)) ∧ H' d = some (.dK (prs 0 ls)) ∧
    H lo = none ∧ H d = none) → But b H H' → Q .non H'
section
variable {P : Program} {w : World} {K : PySem.W.Frag}
  {mg : Str → Option Value} {base : Heap} {C L : Addr}
theorem ok_initF {f : Addr} {fd : FuncData} {k : Nat}
    (F : Fun K "__init__" "Base.__init__" s_Base_init f fd) (B : Bl mg)
    (T : BC K mg C)
    (Ck : Cal P w K mg base k "check_items" ["items"] spCheckOk) :
    FnOk P w K mg base CX0 (k + 1) f fd ["self", "items"] (spInitF C) := by
  refine F.ok sc_Base_init (fun vs H Q E h => ?_)
    (fun cv A outer s H vs Q E hr h => ?_)
  · obtain ⟨b, a, dx, ls, rfl, _⟩ := h
    rfl
  obtain ⟨b, a, dx, ls, rfl, hb, ha, gd, q⟩ := h
  have nd := sc_Base_init.nd
  refine ⟨_, pss_cons (ps_expr (pe_cal Ck hr (pa_cons (pv 1) pa_nil)))
    (pss_cons (ps_fld (pv 0) (pe_callTy call_list_of (by rfl) B.list bt_list
      (pa_cons (pv 1) pa_nil)) rfl)
    (pss_one (ps_fld (pv 0)
      (pe_dc (own := [("name", 2), ("at", 3)])
        (g := gTup K 2 (gCons (gName 3) (gCons (gName 2) gNil)))
        (tt := tYes) rfl nd
        (pi_enum (by rfl) B.enum (pa_cons (pv 1) pa_nil))
        (blkOk_by (N := N_Base_init) (sc := defScope s_Base_init)
          (by decide +kernel))
        (fun _ _ _ _ _ => pg_tup rfl (pgs_cons (pg_name (i := 3) nd rfl
          (Or.inl rfl)) (pgs_cons (pg_name (i := 2) nd rfl (Or.inl rfl))
          pgs_nil)))
        (fun _ _ _ _ _ => pts_nil) (fun _ _ _ _ _ => pv 2)
        (fun _ _ _ _ _ => pv 3)) rfl))), ?_⟩
  refine ⟨_, rfl, a, ls, rfl, ha, gd, fun H1 s1 => ?_⟩
  have nba : b ≠ a := ne_of hb ha nofun
  have hb1 := s1 _ _ hb
  have ha1 := s1 _ _ ha
  refine ⟨_, rfl, a, _, rfl, .inl (SqL.of ha1), fun lo nlo => ?_⟩
  have nbl : b ≠ lo := ne_of_none hb1 nlo
  have nal : a ≠ lo := ne_of_none ha1 nlo
  refine ⟨_, rfl, b, C, dx, [], rfl, by rw [upd_ne nbl]; exact hb1, T.cl, T.nL,
    by decide, ?_⟩
  generalize eH2 : upd (upd H1 lo (.lst (ls.map vS))) b
    (.ins C dx (putF "listed" (.ref lo) [])) = H2
  have hb2 : H2 b = some (.ins C dx (putF "listed" (.ref lo) [])) := by
    rw [← eH2]; exact upd_same
  have ha2 : H2 a = some (.lst (ls.map vS)) := by
    rw [← eH2, upd_ne nba.symm, upd_ne nal]; exact ha1
  have hl2 : H2 lo = some (.lst (ls.map vS)) := by
    rw [← eH2, upd_ne nbl.symm, upd_same]
  have b2 : But b H H2 := by
    rw [← eH2]
    exact ((But.of s1).new (s1.free nlo)).at
  refine ⟨_, rfl, a, _, rfl, SqL.of ha2, fun d nd' => ?_⟩
  have ndb : b ≠ d := ne_of_none hb2 nd'
  have nda : a ≠ d := ne_of_none ha2 nd'
  have ndl : lo ≠ d := ne_of_none hl2 nd'
  refine dc_walk (walk_enum (K := K) (a := a) (xs := ls.map vS))
    (fun i H' => H' d = some (.dK (prs 0 (ls.take i))) ∧
      H' b = some (.ins C dx (putF "listed" (.ref lo) [])) ∧
      H' a = some (.lst (ls.map vS)) ∧ H' lo = some (.lst (ls.map vS)) ∧
      But b H H')
    ⟨upd_same, by rw [upd_ne ndb]; exact hb2, by rw [upd_ne nda]; exact ha2,
      by rw [upd_ne ndl]; exact hl2, b2.put nd' ndb.symm⟩
    (fun i H' _ z => SqL.of z.2.2.1) ?_ ?_
  · rintro i v H3 H4 hi ⟨hd, h1, h2, h3, b3⟩ ⟨T', x1, x2, rfl, nT, rfl, e1, e2⟩
    obtain ⟨l, hl, rfl⟩ := get_map e2
    cases Option.some.inj e1
    rw [List.length_map] at hi
    have hhi := gd.hi
    refine ⟨T', _, rfl, .inl (.inl upd_same), rfl, _, _, rfl, _, _, rfl, rfl,
      rfl, yes ⟨_, rfl, _, rfl, prs 0 (ls.take i), Sum.inr (SX.S l), rfl, ?_, ?_,
      ?_, ?_, ?_, ?_, ?_⟩⟩
    · rw [upd_ne (ne_of_none hd nT)]
      exact hd
    · rw [prs_len, List.length_take]
      exact sz' (by omega)
    · rw [upd_same, putK_new _ (by
        rw [val_prs, if_neg (nodup_take gd.nd hl)]),
        List.take_add_one, hl]
      show _ = some (HO.dK (prs 0 (ls.take i ++ [l])))
      rw [prs_snoc, List.length_take, Nat.min_eq_left (by omega),
        Nat.zero_add]
    · rw [upd_ne ndb, upd_ne (ne_of_none h1 nT)]
      exact h1
    · rw [upd_ne nda, upd_ne (ne_of_none h2 nT)]
      exact h2
    · rw [upd_ne ndl, upd_ne (ne_of_none h3 nT)]
      exact h3
    · exact (b3.put nT (ne_of_none h1 nT).symm).new (b2.free ndb.symm nd')
  · rintro H3 ⟨hd, h1, h2, h3, b3⟩
    rw [List.take_of_length_le (by rw [List.length_map]; exact Nat.le_refl _)]
      at hd
    refine ⟨_, rfl, b, C, dx, _, rfl, h1, T.cl, T.nP,
      by show 1 < 1000; decide, ?_⟩
    refine q _ ⟨dx, lo, d, upd_same, ?_, ?_, s1.free nlo, b2.free ndb.symm nd'⟩
      b3.at
    · rw [upd_ne nbl.symm]
      exact h3
    · rw [upd_ne ndb.symm]
      exact hd
end
end OM
namespace OM
open PySem PySem.Spec PyProof.Rows L2
theorem BaseAt.xb {C b p : Addr} {H H' : Hp} {ls : List (List Nat)} (x : BaseAt C H b ls) (r : Rng H p) (s : XB p H H') : BaseAt C H' b ls := by
  obtain ⟨dx, lo, d, h1, h2, h3⟩ := x.ob
  have n2 := neRng r h2
  obtain ⟨i, j, e, _⟩ := r
  exact ⟨dx, lo, d, s _ _ h1 nofun (ne_of h1 e nofun), s _ _ h2 nofun n2, s _ _ h3 nofun (ne_of h3 e nofun)⟩
def spChk11 (T : List (Addr × Str)) : Sp := fun vs H Q _ => ∃ (p it : Addr) (ls : List (List Nat)),
  vs = [.ref p, .ref it] ∧ Rng H p ∧ Good ls ∧ H it = some (.lst (ls.map vS)) ∧ it ≠ p ∧ LamX.Tabs T H ∧
  ∀ H', XB p H H' → Rng H' p → LamX.Tabs T H' → Q (.bl true) H'
section
variable {P : Program} {w : World} {K : PySem.W.Frag} {mg : Str → Option Value} {base : Heap} {C CU : Addr}
theorem ok_chk11 {f : Addr} {fd : FuncData} {k j : Nat} {T : List (Addr × Str)} (F : Fun K "_law_check" "_law_check" s_Lcheck f fd) (B : Bl mg)
    (Cc : Cal P w K mg base k "_law_choice" ["_law_rng_here", "_law_options"] (spChoice K))
    (k_Base : CalC P w K mg base C j "Base" ["self", "items"] (spInitF C)) (hj : j + 1 ≤ k)
    (Mn : CalM P w K mg base C k "names" ["self"] (spGetNames C))
    (Mq : CalM P w K mg base C k "precedes" ["self", "first", "second"] (spPrec C))
    (Ct : CalG P w K mg base k "_law_told_right" ["_law_base", "_law_items"] (spTold11 C))
    (Ce : CalG P w K mg base k "_law_errors_right" ["_law_rng_here", "_law_base", "_law_items"] (spErrs11 K C T))
    (Cq : CalG P w K mg base k "_law_equality_right" ["_law_rng_here", "_law_base", "_law_items"] (spEqr11 C)) :
    FnG P w K mg base CX0 (k + 1) f fd ["_law_rng_here", "_law_items"] (spChk11 T) := by
  refine okG F sc_Lcheck (fun vs H Q E h => ?_) (fun cv A outer s H vs Q E hr gd h => ?_)
  · obtain ⟨p, it, ls, rfl, _⟩ := h
    rfl
  obtain ⟨p, it, ls, rfl, rg, go, hi, nip, tb, q⟩ := h
  have nd := sc_Lcheck.nd
  have hr1 := hr.mono hj
  refine ⟨_, pss_cons (ps_set (i := 2) nd rfl (.inl rfl) (pe_callTy call_list_of
      (by rfl) B.list bt_list (pa_cons (pv 1) pa_nil))) (pss_cons (ps_set (i :=
      3) nd rfl (.inl rfl) (pe_calC k_Base hr1 (pa_cons (pv 2) pa_nil)))
      (pss_cons (ps_expr (pe_bm0 PySem.F.plainAttrs_list
      PySem.F.slot_list_reverse PySem.F.type_list_reverse mt_reverse (pv 2)))
      (pss_cons (ps_expr (pe_bm PySem.F.plainAttrs_list PySem.F.slot_list_append
      PySem.F.type_list_append mt_append (pv 2) (pa_cons pe_str pa_nil)))
      (pss_cons (ps_if (pt_not (pt_val (pe_calG Ct hr gd (pa_cons (pv 3)
      (pa_cons (pv 1) pa_nil))))) (pss_one ps_never) pss_nil) (pss_cons (ps_for
      PassesOwn.never rfl (pi_range1 (by rfl) B.range (pa_cons pe_int pa_nil))
      (pg_name (i := 4) nd rfl (.inl rfl)) (pss_cons (ps_par (i := 5) (j := 6)
      (by rfl) nd rfl rfl (by decide) rfl rfl (pa_cons (pe_cal Cc hr
      (pa_cons (pv 0) (pa_cons (pv 1) pa_nil))) (pa_cons (pe_cal Cc hr
      (pa_cons (pv 0) (pa_cons (pv 1) pa_nil))) pa_nil)) (by rfl)) (pss_cons
      (ps_if (pt_cmpR op_ne (pe_callB (call_reprD hr gd) (by rfl) B.repr bt_repr
      (pa_cons (pe_calM Mq hr (pv 3) (pa_cons (pv 5) (pa_cons (pv 6)
      pa_nil))) pa_nil)) (pe_callB (call_reprD hr gd) (by rfl) B.repr bt_repr
      (pa_cons (pe_cmpR op_lt (pe_bm PySem.F.plainAttrs_list
      PySem.F.slot_list_index PySem.F.type_list_index mt_index (pv 1) (pa_cons
      (pv 5) pa_nil)) (pe_bm PySem.F.plainAttrs_list PySem.F.slot_list_index
      PySem.F.type_list_index mt_index (pv 1) (pa_cons (pv 6) pa_nil)) (nomark
      _)) pa_nil)) (nomark _)) (pss_one ps_never) pss_nil) (pss_one (ps_if
      (pt_not (pt_val (pe_calG Ce hr gd (pa_cons (pv 0) (pa_cons (pv 3)
      (pa_cons (pv 1) pa_nil)))))) (pss_one ps_never) pss_nil))))) (pss_cons
      (ps_set (i := 7) nd rfl (.inl rfl) (pe_calM0 Mn hr (pv 3))) (pss_cons
      (ps_expr (pe_bm0 PySem.F.plainAttrs_list PySem.F.slot_list_reverse
      PySem.F.type_list_reverse mt_reverse (pv 7))) (pss_cons (ps_expr (pe_bm
      PySem.F.plainAttrs_list PySem.F.slot_list_append PySem.F.type_list_append
      mt_append (pv 7) (pa_cons pe_str pa_nil))) (pss_one (ps_ret (pe_and
      (pe_calG Cq hr gd (pa_cons (pv 0) (pa_cons (pv 3) (pa_cons (pv
      1) pa_nil)))) (pe_one (pe_calG Ct hr gd (pa_cons (pv 3) (pa_cons
      (pv 1) pa_nil))))))))))))))), ?_⟩
  refine ⟨_, rfl, it, _, rfl, .inl (SqL.of hi), fun xg nxg => ?_⟩
  have z1 := sameNew (o := .lst (ls.map vS)) nxg
  have h1 : (upd H xg (.lst (ls.map vS))) xg = some (.lst (ls.map vS)) := upd_same
  generalize upd H xg (.lst (ls.map vS)) = H1 at z1 h1 ⊢
  refine ⟨_, rfl, fun b dx nb ndx ne => ?_⟩
  have n1 : xg ≠ b := ne_of_none h1 nb
  have n2 : xg ≠ dx := ne_of_none h1 ndx
  have hh : (upd (upd H1 dx (.own b)) b (.ins C dx [])) xg = some (.lst (ls.map vS)) := by rw [upd_ne n1, upd_ne n2]; exact h1
  refine ⟨b, xg, dx, ls, rfl, upd_same, hh, go, ?_⟩
  rintro H2 ⟨dx', lo, dd, g1, g2, g3, nlo, ndd⟩ b2
  refine ⟨rfl, ?_⟩
  have nlg : lo ≠ xg := fun z => by rw [z, hh] at nlo; cases nlo
  have ndg : dd ≠ xg := fun z => by rw [z, hh] at ndd; cases ndd
  have s12 : Same H1 H2 := fun u o e => by
    have m1 := ne_of_none e nb
    refine b2 u o ?_ m1
    rw [upd_ne m1, upd_ne (ne_of_none e ndx)]
    exact e
  have h2 := s12 _ _ h1
  refine ⟨_, rfl, .inl ⟨rfl, _, SqL.of h2⟩, xg, _, rfl, rfl, h2, ?_⟩
  have b3 : But xg H2 (upd H2 xg (.lst (ls.map vS).reverse)) := (But.refl H2).at
  have h3 : (upd H2 xg (.lst (ls.map vS).reverse)) xg = some (.lst (ls.map vS).reverse) := upd_same
  generalize upd H2 xg (.lst (ls.map vS).reverse) = H3 at b3 h3 ⊢
  refine ⟨_, rfl, .inl ⟨rfl, _, SqL.of h3⟩, xg, _, _, rfl, rfl, h3, by rw [List.length_reverse, List.length_map]; exact Nat.lt_of_le_of_lt go.hi (by decide), ?_⟩
  have b4 : But xg H2 (upd H3 xg (.lst ((ls.map vS).reverse ++ [.str "Other"]))) := b3.at
  generalize upd H3 xg (.lst ((ls.map vS).reverse ++ [.str "Other"])) = H4 at b4 ⊢
  have s4 : Same H H4 := fun u o e => b4 _ _ (s12 _ _ (z1 _ _ e)) (ne_of_none e nxg)
  have hb4 : BaseAt C H4 b ls := ⟨dx', lo, dd, b4 _ _ g1 n1.symm, b4 _ _ g2 nlg, b4 _ _ g3 ndg⟩
  have rg4 := rg.same s4
  have hi4 := s4 _ _ hi
  have tb4 := tb.ext s4
  clear b2 b3 b4 h3 h2 h1 hh g1 g2 g3 z1 s12
  refine ⟨_, rfl, _, rfl, b, it, ls, rfl, hb4, go, hi4, fun H5 s5 => ⟨_, rfl, iteF ?_⟩⟩
  have hb5 := hb4.same s5
  have rg5 := rg4.same s5
  have hi5 := s5 _ _ hi4
  have tb5 := tb4.ext s5
  have shw : ∀ c : Bool, (PyData.bool c).showable = true ∧ (PyData.bool c).depth ≤ 60 ∧ (PyData.bool c).shown.length ≤ sizeLine := fun c => by
    cases c <;> exact ⟨by decide +kernel, by decide +kernel, by decide +kernel⟩
  refine ⟨6, rfl, by decide, by decide, ?_⟩
  refine for_range (lo := 0) (n := 6) (fun i σ H' => ∃ y4 y5 y6 : Option V, σ = [some (.ref p), some (.ref it), some (.ref xg), some (.ref b), y4, y5, y6, none] ∧ XB p H5 H' ∧ Rng H' p ∧ LamX.Tabs T H')
    ⟨none, none, none, rfl, XB.refl H5, rg5, tb5⟩ ?_ ?_
  · rintro i σ H6 hlt ⟨y4, y5, y6, rfl, x6, rg6, tb6⟩
    have hi6 := x6 _ _ hi5 nofun nip
    have len0 : 0 < (ls.map vS).length := by rw [List.length_map]; exact go.lo
    have len1 : (ls.map vS).length ≤ 1000 := by rw [List.length_map]; have := go.hi; omega
    refine ⟨_, rfl, _, rfl, p, it, _, rfl, rg6, SqL.of hi6, nip, len0, len1, fun v1 H7 m1 rg7 b7 => ?_⟩
    have hi7 := b7 _ _ hi6 nip
    refine ⟨_, rfl, _, rfl, p, it, _, rfl, rg7, SqL.of hi7, nip, len0, len1, fun v2 H8 m2 rg8 b8 => ?_⟩
    obtain ⟨l1, ml1, rfl⟩ := List.mem_map.mp m1
    obtain ⟨l2, ml2, rfl⟩ := List.mem_map.mp m2
    have x8 : XB p H5 H8 := x6.trans (XB.of (b7.trans b8))
    have tb8 := tabs_but (tabs_but tb6 rg6 b7) rg7 b8
    have hb8 := hb5.xb rg5 x8
    have hi8 := x8 _ _ hi5 nofun nip
    obtain ⟨dx, lo, dd, g1, g2, g3⟩ := hb8.ob
    refine ⟨_, _, rfl, ?_⟩
    refine ⟨_, rfl, b, dx, _, rfl, g1, bf_no _ _ (by decide +kernel) (by decide +kernel), _, rfl, _, rfl, b, ls, l1, l2, rfl, hb8, go.nm, ml1, ml2, fun H9 s9 => ?_⟩
    have hL := SqL.of (K := K) (s9 _ _ hi8)
    refine ⟨_, _, rfl, .bl _, (shw _).1, (shw _).2.1, (shw _).2.2, ?_⟩
    refine ⟨_, rfl, .inl ⟨rfl, _, hL⟩, _, rfl, it, _, _, ls.idxOf l1, vS l1, rfl, rfl, hL, rfl, flat_S ls, idx_get ml1, eqV_self l1, idx_first, _, rfl,
      .inl ⟨rfl, _, hL⟩, _, rfl, it, _, _, ls.idxOf l2, vS l2, rfl, rfl, hL, rfl, flat_S ls, idx_get ml2, eqV_self l2, idx_first, _, _, rfl, rfl,
      _, _, rfl, .bl _, (shw _).1, (shw _).2.1, (shw _).2.2, rfl, _, rfl, ?_⟩
    rw [show decide (((ls.idxOf l1 : Nat) : Int) < ((ls.idxOf l2 : Nat) : Int)) = decide (ls.idxOf l1 < ls.idxOf l2) from decide_eq_decide.mpr ⟨fun z => by omega, fun z => by omega⟩, decide_eq_true rfl]
    refine iteF ?_
    have x9 := x8.trans (XB.of (But.of s9))
    have rg9 := rg8.same s9
    refine ⟨_, rfl, _, rfl, _, rfl, p, b, it, ls, rfl, rg9, hb8.same s9, go, s9 _ _ hi8, nip, tb8.ext s9, fun HA xA rgA tbA => ⟨_, rfl, iteF ?_⟩⟩
    exact ⟨_, _, _, rfl, x9.trans xA, rgA, tbA⟩
  · rintro σ H6 ⟨y4, y5, y6, rfl, x6, rg6, tb6⟩
    have hb6 := hb5.xb rg5 x6
    have hi6 := x6 _ _ hi5 nofun nip
    obtain ⟨dx, lo, dd, g1, g2, g3⟩ := hb6.ob
    refine ⟨_, rfl, b, dx, _, rfl, g1, bf_no _ _ (by decide +kernel) (by decide +kernel), b, ls, rfl, hb6, fun x7 H7 nx7 h7 s7 => ?_⟩
    refine ⟨_, rfl, .inl ⟨rfl, _, SqL.of h7⟩, x7, _, rfl, rfl, h7, ?_⟩
    have b8 : But x7 H7 (upd H7 x7 (.lst (ls.map vS).reverse)) := (But.refl H7).at
    have h8 : (upd H7 x7 (.lst (ls.map vS).reverse)) x7 = some (.lst (ls.map vS).reverse) := upd_same
    generalize upd H7 x7 (.lst (ls.map vS).reverse) = H8 at b8 h8 ⊢
    refine ⟨_, rfl, .inl ⟨rfl, _, SqL.of h8⟩, x7, _, _, rfl, rfl, h8, by rw [List.length_reverse, List.length_map]; exact Nat.lt_of_le_of_lt go.hi (by decide), ?_⟩
    have b9 : But x7 H7 (upd H8 x7 (.lst ((ls.map vS).reverse ++ [.str "Other"]))) := b8.at
    generalize upd H8 x7 (.lst ((ls.map vS).reverse ++ [.str "Other"])) = H9 at b9 ⊢
    have s9 : Same H6 H9 := fun u o e => b9 _ _ (s7 _ _ e) (ne_of_none e nx7)
    have rg9 := rg6.same s9
    refine ⟨_, rfl, _, rfl, _, rfl, p, b, it, ls, rfl, rg9, hb6.same s9, go, s9 _ _ hi6, nip, fun HA bA rgA => ⟨_, rfl, iteT ?_⟩⟩
    have hbA := (hb6.same s9).but rg9 bA
    refine ⟨_, rfl, _, rfl, b, it, ls, rfl, hbA, go, bA _ _ (s9 _ _ hi6) nip, fun HB sB => ?_⟩
    refine q HB ?_ (rgA.same sB) (((tabs_but (tb6.ext s9) rg9 bA)).ext sB)
    exact (XB.of (But.of s4)).trans ((XB.of (But.of s5)).trans (x6.trans (XB.of ((But.of s9).trans (bA.trans (But.of sB))))))
end
end OM
namespace OM
open PySem PySem.Spec PyProof.Rows L2
def spLaw11 (K : PySem.W.Frag) (T : List (Addr × Str)) : Sp := fun vs H Q _ =>
  ∃ (a : Addr) (ns : List Int), vs = [.ref a] ∧ SqL K H a (ns.map V.int) ∧
  ns.length ≤ 63 ∧ LamX.Tabs T H ∧ ∀ H', Q (.bl true) H'
theorem SqL.extN11 {K : PySem.W.Frag} {H H' : Hp} {a : Addr} {xs : List V}
    (h : SqL K H a xs) (x : LamX.ExtN H H') : SqL K H' a xs := by
  rcases h with (h | ⟨o, h⟩) | h
  · exact .inl (.inl (x _ _ h nofun))
  · exact .inl (.inr ⟨o, x _ _ h nofun⟩)
  · exact .inr h
theorem at3_11 {a b c : V} {d : Int} (h0 : 0 ≤ d) (h1 : d < 3) :
    ∃ v, atI [a, b, c] d = some v ∧ (v = a ∨ v = b ∨ v = c) := by
  obtain ⟨j, rfl⟩ : ∃ j : Nat, d = j := ⟨d.toNat, by omega⟩
  match j, h1 with
  | 0, _ => exact ⟨a, atI_nat rfl, .inl rfl⟩
  | 1, _ => exact ⟨b, atI_nat rfl, .inr (.inl rfl)⟩
  | 2, _ => exact ⟨c, atI_nat rfl, .inr (.inr rfl)⟩
  | n + 3, h => exact absurd h (by omega)
section
variable {P : Program} {w : World} {K : PySem.W.Frag}
  {mg : Str → Option Value} {base : Heap} {C : Addr}
theorem ok_law11 {f : Addr} {fd : FuncData} {k : Nat} {T : List (Addr × Str)} {t40 : Tok}
    (F : Fun K "law" "law" s_law f fd) (B : Bl mg) (g_MAX_ITEMS : mg "MAX_ITEMS" = some (.int 40 t40))
    (c_Lrng : Cal P w K mg base k "_law_rng" ["_law_script", "_law_k"] (spRng K))
    (c_Ldraw : CalDraw P w K mg base k)
    (c_Lnames : Cal P w K mg base k "_law_names" ["_law_rng_here", "_law_many", "_law_used"] spNames)
    (c_Lcheck : CalG P w K mg base k "_law_check" ["_law_rng_here", "_law_items"] (spChk11 T)) :
    FnG P w K mg base CX0 (k + 1) f fd ["_law_script"] (spLaw11 K T) := by
  refine okG F sc_law (fun vs H Q E h => ?_)
    (fun cv A outer s H vs Q E hr gd h => ?_)
  · obtain ⟨a, ns, rfl, _⟩ := h
    rfl
  obtain ⟨a, ns, rfl, hS, hlen, tb, q⟩ := h
  have nd := sc_law.nd
  refine ⟨_, (C8.pss_cut (ps_if (pt_cmpR op_ne (pe_glob (v := .int 40) (by rfl)
      g_MAX_ITEMS ⟨_, rfl⟩) pe_int (nomark _)) (pss_one ps_never) pss_nil)
      (C8.pss_cut (ps_for PassesOwn.never rfl (pi_range1 (by rfl) B.range
      (pa_cons (pe_callB (call_max2 rfl) (by rfl) B.max bt_max (pa_cons pe_int
      (pa_cons (pe_callB (call_min2 rfl) (by rfl) B.min bt_min (pa_cons
      (pe_callB call_len_seq (by rfl) B.len PySem.boot_len (pa_cons (pv 0)
      pa_nil)) (pa_cons pe_int pa_nil))) pa_nil))) pa_nil)) (pg_name (i := 1) nd
      rfl (.inl rfl)) (C8.pss_cut (ps_set (i := 2) nd rfl (.inl rfl) (pe_cal
      c_Lrng hr (pa_cons (pv 0) (pa_cons (pv 1) pa_nil)))) (C8.pss_cut (ps_set
      (i := 3) nd rfl (.inl rfl) (pe_ix ix_list (pe_lst (pa_cons (pe_op op_add
      pe_int (pe_cal c_Ldraw hr (pa_cons (pv 2) (pa_cons pe_int pa_nil))))
      (pa_cons (pe_op op_add pe_int (pe_cal c_Ldraw hr (pa_cons (pv 2) (pa_cons
      pe_int pa_nil)))) (pa_cons pe_int pa_nil)))) (pe_cal c_Ldraw hr (pa_cons
      (pv 2) (pa_cons pe_int pa_nil))) (fun _ _ => rfl))) (pss_one (ps_if
      (pt_not (pt_val (pe_calG c_Lcheck hr gd (pa_cons (pv 2) (pa_cons (pe_cal
      c_Lnames hr (pa_cons (pv 2) (pa_cons (pv 3) (pa_cons (pe_lst pa_nil)
      pa_nil)))) pa_nil))))) (pss_one ps_never) pss_nil))))) (pss_one (ps_ret
      pe_bl)))), ?_⟩
  refine ⟨fun σ' H' => σ' = [some (.ref a), none, none, none] ∧ H' = H, ?_, ?_⟩
  · exact ⟨rfl, _, rfl, by rw [show (!decide (V.int 40 = V.int 40)) = false from by simp]; exact ⟨rfl, rfl⟩⟩
  rintro _ H' ⟨rfl, e⟩
  cases e
  refine ⟨fun σ' H' => True, ?_, fun σ' H' _ => q H'⟩
  -- how many cells
  refine ⟨_, rfl, a, _, rfl, .inl hS, _, _, rfl, _, _, rfl, _, rfl, ?_, ?_, ?_⟩
  · rw [List.length_map]
    split <;> split <;> omega
  · rw [List.length_map]
    split <;> split <;> omega
  generalize hn : (Int.toNat _) = n
  have n4 : n ≤ 1000 := by
    rw [← hn, List.length_map]
    split <;> split <;> omega
  clear hn
  refine for_range (lo := 0) (n := n) (fun i σ H' =>
      ∃ x1 x2 x3 : Option V, σ = [some (.ref a), x1, x2, x3] ∧ LamX.ExtN H H' ∧ LamX.Tabs T H')
    ⟨none, none, none, rfl, LamX.ExtN.refl H, tb⟩ ?_
    (fun σ H' _ => trivial)
  rintro i σ H0 hi ⟨x1, x2, x3, rfl, e0, t0⟩
  -- the drawing state
  refine ⟨fun σ' H' => ∃ p, σ' = [some (.ref a), some (.int i), some (.ref p), x3] ∧ H0 p = none ∧ Rng H' p ∧ Same H0 H', ?_, ?_⟩
  · refine ⟨_, rfl, _, rfl, a, ns, i, ?_, OM.SqL.extN11 hS e0, by omega,
      fun p H1 np rg s1 => ⟨p, ?_, np, rg, s1⟩⟩
    · rw [Int.zero_add]
      rfl
    · rw [Int.zero_add]
      rfl
  rintro _ H1 ⟨p, rfl, np, rg1, s1⟩
  have b1 : But p H0 H1 := But.of s1
  -- how many
  refine ⟨fun σ' H' => ∃ m : Nat, σ' = [some (.ref a), some (.int i),
    some (.ref p), some (.int m)] ∧ 1 ≤ m ∧ m ≤ 40 ∧ Rng H' p ∧ But p H0 H', ?_, ?_⟩
  · refine ⟨_, rfl, p, 8, rfl, rg1, by decide, by decide,
      fun d2 H2 d20 d21 rg2 b2 => ⟨_, _, rfl, rfl, _, rfl, p, 40, rfl, rg2,
      by decide, by decide, fun d3 H3 d30 d31 rg3 b3 => ⟨_, _, rfl, rfl, sz (by simp), fun t nt => ⟨_, rfl, p, 3, rfl,
      rg3.same (sameNew nt), by decide, by decide,
      fun d4 H4 d40 d41 rg4 b4 => ?_⟩⟩⟩⟩
    have ntp : t ≠ p := (rg3.ne nt).symm
    obtain ⟨v, hv, hv'⟩ := at3_11 (a := V.int (1 + d2)) (b := V.int (1 + d3))
      (c := V.int 40) d40 d41
    obtain ⟨m, rfl, m0, m1⟩ : ∃ m : Nat, v = .int m ∧ 1 ≤ m ∧ m ≤ 40 := by
      rcases hv' with rfl | rfl | rfl
      · exact ⟨(1 + d2).toNat, by rw [Int.toNat_of_nonneg (by omega)], by omega,
          by omega⟩
      · exact ⟨(1 + d3).toNat, by rw [Int.toNat_of_nonneg (by omega)], by omega,
          by omega⟩
      · exact ⟨40, rfl, by omega, by omega⟩
    exact ⟨t, _, d4, _, rfl, rfl, SqL.of (b4 t _ upd_same ntp), hv, m, rfl, m0,
      m1, rg4, (((b1.trans b2).trans b3).put nt ntp).trans b4⟩
  rintro _ H2 ⟨m, rfl, m0, m1, rg2, b2⟩
  refine ⟨_, rfl, _, rfl, _, rfl, sz (by simp), fun u nu => ?_⟩
  have nup : u ≠ p := (rg2.ne nu).symm
  refine ⟨p, u, m, [], rfl, rg2.same (sameNew nu), upd_same, nup, by omega, by simp, fun it ls H6 nit hl nm ndl no hit rg6 b6 => ?_⟩
  have nip : it ≠ p := neRng rg6 hit
  have b7 : But p H0 H6 := (b2.put nu nup).trans b6
  refine ⟨p, it, ls, rfl, rg6, ⟨nm, ndl, by omega, by omega⟩, hit, nip, (t0.ext (b7.same np)), fun H8 x8 rg8 t8 => ?_⟩
  refine ⟨_, rfl, iteF ⟨_, _, _, rfl, fun y o e n => ?_, t8⟩⟩
  have e1 := e0 _ _ e n
  have ny := ne_of_none e1 np
  exact x8 _ _ (b7.same np _ _ e1) n ny
end
end OM
namespace OM
open PySem PySem.Spec PyProof.Rows L2

/-- code objects whose tables are still empty, and lie outside what K tells -/
structure Bare0 (K : PySem.W.Frag) (h : Heap) (cs : List (Addr × Addr)) :
    Prop where
  hd : ∀ p ∈ cs, PySem.W.CodeHd h p.1 p.2
  emp : ∀ p ∈ cs, h.get? p.2 = some (PySem.W.tabObj #[])
  out : ∀ p ∈ cs, K.lookup p.2 = none

/-- a heap that knows of the tables alone -/
noncomputable def tabHp (cs : List (Addr × Addr)) : Hp := by
  classical exact fun b =>
    if ∃ p ∈ cs, p.2 = b then some (HO.tbl #[]) else none
theorem tabHp_in {cs : List (Addr × Addr)} {p : Addr × Addr} (h : p ∈ cs) :
    tabHp cs p.2 = some (.tbl #[]) := by
  unfold tabHp
  exact if_pos ⟨p, h, rfl⟩
theorem tabHp_some {cs : List (Addr × Addr)} {b : Addr} {u : HO}
    (h : tabHp cs b = some u) : u = .tbl #[] ∧ ∃ p ∈ cs, p.2 = b := by
  unfold tabHp at h
  by_cases q : ∃ p ∈ cs, p.2 = b
  · rw [if_pos q] at h
    exact ⟨(Option.some.inj h).symm, q⟩
  · rw [if_neg q] at h
    cases h

/-- lawG where some defs make lambdas -/
theorem lawT {P : Program} {w : World} {K : PySem.W.Frag}
    {mg mb : Str → Option Value} {k : Nat} {fa a : Addr} {fd : FuncData}
    {x : Str} {sp : Sp} {s1 : Shared} {vs : List Value} {ns : List Int}
    {cs : List (Addr × Addr)}
    (kin : K.In s1.heap) (glob : s1.heap.Ns mainGlobals mg)
    (blt : s1.heap.Ns builtinsNs mb)
    (boot : ∀ x : Str, x ≠ "__name__" → mb x = bootBuiltins x)
    (nol : s1.heap.NoLimit) (gens : s1.gens = #[])
    (Z : Bare0 K s1.heap cs)
    (bmod : ∃ (m : Addr) (o : Obj), mg "__builtins__" = some (.ref m) ∧
      m ≠ builtinsNs ∧ s1.heap.get? m = some o ∧ o.cls = .type "module" ∧
      o.dict = some builtinsNs ∧ o.data = .plain)
    (ha : s1.heap.get? a =
      some { cls := .type "list", data := .seq vs.toArray })
    (hints : IntsAre vs ns) (hl : ns.length ≤ sizeLine)
    (room : Room k callerA)
    (F : ∀ base : Heap, K.In base → base.Ns mainGlobals mg →
      (∀ p ∈ cs, LamX.TabB base mg p.1 p.2) →
      (∀ b o, s1.heap.get? b = some o → (∀ z, o.data ≠ .seq z 0) →
        o.data ≠ .fields #[] → base.get? b = some o) →
      FnG P w K mg base CX0 k fa fd [x] sp)
    (bind : ∀ (s : Shared) (u : Value), BindsTo s fd ⟨[u], []⟩ [(x, u)])
    (hsp : ∀ H : Hp, (∀ p ∈ cs, H p.2 = some (.tbl #[])) →
      SqL K H a (ns.map V.int) →
      sp [.ref a] H (fun v _ => v = .bl true) E0) :
    codeAny (model P w) callerA (.call (.ref fa) ⟨[.ref a], []⟩)
      (fun r s' => r = .ok (.ret (.bool true)) ∧ OldK s1.heap s'.heap ∧
        s'.os = s1.os ∧ AllBare s'.gens) s1 := by
  have rel := vals_ints hints
  have lv := hints.length
  have aOut : ∀ p ∈ cs, p.2 ≠ a := fun p hp e => by
    have z := Z.emp p hp
    rw [e, ha] at z
    have z' := congrArg Obj.data (Option.some.inj z)
    cases z'
  suffices core : ∀ H : Hp, SqL K H a (ns.map V.int) →
      HOk P w H s1.heap → (∀ p ∈ cs, H p.2 = some (.tbl #[])) →
      (∀ b, b ≠ a → H b ≠ none → ∃ p ∈ cs, p.2 = b) →
      (H a = none ∨ (∃ o xs, H a = some (.frz o (.lst xs))) ∧
        K.lookup a = none) →
      codeAny (model P w) callerA (.call (.ref fa) ⟨[.ref a], []⟩)
        (fun r s' => r = .ok (.ret (.bool true)) ∧ OldK s1.heap s'.heap ∧
          s'.os = s1.os ∧ AllBare s'.gens) s1 by
    have tabOk : ∀ b u, tabHp cs b = some u → u = .tbl #[] ∧
        s1.heap.get? b = some (PySem.W.tabObj #[]) := fun b u e => by
      obtain ⟨e1, p, hp, e2⟩ := tabHp_some e
      exact ⟨e1, e2 ▸ Z.emp p hp⟩
    have tabA : tabHp cs a = none := by
      cases q : tabHp cs a with
      | none => rfl
      | some u =>
        obtain ⟨_, p, hp, e⟩ := tabHp_some q
        exact absurd e (aOut p hp)
    by_cases hk : ∃ o, K.lookup a = some o
    · obtain ⟨o, hk⟩ := hk
      have e := kin a o hk
      rw [ha] at e
      cases e
      refine core (tabHp cs) (Or.inr ?_) (fun b u z => ?_)
        (fun p hp => tabHp_in hp) (fun b _ z => ?_) (Or.inl tabA)
      · exact ⟨_, vs.toArray, _, hk, rfl, rfl, rfl,
          by rw [List.size_toArray, lv]; exact hl, by simpa using rel⟩
      · obtain ⟨rfl, e⟩ := tabOk b u z
        exact e
      · cases q : tabHp cs b with
        | none => exact absurd q z
        | some u => exact (tabHp_some q).2
    · have hk : K.lookup a = none := by
        cases q : K.lookup a with
        | none => rfl
        | some o => exact absurd ⟨o, q⟩ hk
      let ob : Obj := { cls := .type "list", data := .seq vs.toArray }
      refine core (upd (tabHp cs) a (.frz ob (.lst (ns.map V.int))))
        (Or.inl (Or.inr ⟨ob, upd_same⟩)) (fun b u z => ?_)
        (fun p hp => by rw [upd_ne (aOut p hp)]; exact tabHp_in hp)
        (fun b hb z => ?_) (Or.inr ⟨⟨ob, _, upd_same⟩, hk⟩)
      · by_cases hb : b = a
        · subst hb
          rw [upd_same] at z
          cases z
          exact ⟨ha, by rw [List.length_map]; exact hl, vs, _, rel, ha⟩
        · rw [upd_ne hb] at z
          obtain ⟨rfl, e⟩ := tabOk b u z
          exact e
      · rw [upd_ne hb] at z
        cases q : tabHp cs b with
        | none => exact absurd q z
        | some u => exact (tabHp_some q).2
  intro H sq ok tabs others atA
  -- what is neither a list nor an empty table is not tracked
  have untracked : ∀ {b : Addr} {o : Obj}, s1.heap.get? b = some o →
      (∀ z, o.data ≠ .seq z 0) → o.data ≠ .fields #[] → H b = none := by
    intro b o e d1 d2
    by_cases hb : b = a
    · subst hb
      rw [ha] at e
      cases e
      exact absurd rfl (d1 _)
    · cases q : H b with
      | none => rfl
      | some u =>
        obtain ⟨p, hp, e2⟩ := others b hb (by rw [q]; exact nofun)
        have z := Z.emp p hp
        rw [e2, e] at z
        cases z
        exact absurd rfl d2
  have ns' : ∀ {b : Addr} {m : Str → Option Value}, s1.heap.Ns b m →
      (hidT s1.heap H).Ns b m := by
    rintro b m ⟨o, es, ep, e, d, r⟩
    refine ⟨o, es, ep, hidT_get e (untracked e (fun z y => ?_)
      fun y => ?_), d, r⟩
    · cases d.symm.trans y
    · cases d.symm.trans y
  have kin' : K.In (hidT s1.heap H) := by
    intro b o e
    refine hidT_get (kin b o e) ?_
    by_cases hb : b = a
    · subst hb
      rcases atA with z | ⟨_, z⟩
      · exact z
      · rw [z] at e
        cases e
    · cases q : H b with
      | none => rfl
      | some u =>
        obtain ⟨p, hp, e2⟩ := others b hb (by rw [q]; exact nofun)
        rw [← e2, Z.out p hp] at e
        cases e
  have md : Mod K mg (hidT s1.heap H) := by
    obtain ⟨mc, h1, h2⟩ := nol
    exact ⟨kin', ns' glob, ⟨mb, ns' blt, boot⟩, ⟨mc, ns' h1, h2⟩⟩
  have made : ∀ p ∈ cs, LamX.TabB (hidT s1.heap H) mg p.1 p.2 := by
    intro p hp
    have em := Z.emp p hp
    have far : ∀ {b : Addr} {o : Obj}, s1.heap.get? b = some o →
        o.data ≠ .fields #[] → b ≠ p.2 := fun {b o} e d z => by
      rw [z, em] at e
      cases e
      exact d rfl
    obtain ⟨gob, ges, gep, ge, gd, _⟩ := glob
    refine ⟨?_, ?_, far ge (by rw [gd]; exact nofun)⟩
    · obtain ⟨o, us, v1, v2, v3, v4, v5, v6, v7, e1, e2, e3, e4, e5⟩ :=
        Z.hd p hp
      refine ⟨o, us, v1, v2, v3, v4, v5, v6, v7, hidT_get e1 (untracked e1
        (fun z y => ?_) (fun y => ?_)), e2, e3, e4, e5⟩
      · cases e3.symm.trans y
      · cases e3.symm.trans y
        simp at e4
    · obtain ⟨m, o, b1, b2, b3, b4, b5, b6⟩ := bmod
      refine ⟨m, o, b1, b2, fun z => ?_, far b3 (by rw [b6]; exact nofun),
        hidT_get b3 (untracked b3 (by rw [b6]; exact nofun)
          (by rw [b6]; exact nofun)), b4, b5, b6⟩
      rw [z, ge] at b3
      cases b3
      cases gd.symm.trans b6
  have env : Env0 P w K mg (hidT s1.heap H) callerA [] s1 H :=
    ⟨rfl, md, fun b o e => of_hidT e, Nat.le_of_eq (hidT_size _ _), trivial,
      fun b hb => (nomatch (show b ∈ ([] : List Addr) from hb)), ok,
      .of_eq gens⟩
  refine codeAny_mono ((F _ kin' (ns' glob) made fun b o e d1 d2 =>
    hidT_get e (untracked e d1 d2)).run callerA [] s1 H ⟨[.ref a], []⟩ [.ref a] [.ref a] _ _ room rfl env (bind s1 (.ref a))
    (.cons rfl .nil) (hsp H tabs sq)) ?_
  intro r s' h
  match r, h with
  | .error e, h => exact False.elim h
  | .ok .next, h => exact False.elim h
  | .ok .brk, h => exact False.elim h
  | .ok .cont, h => exact False.elim h
  | .ok (.ret u), h =>
    obtain ⟨v, H', os, bare, un, ok', rv, q⟩ := h
    cases (show v = .bl true from q)
    cases (show u = Value.bool true from rv)
    have stay : ∀ b o, (∀ p ∈ cs, p.2 ≠ b) → s1.heap.get? b = some o →
        s'.heap.get? b = some o := fun b o nb e => by
      cases q : H b with
      | none =>
        exact un.keep b o e q
          (fun z => nomatch (show b ∈ ([] : List Addr) from z)) (by simp)
      | some u =>
        by_cases hb : b = a
        · subst hb
          rcases atA with z | ⟨⟨ob, xs, z⟩, _⟩
          · rw [z] at q
            cases q
          · have e1 := (ok b _ z).1
            have e2 := (ok' b _ (un.frzs b ob _ z)).1
            rw [e] at e1
            cases e1
            exact e2
        · obtain ⟨p, hp, e2⟩ := others b hb (by rw [q]; exact nofun)
          exact absurd e2 (nb p hp)
    have grow : ∀ p ∈ cs, ∃ us : Array Value,
        s'.heap.get? p.2 = some (PySem.W.tabObj us) := fun p hp => by
      obtain ⟨us, z⟩ := un.tbls p.2 #[] (tabs p hp)
      exact ⟨_, ok' p.2 _ z⟩
    refine ⟨rfl, ⟨fun b o e => ?_, fun b o e => ?_⟩, os, bare⟩
    · by_cases hb : ∃ p ∈ cs, p.2 = b
      · obtain ⟨p, hp, rfl⟩ := hb
        obtain ⟨us, g⟩ := grow p hp
        rw [Z.emp p hp] at e
        cases e
        refine Or.inr (Or.inl ⟨((Z.hd p hp).tab (Z.emp p hp)).isCodeTable,
          rfl, #[], us, rfl, ?_⟩)
        rw [Array.empty_append]
        exact g
      · exact Or.inl (stay b o (fun p hp z => hb ⟨p, hp, z⟩) e)
    · by_cases hb : ∃ p ∈ cs, p.2 = b
      · obtain ⟨p, hp, rfl⟩ := hb
        obtain ⟨us, g⟩ := grow p hp
        exact ⟨_, g⟩
      · exact ⟨o, stay b o (fun p hp z => hb ⟨p, hp, z⟩) e⟩

/-- walkG where some defs make lambdas -/
theorem walkT {l : PySem.W.OpenLaw} {n k : Nat} {q : Program} {ls : List Str}
    {XP : (Str → Option Value) → Heap → Prop} {YP : World → Heap → Prop}
    {d : DefRec} {K : Params → PySem.W.Frag}
    {x : Str}
    (hn : l.most = some n) (hn2 : n ≤ sizeLine)
    (hdf : d.params.defaults = []) (room : Room k callerA)
    (hY : ∀ (w : World) (h : Heap), YP w h → (K w.params).In h)
    (F : ∀ (w : World) (mg : Str → Option Value) (fa : Addr) (h : Heap),
      YP w h → (K w.params).In h → h.Ns mainGlobals mg →
      mg d.name = some (.ref fa) →
      ∃ (fd : FuncData) (cs : List (Addr × Addr)) (sp : Sp),
        Bare0 (K w.params) h cs ∧
        (∀ (s : Shared) (u : Value), BindsTo s fd ⟨[u], []⟩ [(x, u)]) ∧
        (∀ (H : Hp) (a : Addr) (ns : List Int), ns.length ≤ n →
          (∀ p ∈ cs, H p.2 = some (.tbl #[])) →
          SqL (K w.params) H a (ns.map V.int) →
          sp [.ref a] H (fun v _ => v = .bl true) E0) ∧
        ∀ base : Heap, (K w.params).In base → base.Ns mainGlobals mg →
          (∀ p ∈ cs, LamX.TabB base mg p.1 p.2) →
          (∀ b o, h.get? b = some o → (∀ z, o.data ≠ .seq z 0) →
            o.data ≠ .fields #[] → base.get? b = some o) →
          FnG l.prog w (K w.params) mg base CX0 k fa fd [x] sp) :
    PySem.W.WalkO q ls XP YP l.row.toRowW d []
      (fun f vs => PySem.call f vs) := by
  refine Att.attach_call hn hdf ?_
  intro w s₀ s1 mg mb fa o pm cd doc a vs ns G Y ho hd hcd hmg hobj hi hlen hg
  have KX := hY w _ Y
  obtain ⟨fd, cs, sp, Z, hb, hs, hF⟩ := F w mg fa _ Y KX G.T.g hmg
  exact lawT KX G.T.g G.T.b G.T.builtins G.T.nolimit hg Z G.T.bmain hobj hi
    (Nat.le_trans hlen hn2) room hF hb
    (fun H hH hS => hs H a ns hlen hH hS)
end OM
namespace OM
open PySem PySem.Spec PyProof.Rows L2
/-- what is a dict at the head lies in the base too -/
theorem sys_base {h base : Heap} (hm : ∃ mm, h.Ns sysModules mm)
    (kb : ∀ b o, h.get? b = some o → (∀ z, o.data ≠ .seq z 0) →
      o.data ≠ .fields #[] → base.get? b = some o) :
    ∃ o, base.get? sysModules = some o := by
  obtain ⟨mm, o, es, ep, e, d, _⟩ := hm
  exact ⟨o, kb _ _ e (by rw [d]; exact nofun) (by rw [d]; exact nofun)⟩
/-- walkT that also tells where sys.modules lies -/
theorem walkTS {l : PySem.W.OpenLaw} {n k : Nat} {q : Program} {ls : List Str}
    {XP : (Str → Option Value) → Heap → Prop} {YP : World → Heap → Prop}
    {d : DefRec} {K : Params → PySem.W.Frag}
    {x : Str}
    (hn : l.most = some n) (hn2 : n ≤ sizeLine)
    (hq : importsNone q = true)
    (hdf : d.params.defaults = []) (room : Room k callerA)
    (hY : ∀ (w : World) (h : Heap), YP w h → (K w.params).In h)
    (F : ∀ (w : World) (mg : Str → Option Value) (fa : Addr) (h : Heap),
      YP w h → (K w.params).In h → h.Ns mainGlobals mg →
      mg d.name = some (.ref fa) → (∃ mm, h.Ns sysModules mm) →
      ∃ (fd : FuncData) (cs : List (Addr × Addr)) (sp : Sp),
        Bare0 (K w.params) h cs ∧
        (∀ (s : Shared) (u : Value), BindsTo s fd ⟨[u], []⟩ [(x, u)]) ∧
        (∀ (H : Hp) (a : Addr) (ns : List Int), ns.length ≤ n →
          (∀ p ∈ cs, H p.2 = some (.tbl #[])) →
          SqL (K w.params) H a (ns.map V.int) →
          sp [.ref a] H (fun v _ => v = .bl true) E0) ∧
        ∀ base : Heap, (K w.params).In base → base.Ns mainGlobals mg →
          (∀ p ∈ cs, LamX.TabB base mg p.1 p.2) →
          (∀ b o, h.get? b = some o → (∀ z, o.data ≠ .seq z 0) →
            o.data ≠ .fields #[] → base.get? b = some o) →
          FnG l.prog w (K w.params) mg base CX0 k fa fd [x] sp) :
    PySem.W.WalkO q ls XP YP l.row.toRowW d []
      (fun f vs => PySem.call f vs) := by
  refine Att.attach_call hn hdf ?_
  intro w s₀ s1 mg mb fa o pm cd doc a vs ns G Y ho hd hcd hmg hobj hi hlen hg
  have KX := hY w _ Y
  obtain ⟨fd, cs, sp, Z, hb, hs, hF⟩ := F w mg fa _ Y KX G.T.g hmg
    (by obtain ⟨mm, h, _⟩ := (G.T.seer hq).mods; exact ⟨mm, h⟩)
  exact lawT KX G.T.g G.T.b G.T.builtins G.T.nolimit hg Z G.T.bmain hobj hi
    (Nat.le_trans hlen hn2) room hF hb
    (fun H hH hS => hs H a ns hlen hH hS)
end OM
namespace OM
open PySem PySem.Spec PyProof.Rows L2
/-! ### what the top has left -/
structure MethAt (K : PySem.W.Frag) (C : Addr) (m q : Str) (st : Stmt)
    (ps : List Str) (f : Addr) (fd : FuncData) : Prop where
  fn : Fun K m q st f fd
  me : Meth K C m f
  bd : Binds K fd ps []
theorem methAt {K : PySem.W.Frag} {C : Addr}
    {m q : Str} {st : Stmt} {ps : List Str} {f : Addr} {oc : Value}
    {od an : Option Addr} {sl : Array (Option Value)}
    {kV dc pm cv ct : Value}
    (a : PySem.W.findIn K (.ref C) m = some (some (.ref f)))
    (i : PySem.W.isFn K (.ref f) = true)
    (l : K.lookup f = some ⟨oc, od, .func (PySem.W.fnOf m q (defArgs st)
      (defBody st) (defScope st) .none kV dc pm an cv ct), sl⟩)
    (c : PySem.W.codeIn K cv q = true)
    (k : PySem.W.keepIn K (.ref f) = true)
    (b : ∀ (kV doc pm : Value) (an : Option Addr) (cdv ct : Value)
      (us : List Value), us.length = ps.length →
      bindArgs (PySem.W.fnOf m q (defArgs st) (defBody st) (defScope st)
        .none kV doc pm an cdv ct) ⟨us, []⟩ = pure (ps.zip us)) :
    ∃ fd, MethAt K C m q st ps f fd :=
  have F := fun_mk (st := st) l c k
  ⟨_, F, ⟨a, i, k⟩, F.binds b⟩
section
variable {P : Program} {w : World} {K : PySem.W.Frag}
  {mg : Str → Option Value} {base : Heap} {C : Addr}
theorem MethAt.calM {k j : Nat} {m q : Str} {st : Stmt} {ps : List Str}
    {f : Addr} {fd : FuncData} {sp : Sp} (D : MethAt K C m q st ps f fd)
    (c : Cls K C) (G : FnOk P w K mg base CX0 j f fd ps sp) (h : j ≤ k) :
    CalM P w K mg base C k m ps sp :=
  ⟨c, f, fd, G.mono h, D.me, D.bd⟩
theorem MethAt.spec {m q : Str} {st : Stmt} {ps : List Str}
    {f : Addr} {fd : FuncData} (D : MethAt K C m q st ps f fd) :
    Spec1 K C m f fd ps := ⟨D.me.at_, D.me.fn, D.bd⟩
end
end OM
namespace OM
open PySem PySem.Spec PyProof.Rows L2
/-- an error's __init__ -/
structure XInit (K : PySem.W.Frag) (C : Addr) (q : Str) (st : Stmt)
    (ps : List Str) (f : Addr) (fd : FuncData) : Prop where
  fn : Fun K "__init__" q st f fd
  at_ : PySem.W.findIn K (.ref C) "__init__" = some (some (.ref f))
  ty : PySem.W.typeIn K (.ref f) = some (.type "function")
  bd : Binds K fd ps []
theorem xInit {K : PySem.W.Frag} {C : Addr}
    {q : Str} {st : Stmt} {ps : List Str} {f : Addr} {oc : Value}
    {od an : Option Addr} {sl : Array (Option Value)}
    {kV dc pm cv ct : Value}
    (a : PySem.W.findIn K (.ref C) "__init__" = some (some (.ref f)))
    (i : PySem.W.typeIn K (.ref f) = some (.type "function"))
    (l : K.lookup f = some ⟨oc, od, .func (PySem.W.fnOf "__init__" q
      (defArgs st) (defBody st) (defScope st) .none kV dc pm an cv ct), sl⟩)
    (c : PySem.W.codeIn K cv q = true)
    (k : PySem.W.keepIn K (.ref f) = true)
    (b : ∀ (kV doc pm : Value) (an : Option Addr) (cdv ct : Value)
      (us : List Value), us.length = ps.length →
      bindArgs (PySem.W.fnOf "__init__" q (defArgs st) (defBody st)
        (defScope st) .none kV doc pm an cdv ct) ⟨us, []⟩ =
        pure (ps.zip us)) :
    ∃ fd, XInit K C q st ps f fd :=
  have F := fun_mk (st := st) l c k
  ⟨_, F, a, i, F.binds b⟩
/-- an error of the class at S is what «except T» names -/
theorem exm2 {K : PySem.W.Frag} {S T : Addr}
    (h1 : PySem.W.subIn K (.ref T) (.type "BaseException") = some true)
    (h2 : PySem.W.isClsIn K T = true)
    (h3 : PySem.W.typeIn K (.ref T) = some (.type "type")) {b : Bool}
    (h4 : PySem.W.subIn K (.ref S) (.ref T) = some b) :
    PySem.W.exmOne K (.ref S) (.ref T) = some b := by
  have e1 : (PySem.W.subIn K (.ref T) (.type "BaseException") == some true) =
    true := by rw [h1] <;> rfl
  have e2 : ((PySem.W.clsIn K T).isSome &&
      PySem.W.typeIn K (.ref T) == some (.type "type")) = true := by
    have h2' : (PySem.W.clsIn K T).isSome = true := h2
    rw [h2', h3] <;> rfl
  show (if (PySem.W.subIn K (.ref T) (.type "BaseException") == some true) =
    true then (if ((PySem.W.clsIn K T).isSome &&
      PySem.W.typeIn K (.ref T) == some (.type "type")) = true then
      PySem.W.subIn K (.ref S) (.ref T) else none) else none) = some b
  rw [if_pos e1, if_pos e2]
  exact h4
/-- the same with isinstance -/
theorem kit2 {K : PySem.W.Frag} {S T : Addr} (ne : (S == T) = false)
    (h2 : PySem.W.isClsIn K T = true)
    (h3 : PySem.W.typeIn K (.ref T) = some (.type "type")) {b : Bool}
    (h4 : PySem.W.subIn K (.ref S) (.ref T) = some b) :
    PySem.W.kitOne K (.ref S) (.ref T) = some b := by
  have e2 : ((PySem.W.clsIn K T).isSome &&
      PySem.W.typeIn K (.ref T) == some (.type "type")) = true := by
    have h2' : (PySem.W.clsIn K T).isSome = true := h2
    rw [h2', h3] <;> rfl
  have n : ¬ ((Value.ref S == Value.ref T) = true) := fun z => by
    have z' := eq_of_beq z
    injection z' with z'
    rw [z'] at ne
    simp at ne
  unfold PySem.W.kitOne
  rw [if_neg n]
  show (if ((PySem.W.clsIn K T).isSome &&
      PySem.W.typeIn K (.ref T) == some (.type "type")) = true then
      PySem.W.subIn K (.ref S) (.ref T) else none) = some b
  rw [if_pos e2]
  exact h4
theorem kitT {K : PySem.W.Frag} {S : Addr} {T : String} {b : Bool}
    (hm : PySem.W.kitMeta T = true)
    (h : PySem.W.subIn K (.ref S) (.type T) = some b) :
    PySem.W.kitOne K (.ref S) (.type T) = some b := by
  have n : ¬ ((Value.ref S == Value.type T) = true) := fun z => by
    cases eq_of_beq z
  unfold PySem.W.kitOne
  rw [if_neg n]
  show (if PySem.W.kitMeta T = true then
    PySem.W.subIn K (.ref S) (.type T) else none) = some b
  rw [if_pos hm]
  exact h
end OM

namespace OM
open PySem PySem.Spec PyProof.Rows L2
/-- a built-in type is none of the class's -/
theorem kitB {K : PySem.W.Frag} {T : Addr} {S : String}
    (h2 : PySem.W.isClsIn K T = true)
    (h3 : PySem.W.typeIn K (.ref T) = some (.type "type")) {b : Bool}
    (h4 : PySem.W.subIn K (.type S) (.ref T) = some b) :
    PySem.W.kitOne K (.type S) (.ref T) = some b := by
  have e2 : ((PySem.W.clsIn K T).isSome &&
      PySem.W.typeIn K (.ref T) == some (.type "type")) = true := by
    have h2' : (PySem.W.clsIn K T).isSome = true := h2
    rw [h2', h3] <;> rfl
  have n : ¬ ((Value.type S == Value.ref T) = true) := fun z => by
    cases eq_of_beq z
  unfold PySem.W.kitOne
  rw [if_neg n]
  show (if ((PySem.W.clsIn K T).isSome &&
      PySem.W.typeIn K (.ref T) == some (.type "type")) = true then
      PySem.W.subIn K (.type S) (.ref T) else none) = some b
  rw [if_pos e2]
  exact h4
end OM
namespace OM
open PySem PySem.Spec PyProof.Rows L2
section
variable {P : Program} {w : World} {K : PySem.W.Frag}
  {mg : Str → Option Value} {base : Heap} {C CU CO CM CR CS : Addr}
/-- the law, by what the top has left -/
theorem all11
    {f1 f2 f3 f4 f5 f6 f7 f8 f9 f10 f11 f12 f13 f14 f15 f16 f17 : Addr}
    {d1 d2 d3 d4 d5 d6 d7 d8 d9 d10 d11 d12 d13 d14 d15 d16 d17 : FuncData}
    {m1 m2 m3 m4 m5 m6 m7 m8 : Addr}
    {e1 e2 e3 e4 e5 e6 e7 e8 : FuncData}
    {t40 t8 : Tok}
    (B : Bl mg)
    (z_tuple : mg "tuple" = none)
    (TC : BC K mg C) (mkC : PySem.W.makesIn K C = true)
    {g1 : Addr} {h1 : FuncData}
    (XE : XU11 K mg CU CO CM CR CS) (KN : Kin11 K C)
    (sm : ∃ o, base.get? sysModules = some o)
    (c40 : mg "MAX_ITEMS" = some (.int 40 t40))
    (c8 : mg "MAX_NAME_LENGTH" = some (.int 8 t8))
    (D1 : DefAt K mg "is_name" s_is_name ["value"] f1 d1)
    (D2 : DefAt K mg "names_fault" s_names_fault ["value", "most"] f2 d2)
    (D3 : DefAt K mg "check_items" s_check_items ["items"] f3 d3)
    (D4 : DefAt K mg "_law_rng" s_Lrng ["_law_script", "_law_k"] f4 d4)
    (D5 : DefAt K mg "_law_draw" s_Ldraw ["_law_rng_here", "_law_many"] f5 d5)
    (D6 : DefAt K mg "_law_choice" s_Lchoice ["_law_rng_here", "_law_options"] f6 d6)
    (D7 : DefAt K mg "_law_name" s_Lname ["_law_rng_here", "_law_used"] f7 d7)
    (D8 : DefAt K mg "_law_names" s_Lnames ["_law_rng_here", "_law_many", "_law_used"] f8 d8)
    (D9 : DefAt K mg "_law_invalid_item" s_Linvalid_item ["_law_rng_here", "_law_items"] f9 d9)
    (D10 : DefAt K mg "_law_error" s_Lerror ["_law_call"] f10 d10)
    (D11 : DefAt K mg "_law_is_name" s_Lis_name ["_law_value"] f11 d11)
    (D12 : DefAt K mg "_law_errors_right" s_Lerrors_right ["_law_rng_here", "_law_base", "_law_items"] f12 d12)
    (D13 : DefAt K mg "_law_equal" s_Lequal ["_law_first", "_law_second", "_law_expected"] f13 d13)
    (D14 : DefAt K mg "_law_equality_right" s_Lequality_right ["_law_rng_here", "_law_base", "_law_items"] f14 d14)
    (D15 : DefAt K mg "_law_told_right" s_Ltold_right ["_law_base", "_law_items"] f15 d15)
    (D16 : DefAt K mg "_law_check" s_Lcheck ["_law_rng_here", "_law_items"] f16 d16)
    (D17 : DefAt K mg "law" s_law ["_law_script"] f17 d17)
    (M1 : MethAt K C "__init__" "Base.__init__" s_Base_init ["self", "items"] m1 e1)
    (M2 : MethAt K C "__eq__" "Base.__eq__" s_Base_eq ["self", "other"] m2 e2)
    (M3 : MethAt K C "__len__" "Base.__len__" s_Base_len ["self"] m3 e3)
    (M4 : MethAt K C "__repr__" "Base.__repr__" s_Base_repr ["self"] m4 e4)
    (M5 : MethAt K C "names" "Base.names" s_Base_names ["self"] m5 e5)
    (M6 : MethAt K C "has_item" "Base.has_item" s_Base_has_item ["self", "value"] m6 e6)
    (M7 : MethAt K C "position_of" "Base.position_of" s_Base_position_of ["self", "item"] m7 e7)
    (M8 : MethAt K C "precedes" "Base.precedes" s_Base_precedes ["self", "first", "second"] m8 e8)
    (I1 : XInit K CU "UnknownItem.__init__" s_UnknownItem_init ["self", "value"] g1 h1)
    {ccE PE : Addr} (hcE : d12.code = .ref ccE) (TBE : LamX.TabB base mg ccE PE)
    : FnG P w K mg base CX0 9 f17 d17 ["_law_script"] (spLaw11 K [(PE, lamQ11)]) := by
  have J1 := ok_uinit (P := P) (w := w) (base := base) (mg := mg) (k := 0) I1.fn XE.cU.ox XE.nU
  have xmU : XMkF P w K mg base CU 1 "UnknownItem" ["self", "value"] (spX1 CU "value") :=
    ⟨XE.mU, XE.cU, g1, h1, J1, I1.at_, I1.ty, I1.bd⟩
  have g_rng := ok_rng (P := P) (w := w) (base := base) (k := 0) D4.fn B
  have g_draw := ok_draw (P := P) (w := w) (base := base) (k := 0) D5.fn B
  have g_Lname := ok_name (k := 1) D7.fn B (D5.cal g_draw (by decide))
  have g_Lnames := ok_names (k := 2) D8.fn B (D7.cal g_Lname (by decide))
  have g_choice := ok_choice (k := 1) D6.fn B (D5.cal g_draw (by decide))
  have g_is_name := ok_isname (P := P) (w := w) (base := base) (k := 0) D1.fn B c8
  have g_nfault := ok_nfault (k := 1) D2.fn B (D1.cal g_is_name (by decide))
  have g_check_items := ok_check (k := 2) D3.fn (D2.cal g_nfault (by decide)) c40
  have g_initF := ok_initF (k := 3) M1.fn B TC (D3.cal g_check_items (by decide))
  have g_names := ok_getnames (P := P) (w := w) (base := base) (k := 0) M5.fn B TC
  have g_has := ok_has (k := 1) M6.fn B TC (D1.cal g_is_name (by decide))
  have g_pos := ok_pos (k := 2) M7.fn TC (M6.calM TC.cl g_has (by decide))
  have g_prec := ok_prec (k := 3) M8.fn (M7.calM TC.cl g_pos (by decide))
  have g_len := ok_lenB (P := P) (w := w) (base := base) (k := 0) M3.fn B TC
  have g_repr := ok_reprB (P := P) (w := w) (base := base) (k := 0) M4.fn TC
  have g_told := ok_told11 (k := 3) (n := 1) (m := 1) D15.fn B (M5.calM TC.cl g_names (by decide)) (M6.calM TC.cl g_has (by decide)) (M7.calM TC.cl g_pos (by decide)) M3.spec g_len (by decide) M4.spec g_repr (by decide)
  have g_Linv := ok_inv11 (k := 2) D9.fn (D6.cal g_choice (by decide))
  have g_Lisname := ok_lisname (P := P) (w := w) (base := base) (k := 0) D11.fn B
  have g_posX := ok_posX (k := 2) (j := 1) M7.fn (M6.calM TC.cl g_has (by decide)) xmU (by decide)
  have g_precX := ok_precX (k := 3) M8.fn ⟨TC.cl, m7, e7, (fn_or g_pos g_posX).mono (by decide), M7.me, M7.bd⟩
  have g_Lerr := ok_error11 (P := P) (w := w) (base := base) (k := 5) (j := 5) D10.fn B XE sm (by decide)
  have g_errs := ok_errs11 (k := 6) (j := 4) (T := [(PE, lamQ11)]) D12.fn hcE B sm TBE (.head _) (fun p hp _ => by rw [List.mem_singleton.mp hp]) (D9.cal g_Linv (by decide)) (D6.cal g_choice (by decide)) (D1.cal g_is_name (by decide)) (D11.cal g_Lisname (by decide)) (D10.calG g_Lerr (by decide)) (M6.calM TC.cl g_has (by decide)) ⟨TC.cl, m7, e7, (fn_or g_pos g_posX).mono (by decide), M7.me, M7.bd⟩ ⟨TC.cl, m8, e8, g_precX.mono (by decide), M8.me, M8.bd⟩
  have g_eqBX := ok_eqBX (P := P) (w := w) (base := base) (k := 0) M2.fn B TC
  have g_Lequal := ok_eql11 (k := 2) (n := 1) D13.fn B TC KN sm M2.spec g_eqBX (by decide)
  have g_init := ok_init (k := 3) M1.fn B TC (D3.cal g_check_items (by decide))
  have mkB : Mk K C m1 := ⟨mkC, M1.me.at_, M1.me.fn, TC.kC⟩
  have g_eqr := ok_eqr11 (k := 5) (j := 4) (n := 1) D14.fn B z_tuple (D7.cal g_Lname (by decide)) (D6.cal g_choice (by decide)) (D13.calG g_Lequal (by decide)) ⟨TC.mgC, m1, e1, g_init.mono (by decide), mkB, M1.bd⟩ (by decide) M4.spec g_repr (by decide)
  have g_chk := ok_chk11 (k := 7) (j := 4) D16.fn B (D6.cal g_choice (by decide)) ⟨TC.mgC, m1, e1, g_initF.mono (by decide), mkB, M1.bd⟩ (by decide) (M5.calM TC.cl g_names (by decide)) (M8.calM TC.cl g_prec (by decide)) (D15.calG g_told (by decide)) (D12.calG g_errs (by decide)) (D14.calG g_eqr (by decide))
  exact ok_law11 (k := 8) D17.fn B c40 (D4.cal g_rng (by decide)) (D5.cal g_draw (by decide)) (D8.cal g_Lnames (by decide)) (D16.calG g_chk (by decide))
end
end OM
namespace OM
open PySem PySem.Spec PyProof.Rows L2
theorem defAtC {K : PySem.W.Frag} {mg : Str → Option Value} {h : Heap}
    {x : Str} {st : Stmt} {ps : List Str} {f cc : Addr} {oc : Value}
    {od an : Option Addr} {sl : Array (Option Value)}
    {kV dc pm ct : Value} (X : K.In h) (G : h.Ns mainGlobals mg)
    (a : PySem.W.nsIn K mainGlobals x = some (some (.ref f)))
    (l : K.lookup f = some ⟨oc, od, .func (PySem.W.fnOf x x (defArgs st)
      (defBody st) (defScope st) .none kV dc pm an (.ref cc) ct), sl⟩)
    (c : PySem.W.codeIn K (.ref cc) x = true)
    (k : PySem.W.keepIn K (.ref f) = true)
    (b : ∀ (kV doc pm : Value) (an : Option Addr) (cdv ct : Value)
      (us : List Value), us.length = ps.length →
      bindArgs (PySem.W.fnOf x x (defArgs st) (defBody st) (defScope st)
        .none kV doc pm an cdv ct) ⟨us, []⟩ = pure (ps.zip us)) :
    ∃ fd, DefAt K mg x st ps f fd ∧ fd.code = .ref cc :=
  have F := fun_mk (st := st) l c k
  ⟨_, ⟨F, PySem.W.mg_of X G a, F.binds b,
    fun _ us hl => .of_eq (b _ _ _ _ _ _ us hl)⟩, rfl⟩
theorem fin11 {l : PySem.W.OpenLaw} {w : World} {K : PySem.W.Frag} {h : Heap}
    {mg : Str → Option Value} {fa C CU CO CM CR CS : Addr} (X : K.In h)
    (G : h.Ns mainGlobals mg) (hfa : mg "law" = some (.ref fa))
    {f1 f2 f3 f4 f5 f6 f7 f8 f9 f10 f11 f12 f13 f14 f15 f16 f17 m1 m2 m3 m4 m5 m6 m7 m8 g1 : Addr}
    {odf1 anf1 odf2 anf2 odf3 anf3 odf4 anf4 odf5 anf5 odf6 anf6 odf7 anf7 odf8 anf8 odf9 anf9 odf10 anf10 odf11 anf11 odf12 anf12 odf13 anf13 odf14 anf14 odf15 anf15 odf16 anf16 odf17 anf17 odm1 anm1 odm2 anm2 odm3 anm3 odm4 anm4 odm5 anm5 odm6 anm6 odm7 anm7 odm8 anm8 odg1 ang1 : Option Addr}
    {slf1 slf2 slf3 slf4 slf5 slf6 slf7 slf8 slf9 slf10 slf11 slf12 slf13 slf14 slf15 slf16 slf17 slm1 slm2 slm3 slm4 slm5 slm6 slm7 slm8 slg1 : Array (Option Value)}
    {ocf1 kVf1 dcf1 pmf1 cdf1 ctf1 : Value}
    {ocf2 kVf2 dcf2 pmf2 cdf2 ctf2 : Value}
    {ocf3 kVf3 dcf3 pmf3 cdf3 ctf3 : Value}
    {ocf4 kVf4 dcf4 pmf4 cdf4 ctf4 : Value}
    {ocf5 kVf5 dcf5 pmf5 cdf5 ctf5 : Value}
    {ocf6 kVf6 dcf6 pmf6 cdf6 ctf6 : Value}
    {ocf7 kVf7 dcf7 pmf7 cdf7 ctf7 : Value}
    {ocf8 kVf8 dcf8 pmf8 cdf8 ctf8 : Value}
    {ocf9 kVf9 dcf9 pmf9 cdf9 ctf9 : Value}
    {ocf10 kVf10 dcf10 pmf10 cdf10 ctf10 : Value}
    {ocf11 kVf11 dcf11 pmf11 cdf11 ctf11 : Value}
    {ocf12 kVf12 dcf12 pmf12 ctf12 : Value}
    {ocf13 kVf13 dcf13 pmf13 cdf13 ctf13 : Value}
    {ocf14 kVf14 dcf14 pmf14 cdf14 ctf14 : Value}
    {ocf15 kVf15 dcf15 pmf15 cdf15 ctf15 : Value}
    {ocf16 kVf16 dcf16 pmf16 cdf16 ctf16 : Value}
    {ocf17 kVf17 dcf17 pmf17 cdf17 ctf17 : Value}
    {ocm1 kVm1 dcm1 pmm1 cdm1 ctm1 : Value}
    {ocm2 kVm2 dcm2 pmm2 cdm2 ctm2 : Value}
    {ocm3 kVm3 dcm3 pmm3 cdm3 ctm3 : Value}
    {ocm4 kVm4 dcm4 pmm4 cdm4 ctm4 : Value}
    {ocm5 kVm5 dcm5 pmm5 cdm5 ctm5 : Value}
    {ocm6 kVm6 dcm6 pmm6 cdm6 ctm6 : Value}
    {ocm7 kVm7 dcm7 pmm7 cdm7 ctm7 : Value}
    {ocm8 kVm8 dcm8 pmm8 cdm8 ctm8 : Value}
    {ocg1 kVg1 dcg1 pmg1 cdg1 ctg1 : Value}
    {tcE tpE : Addr} {toE : Value} {tdE : Option Addr} {tsE : Array (Option Value)} {tuE : Array Value}
    {t40 t8 : Tok}
    {nmCU qCU : Str} {NCU : Addr} {bsCU subCU : List Value} {snCU : List Str} {abCU : Bool} {colCU : Option Bool} {ddCU : Option Addr} {k0CU k1CU k2CU k3CU k5CU : Option Value}
    (af1 : PySem.W.nsIn K mainGlobals "is_name" = some (some (.ref f1)))
    (lf1 : K.lookup f1 = some ⟨ocf1, odf1, .func (PySem.W.fnOf "is_name" "is_name"
      (defArgs s_is_name) (defBody s_is_name) (defScope s_is_name) .none kVf1 dcf1 pmf1 anf1 cdf1
      ctf1), slf1⟩)
    (cf1 : PySem.W.codeIn K cdf1 "is_name" = true)
    (kf1 : PySem.W.keepIn K (.ref f1) = true)
    (af2 : PySem.W.nsIn K mainGlobals "names_fault" = some (some (.ref f2)))
    (lf2 : K.lookup f2 = some ⟨ocf2, odf2, .func (PySem.W.fnOf "names_fault" "names_fault"
      (defArgs s_names_fault) (defBody s_names_fault) (defScope s_names_fault) .none kVf2 dcf2 pmf2 anf2 cdf2
      ctf2), slf2⟩)
    (cf2 : PySem.W.codeIn K cdf2 "names_fault" = true)
    (kf2 : PySem.W.keepIn K (.ref f2) = true)
    (af3 : PySem.W.nsIn K mainGlobals "check_items" = some (some (.ref f3)))
    (lf3 : K.lookup f3 = some ⟨ocf3, odf3, .func (PySem.W.fnOf "check_items" "check_items"
      (defArgs s_check_items) (defBody s_check_items) (defScope s_check_items) .none kVf3 dcf3 pmf3 anf3 cdf3
      ctf3), slf3⟩)
    (cf3 : PySem.W.codeIn K cdf3 "check_items" = true)
    (kf3 : PySem.W.keepIn K (.ref f3) = true)
    (af4 : PySem.W.nsIn K mainGlobals "_law_rng" = some (some (.ref f4)))
    (lf4 : K.lookup f4 = some ⟨ocf4, odf4, .func (PySem.W.fnOf "_law_rng" "_law_rng"
      (defArgs s_Lrng) (defBody s_Lrng) (defScope s_Lrng) .none kVf4 dcf4 pmf4 anf4 cdf4
      ctf4), slf4⟩)
    (cf4 : PySem.W.codeIn K cdf4 "_law_rng" = true)
    (kf4 : PySem.W.keepIn K (.ref f4) = true)
    (af5 : PySem.W.nsIn K mainGlobals "_law_draw" = some (some (.ref f5)))
    (lf5 : K.lookup f5 = some ⟨ocf5, odf5, .func (PySem.W.fnOf "_law_draw" "_law_draw"
      (defArgs s_Ldraw) (defBody s_Ldraw) (defScope s_Ldraw) .none kVf5 dcf5 pmf5 anf5 cdf5
      ctf5), slf5⟩)
    (cf5 : PySem.W.codeIn K cdf5 "_law_draw" = true)
    (kf5 : PySem.W.keepIn K (.ref f5) = true)
    (af6 : PySem.W.nsIn K mainGlobals "_law_choice" = some (some (.ref f6)))
    (lf6 : K.lookup f6 = some ⟨ocf6, odf6, .func (PySem.W.fnOf "_law_choice" "_law_choice"
      (defArgs s_Lchoice) (defBody s_Lchoice) (defScope s_Lchoice) .none kVf6 dcf6 pmf6 anf6 cdf6
      ctf6), slf6⟩)
    (cf6 : PySem.W.codeIn K cdf6 "_law_choice" = true)
    (kf6 : PySem.W.keepIn K (.ref f6) = true)
    (af7 : PySem.W.nsIn K mainGlobals "_law_name" = some (some (.ref f7)))
    (lf7 : K.lookup f7 = some ⟨ocf7, odf7, .func (PySem.W.fnOf "_law_name" "_law_name"
      (defArgs s_Lname) (defBody s_Lname) (defScope s_Lname) .none kVf7 dcf7 pmf7 anf7 cdf7
      ctf7), slf7⟩)
    (cf7 : PySem.W.codeIn K cdf7 "_law_name" = true)
    (kf7 : PySem.W.keepIn K (.ref f7) = true)
    (af8 : PySem.W.nsIn K mainGlobals "_law_names" = some (some (.ref f8)))
    (lf8 : K.lookup f8 = some ⟨ocf8, odf8, .func (PySem.W.fnOf "_law_names" "_law_names"
      (defArgs s_Lnames) (defBody s_Lnames) (defScope s_Lnames) .none kVf8 dcf8 pmf8 anf8 cdf8
      ctf8), slf8⟩)
    (cf8 : PySem.W.codeIn K cdf8 "_law_names" = true)
    (kf8 : PySem.W.keepIn K (.ref f8) = true)
    (af9 : PySem.W.nsIn K mainGlobals "_law_invalid_item" = some (some (.ref f9)))
    (lf9 : K.lookup f9 = some ⟨ocf9, odf9, .func (PySem.W.fnOf "_law_invalid_item" "_law_invalid_item"
      (defArgs s_Linvalid_item) (defBody s_Linvalid_item) (defScope s_Linvalid_item) .none kVf9 dcf9 pmf9 anf9 cdf9
      ctf9), slf9⟩)
    (cf9 : PySem.W.codeIn K cdf9 "_law_invalid_item" = true)
    (kf9 : PySem.W.keepIn K (.ref f9) = true)
    (af10 : PySem.W.nsIn K mainGlobals "_law_error" = some (some (.ref f10)))
    (lf10 : K.lookup f10 = some ⟨ocf10, odf10, .func (PySem.W.fnOf "_law_error" "_law_error"
      (defArgs s_Lerror) (defBody s_Lerror) (defScope s_Lerror) .none kVf10 dcf10 pmf10 anf10 cdf10
      ctf10), slf10⟩)
    (cf10 : PySem.W.codeIn K cdf10 "_law_error" = true)
    (kf10 : PySem.W.keepIn K (.ref f10) = true)
    (af11 : PySem.W.nsIn K mainGlobals "_law_is_name" = some (some (.ref f11)))
    (lf11 : K.lookup f11 = some ⟨ocf11, odf11, .func (PySem.W.fnOf "_law_is_name" "_law_is_name"
      (defArgs s_Lis_name) (defBody s_Lis_name) (defScope s_Lis_name) .none kVf11 dcf11 pmf11 anf11 cdf11
      ctf11), slf11⟩)
    (cf11 : PySem.W.codeIn K cdf11 "_law_is_name" = true)
    (kf11 : PySem.W.keepIn K (.ref f11) = true)
    (af12 : PySem.W.nsIn K mainGlobals "_law_errors_right" = some (some (.ref f12)))
    (lf12 : K.lookup f12 = some ⟨ocf12, odf12, .func (PySem.W.fnOf "_law_errors_right" "_law_errors_right"
      (defArgs s_Lerrors_right) (defBody s_Lerrors_right) (defScope s_Lerrors_right) .none kVf12 dcf12 pmf12 anf12 (.ref tcE)
      ctf12), slf12⟩)
    (cf12 : PySem.W.codeIn K (.ref tcE) "_law_errors_right" = true)
    (tlE : K.lookup tcE = some ⟨toE, tdE, .fields tuE, tsE⟩)
    (tvE : tuE[11]? = some (.ref tpE))
    (tnE : K.lookup tpE = none)
    (tkE : PySem.W.codeHdIn K tcE tpE = true)
    (teE : h.get? tpE = some (PySem.W.tabObj #[]))
    (kf12 : PySem.W.keepIn K (.ref f12) = true)
    (af13 : PySem.W.nsIn K mainGlobals "_law_equal" = some (some (.ref f13)))
    (lf13 : K.lookup f13 = some ⟨ocf13, odf13, .func (PySem.W.fnOf "_law_equal" "_law_equal"
      (defArgs s_Lequal) (defBody s_Lequal) (defScope s_Lequal) .none kVf13 dcf13 pmf13 anf13 cdf13
      ctf13), slf13⟩)
    (cf13 : PySem.W.codeIn K cdf13 "_law_equal" = true)
    (kf13 : PySem.W.keepIn K (.ref f13) = true)
    (af14 : PySem.W.nsIn K mainGlobals "_law_equality_right" = some (some (.ref f14)))
    (lf14 : K.lookup f14 = some ⟨ocf14, odf14, .func (PySem.W.fnOf "_law_equality_right" "_law_equality_right"
      (defArgs s_Lequality_right) (defBody s_Lequality_right) (defScope s_Lequality_right) .none kVf14 dcf14 pmf14 anf14 cdf14
      ctf14), slf14⟩)
    (cf14 : PySem.W.codeIn K cdf14 "_law_equality_right" = true)
    (kf14 : PySem.W.keepIn K (.ref f14) = true)
    (af15 : PySem.W.nsIn K mainGlobals "_law_told_right" = some (some (.ref f15)))
    (lf15 : K.lookup f15 = some ⟨ocf15, odf15, .func (PySem.W.fnOf "_law_told_right" "_law_told_right"
      (defArgs s_Ltold_right) (defBody s_Ltold_right) (defScope s_Ltold_right) .none kVf15 dcf15 pmf15 anf15 cdf15
      ctf15), slf15⟩)
    (cf15 : PySem.W.codeIn K cdf15 "_law_told_right" = true)
    (kf15 : PySem.W.keepIn K (.ref f15) = true)
    (af16 : PySem.W.nsIn K mainGlobals "_law_check" = some (some (.ref f16)))
    (lf16 : K.lookup f16 = some ⟨ocf16, odf16, .func (PySem.W.fnOf "_law_check" "_law_check"
      (defArgs s_Lcheck) (defBody s_Lcheck) (defScope s_Lcheck) .none kVf16 dcf16 pmf16 anf16 cdf16
      ctf16), slf16⟩)
    (cf16 : PySem.W.codeIn K cdf16 "_law_check" = true)
    (kf16 : PySem.W.keepIn K (.ref f16) = true)
    (af17 : PySem.W.nsIn K mainGlobals "law" = some (some (.ref f17)))
    (lf17 : K.lookup f17 = some ⟨ocf17, odf17, .func (PySem.W.fnOf "law" "law"
      (defArgs s_law) (defBody s_law) (defScope s_law) .none kVf17 dcf17 pmf17 anf17 cdf17
      ctf17), slf17⟩)
    (cf17 : PySem.W.codeIn K cdf17 "law" = true)
    (kf17 : PySem.W.keepIn K (.ref f17) = true)
    (aC : PySem.W.nsIn K mainGlobals "Base" = some (some (.ref C)))
    (am1 : PySem.W.findIn K (.ref C) "__init__" = some (some (.ref m1)))
    (im1 : PySem.W.isFn K (.ref m1) = true)
    (lm1 : K.lookup m1 = some ⟨ocm1, odm1, .func (PySem.W.fnOf "__init__" "Base.__init__"
      (defArgs s_Base_init) (defBody s_Base_init) (defScope s_Base_init) .none kVm1 dcm1 pmm1 anm1 cdm1
      ctm1), slm1⟩)
    (cm1 : PySem.W.codeIn K cdm1 "Base.__init__" = true)
    (km1 : PySem.W.keepIn K (.ref m1) = true)
    (am2 : PySem.W.findIn K (.ref C) "__eq__" = some (some (.ref m2)))
    (im2 : PySem.W.isFn K (.ref m2) = true)
    (lm2 : K.lookup m2 = some ⟨ocm2, odm2, .func (PySem.W.fnOf "__eq__" "Base.__eq__"
      (defArgs s_Base_eq) (defBody s_Base_eq) (defScope s_Base_eq) .none kVm2 dcm2 pmm2 anm2 cdm2
      ctm2), slm2⟩)
    (cm2 : PySem.W.codeIn K cdm2 "Base.__eq__" = true)
    (km2 : PySem.W.keepIn K (.ref m2) = true)
    (am3 : PySem.W.findIn K (.ref C) "__len__" = some (some (.ref m3)))
    (im3 : PySem.W.isFn K (.ref m3) = true)
    (lm3 : K.lookup m3 = some ⟨ocm3, odm3, .func (PySem.W.fnOf "__len__" "Base.__len__"
      (defArgs s_Base_len) (defBody s_Base_len) (defScope s_Base_len) .none kVm3 dcm3 pmm3 anm3 cdm3
      ctm3), slm3⟩)
    (cm3 : PySem.W.codeIn K cdm3 "Base.__len__" = true)
    (km3 : PySem.W.keepIn K (.ref m3) = true)
    (am4 : PySem.W.findIn K (.ref C) "__repr__" = some (some (.ref m4)))
    (im4 : PySem.W.isFn K (.ref m4) = true)
    (lm4 : K.lookup m4 = some ⟨ocm4, odm4, .func (PySem.W.fnOf "__repr__" "Base.__repr__"
      (defArgs s_Base_repr) (defBody s_Base_repr) (defScope s_Base_repr) .none kVm4 dcm4 pmm4 anm4 cdm4
      ctm4), slm4⟩)
    (cm4 : PySem.W.codeIn K cdm4 "Base.__repr__" = true)
    (km4 : PySem.W.keepIn K (.ref m4) = true)
    (am5 : PySem.W.findIn K (.ref C) "names" = some (some (.ref m5)))
    (im5 : PySem.W.isFn K (.ref m5) = true)
    (lm5 : K.lookup m5 = some ⟨ocm5, odm5, .func (PySem.W.fnOf "names" "Base.names"
      (defArgs s_Base_names) (defBody s_Base_names) (defScope s_Base_names) .none kVm5 dcm5 pmm5 anm5 cdm5
      ctm5), slm5⟩)
    (cm5 : PySem.W.codeIn K cdm5 "Base.names" = true)
    (km5 : PySem.W.keepIn K (.ref m5) = true)
    (am6 : PySem.W.findIn K (.ref C) "has_item" = some (some (.ref m6)))
    (im6 : PySem.W.isFn K (.ref m6) = true)
    (lm6 : K.lookup m6 = some ⟨ocm6, odm6, .func (PySem.W.fnOf "has_item" "Base.has_item"
      (defArgs s_Base_has_item) (defBody s_Base_has_item) (defScope s_Base_has_item) .none kVm6 dcm6 pmm6 anm6 cdm6
      ctm6), slm6⟩)
    (cm6 : PySem.W.codeIn K cdm6 "Base.has_item" = true)
    (km6 : PySem.W.keepIn K (.ref m6) = true)
    (am7 : PySem.W.findIn K (.ref C) "position_of" = some (some (.ref m7)))
    (im7 : PySem.W.isFn K (.ref m7) = true)
    (lm7 : K.lookup m7 = some ⟨ocm7, odm7, .func (PySem.W.fnOf "position_of" "Base.position_of"
      (defArgs s_Base_position_of) (defBody s_Base_position_of) (defScope s_Base_position_of) .none kVm7 dcm7 pmm7 anm7 cdm7
      ctm7), slm7⟩)
    (cm7 : PySem.W.codeIn K cdm7 "Base.position_of" = true)
    (km7 : PySem.W.keepIn K (.ref m7) = true)
    (am8 : PySem.W.findIn K (.ref C) "precedes" = some (some (.ref m8)))
    (im8 : PySem.W.isFn K (.ref m8) = true)
    (lm8 : K.lookup m8 = some ⟨ocm8, odm8, .func (PySem.W.fnOf "precedes" "Base.precedes"
      (defArgs s_Base_precedes) (defBody s_Base_precedes) (defScope s_Base_precedes) .none kVm8 dcm8 pmm8 anm8 cdm8
      ctm8), slm8⟩)
    (cm8 : PySem.W.codeIn K cdm8 "Base.precedes" = true)
    (km8 : PySem.W.keepIn K (.ref m8) = true)
    (hn : PySem.W.specialIn K (.builtin "object.__class__") "__get__" =
      some (some (.builtin "getset_descriptor.__get__")))
    (htk : PySem.W.takesIn K (.builtin "object.__class__") = some true)
    (pgC : PySem.W.plainGet K C Str.empty = true)
    (hdC : PySem.W.hasDictIn K C = true)
    (poC : PySem.W.plainOver K C = true)
    (saC : PySem.W.findIn K (.ref C) "__setattr__" =
      some (some (.builtin "object.__setattr__")))
    (haC : PySem.W.findIn K (.ref C) "__class__" =
      some (some (.builtin "object.__class__")))
    (hmC : PySem.W.mroIn K C (.type "object") = some true)
    (mkC : PySem.W.makesIn K C = true)
    (kcC : PySem.W.keepIn K (.ref C) = true)
    (n0C : PySem.W.findIn K (.ref C) "listed" = some none)
    (n1C : PySem.W.findIn K (.ref C) "places" = some none)
    (c40 : PySem.W.nsIn K mainGlobals "MAX_ITEMS" = some (some (.int 40 t40)))
    (c8 : PySem.W.nsIn K mainGlobals "MAX_NAME_LENGTH" = some (some (.int 8 t8)))
    (zlen : PySem.W.nsIn K mainGlobals "len" = some none)
    (zdivmod : PySem.W.nsIn K mainGlobals "divmod" = some none)
    (zabs : PySem.W.nsIn K mainGlobals "abs" = some none)
    (zmax : PySem.W.nsIn K mainGlobals "max" = some none)
    (zmin : PySem.W.nsIn K mainGlobals "min" = some none)
    (zrange : PySem.W.nsIn K mainGlobals "range" = some none)
    (zenumerate : PySem.W.nsIn K mainGlobals "enumerate" = some none)
    (zisinstance : PySem.W.nsIn K mainGlobals "isinstance" = some none)
    (zstr : PySem.W.nsIn K mainGlobals "str" = some none)
    (zlist : PySem.W.nsIn K mainGlobals "list" = some none)
    (zset : PySem.W.nsIn K mainGlobals "set" = some none)
    (zall : PySem.W.nsIn K mainGlobals "all" = some none)
    (zrepr : PySem.W.nsIn K mainGlobals "repr" = some none)
    (ztuple : PySem.W.nsIn K mainGlobals "tuple" = some none)
    (zLookupError : PySem.W.nsIn K mainGlobals "LookupError" = some none)
    (aCO : PySem.W.nsIn K mainGlobals "OrderError" = some (some (.ref CO)))
    (icCO : PySem.W.isClsIn K CO = true)
    (tCO : PySem.W.typeIn K (.ref CO) = some (.type "type"))
    (aCM : PySem.W.nsIn K mainGlobals "UnknownMessage" = some (some (.ref CM)))
    (icCM : PySem.W.isClsIn K CM = true)
    (tCM : PySem.W.typeIn K (.ref CM) = some (.type "type"))
    (aCR : PySem.W.nsIn K mainGlobals "UnknownReplica" = some (some (.ref CR)))
    (icCR : PySem.W.isClsIn K CR = true)
    (tCR : PySem.W.typeIn K (.ref CR) = some (.type "type"))
    (aCS : PySem.W.nsIn K mainGlobals "UnknownUser" = some (some (.ref CS)))
    (icCS : PySem.W.isClsIn K CS = true)
    (tCS : PySem.W.typeIn K (.ref CS) = some (.type "type"))
    (aCU : PySem.W.nsIn K mainGlobals "UnknownItem" = some (some (.ref CU)))
    (icCU : PySem.W.isClsIn K CU = true)
    (xCU : K.lookup CU = some (excClassObj nmCU qCU CU NCU bsCU leTail
      true snCU subCU abCU colCU ddCU k0CU k1CU k2CU k3CU k5CU
      "LookupError.__new__"))
    (saCU : PySem.W.findIn K (.ref CU) "__setattr__" =
      some (some (.builtin "object.__setattr__")))
    (gaCU : PySem.W.findIn K (.ref CU) "__getattribute__" =
      some (some (.builtin "BaseException.__getattribute__")))
    (ggCU : PySem.W.findIn K (.ref CU) "__getattr__" = some none)
    (haCU : PySem.W.findIn K (.ref CU) "__class__" =
      some (some (.builtin "object.__class__")))
    (hmCU : PySem.W.mroIn K CU (.type "object") = some true)
    (eCCU : PySem.W.subIn K (.ref CU) (.type "BaseException") = some true)
    (tCCU : PySem.W.typeIn K (.ref CU) = some (.type "type"))
    (kCCU : PySem.W.keepIn K (.ref CU) = true)
    (hCCU : PySem.W.hasDictIn K CU = true)
    (n0CU : PySem.W.findIn K (.ref CU) "value" = some none)
    (ag1 : PySem.W.findIn K (.ref CU) "__init__" = some (some (.ref g1)))
    (tg1 : PySem.W.typeIn K (.ref g1) = some (.type "function"))
    (lg1 : K.lookup g1 = some ⟨ocg1, odg1, .func (PySem.W.fnOf "__init__" "UnknownItem.__init__"
      (defArgs s_UnknownItem_init) (defBody s_UnknownItem_init) (defScope s_UnknownItem_init) .none kVg1 dcg1 pmg1 ang1 cdg1
      ctg1), slg1⟩)
    (cg1 : PySem.W.codeIn K cdg1 "UnknownItem.__init__" = true)
    (kg1 : PySem.W.keepIn K (.ref g1) = true)
    (sCUCU : PySem.W.subIn K (.ref CU) (.ref CU) = some true)
    (sCUCO : PySem.W.subIn K (.ref CU) (.ref CO) = some false)
    (nCUCO : (CU == CO) = false)
    (sCUCM : PySem.W.subIn K (.ref CU) (.ref CM) = some false)
    (nCUCM : (CU == CM) = false)
    (sCUCR : PySem.W.subIn K (.ref CU) (.ref CR) = some false)
    (nCUCR : (CU == CR) = false)
    (sCUCS : PySem.W.subIn K (.ref CU) (.ref CS) = some false)
    (nCUCS : (CU == CS) = false)
    (sCULookupError : PySem.W.subIn K (.ref CU) (.type "LookupError") = some true)
    (u0B : PySem.W.subIn K (.type "NoneType") (.ref C) = some false)
    (u1B : PySem.W.subIn K (.type "bool") (.ref C) = some false)
    (u2B : PySem.W.subIn K (.type "int") (.ref C) = some false)
    (u3B : PySem.W.subIn K (.type "str") (.ref C) = some false)
    (u4B : PySem.W.subIn K (.type "list") (.ref C) = some false)
    (u5B : PySem.W.subIn K (.type "tuple") (.ref C) = some false)
    (u6B : PySem.W.subIn K (.type "dict") (.ref C) = some false)
    (v0B : PySem.W.subIn K (.ref C) (.type "NoneType") = some false)
    (v1B : PySem.W.subIn K (.ref C) (.type "bool") = some false)
    (v2B : PySem.W.subIn K (.ref C) (.type "int") = some false)
    (v3B : PySem.W.subIn K (.ref C) (.type "str") = some false)
    (v4B : PySem.W.subIn K (.ref C) (.type "list") = some false)
    (v5B : PySem.W.subIn K (.ref C) (.type "tuple") = some false)
    (v6B : PySem.W.subIn K (.ref C) (.type "dict") = some false)
    (icB : PySem.W.isClsIn K C = true)
    (tcB : PySem.W.typeIn K (.ref C) = some (.type "type"))
    (topB : PySem.W.subIn K (.ref C) (.type "object") = some true)
    (noB : PySem.W.findIn K (.ref C) "__ne__" = some (some (.builtin "object.__ne__")))
    (smod : ∃ mm, h.Ns sysModules mm)
    : ∃ (fd : FuncData) (cs : List (Addr × Addr)) (sp : Sp), Bare0 K h cs ∧
      (∀ (s : Shared) (v : Value), BindsTo s fd ⟨[v], []⟩ [("_law_script", v)]) ∧
      (∀ (H : Hp) (a : Addr) (ns : List Int), ns.length ≤ 63 →
        (∀ p ∈ cs, H p.2 = some (.tbl #[])) → SqL K H a (ns.map V.int) →
        sp [.ref a] H (fun v _ => v = .bl true) E0) ∧
      ∀ base : Heap, K.In base → base.Ns mainGlobals mg →
        (∀ p ∈ cs, LamX.TabB base mg p.1 p.2) →
        (∀ b o, h.get? b = some o → (∀ z, o.data ≠ .seq z 0) →
          o.data ≠ .fields #[] → base.get? b = some o) →
        FnG l.prog w K mg base CX0 9 fa fd ["_law_script"] sp := by
  cases hfa.symm.trans (PySem.W.mg_of X G af17)
  have B : Bl mg := ⟨PySem.W.mg_none_of X G zlen, PySem.W.mg_none_of X G zdivmod, PySem.W.mg_none_of X G zabs, PySem.W.mg_none_of X G zmax, PySem.W.mg_none_of X G zmin, PySem.W.mg_none_of X G zrange, PySem.W.mg_none_of X G zenumerate, PySem.W.mg_none_of X G zisinstance, PySem.W.mg_none_of X G zstr, PySem.W.mg_none_of X G zlist, PySem.W.mg_none_of X G zset, PySem.W.mg_none_of X G zall, PySem.W.mg_none_of X G zrepr⟩
  have TC : BC K mg C := ⟨⟨⟨pgC, hdC, poC, saC⟩, haC, hn, htk, hmC,
    if_pos (beq_self_eq_true _)⟩, n0C, n1C,
    PySem.W.mg_of X G aC, kcC⟩
  obtain ⟨d1, D1⟩ := defAt (st := s_is_name) (ps := ["value"]) X G af1 lf1 cf1 kf1
    fun _ _ _ _ _ _ us hl => match us, hl with | [_], _ => rfl
  obtain ⟨d2, D2⟩ := defAt (st := s_names_fault) (ps := ["value", "most"]) X G af2 lf2 cf2 kf2
    fun _ _ _ _ _ _ us hl => match us, hl with | [_, _], _ => rfl
  obtain ⟨d3, D3⟩ := defAt (st := s_check_items) (ps := ["items"]) X G af3 lf3 cf3 kf3
    fun _ _ _ _ _ _ us hl => match us, hl with | [_], _ => rfl
  obtain ⟨d4, D4⟩ := defAt (st := s_Lrng) (ps := ["_law_script", "_law_k"]) X G af4 lf4 cf4 kf4
    fun _ _ _ _ _ _ us hl => match us, hl with | [_, _], _ => rfl
  obtain ⟨d5, D5⟩ := defAt (st := s_Ldraw) (ps := ["_law_rng_here", "_law_many"]) X G af5 lf5 cf5 kf5
    fun _ _ _ _ _ _ us hl => match us, hl with | [_, _], _ => rfl
  obtain ⟨d6, D6⟩ := defAt (st := s_Lchoice) (ps := ["_law_rng_here", "_law_options"]) X G af6 lf6 cf6 kf6
    fun _ _ _ _ _ _ us hl => match us, hl with | [_, _], _ => rfl
  obtain ⟨d7, D7⟩ := defAt (st := s_Lname) (ps := ["_law_rng_here", "_law_used"]) X G af7 lf7 cf7 kf7
    fun _ _ _ _ _ _ us hl => match us, hl with | [_, _], _ => rfl
  obtain ⟨d8, D8⟩ := defAt (st := s_Lnames) (ps := ["_law_rng_here", "_law_many", "_law_used"]) X G af8 lf8 cf8 kf8
    fun _ _ _ _ _ _ us hl => match us, hl with | [_, _, _], _ => rfl
  obtain ⟨d9, D9⟩ := defAt (st := s_Linvalid_item) (ps := ["_law_rng_here", "_law_items"]) X G af9 lf9 cf9 kf9
    fun _ _ _ _ _ _ us hl => match us, hl with | [_, _], _ => rfl
  obtain ⟨d10, D10⟩ := defAt (st := s_Lerror) (ps := ["_law_call"]) X G af10 lf10 cf10 kf10
    fun _ _ _ _ _ _ us hl => match us, hl with | [_], _ => rfl
  obtain ⟨d11, D11⟩ := defAt (st := s_Lis_name) (ps := ["_law_value"]) X G af11 lf11 cf11 kf11
    fun _ _ _ _ _ _ us hl => match us, hl with | [_], _ => rfl
  obtain ⟨d12, D12, hcodeE⟩ := defAtC (st := s_Lerrors_right) (ps := ["_law_rng_here", "_law_base", "_law_items"]) X G af12 lf12 cf12 kf12
    fun _ _ _ _ _ _ us hl => match us, hl with | [_, _, _], _ => rfl
  obtain ⟨d13, D13⟩ := defAt (st := s_Lequal) (ps := ["_law_first", "_law_second", "_law_expected"]) X G af13 lf13 cf13 kf13
    fun _ _ _ _ _ _ us hl => match us, hl with | [_, _, _], _ => rfl
  obtain ⟨d14, D14⟩ := defAt (st := s_Lequality_right) (ps := ["_law_rng_here", "_law_base", "_law_items"]) X G af14 lf14 cf14 kf14
    fun _ _ _ _ _ _ us hl => match us, hl with | [_, _, _], _ => rfl
  obtain ⟨d15, D15⟩ := defAt (st := s_Ltold_right) (ps := ["_law_base", "_law_items"]) X G af15 lf15 cf15 kf15
    fun _ _ _ _ _ _ us hl => match us, hl with | [_, _], _ => rfl
  obtain ⟨d16, D16⟩ := defAt (st := s_Lcheck) (ps := ["_law_rng_here", "_law_items"]) X G af16 lf16 cf16 kf16
    fun _ _ _ _ _ _ us hl => match us, hl with | [_, _], _ => rfl
  obtain ⟨d17, D17⟩ := defAt (st := s_law) (ps := ["_law_script"]) X G af17 lf17 cf17 kf17
    fun _ _ _ _ _ _ us hl => match us, hl with | [_], _ => rfl
  obtain ⟨e1, M1⟩ := methAt (st := s_Base_init) (ps := ["self", "items"]) am1 im1 lm1 cm1 km1
    fun _ _ _ _ _ _ us hl => match us, hl with | [_, _], _ => rfl
  obtain ⟨e2, M2⟩ := methAt (st := s_Base_eq) (ps := ["self", "other"]) am2 im2 lm2 cm2 km2
    fun _ _ _ _ _ _ us hl => match us, hl with | [_, _], _ => rfl
  obtain ⟨e3, M3⟩ := methAt (st := s_Base_len) (ps := ["self"]) am3 im3 lm3 cm3 km3
    fun _ _ _ _ _ _ us hl => match us, hl with | [_], _ => rfl
  obtain ⟨e4, M4⟩ := methAt (st := s_Base_repr) (ps := ["self"]) am4 im4 lm4 cm4 km4
    fun _ _ _ _ _ _ us hl => match us, hl with | [_], _ => rfl
  obtain ⟨e5, M5⟩ := methAt (st := s_Base_names) (ps := ["self"]) am5 im5 lm5 cm5 km5
    fun _ _ _ _ _ _ us hl => match us, hl with | [_], _ => rfl
  obtain ⟨e6, M6⟩ := methAt (st := s_Base_has_item) (ps := ["self", "value"]) am6 im6 lm6 cm6 km6
    fun _ _ _ _ _ _ us hl => match us, hl with | [_, _], _ => rfl
  obtain ⟨e7, M7⟩ := methAt (st := s_Base_position_of) (ps := ["self", "item"]) am7 im7 lm7 cm7 km7
    fun _ _ _ _ _ _ us hl => match us, hl with | [_, _], _ => rfl
  obtain ⟨e8, M8⟩ := methAt (st := s_Base_precedes) (ps := ["self", "first", "second"]) am8 im8 lm8 cm8 km8
    fun _ _ _ _ _ _ us hl => match us, hl with | [_, _, _], _ => rfl
  obtain ⟨h1, I1⟩ := xInit (q := "UnknownItem.__init__") (st := s_UnknownItem_init) (ps := ["self", "value"]) ag1 tg1 lg1 cg1 kg1
    fun _ _ _ _ _ _ us hl => match us, hl with | [_, _], _ => rfl
  have xcCU : XClF K CU := ⟨⟨⟨_, _, _, _, _, _, _, _, _, _, _, _, _, _, _, _, _, _, fam_LE, xCU⟩, saCU, eCCU, tCCU, kCCU⟩, ⟨gaCU, ggCU, eCCU, hCCU⟩,
    haCU, hn, htk, hmCU⟩
  have XX : XU11 K mg CU CO CM CR CS := ⟨xcCU, PySem.W.mg_of X G aCU, PySem.W.mg_of X G aCO, PySem.W.mg_of X G aCM, PySem.W.mg_of X G aCR, PySem.W.mg_of X G aCS,
    PySem.W.mg_none_of X G zLookupError, exm2 eCCU icCU tCCU sCUCU,
    kitAny_cons (kit2 nCUCO icCO tCO sCUCO) (fun _ => kitAny_cons (kit2 nCUCM icCM tCM sCUCM) (fun _ => kitAny_cons (kit2 nCUCR icCR tCR sCUCR) (fun _ => kitAny_cons (kit2 nCUCS icCS tCS sCUCS) (fun _ => rfl) nofun) nofun) nofun) nofun,
    kitT (by decide +kernel) sCULookupError, n0CU⟩
  have kuB : ∀ T ∈ ["NoneType", "bool", "int", "str", "list", "tuple", "dict"],
      PySem.W.subIn K (.type T) (.ref C) = some false := by
    intro T hT
    simp only [List.mem_cons, List.mem_nil_iff, or_false] at hT
    rcases hT with rfl | rfl | rfl | rfl | rfl | rfl | rfl
    · exact u0B
    · exact u1B
    · exact u2B
    · exact u3B
    · exact u4B
    · exact u5B
    · exact u6B
  have kvB : ∀ T ∈ ["NoneType", "bool", "int", "str", "list", "tuple", "dict"],
      PySem.W.subIn K (.ref C) (.type T) = some false := by
    intro T hT
    simp only [List.mem_cons, List.mem_nil_iff, or_false] at hT
    rcases hT with rfl | rfl | rfl | rfl | rfl | rfl | rfl
    · exact v0B
    · exact v1B
    · exact v2B
    · exact v3B
    · exact v4B
    · exact v5B
    · exact v6B
  have KN : Kin11 K C := ⟨⟨kuB, kvB⟩, fun T hT => kitB icB tcB (kuB T hT), topB, noB⟩
  refine ⟨d17, [(tcE, tpE)], spLaw11 K [(tpE, lamQ11)],
    ⟨fun p hp => ?_, fun p hp => ?_, fun p hp => ?_⟩,
    fun s v => D17.bt s [v] rfl, fun H a ns hl ht hS => ⟨a, ns, rfl, hS, hl, fun p hp => ?_, fun _ => rfl⟩,
    fun base _ _ tb kb => ?_⟩
  · simp only [List.mem_cons, List.not_mem_nil, or_false] at hp
    rcases hp with rfl
    · exact PySem.W.codeHd_of_K X tkE
  · simp only [List.mem_cons, List.not_mem_nil, or_false] at hp
    rcases hp with rfl
    · exact teE
  · simp only [List.mem_cons, List.not_mem_nil, or_false] at hp
    rcases hp with rfl
    · exact tnE
  · simp only [List.mem_cons, List.not_mem_nil, or_false] at hp
    rcases hp with rfl
    · exact LamX.TabS.nil (ht _ (.head _))
  have sm := sys_base smod kb
  exact all11 B (PySem.W.mg_none_of X G ztuple) TC mkC XX KN sm (PySem.W.mg_of X G c40) (PySem.W.mg_of X G c8)
    D1 D2 D3 D4 D5 D6 D7 D8 D9 D10 D11 D12 D13 D14 D15 D16 D17 M1 M2 M3 M4 M5 M6 M7 M8 I1 hcodeE (tb _ (.head _))
end OM
open PySem PySem.W PyProof.Rows
set_option maxRecDepth 100000 in
set_option maxHeartbeats 0 in
theorem PySem.Challenge.cw_ordermerge_k11_base_accessors_holds : PySem.Challenge.rw_ordermerge_k11_base_accessors.Holds := by
  w_on; o_law; k_head; (case hw => w_witness2)
  k_fill
  refine OM.walkTS (l := PySem.Challenge.rw_ordermerge_k11_base_accessors) (n := 63) (k := 9)
    (x := "_law_script") rfl (by decide) (by decide +kernel) rfl
    ⟨rfl, by decide, by decide⟩ (fun w h Y => PySem.W.km_in_of Y) ?F
  case F =>
    intro w mg fa h Y KX G hmg smod
    refine' OM.fin11 KX G hmg ?af1
      ?lf1
      ?cf1
      ?kf1
      ?af2
      ?lf2
      ?cf2
      ?kf2
      ?af3
      ?lf3
      ?cf3
      ?kf3
      ?af4
      ?lf4
      ?cf4
      ?kf4
      ?af5
      ?lf5
      ?cf5
      ?kf5
      ?af6
      ?lf6
      ?cf6
      ?kf6
      ?af7
      ?lf7
      ?cf7
      ?kf7
      ?af8
      ?lf8
      ?cf8
      ?kf8
      ?af9
      ?lf9
      ?cf9
      ?kf9
      ?af10
      ?lf10
      ?cf10
      ?kf10
      ?af11
      ?lf11
      ?cf11
      ?kf11
      ?af12
      ?lf12
      ?cf12
      ?tlE
      ?tvE
      ?tnE
      ?tkE
      ?teE
      ?kf12
      ?af13
      ?lf13
      ?cf13
      ?kf13
      ?af14
      ?lf14
      ?cf14
      ?kf14
      ?af15
      ?lf15
      ?cf15
      ?kf15
      ?af16
      ?lf16
      ?cf16
      ?kf16
      ?af17
      ?lf17
      ?cf17
      ?kf17
      ?aC
      ?am1
      ?im1
      ?lm1
      ?cm1
      ?km1
      ?am2
      ?im2
      ?lm2
      ?cm2
      ?km2
      ?am3
      ?im3
      ?lm3
      ?cm3
      ?km3
      ?am4
      ?im4
      ?lm4
      ?cm4
      ?km4
      ?am5
      ?im5
      ?lm5
      ?cm5
      ?km5
      ?am6
      ?im6
      ?lm6
      ?cm6
      ?km6
      ?am7
      ?im7
      ?lm7
      ?cm7
      ?km7
      ?am8
      ?im8
      ?lm8
      ?cm8
      ?km8
      ?hn
      ?htk
      ?pgC
      ?hdC
      ?poC
      ?saC
      ?haC
      ?hmC
      ?mkC
      ?kcC
      ?n0C
      ?n1C
      ?c40
      ?c8
      ?zlen
      ?zdivmod
      ?zabs
      ?zmax
      ?zmin
      ?zrange
      ?zenumerate
      ?zisinstance
      ?zstr
      ?zlist
      ?zset
      ?zall
      ?zrepr
      ?ztuple
      ?zLookupError
      ?aCO
      ?icCO
      ?tCO
      ?aCM
      ?icCM
      ?tCM
      ?aCR
      ?icCR
      ?tCR
      ?aCS
      ?icCS
      ?tCS
      ?aCU
      ?icCU
      ?xCU
      ?saCU
      ?gaCU
      ?ggCU
      ?haCU
      ?hmCU
      ?eCCU
      ?tCCU
      ?kCCU
      ?hCCU
      ?n0CU
      ?ag1
      ?tg1
      ?lg1
      ?cg1
      ?kg1
      ?sCUCU
      ?sCUCO
      ?nCUCO
      ?sCUCM
      ?nCUCM
      ?sCUCR
      ?nCUCR
      ?sCUCS
      ?nCUCS
      ?sCULookupError
      ?u0B
      ?u1B
      ?u2B
      ?u3B
      ?u4B
      ?u5B
      ?u6B
      ?v0B
      ?v1B
      ?v2B
      ?v3B
      ?v4B
      ?v5B
      ?v6B
      ?icB
      ?tcB
      ?topB
      ?noB
      ?smod
    (case af1 => k_is)
    (case lf1 => k_is)
    (case cf1 => k_is)
    (case kf1 => k_is)
    (case af2 => k_is)
    (case lf2 => k_is)
    (case cf2 => k_is)
    (case kf2 => k_is)
    (case af3 => k_is)
    (case lf3 => k_is)
    (case cf3 => k_is)
    (case kf3 => k_is)
    (case af4 => k_is)
    (case lf4 => k_is)
    (case cf4 => k_is)
    (case kf4 => k_is)
    (case af5 => k_is)
    (case lf5 => k_is)
    (case cf5 => k_is)
    (case kf5 => k_is)
    (case af6 => k_is)
    (case lf6 => k_is)
    (case cf6 => k_is)
    (case kf6 => k_is)
    (case af7 => k_is)
    (case lf7 => k_is)
    (case cf7 => k_is)
    (case kf7 => k_is)
    (case af8 => k_is)
    (case lf8 => k_is)
    (case cf8 => k_is)
    (case kf8 => k_is)
    (case af9 => k_is)
    (case lf9 => k_is)
    (case cf9 => k_is)
    (case kf9 => k_is)
    (case af10 => k_is)
    (case lf10 => k_is)
    (case cf10 => k_is)
    (case kf10 => k_is)
    (case af11 => k_is)
    (case lf11 => k_is)
    (case cf11 => k_is)
    (case kf11 => k_is)
    (case af12 => k_is)
    (case lf12 => k_is)
    (case cf12 => k_is)
    (case tlE => k_is)
    (case tvE => rfl)
    (case tnE => first | rfl | k_is)
    (case tkE => first | kernel_rfl | rfl | k_is)
    (case teE => exact PySem.W.km_tabs_of Y _ (by simp))
    (case kf12 => k_is)
    (case af13 => k_is)
    (case lf13 => k_is)
    (case cf13 => k_is)
    (case kf13 => k_is)
    (case af14 => k_is)
    (case lf14 => k_is)
    (case cf14 => k_is)
    (case kf14 => k_is)
    (case af15 => k_is)
    (case lf15 => k_is)
    (case cf15 => k_is)
    (case kf15 => k_is)
    (case af16 => k_is)
    (case lf16 => k_is)
    (case cf16 => k_is)
    (case kf16 => k_is)
    (case af17 => k_is)
    (case lf17 => k_is)
    (case cf17 => k_is)
    (case kf17 => k_is)
    (case aC => k_is)
    (case am1 => k_is)
    (case im1 => k_is)
    (case lm1 => k_is)
    (case cm1 => k_is)
    (case km1 => k_is)
    (case am2 => k_is)
    (case im2 => k_is)
    (case lm2 => k_is)
    (case cm2 => k_is)
    (case km2 => k_is)
    (case am3 => k_is)
    (case im3 => k_is)
    (case lm3 => k_is)
    (case cm3 => k_is)
    (case km3 => k_is)
    (case am4 => k_is)
    (case im4 => k_is)
    (case lm4 => k_is)
    (case cm4 => k_is)
    (case km4 => k_is)
    (case am5 => k_is)
    (case im5 => k_is)
    (case lm5 => k_is)
    (case cm5 => k_is)
    (case km5 => k_is)
    (case am6 => k_is)
    (case im6 => k_is)
    (case lm6 => k_is)
    (case cm6 => k_is)
    (case km6 => k_is)
    (case am7 => k_is)
    (case im7 => k_is)
    (case lm7 => k_is)
    (case cm7 => k_is)
    (case km7 => k_is)
    (case am8 => k_is)
    (case im8 => k_is)
    (case lm8 => k_is)
    (case cm8 => k_is)
    (case km8 => k_is)
    (case hn => k_is)
    (case htk => k_is)
    (case pgC => k_is)
    (case hdC => k_is)
    (case poC => k_is)
    (case saC => k_is)
    (case haC => k_is)
    (case hmC => k_is)
    (case mkC => k_is)
    (case kcC => k_is)
    (case n0C => k_is)
    (case n1C => k_is)
    (case c40 => k_is)
    (case c8 => k_is)
    (case zlen => k_is)
    (case zdivmod => k_is)
    (case zabs => k_is)
    (case zmax => k_is)
    (case zmin => k_is)
    (case zrange => k_is)
    (case zenumerate => k_is)
    (case zisinstance => k_is)
    (case zstr => k_is)
    (case zlist => k_is)
    (case zset => k_is)
    (case zall => k_is)
    (case zrepr => k_is)
    (case ztuple => k_is)
    (case zLookupError => k_is)
    (case aCO => k_is)
    (case icCO => k_is)
    (case tCO => k_is)
    (case aCM => k_is)
    (case icCM => k_is)
    (case tCM => k_is)
    (case aCR => k_is)
    (case icCR => k_is)
    (case tCR => k_is)
    (case aCS => k_is)
    (case icCS => k_is)
    (case tCS => k_is)
    (case aCU => k_is)
    (case icCU => k_is)
    (case xCU => k_is)
    (case saCU => k_is)
    (case gaCU => k_is)
    (case ggCU => k_is)
    (case haCU => k_is)
    (case hmCU => k_is)
    (case eCCU => k_is)
    (case tCCU => k_is)
    (case kCCU => k_is)
    (case hCCU => k_is)
    (case n0CU => k_is)
    (case ag1 => k_is)
    (case tg1 => k_is)
    (case lg1 => k_is)
    (case cg1 => k_is)
    (case kg1 => k_is)
    (case sCUCU => first | rfl | k_is)
    (case sCUCO => first | rfl | k_is)
    (case nCUCO => first | rfl | decide | k_is)
    (case sCUCM => first | rfl | k_is)
    (case nCUCM => first | rfl | decide | k_is)
    (case sCUCR => first | rfl | k_is)
    (case nCUCR => first | rfl | decide | k_is)
    (case sCUCS => first | rfl | k_is)
    (case nCUCS => first | rfl | decide | k_is)
    (case sCULookupError => k_is)
    (case u0B => k_is)
    (case u1B => k_is)
    (case u2B => k_is)
    (case u3B => k_is)
    (case u4B => k_is)
    (case u5B => k_is)
    (case u6B => k_is)
    (case v0B => k_is)
    (case v1B => k_is)
    (case v2B => k_is)
    (case v3B => k_is)
    (case v4B => k_is)
    (case v5B => k_is)
    (case v6B => k_is)
    (case icB => k_is)
    (case tcB => k_is)
    (case topB => k_is)
    (case noB => k_is)
    (case smod => exact smod)
