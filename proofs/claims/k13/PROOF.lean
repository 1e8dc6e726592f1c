import PyProof.Rows.All
import Wide.All
import OpenK.AllK
import Wide.FinOn
import HandS.ForMost
import HandS.Codes
import HandS.FStr
import HandS.Walk
import HandS.FStrTup
import HandS.Exc
import HandS.ExcInit
import HandS.ExcField
import HandS.IsInst
import HandS.TryOnly
import HandS.WordsExc
import KE.KExcIs
import HandS.CallSlots
import HandS.Dict
import HandS.ExcCtx
import HandS.SuiteRaise
import HandS.RaiseFrom
import HandS.ExcInitHot
import HandS.EndTab
import HandS.TryMany
import KE.KExcInit
import PyProof.ExcBaseAll.LookupError
import HandS.Lambda
import HandS.SetKeys
import HandS.DictComp
import HandS.Style
import PySem.Challenge.RW_ordermerge_k13_orders_judged
set_option Elab.async false
set_option linter.all false
set_option maxRecDepth 100000
set_option maxHeartbeats 8000000
/-! a def's promise where no repr is under way -/
namespace OM
open PySem PySem.Spec PyProof.Rows L2

/-- FnOk, for callers around whom nothing is being shown -/
structure FnG (P : Program) (w : World) (K : PySem.W.Frag)
    (mg : Str → Option Value) (base : Heap) (CX : CXT)
    (k : Nat) (f : Addr) (fd : FuncData) (ps : List Str) (sp : Sp) : Prop where
  len : ∀ vs H Q E, sp vs H Q E → vs.length = ps.length
  run : ∀ (A : Around) (outer : List Env) (s : Shared) (H : Hp)
      (args : Args) (us : List Value) (vs : List V) (Q : VK) (E : XK),
    Room k A → A.guards = some [] →
    Env0 P w K mg base A outer s H →
    BindsTo s fd args (ps.zip us) → Vals vs us → sp vs H Q E →
    codeAny (model P w) A (.call (.ref f) args)
      (CR CX outer P w H s Q E) s

section
variable {P : Program} {w : World} {K : PySem.W.Frag}
  {mg : Str → Option Value} {base : Heap} {CX : CXT}
theorem FnG.ofOk {k : Nat} {f : Addr} {fd : FuncData} {ps : List Str} {sp : Sp}
    (F : FnOk P w K mg base CX k f fd ps sp) :
    FnG P w K mg base CX k f fd ps sp :=
  ⟨F.len, fun A o s H ar us vs Q E r _ e b v z =>
    F.run A o s H ar us vs Q E r e b v z⟩

theorem FnG.mk' {k : Nat} {f : Addr} {nm qual : Str} {pr : Arguments}
    {bd : List Stmt} {sc : Scope} {dV kV dc pm cv ct oc : Value}
    {an od : Option Addr} {sl : Array (Option Value)} {N ps : List Str} {sp : Sp}
    (lk : K.lookup f = some ⟨oc, od,
      .func (PySem.W.fnOf nm qual pr bd sc dV kV dc pm an cv ct), sl⟩)
    (hc : PySem.W.codeIn K cv qual = true) (S : FnScope N ps sc)
    (len : ∀ vs H Q E, sp vs H Q E → vs.length = ps.length)
    (body : ∀ (A : Around) (outer : List Env) (s : Shared) (H : Hp)
        (vs : List V) (Q : VK) (E : XK),
      Room k (A.deeper (envOfC qual sc s.heap.objs.size f cv)) →
      A.guards = some [] → sp vs H Q E →
      ∃ t, PSs (cxOf CX P w K mg base N qual sc f cv A outer s H E) bd t ∧
        t { nx := fun _ H' => Q .non H', rt := Q } (start N vs) H) :
    FnG P w K mg base CX (k + 1) f
      (PySem.W.fnOf nm qual pr bd sc dV kV dc pm an cv ct) ps sp := by
  refine ⟨len, ?_⟩
  intro A outer s H args us vs Q E room gd env bnd rel hsp
  have kin : K.In s.heap :=
    env.mod.kin.keeps fun b o q => (env.bs b o q).1
  have nol : s.heap.NoLimit :=
    env.mod.nolimit.keeps fun b o q => (env.bs b o q).1
  have kinds : ∀ y ∈ ps.zip us, sc.names.lookup y.1 = some .local ∨
      (sc.names.lookup y.1 = some .cell ∧
        ((cellsFrom (s.heap.objs.size + 1) sc.names []).lookup y.1).isSome
          = true) := by
    rintro ⟨n, v⟩ hy
    cases S.par n (List.of_mem_zip hy).1 with
    | inl q => exact Or.inl q
    | inr q => exact Or.inr ⟨q, PySem.W.cellsFrom_some _ _ _ (.inl q)⟩
  refine codeAny_call_function room.depth (kin _ _ lk) rfl S.co S.gen rfl
    (PySem.W.codeRec_of kin hc) (bnd _ _ _ _ ?_)
  refine wpAny_newFunctionEnv_cells S.kind kinds ?_
  intro env' he s1 x
  subst he
  refine ⟨nol.keeps x.toInCall.keep, codeAny_func ?_⟩
  obtain ⟨t, ht, hq⟩ := body A outer s H vs Q E (room.deeper _) gd hsp
  have I := inv_start (CX := CX) (E := E) S room.hd env
    (len _ _ _ _ hsp) rel x
  refine wpAny_mono (ht.run [] s1 (start N vs) H _ I hq) ?_
    (fun e s' z => z)
  intro fl s' hs
  cases fl with
  | ret u =>
    obtain ⟨v, σ', H', J, rv, q⟩ := hs
    exact ⟨v, H', J.os, J.bare, J.base, J.hok, rv, q⟩
  | next =>
    obtain ⟨σ', H', J, q⟩ := hs
    exact ⟨V.non, H', J.os, J.bare, J.base, J.hok, rfl, q⟩
  | brk => exact (hs.choose_spec.choose_spec.2 : False).elim
  | cont => exact (hs.choose_spec.choose_spec.2 : False).elim

/-- a def of the text, by its body -/
theorem okG {x qual : Str} {st : Stmt} {f : Addr} {fd : FuncData}
    {N ps : List Str} {k : Nat} {sp : Sp} (F : Fun K x qual st f fd)
    (S : FnScope N ps (defScope st))
    (len : ∀ vs H Q E, sp vs H Q E → vs.length = ps.length)
    (body : ∀ (cv : Value) (A : Around) (outer : List Env) (s : Shared)
        (H : Hp) (vs : List V) (Q : VK) (E : XK),
      Room k (A.deeper (envOfC qual (defScope st) s.heap.objs.size f cv)) →
      A.guards = some [] → sp vs H Q E →
      ∃ t, PSs (cxOf CX0 P w K mg base N qual (defScope st) f cv A
          outer s H E).nox (defBody st) t ∧
        t { nx := fun _ H' => Q .non H', rt := Q } (start N vs) H) :
    FnG P w K mg base CX0 (k + 1) f fd ps sp := by
  obtain ⟨oc, od, kV, dc, pm, an, cv, ct, sl, rfl, lk, hc⟩ := F.ex
  refine FnG.mk' lk hc S len ?_
  intro A outer s H vs Q E room gd hsp
  obtain ⟨t, h, q⟩ := body cv A outer s H vs Q E room gd hsp
  exact ⟨t, h.nox, q⟩
end

section
variable {X : Cx} {CX : CXT} {k : Nat} {f : Addr} {fd : FuncData}
  {ps : List Str} {sp : Sp} {dvs : List V} {ds : List Value} {E : XK}
theorem runG {pins : List (Addr × Obj)} {σ : L2.St} {H : Hp} {s : Shared}
    {Q : VK} {us : List Value} {vs : List V}
    (F : FnG X.prog X.w X.K X.mg X.base CX k f fd ps sp)
    (room : Room k X.A) (gd : X.A.guards = some [])
    (hb : Binds X.K fd ps ds) (hd : Vals dvs ds) (hx : Passes CX X E)
    (I : Inv X pins σ H s) (r : Vals vs us) (h : sp (vs ++ dvs) H Q E) :
    wpAny (model X.prog X.w) X.A (call (.ref f) us) (EP X pins σ Q) X.xe s := by
  have rr := r.append hd
  have hl : (us ++ ds).length = ps.length :=
    rr.length.symm.trans (F.len _ _ _ _ h)
  refine wpAny_call (codeAny_mono (F.run X.A X.stack s H ⟨us, []⟩ (us ++ ds)
    (vs ++ dvs) Q E room gd I.env0 (hb s us I.kIn hl) rr h) ?_)
  intro r s' hq
  match r, hq with
  | .error e, hq => exact hx pins σ H s e s' I hq
  | .ok (.ret u), hq => exact I.after hq
  | .ok .next, hq => exact False.elim hq
  | .ok .brk, hq => exact False.elim hq
  | .ok .cont, hq => exact False.elim hq

theorem pe_callG {x : Str} {p pos : Pos} {e : Expr} {es : List Expr} {t : TA}
    (F : FnG X.prog X.w X.K X.mg X.base CX k f fd ps sp)
    (room : Room k X.A) (gd : X.A.guards = some []) (hg : Gl X x)
    (hm : X.mg x = some (.ref f)) (hk : PySem.W.keepIn X.K (.ref f) = true)
    (hb : Binds X.K fd ps ds) (hd : Vals dvs ds) (hx : Passes CX X E)
    (ha : PA X (e :: es) t)
    (h1 : (x == ("__debug__" : Str)) = false := by decide)
    (h2 : starEach (e :: es) X.env =
      (false, eval e X.env) :: starEach es X.env := by rfl)
    (h3 : (backTo pos (starEach es X.env)).any (·.1) = false := by rfl) :
    PE X (.Call (.Name x p) (e :: es) [] pos) (tCall sp dvs E t) := by
  constructor
  intro pins s σ H Q I h
  refine wpAny_Call_Name_kw (ld_glob I hg hm ?_ h1)
  refine PySem.W.callWith_K (h₀ := X.base) I.ok.mod.kin hk
    (thn (ha.run pos pins s σ H _ I h) ?_) h2 h3
  rintro us s1 ⟨vs, H1, I1, r, q⟩
  exact ⟨I1.kIn, runG F room gd hb hd hx I1 r q⟩
end

/-! ### repr of data -/
section
variable {X : Cx}
theorem DpAll.noDict : ∀ {K : PySem.W.Frag} {H : Hp} (ds : List PyData)
    {vs : List V}, (∀ d ∈ ds, ∀ v, Dp K H v d → d.hasDict = false) →
    DpAll K H vs ds → PyData.hasDictAll ds = false
  | _, _, [], _, _, _ => by simp only [PyData.hasDictAll]
  | _, _, d :: ds, _, f, h => by
    cases h with
    | cons h1 h2 =>
      simp only [PyData.hasDictAll]
      rw [f d List.mem_cons_self _ h1,
        DpAll.noDict ds (fun e he => f e (List.mem_cons_of_mem _ he)) h2]
      rfl
mutual
theorem Dp.noDict {K : PySem.W.Frag} {H : Hp} :
    ∀ (d : PyData) {v : V}, Dp K H v d → d.hasDict = false
  | .none, _, _ => by simp only [PyData.hasDict]
  | .bool _, _, _ => by simp only [PyData.hasDict]
  | .int _, _, _ => by simp only [PyData.hasDict]
  | .str _, _, _ => by simp only [PyData.hasDict]
  | .list ds, _, h => by
    cases h with
    | lst _ h => simp only [PyData.hasDict]; exact Dp.noDicts ds h
  | .tuple ds, _, h => by
    cases h with
    | tup _ h => simp only [PyData.hasDict]; exact Dp.noDicts ds h
  | .dict _, _, h => by cases h
theorem Dp.noDicts {K : PySem.W.Frag} {H : Hp} :
    ∀ (ds : List PyData) {vs : List V}, DpAll K H vs ds →
      PyData.hasDictAll ds = false
  | [], _, _ => by simp only [PyData.hasDictAll]
  | d :: ds, _, h => by
    cases h with
    | cons h1 h2 =>
      simp only [PyData.hasDictAll]
      rw [Dp.noDict d h1, Dp.noDicts ds h2]
      rfl
end
/-- repr(x) of data without dicts -/
def rRepr (K : PySem.W.Frag) : List V → Hp → VK → Prop := fun xs H Q =>
  ∃ v d, xs = [v] ∧ Dp K H v d ∧ d.showable = true ∧ d.depth ≤ 60 ∧
    d.shown.length ≤ sizeLine ∧ Q (.str d.shown) H
theorem call_reprD {k : Nat} (room : Room k X.A)
    (gd : X.A.guards = some []) :
    CallR X (.builtin "repr") (rRepr X.K) := by
  intro pins s σ H xs us Q I r h
  obtain ⟨v, d, rfl, hd, sh, dp, sz, q⟩ := h
  cases r with
  | cons rv rn =>
    cases rn
    rename_i u
    obtain ⟨as, rd⟩ := Dp.reads I d v u hd rv
    have un := room.units
    cases hd with
    | non =>
      cases rv
      exact PySem.P.repr_of_none ⟨.str _, H, I.tok _, ⟨_, rfl⟩, q⟩
    | bl b =>
      cases rv
      exact PySem.P.repr_of_bool ⟨.str _, H, I.tok _, ⟨_, rfl⟩, q⟩
    | int i =>
      obtain ⟨t, rfl⟩ := rv
      refine PySem.P.repr_of_int ?_ ⟨.str _, H, I.tok _, ⟨_, rfl⟩, q⟩
      simpa [PyData.showable] using sh
    | str x =>
      obtain ⟨t, rfl⟩ := rv
      exact PySem.P.repr_of_str ⟨.str _, H, I.tok _, ⟨_, rfl⟩, q⟩ sz
    | lst a b =>
      cases rv
      refine repr_of_reads' rd sh (PyData.noDict_hsm
        (Dp.noDict _ (Dp.lst a b))) gd (by omega) (fun _ _ e => e)
        (fun h' u tk hk => ?_) sz
      exact ⟨.str _, H, I.kept hk, ⟨_, rfl⟩, q⟩
    | tup a b =>
      cases rv
      refine repr_of_reads' rd sh (PyData.noDict_hsm
        (Dp.noDict _ (Dp.tup a b))) gd (by omega) (fun _ _ e => e)
        (fun h' u tk hk => ?_) sz
      exact ⟨.str _, H, I.kept hk, ⟨_, rfl⟩, q⟩
end
end OM
namespace OM
open PySem PySem.Spec PyProof.Rows L2

/-- the law's call, nothing being shown around it -/
theorem lawG {P : Program} {w : World} {K : PySem.W.Frag}
    {mg mb : Str → Option Value} {k : Nat} {fa a : Addr} {fd : FuncData}
    {x : Str} {sp : Sp} {s1 : Shared} {vs : List Value} {ns : List Int}
    (kin : K.In s1.heap) (glob : s1.heap.Ns mainGlobals mg)
    (blt : s1.heap.Ns builtinsNs mb)
    (boot : ∀ x : Str, x ≠ "__name__" → mb x = bootBuiltins x)
    (nol : s1.heap.NoLimit) (gens : s1.gens = #[])
    (ha : s1.heap.get? a =
      some { cls := .type "list", data := .seq vs.toArray })
    (hints : IntsAre vs ns) (hl : ns.length ≤ sizeLine)
    (room : Room k callerA)
    (F : ∀ base : Heap, K.In base → base.Ns mainGlobals mg →
      FnG P w K mg base CX0 k fa fd [x] sp)
    (bind : ∀ (s : Shared) (u : Value), BindsTo s fd ⟨[u], []⟩ [(x, u)])
    (hsp : ∀ H : Hp, Only H → SqL K H a (ns.map V.int) →
      sp [.ref a] H (fun v _ => v = .bl true) E0) :
    codeAny (model P w) callerA (.call (.ref fa) ⟨[.ref a], []⟩)
      (fun r s' => r = .ok (.ret (.bool true)) ∧ OldK s1.heap s'.heap ∧
        s'.os = s1.os ∧ AllBare s'.gens) s1 := by
  have rel := vals_ints hints
  have lv := hints.length
  -- H tracks the script alone, or nothing
  suffices core : ∀ H : Hp, Only H → SqL K H a (ns.map V.int) →
      HOk P w H s1.heap → (∀ b, H b ≠ none → b = a) →
      (H a ≠ none → K.lookup a = none) →
      codeAny (model P w) callerA (.call (.ref fa) ⟨[.ref a], []⟩)
        (fun r s' => r = .ok (.ret (.bool true)) ∧ OldK s1.heap s'.heap ∧
          s'.os = s1.os ∧ AllBare s'.gens) s1 by
    by_cases hk : ∃ o, K.lookup a = some o
    · obtain ⟨o, hk⟩ := hk
      have e := kin a o hk
      rw [ha] at e
      cases e
      refine core (fun _ => none) (fun _ => Or.inl rfl) (Or.inr ?_)
        (fun b u z => ?_) (fun b z => absurd rfl z) (fun z => absurd rfl z)
      · exact ⟨_, vs.toArray, _, hk, rfl, rfl, rfl,
          by rw [List.size_toArray, lv]; exact hl, by simpa using rel⟩
      · cases (show (none : Option HO) = some u from z)
    · have hk : K.lookup a = none := by
        cases q : K.lookup a with
        | none => rfl
        | some o => exact absurd ⟨o, q⟩ hk
      let ob : Obj := { cls := .type "list", data := .seq vs.toArray }
      refine core (fun b => if b = a then
          some (.frz ob (.lst (ns.map V.int))) else none)
        (fun b => ?_) (Or.inl (Or.inr ⟨ob, if_pos rfl⟩))
        (fun b u z => ?_) (fun b z => ?_) (fun _ => hk)
      · by_cases hb : b = a
        · exact Or.inr ⟨_, _, if_pos hb⟩
        · exact Or.inl (if_neg hb)
      · by_cases hb : b = a
        · cases (if_pos hb).symm.trans z
          subst hb
          exact ⟨ha, by rw [List.length_map]; exact hl, vs, _, rel, ha⟩
        · cases (if_neg hb).symm.trans z
      · by_cases hb : b = a
        · exact hb
        · exact absurd (if_neg hb) z
  intro H only sq ok alone notK
  have untracked : ∀ {b : Addr} {o : Obj}, s1.heap.get? b = some o →
      (∀ z, o.data ≠ .seq z 0) → H b = none := by
    intro b o e d
    cases q : H b with
    | none => rfl
    | some u =>
      have z : b = a := alone b (by rw [q]; exact nofun)
      subst z
      rw [ha] at e
      cases e
      exact absurd rfl (d _)
  have ns' : ∀ {b : Addr} {m : Str → Option Value}, s1.heap.Ns b m →
      (hidT s1.heap H).Ns b m := by
    rintro b m ⟨o, es, ep, e, d, r⟩
    refine ⟨o, es, ep, hidT_get e (untracked e fun z y => ?_), d, r⟩
    cases d.symm.trans y
  have kin' : K.In (hidT s1.heap H) := by
    intro b o e
    refine hidT_get (kin b o e) ?_
    cases q : H b with
    | none => rfl
    | some u =>
      have z : b = a := alone b (by rw [q]; exact nofun)
      subst z
      rw [notK (by rw [q]; exact nofun)] at e
      cases e
  have md : Mod K mg (hidT s1.heap H) := by
    obtain ⟨mc, h1, h2⟩ := nol
    exact ⟨kin', ns' glob, ⟨mb, ns' blt, boot⟩, ⟨mc, ns' h1, h2⟩⟩
  have env : Env0 P w K mg (hidT s1.heap H) callerA [] s1 H :=
    ⟨rfl, md, fun b o e => of_hidT e, Nat.le_of_eq (hidT_size _ _), trivial,
      fun b hb => (nomatch (show b ∈ ([] : List Addr) from hb)), ok,
      .of_eq gens⟩
  refine codeAny_mono ((F _ kin' (ns' glob)).run callerA [] s1 H ⟨[.ref a], []⟩
    [.ref a] [.ref a] _ _ room rfl env (bind s1 (.ref a)) (.cons rfl .nil)
    (hsp H only sq)) ?_
  intro r s' h
  match r, h with
  | .error e, h => exact False.elim h
  | .ok .next, h => exact False.elim h
  | .ok .brk, h => exact False.elim h
  | .ok .cont, h => exact False.elim h
  | .ok (.ret u), h =>
    obtain ⟨v, H', os, bare, un, ok', rv, q⟩ := h
    cases (show v = .bl true from q)
    cases (show u = Value.bool true from rv)
    refine ⟨rfl, OldK.of_keep fun b o e => ?_, os, bare⟩
    cases q : H b with
    | none =>
      exact un.keep b o e q
        (fun z => nomatch (show b ∈ ([] : List Addr) from z)) (by simp)
    | some u =>
      cases only b with
      | inl z => rw [q] at z; cases z
      | inr z =>
        obtain ⟨ob, xs, z⟩ := z
        have e1 := (ok b _ z).1
        have e2 := (ok' b _ (un.frzs b ob _ z)).1
        rw [e] at e1
        cases e1
        exact e2

/-- what the head leaves, from the law's promise -/
theorem walkG {l : PySem.W.OpenLaw} {n k : Nat} {q : Program} {ls : List Str}
    {XP : (Str → Option Value) → Heap → Prop} {YP : World → Heap → Prop}
    {d : DefRec} {K : Params → PySem.W.Frag} {sp : PySem.W.Frag → Sp} {x : Str}
    (hn : l.most = some n) (hn2 : n ≤ sizeLine)
    (hdf : d.params.defaults = []) (room : Room k callerA)
    (hY : ∀ (w : World) (h : Heap), YP w h → (K w.params).In h)
    (F : ∀ (w : World) (mg : Str → Option Value) (fa : Addr) (h : Heap),
      (K w.params).In h → h.Ns mainGlobals mg → mg d.name = some (.ref fa) →
      ∃ fd : FuncData,
        (∀ (s : Shared) (u : Value), BindsTo s fd ⟨[u], []⟩ [(x, u)]) ∧
        ∀ base : Heap, (K w.params).In base → base.Ns mainGlobals mg →
          FnG l.prog w (K w.params) mg base CX0 k fa fd [x]
            (sp (K w.params)))
    (hsp : ∀ (K : PySem.W.Frag) (H : Hp) (a : Addr) (ns : List Int),
      ns.length ≤ n → Only H → SqL K H a (ns.map V.int) →
      sp K [.ref a] H (fun v _ => v = .bl true) E0) :
    PySem.W.WalkO q ls XP YP l.row.toRowW d []
      (fun f vs => PySem.call f vs) := by
  refine Att.attach_call hn hdf ?_
  intro w s₀ s1 mg mb fa o pm cd doc a vs ns G Y ho hd hcd hmg hobj hi hlen hg
  have KX := hY w _ Y
  obtain ⟨fd, hb, hF⟩ := F w mg fa _ KX G.T.g hmg
  exact lawG KX G.T.g G.T.b G.T.builtins G.T.nolimit hg hobj hi
    (Nat.le_trans hlen hn2) room hF hb
    (fun H hO hS => hsp (K w.params) H a ns hlen hO hS)
end OM
namespace OM
open PySem PySem.Spec PyProof.Rows L2

/-! ### a callee, in one word -/
structure Cal (P : Program) (w : World) (K : PySem.W.Frag)
    (mg : Str → Option Value) (base : Heap) (k : Nat) (x : Str)
    (ps : List Str) (sp : Sp) : Prop where
  ex : ∃ f fd, FnOk P w K mg base CX0 k f fd ps sp ∧
    mg x = some (.ref f) ∧ PySem.W.keepIn K (.ref f) = true ∧
    Binds K fd ps []
structure CalG (P : Program) (w : World) (K : PySem.W.Frag)
    (mg : Str → Option Value) (base : Heap) (k : Nat) (x : Str)
    (ps : List Str) (sp : Sp) : Prop where
  ex : ∃ f fd, FnG P w K mg base CX0 k f fd ps sp ∧
    mg x = some (.ref f) ∧ PySem.W.keepIn K (.ref f) = true ∧
    Binds K fd ps []
section
variable {X : Cx} {k : Nat} {ps : List Str} {sp : Sp} {x : Str}
  {p pos : Pos} {e : Expr} {es : List Expr} {t : TA}
theorem pe_cal (C : Cal X.prog X.w X.K X.mg X.base k x ps sp)
    (room : Room k X.A) (ha : PA X (e :: es) t)
    (hg : Gl X x := by rfl)
    (h1 : (x == ("__debug__" : Str)) = false := by decide)
    (h2 : starEach (e :: es) X.env =
      (false, eval e X.env) :: starEach es X.env := by rfl)
    (h3 : (backTo pos (starEach es X.env)).any (·.1) = false := by rfl) :
    PE X (.Call (.Name x p) (e :: es) [] pos) (tCall sp [] E0 t) := by
  obtain ⟨f, fd, F, m, kp, b⟩ := C.ex
  exact pe_call F room hg m kp b .nil pass0 ha h1 h2 h3
theorem pe_calG (C : CalG X.prog X.w X.K X.mg X.base k x ps sp)
    (room : Room k X.A) (gd : X.A.guards = some [])
    (ha : PA X (e :: es) t)
    (hg : Gl X x := by rfl)
    (h1 : (x == ("__debug__" : Str)) = false := by decide)
    (h2 : starEach (e :: es) X.env =
      (false, eval e X.env) :: starEach es X.env := by rfl)
    (h3 : (backTo pos (starEach es X.env)).any (·.1) = false := by rfl) :
    PE X (.Call (.Name x p) (e :: es) [] pos) (tCall sp [] E0 t) := by
  obtain ⟨f, fd, F, m, kp, b⟩ := C.ex
  exact pe_callG F room gd hg m kp b .nil pass0 ha h1 h2 h3
end

/-! ### heaps: what may have changed -/
/-- all but p is as it was -/
def But (p : Addr) (H H' : Hp) : Prop :=
  ∀ q o, H q = some o → q ≠ p → H' q = some o
theorem But.refl {p : Addr} (H : Hp) : But p H H := fun _ _ h _ => h
theorem But.trans {p : Addr} {H H1 H2 : Hp} (a : But p H H1)
    (b : But p H1 H2) : But p H H2 :=
  fun q o h n => b q o (a q o h n) n
theorem But.of {p : Addr} {H H' : Hp} (a : Same H H') : But p H H' :=
  fun q o h _ => a q o h
theorem But.new {p q : Addr} {o : HO} {H H' : Hp} (a : But p H H')
    (n : H q = none) : But p H (upd H' q o) := fun b u h nb => by
  rw [upd_ne (ne_of_none h n)]
  exact a b u h nb
theorem But.at {p : Addr} {o : HO} {H H' : Hp} (a : But p H H') :
    But p H (upd H' p o) := fun b u h nb => by
  rw [upd_ne nb]
  exact a b u h nb
theorem But.same {p : Addr} {H H' : Hp} (a : But p H H')
    (n : H p = none) : Same H H' := fun q o h =>
  a q o h (ne_of_none h n)
theorem sameNew {H : Hp} {p : Addr} {o : HO} (h : H p = none) :
    Same H (upd H p o) := fun b x e => by
  rw [upd_ne (ne_of_none e h)]
  exact e
theorem Same.put {H H' : Hp} {p : Addr} {o : HO} (a : Same H H')
    (h : H p = none) : Same H (upd H' p o) := fun b x e => by
  rw [upd_ne (ne_of_none e h)]
  exact a b x e
theorem But.free {p q : Addr} {H H' : Hp} (a : But p H H') (n : q ≠ p)
    (h : H' q = none) : H q = none := by
  cases e : H q with
  | none => rfl
  | some o => rw [a q o e n] at h; cases h
theorem But.seq {K : PySem.W.Frag} {p a : Addr} {H H' : Hp} {xs : List V}
    (b : But p H H') (h : SqL K H a xs) (n : a ≠ p) : SqL K H' a xs := by
  rcases h with (h | ⟨o, h⟩) | h
  · exact .inl (.inl (b _ _ h n))
  · exact .inl (.inr ⟨o, b _ _ h n⟩)
  · exact .inr h

/-! ### the built-ins' names -/
structure Bl (mg : Str → Option Value) : Prop where
  len : mg "len" = none
  divmod : mg "divmod" = none
  abs : mg "abs" = none
  max : mg "max" = none
  min : mg "min" = none
  range : mg "range" = none
  enum : mg "enumerate" = none
  isi : mg "isinstance" = none
  str : mg "str" = none
  list : mg "list" = none
  set : mg "set" = none
  all : mg "all" = none
  repr : mg "repr" = none
theorem bt_divmod : bootBuiltins "divmod" = some (.builtin "divmod") := by
  decide +kernel
theorem bt_abs : bootBuiltins "abs" = some (.builtin "abs") := by
  decide +kernel
theorem bt_max : bootBuiltins "max" = some (.builtin "max") := by
  decide +kernel
theorem bt_min : bootBuiltins "min" = some (.builtin "min") := by
  decide +kernel
theorem bt_isi : bootBuiltins "isinstance" = some (.builtin "isinstance") := by
  decide +kernel
theorem bt_str : bootBuiltins "str" = some (.type "str") := by
  decide +kernel
theorem bt_list : bootBuiltins "list" = some (.type "list") := by
  decide +kernel
theorem bt_set : bootBuiltins "set" = some (.type "set") := by
  decide +kernel
theorem bt_all : bootBuiltins "all" = some (.builtin "all") := by
  decide +kernel
theorem bt_repr : bootBuiltins "repr" = some (.builtin "repr") := by
  decide +kernel

/-! ### the drawing state -/
def Rng (H : Hp) (p : Addr) : Prop :=
  ∃ a b : Int, H p = some (.lst [.int a, .int b]) ∧ 0 ≤ a ∧ 0 ≤ b ∧
    b < 2147483647
theorem Rng.but {H H' : Hp} {p q : Addr} (r : Rng H p) (b : But q H H')
    (n : p ≠ q) : Rng H' p := by
  obtain ⟨x, y, e, z⟩ := r
  exact ⟨x, y, b _ _ e n, z⟩
theorem Rng.same {H H' : Hp} {p : Addr} (r : Rng H p) (b : Same H H') :
    Rng H' p := by
  obtain ⟨x, y, e, z⟩ := r
  exact ⟨x, y, b _ _ e, z⟩
theorem Rng.ne {H : Hp} {p q : Addr} (r : Rng H p) (n : H q = none) :
    p ≠ q := by
  obtain ⟨x, y, e, z⟩ := r
  exact ne_of_none e n

/-- a draw below m: some number, the state moved on -/
def spDraw : Sp := fun vs H Q _ => ∃ (p : Addr) (m : Int),
  vs = [.ref p, .int m] ∧ Rng H p ∧ 0 < m ∧ m < 1000000 ∧
  ∀ (d : Int) (H' : Hp), 0 ≤ d → d < m → Rng H' p → But p H H' →
    Q (.int d) H'
/-- a new drawing state -/
def spRng (K : PySem.W.Frag) : Sp := fun vs H Q _ =>
  ∃ (a : Addr) (ns : List Int) (k : Nat), vs = [.ref a, .int k] ∧
  SqL K H a (ns.map V.int) ∧ k ≤ 1000 ∧
  ∀ (p : Addr) (H' : Hp), H p = none → Rng H' p → Same H H' →
    Q (.ref p) H'
end OM
/-! names as lists of codes -/
namespace OM
open PySem L2

/-- one to eight letters from a to z -/
structure Nm (l : List Nat) : Prop where
  lo : 1 ≤ l.length
  hi : l.length ≤ 8
  az : ∀ c ∈ l, 97 ≤ c ∧ c ≤ 122
abbrev vS (l : List Nat) : V := .str (SX.S l)
theorem vS_inj {a b : List Nat} (h : vS a = vS b) : a = b :=
  SX.S_inj (V.str.inj h)

theorem nodup_le {α : Type} [BEq α] [LawfulBEq α] : ∀ {l m : List α},
    l.Nodup → (∀ x ∈ l, x ∈ m) → l.length ≤ m.length
  | [], _, _, _ => Nat.zero_le _
  | x :: l, m, nd, h => by
    have hx : x ∈ m := h x List.mem_cons_self
    have nd' := List.nodup_cons.mp nd
    have r : l.length ≤ (m.erase x).length := by
      refine nodup_le nd'.2 fun y hy => ?_
      have ne : y ≠ x := fun e => nd'.1 (e ▸ hy)
      exact (List.mem_erase_of_ne ne).mpr (h y (List.mem_cons_of_mem _ hy))
    rw [List.length_erase_of_mem hx] at r
    have : 0 < m.length := List.length_pos_of_mem hx
    rw [List.length_cons]
    omega

/-- the k-th name to fall back upon -/
def frs6 (l : List Nat) (k : Nat) : List Nat :=
  l.take 6 ++ [97 + k / 26, 97 + k % 26]
theorem frs6_inj {l : List Nat} {j k : Nat} (h : frs6 l j = frs6 l k) :
    j = k := by
  have e := List.append_cancel_left h
  injection e with e1 e2
  injection e2 with e2 _
  omega
theorem Nm.frs {l : List Nat} (n : Nm l) {k : Nat} (hk : k < 676) :
    Nm (frs6 l k) := by
  unfold frs6
  refine ⟨?_, ?_, ?_⟩
  · simp
  · rw [List.length_append, List.length_take]
    show min 6 l.length + 2 ≤ 8
    omega
  · intro c hc
    rcases List.mem_append.mp hc with h | h
    · exact n.az c (List.mem_of_mem_take h)
    · rcases List.mem_cons.mp h with h | h
      · omega
      · rcases List.mem_cons.mp h with h | h
        · omega
        · cases h
def fresh (l : List Nat) : List (List Nat) :=
  l :: (List.range 676).map (frs6 l)
theorem fresh_nm {l : List Nat} (n : Nm l) : ∀ x ∈ fresh l, Nm x := by
  intro x hx
  rcases List.mem_cons.mp hx with h | h
  · rw [h]; exact n
  · obtain ⟨k, hk, rfl⟩ := List.mem_map.mp h
    exact n.frs (List.mem_range.mp hk)
theorem nodup_map {α β : Type} {f : α → β} (hf : ∀ a b, f a = f b → a = b) :
    ∀ {l : List α}, l.Nodup → (l.map f).Nodup
  | [], _ => List.nodup_nil
  | x :: l, h => by
    have h' := List.nodup_cons.mp h
    rw [List.map_cons]
    refine List.nodup_cons.mpr ⟨fun m => ?_, nodup_map hf h'.2⟩
    obtain ⟨y, hy, e⟩ := List.mem_map.mp m
    exact h'.1 (hf _ _ e ▸ hy)
theorem fresh_some {l : List Nat} {us : List (List Nat)}
    (h : us.length < 676) :
    ∃ x r, (fresh l).filter (fun y => decide (y ∉ us)) = x :: r := by
  cases e : (fresh l).filter (fun y => decide (y ∉ us)) with
  | cons x r => exact ⟨x, r, rfl⟩
  | nil =>
    exfalso
    have all : ∀ x ∈ (List.range 676).map (frs6 l), x ∈ us := by
      intro x hx
      apply Classical.byContradiction
      intro nx
      have : x ∈ (fresh l).filter (fun y => decide (y ∉ us)) :=
        List.mem_filter.mpr ⟨List.mem_cons_of_mem _ hx, decide_eq_true nx⟩
      rw [e] at this
      cases this
    have le := nodup_le (nodup_map (fun a b => frs6_inj (l := l))
      List.nodup_range) all
    rw [List.length_map, List.length_range] at le
    omega
theorem inV_S (x : List Nat) : ∀ us : List (List Nat),
    inV (vS x) (us.map vS) = decide (x ∈ us)
  | [] => by simp [inV]
  | u :: us => by
    have ih := inV_S x us
    unfold inV at ih ⊢
    rw [List.map_cons, List.any_cons, ih]
    by_cases e : u = x
    · subst e
      simp [eqV]
    · have ne : ¬ x = u := fun z => e z.symm
      have : eqV (vS u) (vS x) = false := by
        unfold eqV
        simp
        intro z
        exact e z
      rw [this]
      simp [ne]
theorem flat_S (us : List (List Nat)) : (us.map vS).all flatV = true := by
  rw [List.all_eq_true]
  intro v hv
  obtain ⟨l, _, rfl⟩ := List.mem_map.mp hv
  rfl
end OM
namespace OM
open PySem PySem.Spec PyProof.Rows L2
/-- an expression, with a word behind it -/
def tMid (t : TE) : TE := fun σ H Q =>
  ∃ M : V → Hp → Prop, t σ H M ∧ ∀ v H', M v H' → Q v H'
theorem pe_mid {X : Cx} {e : Expr} {t : TE} (h : PE X e t) :
    PE X e (tMid t) := by
  constructor
  intro pins s σ H Q I q
  obtain ⟨M, m, k⟩ := q
  refine thn (h.run pins s σ H M I m) ?_
  rintro u s1 ⟨v, H1, I1, r, z⟩
  exact ⟨v, H1, I1, r, k v H1 z⟩
def tMidT (t : TT) : TT := fun σ H Q =>
  ∃ M : Bool → Hp → Prop, t σ H M ∧ ∀ v H', M v H' → Q v H'
theorem pt_mid {X : Cx} {e : Expr} {t : TT} (h : PT X e t) :
    PT X e (tMidT t) := by
  constructor
  intro pins s σ H Q I q
  obtain ⟨M, m, k⟩ := q
  refine thn (h.run pins s σ H M I m) ?_
  rintro u s1 ⟨H1, I1, z⟩
  exact ⟨H1, I1, k u H1 z⟩
theorem But.put {p t : Addr} {o : HO} {H H1 : Hp} (a : But p H H1)
    (n : H1 t = none) (ne : t ≠ p) : But p H (upd H1 t o) :=
  a.new (a.free ne n)
/-- len of a list or tuple, the written part a letter -/
def rLenK (K : PySem.W.Frag) : List V → Hp → VK → Prop := fun xs H Q =>
  ∃ p ys, xs = [.ref p] ∧ (SqL K H p ys ∨ SqT K H p ys) ∧
    Q (.int ys.length) H
theorem call_lenK {X : Cx} : CallR X (.builtin "len") (rLenK X.K) :=
  call_len_seq
theorem sz {n : Nat} (h : n ≤ 100000) : n ≤ sizeLine :=
  Nat.le_trans h (by decide)
theorem sz' {n : Nat} (h : n < 100000) : n < sizeLine :=
  Nat.lt_of_lt_of_le h (by decide)
end OM
namespace OM
open PySem PySem.Spec PyProof.Rows L2
section
variable {X : Cx} {n : Nat} {f C : Addr} {fd : FuncData} {ps : List Str}
  {sp : Sp}
/-- a def runs at another depth of the same frame -/
theorem runAt {A : Around} {pins : List (Addr × Obj)} {σ : L2.St} {H : Hp}
    {s : Shared} {Q : VK} {us : List Value} {vs : List V}
    (F : FnG X.prog X.w X.K X.mg X.base CX0 n f fd ps sp)
    (room : Room n A) (gd : A.guards = some []) (fr : A.frames = X.A.frames)
    (hb : Binds X.K fd ps []) (I : Inv X pins σ H s) (r : Vals vs us)
    (h : sp vs H Q E0) :
    wpAny (model X.prog X.w) A (call (.ref f) us) (EP X pins σ Q) X.xe s := by
  have hl : us.length = ps.length := r.length.symm.trans (F.len _ _ _ _ h)
  have e0 : Env0 X.prog X.w X.K X.mg X.base A X.stack s H := by
    have e := I.env0
    exact ⟨by rw [fr]; exact e.frames, e.mod, e.bs, e.bsz, e.funs, e.frf,
      e.hok, e.bare⟩
  have bd : BindsTo s fd ⟨us, []⟩ (ps.zip us) := by
    have := hb s us I.kIn (by rw [List.append_nil]; exact hl)
    rw [List.append_nil] at this
    exact this
  refine wpAny_call (codeAny_mono (F.run A X.stack s H ⟨us, []⟩ us vs Q E0
    room gd e0 bd r h) ?_)
  intro r s' hq
  match r, hq with
  | .error e, hq => exact False.elim hq
  | .ok (.ret u), hq => exact I.after hq
  | .ok .next, hq => exact False.elim hq
  | .ok .brk, hq => exact False.elim hq
  | .ok .cont, hq => exact False.elim hq
/-- the same of a def that asks nothing of what is shown -/
theorem runAt0 {A : Around} {pins : List (Addr × Obj)} {σ : L2.St} {H : Hp}
    {s : Shared} {Q : VK} {us : List Value} {vs : List V}
    (F : FnOk X.prog X.w X.K X.mg X.base CX0 n f fd ps sp)
    (room : Room n A) (fr : A.frames = X.A.frames)
    (hb : Binds X.K fd ps []) (I : Inv X pins σ H s) (r : Vals vs us)
    (h : sp vs H Q E0) :
    wpAny (model X.prog X.w) A (call (.ref f) us) (EP X pins σ Q) X.xe s := by
  have hl : us.length = ps.length := r.length.symm.trans (F.len _ _ _ _ h)
  have e0 : Env0 X.prog X.w X.K X.mg X.base A X.stack s H := by
    have e := I.env0
    exact ⟨by rw [fr]; exact e.frames, e.mod, e.bs, e.bsz, e.funs, e.frf,
      e.hok, e.bare⟩
  have bd : BindsTo s fd ⟨us, []⟩ (ps.zip us) := by
    have := hb s us I.kIn (by rw [List.append_nil]; exact hl)
    rw [List.append_nil] at this
    exact this
  refine wpAny_call (codeAny_mono (F.run A X.stack s H ⟨us, []⟩ us vs Q E0
    room e0 bd r h) ?_)
  intro r s' hq
  match r, hq with
  | .error e, hq => exact False.elim hq
  | .ok (.ret u), hq => exact I.after hq
  | .ok .next, hq => exact False.elim hq
  | .ok .brk, hq => exact False.elim hq
  | .ok .cont, hq => exact False.elim hq
/-- an own method that the interpreter calls by itself -/
structure Spec1 (K : PySem.W.Frag) (C : Addr) (m : Str) (f : Addr)
    (fd : FuncData) (ps : List Str) : Prop where
  at_ : PySem.W.findIn K (.ref C) m = some (some (.ref f))
  fn : PySem.W.isFn K (.ref f) = true
  bd : Binds K fd ps []
/-- x == y, both of the class at C -/
def rEqOwn (C : Addr) (sp : Sp) : R2 := fun x y H Q =>
  ∃ a b dx dy fs gs, x = .ref a ∧ y = .ref b ∧
    H a = some (.ins C dx fs) ∧ H b = some (.ins C dy gs) ∧
    sp [.ref a, .ref b] H (fun v H' => ∃ r, v = .bl r ∧ Q (.bl r) H') E0
theorem op_eqOwn (S : Spec1 X.K C "__eq__" f fd ps)
    (F : FnOk X.prog X.w X.K X.mg X.base CX0 n f fd ps sp)
    (room : Room n X.A) : OpR X (compareOp .Eq) (rEqOwn C sp) := by
  intro pins s σ H x y v u Q I rx ry h
  obtain ⟨a, b, dx, dy, fs, gs, rfl, rfl, ha, hb, q⟩ := h
  cases rx
  cases ry
  obtain ⟨mA, J, _⟩ := ins_get I.hok ha
  obtain ⟨mB, J', _⟩ := ins_get I.hok hb
  obtain ⟨od, J, _⟩ := J.look
  obtain ⟨od', J', _⟩ := J'.look
  obtain ⟨m, hF⟩ := I.fr
  show wpAny _ X.A (richCompare .Eq (.ref a) (.ref b)) _ _ s
  refine PySem.W.cmp_K (op := .Eq) (tb := .ref C) room.units0 hF
    I.ok.mod.kin J J'.type (by simp [PySem.W.notFirst]) S.at_ S.fn ?_
  refine wpAny_mono (runAt0 F room rfl S.bd I (us := [.ref a, .ref b])
    (vs := [.ref a, .ref b])
    (.cons rfl (.cons rfl .nil)) q) ?_ (fun _ _ z => z)
  rintro z s' ⟨v, H', I', rv, r, rfl, q'⟩
  cases rv
  exact ⟨.bl r, H', I', rfl, q'⟩
/-- len(x) of the class at C -/
def rLenOwn (C : Addr) (sp : Sp) : List V → Hp → VK → Prop := fun xs H Q =>
  ∃ a dx fs, xs = [.ref a] ∧ H a = some (.ins C dx fs) ∧
    sp [.ref a] H (fun v H' => ∃ n : Nat, v = .int n ∧ n < 2 ^ 60 ∧
      Q (.int n) H') E0
theorem call_lenOwn (S : Spec1 X.K C "__len__" f fd ps)
    (F : FnOk X.prog X.w X.K X.mg X.base CX0 n f fd ps sp)
    (room : Room (n + 1) X.A) :
    CallR X (.builtin "len") (rLenOwn C sp) := by
  intro pins s σ H xs us Q I r h
  obtain ⟨a, dx, fs, rfl, ha, q⟩ := h
  cases r with
  | cons rv rn =>
    cases rn
    cases rv
    obtain ⟨mA, J, _⟩ := ins_get I.hok ha
    obtain ⟨od, J, _⟩ := J.look
    obtain ⟨m, hF⟩ := I.fr
    refine PySem.W.len_K hF I.ok.mod.kin J S.at_ S.fn ?_
    refine wpAny_mono (runAt0 (A := X.A.in1) F room.in1 rfl S.bd I
      (us := [.ref a]) (vs := [.ref a]) (.cons rfl .nil) q) ?_ (fun _ _ z => z)
    rintro z s' ⟨v, H', I', rv, k, rfl, hk, q'⟩
    obtain ⟨t, rfl⟩ := rv
    exact ⟨⟨by omega, by omega⟩, .int k, H', I'.tok _, ⟨_, rfl⟩, q'⟩
/-- repr(x) of the class at C -/
def rReprOwn (C : Addr) (sp : Sp) : List V → Hp → VK → Prop := fun xs H Q =>
  ∃ a dx fs, xs = [.ref a] ∧ H a = some (.ins C dx fs) ∧
    sp [.ref a] H (fun v H' => ∃ x : Str, v = .str x ∧ Q (.str x) H') E0
theorem call_reprOwn (S : Spec1 X.K C "__repr__" f fd ps)
    (F : FnG X.prog X.w X.K X.mg X.base CX0 n f fd ps sp)
    (room : Room (n + 1) X.A) (gd : X.A.guards = some []) :
    CallR X (.builtin "repr") (rReprOwn C sp) := by
  intro pins s σ H xs us Q I r h
  obtain ⟨a, dx, fs, rfl, ha, q⟩ := h
  cases r with
  | cons rv rn =>
    cases rn
    cases rv
    obtain ⟨mA, J, _⟩ := ins_get I.hok ha
    obtain ⟨od, J, _⟩ := J.look
    obtain ⟨m, hF⟩ := I.fr
    refine PySem.W.repr_K (by have := room.units; show X.A.units + 1 < _; omega) hF I.ok.mod.kin J S.at_ S.fn ?_
    refine wpAny_mono (runAt (A := X.A.in1) F room.in1 gd rfl S.bd I
      (us := [.ref a]) (vs := [.ref a]) (.cons rfl .nil) q) ?_ (fun _ _ z => z)
    rintro z s' ⟨v, H', I', rv, x, rfl, q'⟩
    obtain ⟨t, rfl⟩ := rv
    exact ⟨.str x, H', I', ⟨_, rfl⟩, q'⟩
/-- {x!r} of data -/
def tFmtD (K : PySem.W.Frag) (te : TE) : TE := fun σ H Q =>
  te σ H fun v H1 => ∃ a d, v = .ref a ∧ Dp K H1 v d ∧ d.showable = true ∧
    d.depth ≤ 60 ∧ d.shown.length ≤ sizeLine ∧ Q (.str d.shown) H1
theorem pe_fmtD {e : Expr} {te : TE} {pos : Pos} {k : Nat}
    (room : Room k X.A) (gd : X.A.guards = some []) (he : PE X e te) :
    PE X (.FormattedValue e 114 none pos) (tFmtD X.K te) := by
  constructor
  intro pins s σ H Q I h
  refine wpAny_FormattedValue_repr (thn (he.run pins s σ H _ I h) ?_)
  rintro v s1 ⟨x, H1, I1, r1, a, d, rfl, hd, sh, dp, sz, q⟩
  cases r1
  obtain ⟨as, rd⟩ := Dp.reads I1 d _ _ hd rfl
  have un := room.units
  refine pyReprObj_of_reads rd sh (PyData.noDict_hsm (Dp.noDict _ hd)) gd
    (by omega) (fun _ _ e => e) (fun h' u tk hk => ?_) sz
  exact wpAny_formatField_str ⟨.str _, H1, I1.kept hk, ⟨_, rfl⟩, q⟩
    ⟨.str _, H1, (I1.kept (t' := tk) hk).tok _, ⟨_, rfl⟩, q⟩ sz
end
end OM
namespace OM
open PySem PySem.Spec PyProof.Rows L2
abbrev dN (ls : List (List Nat)) : List PyData := ls.map fun l => .str (SX.S l)
theorem dpAll_N {K : PySem.W.Frag} {H : Hp} : ∀ ls : List (List Nat),
    DpAll K H (ls.map vS) (dN ls)
  | [] => .nil
  | l :: r => .cons (.str _) (dpAll_N r)
theorem dp_N {K : PySem.W.Frag} {H : Hp} {a : Addr} {ls : List (List Nat)}
    (h : SqL K H a (ls.map vS)) : Dp K H (.ref a) (.list (dN ls)) :=
  .lst h (dpAll_N ls)
theorem eqv_N : ∀ ls ms : List (List Nat),
    PyData.eqvAll (dN ls) (dN ms) = decide (ls = ms)
  | [], [] => by simp [PyData.eqvAll]
  | [], m :: ms => by simp [PyData.eqvAll]
  | l :: ls, [] => by simp [PyData.eqvAll]
  | l :: ls, m :: ms => by
    have ih := eqv_N ls ms
    show (PyData.eqv (.str (SX.S l)) (.str (SX.S m)) &&
      PyData.eqvAll (dN ls) (dN ms)) = _
    rw [ih]
    unfold PyData.eqv
    rw [SX.S_beq_eq]
    by_cases e : l = m
    · subst e
      simp
    · have : ¬ (l :: ls = m :: ms) := fun z => e (List.cons.inj z).1
      rw [decide_eq_false e, decide_eq_false this]
      rfl
theorem eqv_L (ls ms : List (List Nat)) :
    PyData.eqv (.list (dN ls)) (.list (dN ms)) = decide (ls = ms) := by
  rw [show PyData.eqv (.list (dN ls)) (.list (dN ms)) =
    PyData.eqvAll (dN ls) (dN ms) by simp only [PyData.eqv]]
  exact eqv_N ls ms
/-- texts of Unicode's codes -/
def Uni (ls : List (List Nat)) : Prop := ∀ l ∈ ls, ∀ c ∈ l, c < 1114112
theorem lay_N : ∀ ls : List (List Nat), Uni ls →
    PyData.canLayAll0 (dN ls) = true
  | [], _ => by simp [PyData.canLayAll0]
  | l :: ls, h => by
    have ih := lay_N ls fun x hx => h x (List.mem_cons_of_mem _ hx)
    have ok : PyData.strOk (SX.S l) = true := by
      unfold PyData.strOk
      rw [Array.all_eq_true]
      intro i hi
      have := h l List.mem_cons_self l.toArray[i] (by simp)
      exact decide_eq_true this
    show PyData.canLayAll0 (.str (SX.S l) :: dN ls) = true
    simp only [PyData.canLayAll0, PyData.canLay0, ih, ok, Bool.and_self]
theorem depth_N : ∀ ls : List (List Nat), PyData.depthAll (dN ls) ≤ 1
  | [] => by simp [PyData.depthAll]
  | l :: ls => by
    have ih := depth_N ls
    show PyData.depthAll (.str (SX.S l) :: dN ls) ≤ 1
    simp only [PyData.depthAll, PyData.depth]
    omega
theorem depth_L (ls : List (List Nat)) : (PyData.list (dN ls)).depth ≤ 2 := by
  simp only [PyData.depth]
  have := depth_N ls
  omega
theorem shaped_L {ls : List (List Nat)} (h : Uni ls) :
    SeqAt.shaped (.list (dN ls)) = true := by
  unfold SeqAt.shaped
  rw [show PyData.canLay0 (.list (dN ls)) = PyData.canLayAll0 (dN ls) by
    simp only [PyData.canLay0], lay_N ls h]
  have := depth_L ls
  exact decide_eq_true (by omega)
theorem showable_N : ∀ ls : List (List Nat), PyData.showableAll (dN ls) = true
  | [] => by simp [PyData.showableAll]
  | l :: ls => by
    have ih := showable_N ls
    show PyData.showableAll (.str (SX.S l) :: dN ls) = true
    simp only [PyData.showableAll, PyData.showable, ih, Bool.and_self]
theorem showable_L (ls : List (List Nat)) :
    (PyData.list (dN ls)).showable = true := by
  simp only [PyData.showable]
  exact showable_N ls
/-- short lists of short texts are shown shortly -/
theorem piled_N : ∀ (ls : List (List Nat)) (m : Nat),
    (∀ l ∈ ls, l.length ≤ m ∧ ∀ c ∈ l, c < 1114112) →
    piled (PyData.shownAll (dN ls)) ≤ ls.length * (10 * m + 4)
  | [], _, _ => by
    show piled (PyData.shownAll []) ≤ _
    simp only [PyData.shownAll]
    exact Nat.zero_le _
  | l :: ls, m, h => by
    have ih := piled_N ls m fun x hx => h x (List.mem_cons_of_mem _ hx)
    obtain ⟨h1, h2⟩ := h l List.mem_cons_self
    have h3 := StrLaws.reprText_len (SX.S l) (fun c hc => Nat.lt_of_lt_of_le
      (h2 c hc) (by decide))
    have h4 : (SX.S l).length = l.length := SX.S_len l
    have h5 : (reprText (SX.S l)).length ≤ 10 * m + 2 := by
      refine Nat.le_trans h3 ?_
      rw [h4]
      omega
    show piled (PyData.shownAll (.str (SX.S l) :: dN ls)) ≤ _
    simp only [PyData.shownAll, PyData.shown]
    rw [piled_cons, List.length_cons, Nat.add_mul]
    omega
theorem shown_L {ls : List (List Nat)} {m : Nat} (hn : ls.length ≤ 1000)
    (hm : m ≤ 1000) (h : ∀ l ∈ ls, l.length ≤ m ∧ ∀ c ∈ l, c < 1114112) :
    (PyData.list (dN ls)).shown.length ≤ sizeLine := by
  have p := piled_N ls m h
  have e : (PyData.list (dN ls)).shown =
      listText (PyData.shownAll (dN ls)) := by simp only [PyData.shown]
  rw [e]
  have q := listText_len_le (PyData.shownAll (dN ls))
  have r : ((PyData.shownAll (dN ls)).map (·.length)).sum +
      2 * (PyData.shownAll (dN ls)).length =
      piled (PyData.shownAll (dN ls)) := by
    generalize PyData.shownAll (dN ls) = ts
    induction ts with
    | nil => rfl
    | cons t ts ih =>
      rw [piled_cons, List.map_cons, List.sum_cons, List.length_cons]
      omega
  have s : ls.length * (10 * m + 4) ≤ 1000 * 10004 :=
    Nat.mul_le_mul hn (by omega)
  refine Nat.le_trans (show _ ≤ 10004003 by omega) (by decide)
end OM
namespace OM
open PySem PySem.Spec PyProof.Rows L2
/-- what a comprehension walks, whatever its turn does -/
theorem walkW {J : It} {n : Nat} {G : Hp → Prop}
    {Y : Nat → Hp → V → Hp → Prop} (wk : Walk J n G Y) {H0 : Hp}
    {Qd : Hp → Prop} {body : V → Hp → (Hp → Prop) → Prop}
    (Pv : Nat → Hp → Prop) (h0 : Pv 0 H0) (hG : ∀ i H, i ≤ n → Pv i H → G H)
    (hs : ∀ i x H H', i < n → Pv i H → Y i H x H' → body x H' (Pv (i + 1)))
    (hd : ∀ H, Pv n H → Qd H) :
    ∃ W : Nat → Nat → Hp → Prop, (∃ m, W 0 m H0) ∧
      ∀ i m H, W i m H → (J.stop i H ∧ Qd H) ∨ (J.go i H ∧
        ∃ Nx : Hp → Prop, (∀ H', Nx H' → ∃ m', m' < m ∧ W (i + 1) m' H') ∧
        ∀ x H', J.yld i H x H' → body x H' Nx) := by
  refine ⟨fun i m H => m + i = n ∧ Pv i H, ⟨n, rfl, h0⟩, ?_⟩
  rintro i m H ⟨e, p⟩
  have q := hG i H (by omega) p
  rcases Nat.lt_or_ge i n with lt | ge
  · exact .inr ⟨wk.goes i H lt q, Pv (i + 1),
      fun H' p' => ⟨m - 1, by omega, by omega, p'⟩,
      fun x H' y => hs i x H H' lt p (wk.yields i H x H' lt q y)⟩
  · have e' : i = n := by omega
    subst e'
    exact .inl ⟨wk.stops H q, hd H p⟩
/-! ### pairs of names -/
abbrev Pr := List Nat × List Nat
abbrev vT (p : Pr) : List V := [vS p.1, vS p.2]
def PrsAt (H : Hp) (rs : List Addr) (ps : List Pr) : Prop :=
  Paired (fun r p => H r = some (.tup (vT p))) rs ps
theorem PrsAt.same {H H' : Hp} : ∀ {rs : List Addr} {ps : List Pr},
    PrsAt H rs ps → Same H H' → PrsAt H' rs ps
  | _, _, .nil, _ => .nil
  | _, _, .cons h t, s => .cons (s _ _ h) (PrsAt.same t s)
theorem PrsAt.snoc {H : Hp} {r : Addr} {p : Pr} (h : H r = some (.tup (vT p))) :
    ∀ {rs : List Addr} {ps : List Pr}, PrsAt H rs ps →
      PrsAt H (rs ++ [r]) (ps ++ [p])
  | _, _, .nil => .cons h .nil
  | _, _, .cons a t => .cons a (PrsAt.snoc h t)
theorem PrsAt.app {H : Hp} {qs : List Addr} {us : List Pr}
    (h : PrsAt H qs us) : ∀ {rs : List Addr} {ps : List Pr}, PrsAt H rs ps →
      PrsAt H (rs ++ qs) (ps ++ us)
  | _, _, .nil => h
  | _, _, .cons a t => .cons a (PrsAt.app h t)
theorem PrsAt.len {H : Hp} : ∀ {rs : List Addr} {ps : List Pr},
    PrsAt H rs ps → rs.length = ps.length
  | _, _, .nil => rfl
  | _, _, .cons _ t => congrArg (· + 1) (PrsAt.len t)
abbrev dT (p : Pr) : PyData := .tuple [.str (SX.S p.1), .str (SX.S p.2)]
abbrev dP (ps : List Pr) : List PyData := ps.map dT
theorem dp_T {K : PySem.W.Frag} {H : Hp} {r : Addr} {p : Pr}
    (h : H r = some (.tup (vT p))) : Dp K H (.ref r) (dT p) :=
  .tup (SqT.of h) (.cons (.str _) (.cons (.str _) .nil))
theorem dpAll_P {K : PySem.W.Frag} {H : Hp} : ∀ {rs : List Addr}
    {ps : List Pr}, PrsAt H rs ps → DpAll K H (rs.map V.ref) (dP ps)
  | _, _, .nil => .nil
  | _, _, .cons h t => .cons (dp_T h) (dpAll_P t)
theorem dp_P {K : PySem.W.Frag} {H : Hp} {a : Addr} {rs : List Addr}
    {ps : List Pr} (h : SqL K H a (rs.map V.ref)) (p : PrsAt H rs ps) :
    Dp K H (.ref a) (.list (dP ps)) := .lst h (dpAll_P p)
theorem eqv_T (p q : Pr) : PyData.eqv (dT p) (dT q) = decide (p = q) := by
  obtain ⟨a, b⟩ := p
  obtain ⟨c, d⟩ := q
  show PyData.eqv (.tuple [.str (SX.S a), .str (SX.S b)])
    (.tuple [.str (SX.S c), .str (SX.S d)]) = _
  simp only [PyData.eqv, PyData.eqvAll, SX.S_beq_eq, Bool.and_true]
  by_cases e : a = c
  · by_cases f : b = d
    · subst e; subst f; simp
    · simp [e, f]
  · simp [e]
theorem eqv_PA : ∀ ps qs : List Pr,
    PyData.eqvAll (dP ps) (dP qs) = decide (ps = qs)
  | [], [] => by simp [PyData.eqvAll]
  | [], m :: ms => by simp [PyData.eqvAll]
  | l :: ls, [] => by simp [PyData.eqvAll]
  | l :: ls, m :: ms => by
    have ih := eqv_PA ls ms
    show (PyData.eqv (dT l) (dT m) && PyData.eqvAll (dP ls) (dP ms)) = _
    rw [ih, eqv_T]
    by_cases e : l = m
    · subst e
      simp
    · have : ¬ (l :: ls = m :: ms) := fun z => e (List.cons.inj z).1
      rw [decide_eq_false e, decide_eq_false this]
      rfl
theorem eqv_P (ps qs : List Pr) :
    PyData.eqv (.list (dP ps)) (.list (dP qs)) = decide (ps = qs) := by
  rw [show PyData.eqv (.list (dP ps)) (.list (dP qs)) =
    PyData.eqvAll (dP ps) (dP qs) by simp only [PyData.eqv]]
  exact eqv_PA ps qs
theorem any_P (q : Pr) : ∀ ps : List Pr,
    ((dP ps).any fun z => PyData.eqv z (dT q)) = decide (q ∈ ps)
  | [] => by simp
  | p :: ps => by
    have ih := any_P q ps
    rw [show dP (p :: ps) = dT p :: dP ps from rfl, List.any_cons, ih, eqv_T]
    by_cases e : p = q
    · subst e
      simp
    · have ne : ¬ q = p := fun z => e z.symm
      simp [e, ne]
/-- names in pairs -/
def UniP (ps : List Pr) : Prop := ∀ p ∈ ps,
  (p.1.length ≤ 8 ∧ ∀ c ∈ p.1, c < 1114112) ∧
  (p.2.length ≤ 8 ∧ ∀ c ∈ p.2, c < 1114112)
theorem strOkS {l : List Nat} (h : ∀ c ∈ l, c < 1114112) :
    PyData.strOk (SX.S l) = true := by
  unfold PyData.strOk
  rw [Array.all_eq_true]
  intro i hi
  have := h l.toArray[i] (by simp)
  exact decide_eq_true this
theorem lay_T {p : Pr} (h1 : ∀ c ∈ p.1, c < 1114112)
    (h2 : ∀ c ∈ p.2, c < 1114112) : PyData.canLay0 (dT p) = true := by
  simp only [PyData.canLay0, PyData.canLayAll0, strOkS h1, strOkS h2,
    Bool.and_self]
theorem lay_P : ∀ ps : List Pr, UniP ps → PyData.canLayAll0 (dP ps) = true
  | [], _ => by simp [PyData.canLayAll0]
  | p :: ps, h => by
    have ih := lay_P ps fun x hx => h x (List.mem_cons_of_mem _ hx)
    have hp := h p List.mem_cons_self
    show PyData.canLayAll0 (dT p :: dP ps) = true
    rw [show PyData.canLayAll0 (dT p :: dP ps) =
      (PyData.canLay0 (dT p) && PyData.canLayAll0 (dP ps)) by
        simp only [PyData.canLayAll0], ih, lay_T hp.1.2 hp.2.2]
    rfl
theorem depth_T (p : Pr) : (dT p).depth ≤ 2 := by
  simp only [PyData.depth, PyData.depthAll]
  omega
theorem depth_PA : ∀ ps : List Pr, PyData.depthAll (dP ps) ≤ 2
  | [] => by simp [PyData.depthAll]
  | p :: ps => by
    have ih := depth_PA ps
    have h := depth_T p
    show PyData.depthAll (dT p :: dP ps) ≤ 2
    rw [show PyData.depthAll (dT p :: dP ps) =
      max (dT p).depth (PyData.depthAll (dP ps)) by
        simp only [PyData.depthAll]]
    omega
theorem depth_P (ps : List Pr) : (PyData.list (dP ps)).depth ≤ 3 := by
  rw [show (PyData.list (dP ps)).depth = PyData.depthAll (dP ps) + 1 by
    simp only [PyData.depth]]
  have := depth_PA ps
  omega
theorem shaped_T {p : Pr} (h1 : ∀ c ∈ p.1, c < 1114112)
    (h2 : ∀ c ∈ p.2, c < 1114112) : SeqAt.shaped (dT p) = true := by
  unfold SeqAt.shaped
  rw [lay_T h1 h2]
  have := depth_T p
  exact decide_eq_true (by omega)
theorem shaped_P {ps : List Pr} (h : UniP ps) :
    SeqAt.shaped (.list (dP ps)) = true := by
  unfold SeqAt.shaped
  rw [show PyData.canLay0 (.list (dP ps)) = PyData.canLayAll0 (dP ps) by
    simp only [PyData.canLay0], lay_P ps h]
  have := depth_P ps
  exact decide_eq_true (by omega)
theorem showable_P : ∀ ps : List Pr, PyData.showableAll (dP ps) = true
  | [] => by simp [PyData.showableAll]
  | p :: ps => by
    have ih := showable_P ps
    show PyData.showableAll (dT p :: dP ps) = true
    simp only [PyData.showableAll, PyData.showable, ih, Bool.and_self]
theorem showable_PL (ps : List Pr) : (PyData.list (dP ps)).showable = true := by
  rw [show (PyData.list (dP ps)).showable = PyData.showableAll (dP ps) by
    simp only [PyData.showable]]
  exact showable_P ps
theorem shown_T {p : Pr} (h1 : p.1.length ≤ 8 ∧ ∀ c ∈ p.1, c < 1114112)
    (h2 : p.2.length ≤ 8 ∧ ∀ c ∈ p.2, c < 1114112) :
    (dT p).shown.length ≤ 200 := by
  have e : (dT p).shown = tupleText [reprText (SX.S p.1),
    reprText (SX.S p.2)] := by simp only [PyData.shown, PyData.shownAll]
  rw [e]
  have t := fmt_text [reprText (SX.S p.1), reprText (SX.S p.2)]
  rw [piled_cons, piled_cons, piled_nil] at t
  have a := StrLaws.reprText_len (SX.S p.1) (fun c hc => Nat.lt_of_lt_of_le
    (h1.2 c hc) (by decide))
  have b := StrLaws.reprText_len (SX.S p.2) (fun c hc => Nat.lt_of_lt_of_le
    (h2.2 c hc) (by decide))
  have c : (SX.S p.1).length = p.1.length := SX.S_len _
  have d : (SX.S p.2).length = p.2.length := SX.S_len _
  rw [c] at a
  rw [d] at b
  omega
theorem shown_PA : ∀ (ps : List Pr), UniP ps →
    piled (PyData.shownAll (dP ps)) ≤ ps.length * 202
  | [], _ => by
    show piled (PyData.shownAll []) ≤ _
    simp only [PyData.shownAll]
    exact Nat.zero_le _
  | p :: ps, h => by
    have ih := shown_PA ps fun x hx => h x (List.mem_cons_of_mem _ hx)
    have hp := h p List.mem_cons_self
    have t := shown_T hp.1 hp.2
    show piled (PyData.shownAll (dT p :: dP ps)) ≤ _
    rw [show PyData.shownAll (dT p :: dP ps) =
      (dT p).shown :: PyData.shownAll (dP ps) by simp only [PyData.shownAll],
      piled_cons, List.length_cons, Nat.add_mul]
    omega
theorem shown_P {ps : List Pr} (h : UniP ps) (hn : ps.length ≤ 2000) :
    (PyData.list (dP ps)).shown.length ≤ sizeLine := by
  have p := shown_PA ps h
  have e : (PyData.list (dP ps)).shown =
      listText (PyData.shownAll (dP ps)) := by simp only [PyData.shown]
  rw [e]
  have q := listText_len_le (PyData.shownAll (dP ps))
  have r : ((PyData.shownAll (dP ps)).map (·.length)).sum +
      2 * (PyData.shownAll (dP ps)).length =
      piled (PyData.shownAll (dP ps)) := by
    generalize PyData.shownAll (dP ps) = ts
    induction ts with
    | nil => rfl
    | cons t ts ih =>
      rw [piled_cons, List.map_cons, List.sum_cons, List.length_cons]
      omega
  refine Nat.le_trans (show _ ≤ 404003 by omega) (by decide)
/-! ### the inverted pairs -/
def invF (os : List (List Nat)) (f : List Nat) (r : List (List Nat)) :
    List Pr :=
  (r.filter fun s => decide (os.idxOf s < os.idxOf f)).map fun s => (f, s)
def invTo (ls os : List (List Nat)) : Nat → List Pr
  | 0 => []
  | i + 1 => invTo ls os i ++ match ls[i]? with
    | some f => invF os f (ls.drop (i + 1))
    | none => []
def invAll (ls os : List (List Nat)) : List Pr := invTo ls os ls.length
theorem invF_mem {os : List (List Nat)} {f : List Nat} {r : List (List Nat)}
    {p : Pr} : p ∈ invF os f r ↔ p.1 = f ∧ p.2 ∈ r ∧
      os.idxOf p.2 < os.idxOf f := by
  unfold invF
  obtain ⟨a, b⟩ := p
  simp only [List.mem_map, List.mem_filter, decide_eq_true_eq, Prod.mk.injEq]
  constructor
  · rintro ⟨x, ⟨h1, h2⟩, rfl, rfl⟩
    exact ⟨rfl, h1, h2⟩
  · rintro ⟨rfl, h1, h2⟩
    exact ⟨b, ⟨h1, h2⟩, rfl, rfl⟩
theorem invTo_mem {ls os : List (List Nat)} {p : Pr} : ∀ {i : Nat},
    p ∈ invTo ls os i ↔ ∃ j < i, ls[j]? = some p.1 ∧ p.2 ∈ ls.drop (j + 1) ∧
      os.idxOf p.2 < os.idxOf p.1
  | 0 => by simp [invTo]
  | i + 1 => by
    have ih := invTo_mem (ls := ls) (os := os) (p := p) (i := i)
    show p ∈ invTo ls os i ++ _ ↔ _
    rw [List.mem_append, ih]
    constructor
    · rintro (⟨j, hj, h⟩ | h)
      · exact ⟨j, by omega, h⟩
      · cases e : ls[i]? with
        | none => rw [e] at h; cases h
        | some f =>
          rw [e] at h
          obtain ⟨h1, h2, h3⟩ := invF_mem.mp h
          exact ⟨i, by omega, by rw [h1]; exact e, h2, by rw [h1]; exact h3⟩
    · rintro ⟨j, hj, h1, h2, h3⟩
      by_cases e : j = i
      · subst e
        refine .inr ?_
        rw [h1]
        exact invF_mem.mpr ⟨rfl, h2, h3⟩
      · exact .inl ⟨j, by omega, h1, h2, h3⟩
theorem invF_len (os : List (List Nat)) (f : List Nat) (r : List (List Nat)) :
    (invF os f r).length ≤ r.length := by
  unfold invF
  rw [List.length_map]
  exact List.length_filter_le _ _
theorem invTo_len (ls os : List (List Nat)) : ∀ i, i ≤ ls.length →
    (invTo ls os i).length ≤ i * ls.length
  | 0, _ => Nat.zero_le _
  | i + 1, h => by
    have ih := invTo_len ls os i (by omega)
    show (invTo ls os i ++ _).length ≤ _
    rw [List.length_append, Nat.add_mul]
    have : (match ls[i]? with
      | some f => invF os f (ls.drop (i + 1))
      | none => []).length ≤ ls.length := by
      cases ls[i]? with
      | none => exact Nat.zero_le _
      | some f =>
        refine Nat.le_trans (invF_len _ _ _) ?_
        rw [List.length_drop]
        omega
    omega
end OM
namespace OM
open PySem PySem.Spec PyProof.Rows L2
/-- what the written part says of an error's class -/
structure XCl (K : PySem.W.Frag) (C : Addr) : Prop where
  ox : OexC K C
  xf : XfC K C
  ha : PySem.W.findIn K (.ref C) "__class__" =
    some (some (.builtin "object.__class__"))
  hn : PySem.W.specialIn K (.builtin "object.__class__") "__get__" =
    some (some (.builtin "getset_descriptor.__get__"))
  ht : PySem.W.takesIn K (.builtin "object.__class__") = some true
  hm : PySem.W.mroIn K C (.type "object") = some true
theorem ps_imp {X : Cx} {st : Stmt} {t t' : TS} (h : PS X st t)
    (i : ∀ D σ H, t' D σ H → t D σ H) : PS X st t' :=
  ⟨fun pins s σ H D I w => h.run pins s σ H D I (i D σ H w)⟩
/-- the promise of an error's __init__ of two fields -/
def spX2 (C : Addr) (f1 f2 : Str) : Sp := fun vs H Q _ =>
  ∃ (a : Addr) (v1 v2 : V), vs = [.ref a, v1, v2] ∧
  H a = some (exo a C none) ∧ ∀ dx, H dx = none → dx ≠ a →
    Q .non (upd (upd (upd H dx (exd dx [(f1, v1)])) a (exo a C (some dx))) dx
      (exd dx [(f2, v2), (f1, v1)]))
def spX1 (C : Addr) (f1 : Str) : Sp := fun vs H Q _ =>
  ∃ (a : Addr) (v1 : V), vs = [.ref a, v1] ∧
  H a = some (exo a C none) ∧ ∀ dx, H dx = none → dx ≠ a →
    Q .non (upd (upd H dx (exd dx [(f1, v1)])) a (exo a C (some dx)))
/-- a class whose error is raised, in one word -/
structure XMk (P : Program) (w : World) (K : PySem.W.Frag)
    (mg : Str → Option Value) (base : Heap) (C : Addr) (k : Nat) (x : Str)
    (ps : List Str) (sp : Sp) : Prop where
  mgC : mg x = some (.ref C)
  cl : XCl K C
  ex : ∃ f fd, FnOk P w K mg base CX0 k f fd ps sp ∧
    PySem.W.findIn K (.ref C) "__init__" = some (some (.ref f)) ∧
    PySem.W.typeIn K (.ref f) = some (.type "function") ∧ Binds K fd ps []
section
variable {X : Cx}
theorem pass0' {E : XK} : Passes CX0 X E := fun _ _ _ _ _ _ _ h => h.elim
/-- raise C(e1, e2) -/
def tRaise2 (C : Addr) (f1 f2 : Str) (W : WX) (ta : TA) : TS := fun _ σ H =>
  ta σ H fun vs H1 => ∃ v1 v2, vs = [v1, v2] ∧ ∀ d H', H1 d = none →
    H' d = some (.xd [(f2, v2), (f1, v1)]) → Same H1 H' →
    W (.ref C) (some d) σ H'
def tMidA (t : TA) : TA := fun σ H Q =>
  ∃ M : List V → Hp → Prop, t σ H M ∧ ∀ vs H', M vs H' → Q vs H'
theorem pa_mid {es : List Expr} {t : TA} (h : PA X es t) :
    PA X es (tMidA t) := by
  constructor
  intro pos pins s σ H Q I q
  obtain ⟨M, m, k⟩ := q
  refine thn (h.run pos pins s σ H M I m) ?_
  rintro u s1 ⟨v, H1, I1, r, z⟩
  exact ⟨v, H1, I1, r, k v H1 z⟩
theorem made_same {H : Hp} {a d : Addr} {C : Addr} {fs : List (Str × V)}
    {H2 : Hp} (na : H a = none) (nd : H d = none)
    (s : ∀ b o, H b = some o → H2 b = some o) :
    (upd (del H2 a) d (.xd fs)) d = some (.xd fs) ∧
    Same H (upd (del H2 a) d (.xd fs)) :=
  ⟨upd_same, fun b o e => by
    rw [upd_ne (ne_of_none e nd), del_ne (ne_of_none e na)]
    exact s b o e⟩
theorem ps_raise2 {C : Addr} {k : Nat} {x : Str} {ps : List Str}
    {f1 f2 : Str} {W : WX} {p pos pos2 : Pos} {e : Expr} {es : List Expr}
    {ta : TA} (M : XMk X.prog X.w X.K X.mg X.base C k x ps (spX2 C f1 f2))
    (room : Room (k + 1) X.A) (hc : X.calm = true) (tk : Takes X W)
    (ha : PA X (e :: es) ta) (hg : Gl X x := by rfl)
    (h1 : (x == ("__debug__" : Str)) = false := by decide)
    (h2 : starEach (e :: es) X.env =
      (false, eval e X.env) :: starEach es X.env := by rfl)
    (h3 : (backTo pos (starEach es X.env)).any (·.1) = false := by rfl) :
    PS X (.Raise (some (.Call (.Name x p) (e :: es) [] pos)) none pos2)
      (tRaise2 C f1 f2 W ta) := by
  obtain ⟨f, fd, F, iC, tI, b⟩ := M.ex
  refine ps_imp (ps_raise hc tk (pmk_oex M.cl.ox iC tI F room b .nil pass0' hg
    M.mgC (pa_mid ha) h1 h2 h3)) ?_
  intro D σ H h
  refine ⟨_, h, ?_⟩
  rintro vs H1 ⟨v1, v2, rfl, q⟩
  refine ⟨by simp, fun a na => ⟨a, v1, v2, rfl, upd_same, fun d nd ne => ?_⟩⟩
  have nd1 : H1 d = none := by rw [upd_ne ne] at nd; exact nd
  refine ⟨rfl, d, _, ?_, upd_same, nd1, ?_⟩
  · rw [upd_ne ne.symm, upd_same]
  · obtain ⟨e1, e2⟩ := made_same (C := C) (fs := [(f2, v2), (f1, v1)]) na nd1
      (H2 := upd (upd (upd (upd H1 a (exo a C none)) d (exd d [(f1, v1)])) a
        (exo a C (some d))) d (exd d [(f2, v2), (f1, v1)])) fun b o z => by
        rw [upd_ne (ne_of_none z nd1), upd_ne (ne_of_none z na),
          upd_ne (ne_of_none z nd1), upd_ne (ne_of_none z na)]
        exact z
    exact q d _ nd1 e1 e2
/-- raise C(e1) -/
def tRaise1 (C : Addr) (f1 : Str) (W : WX) (ta : TA) : TS := fun _ σ H =>
  ta σ H fun vs H1 => ∃ v1, vs = [v1] ∧ ∀ d H', H1 d = none →
    H' d = some (.xd [(f1, v1)]) → Same H1 H' → W (.ref C) (some d) σ H'
theorem ps_raise1 {C : Addr} {k : Nat} {x : Str} {ps : List Str}
    {f1 : Str} {W : WX} {p pos pos2 : Pos} {e : Expr} {es : List Expr}
    {ta : TA} (M : XMk X.prog X.w X.K X.mg X.base C k x ps (spX1 C f1))
    (room : Room (k + 1) X.A) (hc : X.calm = true) (tk : Takes X W)
    (ha : PA X (e :: es) ta) (hg : Gl X x := by rfl)
    (h1 : (x == ("__debug__" : Str)) = false := by decide)
    (h2 : starEach (e :: es) X.env =
      (false, eval e X.env) :: starEach es X.env := by rfl)
    (h3 : (backTo pos (starEach es X.env)).any (·.1) = false := by rfl) :
    PS X (.Raise (some (.Call (.Name x p) (e :: es) [] pos)) none pos2)
      (tRaise1 C f1 W ta) := by
  obtain ⟨f, fd, F, iC, tI, b⟩ := M.ex
  refine ps_imp (ps_raise hc tk (pmk_oex M.cl.ox iC tI F room b .nil pass0' hg
    M.mgC (pa_mid ha) h1 h2 h3)) ?_
  intro D σ H h
  refine ⟨_, h, ?_⟩
  rintro vs H1 ⟨v1, rfl, q⟩
  refine ⟨by simp, fun a na => ⟨a, v1, rfl, upd_same, fun d nd ne => ?_⟩⟩
  have nd1 : H1 d = none := by rw [upd_ne ne] at nd; exact nd
  refine ⟨rfl, d, [(f1, v1)], upd_same, ?_, nd1, ?_⟩
  · rw [upd_ne ne, upd_same]
  · obtain ⟨e1, e2⟩ := made_same (C := C) (fs := [(f1, v1)]) na nd1
      (H2 := upd (upd (upd H1 a (exo a C none)) d (exd d [(f1, v1)])) a
        (exo a C (some d))) fun b o z => by
        rw [upd_ne (ne_of_none z na), upd_ne (ne_of_none z nd1),
          upd_ne (ne_of_none z na)]
        exact z
    exact q d _ nd1 e1 e2
/-- the error that a suite holds -/
theorem suite_inst {a C dd : Addr} {oe : Obj} {pn : List (Addr × Obj)}
    {pins : List (Addr × Obj)} {σ : L2.St} {H : Hp} {s : Shared}
    {fs : List (Str × V)}
    (I : Inv (X.suite a ((a, oe) :: pn)) pins σ H s)
    (hz : Zc (.ref C) (some dd) oe) (hf : ∃ vs, oe.data = .fields vs)
    (hd : H dd = some (.xd fs)) :
    ∃ od, PySem.W.InstAt s.heap a oe C (some od) := by
  obtain ⟨ha, _⟩ := I.pin (a, oe) (List.mem_append_left _ List.mem_cons_self)
  obtain ⟨vs, hv⟩ := hf
  obtain ⟨mA, hns, _⟩ := (show ObjOk X.prog X.w H s.heap dd (.xd fs) from
    I.hok dd _ hd)
  obtain ⟨od, ho, _⟩ := lookIn_ns hns
  exact ⟨od, ha, hz.1, by unfold PySem.W.notCls; rw [hv] <;> rfl,
    by rw [hz.2]; exact ho⟩
def rIsX (K : PySem.W.Frag) (a : Addr) (cls : Value) (d : Option Addr) :
    List V → Hp → VK → Prop := fun xs H Q =>
  ∃ (C dd : Addr) (fs : List (Str × V)) (c : V) (cv : Value) (b : Bool),
    XCl K C ∧ cls = .ref C ∧ d = some dd ∧ H dd = some (.xd fs) ∧
    xs = [.ref a, c] ∧ ClsV c cv ∧
    PySem.W.kitOne K (.ref C) cv = some b ∧ Q (.bl b) H
theorem call_isX {a : Addr} {cls : Value} {d : Option Addr} {oe : Obj}
    {pn : List (Addr × Obj)} (hz : Zc cls d oe)
    (hf : ∃ vs, oe.data = .fields vs) :
    CallR (X.suite a ((a, oe) :: pn)) (.builtin "isinstance")
      (rIsX X.K a cls d) := by
  intro pins s σ H xs us Q I r h
  obtain ⟨C, dd, fs, c, cv, b, T, rfl, rfl, hd, rfl, k, e, q⟩ := h
  obtain ⟨u1, u2, rfl, r1, r2⟩ := vals2 r
  cases r1
  cases k.eq r2
  obtain ⟨od, J⟩ := suite_inst I hz hf hd
  obtain ⟨cd, hc, _⟩ := PySem.W.any_some T.xf.hdC
  exact PySem.W.kia_one (PySem.W.kitx_exc (by rw [hc]; rfl) T.xf.ga T.xf.gg
    T.xf.exC T.ha T.hn T.ht T.hm) I.kIn J e (fun z => nomatch z) fun tk =>
    ⟨.bl b, H, I.kept (t' := tk) fun _ _ z => z, rfl, q⟩
def rIsXT (K : PySem.W.Frag) (a : Addr) (cls : Value) (d : Option Addr) :
    List V → Hp → VK → Prop := fun xs H Q =>
  ∃ (C dd tp : Addr) (fs : List (Str × V)) (cs : List V) (us : List Value)
    (b : Bool), XCl K C ∧ cls = .ref C ∧ d = some dd ∧
    H dd = some (.xd fs) ∧ xs = [.ref a, .ref tp] ∧ H tp = some (.tup cs) ∧
    Paired ClsV cs us ∧ PySem.W.kitAny K (.ref C) us = some b ∧ Q (.bl b) H
theorem paired_eq : ∀ {cs : List V} {us vs : List Value},
    Paired ClsV cs us → Vals cs vs → vs = us
  | _, _, _, .nil, .nil => rfl
  | _, _, _, .cons h t, .cons r s => by
    rw [h.eq r, paired_eq t s]
theorem call_isXT {a : Addr} {cls : Value} {d : Option Addr} {oe : Obj}
    {pn : List (Addr × Obj)} (hz : Zc cls d oe)
    (hf : ∃ vs, oe.data = .fields vs) :
    CallR (X.suite a ((a, oe) :: pn)) (.builtin "isinstance")
      (rIsXT X.K a cls d) := by
  intro pins s σ H xs us Q I r h
  obtain ⟨C, dd, tp, fs, cs, vs, b, T, rfl, rfl, hd, rfl, ht, pr, e, q⟩ := h
  obtain ⟨u1, u2, rfl, r1, r2⟩ := vals2 r
  cases r1
  cases r2
  obtain ⟨od, J⟩ := suite_inst I hz hf hd
  obtain ⟨cd, hc, _⟩ := PySem.W.any_some T.xf.hdC
  obtain ⟨z, its, rv, ob, ho, hcl, n, hdt⟩ := I.hok tp _ ht
  cases paired_eq pr rv
  obtain ⟨oc, od', da, sl⟩ := ob
  dsimp only at hcl hdt
  subst hcl hdt
  exact PySem.W.kia_tup (PySem.W.kitx_exc (by rw [hc]; rfl) T.xf.ga T.xf.gg
    T.xf.exC T.ha T.hn T.ht T.hm) I.kIn J ho e (fun z => nomatch z) fun tk =>
    ⟨.bl b, H, I.kept (t' := tk) fun _ _ z => z, rfl, q⟩
end
end OM
namespace OM
open PySem PySem.Spec PyProof.Rows L2
section
variable {X : Cx} {k : Nat} {ps : List Str} {sp : Sp} {x : Str} {C : Addr}
  {p pos : Pos} {e : Expr} {es : List Expr} {t : TA}
/-- a callee that may raise -/
structure CalX (P : Program) (w : World) (K : PySem.W.Frag)
    (mg : Str → Option Value) (base : Heap) (k : Nat) (x : Str)
    (ps : List Str) (sp : Sp) : Prop where
  ex : ∃ f fd, FnOk P w K mg base (L2.CX P w) k f fd ps sp ∧
    mg x = some (.ref f) ∧ PySem.W.keepIn K (.ref f) = true ∧
    Binds K fd ps []
/-- f(..), what leaves f leaves this def -/
theorem pe_calX {E : XK} {W : WX}
    (M : CalX X.prog X.w X.K X.mg X.base k x ps sp)
    (room : Room k X.A) (tk : Takes X W)
    (hW : ∀ cls d σ H, E cls d H → W cls d σ H) (ha : PA X (e :: es) t)
    (hg : Gl X x := by rfl)
    (h1 : (x == ("__debug__" : Str)) = false := by decide)
    (h2 : starEach (e :: es) X.env =
      (false, eval e X.env) :: starEach es X.env := by rfl)
    (h3 : (backTo pos (starEach es X.env)).any (·.1) = false := by rfl) :
    PE X (.Call (.Name x p) (e :: es) [] pos) (tCall sp [] E t) := by
  obtain ⟨f, fd, F, m, kp, b⟩ := M.ex
  exact pe_call F room hg m kp b .nil (passes_call tk hW) ha h1 h2 h3
/-- a class that is made, its __init__ may raise -/
structure CalCX (P : Program) (w : World) (K : PySem.W.Frag)
    (mg : Str → Option Value) (base : Heap) (C : Addr) (k : Nat) (x : Str)
    (ps : List Str) (sp : Sp) : Prop where
  mgC : mg x = some (.ref C)
  ex : ∃ f fd, FnOk P w K mg base (L2.CX P w) k f fd ps sp ∧ Mk K C f ∧
    Binds K fd ps []
def tMakeS (C : Addr) (sp : Sp) (E : L2.St → XK) (t : TA) : TE :=
  fun σ H Q => t σ H fun vs H1 => ∀ x dx, H1 x = none → H1 dx = none →
    dx ≠ x → sp (.ref x :: vs) (upd (upd H1 dx (.own x)) x (.ins C dx []))
      (fun v H2 => v = .non ∧ Q (.ref x) H2) (E σ)
theorem pe_makeS {E : L2.St → XK}
    (M : CalCX X.prog X.w X.K X.mg X.base C k x ps sp)
    (room : Room (k + 1) X.A)
    (hx : ∀ σ, PassesAt (L2.CX X.prog X.w) X σ (E σ))
    (ha : PA X (e :: es) t) (hg : Gl X x := by rfl)
    (h1 : (x == ("__debug__" : Str)) = false := by decide)
    (h2 : starEach (e :: es) X.env =
      (false, eval e X.env) :: starEach es X.env := by rfl)
    (h3 : (backTo pos (starEach es X.env)).any (·.1) = false := by rfl) :
    PE X (.Call (.Name x p) (e :: es) [] pos) (tMakeS C sp E t) := by
  obtain ⟨f, fd, F, mk, b⟩ := M.ex
  constructor
  intro pins s σ H Q I h
  refine wpAny_Call_Name_kw (ld_glob I hg M.mgC ?_ h1)
  refine PySem.W.callWith_K (h₀ := X.base) I.ok.mod.kin mk.kp
    (thn (ha.run pos pins s σ H _ I h) ?_) h2 h3
  rintro us s1 ⟨vs, H1, I1, r, q⟩
  refine ⟨I1.kIn, ?_⟩
  show wpAny _ _ (call (.ref C) us) _ _ s1
  let a := s1.heap.objs.size + 1
  have q1 := q a s1.heap.objs.size (I1.hok.fresh (Nat.le_succ _))
    (I1.hok.fresh (Nat.le_refl _)) (Nat.ne_of_lt (Nat.lt_succ_self _))
  have I2 := Inv.made (C := C) I1
  have rr : Vals (V.ref a :: vs) (Value.ref a :: us) := .cons rfl r
  have hl : (Value.ref a :: us).length = ps.length :=
    rr.length.symm.trans (F.len _ _ _ _ q1)
  have bd := b _ (Value.ref a :: us) I2.kIn (by
    rw [List.append_nil]; exact hl)
  rw [List.append_nil] at bd
  refine wpAny_call (make_map (f := f) I1.kIn mk.makes mk.init
    (beq_iff_eq.mp mk.fn) (codeAny_mono (F.run _ X.stack _ _
      ⟨Value.ref a :: us, []⟩ (Value.ref a :: us) _ _ (E σ)
      (room.make C us []) (I2.env0.make C us []) bd rr q1) ?_))
  intro r s' hq
  match r, hq with
  | .error e, hq => exact hx σ pins _ _ e s' I2 hq
  | .ok .next, hq => exact False.elim hq
  | .ok .brk, hq => exact False.elim hq
  | .ok .cont, hq => exact False.elim hq
  | .ok (.ret u), hq =>
    obtain ⟨v, H', I3, rv, ev, q3⟩ := I2.after hq
    subst ev
    exact ⟨rv, ⟨V.ref a, H', I3, rfl, q3⟩⟩
end
end OM
namespace OM
open PySem PySem.Spec PyProof.Rows L2
/-! ### data with small dicts -/
mutual
inductive DX (H : Hp) : V → PyData → Prop
  | non : DX H .non .none
  | bl (b : Bool) : DX H (.bl b) (.bool b)
  | int (i : Int) : DX H (.int i) (.int i)
  | str (x : Str) : DX H (.str x) (.str x)
  | lst {a : Addr} {xs : List V} {ds : List PyData} :
      H a = some (.lst xs) → DXs H xs ds → DX H (.ref a) (.list ds)
  | tup {a : Addr} {xs : List V} {ds : List PyData} :
      H a = some (.tup xs) → DXs H xs ds → DX H (.ref a) (.tuple ds)
  | d0 {a : Addr} : H a = some (.dK []) → DX H (.ref a) (.dict [])
  | d1 {a : Addr} {x : Str} {v : V} {d : PyData} :
      H a = some (.dK [(Sum.inr x, v)]) → DX H v d →
      DX H (.ref a) (.dict [(.str x, d)])
inductive DXs (H : Hp) : List V → List PyData → Prop
  | nil : DXs H [] []
  | cons {v : V} {vs : List V} {d : PyData} {ds : List PyData} :
      DX H v d → DXs H vs ds → DXs H (v :: vs) (d :: ds)
end
mutual
theorem DX.same {H H' : Hp} (s : Same H H') : ∀ (d : PyData) (v : V),
    DX H v d → DX H' v d
  | .none, _, h => by cases h; exact .non
  | .bool b, _, h => by cases h; exact .bl b
  | .int i, _, h => by cases h; exact .int i
  | .str x, _, h => by cases h; exact .str x
  | .list ds, _, h => by
    cases h with
    | lst e t => exact .lst (s _ _ e) (DXs.same s ds _ t)
  | .tuple ds, _, h => by
    cases h with
    | tup e t => exact .tup (s _ _ e) (DXs.same s ds _ t)
  | .dict [], _, h => by
    cases h with
    | d0 e => exact .d0 (s _ _ e)
  | .dict [(k, d)], _, h => by
    cases h with
    | d1 e t => exact .d1 (s _ _ e) (DX.same s d _ t)
  | .dict (_ :: _ :: _), _, h => by cases h
theorem DXs.same {H H' : Hp} (s : Same H H') : ∀ (ds : List PyData)
    (vs : List V), DXs H vs ds → DXs H' vs ds
  | [], _, h => by cases h; exact .nil
  | d :: ds, _, h => by
    cases h with
    | cons a t => exact .cons (DX.same s d _ a) (DXs.same s ds _ t)
end
section
variable {X : Cx} {pins : List (Addr × Obj)} {σ : L2.St} {H : Hp} {s : Shared}
theorem dict_parts {a : Addr} {kvs : List (Key × V)} (I : Inv X pins σ H s)
    (e : H a = some (.dK kvs)) : ∃ o es n vs, s.heap.get? a = some o ∧
      o.cls = .type "dict" ∧ o.data = .dict es n ∧
      Pairs (mixKind X.prog X.w) es.toList vs ∧ KV kvs vs := by
  obtain ⟨_, _, vs, kv, o, es, ep, h1, h2, h3, _, h5, _⟩ := dk_of I.hok e
  exact ⟨o, es, ep, vs, h1, h2.1, h3, h5, kv⟩
theorem keyIs_inr {x : Str} {v : Value} (h : keyIs (.inr x) v = true) :
    ∃ t, v = .str x t := by
  rcases keyIs_shape h with ⟨i, t, e, _⟩ | ⟨y, t, e, e2⟩
  · cases e
  · cases e; exact ⟨t, e2⟩
mutual
theorem DX.reads (I : Inv X pins σ H s) (hs : H sysModules = none) :
    ∀ (d : PyData) (v : V) (u : Value), DX H v d → RelV v u →
      ∃ as, Reads s.heap u d as ∧ sysModules ∉ as
  | .none, _, _, h, r => by
    cases h; cases r; exact ⟨_, Reads.none, by simp⟩
  | .bool b, _, _, h, r => by
    cases h; cases r; exact ⟨_, Reads.bool b, by simp⟩
  | .int i, _, _, h, r => by
    cases h; obtain ⟨t, rfl⟩ := r; exact ⟨_, Reads.int i t, by simp⟩
  | .str x, _, _, h, r => by
    cases h; obtain ⟨t, rfl⟩ := r; exact ⟨_, Reads.str x t, by simp⟩
  | .list ds, _, _, h, r => by
    cases h with
    | lst e t =>
      cases r
      obtain ⟨_, its, n, rv, ho⟩ := I.hok _ _ e
      obtain ⟨as, q, nm⟩ := DXs.reads I hs ds _ its t rv
      refine ⟨_, Reads.list ho rfl rfl (by simpa using q), ?_⟩
      intro m
      rcases List.mem_cons.mp m with z | z
      · rw [z, e] at hs; cases hs
      · exact nm z
  | .tuple ds, _, _, h, r => by
    cases h with
    | tup e t =>
      cases r
      obtain ⟨_, its, rv, o, ho, hc, n, hd⟩ := I.hok _ _ e
      obtain ⟨as, q, nm⟩ := DXs.reads I hs ds _ its t rv
      exact ⟨_, Reads.tuple ho hc hd (by simpa using q), nm⟩
  | .dict [], _, _, h, r => by
    cases h with
    | d0 e =>
      cases r
      obtain ⟨o, es, n, vs, h1, h2, h3, h4, kv⟩ := dict_parts I e
      cases kv
      have ez : es.toList = [] := by cases hz : es.toList with
        | nil => rfl
        | cons a b => rw [hz] at h4; cases h4
      refine ⟨_, Reads.dict (kvs := []) h1 h2 h3 (by rw [ez]; exact .nil)
        (by rw [ez]; exact .nil), ?_⟩
      intro m
      rcases List.mem_cons.mp m with z | z
      · rw [z, e] at hs; cases hs
      · cases z
  | .dict [(k, d)], _, _, h, r => by
    cases h with
    | d1 e t =>
      cases r
      obtain ⟨o, es, n, vs, h1, h2, h3, h4, kv⟩ := dict_parts I e
      cases kv with
      | cons p q =>
        cases q
        cases ez : es.toList with
        | nil => rw [ez] at h4; cases h4
        | cons en er =>
          rw [ez] at h4
          cases h4 with
          | cons k1 v1 r1 =>
            cases r1
            obtain ⟨p1, p2⟩ := p
            obtain ⟨as, rd, nm⟩ := DX.reads I hs d _ _ t p2
            rw [← p1] at k1
            obtain ⟨tk, ek⟩ := keyIs_inr k1
            refine ⟨_, Reads.dict (kvs := [(_, d)]) h1 h2 h3 (as := [])
              (bs := as ++ []) ?_ ?_, ?_⟩
            · rw [ez]
              show ReadsAll _ [en.key] [_] ([] ++ [])
              rw [ek]
              exact .cons (.str _ _) .nil
            · rw [ez]
              show ReadsAll _ [en.val] [d] _
              rw [v1]
              exact .cons rd .nil
            · intro m
              rcases List.mem_cons.mp m with z | z
              · rw [z, e] at hs; cases hs
              · have z' : sysModules ∈ ([] : List Addr) ++ (as ++ []) := z
                rw [List.nil_append, List.append_nil] at z'
                exact nm z'
  | .dict (_ :: _ :: _), _, _, h, _ => by cases h
theorem DXs.reads (I : Inv X pins σ H s) (hs : H sysModules = none) :
    ∀ (ds : List PyData) (vs : List V) (us : List Value), DXs H vs ds →
      Vals vs us → ∃ as, ReadsAll s.heap us ds as ∧ sysModules ∉ as
  | [], _, _, h, r => by
    cases h; cases r; exact ⟨_, ReadsAll.nil, by simp⟩
  | d :: ds, _, _, h, r => by
    cases h with
    | cons h1 h2 =>
      cases r with
      | cons r1 r2 =>
        obtain ⟨as, q1, n1⟩ := DX.reads I hs d _ _ h1 r1
        obtain ⟨bs, q2, n2⟩ := DXs.reads I hs ds _ _ h2 r2
        exact ⟨_, ReadsAll.cons q1 q2, fun m => (List.mem_append.mp m).elim n1 n2⟩
end
/-- repr(x) of data with small dicts -/
def rReprX : List V → Hp → VK → Prop := fun xs H Q =>
  ∃ v d, xs = [v] ∧ DX H v d ∧ d.showable = true ∧ d.depth ≤ 60 ∧
    d.shown.length ≤ sizeLine ∧ Q (.str d.shown) H
theorem call_reprX {k : Nat} (room : Room k X.A)
    (gd : X.A.guards = some [])
    (sm : ∃ o, X.base.get? sysModules = some o) :
    CallR X (.builtin "repr") rReprX := by
  intro pins s σ H xs us Q I r h
  obtain ⟨v, d, rfl, hd, sh, dp, sz, q⟩ := h
  cases r with
  | cons rv rn =>
    cases rn
    rename_i u
    obtain ⟨o, ho⟩ := sm
    have hs : H sysModules = none := (I.env0.bs _ o ho).2
    obtain ⟨as, rd, nm⟩ := DX.reads I hs d v u hd rv
    have un := room.units
    have key : ∀ a : Addr, u = .ref a → wpAny (model X.prog X.w) X.A
        (call (.builtin "repr") [u]) (EP X pins σ Q) X.xe s := by
      rintro a rfl
      refine repr_of_reads' rd sh (fun _ => nm) gd (by omega) (fun _ _ e => e)
        (fun h' u tk hk => ?_) sz
      exact ⟨.str _, H, I.kept hk, ⟨_, rfl⟩, q⟩
    cases hd with
    | non =>
      cases rv
      exact PySem.P.repr_of_none ⟨.str _, H, I.tok _, ⟨_, rfl⟩, q⟩
    | bl b =>
      cases rv
      exact PySem.P.repr_of_bool ⟨.str _, H, I.tok _, ⟨_, rfl⟩, q⟩
    | int i =>
      obtain ⟨t, rfl⟩ := rv
      refine PySem.P.repr_of_int ?_ ⟨.str _, H, I.tok _, ⟨_, rfl⟩, q⟩
      simpa [PyData.showable] using sh
    | str x =>
      obtain ⟨t, rfl⟩ := rv
      exact PySem.P.repr_of_str ⟨.str _, H, I.tok _, ⟨_, rfl⟩, q⟩ sz
    | lst a b => cases rv; exact key _ rfl
    | tup a b => cases rv; exact key _ rfl
    | d0 a => cases rv; exact key _ rfl
    | d1 a b => cases rv; exact key _ rfl
end
end OM
namespace OM
open PySem PySem.Spec PyProof.Rows L2

/-- the law's call, nothing being shown around it -/
theorem lawS {P : Program} {w : World} {K : PySem.W.Frag}
    {mg mb : Str → Option Value} {k : Nat} {fa a : Addr} {fd : FuncData}
    {x : Str} {sp : Sp} {s1 : Shared} {vs : List Value} {ns : List Int}
    (kin : K.In s1.heap) (glob : s1.heap.Ns mainGlobals mg)
    (blt : s1.heap.Ns builtinsNs mb)
    (boot : ∀ x : Str, x ≠ "__name__" → mb x = bootBuiltins x)
    (nol : s1.heap.NoLimit) (gens : s1.gens = #[])
    (ha : s1.heap.get? a =
      some { cls := .type "list", data := .seq vs.toArray })
    (hints : IntsAre vs ns) (hl : ns.length ≤ sizeLine)
    (room : Room k callerA)
    (smod : ∃ mm, s1.heap.Ns sysModules mm)
    (F : ∀ base : Heap, K.In base → base.Ns mainGlobals mg →
      (∃ o, base.get? sysModules = some o) →
      FnG P w K mg base CX0 k fa fd [x] sp)
    (bind : ∀ (s : Shared) (u : Value), BindsTo s fd ⟨[u], []⟩ [(x, u)])
    (hsp : ∀ H : Hp, Only H → SqL K H a (ns.map V.int) →
      sp [.ref a] H (fun v _ => v = .bl true) E0) :
    codeAny (model P w) callerA (.call (.ref fa) ⟨[.ref a], []⟩)
      (fun r s' => r = .ok (.ret (.bool true)) ∧ OldK s1.heap s'.heap ∧
        s'.os = s1.os ∧ AllBare s'.gens) s1 := by
  have rel := vals_ints hints
  have lv := hints.length
  -- H tracks the script alone, or nothing
  suffices core : ∀ H : Hp, Only H → SqL K H a (ns.map V.int) →
      HOk P w H s1.heap → (∀ b, H b ≠ none → b = a) →
      (H a ≠ none → K.lookup a = none) →
      codeAny (model P w) callerA (.call (.ref fa) ⟨[.ref a], []⟩)
        (fun r s' => r = .ok (.ret (.bool true)) ∧ OldK s1.heap s'.heap ∧
          s'.os = s1.os ∧ AllBare s'.gens) s1 by
    by_cases hk : ∃ o, K.lookup a = some o
    · obtain ⟨o, hk⟩ := hk
      have e := kin a o hk
      rw [ha] at e
      cases e
      refine core (fun _ => none) (fun _ => Or.inl rfl) (Or.inr ?_)
        (fun b u z => ?_) (fun b z => absurd rfl z) (fun z => absurd rfl z)
      · exact ⟨_, vs.toArray, _, hk, rfl, rfl, rfl,
          by rw [List.size_toArray, lv]; exact hl, by simpa using rel⟩
      · cases (show (none : Option HO) = some u from z)
    · have hk : K.lookup a = none := by
        cases q : K.lookup a with
        | none => rfl
        | some o => exact absurd ⟨o, q⟩ hk
      let ob : Obj := { cls := .type "list", data := .seq vs.toArray }
      refine core (fun b => if b = a then
          some (.frz ob (.lst (ns.map V.int))) else none)
        (fun b => ?_) (Or.inl (Or.inr ⟨ob, if_pos rfl⟩))
        (fun b u z => ?_) (fun b z => ?_) (fun _ => hk)
      · by_cases hb : b = a
        · exact Or.inr ⟨_, _, if_pos hb⟩
        · exact Or.inl (if_neg hb)
      · by_cases hb : b = a
        · cases (if_pos hb).symm.trans z
          subst hb
          exact ⟨ha, by rw [List.length_map]; exact hl, vs, _, rel, ha⟩
        · cases (if_neg hb).symm.trans z
      · by_cases hb : b = a
        · exact hb
        · exact absurd (if_neg hb) z
  intro H only sq ok alone notK
  have untracked : ∀ {b : Addr} {o : Obj}, s1.heap.get? b = some o →
      (∀ z, o.data ≠ .seq z 0) → H b = none := by
    intro b o e d
    cases q : H b with
    | none => rfl
    | some u =>
      have z : b = a := alone b (by rw [q]; exact nofun)
      subst z
      rw [ha] at e
      cases e
      exact absurd rfl (d _)
  have ns' : ∀ {b : Addr} {m : Str → Option Value}, s1.heap.Ns b m →
      (hidT s1.heap H).Ns b m := by
    rintro b m ⟨o, es, ep, e, d, r⟩
    refine ⟨o, es, ep, hidT_get e (untracked e fun z y => ?_), d, r⟩
    cases d.symm.trans y
  have kin' : K.In (hidT s1.heap H) := by
    intro b o e
    refine hidT_get (kin b o e) ?_
    cases q : H b with
    | none => rfl
    | some u =>
      have z : b = a := alone b (by rw [q]; exact nofun)
      subst z
      rw [notK (by rw [q]; exact nofun)] at e
      cases e
  have md : Mod K mg (hidT s1.heap H) := by
    obtain ⟨mc, h1, h2⟩ := nol
    exact ⟨kin', ns' glob, ⟨mb, ns' blt, boot⟩, ⟨mc, ns' h1, h2⟩⟩
  have env : Env0 P w K mg (hidT s1.heap H) callerA [] s1 H :=
    ⟨rfl, md, fun b o e => of_hidT e, Nat.le_of_eq (hidT_size _ _), trivial,
      fun b hb => (nomatch (show b ∈ ([] : List Addr) from hb)), ok,
      .of_eq gens⟩
  have smd : ∃ o, (hidT s1.heap H).get? sysModules = some o := by
    obtain ⟨mm, hm⟩ := smod
    obtain ⟨o, es, ep, e, _⟩ := ns' hm
    exact ⟨o, e⟩
  refine codeAny_mono ((F _ kin' (ns' glob) smd).run callerA [] s1 H ⟨[.ref a], []⟩
    [.ref a] [.ref a] _ _ room rfl env (bind s1 (.ref a)) (.cons rfl .nil)
    (hsp H only sq)) ?_
  intro r s' h
  match r, h with
  | .error e, h => exact False.elim h
  | .ok .next, h => exact False.elim h
  | .ok .brk, h => exact False.elim h
  | .ok .cont, h => exact False.elim h
  | .ok (.ret u), h =>
    obtain ⟨v, H', os, bare, un, ok', rv, q⟩ := h
    cases (show v = .bl true from q)
    cases (show u = Value.bool true from rv)
    refine ⟨rfl, OldK.of_keep fun b o e => ?_, os, bare⟩
    cases q : H b with
    | none =>
      exact un.keep b o e q
        (fun z => nomatch (show b ∈ ([] : List Addr) from z)) (by simp)
    | some u =>
      cases only b with
      | inl z => rw [q] at z; cases z
      | inr z =>
        obtain ⟨ob, xs, z⟩ := z
        have e1 := (ok b _ z).1
        have e2 := (ok' b _ (un.frzs b ob _ z)).1
        rw [e] at e1
        cases e1
        exact e2

/-- what the head leaves, from the law's promise -/
theorem walkS {l : PySem.W.OpenLaw} {n k : Nat} {q : Program} {ls : List Str}
    {XP : (Str → Option Value) → Heap → Prop} {YP : World → Heap → Prop}
    {d : DefRec} {K : Params → PySem.W.Frag} {sp : PySem.W.Frag → Sp} {x : Str}
    (hn : l.most = some n) (hn2 : n ≤ sizeLine) (hq : importsNone q = true)
    (hdf : d.params.defaults = []) (room : Room k callerA)
    (hY : ∀ (w : World) (h : Heap), YP w h → (K w.params).In h)
    (F : ∀ (w : World) (mg : Str → Option Value) (fa : Addr) (h : Heap),
      (K w.params).In h → h.Ns mainGlobals mg → mg d.name = some (.ref fa) →
      ∃ fd : FuncData,
        (∀ (s : Shared) (u : Value), BindsTo s fd ⟨[u], []⟩ [(x, u)]) ∧
        ∀ base : Heap, (K w.params).In base → base.Ns mainGlobals mg →
          (∃ o, base.get? sysModules = some o) →
          FnG l.prog w (K w.params) mg base CX0 k fa fd [x]
            (sp (K w.params)))
    (hsp : ∀ (K : PySem.W.Frag) (H : Hp) (a : Addr) (ns : List Int),
      ns.length ≤ n → Only H → SqL K H a (ns.map V.int) →
      sp K [.ref a] H (fun v _ => v = .bl true) E0) :
    PySem.W.WalkO q ls XP YP l.row.toRowW d []
      (fun f vs => PySem.call f vs) := by
  refine Att.attach_call hn hdf ?_
  intro w s₀ s1 mg mb fa o pm cd doc a vs ns G Y ho hd hcd hmg hobj hi hlen hg
  have KX := hY w _ Y
  obtain ⟨fd, hb, hF⟩ := F w mg fa _ KX G.T.g hmg
  exact lawS KX G.T.g G.T.b G.T.builtins G.T.nolimit hg hobj hi
    (Nat.le_trans hlen hn2) room
    (by obtain ⟨mm, h, _⟩ := (G.T.seer hq).mods; exact ⟨mm, h⟩) hF hb
    (fun H hO hS => hsp (K w.params) H a ns hlen hO hS)
end OM
namespace OM
open PySem PySem.Spec PyProof.Rows L2
section
variable {X : Cx}
/-- xs == [], whatever xs holds -/
def rEqNil : R2 := fun x y H Q => ∃ a b xs, x = .ref a ∧ y = .ref b ∧
  H a = some (.lst xs) ∧ H b = some (.lst []) ∧ Q (.bl xs.isEmpty) H
theorem op_eqNil {k : Nat} (room : Room k X.A) :
    OpR X (compareOp .Eq) rEqNil := by
  intro pins s σ H x y v u Q I rx ry h
  obtain ⟨a, b, xs, rfl, rfl, ha, hb, q⟩ := h
  cases rx
  cases ry
  obtain ⟨_, its, n, rv, ho⟩ := I.hok _ _ ha
  obtain ⟨_, jts, m, rw', ho'⟩ := I.hok _ _ hb
  cases rw'
  have un := room.units
  cases rv with
  | nil =>
    refine SeqAt.eq_listAt (e := fun _ => true) ⟨_, ho, rfl, _, rfl⟩
      ⟨_, ho', rfl, _, rfl⟩ rfl (by omega) (fun j h1 h2 => ?_) ?_
    · simp at h1
    · exact ⟨.bl true, H, I, rfl, q⟩
  | cons r rs =>
    refine SeqAt.eq_list_lengthsAt ⟨_, ho, rfl, _, rfl⟩
      ⟨_, ho', rfl, _, rfl⟩ (by simp) (by omega) ?_
    exact ⟨.bl false, H, I, rfl, q⟩
end
end OM
/-! Errors whose context is None: raised in a def, passed on by its callers,
caught where the suite raises another one. -/
namespace OM
open PySem PySem.Spec PyProof.Rows L2
section
variable {X : Cx} {k : Nat} {ps : List Str} {sp : Sp} {x : Str} {C : Addr}
  {p pos pos2 : Pos} {e : Expr} {es : List Expr} {ta : TA}
/-- C(e, ..), made in order to be raised where nothing is handled -/
theorem pmkN (M : XMk X.prog X.w X.K X.mg X.base C k x ps sp)
    (room : Room (k + 1) X.A) (ha : PA X (e :: es) ta)
    (hg : Gl X x := by rfl)
    (h1 : (x == ("__debug__" : Str)) = false := by decide)
    (h2 : starEach (e :: es) X.env =
      (false, eval e X.env) :: starEach es X.env := by rfl)
    (h3 : (backTo pos (starEach es X.env)).any (·.1) = false := by rfl) :
    L2N.PMk X (.Call (.Name x p) (e :: es) [] pos) (tMkO C sp [] ta) := by
  obtain ⟨f, fd, fn, at_, ty, bd⟩ := M.ex
  have ox := M.cl.ox
  obtain ⟨_, _, _, _, bm, _, _, _, _, _, _, _, _, _, _, known, isVE⟩ := ox.cls
  intro pins s σ H Q I h
  refine wpAny_Call_Name_kw (ld_glob I hg M.mgC ?_ h1)
  refine PySem.W.callWith_K (h₀ := X.base) I.ok.mod.kin ox.kC
    (thn (ha.run pos pins s σ H _ I h) ?_) h2 h3
  rintro us ⟨hp, g, dr, tk, os⟩ ⟨vs, H1, I1, r1, few, q1⟩
  refine ⟨I1.kIn, ?_⟩
  show wpAny _ _ (call (.ref C) us) _ _ _
  have above : hp.objs.size ≤ hp.objs.size + 1 := Nat.le_succ _
  have todo := q1 (hp.objs.size + 1) (I1.hok.fresh above)
  rw [List.append_nil] at todo
  have grown : ∀ b o, hp.get? b = some o →
      ((hp.push (PySem.W.kdv_tup us)).push
        (PySem.HandSPX.excO C hp.objs.size)).get? b = some o :=
    fun b o z => Heap.get?_push_of_some _ (Heap.get?_push_of_some _ z)
  have new : ((hp.push (PySem.W.kdv_tup us)).push
      (PySem.HandSPX.excO C hp.objs.size)).get? (hp.objs.size + 1) =
      some (PySem.HandSPX.excO C hp.objs.size) := by heap_get
  have I2 := I1.laid (t' := tk) (o := exo (hp.objs.size + 1) C none) grown above
    (exo_ok new)
  have rr : Vals (V.ref (hp.objs.size + 1) :: vs)
      (Value.ref (hp.objs.size + 1) :: us) := .cons rfl r1
  have many : (Value.ref (hp.objs.size + 1) :: us).length = ps.length :=
    rr.length.symm.trans (fn.len _ _ _ _ todo)
  have args := bd _ (Value.ref (hp.objs.size + 1) :: us) I2.kIn (by
    rw [List.append_nil]; exact many)
  rw [List.append_nil] at args
  have short : us.length ≤ sizeLine := by
    have := Paired.length r1
    rw [sizeLine_eq]
    omega
  have ran := fn.run _ X.stack _ _ ⟨Value.ref (hp.objs.size + 1) :: us, []⟩
    (Value.ref (hp.objs.size + 1) :: us) _ _ (fun _ _ _ => False)
    (room.make C us []) (I2.env0.make C us []) args rr todo
  refine wpAny_call (PySem.HandSPX.call_own PySem.F.excBase_ValueError
    (fun Y => PySem.HandSPX.refsVE_contains Y bm isVE) (I1.kIn _ _ known)
    (PySem.W.looks_findIn I1.kIn at_)
    (fun self => PySem.W.bind_fn I1.kIn self ty) short
    (codeAny_mono ran ?_))
  rintro r ⟨h2', g2, d2, t2, os2⟩ out
  match r, out with
  | .error er, out => exact False.elim out
  | .ok .next, out => exact False.elim out
  | .ok .brk, out => exact False.elim out
  | .ok .cont, out => exact False.elim out
  | .ok (.ret u), out =>
    obtain ⟨v, H2, eo, bare, un, hok, rv, ev, d, fs, ea, ed, nd, q2⟩ := out
    subst ev
    obtain ⟨t0, G, J, kG, ng, at2, na⟩ := mk_end0 (d2 := d2) (t2 := t2) I1
      above grown un hok eo bare ea ed nd
    exact ⟨rv, hp.objs.size + 1, _, _, ⟨G, g2, d2, t2, os2⟩, _, .ref C, some d,
      rfl, J, kG, ng, at2, ⟨rfl, rfl, fun vs z => by cases z; rfl⟩, rfl, rfl, na,
      rfl, bare, raises_own ox.exC ox.tyC, q2⟩
/-- raise C(e1, e2), its context None -/
theorem ps_raise2N {f1 f2 : Str} {W : WX}
    (M : XMk X.prog X.w X.K X.mg X.base C k x ps (spX2 C f1 f2))
    (room : Room (k + 1) X.A) (hc : X.calm = true) (tk : L2N.Takes X W)
    (ha : PA X (e :: es) ta) (hg : Gl X x := by rfl)
    (h1 : (x == ("__debug__" : Str)) = false := by decide)
    (h2 : starEach (e :: es) X.env =
      (false, eval e X.env) :: starEach es X.env := by rfl)
    (h3 : (backTo pos (starEach es X.env)).any (·.1) = false := by rfl) :
    PS X (.Raise (some (.Call (.Name x p) (e :: es) [] pos)) none pos2)
      (tRaise2 C f1 f2 W ta) := by
  refine ps_imp (L2N.ps_raise hc tk (pmkN M room (pa_mid ha) hg h1 h2 h3)) ?_
  intro D σ H h
  refine ⟨_, h, ?_⟩
  rintro vs H1 ⟨v1, v2, rfl, q⟩
  refine ⟨by simp, fun a na => ⟨a, v1, v2, rfl, upd_same, fun d nd ne => ?_⟩⟩
  have nd1 : H1 d = none := by rw [upd_ne ne] at nd; exact nd
  refine ⟨rfl, d, _, ?_, upd_same, nd1, ?_⟩
  · rw [upd_ne ne.symm, upd_same]
  · obtain ⟨e1, e2⟩ := made_same (C := C) (fs := [(f2, v2), (f1, v1)]) na nd1
      (H2 := upd (upd (upd (upd H1 a (exo a C none)) d (exd d [(f1, v1)])) a
        (exo a C (some d))) d (exd d [(f2, v2), (f1, v1)])) fun b o z => by
        rw [upd_ne (ne_of_none z nd1), upd_ne (ne_of_none z na),
          upd_ne (ne_of_none z nd1), upd_ne (ne_of_none z na)]
        exact z
    exact q d _ nd1 e1 e2
/-- a class whose error is raised while another one is handled -/
structure XMkH (P : Program) (w : World) (K : PySem.W.Frag)
    (mg : Str → Option Value) (base : Heap) (C : Addr) (k : Nat) (x : Str)
    (ps : List Str) (sp : Sp) : Prop where
  mgC : mg x = some (.ref C)
  cl : XCl K C
  ex : ∃ f fd, L2H.FnH P w K mg base CX0 k f fd ps sp ∧
    PySem.W.findIn K (.ref C) "__init__" = some (some (.ref f)) ∧
    PySem.W.typeIn K (.ref f) = some (.type "function") ∧ Binds K fd ps []
/-- raise C(e1) from None, in an except suite -/
theorem ps_raise1H {f1 : Str} {W : WX} {j : Nat} {cpos : Pos}
    (M : XMkH X.prog X.w X.K X.mg X.base C k x ps (spX1 C f1))
    (room : L2H.RoomH (k + 1) X.A) (hc : L2H.HotC X) (tk : L2.Takes X W)
    (ha : PA X (e :: es) ta) (hg : Gl X x := by rfl)
    (h1 : (x == ("__debug__" : Str)) = false := by decide)
    (h2 : starEach (e :: es) X.env =
      (false, eval e X.env) :: starEach es X.env := by rfl)
    (h3 : (backTo pos (starEach es X.env)).any (·.1) = false := by rfl) :
    PS X (.Raise (some (.Call (.Name x p) (e :: es) [] pos))
      (some (.Constant .none j cpos)) pos2) (tRaise1 C f1 W ta) := by
  obtain ⟨f, fd, fn, iC, tI, b⟩ := M.ex
  refine ps_imp (L2H.ps_raiseHN hc tk (L2H.pmk5_oexH M.cl.ox iC tI fn room hc b
    pass0' hg M.mgC (pa_mid ha) h1 h2 h3)) ?_
  intro D σ H h
  refine ⟨_, h, ?_⟩
  rintro vs H1 ⟨v1, rfl, q⟩
  refine ⟨by simp, fun a na => ⟨a, v1, rfl, upd_same, fun d nd ne => ?_⟩⟩
  have nd1 : H1 d = none := by rw [upd_ne ne] at nd; exact nd
  refine ⟨rfl, d, [(f1, v1)], upd_same, ?_, nd1, ?_⟩
  · rw [upd_ne ne, upd_same]
  · obtain ⟨e1, e2⟩ := made_same (C := C) (fs := [(f1, v1)]) na nd1
      (H2 := upd (upd (upd H1 a (exo a C none)) d (exd d [(f1, v1)])) a
        (exo a C (some d))) fun b o z => by
        rw [upd_ne (ne_of_none z na), upd_ne (ne_of_none z nd1),
          upd_ne (ne_of_none z na)]
        exact z
    exact q d _ nd1 e1 e2
end
/-! ### callees that raise, whatever is known of what they raise -/
section
variable {X : Cx} {k : Nat} {ps : List Str} {sp : Sp} {x : Str} {C : Addr}
  {p pos : Pos} {e : Expr} {es : List Expr} {t : TA} {CX : CXT}
structure CalE (CX : CXT) (P : Program) (w : World) (K : PySem.W.Frag)
    (mg : Str → Option Value) (base : Heap) (k : Nat) (x : Str)
    (ps : List Str) (sp : Sp) : Prop where
  ex : ∃ f fd, FnOk P w K mg base CX k f fd ps sp ∧
    mg x = some (.ref f) ∧ PySem.W.keepIn K (.ref f) = true ∧
    Binds K fd ps []
theorem pe_calE {E : XK} (M : CalE CX X.prog X.w X.K X.mg X.base k x ps sp)
    (room : Room k X.A) (hx : Passes CX X E) (ha : PA X (e :: es) t)
    (hg : Gl X x := by rfl)
    (h1 : (x == ("__debug__" : Str)) = false := by decide)
    (h2 : starEach (e :: es) X.env =
      (false, eval e X.env) :: starEach es X.env := by rfl)
    (h3 : (backTo pos (starEach es X.env)).any (·.1) = false := by rfl) :
    PE X (.Call (.Name x p) (e :: es) [] pos) (tCall sp [] E t) := by
  obtain ⟨f, fd, fn, m, kp, b⟩ := M.ex
  exact pe_call fn room hg m kp b .nil hx ha h1 h2 h3
structure CalCE (CX : CXT) (P : Program) (w : World) (K : PySem.W.Frag)
    (mg : Str → Option Value) (base : Heap) (C : Addr) (k : Nat) (x : Str)
    (ps : List Str) (sp : Sp) : Prop where
  mgC : mg x = some (.ref C)
  ex : ∃ f fd, FnOk P w K mg base CX k f fd ps sp ∧ Mk K C f ∧
    Binds K fd ps []
theorem pe_makeE {E : L2.St → XK}
    (M : CalCE CX X.prog X.w X.K X.mg X.base C k x ps sp)
    (room : Room (k + 1) X.A) (hx : ∀ σ, PassesAt CX X σ (E σ))
    (ha : PA X (e :: es) t) (hg : Gl X x := by rfl)
    (h1 : (x == ("__debug__" : Str)) = false := by decide)
    (h2 : starEach (e :: es) X.env =
      (false, eval e X.env) :: starEach es X.env := by rfl)
    (h3 : (backTo pos (starEach es X.env)).any (·.1) = false := by rfl) :
    PE X (.Call (.Name x p) (e :: es) [] pos) (tMakeS C sp E t) := by
  obtain ⟨f, fd, F, mk, b⟩ := M.ex
  constructor
  intro pins s σ H Q I h
  refine wpAny_Call_Name_kw (ld_glob I hg M.mgC ?_ h1)
  refine PySem.W.callWith_K (h₀ := X.base) I.ok.mod.kin mk.kp
    (thn (ha.run pos pins s σ H _ I h) ?_) h2 h3
  rintro us s1 ⟨vs, H1, I1, r, q⟩
  refine ⟨I1.kIn, ?_⟩
  show wpAny _ _ (call (.ref C) us) _ _ s1
  let a := s1.heap.objs.size + 1
  have q1 := q a s1.heap.objs.size (I1.hok.fresh (Nat.le_succ _))
    (I1.hok.fresh (Nat.le_refl _)) (Nat.ne_of_lt (Nat.lt_succ_self _))
  have I2 := Inv.made (C := C) I1
  have rr : Vals (V.ref a :: vs) (Value.ref a :: us) := .cons rfl r
  have hl : (Value.ref a :: us).length = ps.length :=
    rr.length.symm.trans (F.len _ _ _ _ q1)
  have bd := b _ (Value.ref a :: us) I2.kIn (by
    rw [List.append_nil]; exact hl)
  rw [List.append_nil] at bd
  refine wpAny_call (make_map (f := f) I1.kIn mk.makes mk.init
    (beq_iff_eq.mp mk.fn) (codeAny_mono (F.run _ X.stack _ _
      ⟨Value.ref a :: us, []⟩ (Value.ref a :: us) _ _ (E σ)
      (room.make C us []) (I2.env0.make C us []) bd rr q1) ?_))
  intro r s' hq
  match r, hq with
  | .error e, hq => exact hx σ pins _ _ e s' I2 hq
  | .ok .next, hq => exact False.elim hq
  | .ok .brk, hq => exact False.elim hq
  | .ok .cont, hq => exact False.elim hq
  | .ok (.ret u), hq =>
    obtain ⟨v, H', I3, rv, ev, q3⟩ := I2.after hq
    subst ev
    exact ⟨rv, ⟨V.ref a, H', I3, rfl, q3⟩⟩
end
section
variable {P : Program} {w : World} {K : PySem.W.Frag}
  {mg : Str → Option Value} {base : Heap} {CX : CXT}
/-- a def, whatever is told of what it raises -/
theorem okE {x qual : Str} {st : Stmt} {f : Addr} {fd : FuncData}
    {N ps : List Str} {k : Nat} {sp : Sp} (F : Fun K x qual st f fd)
    (S : FnScope N ps (defScope st))
    (len : ∀ vs H Q E, sp vs H Q E → vs.length = ps.length)
    (body : ∀ (cdv : Value) (A : Around) (outer : List Env) (s : Shared)
      (H : Hp) (vs : List V) (Q : VK) (E : XK),
      Room k (A.deeper (envOfC qual (defScope st) s.heap.objs.size f cdv)) →
      sp vs H Q E → ∃ t, PSs (cxOf CX P w K mg base N qual (defScope st) f cdv
        A outer s H E) (defBody st) t ∧
        t { nx := fun _ H' => Q .non H', rt := Q } (start N vs) H) :
    FnOk P w K mg base CX (k + 1) f fd ps sp := by
  obtain ⟨_, _, _, _, _, _, cdv, _, _, rfl, lk, hcd⟩ := F.ex
  exact fn_of lk hcd S len fun A outer s H vs Q E room h =>
    body cdv A outer s H vs Q E room h
/-- a def called while an error is handled -/
theorem okH {x qual : Str} {st : Stmt} {f : Addr} {fd : FuncData}
    {N ps : List Str} {k : Nat} {sp : Sp} (F : Fun K x qual st f fd)
    (S : FnScope N ps (defScope st))
    (len : ∀ vs H Q E, sp vs H Q E → vs.length = ps.length)
    (body : ∀ (cdv : Value) (A : Around) (outer : List Env) (s : Shared)
      (H : Hp) (vs : List V) (Q : VK) (E : XK) (p : Addr × Obj),
      sp vs H Q E → ∃ t, PSs (L2H.cxH CX P w K mg base N qual (defScope st) f
        cdv A outer s H E p) (defBody st) t ∧
        t { nx := fun _ H' => Q .non H', rt := Q } (start N vs) H) :
    L2H.FnH P w K mg base CX (k + 1) f fd ps sp := by
  obtain ⟨_, _, _, _, _, _, cdv, _, _, rfl, lk, hcd⟩ := F.ex
  exact L2H.fn_ofH lk hcd S len fun A outer s H vs Q E p _ _ h =>
    body cdv A outer s H vs Q E p h
end
end OM
namespace OM
open PySem PySem.Spec PyProof.Rows L2

/-- code objects whose tables are still empty, and lie outside what K tells -/
structure Bare0 (K : PySem.W.Frag) (h : Heap) (cs : List (Addr × Addr)) :
    Prop where
  hd : ∀ p ∈ cs, PySem.W.CodeHd h p.1 p.2
  emp : ∀ p ∈ cs, h.get? p.2 = some (PySem.W.tabObj #[])
  out : ∀ p ∈ cs, K.lookup p.2 = none

/-- a heap that knows of the tables alone -/
noncomputable def tabHp (cs : List (Addr × Addr)) : Hp := by
  classical exact fun b =>
    if ∃ p ∈ cs, p.2 = b then some (HO.tbl #[]) else none
theorem tabHp_in {cs : List (Addr × Addr)} {p : Addr × Addr} (h : p ∈ cs) :
    tabHp cs p.2 = some (.tbl #[]) := by
  unfold tabHp
  exact if_pos ⟨p, h, rfl⟩
theorem tabHp_some {cs : List (Addr × Addr)} {b : Addr} {u : HO}
    (h : tabHp cs b = some u) : u = .tbl #[] ∧ ∃ p ∈ cs, p.2 = b := by
  unfold tabHp at h
  by_cases q : ∃ p ∈ cs, p.2 = b
  · rw [if_pos q] at h
    exact ⟨(Option.some.inj h).symm, q⟩
  · rw [if_neg q] at h
    cases h

/-- lawG where some defs make lambdas -/
theorem lawT {P : Program} {w : World} {K : PySem.W.Frag}
    {mg mb : Str → Option Value} {k : Nat} {fa a : Addr} {fd : FuncData}
    {x : Str} {sp : Sp} {s1 : Shared} {vs : List Value} {ns : List Int}
    {cs : List (Addr × Addr)}
    (kin : K.In s1.heap) (glob : s1.heap.Ns mainGlobals mg)
    (blt : s1.heap.Ns builtinsNs mb)
    (boot : ∀ x : Str, x ≠ "__name__" → mb x = bootBuiltins x)
    (nol : s1.heap.NoLimit) (gens : s1.gens = #[])
    (Z : Bare0 K s1.heap cs)
    (bmod : ∃ (m : Addr) (o : Obj), mg "__builtins__" = some (.ref m) ∧
      m ≠ builtinsNs ∧ s1.heap.get? m = some o ∧ o.cls = .type "module" ∧
      o.dict = some builtinsNs ∧ o.data = .plain)
    (ha : s1.heap.get? a =
      some { cls := .type "list", data := .seq vs.toArray })
    (hints : IntsAre vs ns) (hl : ns.length ≤ sizeLine)
    (room : Room k callerA)
    (F : ∀ base : Heap, K.In base → base.Ns mainGlobals mg →
      (∀ p ∈ cs, LamX.TabB base mg p.1 p.2) →
      (∀ b o, s1.heap.get? b = some o → (∀ z, o.data ≠ .seq z 0) →
        o.data ≠ .fields #[] → base.get? b = some o) →
      FnG P w K mg base CX0 k fa fd [x] sp)
    (bind : ∀ (s : Shared) (u : Value), BindsTo s fd ⟨[u], []⟩ [(x, u)])
    (hsp : ∀ H : Hp, (∀ p ∈ cs, H p.2 = some (.tbl #[])) →
      SqL K H a (ns.map V.int) →
      sp [.ref a] H (fun v _ => v = .bl true) E0) :
    codeAny (model P w) callerA (.call (.ref fa) ⟨[.ref a], []⟩)
      (fun r s' => r = .ok (.ret (.bool true)) ∧ OldK s1.heap s'.heap ∧
        s'.os = s1.os ∧ AllBare s'.gens) s1 := by
  have rel := vals_ints hints
  have lv := hints.length
  have aOut : ∀ p ∈ cs, p.2 ≠ a := fun p hp e => by
    have z := Z.emp p hp
    rw [e, ha] at z
    have z' := congrArg Obj.data (Option.some.inj z)
    cases z'
  suffices core : ∀ H : Hp, SqL K H a (ns.map V.int) →
      HOk P w H s1.heap → (∀ p ∈ cs, H p.2 = some (.tbl #[])) →
      (∀ b, b ≠ a → H b ≠ none → ∃ p ∈ cs, p.2 = b) →
      (H a = none ∨ (∃ o xs, H a = some (.frz o (.lst xs))) ∧
        K.lookup a = none) →
      codeAny (model P w) callerA (.call (.ref fa) ⟨[.ref a], []⟩)
        (fun r s' => r = .ok (.ret (.bool true)) ∧ OldK s1.heap s'.heap ∧
          s'.os = s1.os ∧ AllBare s'.gens) s1 by
    have tabOk : ∀ b u, tabHp cs b = some u → u = .tbl #[] ∧
        s1.heap.get? b = some (PySem.W.tabObj #[]) := fun b u e => by
      obtain ⟨e1, p, hp, e2⟩ := tabHp_some e
      exact ⟨e1, e2 ▸ Z.emp p hp⟩
    have tabA : tabHp cs a = none := by
      cases q : tabHp cs a with
      | none => rfl
      | some u =>
        obtain ⟨_, p, hp, e⟩ := tabHp_some q
        exact absurd e (aOut p hp)
    by_cases hk : ∃ o, K.lookup a = some o
    · obtain ⟨o, hk⟩ := hk
      have e := kin a o hk
      rw [ha] at e
      cases e
      refine core (tabHp cs) (Or.inr ?_) (fun b u z => ?_)
        (fun p hp => tabHp_in hp) (fun b _ z => ?_) (Or.inl tabA)
      · exact ⟨_, vs.toArray, _, hk, rfl, rfl, rfl,
          by rw [List.size_toArray, lv]; exact hl, by simpa using rel⟩
      · obtain ⟨rfl, e⟩ := tabOk b u z
        exact e
      · cases q : tabHp cs b with
        | none => exact absurd q z
        | some u => exact (tabHp_some q).2
    · have hk : K.lookup a = none := by
        cases q : K.lookup a with
        | none => rfl
        | some o => exact absurd ⟨o, q⟩ hk
      let ob : Obj := { cls := .type "list", data := .seq vs.toArray }
      refine core (upd (tabHp cs) a (.frz ob (.lst (ns.map V.int))))
        (Or.inl (Or.inr ⟨ob, upd_same⟩)) (fun b u z => ?_)
        (fun p hp => by rw [upd_ne (aOut p hp)]; exact tabHp_in hp)
        (fun b hb z => ?_) (Or.inr ⟨⟨ob, _, upd_same⟩, hk⟩)
      · by_cases hb : b = a
        · subst hb
          rw [upd_same] at z
          cases z
          exact ⟨ha, by rw [List.length_map]; exact hl, vs, _, rel, ha⟩
        · rw [upd_ne hb] at z
          obtain ⟨rfl, e⟩ := tabOk b u z
          exact e
      · rw [upd_ne hb] at z
        cases q : tabHp cs b with
        | none => exact absurd q z
        | some u => exact (tabHp_some q).2
  intro H sq ok tabs others atA
  -- what is neither a list nor an empty table is not tracked
  have untracked : ∀ {b : Addr} {o : Obj}, s1.heap.get? b = some o →
      (∀ z, o.data ≠ .seq z 0) → o.data ≠ .fields #[] → H b = none := by
    intro b o e d1 d2
    by_cases hb : b = a
    · subst hb
      rw [ha] at e
      cases e
      exact absurd rfl (d1 _)
    · cases q : H b with
      | none => rfl
      | some u =>
        obtain ⟨p, hp, e2⟩ := others b hb (by rw [q]; exact nofun)
        have z := Z.emp p hp
        rw [e2, e] at z
        cases z
        exact absurd rfl d2
  have ns' : ∀ {b : Addr} {m : Str → Option Value}, s1.heap.Ns b m →
      (hidT s1.heap H).Ns b m := by
    rintro b m ⟨o, es, ep, e, d, r⟩
    refine ⟨o, es, ep, hidT_get e (untracked e (fun z y => ?_)
      fun y => ?_), d, r⟩
    · cases d.symm.trans y
    · cases d.symm.trans y
  have kin' : K.In (hidT s1.heap H) := by
    intro b o e
    refine hidT_get (kin b o e) ?_
    by_cases hb : b = a
    · subst hb
      rcases atA with z | ⟨_, z⟩
      · exact z
      · rw [z] at e
        cases e
    · cases q : H b with
      | none => rfl
      | some u =>
        obtain ⟨p, hp, e2⟩ := others b hb (by rw [q]; exact nofun)
        rw [← e2, Z.out p hp] at e
        cases e
  have md : Mod K mg (hidT s1.heap H) := by
    obtain ⟨mc, h1, h2⟩ := nol
    exact ⟨kin', ns' glob, ⟨mb, ns' blt, boot⟩, ⟨mc, ns' h1, h2⟩⟩
  have made : ∀ p ∈ cs, LamX.TabB (hidT s1.heap H) mg p.1 p.2 := by
    intro p hp
    have em := Z.emp p hp
    have far : ∀ {b : Addr} {o : Obj}, s1.heap.get? b = some o →
        o.data ≠ .fields #[] → b ≠ p.2 := fun {b o} e d z => by
      rw [z, em] at e
      cases e
      exact d rfl
    obtain ⟨gob, ges, gep, ge, gd, _⟩ := glob
    refine ⟨?_, ?_, far ge (by rw [gd]; exact nofun)⟩
    · obtain ⟨o, us, v1, v2, v3, v4, v5, v6, v7, e1, e2, e3, e4, e5⟩ :=
        Z.hd p hp
      refine ⟨o, us, v1, v2, v3, v4, v5, v6, v7, hidT_get e1 (untracked e1
        (fun z y => ?_) (fun y => ?_)), e2, e3, e4, e5⟩
      · cases e3.symm.trans y
      · cases e3.symm.trans y
        simp at e4
    · obtain ⟨m, o, b1, b2, b3, b4, b5, b6⟩ := bmod
      refine ⟨m, o, b1, b2, fun z => ?_, far b3 (by rw [b6]; exact nofun),
        hidT_get b3 (untracked b3 (by rw [b6]; exact nofun)
          (by rw [b6]; exact nofun)), b4, b5, b6⟩
      rw [z, ge] at b3
      cases b3
      cases gd.symm.trans b6
  have env : Env0 P w K mg (hidT s1.heap H) callerA [] s1 H :=
    ⟨rfl, md, fun b o e => of_hidT e, Nat.le_of_eq (hidT_size _ _), trivial,
      fun b hb => (nomatch (show b ∈ ([] : List Addr) from hb)), ok,
      .of_eq gens⟩
  refine codeAny_mono ((F _ kin' (ns' glob) made fun b o e d1 d2 =>
    hidT_get e (untracked e d1 d2)).run callerA [] s1 H ⟨[.ref a], []⟩ [.ref a] [.ref a] _ _ room rfl env (bind s1 (.ref a))
    (.cons rfl .nil) (hsp H tabs sq)) ?_
  intro r s' h
  match r, h with
  | .error e, h => exact False.elim h
  | .ok .next, h => exact False.elim h
  | .ok .brk, h => exact False.elim h
  | .ok .cont, h => exact False.elim h
  | .ok (.ret u), h =>
    obtain ⟨v, H', os, bare, un, ok', rv, q⟩ := h
    cases (show v = .bl true from q)
    cases (show u = Value.bool true from rv)
    have stay : ∀ b o, (∀ p ∈ cs, p.2 ≠ b) → s1.heap.get? b = some o →
        s'.heap.get? b = some o := fun b o nb e => by
      cases q : H b with
      | none =>
        exact un.keep b o e q
          (fun z => nomatch (show b ∈ ([] : List Addr) from z)) (by simp)
      | some u =>
        by_cases hb : b = a
        · subst hb
          rcases atA with z | ⟨⟨ob, xs, z⟩, _⟩
          · rw [z] at q
            cases q
          · have e1 := (ok b _ z).1
            have e2 := (ok' b _ (un.frzs b ob _ z)).1
            rw [e] at e1
            cases e1
            exact e2
        · obtain ⟨p, hp, e2⟩ := others b hb (by rw [q]; exact nofun)
          exact absurd e2 (nb p hp)
    have grow : ∀ p ∈ cs, ∃ us : Array Value,
        s'.heap.get? p.2 = some (PySem.W.tabObj us) := fun p hp => by
      obtain ⟨us, z⟩ := un.tbls p.2 #[] (tabs p hp)
      exact ⟨_, ok' p.2 _ z⟩
    refine ⟨rfl, ⟨fun b o e => ?_, fun b o e => ?_⟩, os, bare⟩
    · by_cases hb : ∃ p ∈ cs, p.2 = b
      · obtain ⟨p, hp, rfl⟩ := hb
        obtain ⟨us, g⟩ := grow p hp
        rw [Z.emp p hp] at e
        cases e
        refine Or.inr (Or.inl ⟨((Z.hd p hp).tab (Z.emp p hp)).isCodeTable,
          rfl, #[], us, rfl, ?_⟩)
        rw [Array.empty_append]
        exact g
      · exact Or.inl (stay b o (fun p hp z => hb ⟨p, hp, z⟩) e)
    · by_cases hb : ∃ p ∈ cs, p.2 = b
      · obtain ⟨p, hp, rfl⟩ := hb
        obtain ⟨us, g⟩ := grow p hp
        exact ⟨_, g⟩
      · exact ⟨o, stay b o (fun p hp z => hb ⟨p, hp, z⟩) e⟩

/-- walkG where some defs make lambdas -/
theorem walkT {l : PySem.W.OpenLaw} {n k : Nat} {q : Program} {ls : List Str}
    {XP : (Str → Option Value) → Heap → Prop} {YP : World → Heap → Prop}
    {d : DefRec} {K : Params → PySem.W.Frag}
    {x : Str}
    (hn : l.most = some n) (hn2 : n ≤ sizeLine)
    (hdf : d.params.defaults = []) (room : Room k callerA)
    (hY : ∀ (w : World) (h : Heap), YP w h → (K w.params).In h)
    (F : ∀ (w : World) (mg : Str → Option Value) (fa : Addr) (h : Heap),
      YP w h → (K w.params).In h → h.Ns mainGlobals mg →
      mg d.name = some (.ref fa) →
      ∃ (fd : FuncData) (cs : List (Addr × Addr)) (sp : Sp),
        Bare0 (K w.params) h cs ∧
        (∀ (s : Shared) (u : Value), BindsTo s fd ⟨[u], []⟩ [(x, u)]) ∧
        (∀ (H : Hp) (a : Addr) (ns : List Int), ns.length ≤ n →
          (∀ p ∈ cs, H p.2 = some (.tbl #[])) →
          SqL (K w.params) H a (ns.map V.int) →
          sp [.ref a] H (fun v _ => v = .bl true) E0) ∧
        ∀ base : Heap, (K w.params).In base → base.Ns mainGlobals mg →
          (∀ p ∈ cs, LamX.TabB base mg p.1 p.2) →
          (∀ b o, h.get? b = some o → (∀ z, o.data ≠ .seq z 0) →
            o.data ≠ .fields #[] → base.get? b = some o) →
          FnG l.prog w (K w.params) mg base CX0 k fa fd [x] sp) :
    PySem.W.WalkO q ls XP YP l.row.toRowW d []
      (fun f vs => PySem.call f vs) := by
  refine Att.attach_call hn hdf ?_
  intro w s₀ s1 mg mb fa o pm cd doc a vs ns G Y ho hd hcd hmg hobj hi hlen hg
  have KX := hY w _ Y
  obtain ⟨fd, cs, sp, Z, hb, hs, hF⟩ := F w mg fa _ Y KX G.T.g hmg
  exact lawT KX G.T.g G.T.b G.T.builtins G.T.nolimit hg Z G.T.bmain hobj hi
    (Nat.le_trans hlen hn2) room hF hb
    (fun H hH hS => hs H a ns hlen hH hS)
end OM
/-! try with several clauses «except C as n», all of one name; no error
goes past the last of them. -/
namespace OM
open PySem PySem.Spec PyProof.Rows L2
abbrev HdS : Type := Addr → Value → Option Addr → TS
/-- behind a suite the name is gone -/
def endAs (i : Nat) (D : Ends) : Ends where
  nx := fun σ H => D.nx (σ.set i none) H
  rt := D.rt
  bk := fun σ H => D.bk (σ.set i none) H
  ct := fun σ H => D.ct (σ.set i none) H
/-- what the clauses wish of an error, one after the other -/
def wEach (K : PySem.W.Frag) (i : Nat) (D : Ends) :
    List (Value × HdS) → WX
  | [] => fun _ _ _ _ => False
  | q :: r => fun cls d σ H => ∃ b : Bool,
    PySem.W.exmOne K cls q.1 = some b ∧
    (b = true → ∀ a, H a = none →
      q.2 a cls d (endAs i D) (σ.set i (some (.ref a))) H) ∧
    (b = false → wEach K i D r cls d σ H)
inductive EachOk (X : Cx) (n : Str) : List ExceptHandler →
    List (Value × HdS) → Prop
  | nil : EachOk X n [] []
  | cons {x : Str} {c : Value} {ts : HdS} {st : Stmt} {more : List Stmt}
      {np pos : Pos} {hds : List ExceptHandler} {l : List (Value × HdS)}
      (nms : Names X x c)
      (suite : ∀ (a : Addr) (oe : Obj) (cls : Value) (d : Option Addr)
        (pn : List (Addr × Obj)), Zc cls d oe → (∃ vs, oe.data = .fields vs) →
        PSs (X.suite a ((a, oe) :: pn)) (st :: more) (ts a cls d))
      (rest : EachOk X n hds l) :
      EachOk X n (.ExceptHandler (some (.Name x np)) (some n) (st :: more)
        pos :: hds) ((c, ts) :: l)
section
variable {X : Cx}
/-- what is behind the try, from what is behind its body -/
theorem sp_ofTry {pins : List (Addr × Obj)} {pn : List (Addr × Obj)}
    {xe : Value → Shared → Prop} {D : Ends} {f : Flow} {s : Shared} (ok : X.Ok)
    (h : SP (X.tr (pn ++ pins) xe) [] D f s) (e : pn = X.pn) :
    SP X pins D f s := by
  subst e
  cases f with
  | next =>
    obtain ⟨σ', H', J, q⟩ := h
    exact ⟨σ', H', J.ofTry ok, q⟩
  | brk =>
    obtain ⟨σ', H', J, q⟩ := h
    exact ⟨σ', H', J.ofTry ok, q⟩
  | cont =>
    obtain ⟨σ', H', J, q⟩ := h
    exact ⟨σ', H', J.ofTry ok, q⟩
  | ret u =>
    obtain ⟨v, σ', H', J, r, q⟩ := h
    exact ⟨v, σ', H', J.ofTry ok, r, q⟩
theorem ps_tryEach {n : Str} {i : Nat} {body : List Stmt} {h₀ : ExceptHandler}
    {hds : List ExceptHandler} {l : List (Value × HdS)} {pos : Pos}
    {tb : WX → TS} (hs : X.stack = X.env :: X.outer)
    (hf : X.env.frame = some X.env.locals) (hN : X.N.Nodup)
    (hi : X.N[i]? = some n) (hl : X.env.kindOf n = some .local)
    (hb : ∀ (W : WX) (pn : List (Addr × Obj)) (xe : Value → Shared → Prop),
      Takes (X.tr pn xe) W → PassesOwn (model X.prog X.w) X.A X.env xe →
      PSs (X.tr pn xe) body (tb W))
    (hh : EachOk X n (h₀ :: hds) l) :
    PS X (.Try body (h₀ :: hds) [] [] pos)
      (fun D σ H => tb (wEach X.K i D l) D σ H) := by
  constructor
  intro pins s σ H D I h
  have ok := I.ok
  have frames : X.A.frames = some (X.env :: X.outer) := by rw [ok.frames, hs]
  refine wpAny_Try_except ?_
  refine wpAny_mono ((hb (wEach X.K i D l) (X.pn ++ pins)
    (fun e s1 => wpAny (model X.prog X.w) X.A (noteFrame e X.env)
      (fun _ s2 => wpAny (model X.prog X.w) X.A (setFlight e none)
        (fun _ s3 => wpAny (model X.prog X.w) X.A
          (handleBy e X.env (h₀ :: hds)) (SP X pins D) X.xe s3) X.xe s2)
      X.xe s1) ?_ PassesOwn.looking).run [] s σ H D (I.toTry _) h) ?_
    (fun _ _ z => z)
  · rintro u s' ⟨a, B, sI, pins', σ', H', cls, d, rfl, J', nb, up, sky, na, os,
      ag, wish⟩
    have J : Inv X pins σ' H' sI := J'.ofTry ok
    rw [hs] at sky
    show wpAny (model X.prog X.w) X.A (noteFrame (.ref a) X.env) _ _ _
    refine Sky.land Zc.steady frames hf sky ?_
    intro h3 fl up3
    have J3 : Inv X pins σ' H' { s' with heap := h3 } :=
      J.landed nb fl.1 (up.trans up3) os ag
    obtain ⟨oe, vs, he, hz, hd⟩ := fl.there
    have away : a ∉ frs (X.env :: X.outer) := fun m => by
      obtain ⟨_, o', e', no⟩ := fl.2.2.1.mem m
      rw [he] at e'
      cases e'
      exact no _ hd
    have nL : a ≠ X.env.locals := fun z => away (List.mem_filterMap.mpr
      ⟨X.env, List.mem_cons_self, by rw [hf, z]⟩)
    have nF : a ∉ X.fs := fun m => by
      obtain ⟨e, m1, m2⟩ := List.mem_filterMap.mp m
      exact away (List.mem_filterMap.mpr
        ⟨e, List.mem_cons_of_mem _ m1, m2⟩)
    have S3 := J3.suite he hd na nL nF
    clear hb h
    generalize h₀ :: hds = hs1 at hh
    induction hh with
    | nil => exact False.elim wish
    | @cons x c ts st more np pos1 hds2 l2 nms suite rest ih =>
      obtain ⟨b, isC, yes, no⟩ := wish
      refine wpAny_handleBy_cons (codeAny_handlers_test ?_)
        (by intro z; cases z)
      have kind : PySem.W.Looks (model X.prog X.w) h3 (typeOf (.ref a)) cls :=
        fun A Q E s k q => wpAny_typeOf_ref (k _ _ he) (by
          rw [hz.1]
          exact q)
      have asked := PySem.W.exm_one (M := model X.prog X.w) J3.kIn kind isC
      have named : ∀ {Q : Value → Shared → Prop} {E : Value → Shared → Prop},
          Q c { s' with heap := h3 } →
          wpAny (model X.prog X.w) (X.A.mark (some (.ref a)))
            (eval (.Name x np) X.env) Q E { s' with heap := h3 } := by
        intro Q E q
        obtain ⟨g, nd, m | ⟨m, bt, nn⟩⟩ := nms
        · exact ld_glob (X := X.suite a ((a, oe) :: (X.pn ++ pins))) S3 g m q nd
        · exact ld_blt (X := X.suite a ((a, oe) :: (X.pn ++ pins))) S3 g m bt q
            nn nd
      refine named (asked.here ?_)
      cases b with
      | false =>
        show wpAny _ X.A (handleBy (.ref a) X.env hds2) _ _ _
        exact ih (no rfl)
      | true =>
        refine codeAny_handlers_suite_as ?_
        refine PySem.HandSPX.lands_againZ fl ?_
        intro h4 fl4 up4
        have J4 : Inv X pins σ' H' { s' with heap := h4 } :=
          J.landed nb fl4.1 ((up.trans up3).trans up4) os ag
        obtain ⟨oe4, vs4, he4, hz4, hd4⟩ := fl4.there
        have S4 := J4.suite he4 hd4 na nL nF
        refine store_ok (X := X.suite a ((a, oe4) :: (X.pn ++ pins)))
          (v := .ref a) S4 hN hi (.inl hl) rfl ?_ (.inr hl)
        intro s5 S5
        refine wpAny_mono ((suite a oe4 cls d (X.pn ++ pins) hz4
          ⟨_, hd4⟩).run [] s5 _ H' _ S5 (yes rfl a na)) ?_
          (fun _ _ z => False.elim z)
        intro f s6 out
        have close : ∀ {σ6 : L2.St} {H6 : Hp} {Q : Shared → Prop},
            Inv (X.suite a ((a, oe4) :: (X.pn ++ pins))) [] σ6 H6 s6 →
            (∀ s7, Inv X pins (σ6.set i none) H6 s7 → Q s7) →
            wpAny (model X.prog X.w) X.A (do
                bindName X.env n .none
                unbindBehindTheSuite X.env n pos1)
              (fun _ s7 => Q s7) X.xe s6 :=
          fun {σ6 H6 Q} S6 hq => gone_ok (S6.unsuite ok) hN hi hl hq
        cases f with
        | next =>
          obtain ⟨σ6, H6, S6, q6⟩ := out
          exact close S6 fun s7 J7 => ⟨_, _, J7, q6⟩
        | brk =>
          obtain ⟨σ6, H6, S6, q6⟩ := out
          exact close S6 fun s7 J7 => ⟨_, _, J7, q6⟩
        | cont =>
          obtain ⟨σ6, H6, S6, q6⟩ := out
          exact close S6 fun s7 J7 => ⟨_, _, J7, q6⟩
        | ret u =>
          obtain ⟨v6, σ6, H6, S6, r6, q6⟩ := out
          exact close S6 fun s7 J7 => ⟨_, _, _, J7, r6, q6⟩
  · intro f s1 out
    have z := sp_ofTry (pn := X.pn) ok out rfl
    cases f with
    | next => exact wpAny_execs_nil z
    | brk => exact z
    | cont => exact z
    | ret u => exact z
end
end OM
/-! Own errors whose class stands right below a built-in one (LookupError ..),
with one field. -/
namespace OM
open PySem PySem.Spec PyProof.Rows L2
/-- what is asked of the built-in class -/
structure Fam (B newId initId : String) (bm : List Value) : Prop where
  base : ExcBaseFacts B newId initId bm
  pass : ∀ self : Value, refuseLoop self "__setattr__" bm = pure ()
  obj : bm.contains (.type "object") = true
abbrev leTail : List Value :=
  [.type "LookupError", .type "Exception", .type "BaseException",
    .type "object"]
theorem fam_LE : Fam "LookupError" "LookupError.__new__"
    "LookupError.__init__" leTail :=
  ⟨PySem.F.excBase_LookupError, PySem.F.store_LookupError.passes,
    by decide +kernel⟩
/-- what the written part says of the own class -/
structure OexF (K : PySem.W.Frag) (C : Addr) : Prop where
  cls : ∃ B newId initId bm nm q N bs sn sub ab col dd k0 k1 k2 k3 k5,
    Fam B newId initId bm ∧ K.lookup C = some (excClassObj nm q C N bs bm true
      sn sub ab col dd k0 k1 k2 k3 k5 newId)
  sa : PySem.W.findIn K (.ref C) "__setattr__" =
    some (some (.builtin "object.__setattr__"))
  exC : PySem.W.subIn K (.ref C) (.type "BaseException") = some true
  tyC : PySem.W.typeIn K (.ref C) = some (.type "type")
  kC : PySem.W.keepIn K (.ref C) = true
section
open Builtin Builtin.ObjectAttr
variable {P : Program} {w : World} {A : Around} {R : Result → Shared → Prop}
  {hp : Heap} {g : Array GenState} {d : Drawn} {t : Nat} {os : OsState}
/-- self.name = v, the error having no dict as yet -/
theorem fam_store {K : PySem.W.Frag} {name : Str} {tk : Tok} {v : Value}
    {x C : Addr} {fv : Array Value} {cd : ClassData} {bm : List Value}
    {B newId initId : String} (fm : Fam B newId initId bm) (kin : K.In hp)
    (hx : hp.get? x = some { cls := .ref C, data := .fields fv })
    (hcd : PySem.W.clsIn K C = some cd) (hm : cd.mro = .ref C :: bm)
    (hh : cd.hasDict = true)
    (ha : PySem.W.findIn K (.ref C) name = some none)
    (hq : ∀ h' tk' dx,
      (∀ b o, b ≠ x → hp.get? b = some o → h'.get? b = some o) →
      hp.objs.size ≤ dx → dx ≠ x →
      h'.get? x = some { cls := .ref C, dict := some dx, data := .fields fv } →
      h'.Ns1 dx (fun y => if y = name then some v else none) →
      R (.ok (.ret .none)) ⟨h', g, d, tk', os⟩) :
    codeAny (model P w) A (.call (.builtin "object.__setattr__")
      ⟨[.ref x, .str name tk, v], []⟩) R ⟨hp, g, d, t, os⟩ := by
  have at_ : PySem.W.InstAt hp x { cls := .ref C, data := .fields fv } C none :=
    ⟨hx, rfl, rfl, trivial⟩
  have low : x ≠ hp.objs.size := Nat.ne_of_lt (Heap.lt_size hx)
  have hasObj : cd.mro.contains (.type "object") = true := by
    rw [hm, List.contains_cons, fm.obj, Bool.or_true]
  have notNil : cd.mro.isEmpty = false := by rw [hm]; rfl
  have isObj : PySem.W.Looks (model P w) hp
      (isInstance (.ref x) (.type "object")) true := by
    refine at_.type.andThen (PySem.W.looks_mroIn kin ?_)
    unfold PySem.W.mroIn
    rw [hcd, Option.bind_some, if_neg (by rw [notNil]; decide), hasObj]
  have data : PySem.W.Looks (model P w) hp (classData C) cd :=
    PySem.W.looks_clsIn kin hcd
  have line : PySem.W.Looks (model P w) hp (mroOf (.ref C)) cd.mro :=
    (PySem.W.looks_clsIn kin hcd).andThen .now
  have noTaker : PySem.W.Looks (model P w) hp (storeTaker? none) none := .now
  have st := PySem.F.store_object
  refine codeAny_call_builtin st.slot.plain st.entry
    (@PySem.W.check_slot (model P w) _ _ ⟨hp, g, d, t, os⟩
      "object.__setattr__" "object" "__setattr__" (.ref x)
      [.str name tk, v] [] _ st.kind st.split isObj
      (st.args (.ref x) (.str name tk) v) ?_)
  rw [PySem.W.osa_eq, refuse_eq]
  refine wpAny_bind (wpAny_bind (at_.type.at (wpAny_bind
    (line.at ?_))))
  rw [hm, refuseLoop_ref, fm.pass]
  refine wpAny_pure (wpAny_bind (at_.type.at (wpAny_bind
    ((PySem.W.looks_findIn kin ha).at (wpAny_bind (noTaker.at ?_))))))
  show wpAny _ _ (storeInOwnDict (.ref x) (.ref C) (.str name tk) name v
    false) _ _ _
  rcases cd with ⟨c1, c2, c3, c4, c5, c6, c7, c8, c9, c10, c11⟩
  have hh' : c6 = true := hh
  subst hh'
  unfold storeInOwnDict ownDictForStores
  repeat (first
    | with_reducible refine PySem.HandSPX.store_in_new ?_ ?_
    | with_reducible refine wpAny_loadPart_at hx ?_
    | with_reducible refine data.at ?_
    | wp_step)
  · exact ⟨_, #[], _, (Heap.get?_update_ne _ _ _ _ low.symm).trans
      (Heap.get?_push_at rfl rfl), rfl,
      fun e he => absurd he (by simp), fun _ => rfl⟩
  · intro h' tk' hn' hs
    refine hq h' tk' hp.objs.size (fun b o hb ho => ?_) (Nat.le_refl _)
      low.symm ?_ hn'
    · have z := hs.2 b (Nat.ne_of_lt (Heap.lt_size ho))
      exact z.trans ((Heap.get?_update_ne _ _ _ _ hb).trans
        (Heap.get?_push_of_some _ ho))
    · exact (hs.2 x low).trans (Heap.get?_update_self _
        (Heap.get?_push_of_some _ hx) rfl)
end
section
variable {X : Cx}
theorem ostF {pins : List (Addr × Obj)} {σ : L2.St} {H : Hp} {s : Shared}
    {a C : Addr} {f : Str} {y : V} {u : Value} {Q : Unit → Shared → Prop}
    {E : Value → Shared → Prop} {A : Around}
    (T : OexF X.K C) (I : Inv X pins σ H s)
    (e : H a = some (exo a C none))
    (hno : PySem.W.findIn X.K (.ref C) f = some none) (ry : RelV y u)
    (h : ∀ dx s', H dx = none → dx ≠ a → Inv X pins σ
      (upd (upd H dx (exd dx [(f, y)])) a (exo a C (some dx))) s' → Q () s') :
    wpAny (model X.prog X.w) A (setAttr (.ref a) f u) Q E s := by
  obtain ⟨B, nw, ini, bm, nm, q, N, bs, sn, sub, ab, col, dd, k0, k1, k2, k3,
    k5, fm, hC⟩ := T.cls
  obtain ⟨t1, ho⟩ := exo_at I.hok e
  rcases s with ⟨hp, g, d, t, os⟩
  refine PySem.W.set_plain I.kIn
    (ox := { cls := .ref C, dict := none,
             data := .fields #[.ref t1, .none, .none, .none, .bool false,
               .none] })
    (od := none) ⟨ho, rfl, rfl, trivial⟩ T.sa ?_
  refine fam_store (cd := ⟨nm, bs, .ref C :: bm, N, q, true, sn, sub, ab, col,
    false⟩) fm I.kIn ho ?_ rfl rfl hno ?_
  · unfold PySem.W.clsIn
    rw [hC] <;> rfl
  intro h' tk' dx stay above dne hx hn
  have nH : H dx = none := I.hok.fresh above
  have old : ∀ {b : Addr} {o : Obj}, hp.get? b = some o → b ≠ dx :=
    fun {b o} z => Nat.ne_of_lt (Nat.lt_of_lt_of_le (Heap.lt_size z) above)
  have notA : ∀ {b : Addr}, H b = none → b ≠ a := fun {b} n z => by
    rw [z, e] at n
    cases n
  have U : Un X.fs [] H (upd (upd H dx (exd dx [(f, y)])) a
      (exo a C (some dx))) hp h' :=
    { keep := fun b o z n _ _ => stay b o (notA n) z
      slot := fun b o z n _ _ => ⟨o.slots, stay b o (notA n) z⟩
      free := fun b o z n _ => by
        rw [upd_ne (notA n), upd_ne (old z)]
        exact n
      there := fun b o z _ => by
        by_cases hb : b = a
        · rw [hb]
          exact ⟨_, hx⟩
        · exact ⟨o, stay b o hb z⟩
      tups := fun b xs z => by
        rw [upd_ne (at_ne e z exo_tup), upd_ne (ne_of_none z nH)]
        exact z
      frzs := fun b o v z => by
        rw [upd_ne (at_ne e z exo_frz), upd_ne (ne_of_none z nH)]
        exact z
      tbls := fun b ps z => by
        refine ⟨#[], ?_⟩
        rw [upd_ne (at_ne e z exo_tbl), upd_ne (ne_of_none z nH), z]
        simp }
  refine h dx _ nH dne (I.un (t' := tk') U fun b o z => ?_)
  by_cases hb : b = a
  · subst hb
    rw [upd_same] at z
    cases z
    exact exo_ok hx
  rw [upd_ne hb] at z
  by_cases hd : b = dx
  · subst hd
    rw [upd_same] at z
    cases z
    exact exd_ok hn (relO_put (fs := []) ry fun _ => True.intro)
  rw [upd_ne hd] at z
  refine (I.hok b o z).stay (fun c v hc y => stay c v ?_ y) (fun c hc => ?_)
    (fun c xs hc => ?_)
  · rcases hc with hc | hc
    · rw [hc]
      exact hb
    · exact at_ne e hc exo_own
  · rw [upd_ne (at_ne e hc exo_own), upd_ne (ne_of_none hc nH)]
    exact hc
  · rw [upd_ne (at_ne e hc exo_tup), upd_ne (ne_of_none hc nH)]
    exact hc
/-- self.f = e, the only field -/
def tOstF (K : PySem.W.Frag) (f : Str) (to te : TE) : TS := fun D σ H =>
  te σ H fun y H1 => to σ H1 fun x H2 => ∃ a C : Addr, x = .ref a ∧
    OexF K C ∧ PySem.W.findIn K (.ref C) f = some none ∧
    H2 a = some (exo a C none) ∧ ∀ dx, H2 dx = none → dx ≠ a →
      D.nx σ (upd (upd H2 dx (exd dx [(f, y)])) a (exo a C (some dx)))
theorem ps_ostF {o e : Expr} {to te : TE} {f : Str} {p' pos : Pos}
    (ho : PE X o to) (he : PE X e te)
    (hs : swapsWith e (some (.Attribute o f p')) pos.line X.env =
      pure false := by rfl) :
    PS X (.Assign [.Attribute o f p'] e pos) (tOstF X.K f to te) := by
  constructor
  intro pins s σ H D I h
  refine plainObj_wpAny_Assign_Attribute (thn (he.run pins s σ H _ I h) ?_) hs
  rintro v s1 ⟨y, H1, I1, r1, q1⟩
  refine thn (ho.run pins s1 σ H1 _ I1 q1) ?_
  rintro u s2 ⟨x, H2, I2, r2, a, C, rfl, T, hno, ea, q⟩
  cases (show u = Value.ref a from r2)
  exact ostF T I2 ea hno r1 fun dx s' n ne J => ⟨σ, _, J, q dx n ne⟩
/-- such a class, in one word -/
structure XClF (K : PySem.W.Frag) (C : Addr) : Prop where
  ox : OexF K C
  xf : XfC K C
  ha : PySem.W.findIn K (.ref C) "__class__" =
    some (some (.builtin "object.__class__"))
  hn : PySem.W.specialIn K (.builtin "object.__class__") "__get__" =
    some (some (.builtin "getset_descriptor.__get__"))
  ht : PySem.W.takesIn K (.builtin "object.__class__") = some true
  hm : PySem.W.mroIn K C (.type "object") = some true
structure XMkF (P : Program) (w : World) (K : PySem.W.Frag)
    (mg : Str → Option Value) (base : Heap) (C : Addr) (k : Nat) (x : Str)
    (ps : List Str) (sp : Sp) : Prop where
  mgC : mg x = some (.ref C)
  cl : XClF K C
  ex : ∃ f fd, FnOk P w K mg base CX0 k f fd ps sp ∧
    PySem.W.findIn K (.ref C) "__init__" = some (some (.ref f)) ∧
    PySem.W.typeIn K (.ref f) = some (.type "function") ∧ Binds K fd ps []
variable {k : Nat} {ps : List Str} {sp : Sp} {x : Str} {C : Addr}
  {p pos pos2 : Pos} {e : Expr} {es : List Expr} {ta : TA}
theorem pmkF (M : XMkF X.prog X.w X.K X.mg X.base C k x ps sp)
    (room : Room (k + 1) X.A) (ha : PA X (e :: es) ta)
    (hg : Gl X x := by rfl)
    (h1 : (x == ("__debug__" : Str)) = false := by decide)
    (h2 : starEach (e :: es) X.env =
      (false, eval e X.env) :: starEach es X.env := by rfl)
    (h3 : (backTo pos (starEach es X.env)).any (·.1) = false := by rfl) :
    L2.PMk X (.Call (.Name x p) (e :: es) [] pos) (tMkO C sp [] ta) := by
  obtain ⟨f, fd, fn, at_, ty, bd⟩ := M.ex
  have ox := M.cl.ox
  obtain ⟨B, nw, ini, bm, _, _, _, _, _, _, _, _, _, _, _, _, _, _, fm,
    known⟩ := ox.cls
  intro pins s σ H Q I h
  refine wpAny_Call_Name_kw (ld_glob I hg M.mgC ?_ h1)
  refine PySem.W.callWith_K (h₀ := X.base) I.ok.mod.kin ox.kC
    (thn (ha.run pos pins s σ H _ I h) ?_) h2 h3
  rintro us ⟨hp, g, dr, tk, os⟩ ⟨vs, H1, I1, r1, few, q1⟩
  refine ⟨I1.kIn, ?_⟩
  show wpAny _ _ (call (.ref C) us) _ _ _
  have above : hp.objs.size ≤ hp.objs.size + 1 := Nat.le_succ _
  have todo := q1 (hp.objs.size + 1) (I1.hok.fresh above)
  rw [List.append_nil] at todo
  have grown : ∀ b o, hp.get? b = some o →
      ((hp.push (PySem.W.kdv_tup us)).push
        (PySem.HandSPX.excO C hp.objs.size)).get? b = some o :=
    fun b o z => Heap.get?_push_of_some _ (Heap.get?_push_of_some _ z)
  have new : ((hp.push (PySem.W.kdv_tup us)).push
      (PySem.HandSPX.excO C hp.objs.size)).get? (hp.objs.size + 1) =
      some (PySem.HandSPX.excO C hp.objs.size) := by heap_get
  have I2 := I1.laid (t' := tk) (o := exo (hp.objs.size + 1) C none) grown above
    (exo_ok new)
  have rr : Vals (V.ref (hp.objs.size + 1) :: vs)
      (Value.ref (hp.objs.size + 1) :: us) := .cons rfl r1
  have many : (Value.ref (hp.objs.size + 1) :: us).length = ps.length :=
    rr.length.symm.trans (fn.len _ _ _ _ todo)
  have args := bd _ (Value.ref (hp.objs.size + 1) :: us) I2.kIn (by
    rw [List.append_nil]; exact many)
  rw [List.append_nil] at args
  have short : us.length ≤ sizeLine := by
    have := Paired.length r1
    rw [sizeLine_eq]
    omega
  have ran := fn.run _ X.stack _ _ ⟨Value.ref (hp.objs.size + 1) :: us, []⟩
    (Value.ref (hp.objs.size + 1) :: us) _ _ (fun _ _ _ => False)
    (room.make C us []) (I2.env0.make C us []) args rr todo
  refine wpAny_call (PySem.HandSPX.call_own fm.base (fun _ => rfl)
    (I1.kIn _ _ known) (PySem.W.looks_findIn I1.kIn at_)
    (fun self => PySem.W.bind_fn I1.kIn self ty) short
    (codeAny_mono ran ?_))
  rintro r ⟨h2', g2, d2, t2, os2⟩ out
  match r, out with
  | .error er, out => exact False.elim out
  | .ok .next, out => exact False.elim out
  | .ok .brk, out => exact False.elim out
  | .ok .cont, out => exact False.elim out
  | .ok (.ret u), out =>
    obtain ⟨v, H2, eo, bare, un, hok, rv, ev, d, fs, ea, ed, nd, q2⟩ := out
    subst ev
    exact ⟨rv, mk_end (raises_own ox.exC ox.tyC) I1 above grown un hok eo bare
      ea ed nd q2⟩
/-- raise C(e1) -/
theorem ps_raise1F {f1 : Str} {W : WX}
    (M : XMkF X.prog X.w X.K X.mg X.base C k x ps (spX1 C f1))
    (room : Room (k + 1) X.A) (hc : X.calm = true) (tk : Takes X W)
    (ha : PA X (e :: es) ta) (hg : Gl X x := by rfl)
    (h1 : (x == ("__debug__" : Str)) = false := by decide)
    (h2 : starEach (e :: es) X.env =
      (false, eval e X.env) :: starEach es X.env := by rfl)
    (h3 : (backTo pos (starEach es X.env)).any (·.1) = false := by rfl) :
    PS X (.Raise (some (.Call (.Name x p) (e :: es) [] pos)) none pos2)
      (tRaise1 C f1 W ta) := by
  refine ps_imp (ps_raise hc tk (pmkF M room (pa_mid ha) hg h1 h2 h3)) ?_
  intro D σ H h
  refine ⟨_, h, ?_⟩
  rintro vs H1 ⟨v1, rfl, q⟩
  refine ⟨by simp, fun a na => ⟨a, v1, rfl, upd_same, fun d nd ne => ?_⟩⟩
  have nd1 : H1 d = none := by rw [upd_ne ne] at nd; exact nd
  refine ⟨rfl, d, [(f1, v1)], upd_same, ?_, nd1, ?_⟩
  · rw [upd_ne ne, upd_same]
  · obtain ⟨e1, e2⟩ := made_same (C := C) (fs := [(f1, v1)]) na nd1
      (H2 := upd (upd (upd H1 a (exo a C none)) d (exd d [(f1, v1)])) a
        (exo a C (some d))) fun b o z => by
        rw [upd_ne (ne_of_none z na), upd_ne (ne_of_none z nd1),
          upd_ne (ne_of_none z na)]
        exact z
    exact q d _ nd1 e1 e2
/-! isinstance of such an error, in the suite that holds it -/
def rIsF (K : PySem.W.Frag) (a : Addr) (cls : Value) (d : Option Addr) :
    List V → Hp → VK → Prop := fun xs H Q =>
  ∃ (C dd : Addr) (fs : List (Str × V)) (c : V) (cv : Value) (b : Bool),
    XClF K C ∧ cls = .ref C ∧ d = some dd ∧ H dd = some (.xd fs) ∧
    xs = [.ref a, c] ∧ ClsV c cv ∧
    PySem.W.kitOne K (.ref C) cv = some b ∧ Q (.bl b) H
theorem call_isF {a : Addr} {cls : Value} {d : Option Addr} {oe : Obj}
    {pn : List (Addr × Obj)} (hz : Zc cls d oe)
    (hf : ∃ vs, oe.data = .fields vs) :
    CallR (X.suite a ((a, oe) :: pn)) (.builtin "isinstance")
      (rIsF X.K a cls d) := by
  intro pins s σ H xs us Q I r h
  obtain ⟨C, dd, fs, c, cv, b, T, rfl, rfl, hd, rfl, k, e, q⟩ := h
  obtain ⟨u1, u2, rfl, r1, r2⟩ := vals2 r
  cases r1
  cases k.eq r2
  obtain ⟨od, J⟩ := suite_inst I hz hf hd
  obtain ⟨cd, hc, _⟩ := PySem.W.any_some T.xf.hdC
  exact PySem.W.kia_one (PySem.W.kitx_exc (by rw [hc]; rfl) T.xf.ga T.xf.gg
    T.xf.exC T.ha T.hn T.ht T.hm) I.kIn J e (fun z => nomatch z) fun tk =>
    ⟨.bl b, H, I.kept (t' := tk) fun _ _ z => z, rfl, q⟩
def rIsFT (K : PySem.W.Frag) (a : Addr) (cls : Value) (d : Option Addr) :
    List V → Hp → VK → Prop := fun xs H Q =>
  ∃ (C dd tp : Addr) (fs : List (Str × V)) (cs : List V) (us : List Value)
    (b : Bool), XClF K C ∧ cls = .ref C ∧ d = some dd ∧
    H dd = some (.xd fs) ∧ xs = [.ref a, .ref tp] ∧ H tp = some (.tup cs) ∧
    Paired ClsV cs us ∧ PySem.W.kitAny K (.ref C) us = some b ∧ Q (.bl b) H
theorem call_isFT {a : Addr} {cls : Value} {d : Option Addr} {oe : Obj}
    {pn : List (Addr × Obj)} (hz : Zc cls d oe)
    (hf : ∃ vs, oe.data = .fields vs) :
    CallR (X.suite a ((a, oe) :: pn)) (.builtin "isinstance")
      (rIsFT X.K a cls d) := by
  intro pins s σ H xs us Q I r h
  obtain ⟨C, dd, tp, fs, cs, vs, b, T, rfl, rfl, hd, rfl, ht, pr, e, q⟩ := h
  obtain ⟨u1, u2, rfl, r1, r2⟩ := vals2 r
  cases r1
  cases r2
  obtain ⟨od, J⟩ := suite_inst I hz hf hd
  obtain ⟨cd, hc, _⟩ := PySem.W.any_some T.xf.hdC
  obtain ⟨z, its, rv, ob, ho, hcl, n, hdt⟩ := I.hok tp _ ht
  cases paired_eq pr rv
  obtain ⟨oc, od', da, sl⟩ := ob
  dsimp only at hcl hdt
  subst hcl hdt
  exact PySem.W.kia_tup (PySem.W.kitx_exc (by rw [hc]; rfl) T.xf.ga T.xf.gg
    T.xf.exC T.ha T.hn T.ht T.hm) I.kIn J ho e (fun z => nomatch z) fun tk =>
    ⟨.bl b, H, I.kept (t' := tk) fun _ _ z => z, rfl, q⟩
end
end OM
namespace OM
open PySem PySem.Spec PyProof.Rows L2
/-! ### repr, also of a dict from texts to 1, also in an except suite -/
def ones (ls : List (List Nat)) : List (Key × V) :=
  ls.map fun l => (Sum.inr (SX.S l), V.int 1)
def onesD (ls : List (List Nat)) : List (PyData × PyData) :=
  ls.map fun l => (.str (SX.S l), .int 1)
def DY (H : Hp) (v : V) (d : PyData) : Prop :=
  DX H v d ∨ ∃ (a : Addr) (ls : List (List Nat)), v = .ref a ∧
    H a = some (.dK (ones ls)) ∧ d = .dict (onesD ls)
mutual
theorem DX.ext {H H' : Hp} (s : LamX.ExtN H H') : ∀ (d : PyData) (v : V),
    DX H v d → DX H' v d
  | .none, _, h => by cases h; exact .non
  | .bool b, _, h => by cases h; exact .bl b
  | .int i, _, h => by cases h; exact .int i
  | .str x, _, h => by cases h; exact .str x
  | .list ds, _, h => by
    cases h with
    | lst e t => exact .lst (s _ _ e nofun) (DXs.ext s ds _ t)
  | .tuple ds, _, h => by
    cases h with
    | tup e t => exact .tup (s _ _ e nofun) (DXs.ext s ds _ t)
  | .dict [], _, h => by
    cases h with
    | d0 e => exact .d0 (s _ _ e nofun)
  | .dict [(k, d)], _, h => by
    cases h with
    | d1 e t => exact .d1 (s _ _ e nofun) (DX.ext s d _ t)
  | .dict (_ :: _ :: _), _, h => by cases h
theorem DXs.ext {H H' : Hp} (s : LamX.ExtN H H') : ∀ (ds : List PyData)
    (vs : List V), DXs H vs ds → DXs H' vs ds
  | [], _, h => by cases h; exact .nil
  | d :: ds, _, h => by
    cases h with
    | cons a t => exact .cons (DX.ext s d _ a) (DXs.ext s ds _ t)
end
theorem DY.ext {H H' : Hp} {v : V} {d : PyData} (h : DY H v d)
    (s : LamX.ExtN H H') : DY H' v d := by
  rcases h with h | ⟨a, ls, rfl, e, rfl⟩
  · exact .inl (DX.ext s d v h)
  · exact .inr ⟨a, ls, rfl, s _ _ e nofun, rfl⟩
theorem DY.same {H H' : Hp} {v : V} {d : PyData} (h : DY H v d)
    (s : Same H H') : DY H' v d := h.ext (LamX.ExtN.of s)
section
variable {X : Cx} {pins : List (Addr × Obj)} {σ : L2.St} {H : Hp} {s : Shared}
theorem ones_reads {h : Heap} {P : Program} {w : World} :
    ∀ (ls : List (List Nat)) (es : List DictEntry) (vs : List (Key × Value)),
    Pairs (mixKind P w) es vs → KV (ones ls) vs →
    ReadsAll h (es.map (·.key)) ((onesD ls).map (·.1)) [] ∧
    ReadsAll h (es.map (·.val)) ((onesD ls).map (·.2)) []
  | [], es, vs, p, k => by
    cases k
    cases p
    exact ⟨.nil, .nil⟩
  | l :: ls, es, vs, p, k => by
    cases k with
    | cons k1 k2 =>
      cases p with
      | cons p1 p2 p3 =>
        obtain ⟨a, b⟩ := ones_reads ls _ _ p3 k2
        obtain ⟨q1, q2⟩ := k1
        rw [← q1] at p1
        obtain ⟨tk, ek⟩ := keyIs_inr p1
        obtain ⟨ti, ei⟩ := q2
        refine ⟨?_, ?_⟩
        · rw [List.map_cons, ek]
          exact ReadsAll.cons (as := []) (bs := []) (.str _ _) a
        · rw [List.map_cons, p2, ei]
          exact ReadsAll.cons (as := []) (bs := []) (.int _ _) b
def rReprY : List V → Hp → VK → Prop := fun xs H Q =>
  ∃ v d, xs = [v] ∧ DY H v d ∧ d.showable = true ∧ d.depth ≤ 60 ∧
    d.shown.length ≤ sizeLine ∧ Q (.str d.shown) H
theorem call_reprY (un : X.A.units + 64 < cLine)
    (gd : X.A.guards = some [])
    (sm : ∃ o, X.base.get? sysModules = some o) :
    CallR X (.builtin "repr") rReprY := by
  intro pins s σ H xs us Q I r h
  obtain ⟨v, d, rfl, hd, sh, dp, sz, q⟩ := h
  cases r with
  | cons rv rn =>
    cases rn
    rename_i u
    obtain ⟨o, ho⟩ := sm
    have hs : H sysModules = none := (I.env0.bs _ o ho).2
    have key : ∀ (a : Addr) (as : List Addr), u = .ref a →
        Reads s.heap u d as → sysModules ∉ as →
        wpAny (model X.prog X.w) X.A
        (call (.builtin "repr") [u]) (EP X pins σ Q) X.xe s := by
      rintro a as rfl rd nm
      refine repr_of_reads' rd sh (fun _ => nm) gd (by omega) (fun _ _ e => e)
        (fun h' u tk hk => ?_) sz
      exact ⟨.str _, H, I.kept hk, ⟨_, rfl⟩, q⟩
    rcases hd with hd | ⟨a, ls, rfl, e, rfl⟩
    · obtain ⟨as, rd, nm⟩ := DX.reads I hs d v u hd rv
      cases hd with
      | non =>
        cases rv
        exact PySem.P.repr_of_none ⟨.str _, H, I.tok _, ⟨_, rfl⟩, q⟩
      | bl b =>
        cases rv
        exact PySem.P.repr_of_bool ⟨.str _, H, I.tok _, ⟨_, rfl⟩, q⟩
      | int i =>
        obtain ⟨t, rfl⟩ := rv
        refine PySem.P.repr_of_int ?_ ⟨.str _, H, I.tok _, ⟨_, rfl⟩, q⟩
        simpa [PyData.showable] using sh
      | str x =>
        obtain ⟨t, rfl⟩ := rv
        exact PySem.P.repr_of_str ⟨.str _, H, I.tok _, ⟨_, rfl⟩, q⟩ sz
      | lst a b => cases rv; exact key _ _ rfl rd nm
      | tup a b => cases rv; exact key _ _ rfl rd nm
      | d0 a => cases rv; exact key _ _ rfl rd nm
      | d1 a b => cases rv; exact key _ _ rfl rd nm
    · cases rv
      obtain ⟨o2, es, n, vs, h1, h2, h3, h4, kv⟩ := dict_parts I e
      obtain ⟨r1, r2⟩ := ones_reads (h := s.heap) ls es.toList vs h4 kv
      refine key a _ rfl (Reads.dict h1 h2 h3 r1 r2) fun m => ?_
      rcases List.mem_cons.mp m with z | z
      · rw [z, e] at hs
        cases hs
      · cases z
end
end OM
namespace OM
open PySem PySem.Spec PyProof.Rows L2
/-- what is a dict at the head lies in the base too -/
theorem sys_base {h base : Heap} (hm : ∃ mm, h.Ns sysModules mm)
    (kb : ∀ b o, h.get? b = some o → (∀ z, o.data ≠ .seq z 0) →
      o.data ≠ .fields #[] → base.get? b = some o) :
    ∃ o, base.get? sysModules = some o := by
  obtain ⟨mm, o, es, ep, e, d, _⟩ := hm
  exact ⟨o, kb _ _ e (by rw [d]; exact nofun) (by rw [d]; exact nofun)⟩
/-- walkT that also tells where sys.modules lies -/
theorem walkTS {l : PySem.W.OpenLaw} {n k : Nat} {q : Program} {ls : List Str}
    {XP : (Str → Option Value) → Heap → Prop} {YP : World → Heap → Prop}
    {d : DefRec} {K : Params → PySem.W.Frag}
    {x : Str}
    (hn : l.most = some n) (hn2 : n ≤ sizeLine)
    (hq : importsNone q = true)
    (hdf : d.params.defaults = []) (room : Room k callerA)
    (hY : ∀ (w : World) (h : Heap), YP w h → (K w.params).In h)
    (F : ∀ (w : World) (mg : Str → Option Value) (fa : Addr) (h : Heap),
      YP w h → (K w.params).In h → h.Ns mainGlobals mg →
      mg d.name = some (.ref fa) → (∃ mm, h.Ns sysModules mm) →
      ∃ (fd : FuncData) (cs : List (Addr × Addr)) (sp : Sp),
        Bare0 (K w.params) h cs ∧
        (∀ (s : Shared) (u : Value), BindsTo s fd ⟨[u], []⟩ [(x, u)]) ∧
        (∀ (H : Hp) (a : Addr) (ns : List Int), ns.length ≤ n →
          (∀ p ∈ cs, H p.2 = some (.tbl #[])) →
          SqL (K w.params) H a (ns.map V.int) →
          sp [.ref a] H (fun v _ => v = .bl true) E0) ∧
        ∀ base : Heap, (K w.params).In base → base.Ns mainGlobals mg →
          (∀ p ∈ cs, LamX.TabB base mg p.1 p.2) →
          (∀ b o, h.get? b = some o → (∀ z, o.data ≠ .seq z 0) →
            o.data ≠ .fields #[] → base.get? b = some o) →
          FnG l.prog w (K w.params) mg base CX0 k fa fd [x] sp) :
    PySem.W.WalkO q ls XP YP l.row.toRowW d []
      (fun f vs => PySem.call f vs) := by
  refine Att.attach_call hn hdf ?_
  intro w s₀ s1 mg mb fa o pm cd doc a vs ns G Y ho hd hcd hmg hobj hi hlen hg
  have KX := hY w _ Y
  obtain ⟨fd, cs, sp, Z, hb, hs, hF⟩ := F w mg fa _ Y KX G.T.g hmg
    (by obtain ⟨mm, h, _⟩ := (G.T.seer hq).mods; exact ⟨mm, h⟩)
  exact lawT KX G.T.g G.T.b G.T.builtins G.T.nolimit hg Z G.T.bmain hobj hi
    (Nat.le_trans hlen hn2) room hF hb
    (fun H hH hS => hs H a ns hlen hH hS)
end OM
namespace OM
open PySem PySem.Spec PyProof.Rows L2
def topS (i : Nat) : Stmt :=
  PySem.Challenge.pw_ordermerge_k13_orders_judged.main.body.getD i
    (.Pass ⟨0, 0, 0, 0⟩)
abbrev s_InvalidBase_init : Stmt := inClass (topS 2) 0
abbrev N_InvalidBase_init : List Str := ["self", "problem", "position"]
theorem sc_InvalidBase_init : FnScope N_InvalidBase_init
    ["self", "problem", "position"] (defScope s_InvalidBase_init) :=
  ⟨rfl, rfl, rfl, by decide +kernel, rfl,
    by decide +kernel, by decide +kernel⟩
abbrev s_InvalidOrder_init : Stmt := inClass (topS 3) 0
abbrev N_InvalidOrder_init : List Str := ["self", "position"]
theorem sc_InvalidOrder_init : FnScope N_InvalidOrder_init
    ["self", "position"] (defScope s_InvalidOrder_init) :=
  ⟨rfl, rfl, rfl, by decide +kernel, rfl,
    by decide +kernel, by decide +kernel⟩
abbrev s_InvalidIndex_init : Stmt := inClass (topS 4) 0
abbrev N_InvalidIndex_init : List Str := ["self", "value"]
theorem sc_InvalidIndex_init : FnScope N_InvalidIndex_init
    ["self", "value"] (defScope s_InvalidIndex_init) :=
  ⟨rfl, rfl, rfl, by decide +kernel, rfl,
    by decide +kernel, by decide +kernel⟩
abbrev s_InvalidPairs_init : Stmt := inClass (topS 5) 0
abbrev N_InvalidPairs_init : List Str := ["self", "position"]
theorem sc_InvalidPairs_init : FnScope N_InvalidPairs_init
    ["self", "position"] (defScope s_InvalidPairs_init) :=
  ⟨rfl, rfl, rfl, by decide +kernel, rfl,
    by decide +kernel, by decide +kernel⟩
abbrev s_InvalidText_init : Stmt := inClass (topS 6) 0
abbrev N_InvalidText_init : List Str := ["self", "line"]
theorem sc_InvalidText_init : FnScope N_InvalidText_init
    ["self", "line"] (defScope s_InvalidText_init) :=
  ⟨rfl, rfl, rfl, by decide +kernel, rfl,
    by decide +kernel, by decide +kernel⟩
abbrev s_UnknownItem_init : Stmt := inClass (topS 7) 0
abbrev N_UnknownItem_init : List Str := ["self", "value"]
theorem sc_UnknownItem_init : FnScope N_UnknownItem_init
    ["self", "value"] (defScope s_UnknownItem_init) :=
  ⟨rfl, rfl, rfl, by decide +kernel, rfl,
    by decide +kernel, by decide +kernel⟩
abbrev s_is_name : Stmt := topS 11
abbrev N_is_name : List Str := ["value", "letter"]
theorem sc_is_name : FnScope N_is_name
    ["value"] (defScope s_is_name) :=
  ⟨rfl, rfl, rfl, by decide +kernel, rfl,
    by decide +kernel, by decide +kernel⟩
abbrev s_names_fault : Stmt := topS 12
abbrev N_names_fault : List Str := ["value", "most", "seen", "at", "name"]
theorem sc_names_fault : FnScope N_names_fault
    ["value", "most"] (defScope s_names_fault) :=
  ⟨rfl, rfl, rfl, by decide +kernel, rfl,
    by decide +kernel, by decide +kernel⟩
abbrev s_check_items : Stmt := topS 13
abbrev N_check_items : List Str := ["items", "fault", "problem", "position"]
theorem sc_check_items : FnScope N_check_items
    ["items"] (defScope s_check_items) :=
  ⟨rfl, rfl, rfl, by decide +kernel, rfl,
    by decide +kernel, by decide +kernel⟩
abbrev s_Base_init : Stmt := inClass (topS 14) 0
abbrev N_Base_init : List Str := ["self", "items", "name", "at"]
theorem sc_Base_init : FnScope N_Base_init
    ["self", "items"] (defScope s_Base_init) :=
  ⟨rfl, rfl, rfl, by decide +kernel, rfl,
    by decide +kernel, by decide +kernel⟩
abbrev s_Base_eq : Stmt := inClass (topS 14) 1
abbrev N_Base_eq : List Str := ["self", "other"]
theorem sc_Base_eq : FnScope N_Base_eq
    ["self", "other"] (defScope s_Base_eq) :=
  ⟨rfl, rfl, rfl, by decide +kernel, rfl,
    by decide +kernel, by decide +kernel⟩
abbrev s_Base_len : Stmt := inClass (topS 14) 2
abbrev N_Base_len : List Str := ["self"]
theorem sc_Base_len : FnScope N_Base_len
    ["self"] (defScope s_Base_len) :=
  ⟨rfl, rfl, rfl, by decide +kernel, rfl,
    by decide +kernel, by decide +kernel⟩
abbrev s_Base_repr : Stmt := inClass (topS 14) 3
abbrev N_Base_repr : List Str := ["self"]
theorem sc_Base_repr : FnScope N_Base_repr
    ["self"] (defScope s_Base_repr) :=
  ⟨rfl, rfl, rfl, by decide +kernel, rfl,
    by decide +kernel, by decide +kernel⟩
abbrev s_Base_names : Stmt := inClass (topS 14) 4
abbrev N_Base_names : List Str := ["self"]
theorem sc_Base_names : FnScope N_Base_names
    ["self"] (defScope s_Base_names) :=
  ⟨rfl, rfl, rfl, by decide +kernel, rfl,
    by decide +kernel, by decide +kernel⟩
abbrev s_Base_has_item : Stmt := inClass (topS 14) 5
abbrev N_Base_has_item : List Str := ["self", "value"]
theorem sc_Base_has_item : FnScope N_Base_has_item
    ["self", "value"] (defScope s_Base_has_item) :=
  ⟨rfl, rfl, rfl, by decide +kernel, rfl,
    by decide +kernel, by decide +kernel⟩
abbrev s_Base_position_of : Stmt := inClass (topS 14) 6
abbrev N_Base_position_of : List Str := ["self", "item"]
theorem sc_Base_position_of : FnScope N_Base_position_of
    ["self", "item"] (defScope s_Base_position_of) :=
  ⟨rfl, rfl, rfl, by decide +kernel, rfl,
    by decide +kernel, by decide +kernel⟩
abbrev s_Base_precedes : Stmt := inClass (topS 14) 7
abbrev N_Base_precedes : List Str := ["self", "first", "second"]
theorem sc_Base_precedes : FnScope N_Base_precedes
    ["self", "first", "second"] (defScope s_Base_precedes) :=
  ⟨rfl, rfl, rfl, by decide +kernel, rfl,
    by decide +kernel, by decide +kernel⟩
abbrev s_order_fault : Stmt := topS 15
abbrev N_order_fault : List Str := ["base", "value", "at", "name"]
theorem sc_order_fault : FnScope N_order_fault
    ["base", "value"] (defScope s_order_fault) :=
  ⟨rfl, rfl, rfl, by decide +kernel, rfl,
    by decide +kernel, by decide +kernel⟩
abbrev s_check_order : Stmt := topS 16
abbrev N_check_order : List Str := ["base", "order", "fault"]
theorem sc_check_order : FnScope N_check_order
    ["base", "order"] (defScope s_check_order) :=
  ⟨rfl, rfl, rfl, by decide +kernel, rfl,
    by decide +kernel, by decide +kernel⟩
abbrev s_is_order : Stmt := topS 17
abbrev N_is_order : List Str := ["base", "value"]
theorem sc_is_order : FnScope N_is_order
    ["base", "value"] (defScope s_is_order) :=
  ⟨rfl, rfl, rfl, by decide +kernel, rfl,
    by decide +kernel, by decide +kernel⟩
abbrev s_is_inverted : Stmt := topS 18
abbrev N_is_inverted : List Str := ["base", "order", "first", "second", "before_in_base", "before_in_order"]
theorem sc_is_inverted : FnScope N_is_inverted
    ["base", "order", "first", "second"] (defScope s_is_inverted) :=
  ⟨rfl, rfl, rfl, by decide +kernel, rfl,
    by decide +kernel, by decide +kernel⟩
abbrev s_inverted_pairs : Stmt := topS 19
abbrev N_inverted_pairs : List Str := ["base", "order", "places", "name", "at", "names", "first", "second"]
theorem sc_inverted_pairs : FnScope N_inverted_pairs
    ["base", "order"] (defScope s_inverted_pairs) :=
  ⟨rfl, rfl, rfl, by decide +kernel, rfl,
    by decide +kernel, by decide +kernel⟩
abbrev s_dump_order : Stmt := topS 21
abbrev N_dump_order : List Str := ["base", "order"]
theorem sc_dump_order : FnScope N_dump_order
    ["base", "order"] (defScope s_dump_order) :=
  ⟨rfl, rfl, rfl, by decide +kernel, rfl,
    by decide +kernel, by decide +kernel⟩
abbrev s_Lrng : Stmt := topS 23
abbrev N_Lrng : List Str := ["_law_script", "_law_k", "_law_cell"]
theorem sc_Lrng : FnScope N_Lrng
    ["_law_script", "_law_k"] (defScope s_Lrng) :=
  ⟨rfl, rfl, rfl, by decide +kernel, rfl,
    by decide +kernel, by decide +kernel⟩
abbrev s_Ldraw : Stmt := topS 24
abbrev N_Ldraw : List Str := ["_law_rng_here", "_law_many", "_law_digit"]
theorem sc_Ldraw : FnScope N_Ldraw
    ["_law_rng_here", "_law_many"] (defScope s_Ldraw) :=
  ⟨rfl, rfl, rfl, by decide +kernel, rfl,
    by decide +kernel, by decide +kernel⟩
abbrev s_Lchoice : Stmt := topS 25
abbrev N_Lchoice : List Str := ["_law_rng_here", "_law_options"]
theorem sc_Lchoice : FnScope N_Lchoice
    ["_law_rng_here", "_law_options"] (defScope s_Lchoice) :=
  ⟨rfl, rfl, rfl, by decide +kernel, rfl,
    by decide +kernel, by decide +kernel⟩
abbrev s_Lname : Stmt := topS 26
abbrev N_Lname : List Str := ["_law_rng_here", "_law_used", "_law_letters", "_law_length", "_law_name_here", "_law_k", "_law_fresh", "_law_one"]
theorem sc_Lname : FnScope N_Lname
    ["_law_rng_here", "_law_used"] (defScope s_Lname) :=
  ⟨rfl, rfl, rfl, by decide +kernel, rfl,
    by decide +kernel, by decide +kernel⟩
abbrev s_Lnames : Stmt := topS 27
abbrev N_Lnames : List Str := ["_law_rng_here", "_law_many", "_law_used", "_law_result", "_law_k"]
theorem sc_Lnames : FnScope N_Lnames
    ["_law_rng_here", "_law_many", "_law_used"] (defScope s_Lnames) :=
  ⟨rfl, rfl, rfl, by decide +kernel, rfl,
    by decide +kernel, by decide +kernel⟩
abbrev s_Lshuffled : Stmt := topS 28
abbrev N_Lshuffled : List Str := ["_law_rng_here", "_law_values", "_law_pool", "_law_k"]
theorem sc_Lshuffled : FnScope N_Lshuffled
    ["_law_rng_here", "_law_values"] (defScope s_Lshuffled) :=
  ⟨rfl, rfl, rfl, by decide +kernel, rfl,
    by decide +kernel, by decide +kernel⟩
abbrev s_Lodd : Stmt := topS 29
abbrev N_Lodd : List Str := ["_law_rng_here", "_law_items", "_law_some"]
theorem sc_Lodd : FnScope N_Lodd
    ["_law_rng_here", "_law_items"] (defScope s_Lodd) :=
  ⟨rfl, rfl, rfl, by decide +kernel, rfl,
    by decide +kernel, by decide +kernel⟩
abbrev s_Lchanged : Stmt := topS 30
abbrev N_Lchanged : List Str := ["_law_rng_here", "_law_items", "_law_value", "_law_at", "_law_way"]
theorem sc_Lchanged : FnScope N_Lchanged
    ["_law_rng_here", "_law_items", "_law_value"] (defScope s_Lchanged) :=
  ⟨rfl, rfl, rfl, by decide +kernel, rfl,
    by decide +kernel, by decide +kernel⟩
abbrev s_Lproblem : Stmt := topS 31
abbrev N_Lproblem : List Str := ["_law_items", "_law_value", "_law_position", "_law_item"]
theorem sc_Lproblem : FnScope N_Lproblem
    ["_law_items", "_law_value"] (defScope s_Lproblem) :=
  ⟨rfl, rfl, rfl, by decide +kernel, rfl,
    by decide +kernel, by decide +kernel⟩
abbrev s_Ltold : Stmt := topS 32
abbrev N_Ltold : List Str := ["_law_call", "_law_told_here", "e", "_law_others"]
theorem sc_Ltold : FnScope N_Ltold
    ["_law_call"] (defScope s_Ltold) :=
  ⟨rfl, rfl, rfl, by decide +kernel, rfl,
    by decide +kernel, by decide +kernel⟩
abbrev s_Linverted_due : Stmt := topS 33
abbrev N_Linverted_due : List Str := ["_law_items", "_law_value", "_law_first", "_law_second", "_law_item", "_law_left", "_law_right", "_law_one"]
theorem sc_Linverted_due : FnScope N_Linverted_due
    ["_law_items", "_law_value", "_law_first", "_law_second"] (defScope s_Linverted_due) :=
  ⟨rfl, rfl, rfl, by decide +kernel, rfl,
    by decide +kernel, by decide +kernel⟩
abbrev s_Lvalue_right : Stmt := topS 34
abbrev N_Lvalue_right : List Str := ["_law_rng_here", "_law_base", "_law_items", "_law_value", "_law_problem_here", "_law_kept", "_law_first", "_law_second", "_law_told_here", "_law_due", "_law_pairs", "_law_text"]
theorem sc_Lvalue_right : FnScope N_Lvalue_right
    ["_law_rng_here", "_law_base", "_law_items", "_law_value"] (defScope s_Lvalue_right) :=
  ⟨rfl, rfl, rfl, by decide +kernel, rfl,
    by decide +kernel, by decide +kernel⟩
abbrev s_law : Stmt := topS 35
abbrev N_law : List Str := ["_law_script", "_law_k", "_law_rng_here", "_law_size", "_law_items", "_law_base", "_law_turn", "_law_value", "_law_change", "_law_some", "_law_item", "_law_other"]
theorem sc_law : FnScope N_law
    ["_law_script"] (defScope s_law) :=
  ⟨rfl, rfl, rfl, by decide +kernel, rfl,
    by decide +kernel, by decide +kernel⟩
end OM
namespace OM
open PySem PySem.Spec PyProof.Rows L2
section
variable {P : Program} {w : World} {K : PySem.W.Frag}
  {mg : Str → Option Value} {base : Heap}
theorem at0 (x y : V) : atI [x, y] 0 = some x := atI_nat (j := 0) rfl
theorem at1 (x y : V) : atI [x, y] 1 = some y := atI_nat (j := 1) rfl
theorem ok_draw {f : Addr} {fd : FuncData} {k : Nat}
    (F : Fun K "_law_draw" "_law_draw" s_Ldraw f fd) (B : Bl mg) :
    FnOk P w K mg base CX0 (k + 1) f fd ["_law_rng_here", "_law_many"]
      spDraw := by
  refine F.ok sc_Ldraw (fun vs H Q E h => ?_)
    (fun cv A outer s H vs Q E hr h => ?_)
  · obtain ⟨p, m, rfl, _⟩ := h
    rfl
  obtain ⟨p, m, rfl, rg, m0, m1, q⟩ := h
  obtain ⟨a, b, hp, a0, b0, b1⟩ := rg
  have nd := sc_Ldraw.nd
  refine ⟨_, pss_cons (ps_if (pt_cmpR op_gt
      (pe_ix ix_list (pv 0) pe_int (fun _ _ => rfl)) pe_int (nomark _))
      (pss_cons (ps_asg (pe_callB call_divmod (by rfl) B.divmod bt_divmod
          (pa_cons (pe_ix ix_list (pv 0) pe_int (fun _ _ => rfl))
            (pa_cons (pv 1) pa_nil)))
        (pg_tup rfl (pgs_cons (pg_sub (pv 0) pe_int set_list)
          (pgs_cons (pg_name (i := 2) nd rfl (.inl rfl)) pgs_nil))))
        (pss_one (ps_ret (pv 2)))) pss_nil)
    (pss_cons (ps_asg (pe_op op_mod (pe_op op_add (pe_op op_mul
        (pe_ix ix_list (pv 0) pe_int (fun _ _ => rfl)) pe_int) pe_int) pe_int)
        (pg_sub (pv 0) pe_int set_list))
    (pss_one (ps_ret (pe_op op_mod (pe_op op_fdiv (pe_op op_mod (pe_op op_mul
        (pe_ix ix_list (pv 0) pe_int (fun _ _ => rfl))
        (pe_ix ix_list (pv 0) pe_int (fun _ _ => rfl))) pe_int) pe_int)
        (pv 1))))), ?_⟩
  refine ⟨_, rfl, p, _, 0, _, rfl, rfl, SqL.of hp, at0 _ _, _, _, rfl, rfl,
    _, rfl, ite2 (fun c => ?_) (fun c => ?_)⟩
  · have c' : 0 < a := of_decide_eq_true c
    refine ⟨_, rfl, p, _, 0, _, rfl, rfl, SqL.of hp, at0 _ _, _, rfl, a, m,
      rfl, ⟨m0, by omega⟩, fun t nt => ?_⟩
    have nt' : p ≠ t := ne_of_none hp nt
    have hp' : (upd H t (.tup [.int (a / m), .int (a % m)])) p =
        some (.lst [.int a, .int b]) := by rw [upd_ne nt']; exact hp
    refine ⟨t, _, rfl, .inl (.inl upd_same), rfl, _, _, rfl, _, rfl, p, _, 0,
      0, rfl, rfl, hp', rfl, _, _, rfl, rfl, _, rfl, ?_⟩
    refine q _ _ (Int.emod_nonneg _ (by omega)) (Int.emod_lt_of_pos _ m0)
      ⟨a / m, b, upd_same, Int.ediv_nonneg a0 (by omega), b0, b1⟩ ?_
    exact ((But.refl H).new nt).at
  · have b2 : 0 ≤ (b * 48271 + 10007) % 2147483587 :=
      Int.emod_nonneg _ (by decide)
    have b3 : (b * 48271 + 10007) % 2147483587 < 2147483587 :=
      Int.emod_lt_of_pos _ (by decide)
    refine ⟨_, rfl, p, _, 1, _, rfl, rfl, SqL.of hp, at1 _ _, _, _, rfl, rfl,
      .inl ⟨by omega, by omega⟩, _, _, rfl, rfl, _, _, rfl, rfl,
      (by show (0 : Int) < 2147483587; decide), _, rfl, p, _, 1, 1, rfl, rfl,
      hp, rfl, ?_⟩
    have hp' : (upd H p (.lst [.int a,
        .int ((b * 48271 + 10007) % 2147483587)])) p = _ := upd_same
    refine ⟨_, rfl, p, _, 1, _, rfl, rfl, SqL.of hp', at1 _ _, _, rfl, p, _,
      1, _, rfl, rfl, SqL.of hp', at1 _ _, _, _, rfl, rfl,
      .inl ⟨by omega, by omega⟩, _, _, rfl, rfl,
      (by show (0 : Int) < 2147483549; decide), _, _, rfl, rfl,
      ⟨by decide, by decide⟩, _, rfl, _, _, rfl, rfl, m0, ?_⟩
    refine q _ _ (Int.emod_nonneg _ (by omega)) (Int.emod_lt_of_pos _ m0)
      ⟨a, _, upd_same, a0, b2, by omega⟩ (But.refl H).at
end
end OM
namespace OM
open PySem PySem.Spec PyProof.Rows L2
section
variable {P : Program} {w : World} {K : PySem.W.Frag}
  {mg : Str → Option Value} {base : Heap}
theorem ifx_cut {tA : TT} {ta tb : TE} {σ : L2.St} {H : Hp} {R : VK}
    (v : V) (h : ∀ R : VK, R v H → tIf tA ta tb σ H R) (k : R v H) :
    tIf tA ta tb σ H R := h R k
theorem ok_rng {f : Addr} {fd : FuncData} {k : Nat}
    (F : Fun K "_law_rng" "_law_rng" s_Lrng f fd) (B : Bl mg) :
    FnOk P w K mg base CX0 (k + 1) f fd ["_law_script", "_law_k"]
      (spRng K) := by
  refine F.ok sc_Lrng (fun vs H Q E h => ?_)
    (fun cv A outer s H vs Q E hr h => ?_)
  · obtain ⟨a, ns, k, rfl, _⟩ := h
    rfl
  obtain ⟨a, ns, n, rfl, hS, hn, q⟩ := h
  have nd := sc_Lrng.nd
  refine ⟨_, pss_cons (ps_set (i := 2) nd rfl (.inl rfl) (pe_ifExp
      (pt_cmpR op_lt (pv 1) (pe_callB call_len_seq (by rfl) B.len
        PySem.boot_len (pa_cons (pv 0) pa_nil)) (nomark _))
      (pe_callB call_abs (by rfl) B.abs bt_abs
        (pa_cons (pe_ix ix_list (pv 0) (pv 1) (fun _ _ => rfl)) pa_nil))
      pe_int))
    (pss_one (ps_ret (pe_lst (pa_cons
      (pe_callB (call_max2 rfl) (by rfl) B.max bt_max
        (pa_cons pe_int (pa_cons (pe_op op_sub (pv 2)
          (pe_op op_pow pe_int pe_int)) pa_nil)))
      (pa_cons (pe_op op_add (pe_op op_mod (pe_op op_pow
        (pe_op op_add (pe_op op_add (pe_op op_mod (pv 2) pe_int)
          (pe_op op_mul pe_int (pv 1))) pe_int) pe_int) pe_int) pe_int)
        pa_nil))))), ?_⟩
  obtain ⟨c, hc⟩ : ∃ c : Int, (n < ns.length → c =
      if ns.getD n 0 < 0 then - ns.getD n 0 else ns.getD n 0) ∧
      (¬ n < ns.length → c = 0) := by
    by_cases h : n < ns.length
    · exact ⟨_, fun _ => rfl, fun z => absurd h z⟩
    · exact ⟨0, fun z => absurd z h, fun _ => rfl⟩
  refine ifx_cut (.int c) (fun R hR => ?_) ?_
  · refine ⟨_, rfl, _, rfl, a, _, rfl, .inl hS, _, _, rfl, rfl, _, rfl,
      ite2 (fun z => ?_) (fun z => ?_)⟩
    · have z' : (n : Int) < ((ns.map V.int).length : Int) :=
        of_decide_eq_true z
      rw [List.length_map] at z'
      have hn' : n < ns.length := by omega
      have g : (ns.map V.int)[n]? = some (.int (ns.getD n 0)) := by
        rw [List.getElem?_map, List.getElem?_eq_getElem hn',
          List.getD_eq_getElem?_getD, List.getElem?_eq_getElem hn']
        rfl
      refine ⟨_, rfl, _, rfl, a, _, n, _, rfl, rfl, hS, atI_nat g, _, rfl, ?_⟩
      rw [← hc.1 hn']
      exact hR
    · have z' : ¬ n < ns.length := fun y => z (decide_eq_true (by
        rw [List.length_map]; omega))
      rw [hc.2 z'] at hR
      exact hR
  · have c0 : 0 ≤ c % 2147483543 := Int.emod_nonneg _ (by decide)
    have c1 : c % 2147483543 < 2147483543 :=
      Int.emod_lt_of_pos _ (by decide)
    refine ⟨_, rfl, _, _, rfl, rfl, ⟨by decide, by decide, by decide⟩, _, _,
      rfl, rfl, _, _, rfl, _, rfl, _, _, rfl, rfl,
      (by show (0 : Int) < 2147483543; decide), _, rfl, _, _, rfl, rfl,
      .inl ⟨by decide, by decide⟩, _, _, rfl, rfl, _, _, rfl, rfl, _, _, rfl,
      rfl, ⟨by decide, by decide, by omega⟩, _, _, rfl, rfl,
      (by show (0 : Int) < 2147483497; decide), _, _, rfl, rfl,
      (by show 2 ≤ sizeLine; decide), fun p np => ?_⟩
    generalize hb : ((c % 2147483543 + 101 * (n : Int) + 7) ^
      (2 : Int).toNat) % 2147483497 = b
    have b0 : 0 ≤ b := by rw [← hb]; exact Int.emod_nonneg _ (by decide)
    have b1 : b < 2147483497 := by
      rw [← hb]; exact Int.emod_lt_of_pos _ (by decide)
    refine q p _ np ⟨_, b + 1, upd_same, ?_, by omega, by omega⟩
      (sameNew np)
    split <;> omega
end
end OM
namespace OM
open PySem PySem.Spec PyProof.Rows L2
abbrev lets : Str := "abcdefghijklmnopqrstuvwxyz"
theorem lets_tl : lets.cps.toList = List.range' 97 26 := by decide +kernel
theorem lets_at {i : Int} (h0 : 0 ≤ i) (h1 : i < 26) :
    atI lets.cps.toList i = some (97 + i.toNat) := by
  have e : i = ((i.toNat : Nat) : Int) := by omega
  rw [e, lets_tl]
  refine atI_nat ?_
  rw [Int.toNat_natCast, List.getElem?_range' (by omega)]
  simp
theorem yes {σ : L2.St} {H : Hp} {A B : Hp → Prop} (h : A H) :
    tYes σ H fun b H' => if b = true then A H' else B H' :=
  iteT (B := B H) h
theorem joinL_ones : ∀ cs : List Nat,
    TL.joinL [] (cs.map fun c => [c]) = cs
  | [] => rfl
  | [c] => rfl
  | c :: d :: r => by
    have ih := joinL_ones (d :: r)
    show [c] ++ [] ++ TL.joinL [] ((d :: r).map fun c => [c]) = _
    rw [ih]
    rfl
def nmB (l : List Nat) : Bool :=
  decide (1 ≤ l.length) && decide (l.length ≤ 8) &&
    l.all fun c => decide (97 ≤ c) && decide (c ≤ 122)
theorem nmB_iff {l : List Nat} : nmB l = true ↔ Nm l := by
  unfold nmB
  simp only [Bool.and_eq_true, decide_eq_true_eq, List.all_eq_true]
  exact ⟨fun ⟨⟨a, b⟩, c⟩ => ⟨a, b, c⟩, fun n => ⟨⟨n.lo, n.hi⟩, n.az⟩⟩
theorem nm_of (x : Str) (h : nmB x.cps.toList = true) :
    ∃ l, (.str x : V) = vS l ∧ Nm l :=
  ⟨x.cps.toList, by rw [vS, SX.S_tl], nmB_iff.mp h⟩
/-- an item of eight written ones -/
theorem at8 {α : Type} {P : α → Prop} {a b c d e f g h : α} {i : Int}
    (h0 : 0 ≤ i) (h1 : i < 8) (pa : P a) (pb : P b) (pc : P c) (pd : P d)
    (pe : P e) (pf : P f) (pg : P g) (ph : P h) :
    ∃ v, atI [a, b, c, d, e, f, g, h] i = some v ∧ P v := by
  have e : i = 0 ∨ i = 1 ∨ i = 2 ∨ i = 3 ∨ i = 4 ∨ i = 5 ∨ i = 6 ∨ i = 7 := by
    omega
  rcases e with rfl | rfl | rfl | rfl | rfl | rfl | rfl | rfl
  · exact ⟨a, rfl, pa⟩
  · exact ⟨b, rfl, pb⟩
  · exact ⟨c, rfl, pc⟩
  · exact ⟨d, rfl, pd⟩
  · exact ⟨_, rfl, pe⟩
  · exact ⟨f, rfl, pf⟩
  · exact ⟨g, rfl, pg⟩
  · exact ⟨h, rfl, ph⟩
theorem at4 {α : Type} {P : α → Prop} {a b c d : α} {i : Int}
    (h0 : 0 ≤ i) (h1 : i < 4) (pa : P a) (pb : P b) (pc : P c) (pd : P d) :
    ∃ v, atI [a, b, c, d] i = some v ∧ P v := by
  have e : i = 0 ∨ i = 1 ∨ i = 2 ∨ i = 3 := by omega
  rcases e with rfl | rfl | rfl | rfl
  · exact ⟨a, rfl, pa⟩
  · exact ⟨b, rfl, pb⟩
  · exact ⟨c, rfl, pc⟩
  · exact ⟨d, rfl, pd⟩
/-- a new name that is not among us -/
def spName (K : PySem.W.Frag) : Sp := fun vs H Q _ =>
  ∃ (p a : Addr) (us : List (List Nat)), vs = [.ref p, .ref a] ∧ Rng H p ∧
  SqL K H a (us.map vS) ∧ a ≠ p ∧ us.length ≤ 600 ∧
  ∀ (l : List Nat) (H' : Hp), Nm l → l ∉ us → Rng H' p → But p H H' →
    Q (vS l) H'
section
variable {P : Program} {w : World} {K : PySem.W.Frag}
  {mg : Str → Option Value} {base : Heap}
abbrev CalDraw (P : Program) (w : World) (K : PySem.W.Frag)
    (mg : Str → Option Value) (base : Heap) (k : Nat) : Prop :=
  Cal P w K mg base k "_law_draw" ["_law_rng_here", "_law_many"] spDraw
theorem ok_name {f : Addr} {fd : FuncData} {k : Nat}
    (F : Fun K "_law_name" "_law_name" s_Lname f fd) (B : Bl mg)
    (C : CalDraw P w K mg base k) :
    FnOk P w K mg base CX0 (k + 1) f fd ["_law_rng_here", "_law_used"]
      (spName K) := by
  refine F.ok sc_Lname (fun vs H Q E h => ?_)
    (fun cv A outer s H vs Q E hr h => ?_)
  · obtain ⟨p, a, us, rfl, _⟩ := h
    rfl
  obtain ⟨p, a, us, rfl, rg, hS, nap, hus, q⟩ := h
  have nd := sc_Lname.nd
  refine ⟨_, C8.pss_cut (ps_set (i := 2) nd rfl (.inr rfl) pe_str)
    (C8.pss_cut (ps_set (i := 3) nd rfl (.inl rfl) (pe_ix ix_list
      (pe_lst (pa_cons pe_int (pa_cons pe_int (pa_cons pe_int (pa_cons
        (pe_op op_add pe_int (pe_cal C hr (pa_cons (pv 0)
          (pa_cons pe_int pa_nil)))) pa_nil)))))
      (pe_cal C hr (pa_cons (pv 0) (pa_cons pe_int pa_nil)))
      (fun _ _ => rfl)))
    (C8.pss_cut (ps_set (i := 4) nd rfl (.inr rfl) (pe_join pe_str
      (pe_lc (own := [("_law_k", 5)]) (g := gName 5) (tt := tYes) rfl nd
        (pi_range1 (by rfl) B.range (pa_cons (pv 3) pa_nil))
        (blkOk_by (N := N_Lname) (sc := defScope s_Lname) (by decide +kernel))
        (fun _ _ _ _ _ => pg_name (i := 5) nd rfl (Or.inl rfl))
        (fun _ _ _ _ _ => pts_nil)
        (fun _ _ _ _ _ => pe_ix ix_str (pv 2)
          (pe_cal C hr (pa_cons (pv 0) (pa_cons pe_int pa_nil)))
          (fun _ _ => rfl)))))
    (C8.pss_cut (ps_if (pt_cmpR op_eq (pe_cal C hr (pa_cons (pv 0)
        (pa_cons pe_int pa_nil))) pe_int (nomark _))
      (pss_one (ps_set (i := 4) nd rfl (.inr rfl) (pe_ix ix_list
        (pe_lst (pa_cons pe_str (pa_cons pe_str (pa_cons pe_str (pa_cons
          pe_str (pa_cons pe_str (pa_cons pe_str (pa_cons pe_str (pa_cons
          pe_str pa_nil)))))))))
        (pe_cal C hr (pa_cons (pv 0) (pa_cons pe_int pa_nil)))
        (fun _ _ => rfl)))) pss_nil)
    (C8.pss_cut (ps_set (i := 6) nd rfl (.inl rfl) (pe_op op_cat
      (pe_lst (pa_cons (pv 4) pa_nil))
      (pe_lc (own := [("_law_k", 5)]) (g := gName 5) (tt := tYes) rfl nd
        (pi_range1 (by rfl) B.range (pa_cons pe_int pa_nil))
        (blkOk_by (N := N_Lname) (sc := defScope s_Lname) (by decide +kernel))
        (fun _ _ _ _ _ => pg_name (i := 5) nd rfl (Or.inl rfl))
        (fun _ _ _ _ _ => pts_nil)
        (fun _ _ _ _ _ => pe_op op_add_str (pe_op op_add_str
          (pe_slice sl_str (pv 4) po_none (po_some pe_int))
          (pe_ix ix_str (pv 2) (pe_op op_fdiv (pv 5) pe_int)
            (fun _ _ => rfl)))
          (pe_ix ix_str (pv 2) (pe_op op_mod (pv 5) pe_int)
            (fun _ _ => rfl))))))
    (pss_one (ps_ret (pe_ix ix_list
      (pe_lc (own := [("_law_one", 7)]) (g := gName 7) rfl nd
        (pi_list (pv 6))
        (blkOk_by (N := N_Lname) (sc := defScope s_Lname) (by decide +kernel))
        (fun _ _ _ _ _ => pg_name (i := 7) nd rfl (Or.inl rfl))
        (fun _ _ _ _ _ => pts_one (pt_cmpR (r := rIn K true) op_notIn_seq (pv 7) (pv 1) (by rfl)))
        (fun _ _ _ _ _ => pv 7))
      pe_int (fun _ _ => rfl)))))))), ?_⟩
  -- letters
  refine ⟨fun σ' H' => σ' = [some (.ref p), some (.ref a), some (.str lets),
    none, none, none, none, none] ∧ H = H', ⟨rfl, rfl⟩, ?_⟩
  rintro _ _ ⟨rfl, rfl⟩
  -- length
  refine ⟨fun σ' H' => ∃ n : Int, 1 ≤ n ∧ n ≤ 8 ∧ σ' = [some (.ref p),
    some (.ref a), some (.str lets), some (.int n), none, none, none, none] ∧
    Rng H' p ∧ But p H H', ?_, ?_⟩
  · refine ⟨_, rfl, p, 8, rfl, rg, by decide, by decide,
      fun d H1 d0 d1 rg1 b1 => ⟨_, _, rfl, rfl, sz (by simp), fun t nt =>
      ⟨_, rfl, p, 4, rfl, rg1.same (sameNew nt), by decide, by decide,
      fun d2 H2 e0 e1 rg2 b2 => ?_⟩⟩⟩
    have ne : t ≠ p := (rg1.ne nt).symm
    obtain ⟨v, hv, n, rfl, n0, n1⟩ := at4 (a := V.int 1) (b := V.int 1)
      (c := V.int 2) (d := V.int (1 + d))
      (P := fun v => ∃ n : Int, v = .int n ∧ 1 ≤ n ∧ n ≤ 8) e0 e1
      ⟨1, rfl, by omega, by omega⟩ ⟨1, rfl, by omega, by omega⟩
      ⟨2, rfl, by omega, by omega⟩ ⟨1 + d, rfl, by omega, by omega⟩
    exact ⟨t, _, d2, _, rfl, rfl, SqL.of (b2 t _ upd_same ne), hv, n, n0, n1,
      rfl, rg2, (b1.put nt ne).trans b2⟩
  rintro _ H1 ⟨n, n0, n1, rfl, rg1, b1⟩
  -- the letters drawn
  refine ⟨fun σ' H' => ∃ l, Nm l ∧ σ' = [some (.ref p), some (.ref a),
    some (.str lets), some (.int n), some (vS l), none, none, none] ∧
    Rng H' p ∧ But p H H', ?_, ?_⟩
  · refine ⟨⟨_, rfl⟩, _, rfl, n, rfl, by omega, by omega, fun D nD => ?_⟩
    have ne : D ≠ p := (rg1.ne nD).symm
    refine lc_range (lo := 0) (n := n.toNat) (fun i H' => ∃ cs : List Nat,
      cs.length = i ∧ (∀ c ∈ cs, 97 ≤ c ∧ c ≤ 122) ∧
      H' D = some (.lst (cs.map fun c => vS [c])) ∧ Rng H' p ∧ But p H H')
      ⟨[], rfl, nofun, upd_same, rg1.same (sameNew nD), b1.put nD ne⟩ ?_ ?_
    · rintro i H2 hi ⟨cs, hl, az, hD, rg2, b2⟩
      refine ⟨rfl, yes ⟨_, rfl, _, rfl, p, 26, rfl, rg2, by decide,
        by decide, fun d H3 d0 d1 rg3 b3 => ⟨_, d, _, rfl, rfl,
        sz (by decide), lets_at d0 d1, _, b3 D _ hD ne, ?_, cs ++
        [97 + d.toNat], ?_, ?_, ?_, ?_, ?_⟩⟩⟩
      · rw [List.length_map]
        exact sz' (by omega)
      · rw [List.length_append, hl]
        rfl
      · intro c hc
        rcases List.mem_append.mp hc with h | h
        · exact az c h
        · rcases List.mem_cons.mp h with h | h
          · omega
          · cases h
      · rw [upd_same, List.map_append]
        rfl
      · exact rg3.but (But.at (p := D) (But.refl H3)) ne.symm
      · exact (b2.trans b3).new (b1.free ne nD)
    · rintro H2 ⟨cs, hl, az, hD, rg2, b2⟩
      refine ⟨_, D, cs.map fun c => SX.S [c], rfl, rfl,
        .inl (SqL.of (by rw [List.map_map]; exact hD)), ?_, cs,
        ⟨by omega, by omega, az⟩, ?_, rg2, b2⟩
      · have e1 : ((cs.map fun c => SX.S [c]).map fun x => x.length).sum =
            cs.length := by
          rw [List.map_map]
          clear hl az hD
          induction cs with
          | nil => rfl
          | cons c cs ih =>
            rw [List.map_cons, List.sum_cons, ih, List.length_cons]
            show 1 + cs.length = cs.length + 1
            omega
        rw [e1, List.length_map, show (Str.ofString "").length = 0 from rfl]
        omega
      · have e2 : Txt.join (Str.ofString "") (cs.map fun c => SX.S [c]) =
            SX.S cs := by
          have := SX.join_S [] (cs.map fun c => [c])
          rw [List.map_map, joinL_ones] at this
          exact this
        rw [e2]
        rfl
  rintro _ H2 ⟨l, nl, rfl, rg2, b2⟩
  -- a command's name
  refine ⟨fun σ' H' => ∃ l, Nm l ∧ σ' = [some (.ref p), some (.ref a),
    some (.str lets), some (.int n), some (vS l), none, none, none] ∧
    Rng H' p ∧ But p H H', ?_, ?_⟩
  · refine ⟨_, rfl, p, 8, rfl, rg2, by decide, by decide,
      fun d H3 d0 d1 rg3 b3 => ⟨rfl, _, rfl, ite2 (fun _ => ?_)
        (fun _ => ⟨l, nl, rfl, rg3, b2.trans b3⟩)⟩⟩
    refine ⟨sz (by decide), fun t nt => ⟨_, rfl, p, 8, rfl,
      rg3.same (sameNew nt), by decide, by decide,
      fun d2 H4 e0 e1 rg4 b4 => ?_⟩⟩
    have ne : t ≠ p := (rg3.ne nt).symm
    obtain ⟨v, hv, l', rfl, nl'⟩ := at8 (P := fun v => ∃ l, v = vS l ∧ Nm l)
      e0 e1 (nm_of "swap" (by decide +kernel)) (nm_of "move" (by decide +kernel))
      (nm_of "base" (by decide +kernel)) (nm_of "users" (by decide +kernel))
      (nm_of "merged" (by decide +kernel)) (nm_of "log" (by decide +kernel))
      (nm_of "ok" (by decide +kernel)) (nm_of "undo" (by decide +kernel))
    exact ⟨t, _, d2, _, rfl, rfl, SqL.of (b4 t _ upd_same ne), hv, l', nl',
      rfl, rg4, ((b2.trans b3).put nt ne).trans b4⟩
  clear nl rg2 b2
  rintro _ H2 ⟨l, nl, rfl, rg2, b2⟩
  -- names to fall back upon
  refine ⟨fun σ' H' => ∃ fr, σ' = [some (.ref p), some (.ref a),
    some (.str lets), some (.int n), some (vS l), none, some (.ref fr), none]
    ∧ fr ≠ p ∧ H' fr = some (.lst ((fresh l).map vS)) ∧
    Rng H' p ∧ But p H H', ?_, ?_⟩
  · refine ⟨_, rfl, sz (by simp), fun t nt => ?_⟩
    have ne : t ≠ p := (rg2.ne nt).symm
    refine ⟨676, rfl, by decide, by decide, fun D nD => ?_⟩
    have rg3 : Rng (upd H2 t (.lst [vS l])) p := rg2.same (sameNew nt)
    have neD : D ≠ p := (rg3.ne nD).symm
    have net : t ≠ D := fun e => by rw [← e, upd_same] at nD; cases nD
    have b3 : But p H (upd H2 t (.lst [vS l])) := b2.put nt ne
    refine lc_range (lo := 0) (n := 676) (fun i H' =>
      H' D = some (.lst (((List.range i).map (frs6 l)).map vS)) ∧
      H' t = some (.lst [vS l]) ∧ Rng H' p ∧ But p H H')
      ⟨upd_same, by rw [upd_ne net, upd_same], rg3.same (sameNew nD),
        b3.put nD neD⟩ ?_ ?_
    · rintro i H4 hi ⟨hD, ht, rg4, b4⟩
      have f1 : 0 ≤ (0 + (i : Int)) / 26 := by omega
      have f2 : (0 + (i : Int)) / 26 < 26 := by omega
      have f3 : 0 ≤ (0 + (i : Int)) % 26 := by omega
      have f4 : (0 + (i : Int)) % 26 < 26 := by omega
      have ll := nl.hi
      have ec : cutS (SX.S l) none (some 6) = SX.S (l.take 6) := by
        rw [C8.cutS_slice, SX.slice_to (by decide)]
        rfl
      refine ⟨rfl, yes ⟨_, rfl, 6, rfl, SX.S l, rfl,
        sz (by rw [SX.S_len]; omega), _, rfl, _, rfl, _, _, rfl, rfl,
        ⟨by decide, by decide⟩, _, _, _, rfl, rfl, sz (by decide),
        lets_at f1 f2, _, _, rfl, rfl, ?_, _, rfl, _, rfl, _, _, rfl, rfl,
        (by show (0 : Int) < 26; decide), _, _, _, rfl, rfl, sz (by decide),
        lets_at f3 f4, _, _, rfl, rfl, ?_, _, hD, ?_, ?_, ?_, ?_, ?_⟩⟩
      · rw [ec, SX.S_len, List.length_take]
        show min 6 l.length + 1 ≤ _
        exact sz (by omega)
      · rw [ec, strLen_append, SX.S_len, List.length_take]
        show min 6 l.length + 1 + 1 ≤ _
        exact sz (by omega)
      · rw [List.length_map, List.length_map, List.length_range]
        exact sz' (by omega)
      · rw [upd_same, ec]
        have e5 : SX.S (l.take 6) ++ (⟨#[97 + ((0 + (i : Int)) / 26).toNat]⟩ :
            Str) ++ ⟨#[97 + ((0 + (i : Int)) % 26).toNat]⟩ =
            SX.S (frs6 l i) := by
          have e6 : ((0 + (i : Int)) / 26).toNat = i / 26 := by omega
          have e7 : ((0 + (i : Int)) % 26).toNat = i % 26 := by omega
          rw [e6, e7]
          show SX.S (l.take 6) ++ SX.S [97 + i / 26] ++ SX.S [97 + i % 26] = _
          rw [SX.S_cat, SX.S_cat]
          unfold frs6
          rw [List.append_assoc]
          rfl
        rw [e5, List.range_succ, List.map_append, List.map_append]
        rfl
      · rw [upd_ne net]
        exact ht
      · exact rg4.but (But.at (p := D) (But.refl H4)) neD.symm
      · exact b4.new (b3.free neD nD)
    · rintro H4 ⟨hD, ht, rg4, b4⟩
      refine ⟨t, D, _, _, rfl, rfl, ht, hD, ?_, fun fr nfr => ⟨fr, rfl,
        (rg4.ne nfr).symm, ?_, rg4.same (sameNew nfr),
        b4.put nfr (rg4.ne nfr).symm⟩⟩
      · rw [List.length_map, List.length_map, List.length_range]
        exact sz (by simp)
      · rw [upd_same]
        rfl
  clear rg2 b2
  rintro _ H3 ⟨fr, rfl, nfp, hfr, rg3, b3⟩
  -- the first one that is free
  refine ⟨_, rfl, fr, rfl, ⟨_, SqL.of hfr⟩, fun D nD => ?_⟩
  have neD : D ≠ p := (rg3.ne nD).symm
  have nfD : fr ≠ D := ne_of_none hfr nD
  have hS3 : SqL K H3 a (us.map vS) := b3.seq hS nap
  have naD : SqL K (upd H3 D (.lst [])) a (us.map vS) := (sameNew nD).seq hS3
  refine lc_list (K := K) (a := fr) (xs := (fresh l).map vS) (fun i H' =>
    H' D = some (.lst ((((fresh l).take i).filter
      (fun y => decide (y ∉ us))).map vS)) ∧
    H' fr = some (.lst ((fresh l).map vS)) ∧ Rng H' p ∧ But p H3 H' ∧
    SqL K H' a (us.map vS))
    ⟨upd_same, by rw [upd_ne nfD]; exact hfr, rg3.same (sameNew nD),
      (But.refl H3).put nD neD, naD⟩ (fun i H' _ z => SqL.of z.2.1) ?_ ?_
  · rintro i y H4 hy ⟨hD, hf, rg4, b4, hS4⟩
    rw [List.getElem?_map] at hy
    obtain ⟨x, hx, rfl⟩ : ∃ x, (fresh l)[i]? = some x ∧ vS x = y := by
      cases e : (fresh l)[i]? with
      | none => rw [e] at hy; cases hy
      | some x => rw [e] at hy; exact ⟨x, rfl, Option.some.inj hy⟩
    have et : (fresh l).take (i + 1) = (fresh l).take i ++ [x] := by
      rw [List.take_add_one, hx]
      rfl
    refine ⟨rfl, _, rfl, _, rfl, a, _, rfl, .inl hS4, rfl, flat_S us, _, rfl,
      ?_⟩
    rw [inV_S]
    have hlen : ((((fresh l).take i).filter
        (fun y => decide (y ∉ us))).map vS).length < sizeLine := by
      rw [List.length_map]
      refine sz' (Nat.lt_of_le_of_lt (List.length_filter_le _ _) ?_)
      rw [List.length_take]
      have : (fresh l).length = 677 := by
        unfold fresh
        rw [List.length_cons, List.length_map, List.length_range]
      omega
    by_cases hm : x ∈ us
    · rw [decide_eq_true hm]
      refine iteF ⟨?_, hf, rg4, b4, hS4⟩
      rw [hD, et, List.filter_append, List.filter_cons_of_neg (by simp [hm]),
        List.filter_nil, List.append_nil]
    · rw [decide_eq_false hm]
      refine iteT ⟨_, rfl, _, hD, hlen, ?_, ?_, ?_, ?_, ?_⟩
      · rw [upd_same, et, List.filter_append,
          List.filter_cons_of_pos (by simp [hm]), List.filter_nil,
          List.map_append]
        rfl
      · rw [upd_ne nfD]
        exact hf
      · exact rg4.but (But.at (p := D) (But.refl H4)) neD.symm
      · exact b4.new nD
      · have naD' : But D H4 (upd H4 D (.lst ((((fresh l).take i).filter
            (fun y => decide (y ∉ us))).map vS ++ [vS x]))) :=
          But.at (But.refl H4)
        by_cases had : a = D
        · subst had
          rcases hS3 with (h | ⟨o, h⟩) | h
          · rw [h] at nD; cases nD
          · rw [h] at nD; cases nD
          · exact .inr h
        · exact naD'.seq hS4 had
  · rintro H4 ⟨hD, hf, rg4, b4, hS4⟩
    obtain ⟨x, r, ex⟩ := fresh_some (l := l) (us := us) (by omega)
    rw [List.take_of_length_le (by rw [List.length_map]; exact Nat.le_refl _),
      ex] at hD
    have mx : x ∈ (fresh l).filter (fun y => decide (y ∉ us)) := by
      rw [ex]; exact List.mem_cons_self
    have mx' := List.mem_filter.mp mx
    exact ⟨D, _, 0, _, rfl, rfl, SqL.of hD, atI_nat (j := 0) rfl,
      q x H4 (fresh_nm nl x mx'.1) (of_decide_eq_true mx'.2) rg4
        (b3.trans b4)⟩
end
end OM
namespace OM
open PySem PySem.Spec PyProof.Rows L2
/-- some new names -/
def spNames : Sp := fun vs H Q _ =>
  ∃ (p u : Addr) (m : Nat) (us : List (List Nat)),
  vs = [.ref p, .int m, .ref u] ∧ Rng H p ∧ H u = some (.lst (us.map vS)) ∧
  u ≠ p ∧ m ≤ 100 ∧ us.length ≤ 400 ∧
  ∀ (q : Addr) (ls : List (List Nat)) (H' : Hp), H q = none →
    ls.length = m → (∀ l ∈ ls, Nm l) → ls.Nodup → (∀ l ∈ ls, l ∉ us) →
    H' q = some (.lst (ls.map vS)) → Rng H' p → But p H H' →
    Q (.ref q) H'
section
variable {P : Program} {w : World} {K : PySem.W.Frag}
  {mg : Str → Option Value} {base : Heap}
theorem ok_names {f : Addr} {fd : FuncData} {k : Nat}
    (F : Fun K "_law_names" "_law_names" s_Lnames f fd) (B : Bl mg)
    (C : Cal P w K mg base k "_law_name" ["_law_rng_here", "_law_used"]
      (spName K)) :
    FnOk P w K mg base CX0 (k + 1) f fd
      ["_law_rng_here", "_law_many", "_law_used"] spNames := by
  refine F.ok sc_Lnames (fun vs H Q E h => ?_)
    (fun cv A outer s H vs Q E hr h => ?_)
  · obtain ⟨p, u, m, us, rfl, _⟩ := h
    rfl
  obtain ⟨p, u, m, us, rfl, rg, hu, nup, hm, hus, q⟩ := h
  have nd := sc_Lnames.nd
  refine ⟨_, pss_cons (ps_set (i := 3) nd rfl (.inl rfl) (pe_lst pa_nil))
    (pss_cons (ps_for PassesOwn.never rfl
      (pi_range1 (by rfl) B.range (pa_cons (pv 1) pa_nil))
      (pg_name (i := 4) nd rfl (.inl rfl))
      (pss_one (ps_expr (pe_bm PySem.F.plainAttrs_list
        PySem.F.slot_list_append PySem.F.type_list_append mt_append (pv 3)
        (pa_cons (pe_cal C hr (pa_cons (pv 0) (pa_cons
          (pe_op op_cat (pv 2) (pv 3)) pa_nil))) pa_nil)))))
    (pss_one (ps_ret (pv 3)))), ?_⟩
  refine ⟨sz (by simp), fun r nr => ?_⟩
  have nrp : r ≠ p := (rg.ne nr).symm
  have nru : u ≠ r := ne_of_none hu nr
  refine ⟨_, rfl, m, rfl, by omega, by omega, ?_⟩
  refine for_range (lo := 0) (n := m) (fun i σ H' => ∃ (ls : List (List Nat))
      (v : Option V), σ = [some (.ref p), some (.int m), some (.ref u),
      some (.ref r), v] ∧ ls.length = i ∧ (∀ l ∈ ls, Nm l) ∧ ls.Nodup ∧
      (∀ l ∈ ls, l ∉ us) ∧ H' r = some (.lst (ls.map vS)) ∧ Rng H' p ∧
      But p H H')
    ⟨[], none, rfl, rfl, nofun, List.nodup_nil, nofun, upd_same,
      rg.same (sameNew nr), (But.refl H).put nr nrp⟩ ?_ ?_
  · rintro i σ H1 hi ⟨ls, v, rfl, hl, nm, nd1, no, h1, rg1, b1⟩
    refine ⟨_, rfl, .inl ⟨rfl, _, SqL.of h1⟩, _, rfl, _, rfl, _, rfl, u, r,
      _, _, rfl, rfl, b1 u _ hu nup, h1, ?_, fun t nt => ?_⟩
    · rw [List.length_map, List.length_map]
      exact sz (by omega)
    have ntp : t ≠ p := (rg1.ne nt).symm
    have ntr : r ≠ t := ne_of_none h1 nt
    refine ⟨p, t, us ++ ls, rfl, rg1.same (sameNew nt), ?_, ntp, ?_,
      fun l H2 nl ni rg2 b2 => ?_⟩
    · rw [List.map_append]
      exact SqL.of upd_same
    · rw [List.length_append]
      omega
    · have h2 : H2 r = some (.lst (ls.map vS)) :=
        b2 r _ (by rw [upd_ne ntr]; exact h1) nrp
      refine ⟨r, _, _, rfl, rfl, h2, ?_, ls ++ [l], _, rfl, ?_, ?_, ?_, ?_, ?_,
        ?_, ?_⟩
      · rw [List.length_map]
        exact sz' (by omega)
      · rw [List.length_append, hl]
        rfl
      · intro x hx
        rcases List.mem_append.mp hx with h | h
        · exact nm x h
        · rw [List.mem_singleton.mp h]
          exact nl
      · refine List.nodup_append.mpr ⟨nd1, by simp, ?_⟩
        intro x hx y hy e
        rw [List.mem_singleton.mp hy] at e
        exact ni (List.mem_append_right _ (e ▸ hx))
      · intro x hx
        rcases List.mem_append.mp hx with h | h
        · exact no x h
        · rw [List.mem_singleton.mp h]
          exact fun z => ni (List.mem_append_left _ z)
      · rw [upd_same, List.map_append]
        rfl
      · exact rg2.but (But.at (p := r) (But.refl H2)) nrp.symm
      · exact ((b1.put nt ntp).trans b2).new nr
  · rintro σ H1 ⟨ls, v, rfl, hl, nm, nd1, no, h1, rg1, b1⟩
    exact ⟨_, rfl, q r ls H1 nr hl nm nd1 no h1 rg1 b1⟩
end
end OM
namespace OM
open PySem PySem.Spec PyProof.Rows L2
theorem erase_perm {α : Type} {l : List α} {i : Nat} (h : i < l.length) :
    (l[i] :: l.eraseIdx i).Perm l := by
  rw [List.eraseIdx_eq_take_drop_succ]
  refine List.perm_middle.symm.trans ?_
  rw [← List.drop_eq_getElem_cons h, List.take_append_drop]
/-- the values in another sequence -/
def spShuf (K : PySem.W.Frag) : Sp := fun vs H Q _ =>
  ∃ (p a : Addr) (xs : List V), vs = [.ref p, .ref a] ∧ Rng H p ∧
  SqL K H a xs ∧ a ≠ p ∧ xs.length ≤ 1000 ∧
  ∀ (q : Addr) (ys : List V) (H' : Hp), H q = none → ys.Perm xs →
    H' q = some (.lst ys) → Rng H' p → But p H H' → Q (.ref q) H'
section
variable {P : Program} {w : World} {K : PySem.W.Frag}
  {mg : Str → Option Value} {base : Heap}
theorem ok_shuf {f : Addr} {fd : FuncData} {k : Nat}
    (F : Fun K "_law_shuffled" "_law_shuffled" s_Lshuffled f fd) (B : Bl mg)
    (C : CalDraw P w K mg base k) :
    FnOk P w K mg base CX0 (k + 1) f fd ["_law_rng_here", "_law_values"]
      (spShuf K) := by
  refine F.ok sc_Lshuffled (fun vs H Q E h => ?_)
    (fun cv A outer s H vs Q E hr h => ?_)
  · obtain ⟨p, a, xs, rfl, _⟩ := h
    rfl
  obtain ⟨p, a, xs, rfl, rg, hS, nap, hx, q⟩ := h
  have nd := sc_Lshuffled.nd
  refine ⟨_, pss_cons (ps_set (i := 2) nd rfl (.inr rfl)
      (pe_callTy call_list_of (by rfl) B.list bt_list (pa_cons (pv 1) pa_nil)))
    (pss_one (ps_ret
      (pe_lc (own := [("_law_k", 3)]) (g := gName 3) (tt := tYes)
        (te := tBM K "list" rPopAt (tVar 2) (tCons (tCall spDraw [] E0
          (tCons (tVar 0) (tCons (tCB (rLenK K) (tCons (tVar 2) tNil)) tNil)))
          tNil)) rfl nd
        (pi_range1 (by rfl) B.range (pa_cons
          (pe_callB call_len_seq (by rfl) B.len PySem.boot_len
            (pa_cons (pv 1) pa_nil)) pa_nil))
        (blkOk_by (N := N_Lshuffled) (sc := defScope s_Lshuffled)
          (by decide +kernel))
        (fun _ _ _ _ _ => pg_name (i := 3) nd rfl (Or.inl rfl))
        (fun _ _ _ _ _ => pts_nil)
        (fun _ _ _ _ _ => pe_bm PySem.F.plainAttrs_list
          PySem.F.slot_list_pop PySem.F.type_list_pop mt_popAt (pv 2)
          (pa_cons (pe_cal C hr (pa_cons (pv 0) (pa_cons
            (pe_callB (r := rLenK K) call_lenK (by rfl) B.len
              PySem.boot_len (pa_cons (pv 2) pa_nil)) pa_nil))) pa_nil))))),
    ?_⟩
  refine ⟨_, rfl, a, _, rfl, .inl hS, fun o no => ?_⟩
  have hS1 := (sameNew (o := .lst xs) no).seq hS
  have rg1 : Rng (upd H o (.lst xs)) p := rg.same (sameNew no)
  have nop : o ≠ p := (rg.ne no).symm
  refine ⟨_, rfl, a, _, rfl, .inl hS1, _, rfl, by omega, by omega,
    fun D nD => ?_⟩
  have nDp : D ≠ p := (rg1.ne nD).symm
  have nDo : D ≠ o := fun e => by rw [e, upd_same] at nD; cases nD
  have fD : H D = none := (upd_ne (H := H) (o := .lst xs) nDo).symm.trans nD
  refine lc_range (lo := 0) (n := xs.length) (fun i H' => ∃ ac rs : List V,
    ac.length = i ∧ (ac ++ rs).Perm xs ∧ H' D = some (.lst ac) ∧
    H' o = some (.lst rs) ∧ Rng H' p ∧ But p H H')
    ⟨[], xs, rfl, List.Perm.refl _, upd_same,
      by rw [upd_ne nDo.symm, upd_same], rg1.same (sameNew nD),
      ((But.refl H).put no nop).put nD nDp⟩ ?_ ?_
  · rintro i H1 hi ⟨ac, rs, hl, pm, hD, ho, rg2, b2⟩
    have len : ac.length + rs.length = xs.length := by
      have := pm.length_eq
      rw [List.length_append] at this
      exact this
    refine ⟨rfl, yes ⟨_, rfl, .inl ⟨rfl, _, SqL.of ho⟩, _, rfl, _, rfl, o, _,
      rfl, .inl (SqL.of ho), p, rs.length, rfl, rg2, by omega, by omega,
      fun d H2 d0 d1 rg3 b3 => ?_⟩⟩
    have hd : d.toNat < rs.length := by omega
    refine ⟨o, rs, d, d.toNat, rs[d.toNat], rfl, rfl, b3 o _ ho nop, by omega,
      by omega, ?_, List.getElem?_eq_getElem hd, ac, ?_, sz' (by omega),
      ac ++ [rs[d.toNat]], rs.eraseIdx d.toNat, ?_, ?_, ?_, ?_, ?_, ?_⟩
    · exact seqIndex_of d0 d1
    · rw [upd_ne nDo]
      exact b3 D _ hD nDp
    · rw [List.length_append, hl]
      rfl
    · refine List.Perm.trans ?_ pm
      rw [List.append_assoc]
      exact List.Perm.append_left _ (erase_perm hd)
    · exact upd_same
    · rw [upd_ne nDo.symm, upd_same]
    · exact (rg3.but (But.at (p := o) (But.refl H2)) nop.symm).but
        (But.at (p := D) (But.refl _)) nDp.symm
    · exact ((b2.trans b3).new no).new fD
  · rintro H1 ⟨ac, rs, hl, pm, hD, ho, rg2, b2⟩
    have len : ac.length + rs.length = xs.length := by
      have := pm.length_eq
      rw [List.length_append] at this
      exact this
    have e : rs = [] := List.length_eq_zero_iff.mp (by omega)
    rw [e, List.append_nil] at pm
    exact q D ac H1 fD pm hD rg2 b2
end
end OM
namespace OM
open PySem PySem.Spec PyProof.Rows L2
theorem lt1 (c d : Nat) : decide (([c] : List Nat) < [d]) = decide (c < d) := by
  by_cases h : c < d
  · rw [decide_eq_true h]
    refine decide_eq_true ?_
    rw [List.cons_lt_cons_iff]
    exact Or.inl h
  · rw [decide_eq_false h]
    refine decide_eq_false fun z => ?_
    rw [List.cons_lt_cons_iff] at z
    rcases z with z | ⟨_, z⟩
    · exact h z
    · exact absurd z (by simp)
def azB (c : Nat) : Bool := decide (97 ≤ c) && decide (c ≤ 122)
theorem all_az (l : List Nat) :
    ((l.map azB).all id) = l.all azB := by
  rw [List.all_map]
  rfl
/-- is it a name: a text, or a value of another type -/
def spIsName (K : PySem.W.Frag) : Sp := fun vs H Q _ => ∃ v, vs = [v] ∧
  ((∃ x : Str, v = .str x ∧ x.length ≤ sizeLine ∧ ∀ H', Same H H' →
      Q (.bl (nmB x.cps.toList)) H') ∨
   (∃ t, TyX K H v t ∧ PySem.W.kitOne K t (.type "str") = some false ∧
      Q (.bl false) H))
section
variable {P : Program} {w : World} {K : PySem.W.Frag}
  {mg : Str → Option Value} {base : Heap}
theorem ok_isname {f : Addr} {fd : FuncData} {k : Nat}
    (F : Fun K "is_name" "is_name" s_is_name f fd) (B : Bl mg)
    {t8 : Tok} (m8 : mg "MAX_NAME_LENGTH" = some (.int 8 t8)) :
    FnOk P w K mg base CX0 (k + 1) f fd ["value"] (spIsName K) := by
  refine F.ok sc_is_name (fun vs H Q E h => ?_)
    (fun cv A outer s H vs Q E hr h => ?_)
  · obtain ⟨v, rfl, _⟩ := h
    rfl
  obtain ⟨v, rfl, h⟩ := h
  have nd := sc_is_name.nd
  refine ⟨_, pss_cons (ps_if (pt_mid (PW.pt (pw_or (pt_not (pt_val
      (pe_callB call_isi (by rfl) B.isi bt_isi (pa_cons (pv 0) (pa_cons
        (pe_bltn (v := .ty "str") (by rfl) B.str bt_str rfl) pa_nil)))))
      (pw_or1 (pt_not (pt_chain op_le op_le pe_int
        (pe_callB call_len_str (by rfl) B.len PySem.boot_len
          (pa_cons (pv 0) pa_nil))
        (pe_glob (v := .int 8) (by rfl) m8 ⟨_, rfl⟩)))))))
      (pss_one (ps_ret pe_bl)) pss_nil)
    (pss_one (ps_ret (pe_callB (cr_all rfl) (by rfl) B.all bt_all (pa_cons
      (pe_lc (own := [("letter", 1)]) (g := gName 1) (tt := tYes) rfl nd
        (pi_str (pv 0))
        (blkOk_by (N := N_is_name) (sc := defScope s_is_name)
          (by decide +kernel))
        (fun _ _ _ _ _ => pg_name (i := 1) nd rfl (Or.inl rfl))
        (fun _ _ _ _ _ => pts_nil)
        (fun _ _ _ _ _ => pe_mid (pe_chain op_le_str op_le_str pe_str
          (pv 1) pe_str))) pa_nil)))), ?_⟩
  rcases h with ⟨x, rfl, hx, q⟩ | ⟨t, ty, kt, q⟩
  · refine ⟨fun b H' => b = !(decide (1 ≤ x.length) && decide (x.length ≤ 8)) ∧
      H = H', ?_, ?_⟩
    · refine ⟨_, rfl, _, _, _, _, true, rfl, .ty "str", .base (.str x),
        kit_ty (by decide +kernel), _, rfl, iteF ?_⟩
      refine ⟨_, rfl, x, rfl, hx, _, _, rfl, rfl, _, rfl, ite2 (fun c => ?_)
        (fun c => ?_)⟩
      · have c' : (1 : Int) ≤ x.length := of_decide_eq_true c
        refine ⟨_, _, rfl, rfl, _, rfl, ?_, rfl⟩
        rw [decide_eq_true (show 1 ≤ x.length by omega), Bool.true_and]
        congr 1
        exact decide_eq_decide.mpr ⟨fun z => by omega, fun z => by omega⟩
      · refine ⟨_, rfl, ?_, rfl⟩
        rw [decide_eq_false (show ¬ 1 ≤ x.length from fun z =>
          c (decide_eq_true (by omega)))]
        rfl
    · rintro b _ ⟨rfl, rfl⟩
      by_cases c : 1 ≤ x.length ∧ x.length ≤ 8
      · rw [decide_eq_true c.1, decide_eq_true c.2]
        refine iteF ⟨_, rfl, x, rfl, fun D nD => ?_⟩
        refine lc_it walk_str (fun i H' => H' D = some (.lst
          (((x.cps.toList.take i).map azB).map V.bl)) ∧ Same H H')
          ⟨upd_same, sameNew nD⟩ (fun _ _ _ _ => trivial) ?_ ?_
        · rintro i v _ H1 hi ⟨hD, sm⟩ ⟨rfl, c0, hc, rfl⟩
          have hc' : x.cps.toList[i]? = some c0 := by
            rw [Array.getElem?_toList]; exact hc
          refine ⟨rfl, yes ⟨fun v H' => v = .bl (azB c0) ∧ H1 = H', ?_, ?_⟩⟩
          · refine ⟨_, rfl, _, _, rfl, rfl, _, rfl, ite2 (fun z => ?_)
              (fun z => ?_)⟩
            · refine ⟨_, _, rfl, rfl, ?_, rfl⟩
              have z' : ¬ c0 < 97 := by
                rw [show (Str.ofString "a").cps.toList = [97] by
                  decide +kernel, lt1] at z
                simpa using z
              rw [show (Str.ofString "z").cps.toList = [122] by
                decide +kernel, lt1]
              unfold azB
              rw [decide_eq_true (show 97 ≤ c0 by omega), Bool.true_and]
              congr 1
              by_cases y : c0 ≤ 122
              · rw [decide_eq_true y, decide_eq_false (by omega)]
                rfl
              · rw [decide_eq_false y, decide_eq_true (by omega)]
                rfl
            · refine ⟨?_, rfl⟩
              have z' : c0 < 97 := by
                rw [show (Str.ofString "a").cps.toList = [97] by
                  decide +kernel, lt1] at z
                simpa using z
              unfold azB
              rw [decide_eq_false (show ¬ 97 ≤ c0 by omega)]
              rfl
          · rintro v _ ⟨rfl, rfl⟩
            refine ⟨_, hD, ?_, ?_, ?_⟩
            · rw [List.length_map, List.length_map, List.length_take]
              refine sz' ?_
              have : x.length = x.cps.toList.length := TL.len_tl x
              omega
            · rw [upd_same, List.take_add_one, hc', List.map_append,
                List.map_append]
              rfl
            · exact OM.Same.put sm nD
        · rintro H1 ⟨hD, sm⟩
          rw [List.take_of_length_le (by
            rw [Array.length_toList]; exact Nat.le_refl _)] at hD
          refine ⟨D, _, rfl, SqL.of hD, ?_⟩
          rw [all_az]
          have := q H1 sm
          unfold nmB at this
          rw [← TL.len_tl x] at this
          rw [decide_eq_true c.1, decide_eq_true c.2, Bool.true_and,
            Bool.true_and] at this
          exact this
      · have e : (decide (1 ≤ x.length) && decide (x.length ≤ 8)) = false := by
          by_cases c1 : 1 ≤ x.length
          · rw [decide_eq_false (show ¬ x.length ≤ 8 from fun z => c ⟨c1, z⟩)]
            exact Bool.and_false _
          · rw [decide_eq_false c1]
            exact Bool.false_and _
        rw [e]
        refine iteT ?_
        have := q H (Same.refl H)
        unfold nmB at this
        rw [← TL.len_tl x, e, Bool.false_and] at this
        exact this
  · refine ⟨fun b H' => b = true ∧ H = H', ?_, ?_⟩
    · exact ⟨_, rfl, _, _, _, _, false, rfl, .ty "str", ty, kt, _, rfl,
        iteT ⟨rfl, rfl⟩⟩
    · rintro b _ ⟨rfl, rfl⟩
      exact iteT q
end
end OM
namespace OM
open PySem PySem.Spec PyProof.Rows L2
/-- what makes a base -/
structure Good (ls : List (List Nat)) : Prop where
  nm : ∀ l ∈ ls, Nm l
  nd : ls.Nodup
  lo : 1 ≤ ls.length
  hi : ls.length ≤ 40
theorem Nm.len {l : List Nat} (n : Nm l) : (SX.S l).length ≤ sizeLine := by
  rw [SX.S_len]
  have := n.hi
  exact sz (by omega)
theorem Nm.b {l : List Nat} (n : Nm l) : nmB (SX.S l).cps.toList = true :=
  nmB_iff.mpr n
theorem get_map {ls : List (List Nat)} {i : Nat} {v : V}
    (h : (ls.map vS)[i]? = some v) : ∃ l, ls[i]? = some l ∧ v = vS l := by
  rw [List.getElem?_map] at h
  cases e : ls[i]? with
  | none => rw [e] at h; cases h
  | some l => rw [e] at h; exact ⟨l, rfl, (Option.some.inj h).symm⟩
theorem nodup_take {α : Type} {ls : List α} {i : Nat} {l : α}
    (nd : ls.Nodup) (h : ls[i]? = some l) : l ∉ ls.take i := by
  intro hm
  obtain ⟨j, hj, e⟩ := List.getElem_of_mem hm
  rw [List.length_take] at hj
  rw [List.getElem_take] at e
  obtain ⟨hi, e2⟩ := List.getElem?_eq_some_iff.mp h
  have := (List.getElem_inj nd).mp (e.trans e2.symm)
  omega
def spCheckOk : Sp := fun vs H Q _ => ∃ (a : Addr) (ls : List (List Nat)),
  vs = [.ref a] ∧ H a = some (.lst (ls.map vS)) ∧ Good ls ∧
  ∀ H', Same H H' → Q .non H'
def spNFaultOk : Sp := fun vs H Q _ => ∃ (a : Addr) (ls : List (List Nat)),
  vs = [.ref a, .int 40] ∧ H a = some (.lst (ls.map vS)) ∧ Good ls ∧
  ∀ H', Same H H' → Q .non H'
section
variable {P : Program} {w : World} {K : PySem.W.Frag}
  {mg : Str → Option Value} {base : Heap}
abbrev CalIsName (P : Program) (w : World) (K : PySem.W.Frag)
    (mg : Str → Option Value) (base : Heap) (k : Nat) : Prop :=
  Cal P w K mg base k "is_name" ["value"] (spIsName K)
theorem ok_nfault {f : Addr} {fd : FuncData} {k : Nat}
    (F : Fun K "names_fault" "names_fault" s_names_fault f fd) (B : Bl mg)
    (C : CalIsName P w K mg base k) :
    FnOk P w K mg base CX0 (k + 1) f fd ["value", "most"] spNFaultOk := by
  refine F.ok sc_names_fault (fun vs H Q E h => ?_)
    (fun cv A outer s H vs Q E hr h => ?_)
  · obtain ⟨a, ls, rfl, _⟩ := h
    rfl
  obtain ⟨a, ls, rfl, ha, gd, q⟩ := h
  have nd := sc_names_fault.nd
  refine ⟨_, pss_cons (ps_if (pt_not (pt_val
      (pe_callB call_isi (by rfl) B.isi bt_isi (pa_cons (pv 0) (pa_cons
        (pe_bltn (v := .ty "list") (by rfl) B.list bt_list rfl) pa_nil)))))
      (pss_one ps_never) pss_nil)
    (pss_cons (ps_set (i := 2) nd rfl (.inl rfl)
      (pe_callTy0 cr_set0K (by rfl) B.set bt_set))
    (pss_cons (ps_for PassesOwn.never rfl
      (pi_enum (by rfl) B.enum (pa_cons (pv 0) pa_nil))
      (pg_tup rfl (pgs_cons (pg_name (i := 3) nd rfl (.inl rfl))
        (pgs_cons (pg_name (i := 4) nd rfl (.inl rfl)) pgs_nil)))
      (pss_cons (ps_if (pt_not (pt_val (pe_cal C hr (pa_cons (pv 4) pa_nil))))
        (pss_one ps_never) pss_nil)
      (pss_cons (ps_if (pt_cmpR or_sinK (pv 4) (pv 2) (by rfl))
        (pss_one ps_never) pss_nil)
      (pss_one (ps_expr (pe_saddK (pv 2) (pa_cons (pv 4) pa_nil)))))))
    (pss_cons (ps_if (pt_not (pt_chain op_le op_le pe_int
        (pe_callB call_len_seq (by rfl) B.len PySem.boot_len
          (pa_cons (pv 0) pa_nil)) (pv 1)))
      (pss_one ps_never) pss_nil)
    (pss_one (ps_ret pe_non))))), ?_⟩
  refine ⟨_, rfl, _, _, _, _, true, rfl, .ty "list", .base (.lst ha),
    kit_ty (by decide +kernel), _, rfl, iteF ?_⟩
  refine ⟨rfl, fun sn nsn => ?_⟩
  have nas : a ≠ sn := ne_of_none ha nsn
  have ha1 : (upd H sn (SetK P w sn (fun _ => false) 0)) a =
      some (.lst (ls.map vS)) := by rw [upd_ne nas]; exact ha
  refine ⟨_, rfl, a, _, rfl, SqL.of ha1, ?_⟩
  refine for_it (walk_enum (K := K) (a := a) (xs := ls.map vS))
    (fun i σ H' => ∃ (S : Key → Bool) (n : Nat) (y z : Option V),
      σ = [some (.ref a), some (.int 40), some (.ref sn), y, z] ∧ n ≤ i ∧
      (∀ l, S (Sum.inr (SX.S l)) = decide (l ∈ ls.take i)) ∧
      H' sn = some (SetK P w sn S n) ∧ H' a = some (.lst (ls.map vS)) ∧
      Same H H')
    ⟨fun _ => false, 0, none, none, rfl, Nat.le_refl _, fun l => by simp,
      upd_same, ha1, sameNew nsn⟩
    (fun i σ H' _ z => by obtain ⟨_, _, _, _, _, _, _, _, h, _⟩ := z; exact SqL.of h)
    ?_ ?_
  · rintro i v σ H1 H2 hi ⟨S, n, y, z, rfl, hn, hS, hs, ha2, sm⟩
      ⟨T, x1, x2, rfl, nT, rfl, e1, e2⟩
    obtain ⟨l, hl, rfl⟩ := get_map e2
    cases Option.some.inj e1
    rw [List.length_map] at hi
    have nl : Nm l := gd.nm l (List.mem_of_getElem? hl)
    have nTs : sn ≠ T := ne_of_none hs nT
    have nTa : a ≠ T := ne_of_none ha2 nT
    have sm1 : Same H (upd H1 T (.tup [.int (i : Nat), vS l])) :=
      sm.trans (sameNew nT)
    have nin : l ∉ ls.take i := nodup_take gd.nd hl
    refine ⟨T, _, rfl, .inl (.inl upd_same), rfl, _, _, rfl, _, _, rfl, rfl,
      ?_⟩
    refine ⟨_, rfl, _, rfl, .inl ⟨_, rfl, nl.len, fun H3 sm3 => ?_⟩⟩
    rw [nl.b]
    have hs3 : H3 sn = some (SetK P w sn S n) :=
      sm3 _ _ (by rw [upd_ne nTs]; exact hs)
    have ha3 : H3 a = some (.lst (ls.map vS)) :=
      sm3 _ _ (by rw [upd_ne nTa]; exact ha2)
    refine ⟨_, rfl, iteF ?_⟩
    refine ⟨_, rfl, _, rfl, Sum.inr (SX.S l), sn, S, n, rfl, rfl, hs3, _, rfl,
      ?_⟩
    have sf : S (Sum.inr (SX.S l)) = false := by
      rw [hS]; exact decide_eq_false nin
    rw [sf]
    refine iteF ?_
    refine ⟨_, rfl, ⟨sn, S, n, rfl, hs3⟩, _, rfl, sn, Sum.inr (SX.S l), S, n,
      rfl, rfl, hs3, ?_, ?_⟩
    · have := gd.hi
      show n + 1 < 4096
      omega
    refine ⟨_, _, _, _, rfl, ?_, ?_, upd_same, ?_, ?_⟩
    · rw [sf]
      show n + 1 ≤ i + 1
      omega
    · intro l'
      show (S (Sum.inr (SX.S l')) || decide ((Sum.inr (SX.S l') : Key) =
        Sum.inr (SX.S l))) = _
      rw [hS, List.take_add_one, hl]
      by_cases e : l' = l
      · subst e
        simp
      · have : ¬ ((Sum.inr (SX.S l') : Key) = Sum.inr (SX.S l)) :=
          fun z => e (SX.S_inj (Sum.inr.inj z))
        rw [decide_eq_false this, Bool.or_false]
        refine decide_eq_decide.mpr ?_
        rw [List.mem_append]
        constructor
        · exact Or.inl
        · rintro (z | z)
          · exact z
          · exact absurd (by simpa using z) e
    · rw [upd_ne nas]
      exact ha3
    · exact OM.Same.put (sm1.trans sm3) nsn
  · rintro σ H1 ⟨S, n, y, z, rfl, hn, hS, hs, ha2, sm⟩
    have h1 := gd.lo
    have h2 := gd.hi
    refine ⟨_, rfl, a, _, rfl, .inl (SqL.of ha2), _, _, rfl, rfl, _, rfl, ?_⟩
    rw [List.length_map, decide_eq_true (show (1 : Int) ≤ ls.length by omega)]
    refine iteT ⟨_, rfl, _, _, rfl, rfl, _, rfl, ?_⟩
    rw [decide_eq_true (show (ls.length : Int) ≤ 40 by omega)]
    exact iteF (q H1 sm)
theorem ok_check {f : Addr} {fd : FuncData} {k : Nat}
    (F : Fun K "check_items" "check_items" s_check_items f fd)
    (Cf : Cal P w K mg base k "names_fault" ["value", "most"] spNFaultOk)
    {t40 : Tok} (m40 : mg "MAX_ITEMS" = some (.int 40 t40)) :
    FnOk P w K mg base CX0 (k + 1) f fd ["items"] spCheckOk := by
  refine F.ok sc_check_items (fun vs H Q E h => ?_)
    (fun cv A outer s H vs Q E hr h => ?_)
  · obtain ⟨a, ls, rfl, _⟩ := h
    rfl
  obtain ⟨a, ls, rfl, ha, gd, q⟩ := h
  have nd := sc_check_items.nd
  refine ⟨_, pss_cons (ps_set (i := 1) nd rfl (.inl rfl)
      (pe_cal Cf hr (pa_cons (pv 0) (pa_cons
        (pe_glob (v := .int 40) (by rfl) m40 ⟨_, rfl⟩) pa_nil))))
    (pss_one (ps_if (pt_cmpR op_notN (pv 1) pe_non (nomark _))
      (pss_cons ps_never (pss_one ps_never)) pss_nil)), ?_⟩
  exact ⟨_, rfl, a, ls, rfl, ha, gd, fun H1 s1 =>
    ⟨_, rfl, rfl, _, rfl, iteF (q H1 s1)⟩⟩
end
end OM
namespace OM
open PySem PySem.Spec PyProof.Rows L2
/-! ### the first problem of a list -/
def tx : V → Option (List Nat)
  | .str x => some x.cps.toList
  | _ => none
def jd : List (List Nat) → Nat → List (Option (List Nat)) → Option (Str × Nat)
  | _, _, [] => none
  | _, i, none :: _ => some ("name", i)
  | seen, i, some l :: r =>
    if nmB l = true then
      if l ∈ seen then some ("duplicate", i) else jd (seen ++ [l]) (i + 1) r
    else some ("name", i)
def judge (xs : List V) : Option (Str × Nat) :=
  match jd [] 0 (xs.map tx) with
  | some r => some r
  | none => if 1 ≤ xs.length ∧ xs.length ≤ 40 then none else some ("count", 0)
/-- a value that is_name tells: a text, or one of another type -/
def Elt (K : PySem.W.Frag) (H : Hp) (v : V) : Prop :=
  (∃ l, v = vS l ∧ l.length ≤ 10000) ∨
  (∃ t, TyX K H v t ∧ PySem.W.kitOne K t (.type "str") = some false ∧
    tx v = none)
theorem TyOf.same {K : PySem.W.Frag} {H H' : Hp} {v : V} {t : Value}
    (h : TyOf K H v t) (s : Same H H') : TyOf K H' v t := by
  cases h with
  | non => exact .non
  | bl x => exact .bl x
  | int i => exact .int i
  | str x => exact .str x
  | flt x => exact .flt x
  | lst e => exact .lst (s _ _ e)
  | frz e => exact .frz (s _ _ e)
  | tup e => exact .tup (s _ _ e)
  | dK e => exact .dK (s _ _ e)
  | dT e => exact .dT (s _ _ e)
  | ins e cl ha hn ht hm => exact .ins (s _ _ e) cl ha hn ht hm
/-- the types that are asked about, and stay -/
def TyS (K : PySem.W.Frag) (H : Hp) (v : V) (t : Value) : Prop := TyOf K H v t
/-- InvalidBase leaves -/
def IbOut (C : Addr) (H : Hp) (E : XK) (r : Str × Nat) : Prop :=
  ∀ d H', H d = none → H' d = some (.xd [("position", .int (r.2 : Nat)),
    ("problem", .str r.1)]) → Same H H' → E (.ref C) (some d) H'
theorem IbOut.back {C : Addr} {H H1 : Hp} {E : XK} {r : Str × Nat}
    (h : IbOut C H E r) (s : Same H H1) : IbOut C H1 E r :=
  fun d H' n e s' => h d H' (s.free n) e (s.trans s')
def Elt1 (K : PySem.W.Frag) (H : Hp) (v : V) : Prop :=
  (∃ l, v = vS l ∧ l.length ≤ 10000) ∨
  (∃ t, TyOf K H v t ∧ PySem.W.kitOne K t (.type "str") = some false ∧
    tx v = none)
theorem Elt1.same {K : PySem.W.Frag} {H H' : Hp} {v : V}
    (h : Elt1 K H v) (s : Same H H') : Elt1 K H' v := by
  rcases h with h | ⟨t, a, b, c⟩
  · exact .inl h
  · exact .inr ⟨t, OM.TyOf.same a s, b, c⟩
/-- names_fault tells a problem -/
def NfOut (H : Hp) (Q : V → Hp → Prop) (r : Str × Nat) : Prop :=
  ∀ t H', H' t = some (.tup [.str r.1, .int (r.2 : Nat)]) → Same H H' →
    Q (.ref t) H'
theorem NfOut.back {H H1 : Hp} {Q : V → Hp → Prop} {r : Str × Nat}
    (h : NfOut H Q r) (s : Same H H1) : NfOut H1 Q r :=
  fun t H' e s' => h t H' e (s.trans s')
/-- names_fault, whatever it is given -/
def spNfX (K : PySem.W.Frag) : Sp := fun vs H Q _ =>
  ∃ v, vs = [v, .int 40] ∧
  ((∃ t, TyOf K H v t ∧ PySem.W.kitOne K t (.type "list") = some false ∧
      NfOut H Q ("list", 0)) ∨
   (∃ a xs, v = .ref a ∧ H a = some (.lst xs) ∧ (∀ x ∈ xs, Elt1 K H x) ∧
      xs.length ≤ 1000 ∧
      (∀ r, judge xs = some r → NfOut H Q r) ∧
      (judge xs = none → ∀ H', Same H H' → Q .non H')))
/-- check_items, whatever it is given -/
def spCheckX (K : PySem.W.Frag) (C : Addr) : Sp := fun vs H Q E =>
  ∃ v, vs = [v] ∧
  ((∃ t, TyOf K H v t ∧ PySem.W.kitOne K t (.type "list") = some false ∧
      IbOut C H E ("list", 0)) ∨
   (∃ a xs, v = .ref a ∧ H a = some (.lst xs) ∧ (∀ x ∈ xs, Elt1 K H x) ∧
      xs.length ≤ 1000 ∧
      (∀ r, judge xs = some r → IbOut C H E r) ∧
      (judge xs = none → ∀ H', Same H H' → Q .non H')))
theorem jd_step {ls : List (List Nat)} {l : List Nat} {i : Nat}
    {r : List (Option (List Nat))} (h1 : nmB l = true) (h2 : l ∉ ls) :
    jd ls i (some l :: r) = jd (ls ++ [l]) (i + 1) r := by
  show (if nmB l = true then _ else _) = _
  rw [if_pos h1, if_neg h2]
theorem drop_cons {α : Type} {xs : List α} {i : Nat} {x : α}
    (h : xs[i]? = some x) : xs.drop i = x :: xs.drop (i + 1) := by
  obtain ⟨hi, e⟩ := List.getElem?_eq_some_iff.mp h
  rw [List.drop_eq_getElem_cons hi, e]
section
variable {P : Program} {w : World} {K : PySem.W.Frag}
  {mg : Str → Option Value} {base : Heap} {CI : Addr}
/-- self.problem = problem; self.position = position -/
theorem ok_ibinit {f : Addr} {fd : FuncData} {k : Nat} {q : Str}
    (F : Fun K "__init__" q s_InvalidBase_init f fd) (T : OexC K CI)
    (n1 : PySem.W.findIn K (.ref CI) "problem" = some none)
    (n2 : PySem.W.findIn K (.ref CI) "position" = some none) :
    FnOk P w K mg base CX0 (k + 1) f fd ["self", "problem", "position"]
      (spX2 CI "problem" "position") := by
  refine F.ok sc_InvalidBase_init (fun vs H Q E h => ?_)
    (fun cv A outer s H vs Q E hr h => ?_)
  · obtain ⟨a, v1, v2, rfl, _⟩ := h
    rfl
  obtain ⟨a, v1, v2, rfl, ha, q⟩ := h
  refine ⟨_, pss_cons (ps_ost (pv 0) (pv 1)) (pss_one (ps_ost (pv 0) (pv 2))),
    ?_⟩
  refine ⟨_, rfl, _, rfl, a, CI, rfl, T, n1, .inl ⟨ha, fun dx nd ne => ?_⟩⟩
  refine ⟨_, rfl, _, rfl, a, CI, rfl, T, n2, .inr ⟨dx,
    [("problem", v1)], upd_same, ?_, ?_, ?_⟩⟩
  · rw [upd_ne ne, upd_same]
  · simp
  · exact q dx nd ne
theorem ok_nfaultX {f : Addr} {fd : FuncData} {k : Nat}
    (F : Fun K "names_fault" "names_fault" s_names_fault f fd) (B : Bl mg)
    (C : CalIsName P w K mg base k) :
    FnOk P w K mg base CX0 (k + 1) f fd ["value", "most"] (spNfX K) := by
  refine F.ok sc_names_fault (fun vs H Q E h => ?_)
    (fun cv A outer s H vs Q E hr h => ?_)
  · obtain ⟨v, rfl, _⟩ := h
    rfl
  obtain ⟨v, rfl, h⟩ := h
  have nd := sc_names_fault.nd
  refine ⟨_, pss_cons (ps_if (pt_not (pt_val
      (pe_callB call_isi (by rfl) B.isi bt_isi (pa_cons (pv 0) (pa_cons
        (pe_bltn (v := .ty "list") (by rfl) B.list bt_list rfl) pa_nil)))))
      (pss_one (ps_ret (pe_tup (pa_cons pe_str (pa_cons pe_int pa_nil))))) pss_nil)
    (pss_cons (ps_set (i := 2) nd rfl (.inl rfl)
      (pe_callTy0 cr_set0K (by rfl) B.set bt_set))
    (pss_cons (ps_for PassesOwn.never rfl
      (pi_enum (by rfl) B.enum (pa_cons (pv 0) pa_nil))
      (pg_tup rfl (pgs_cons (pg_name (i := 3) nd rfl (.inl rfl))
        (pgs_cons (pg_name (i := 4) nd rfl (.inl rfl)) pgs_nil)))
      (pss_cons (ps_if (pt_not (pt_val (pe_cal C hr (pa_cons (pv 4) pa_nil))))
        (pss_one (ps_ret (pe_tup (pa_cons pe_str (pa_cons (pv 3) pa_nil))))) pss_nil)
      (pss_cons (ps_if (pt_cmpR or_sinK (pv 4) (pv 2) (by rfl))
        (pss_one (ps_ret (pe_tup (pa_cons pe_str (pa_cons (pv 3) pa_nil))))) pss_nil)
      (pss_one (ps_expr (pe_saddK (pv 2) (pa_cons (pv 4) pa_nil)))))))
    (pss_cons (ps_if (pt_mid (pt_not (pt_chain op_le op_le pe_int
        (pe_callB call_len_seq (by rfl) B.len PySem.boot_len
          (pa_cons (pv 0) pa_nil)) (pv 1))))
      (pss_one (ps_ret (pe_tup (pa_cons pe_str (pa_cons pe_int pa_nil)))))
      pss_nil) (pss_one (ps_ret pe_non))))), ?_⟩
  rcases h with ⟨t, ty, kt, out⟩ | ⟨a, xs, rfl, ha, el, hx, bad, good⟩
  · refine ⟨_, rfl, _, _, _, _, false, rfl, .ty "list", .base ty, kt, _, rfl,
      iteT ⟨sz (by simp), fun t nt => ?_⟩⟩
    exact out t _ upd_same (sameNew nt)
  refine ⟨_, rfl, _, _, _, _, true, rfl, .ty "list", .base (.lst ha),
    kit_ty (by decide +kernel), _, rfl, iteF ?_⟩
  refine ⟨rfl, fun sn nsn => ?_⟩
  have nas : a ≠ sn := ne_of_none ha nsn
  have ha1 : (upd H sn (SetK P w sn (fun _ => false) 0)) a = some (.lst xs) := by
    rw [upd_ne nas]; exact ha
  refine ⟨_, rfl, a, _, rfl, SqL.of ha1, ?_⟩
  refine for_it (walk_enum (K := K) (a := a) (xs := xs))
    (fun i σ H' => ∃ (ls : List (List Nat)) (S : Key → Bool) (n : Nat)
      (y z : Option V),
      σ = [some (.ref a), some (.int 40), some (.ref sn), y, z] ∧ n ≤ i ∧ ls.length = i ∧
      xs.take i = ls.map vS ∧ (∀ l ∈ ls, nmB l = true) ∧
      jd [] 0 (xs.map tx) = jd ls i ((xs.drop i).map tx) ∧
      (∀ l, S (Sum.inr (SX.S l)) = decide (l ∈ ls)) ∧
      H' sn = some (SetK P w sn S n) ∧ H' a = some (.lst xs) ∧ Same H H')
    ⟨[], fun _ => false, 0, none, none, rfl, Nat.le_refl _, rfl, rfl, nofun, rfl,
      fun l => by simp, upd_same, ha1, sameNew nsn⟩
    (fun i σ H' _ z => by
      obtain ⟨_, _, _, _, _, _, _, _, _, _, _, _, _, h, _⟩ := z
      exact SqL.of h)
    ?_ ?_
  · rintro i v σ H1 H2 hi ⟨ls, S, n, y, z, rfl, hn, ll, tk, nml, jde, hS, hs,
      ha2, sm⟩ ⟨T, x1, x2, rfl, nT, rfl, e1, e2⟩
    cases Option.some.inj e1
    have nTs : sn ≠ T := ne_of_none hs nT
    have nTa : a ≠ T := ne_of_none ha2 nT
    have sm1 : Same H (upd H1 T (.tup [.int (i : Nat), x2])) :=
      sm.trans (sameNew nT)
    have dc := drop_cons e2
    rw [dc, List.map_cons] at jde
    have judg : ∀ r, jd ls i (tx x2 :: (xs.drop (i + 1)).map tx) = some r →
        judge xs = some r := fun r hr => by
      unfold judge
      rw [jde, hr]
    have hname : ∀ H3, Same (upd H1 T (.tup [.int (i : Nat), x2])) H3 →
        jd ls i (tx x2 :: (xs.drop (i + 1)).map tx) = some (("name" : Str), i) →
        NfOut H3 Q ("name", i) := fun H3 s3 hj =>
      (bad _ (judg _ hj)).back (sm1.trans s3)
    refine ⟨T, _, rfl, .inl (.inl upd_same), rfl, _, _, rfl, _, _, rfl, rfl,
      ?_⟩
    rcases (el x2 (List.mem_of_getElem? e2)) with ⟨l, rfl, hl⟩ | ⟨t, ty, kt, tn⟩
    · have ell : (SX.S l).length ≤ sizeLine := by
        rw [SX.S_len]; exact sz (by omega)
      refine ⟨_, rfl, _, rfl, .inl ⟨_, rfl, ell, fun H3 s3 => ?_⟩⟩
      have hs3 : H3 sn = some (SetK P w sn S n) :=
        s3 _ _ (by rw [upd_ne nTs]; exact hs)
      have ha3 : H3 a = some (.lst xs) :=
        s3 _ _ (by rw [upd_ne nTa]; exact ha2)
      cases nb : nmB l with
      | false =>
        refine ⟨_, rfl, iteT ⟨_, rfl, sz (by simp), fun t nt => ?_⟩⟩
        refine hname H3 s3 ?_ t _ upd_same (sameNew nt)
        show (if nmB l = true then _ else _) = _
        rw [if_neg (by rw [nb]; exact Bool.false_ne_true)]
      | true =>
        refine ⟨_, rfl, iteF ?_⟩
        refine ⟨_, rfl, _, rfl, Sum.inr (SX.S l), sn, S, n, rfl, rfl, hs3, _, rfl,
          ?_⟩
        by_cases ml : l ∈ ls
        · have st : S (Sum.inr (SX.S l)) = true := by
            rw [hS]; exact decide_eq_true ml
          rw [st]
          refine iteT ⟨_, rfl, sz (by simp), fun t nt => ?_⟩
          refine (bad ("duplicate", i) (judg _ ?_)).back (sm1.trans s3) t _
            upd_same (sameNew nt)
          show (if nmB l = true then _ else _) = _
          rw [if_pos nb, if_pos ml]
        · have sf : S (Sum.inr (SX.S l)) = false := by
            rw [hS]; exact decide_eq_false ml
          rw [sf]
          refine iteF ?_
          refine ⟨_, rfl, ⟨sn, S, n, rfl, hs3⟩, _, rfl, sn, Sum.inr (SX.S l), S,
            n, rfl, rfl, hs3, ?_, ?_⟩
          · show n + 1 < 4096
            omega
          refine ⟨ls ++ [l], _, _, _, _, rfl, ?_, ?_, ?_, ?_, ?_, ?_, upd_same,
            ?_, ?_⟩
          · rw [sf]
            show n + 1 ≤ i + 1
            omega
          · rw [List.length_append, ll]
            rfl
          · rw [List.take_add_one, show xs[i]? = some (vS l) from e2, tk,
              List.map_append]
            rfl
          · intro x hx
            rcases List.mem_append.mp hx with h | h
            · exact nml x h
            · rw [List.mem_singleton.mp h]
              exact nb
          · rw [jde]
            exact jd_step nb ml
          · intro l'
            show (S (Sum.inr (SX.S l')) || decide ((Sum.inr (SX.S l') : Key) =
              Sum.inr (SX.S l))) = _
            rw [hS]
            by_cases e : l' = l
            · subst e
              simp
            · have : ¬ ((Sum.inr (SX.S l') : Key) = Sum.inr (SX.S l)) :=
                fun z => e (SX.S_inj (Sum.inr.inj z))
              rw [decide_eq_false this, Bool.or_false]
              refine decide_eq_decide.mpr ?_
              rw [List.mem_append]
              constructor
              · exact Or.inl
              · rintro (z | z)
                · exact z
                · exact absurd (List.mem_singleton.mp z) e
          · rw [upd_ne nas]
            exact ha3
          · exact OM.Same.put (sm1.trans s3) nsn
    · refine ⟨_, rfl, _, rfl, .inr ⟨t, .base (OM.TyOf.same ty sm1), kt, ?_⟩⟩
      refine ⟨_, rfl, iteT ⟨_, rfl, sz (by simp), fun t nt => ?_⟩⟩
      refine hname _ (Same.refl _) ?_ t _ upd_same (sameNew nt)
      rw [tn]
      rfl
  · rintro σ H1 ⟨ls, S, n, y, z, rfl, hn, ll, tk, nml, jde, hS, hs, ha2, sm⟩
    rw [List.drop_length] at jde
    have jn : jd [] 0 (xs.map tx) = none := jde
    refine ⟨fun b H' => b = !(decide (1 ≤ xs.length) && decide (xs.length ≤ 40))
      ∧ H1 = H', ?_, ?_⟩
    · refine ⟨_, rfl, a, _, rfl, .inl (SqL.of ha2), _, _, rfl, rfl, _, rfl,
        ite2 (fun c => ?_) (fun c => ?_)⟩
      · have c' : (1 : Int) ≤ xs.length := of_decide_eq_true c
        refine ⟨_, rfl, _, _, rfl, rfl, _, rfl, ?_, rfl⟩
        rw [decide_eq_true (show 1 ≤ xs.length by omega), Bool.true_and]
        congr 1
        exact decide_eq_decide.mpr ⟨fun z => by omega, fun z => by omega⟩
      · refine ⟨_, rfl, ?_, rfl⟩
        rw [decide_eq_false (show ¬ 1 ≤ xs.length from fun z =>
          c (decide_eq_true (by omega)))]
        rfl
    · rintro b _ ⟨rfl, rfl⟩
      by_cases c : 1 ≤ xs.length ∧ xs.length ≤ 40
      · rw [decide_eq_true c.1, decide_eq_true c.2]
        refine iteF (good ?_ H1 sm)
        unfold judge
        rw [jn]
        exact if_pos c
      · have e : (decide (1 ≤ xs.length) && decide (xs.length ≤ 40)) = false := by
          by_cases c1 : 1 ≤ xs.length
          · rw [decide_eq_false (show ¬ xs.length ≤ 40 from fun z => c ⟨c1, z⟩)]
            exact Bool.and_false _
          · rw [decide_eq_false c1]
            exact Bool.false_and _
        rw [e]
        refine iteT ⟨sz (by simp), fun t nt => ?_⟩
        refine (bad ("count", 0) ?_).back sm t _ upd_same (sameNew nt)
        unfold judge
        rw [jn]
        exact if_neg c
theorem ok_checkX {f : Addr} {fd : FuncData} {k j : Nat}
    (F : Fun K "check_items" "check_items" s_check_items f fd)
    (Cf : Cal P w K mg base k "names_fault" ["value", "most"] (spNfX K))
    (M : XMk P w K mg base CI j "InvalidBase"
      ["self", "problem", "position"] (spX2 CI "problem" "position"))
    (hj : j + 1 ≤ k)
    {t40 : Tok} (m40 : mg "MAX_ITEMS" = some (.int 40 t40)) :
    FnOk P w K mg base (L2.CX P w) (k + 1) f fd ["items"]
      (spCheckX K CI) := by
  refine Fun.okX F sc_check_items (fun vs H Q E h => ?_)
    (fun cv A outer s H vs Q E hr h => ?_)
  · obtain ⟨v, rfl, _⟩ := h
    rfl
  obtain ⟨v, rfl, h⟩ := h
  have nd := sc_check_items.nd
  have hrj := hr.mono hj
  refine ⟨_, pss_cons (ps_set (i := 1) nd rfl (.inl rfl)
      (pe_cal Cf hr (pa_cons (pv 0) (pa_cons
        (pe_glob (v := .int 40) (by rfl) m40 ⟨_, rfl⟩) pa_nil))))
    (pss_one (ps_if (pt_cmpR op_notN (pv 1) pe_non (nomark _))
      (pss_cons (ps_asg (pv 1) (pg_tup rfl
        (pgs_cons (pg_name (i := 2) nd rfl (.inl rfl))
        (pgs_cons (pg_name (i := 3) nd rfl (.inl rfl)) pgs_nil))))
      (pss_one (ps_raise2 M hrj rfl (takes_of rfl rfl rfl rfl)
        (pa_cons (pv 2) (pa_cons (pv 3) pa_nil))))) pss_nil)), ?_⟩
  refine ⟨_, rfl, v, rfl, ?_⟩
  rcases h with ⟨t, ty, kt, out⟩ | ⟨a, xs, rfl, ha, el, hx, bad, good⟩
  · exact .inl ⟨t, ty, kt, fun T H1 e s => ⟨_, rfl, rfl, _, rfl, iteT ⟨_, rfl,
      T, _, rfl, .inl (.inl e), rfl, _, _, rfl, _, _, rfl, rfl, _, rfl, _, rfl,
      _, _, rfl, fun d H' n e' s' => out d H' (s.free n) e' (s.trans s')⟩⟩⟩
  · exact .inr ⟨a, xs, rfl, ha, el, hx, fun r hr T H1 e s => ⟨_, rfl, rfl, _,
      rfl, iteT ⟨_, rfl, T, _, rfl, .inl (.inl e), rfl, _, _, rfl, _, _, rfl, rfl,
      _, rfl, _, rfl, _, _, rfl, fun d H' n e' s' =>
      bad r hr d H' (s.free n) e' (s.trans s')⟩⟩,
      fun jn H1 s1 => ⟨_, rfl, rfl, _, rfl, iteF (good jn H1 s1)⟩⟩
end
end OM
namespace OM
open PySem PySem.Spec PyProof.Rows L2
/-! ### what a base holds -/
def prs : Nat → List (List Nat) → List (Key × V)
  | _, [] => []
  | n, l :: r => (Sum.inr (SX.S l), .int (n : Int)) :: prs (n + 1) r
theorem prs_len : ∀ (n : Nat) (ls : List (List Nat)),
    (prs n ls).length = ls.length
  | _, [] => rfl
  | n, _ :: r => congrArg (· + 1) (prs_len (n + 1) r)
theorem prs_snoc : ∀ (n : Nat) (ls : List (List Nat)) (l : List Nat),
    prs n (ls ++ [l]) =
      prs n ls ++ [(Sum.inr (SX.S l), .int ((n + ls.length : Nat) : Int))]
  | n, [], l => rfl
  | n, x :: r, l => by
    have ih := prs_snoc (n + 1) r l
    show (Sum.inr (SX.S x), V.int (n : Int)) :: prs (n + 1) (r ++ [l]) = _
    rw [ih, List.length_cons, show n + 1 + r.length = n + (r.length + 1) by
      omega]
    rfl
theorem val_prs (l : List Nat) : ∀ (n : Nat) (ls : List (List Nat)),
    valV (prs n ls) (Sum.inr (SX.S l) : Key) =
      if l ∈ ls then some (.int ((n + ls.idxOf l : Nat) : Int)) else none
  | n, [] => rfl
  | n, x :: r => by
    have ih := val_prs l (n + 1) r
    by_cases e : x = l
    · subst e
      rw [if_pos List.mem_cons_self, List.idxOf_cons_self]
      show Option.map _ (List.find? _ ((Sum.inr (SX.S x), _) :: _)) = _
      rw [List.find?_cons_of_pos (by simp)]
      rfl
    · have ne : ¬ ((Sum.inr (SX.S x) : Key) = Sum.inr (SX.S l)) :=
        fun z => e (SX.S_inj (Sum.inr.inj z))
      have hv : valV (prs n (x :: r)) (Sum.inr (SX.S l) : Key) =
          valV (prs (n + 1) r) (Sum.inr (SX.S l)) := by
        show Option.map _ (List.find? _ ((Sum.inr (SX.S x), _) :: _)) = _
        rw [List.find?_cons_of_neg (by simpa using ne)]
        rfl
      rw [hv, ih]
      by_cases m : l ∈ r
      · rw [if_pos m, if_pos (List.mem_cons_of_mem _ m),
          List.idxOf_cons, show (x == l) = false from
            beq_eq_false_iff_ne.mpr e]
        show some (V.int ((n + 1 + r.idxOf l : Nat) : Int)) =
          some (V.int ((n + (r.idxOf l + 1) : Nat) : Int))
        rw [show n + 1 + r.idxOf l = n + (r.idxOf l + 1) by omega]
      · rw [if_neg m, if_neg fun z => ?_]
        rcases List.mem_cons.mp z with z | z
        · exact e z.symm
        · exact m z
/-- the attributes -/
def bf (lo d : Addr) : List (Str × V) :=
  putF "places" (.ref d) (putF "listed" (.ref lo) [])
theorem ne_pl : ¬ (("listed" : Str) = "places") := by decide +kernel
theorem bf_listed (lo d : Addr) :
    (bf lo d).lookup ("listed" : Str) = some (.ref lo) := by
  unfold bf
  rw [lookup_putF, if_neg ne_pl, lookup_putF, if_pos rfl]
theorem bf_places (lo d : Addr) :
    (bf lo d).lookup ("places" : Str) = some (.ref d) := by
  unfold bf
  rw [lookup_putF, if_pos rfl]
theorem bf_no (lo d : Addr) {m : Str} (h1 : ¬ m = "places")
    (h2 : ¬ m = "listed") : (bf lo d).lookup m = none := by
  unfold bf
  rw [lookup_putF, if_neg h1, lookup_putF, if_neg h2]
  rfl
structure BaseAt (C : Addr) (H : Hp) (b : Addr) (ls : List (List Nat)) :
    Prop where
  ob : ∃ dx lo d, H b = some (.ins C dx (bf lo d)) ∧
    H lo = some (.lst (ls.map vS)) ∧ H d = some (.dK (prs 0 ls))
theorem BaseAt.same {C b : Addr} {H H' : Hp} {ls : List (List Nat)}
    (x : BaseAt C H b ls) (s : Same H H') : BaseAt C H' b ls := by
  obtain ⟨dx, lo, d, h1, h2, h3⟩ := x.ob
  exact ⟨dx, lo, d, s _ _ h1, s _ _ h2, s _ _ h3⟩
theorem neRng {H : Hp} {p q : Addr} {ls : List (List Nat)} (r : Rng H p)
    (h : H q = some (.lst (ls.map vS))) : q ≠ p := by
  obtain ⟨a, b, e, _⟩ := r
  refine ne_of h e fun z => ?_
  have z' := HO.lst.inj z
  cases ls with
  | nil => cases z'
  | cons l r =>
    rw [List.map_cons] at z'
    cases (List.cons.inj z').1
theorem BaseAt.but {C b p : Addr} {H H' : Hp} {ls : List (List Nat)}
    (x : BaseAt C H b ls) (r : Rng H p) (s : But p H H') :
    BaseAt C H' b ls := by
  obtain ⟨dx, lo, d, h1, h2, h3⟩ := x.ob
  have n2 := neRng r h2
  obtain ⟨i, j, e, _⟩ := r
  exact ⟨dx, lo, d, s _ _ h1 (ne_of h1 e nofun), s _ _ h2 n2,
    s _ _ h3 (ne_of h3 e nofun)⟩
theorem BaseAt.ne {C b p : Addr} {H : Hp} {ls : List (List Nat)}
    (x : BaseAt C H b ls) (n : H p = none) : b ≠ p := by
  obtain ⟨dx, lo, d, h1, h2, h3⟩ := x.ob
  exact ne_of_none h1 n
structure BC (K : PySem.W.Frag) (mg : Str → Option Value) (C : Addr) :
    Prop where
  ic : C8.InsC K C
  nL : NoAttr K C "listed"
  nP : NoAttr K C "places"
  mgC : mg "Base" = some (.ref C)
  kC : PySem.W.keepIn K (.ref C) = true
theorem BC.cl {K : PySem.W.Frag} {mg : Str → Option Value} {C : Addr}
    (x : BC K mg C) : Cls K C := x.ic.cl
/-- Base(items), the items being right -/
def spInitOk (C : Addr) : Sp := fun vs H Q _ =>
  ∃ (b a dx : Addr) (ls : List (List Nat)), vs = [.ref b, .ref a] ∧
  H b = some (.ins C dx []) ∧ H a = some (.lst (ls.map vS)) ∧ Good ls ∧
  ∀ H', BaseAt C H' b ls → But b H H' → Q .non H'
/-- a walk of a dict comprehension -/
theorem dc_walk {J : It} {n : Nat} {G : Hp → Prop}
    {Y : Nat → Hp → V → Hp → Prop} (wk : Walk J n G Y) {g : TG} {tt : TT}
    {tk tv : TE} {vs : List Nat} {σ : L2.St} {H1 : Hp} {D : Addr}
    {Qd : Hp → Prop} (Pv : Nat → Hp → Prop)
    (h0 : Pv 0 (upd H1 D (.dK []))) (hG : ∀ i H, i ≤ n → Pv i H → G H)
    (hs : ∀ i x H H', i < n → Pv i H → Y i H x H' →
      g x (wipe σ vs) H' fun σ2 H2 => wipe σ2 vs = wipe σ vs ∧
        tt σ2 H2 fun b H3 => if b = true then tk σ2 H3 fun y H4 =>
          tv σ2 H4 fun z H5 => ∃ kvs k, y = kV k ∧ H5 D = some (.dK kvs) ∧
            kvs.length < sizeLine ∧ Pv (i + 1) (upd H5 D (.dK (putK kvs k z)))
          else Pv (i + 1) H3)
    (hd : ∀ H, Pv n H → Qd H) :
    ∃ W : Nat → Nat → Hp → Prop, (∃ m, W 0 m (upd H1 D (.dK []))) ∧
      ∀ i m H, W i m H → (J.stop i H ∧ Qd H) ∨ (J.go i H ∧
        ∃ Nx : Hp → Prop, (∀ H', Nx H' → ∃ m', m' < m ∧ W (i + 1) m' H') ∧
        ∀ x H', J.yld i H x H' → g x (wipe σ vs) H' fun σ2 H2 =>
          wipe σ2 vs = wipe σ vs ∧ tt σ2 H2 fun b H3 => if b = true then
            tk σ2 H3 fun y H4 => tv σ2 H4 fun z H5 => ∃ kvs k, y = kV k ∧
              H5 D = some (.dK kvs) ∧ kvs.length < sizeLine ∧
              Nx (upd H5 D (.dK (putK kvs k z))) else Nx H3) := by
  refine ⟨fun i m H => m + i = n ∧ Pv i H, ⟨n, rfl, h0⟩, ?_⟩
  rintro i m H ⟨e, p⟩
  have q := hG i H (by omega) p
  rcases Nat.lt_or_ge i n with lt | ge
  · exact .inr ⟨wk.goes i H lt q, Pv (i + 1),
      fun H' p' => ⟨m - 1, by omega, by omega, p'⟩,
      fun x H' y => hs i x H H' lt p (wk.yields i H x H' lt q y)⟩
  · have e' : i = n := by omega
    subst e'
    exact .inl ⟨wk.stops H q, hd H p⟩
section
variable {P : Program} {w : World} {K : PySem.W.Frag}
  {mg : Str → Option Value} {base : Heap} {C : Addr}
theorem ok_init {f : Addr} {fd : FuncData} {k : Nat}
    (F : Fun K "__init__" "Base.__init__" s_Base_init f fd) (B : Bl mg)
    (T : BC K mg C)
    (Ck : Cal P w K mg base k "check_items" ["items"] spCheckOk) :
    FnOk P w K mg base CX0 (k + 1) f fd ["self", "items"] (spInitOk C) := by
  refine F.ok sc_Base_init (fun vs H Q E h => ?_)
    (fun cv A outer s H vs Q E hr h => ?_)
  · obtain ⟨b, a, dx, ls, rfl, _⟩ := h
    rfl
  obtain ⟨b, a, dx, ls, rfl, hb, ha, gd, q⟩ := h
  have nd := sc_Base_init.nd
  refine ⟨_, pss_cons (ps_expr (pe_cal Ck hr (pa_cons (pv 1) pa_nil)))
    (pss_cons (ps_fld (pv 0) (pe_callTy call_list_of (by rfl) B.list bt_list
      (pa_cons (pv 1) pa_nil)) rfl)
    (pss_one (ps_fld (pv 0)
      (pe_dc (own := [("name", 2), ("at", 3)])
        (g := gTup K 2 (gCons (gName 3) (gCons (gName 2) gNil)))
        (tt := tYes) rfl nd
        (pi_enum (by rfl) B.enum (pa_cons (pv 1) pa_nil))
        (blkOk_by (N := N_Base_init) (sc := defScope s_Base_init)
          (by decide +kernel))
        (fun _ _ _ _ _ => pg_tup rfl (pgs_cons (pg_name (i := 3) nd rfl
          (Or.inl rfl)) (pgs_cons (pg_name (i := 2) nd rfl (Or.inl rfl))
          pgs_nil)))
        (fun _ _ _ _ _ => pts_nil) (fun _ _ _ _ _ => pv 2)
        (fun _ _ _ _ _ => pv 3)) rfl))), ?_⟩
  refine ⟨_, rfl, a, ls, rfl, ha, gd, fun H1 s1 => ?_⟩
  have nba : b ≠ a := ne_of hb ha nofun
  have hb1 := s1 _ _ hb
  have ha1 := s1 _ _ ha
  refine ⟨_, rfl, a, _, rfl, .inl (SqL.of ha1), fun lo nlo => ?_⟩
  have nbl : b ≠ lo := ne_of_none hb1 nlo
  have nal : a ≠ lo := ne_of_none ha1 nlo
  refine ⟨_, rfl, b, C, dx, [], rfl, by rw [upd_ne nbl]; exact hb1, T.cl, T.nL,
    by decide, ?_⟩
  generalize eH2 : upd (upd H1 lo (.lst (ls.map vS))) b
    (.ins C dx (putF "listed" (.ref lo) [])) = H2
  have hb2 : H2 b = some (.ins C dx (putF "listed" (.ref lo) [])) := by
    rw [← eH2]; exact upd_same
  have ha2 : H2 a = some (.lst (ls.map vS)) := by
    rw [← eH2, upd_ne nba.symm, upd_ne nal]; exact ha1
  have hl2 : H2 lo = some (.lst (ls.map vS)) := by
    rw [← eH2, upd_ne nbl.symm, upd_same]
  have b2 : But b H H2 := by
    rw [← eH2]
    exact ((But.of s1).new (s1.free nlo)).at
  refine ⟨_, rfl, a, _, rfl, SqL.of ha2, fun d nd' => ?_⟩
  have ndb : b ≠ d := ne_of_none hb2 nd'
  have nda : a ≠ d := ne_of_none ha2 nd'
  have ndl : lo ≠ d := ne_of_none hl2 nd'
  refine dc_walk (walk_enum (K := K) (a := a) (xs := ls.map vS))
    (fun i H' => H' d = some (.dK (prs 0 (ls.take i))) ∧
      H' b = some (.ins C dx (putF "listed" (.ref lo) [])) ∧
      H' a = some (.lst (ls.map vS)) ∧ H' lo = some (.lst (ls.map vS)) ∧
      But b H H')
    ⟨upd_same, by rw [upd_ne ndb]; exact hb2, by rw [upd_ne nda]; exact ha2,
      by rw [upd_ne ndl]; exact hl2, b2.put nd' ndb.symm⟩
    (fun i H' _ z => SqL.of z.2.2.1) ?_ ?_
  · rintro i v H3 H4 hi ⟨hd, h1, h2, h3, b3⟩ ⟨T', x1, x2, rfl, nT, rfl, e1, e2⟩
    obtain ⟨l, hl, rfl⟩ := get_map e2
    cases Option.some.inj e1
    rw [List.length_map] at hi
    have hhi := gd.hi
    refine ⟨T', _, rfl, .inl (.inl upd_same), rfl, _, _, rfl, _, _, rfl, rfl,
      rfl, yes ⟨_, rfl, _, rfl, prs 0 (ls.take i), Sum.inr (SX.S l), rfl, ?_, ?_,
      ?_, ?_, ?_, ?_, ?_⟩⟩
    · rw [upd_ne (ne_of_none hd nT)]
      exact hd
    · rw [prs_len, List.length_take]
      exact sz' (by omega)
    · rw [upd_same, putK_new _ (by
        rw [val_prs, if_neg (nodup_take gd.nd hl)]),
        List.take_add_one, hl]
      show _ = some (HO.dK (prs 0 (ls.take i ++ [l])))
      rw [prs_snoc, List.length_take, Nat.min_eq_left (by omega),
        Nat.zero_add]
    · rw [upd_ne ndb, upd_ne (ne_of_none h1 nT)]
      exact h1
    · rw [upd_ne nda, upd_ne (ne_of_none h2 nT)]
      exact h2
    · rw [upd_ne ndl, upd_ne (ne_of_none h3 nT)]
      exact h3
    · exact (b3.put nT (ne_of_none h1 nT).symm).new (b2.free ndb.symm nd')
  · rintro H3 ⟨hd, h1, h2, h3, b3⟩
    rw [List.take_of_length_le (by rw [List.length_map]; exact Nat.le_refl _)]
      at hd
    refine ⟨_, rfl, b, C, dx, _, rfl, h1, T.cl, T.nP,
      by show 1 < 1000; decide, ?_⟩
    refine q _ ⟨dx, lo, d, upd_same, ?_, ?_⟩ b3.at
    · rw [upd_ne nbl.symm]
      exact h3
    · rw [upd_ne ndb.symm]
      exact hd
end
end OM
namespace OM
open PySem PySem.Spec PyProof.Rows L2
/-! ### a method, in one word -/
structure CalM (P : Program) (w : World) (K : PySem.W.Frag)
    (mg : Str → Option Value) (base : Heap) (C : Addr) (k : Nat) (x : Str)
    (ps : List Str) (sp : Sp) : Prop where
  cl : Cls K C
  ex : ∃ f fd, FnOk P w K mg base CX0 k f fd ps sp ∧ Meth K C x f ∧
    Binds K fd ps []
section
variable {X : Cx} {k : Nat} {ps : List Str} {sp : Sp} {x : Str} {C : Addr}
  {p pos : Pos} {o e : Expr} {es : List Expr} {t : TA} {to : TE}
theorem pe_calM {pl : Sem Bool} (M : CalM X.prog X.w X.K X.mg X.base C k x ps sp)
    (room : Room k X.A) (ho : PE X o to) (ha : PA X (e :: es) t)
    (h1 : starEach (e :: es) X.env =
      (false, eval e X.env) :: starEach es X.env := by rfl)
    (h2 : (backTo pos (starEach es X.env)).any (·.1) = false := by rfl)
    (h3 : eval (.Call (.Attribute o x p) (e :: es) [] pos) X.env = (do
      let ov ← eval o X.env
      standAt p.atName
      let (f, first) ← holding [ov] (getMethod ov x pl)
      callWith pos f first (backTo pos (starEach (e :: es) X.env))
        (backToKw pos (keywordEach [] X.env))) := by rfl) :
    PE X (.Call (.Attribute o x p) (e :: es) [] pos)
      (tMeth C x sp [] E0 to t) := by
  obtain ⟨f, fd, F, m, b⟩ := M.ex
  exact pe_meth (pl := pl) ho M.cl m F room b .nil pass0 ha h1 h2 h3
theorem pe_calM0 {pl : Sem Bool} (M : CalM X.prog X.w X.K X.mg X.base C k x ps sp)
    (room : Room k X.A) (ho : PE X o to)
    (h3 : eval (.Call (.Attribute o x p) [] [] pos) X.env = (do
      let ov ← eval o X.env
      standAt p.atName
      let (f, first) ← holding [ov] (getMethod ov x pl)
      callWith pos f first (backTo pos (starEach [] X.env))
        (backToKw pos (keywordEach [] X.env))) := by rfl) :
    PE X (.Call (.Attribute o x p) [] [] pos)
      (tMeth C x sp [] E0 to tNil) := by
  obtain ⟨f, fd, F, m, b⟩ := M.ex
  exact pe_meth0 (pl := pl) ho M.cl m F room b .nil pass0 h3
end
def spGetNames (C : Addr) : Sp := fun vs H Q _ =>
  ∃ (b : Addr) (ls : List (List Nat)), vs = [.ref b] ∧ BaseAt C H b ls ∧
  ∀ q H', H q = none → H' q = some (.lst (ls.map vS)) → Same H H' →
    Q (.ref q) H'
def spLenB (C : Addr) : Sp := fun vs H Q _ =>
  ∃ (b : Addr) (ls : List (List Nat)), vs = [.ref b] ∧ BaseAt C H b ls ∧
  Q (.int ls.length) H
/-- == of two bases -/
def spEqB (C : Addr) : Sp := fun vs H Q _ =>
  ∃ (b o : Addr) (ls ms : List (List Nat)), vs = [.ref b, .ref o] ∧
  BaseAt C H b ls ∧ BaseAt C H o ms ∧ Uni ls ∧ Uni ms ∧
  Q (.bl (decide (ls = ms))) H
def baseText (ls : List (List Nat)) : Str :=
  Str.empty ++ Str.ofString "Base(" ++ (PyData.list (dN ls)).shown ++
    Str.ofString ")"
/-- repr of a base -/
def spReprB (C : Addr) : Sp := fun vs H Q _ =>
  ∃ (b : Addr) (ls : List (List Nat)), vs = [.ref b] ∧ BaseAt C H b ls ∧
  Good ls ∧ Q (.str (baseText ls)) H
theorem Nm.uni {l : List Nat} (n : Nm l) : ∀ c ∈ l, c < 1114112 := fun c h => by
  have := n.az c h
  omega
theorem Good.uni {ls : List (List Nat)} (g : Good ls) : Uni ls :=
  fun l h => (g.nm l h).uni
theorem Good.shown {ls : List (List Nat)} (g : Good ls) :
    (PyData.list (dN ls)).shown.length ≤ sizeLine := by
  have := g.hi
  exact shown_L (m := 8) (by omega) (by omega) fun l h =>
    ⟨(g.nm l h).hi, (g.nm l h).uni⟩
section
variable {P : Program} {w : World} {K : PySem.W.Frag}
  {mg : Str → Option Value} {base : Heap} {C : Addr}
theorem ok_getnames {f : Addr} {fd : FuncData} {k : Nat}
    (F : Fun K "names" "Base.names" s_Base_names f fd) (B : Bl mg)
    (T : BC K mg C) :
    FnOk P w K mg base CX0 (k + 1) f fd ["self"] (spGetNames C) := by
  refine F.ok sc_Base_names (fun vs H Q E h => ?_)
    (fun cv A outer s H vs Q E hr h => ?_)
  · obtain ⟨b, ls, rfl, _⟩ := h
    rfl
  obtain ⟨b, ls, rfl, hb, q⟩ := h
  obtain ⟨dx, lo, d, h1, h2, h3⟩ := hb.ob
  refine ⟨_, pss_one (ps_ret (pe_callTy call_list_of (by rfl) B.list bt_list
    (pa_cons (pe_fld (pv 0) rfl) pa_nil))), ?_⟩
  exact ⟨_, rfl, b, C, dx, _, _, rfl, h1, T.cl, T.nL, bf_listed _ _, lo, _, rfl,
    .inl (SqL.of h2), fun l nl => q l _ nl upd_same (sameNew nl)⟩
theorem ok_lenB {f : Addr} {fd : FuncData} {k : Nat}
    (F : Fun K "__len__" "Base.__len__" s_Base_len f fd) (B : Bl mg)
    (T : BC K mg C) :
    FnOk P w K mg base CX0 (k + 1) f fd ["self"] (spLenB C) := by
  refine F.ok sc_Base_len (fun vs H Q E h => ?_)
    (fun cv A outer s H vs Q E hr h => ?_)
  · obtain ⟨b, ls, rfl, _⟩ := h
    rfl
  obtain ⟨b, ls, rfl, hb, q⟩ := h
  obtain ⟨dx, lo, d, h1, h2, h3⟩ := hb.ob
  refine ⟨_, pss_one (ps_ret (pe_callB call_len_seq (by rfl) B.len
    PySem.boot_len (pa_cons (pe_fld (pv 0) rfl) pa_nil))), ?_⟩
  refine ⟨_, rfl, b, C, dx, _, _, rfl, h1, T.cl, T.nL, bf_listed _ _, lo, _,
    rfl, .inl (SqL.of h2), ?_⟩
  rw [List.length_map]
  exact q
theorem ok_eqB {f : Addr} {fd : FuncData} {k : Nat}
    (F : Fun K "__eq__" "Base.__eq__" s_Base_eq f fd) (B : Bl mg)
    (T : BC K mg C) :
    FnOk P w K mg base CX0 (k + 1) f fd ["self", "other"] (spEqB C) := by
  refine F.ok sc_Base_eq (fun vs H Q E h => ?_)
    (fun cv A outer s H vs Q E hr h => ?_)
  · obtain ⟨b, o, ls, ms, rfl, _⟩ := h
    rfl
  obtain ⟨b, o, ls, ms, rfl, hb, ho, u1, u2, q⟩ := h
  obtain ⟨dx, lo, d, h1, h2, h3⟩ := hb.ob
  obtain ⟨dy, mo, e, g1, g2, g3⟩ := ho.ob
  refine ⟨_, pss_one (ps_ret (pe_and
    (pe_callB (C8.call_isC T.ic) (by rfl) B.isi bt_isi (pa_cons (pv 1)
      (pa_cons (pe_glob (v := .ref C) (by rfl) T.mgC rfl) pa_nil)))
    (pe_one (pe_cmpR (op_eqD hr.units) (pe_fld (pv 0) rfl) (pe_fld (pv 1) rfl)
      (nomark _))))), ?_⟩
  refine ⟨_, rfl, o, dy, _, rfl, g1, _, rfl, iteT ?_⟩
  refine ⟨_, rfl, b, C, dx, _, _, rfl, h1, T.cl, T.nL, bf_listed _ _, _, rfl, o,
    C, dy, _, _, rfl, g1, T.cl, T.nL, bf_listed _ _, _, _, dp_N (SqL.of h2),
    dp_N (SqL.of g2), shaped_L u1, shaped_L u2, ?_⟩
  rw [eqv_L]
  exact q
theorem ok_reprB {f : Addr} {fd : FuncData} {k : Nat}
    (F : Fun K "__repr__" "Base.__repr__" s_Base_repr f fd)
    (T : BC K mg C) :
    FnG P w K mg base CX0 (k + 1) f fd ["self"] (spReprB C) := by
  refine okG F sc_Base_repr (fun vs H Q E h => ?_)
    (fun cv A outer s H vs Q E hr gd h => ?_)
  · obtain ⟨b, ls, rfl, _⟩ := h
    rfl
  obtain ⟨b, ls, rfl, hb, good, q⟩ := h
  obtain ⟨dx, lo, d, h1, h2, h3⟩ := hb.ob
  refine ⟨_, pss_one (ps_ret (pe_joined (.cons pe_str (.cons
    (pe_fmtD hr gd (pe_fld (pv 0) rfl)) (.cons pe_str .nil))))), ?_⟩
  have l1 := good.shown
  have l2 : (PyData.list (dN ls)).shown.length ≤ 10004003 := by
    have e : (PyData.list (dN ls)).shown =
        listText (PyData.shownAll (dN ls)) := by simp only [PyData.shown]
    have p := piled_N ls 8 fun l h => ⟨(good.nm l h).hi, (good.nm l h).uni⟩
    have q := listText_len_le (PyData.shownAll (dN ls))
    rw [e]
    have r : ((PyData.shownAll (dN ls)).map (·.length)).sum +
        2 * (PyData.shownAll (dN ls)).length =
        piled (PyData.shownAll (dN ls)) := by
      generalize PyData.shownAll (dN ls) = ts
      induction ts with
      | nil => rfl
      | cons t ts ih =>
        rw [piled_cons, List.map_cons, List.sum_cons, List.length_cons]
        omega
    have s : ls.length * (10 * 8 + 4) ≤ 40 * 84 :=
      Nat.mul_le_mul good.hi (Nat.le_refl _)
    omega
  have l3 : (Str.ofString "Base(").length = 5 := by decide +kernel
  have l4 : (Str.ofString ")").length = 1 := by decide +kernel
  have l5 : (Str.empty).length = 0 := by decide +kernel
  have l6 : 10005000 ≤ sizeLine := by decide
  refine ⟨_, rfl, ?_, _, rfl, b, C, dx, _, _, rfl, h1, T.cl, T.nL,
    bf_listed _ _, lo, _, rfl, dp_N (SqL.of h2), showable_L ls,
    Nat.le_trans (depth_L ls) (by decide), l1, _, rfl, ?_, _, rfl, ?_, q⟩
  · rw [strLen_append]
    omega
  · rw [strLen_append, strLen_append]
    omega
  · rw [strLen_append, strLen_append, strLen_append]
    omega
end
end OM
namespace OM
open PySem PySem.Spec PyProof.Rows L2
/-- is it an item -/
def spHas (K : PySem.W.Frag) (C : Addr) : Sp := fun vs H Q _ =>
  ∃ (b : Addr) (ls : List (List Nat)) (v : V), vs = [.ref b, v] ∧
  BaseAt C H b ls ∧ (∀ l ∈ ls, Nm l) ∧
  ((∃ x : Str, v = .str x ∧ x.length ≤ sizeLine ∧ ∀ H', Same H H' →
      Q (.bl (decide (x.cps.toList ∈ ls))) H') ∨
   (∃ t, TyX K H v t ∧ PySem.W.kitOne K t (.type "str") = some false ∧
      ∀ H', Same H H' → Q (.bl false) H'))
section
variable {P : Program} {w : World} {K : PySem.W.Frag}
  {mg : Str → Option Value} {base : Heap} {C : Addr}
theorem ok_has {f : Addr} {fd : FuncData} {k : Nat}
    (F : Fun K "has_item" "Base.has_item" s_Base_has_item f fd) (B : Bl mg)
    (T : BC K mg C) (Ci : CalIsName P w K mg base k) :
    FnOk P w K mg base CX0 (k + 1) f fd ["self", "value"] (spHas K C) := by
  refine F.ok sc_Base_has_item (fun vs H Q E h => ?_)
    (fun cv A outer s H vs Q E hr h => ?_)
  · obtain ⟨b, ls, v, rfl, _⟩ := h
    rfl
  obtain ⟨b, ls, v, rfl, hb, nm, h⟩ := h
  have hu := hu_of hr
  refine ⟨_, pss_one (ps_ret (pe_and (pe_cal Ci hr (pa_cons (pv 1) pa_nil))
    (pe_one (pe_cmp (pc_din hu (pv 1) (pe_fld (pv 0) rfl)) rfl)))), ?_⟩
  rcases h with ⟨x, rfl, hx, q⟩ | ⟨t, ty, kt, q⟩
  · refine ⟨_, rfl, _, rfl, .inl ⟨x, rfl, hx, fun H1 s1 => ?_⟩⟩
    obtain ⟨dx, lo, d, h1, h2, h3⟩ := (hb.same s1).ob
    refine ⟨_, rfl, ?_⟩
    by_cases hm : x.cps.toList ∈ ls
    · have e : nmB x.cps.toList = true := nmB_iff.mpr (nm _ hm)
      rw [e]
      refine iteT ⟨_, rfl, _, rfl, b, C, dx, _, _, rfl, h1, T.cl, T.nP,
        bf_places _ _, d, _, rfl, DGet.k (k := Sum.inr x) h3, ?_⟩
      have ex : x = SX.S x.cps.toList := (SX.S_tl x).symm
      rw [ex, val_prs, if_pos hm]
      have := q H1 s1
      rw [decide_eq_true hm] at this
      exact this
    · have qf := q H1 s1
      rw [decide_eq_false hm] at qf
      cases e : nmB x.cps.toList with
      | false => exact iteF qf
      | true =>
        refine iteT ⟨_, rfl, _, rfl, b, C, dx, _, _, rfl, h1, T.cl, T.nP,
          bf_places _ _, d, _, rfl, DGet.k (k := Sum.inr x) h3, ?_⟩
        have ex : x = SX.S x.cps.toList := (SX.S_tl x).symm
        rw [ex, val_prs, if_neg hm]
        exact qf
  · exact ⟨_, rfl, _, rfl, .inr ⟨t, ty, kt, _, rfl, iteF (q H (Same.refl H))⟩⟩
end
end OM
namespace OM
open PySem PySem.Spec PyProof.Rows L2
/-! ### a class that is made, in one word -/
structure CalC (P : Program) (w : World) (K : PySem.W.Frag)
    (mg : Str → Option Value) (base : Heap) (C : Addr) (k : Nat) (x : Str)
    (ps : List Str) (sp : Sp) : Prop where
  mgC : mg x = some (.ref C)
  ex : ∃ f fd, FnOk P w K mg base CX0 k f fd ps sp ∧ Mk K C f ∧
    Binds K fd ps []
section
variable {X : Cx} {k : Nat} {ps : List Str} {sp : Sp} {x : Str} {C : Addr}
  {p pos : Pos} {e : Expr} {es : List Expr} {t : TA}
theorem pe_calC (M : CalC X.prog X.w X.K X.mg X.base C k x ps sp)
    (room : Room (k + 1) X.A) (ha : PA X (e :: es) t)
    (hg : Gl X x := by rfl)
    (h1 : (x == ("__debug__" : Str)) = false := by decide)
    (h2 : starEach (e :: es) X.env =
      (false, eval e X.env) :: starEach es X.env := by rfl)
    (h3 : (backTo pos (starEach es X.env)).any (·.1) = false := by rfl) :
    PE X (.Call (.Name x p) (e :: es) [] pos) (tMake C sp [] E0 t) := by
  obtain ⟨f, fd, F, m, b⟩ := M.ex
  exact pe_make m F room hg M.mgC b .nil pass0 ha h1 h2 h3
end
theorem cut_to (xs : List V) {n : Nat} (h : n ≤ xs.length) :
    cutV xs none (some (n : Int)) = xs.take n := by
  unfold cutV
  rw [HT.sIx_nat, HT.sIx_none, Nat.min_eq_left h, Nat.sub_zero,
    List.drop_zero]
theorem cut_from (xs : List V) {n : Nat} (h : n ≤ xs.length) :
    cutV xs (some (n : Int)) none = xs.drop n := by
  unfold cutV
  rw [HT.sIx_nat, HT.sIx_none, Nat.min_eq_left h]
  exact List.take_of_length_le (by rw [List.length_drop]; exact Nat.le_refl _)
/-- os is an order of the base -/
structure Ord (C : Addr) (H : Hp) (b a : Addr) (ls os : List (List Nat)) :
    Prop where
  ba : BaseAt C H b ls
  good : Good ls
  li : H a = some (.lst (os.map vS))
  pm : os.Perm ls
theorem Ord.same {C b a : Addr} {H H' : Hp} {ls os : List (List Nat)}
    (x : Ord C H b a ls os) (s : Same H H') : Ord C H' b a ls os :=
  ⟨x.ba.same s, x.good, s _ _ x.li, x.pm⟩
theorem Good.perm {ls os : List (List Nat)} (g : Good ls)
    (p : os.Perm ls) : Good os :=
  ⟨fun l h => g.nm l (p.mem_iff.mp h), p.nodup_iff.mpr g.nd,
    by rw [p.length_eq]; exact g.lo, by rw [p.length_eq]; exact g.hi⟩
end OM
namespace OM
open PySem PySem.Spec PyProof.Rows L2
/-- one of the options -/
def spChoice (K : PySem.W.Frag) : Sp := fun vs H Q _ =>
  ∃ (p a : Addr) (xs : List V), vs = [.ref p, .ref a] ∧ Rng H p ∧
  SqL K H a xs ∧ a ≠ p ∧ 0 < xs.length ∧ xs.length ≤ 1000 ∧
  ∀ (x : V) (H' : Hp), x ∈ xs → Rng H' p → But p H H' → Q x H'
section
variable {P : Program} {w : World} {K : PySem.W.Frag}
  {mg : Str → Option Value} {base : Heap}
theorem ok_choice {f : Addr} {fd : FuncData} {k : Nat}
    (F : Fun K "_law_choice" "_law_choice" s_Lchoice f fd) (B : Bl mg)
    (Cd : CalDraw P w K mg base k) :
    FnOk P w K mg base CX0 (k + 1) f fd ["_law_rng_here", "_law_options"]
      (spChoice K) := by
  refine F.ok sc_Lchoice (fun vs H Q E h => ?_)
    (fun cv A outer s H vs Q E hr h => ?_)
  · obtain ⟨p, a, xs, rfl, _⟩ := h
    rfl
  obtain ⟨p, a, xs, rfl, rg, hS, nap, h0, h1, q⟩ := h
  refine ⟨_, pss_one (ps_ret (pe_ix ix_list (pv 1) (pe_cal Cd hr
    (pa_cons (pv 0) (pa_cons (pe_callB call_len_seq (by rfl) B.len
      PySem.boot_len (pa_cons (pv 1) pa_nil)) pa_nil))) (fun _ _ => rfl))), ?_⟩
  refine ⟨_, rfl, _, rfl, _, rfl, a, _, rfl, .inl hS, p, xs.length, rfl, rg,
    by omega, by omega, fun d H1 d0 d1 rg1 b1 => ?_⟩
  have hd : d.toNat < xs.length := by omega
  have ed : d = ((d.toNat : Nat) : Int) := by omega
  refine ⟨a, xs, d, xs[d.toNat], rfl, rfl, b1.seq hS nap, ?_,
    q _ H1 (List.getElem_mem hd) rg1 b1⟩
  have := atI_nat (List.getElem?_eq_getElem hd)
  rw [← ed] at this
  exact this
end
end OM
namespace OM
open PySem PySem.Spec PyProof.Rows L2
def spFaultOk (C : Addr) : Sp := fun vs H Q _ =>
  ∃ (b a : Addr) (ls os : List (List Nat)), vs = [.ref b, .ref a] ∧
  Ord C H b a ls os ∧ ∀ H', Same H H' → Q .non H'
def spIsOrderOk (C : Addr) : Sp := fun vs H Q _ =>
  ∃ (b a : Addr) (ls os : List (List Nat)), vs = [.ref b, .ref a] ∧
  Ord C H b a ls os ∧ ∀ H', Same H H' → Q (.bl true) H'
section
variable {P : Program} {w : World} {K : PySem.W.Frag}
  {mg : Str → Option Value} {base : Heap} {C : Addr}
theorem ok_fault {f fl : Addr} {fd fdl : FuncData} {k n : Nat}
    (F : Fun K "order_fault" "order_fault" s_order_fault f fd) (B : Bl mg)
    (T : BC K mg C)
    (Mh : CalM P w K mg base C k "has_item" ["self", "value"] (spHas K C))
    (Sl : Spec1 K C "__len__" fl fdl ["self"])
    (Gl : FnOk P w K mg base CX0 n fl fdl ["self"] (spLenB C))
    (hn : n + 1 ≤ k) :
    FnOk P w K mg base CX0 (k + 1) f fd ["base", "value"] (spFaultOk C) := by
  refine F.ok sc_order_fault (fun vs H Q E h => ?_)
    (fun cv A outer s H vs Q E hr h => ?_)
  · obtain ⟨b, a, ls, os, rfl, _⟩ := h
    rfl
  obtain ⟨b, a, ls, os, rfl, o, q⟩ := h
  have nd := sc_order_fault.nd
  have hrn := hr.mono hn
  refine ⟨_, pss_cons (ps_if (pt_not (pt_val
      (pe_callB call_isi (by rfl) B.isi bt_isi (pa_cons (pv 1) (pa_cons
        (pe_bltn (v := .ty "list") (by rfl) B.list bt_list rfl) pa_nil)))))
      (pss_one ps_never) pss_nil)
    (pss_cons (ps_for PassesOwn.never rfl
      (pi_enum (by rfl) B.enum (pa_cons (pv 1) pa_nil))
      (pg_tup rfl (pgs_cons (pg_name (i := 2) nd rfl (.inl rfl))
        (pgs_cons (pg_name (i := 3) nd rfl (.inl rfl)) pgs_nil)))
      (pss_one (ps_if (PW.pt (pw_or (pt_not (pt_val
          (pe_calM Mh hr (pv 0) (pa_cons (pv 3) pa_nil))))
          (pw_or1 (pt_cmpR op_in_seq (pv 3)
            (pe_slice sl_list (pv 1) po_none (po_some (pv 2))) (by rfl)))))
        (pss_one ps_never) pss_nil)))
    (pss_cons (ps_if (pt_cmpR op_lt
        (pe_callB call_len_seq (by rfl) B.len PySem.boot_len
          (pa_cons (pv 1) pa_nil))
        (pe_callB (call_lenOwn Sl Gl hrn) (by rfl) B.len PySem.boot_len
          (pa_cons (pv 0) pa_nil)) (nomark _))
      (pss_one ps_never) pss_nil)
    (pss_one (ps_ret pe_non)))), ?_⟩
  refine ⟨_, rfl, _, _, _, _, true, rfl, .ty "list", .base (.lst o.li),
    kit_ty (by decide +kernel), _, rfl, iteF ?_⟩
  refine ⟨_, rfl, a, _, rfl, SqL.of o.li, ?_⟩
  have go := o.good.perm o.pm
  refine for_it (walk_enum (K := K) (a := a) (xs := os.map vS))
    (fun i σ H' => ∃ (y z : Option V),
      σ = [some (.ref b), some (.ref a), y, z] ∧ Same H H')
    ⟨none, none, rfl, Same.refl H⟩
    (fun i σ H' _ z => by
      obtain ⟨_, _, _, sm⟩ := z
      exact SqL.of (sm _ _ o.li))
    ?_ ?_
  · rintro i v σ H1 H2 hi ⟨y, z, rfl, sm⟩ ⟨T', x1, x2, rfl, nT, rfl, e1, e2⟩
    obtain ⟨l, hl, rfl⟩ := get_map e2
    cases Option.some.inj e1
    rw [List.length_map] at hi
    have o1 := o.same sm
    have o2 := o1.same (sameNew (o := .tup [.int (i : Nat), vS l]) nT)
    obtain ⟨dx, lo, d, h1, h2, h3⟩ := o2.ba.ob
    have ml : l ∈ os := List.mem_of_getElem? hl
    have nl : Nm l := go.nm l ml
    refine ⟨T', _, rfl, .inl (.inl upd_same), rfl, _, _, rfl, _, _, rfl, rfl,
      ?_⟩
    refine ⟨_, rfl, b, dx, _, rfl, h1, bf_no _ _ (by decide +kernel)
      (by decide +kernel), _, rfl, b, ls, _, rfl, o2.ba, o.good.nm, .inl ⟨_, rfl,
      nl.len, fun H3 s3 => ?_⟩⟩
    have o3 := o2.same s3
    rw [decide_eq_true (show (SX.S l).cps.toList ∈ ls from
      o.pm.mem_iff.mp ml)]
    refine ⟨_, rfl, iteF ?_⟩
    refine ⟨_, rfl, _, rfl, _, rfl, i, rfl, a, _, rfl, SqL.of o3.li,
      fun t nt => ?_⟩
    rw [cut_to _ (by rw [List.length_map]; omega), ← List.map_take]
    refine ⟨t, _, rfl, .inl (SqL.of upd_same), rfl, flat_S _, _, rfl, ?_⟩
    rw [inV_S, decide_eq_false (nodup_take go.nd hl)]
    refine iteF ⟨_, _, rfl, ?_⟩
    exact ((sm.trans (sameNew nT)).trans s3).trans (sameNew nt)
  · rintro σ H1 ⟨y, z, rfl, sm⟩
    have o1 := o.same sm
    obtain ⟨dx, lo, d, h1, h2, h3⟩ := o1.ba.ob
    refine ⟨_, rfl, a, _, rfl, .inl (SqL.of o1.li), _, rfl, b, dx, _, rfl, h1,
      b, ls, rfl, o1.ba, ls.length, rfl, ?_, _, _, rfl, rfl, _, rfl, ?_⟩
    · have := o.good.hi
      omega
    · rw [List.length_map, o.pm.length_eq, decide_eq_false (by omega)]
      exact iteF (q H1 sm)
theorem ok_checkorder {f : Addr} {fd : FuncData} {k : Nat}
    (F : Fun K "check_order" "check_order" s_check_order f fd)
    (Cf : Cal P w K mg base k "order_fault" ["base", "value"]
      (spFaultOk C)) :
    FnOk P w K mg base CX0 (k + 1) f fd ["base", "order"] (spFaultOk C) := by
  refine F.ok sc_check_order (fun vs H Q E h => ?_)
    (fun cv A outer s H vs Q E hr h => ?_)
  · obtain ⟨b, a, ls, os, rfl, _⟩ := h
    rfl
  obtain ⟨b, a, ls, os, rfl, o, q⟩ := h
  have nd := sc_check_order.nd
  refine ⟨_, pss_cons (ps_set (i := 2) nd rfl (.inl rfl)
      (pe_cal Cf hr (pa_cons (pv 0) (pa_cons (pv 1) pa_nil))))
    (pss_one (ps_if (pt_cmpR op_notN (pv 2) pe_non (nomark _))
      (pss_one ps_never) pss_nil)), ?_⟩
  exact ⟨_, rfl, _, rfl, b, a, ls, os, rfl, o, fun H1 s1 =>
    ⟨_, rfl, rfl, _, rfl, iteF (q H1 s1)⟩⟩
end
end OM
namespace OM
open PySem PySem.Spec PyProof.Rows L2
section
variable {P : Program} {w : World} {K : PySem.W.Frag}
  {mg : Str → Option Value} {base : Heap} {C : Addr}
theorem ok_isorder {f : Addr} {fd : FuncData} {k : Nat}
    (F : Fun K "is_order" "is_order" s_is_order f fd)
    (Cf : Cal P w K mg base k "order_fault" ["base", "value"]
      (spFaultOk C)) :
    FnOk P w K mg base CX0 (k + 1) f fd ["base", "value"]
      (spIsOrderOk C) := by
  refine F.ok sc_is_order (fun vs H Q E h => ?_)
    (fun cv A outer s H vs Q E hr h => ?_)
  · obtain ⟨b, a, ls, os, rfl, _⟩ := h
    rfl
  obtain ⟨b, a, ls, os, rfl, o, q⟩ := h
  refine ⟨_, pss_one (ps_ret (pe_cmpR op_isN
    (pe_cal Cf hr (pa_cons (pv 0) (pa_cons (pv 1) pa_nil))) pe_non
    (nomark _))), ?_⟩
  exact ⟨_, rfl, _, rfl, b, a, ls, os, rfl, o, fun H1 s1 => ⟨rfl, q H1 s1⟩⟩
end
end OM
namespace OM
open PySem PySem.Spec PyProof.Rows L2
/-- an item's place -/
def spPos (C : Addr) : Sp := fun vs H Q _ =>
  ∃ (b : Addr) (ls : List (List Nat)) (l : List Nat), vs = [.ref b, vS l] ∧
  BaseAt C H b ls ∧ (∀ l ∈ ls, Nm l) ∧ l ∈ ls ∧
  ∀ H', Same H H' → Q (.int ((ls.idxOf l : Nat) : Int)) H'
def spPrec (C : Addr) : Sp := fun vs H Q _ =>
  ∃ (b : Addr) (ls : List (List Nat)) (l m : List Nat),
  vs = [.ref b, vS l, vS m] ∧
  BaseAt C H b ls ∧ (∀ l ∈ ls, Nm l) ∧ l ∈ ls ∧ m ∈ ls ∧
  ∀ H', Same H H' → Q (.bl (decide (ls.idxOf l < ls.idxOf m))) H'
theorem idx_get {ls : List (List Nat)} {l : List Nat} (h : l ∈ ls) :
    (ls.map vS)[ls.idxOf l]? = some (vS l) := by
  have hl := List.idxOf_lt_length_of_mem h
  rw [List.getElem?_map, List.getElem?_eq_getElem hl, List.getElem_idxOf hl]
  rfl
theorem idx_first {ls : List (List Nat)} {l : List Nat} (m : Nat) (z : V)
    (hm : m < ls.idxOf l) (hz : (ls.map vS)[m]? = some z) :
    eqV z (vS l) = false := by
  rw [List.getElem?_map] at hz
  cases e : ls[m]? with
  | none => rw [e] at hz; cases hz
  | some x =>
    rw [e] at hz
    cases Option.some.inj hz
    have ne : x ≠ l := by
      rintro rfl
      obtain ⟨hl, e2⟩ := List.getElem?_eq_some_iff.mp e
      have := List.not_of_lt_findIdx hm
      simp [e2] at this
    unfold eqV
    simp
    exact ne
theorem eqV_self (l : List Nat) : eqV (vS l) (vS l) = true := by
  unfold eqV
  simp
section
variable {P : Program} {w : World} {K : PySem.W.Frag}
  {mg : Str → Option Value} {base : Heap} {C : Addr}
theorem ok_pos {f : Addr} {fd : FuncData} {k : Nat}
    (F : Fun K "position_of" "Base.position_of" s_Base_position_of f fd)
    (T : BC K mg C)
    (Mh : CalM P w K mg base C k "has_item" ["self", "value"] (spHas K C)) :
    FnOk P w K mg base CX0 (k + 1) f fd ["self", "item"] (spPos C) := by
  refine F.ok sc_Base_position_of (fun vs H Q E h => ?_)
    (fun cv A outer s H vs Q E hr h => ?_)
  · obtain ⟨b, ls, l, rfl, _⟩ := h
    rfl
  obtain ⟨b, ls, l, rfl, hb, nm, hm, q⟩ := h
  have hu := hu_of hr
  refine ⟨_, pss_cons (ps_if (pt_not (pt_val
      (pe_calM Mh hr (pv 0) (pa_cons (pv 1) pa_nil)))) (pss_one ps_never)
      pss_nil)
    (pss_one (ps_ret (pe_dget hu (pe_fld (pv 0) rfl) (pv 1)
      (fun _ _ => rfl)))), ?_⟩
  obtain ⟨dx, lo, d, h1, h2, h3⟩ := hb.ob
  refine ⟨_, rfl, b, dx, _, rfl, h1, bf_no _ _ (by decide +kernel)
    (by decide +kernel), _, rfl, b, ls, _, rfl, hb, nm, .inl ⟨_, rfl,
    (nm l hm).len, fun H1 s1 => ?_⟩⟩
  rw [decide_eq_true (show (SX.S l).cps.toList ∈ ls from hm)]
  refine ⟨_, rfl, iteF ?_⟩
  refine ⟨_, rfl, b, C, dx, _, _, rfl, s1 _ _ h1, T.cl, T.nP, bf_places _ _, _,
    rfl, d, _, rfl, ?_, q H1 s1⟩
  have g := DGet.k (k := Sum.inr (SX.S l)) (s1 _ _ h3)
  rw [val_prs, if_pos hm, Nat.zero_add] at g
  exact g
theorem ok_prec {f : Addr} {fd : FuncData} {k : Nat}
    (F : Fun K "precedes" "Base.precedes" s_Base_precedes f fd)
    (Mp : CalM P w K mg base C k "position_of" ["self", "item"] (spPos C)) :
    FnOk P w K mg base CX0 (k + 1) f fd ["self", "first", "second"]
      (spPrec C) := by
  refine F.ok sc_Base_precedes (fun vs H Q E h => ?_)
    (fun cv A outer s H vs Q E hr h => ?_)
  · obtain ⟨b, ls, l, m, rfl, _⟩ := h
    rfl
  obtain ⟨b, ls, l, m, rfl, hb, nm, hl, hm, q⟩ := h
  refine ⟨_, pss_one (ps_ret (pe_cmpR op_lt
    (pe_calM Mp hr (pv 0) (pa_cons (pv 1) pa_nil))
    (pe_calM Mp hr (pv 0) (pa_cons (pv 2) pa_nil)) (nomark _))), ?_⟩
  obtain ⟨dx, lo, d, h1, h2, h3⟩ := hb.ob
  refine ⟨_, rfl, b, dx, _, rfl, h1, bf_no _ _ (by decide +kernel)
    (by decide +kernel), _, rfl, b, ls, l, rfl, hb, nm, hl, fun H1 s1 => ?_⟩
  refine ⟨_, rfl, b, dx, _, rfl, s1 _ _ h1, bf_no _ _ (by decide +kernel)
    (by decide +kernel), _, rfl, b, ls, m, rfl, hb.same s1, nm, hm,
    fun H2 s2 => ⟨_, _, rfl, rfl, ?_⟩⟩
  have := q H2 (s1.trans s2)
  show Q (.bl (decide (((ls.idxOf l : Nat) : Int) <
    ((ls.idxOf m : Nat) : Int)))) H2
  rw [show decide (((ls.idxOf l : Nat) : Int) < ((ls.idxOf m : Nat) : Int)) =
    decide (ls.idxOf l < ls.idxOf m) from decide_eq_decide.mpr
      ⟨fun z => by omega, fun z => by omega⟩]
  exact this
end
end OM
namespace OM
open PySem PySem.Spec PyProof.Rows L2
/-- do two items stand the other way round -/
def invB (ls os : List (List Nat)) (l m : List Nat) : Bool :=
  !decide (V.bl (decide (ls.idxOf l < ls.idxOf m)) =
    V.bl (decide (os.idxOf l < os.idxOf m)))
def spInv (C : Addr) : Sp := fun vs H Q _ =>
  ∃ (b a : Addr) (ls os : List (List Nat)) (l m : List Nat),
  vs = [.ref b, .ref a, vS l, vS m] ∧ Ord C H b a ls os ∧ l ∈ ls ∧ m ∈ ls ∧
  ∀ H', Same H H' → Q (.bl (invB ls os l m)) H'
section
variable {P : Program} {w : World} {K : PySem.W.Frag}
  {mg : Str → Option Value} {base : Heap} {C : Addr}
theorem ok_inv {f : Addr} {fd : FuncData} {k : Nat}
    (F : Fun K "is_inverted" "is_inverted" s_is_inverted f fd)
    (Cc : Cal P w K mg base k "check_order" ["base", "order"] (spFaultOk C))
    (Mp : CalM P w K mg base C k "precedes" ["self", "first", "second"]
      (spPrec C)) :
    FnOk P w K mg base CX0 (k + 1) f fd ["base", "order", "first", "second"]
      (spInv C) := by
  refine F.ok sc_is_inverted (fun vs H Q E h => ?_)
    (fun cv A outer s H vs Q E hr h => ?_)
  · obtain ⟨b, a, ls, os, l, m, rfl, _⟩ := h
    rfl
  obtain ⟨b, a, ls, os, l, m, rfl, o, hl, hm, q⟩ := h
  have nd := sc_is_inverted.nd
  refine ⟨_, pss_cons (ps_expr (pe_cal Cc hr (pa_cons (pv 0)
      (pa_cons (pv 1) pa_nil))))
    (pss_cons (ps_set (i := 4) nd rfl (.inl rfl) (pe_calM Mp hr (pv 0)
      (pa_cons (pv 2) (pa_cons (pv 3) pa_nil))))
    (pss_cons (ps_set (i := 5) nd rfl (.inl rfl) (pe_cmpR op_lt
      (pe_bm PySem.F.plainAttrs_list PySem.F.slot_list_index
        PySem.F.type_list_index mt_index (pv 1) (pa_cons (pv 2) pa_nil))
      (pe_bm PySem.F.plainAttrs_list PySem.F.slot_list_index
        PySem.F.type_list_index mt_index (pv 1) (pa_cons (pv 3) pa_nil))
      (nomark _)))
    (pss_one (ps_ret (pe_cmpR op_ne (pv 4) (pv 5) (nomark _)))))), ?_⟩
  refine ⟨_, rfl, _, rfl, b, a, ls, os, rfl, o, fun H1 s1 => ?_⟩
  have o1 := o.same s1
  obtain ⟨dx, lo, d, h1, h2, h3⟩ := o1.ba.ob
  refine ⟨_, rfl, b, dx, _, rfl, h1, bf_no _ _ (by decide +kernel)
    (by decide +kernel), _, rfl, _, rfl, b, ls, l, m, rfl, o1.ba, o.good.nm, hl,
    hm, fun H2 s2 => ?_⟩
  have hL := SqL.of (K := K) ((o1.same s2).li)
  have ml : l ∈ os := o.pm.mem_iff.mpr hl
  have mm : m ∈ os := o.pm.mem_iff.mpr hm
  refine ⟨_, rfl, .inl ⟨rfl, _, hL⟩, _, rfl, a, _, _, os.idxOf l, vS l, rfl, rfl,
    hL, rfl, flat_S os, idx_get ml, eqV_self l, idx_first, _, rfl,
    .inl ⟨rfl, _, hL⟩, _, rfl, a, _, _, os.idxOf m, vS m, rfl, rfl,
    hL, rfl, flat_S os, idx_get mm, eqV_self m, idx_first, _, _, rfl, rfl, _,
    rfl, _, rfl, rfl, ?_⟩
  have := q H2 (s1.trans s2)
  unfold invB at this
  show Q (.bl (!decide (V.bl (decide (ls.idxOf l < ls.idxOf m)) =
    V.bl (decide (((os.idxOf l : Nat) : Int) <
      ((os.idxOf m : Nat) : Int)))))) H2
  rw [show decide (((os.idxOf l : Nat) : Int) < ((os.idxOf m : Nat) : Int)) =
    decide (os.idxOf l < os.idxOf m) from decide_eq_decide.mpr
      ⟨fun z => by omega, fun z => by omega⟩]
  exact this
end
end OM
namespace OM
open PySem PySem.Spec PyProof.Rows L2
/-- the inverted pairs, new tuples in a new list -/
def spPairs (C : Addr) : Sp := fun vs H Q _ =>
  ∃ (b a : Addr) (ls os : List (List Nat)), vs = [.ref b, .ref a] ∧
  Ord C H b a ls os ∧ ∀ (q : Addr) (rs : List Addr) (H' : Hp), H q = none →
    H' q = some (.lst (rs.map V.ref)) → PrsAt H' rs (invAll ls os) →
    Same H H' → Q (.ref q) H'
/-- the same by the law -/
def spLInv : Sp := fun vs H Q _ =>
  ∃ (it a : Addr) (ls os : List (List Nat)), vs = [.ref it, .ref a] ∧
  H it = some (.lst (ls.map vS)) ∧ H a = some (.lst (os.map vS)) ∧ Good ls ∧
  os.Perm ls ∧ ∀ (q : Addr) (rs : List Addr) (H' : Hp), H q = none →
    H' q = some (.lst (rs.map V.ref)) → PrsAt H' rs (invAll ls os) →
    Same H H' → Q (.ref q) H'
theorem invF_snoc (os : List (List Nat)) (f : List Nat) (r : List (List Nat))
    (s : List Nat) : invF os f (r ++ [s]) = invF os f r ++
      if os.idxOf s < os.idxOf f then [(f, s)] else [] := by
  unfold invF
  rw [List.filter_append, List.map_append]
  congr 1
  by_cases h : os.idxOf s < os.idxOf f
  · rw [List.filter_cons_of_pos (by simpa using h), if_pos h]
    rfl
  · rw [List.filter_cons_of_neg (by simpa using h), if_neg h]
    rfl
theorem take_snoc {α : Type} {r : List α} {j : Nat} {s : α}
    (h : r[j]? = some s) : r.take (j + 1) = r.take j ++ [s] := by
  rw [List.take_add_one, h]
  rfl
theorem Good.many {ls : List (List Nat)} (g : Good ls) (os : List (List Nat))
    {i : Nat} (hi : i ≤ ls.length) : (invTo ls os i).length ≤ 1600 := by
  have a := invTo_len ls os i hi
  have b := g.hi
  have : i * ls.length ≤ 40 * 40 := Nat.mul_le_mul (by omega) b
  omega
theorem SqL.up {K : PySem.W.Frag} {H H' : Hp} {a : Addr} {xs : List V}
    (h : H a = some (.lst xs)) (s : Same H H') : SqL K H' a xs :=
  SqL.of (s _ _ h)
theorem PrsAt.put {H : Hp} {D : Addr} {o : HO} {xs : List V} :
    ∀ {rs : List Addr} {ps : List Pr}, PrsAt H rs ps →
      H D = some (.lst xs) → PrsAt (upd H D o) rs ps
  | _, _, .nil, _ => .nil
  | _, _, .cons h t, hD => .cons (by
      rw [upd_ne (ne_of h hD nofun)]; exact h) (PrsAt.put t hD)
end OM
namespace OM
open PySem PySem.Spec PyProof.Rows L2
section
variable {P : Program} {w : World} {K : PySem.W.Frag}
  {mg : Str → Option Value} {base : Heap} {C : Addr}
theorem ok_pairs {f : Addr} {fd : FuncData} {k : Nat}
    (F : Fun K "inverted_pairs" "inverted_pairs" s_inverted_pairs f fd)
    (B : Bl mg)
    (Cc : Cal P w K mg base k "check_order" ["base", "order"] (spFaultOk C))
    (Mn : CalM P w K mg base C k "names" ["self"] (spGetNames C)) :
    FnOk P w K mg base CX0 (k + 1) f fd ["base", "order"] (spPairs C) := by
  refine F.ok sc_inverted_pairs (fun vs H Q E h => ?_)
    (fun cv A outer s H vs Q E hr h => ?_)
  · obtain ⟨b, a, ls, os, rfl, _⟩ := h
    rfl
  obtain ⟨b, a, ls, os, rfl, o, q⟩ := h
  have nd := sc_inverted_pairs.nd
  have hu := hu_of hr
  refine ⟨_, pss_cons (ps_expr (pe_cal Cc hr (pa_cons (pv 0)
      (pa_cons (pv 1) pa_nil))))
    (pss_cons (ps_set (i := 2) nd rfl (.inr rfl)
      (pe_dc (own := [("name", 3), ("at", 4)])
        (g := gTup K 2 (gCons (gName 4) (gCons (gName 3) gNil)))
        (tt := tYes) rfl nd
        (pi_enum (by rfl) B.enum (pa_cons (pv 1) pa_nil))
        (blkOk_by (N := N_inverted_pairs) (sc := defScope s_inverted_pairs)
          (by decide +kernel))
        (fun _ _ _ _ _ => pg_tup rfl (pgs_cons (pg_name (i := 4) nd rfl
          (Or.inl rfl)) (pgs_cons (pg_name (i := 3) nd rfl (Or.inl rfl))
          pgs_nil)))
        (fun _ _ _ _ _ => pts_nil) (fun _ _ _ _ _ => pv 3)
        (fun _ _ _ _ _ => pv 4)))
    (pss_cons (ps_set (i := 5) nd rfl (.inr rfl) (pe_calM0 Mn hr (pv 0)))
    (pss_one (ps_ret
      (pe_lc2 (own := [("at", 4), ("first", 6), ("second", 7)]) (vs1 := [7])
        (g := gTup K 2 (gCons (gName 4) (gCons (gName 6) gNil)))
        (tt := tYes) (g1 := gName 7)
        (wi1 := iList K (tSl (rSlL K) (tVar 5) (tPart (tOp
          (rI0 fun i j => .int (i + j)) (tVar 4) (tC (.int 1)))) tNoPart))
        rfl nd
        (pi_enum (by rfl) B.enum (pa_cons (pv 5) pa_nil))
        (blkOk_by (N := N_inverted_pairs) (sc := defScope s_inverted_pairs)
          (by decide +kernel))
        (by decide)
        (fun _ _ _ _ _ => pg_tup rfl (pgs_cons (pg_name (i := 4) nd rfl
          (Or.inl rfl)) (pgs_cons (pg_name (i := 6) nd rfl (Or.inl rfl))
          pgs_nil)))
        (fun _ _ _ _ _ => pts_nil)
        (fun _ _ _ _ _ => pi_list (pe_slice sl_list (pv 5)
          (po_some (pe_op op_add (pv 4) pe_int)) po_none))
        (fun _ _ _ _ _ => pg_name (i := 7) nd rfl (Or.inl rfl))
        (fun _ _ _ _ _ => pts_one (pt_cmpR op_lt
          (pe_dget hu (pv 2) (pv 7) (fun _ _ => rfl))
          (pe_dget hu (pv 2) (pv 6) (fun _ _ => rfl)) (nomark _)))
        (fun _ _ _ _ _ => pe_tup (pa_cons (pv 6)
          (pa_cons (pv 7) pa_nil)))))))), ?_⟩
  have go := o.good.perm o.pm
  refine ⟨_, rfl, _, rfl, b, a, ls, os, rfl, o, fun H1 s1 => ?_⟩
  have o1 := o.same s1
  -- places
  refine ⟨_, rfl, a, _, rfl, SqL.of o1.li, fun d nd' => ?_⟩
  refine walkW (walk_enum (K := K) (a := a) (xs := os.map vS))
    (fun i H' => H' d = some (.dK (prs 0 (os.take i))) ∧ Same H1 H')
    ⟨upd_same, sameNew nd'⟩ (fun i H' _ z => SqL.up o1.li z.2) ?_ ?_
  · rintro i v H3 H4 hi ⟨hd, s3⟩ ⟨T', x1, x2, rfl, nT, rfl, e1, e2⟩
    obtain ⟨l, hl, rfl⟩ := get_map e2
    cases Option.some.inj e1
    rw [List.length_map] at hi
    have hhi := go.hi
    refine ⟨T', _, rfl, .inl (.inl upd_same), rfl, _, _, rfl, _, _, rfl, rfl,
      rfl, yes ⟨_, rfl, _, rfl, prs 0 (os.take i), Sum.inr (SX.S l), rfl, ?_, ?_,
      ?_, ?_⟩⟩
    · rw [upd_ne (ne_of_none hd nT)]
      exact hd
    · rw [prs_len, List.length_take]
      exact sz' (by omega)
    · rw [upd_same, putK_new _ (by
        rw [val_prs, if_neg (nodup_take go.nd hl)]), take_snoc hl, prs_snoc,
        List.length_take, Nat.min_eq_left (by omega), Nat.zero_add]
    · exact OM.Same.put (s3.trans (sameNew nT)) nd'
  rintro H2 ⟨hd, s2⟩
  rw [List.take_of_length_le (by rw [List.length_map]; exact Nat.le_refl _)]
    at hd
  have o2 := o1.same s2
  -- names
  obtain ⟨dx, lo, e, h1, h2, h3⟩ := o2.ba.ob
  refine ⟨_, rfl, b, dx, _, rfl, h1, bf_no _ _ (by decide +kernel)
    (by decide +kernel), b, ls, rfl, o2.ba, fun nm H3 nn hn s3 => ?_⟩
  have hd3 := s3 _ _ hd
  -- the pairs
  refine ⟨_, rfl, nm, _, rfl, SqL.of hn, fun D nD => ?_⟩
  refine walkW (walk_enum (K := K) (a := nm) (xs := ls.map vS))
    (fun i H' => ∃ rs, H' D = some (.lst (rs.map V.ref)) ∧
      PrsAt H' rs (invTo ls os i) ∧ Same H3 H')
    ⟨[], upd_same, .nil, sameNew nD⟩ (fun i H' _ z => by
      obtain ⟨_, _, _, s⟩ := z; exact SqL.up hn s) ?_ ?_
  · rintro i v H4 H5 hi ⟨rs, hD, pr, s4⟩ ⟨T', x1, x2, rfl, nT, rfl, e1, e2⟩
    obtain ⟨g, hg, rfl⟩ := get_map e2
    cases Option.some.inj e1
    rw [List.length_map] at hi
    have mg' : g ∈ os := o.pm.mem_iff.mpr (List.mem_of_getElem? hg)
    have s5 : Same H3 (upd H4 T' (.tup [.int (i : Nat), vS g])) :=
      s4.trans (sameNew nT)
    have hD5 : (upd H4 T' (.tup [.int (i : Nat), vS g])) D =
        some (.lst (rs.map V.ref)) := by rw [upd_ne (ne_of_none hD nT)]; exact hD
    have pr5 := pr.same (sameNew (o := .tup [.int (i : Nat), vS g]) nT)
    refine ⟨T', _, rfl, .inl (.inl upd_same), rfl, _, _, rfl, _, _, rfl, rfl,
      rfl, yes ⟨_, rfl, _, rfl, _, _, rfl, rfl, _, rfl, nm, _, rfl,
      SqL.up hn s5, fun t nt => ?_⟩⟩
    have ec : cutV (ls.map vS) (some ((i : Int) + 1)) none =
        (ls.drop (i + 1)).map vS := by
      have := cut_from (ls.map vS) (n := i + 1) (by
        rw [List.length_map]; omega)
      rw [← List.map_drop] at this
      exact this
    rw [ec]
    refine ⟨t, rfl, ⟨_, SqL.of upd_same⟩, ?_⟩
    have ntD : D ≠ t := ne_of_none hD5 nt
    refine walkW (walk_list (K := K) (a := t)
      (xs := (ls.drop (i + 1)).map vS))
      (fun j H' => ∃ rs, H' D = some (.lst (rs.map V.ref)) ∧
        PrsAt H' rs (invTo ls os i ++ invF os g ((ls.drop (i + 1)).take j)) ∧
        Same H3 H' ∧ H' t = some (.lst ((ls.drop (i + 1)).map vS)))
      ⟨rs, by rw [upd_ne ntD]; exact hD5, ?_, s5.trans (sameNew nt), upd_same⟩
      (fun j H' _ z => by obtain ⟨_, _, _, _, h⟩ := z; exact SqL.of h) ?_ ?_
    · rw [List.take_zero, show invF os g [] = [] from rfl, List.append_nil]
      exact pr5.same (sameNew nt)
    · rintro j v H6 H7 hj ⟨rs, hD6, pr6, s6, ht⟩ ⟨rfl, ex⟩
      obtain ⟨c, hc, rfl⟩ := get_map ex
      have mc : c ∈ os := o.pm.mem_iff.mpr (List.mem_of_mem_drop
        (List.mem_of_getElem? hc))
      have g1 := DGet.k (k := Sum.inr (SX.S c)) (s6 _ _ hd3)
      have g2 := DGet.k (k := Sum.inr (SX.S g)) (s6 _ _ hd3)
      rw [val_prs, if_pos mc, Nat.zero_add] at g1
      rw [val_prs, if_pos mg', Nat.zero_add] at g2
      refine ⟨rfl, _, rfl, _, rfl, d, _, rfl, g1, _, rfl, _, rfl, d, _, rfl, g2,
        _, _, rfl, rfl, _, rfl, ?_⟩
      have m1 := o.good.many os (show i ≤ ls.length by omega)
      have m2 := invF_len os g ((ls.drop (i + 1)).take j)
      rw [List.length_take, List.length_drop] at m2
      have hhi := o.good.hi
      have lrs := pr6.len
      rw [List.length_append] at lrs
      refine ite2 (fun z => ?_) (fun z => ?_)
      · have z' : os.idxOf c < os.idxOf g := by
          have : ((os.idxOf c : Nat) : Int) < ((os.idxOf g : Nat) : Int) :=
            of_decide_eq_true z
          omega
        refine ⟨_, rfl, _, rfl, sz (by simp), fun r nr => ⟨rs.map V.ref, ?_, ?_,
          rs ++ [r], ?_, ?_, ?_, ?_⟩⟩
        · rw [upd_ne (ne_of_none hD6 nr)]
          exact hD6
        · rw [List.length_map]
          exact sz' (by omega)
        · rw [upd_same, List.map_append]
          rfl
        · rw [take_snoc hc, invF_snoc, if_pos z', ← List.append_assoc]
          refine (PrsAt.snoc (p := (g, c)) upd_same (pr6.same (sameNew nr))).put
            (xs := rs.map V.ref) ?_
          rw [upd_ne (ne_of_none hD6 nr)]
          exact hD6
        · exact OM.Same.put (s6.trans (sameNew nr)) nD
        · rw [upd_ne (ne_of ht hD6 (fun y => ?_)), upd_ne (ne_of_none ht nr)]
          · exact ht
          · exact absurd y (fun y => by
              have y' := HO.lst.inj y
              have : 0 < (ls.drop (i + 1)).length := by
                have := (List.getElem?_eq_some_iff.mp hc).1
                omega
              cases e : ls.drop (i + 1) with
              | nil => rw [e] at this; exact absurd this (by decide)
              | cons x r =>
                rw [e] at y'
                cases rs with
                | nil => cases y'
                | cons r0 rr => cases (List.cons.inj y').1)
      · have z' : ¬ os.idxOf c < os.idxOf g := fun y => z (decide_eq_true
          (show ((os.idxOf c : Nat) : Int) < ((os.idxOf g : Nat) : Int) by
            omega))
        refine ⟨rs, hD6, ?_, s6, ht⟩
        rw [take_snoc hc, invF_snoc, if_neg z', List.append_nil]
        exact pr6
    · rintro H6 ⟨rs, hD6, pr6, s6, ht⟩
      refine ⟨rs, hD6, ?_, s6⟩
      rw [List.take_of_length_le (by rw [List.length_map]; exact Nat.le_refl _)]
        at pr6
      show PrsAt H6 rs (invTo ls os i ++ _)
      rw [hg]
      exact pr6
  · rintro H4 ⟨rs, hD, pr, s4⟩
    rw [List.length_map] at pr
    refine q D rs H4 ?_ hD pr (((s1.trans s2).trans s3).trans s4)
    exact ((s1.trans s2).trans s3).free nD
end
end OM
namespace OM
open PySem PySem.Spec PyProof.Rows L2
structure Bl2 (mg : Str → Option Value) : Prop where
  dict : mg "dict" = none
  int : mg "int" = none
theorem bt_dict : bootBuiltins "dict" = some (.type "dict") := by
  decide +kernel
theorem bt_int : bootBuiltins "int" = some (.type "int") := by
  decide +kernel
theorem merge_prs {ls : List (List Nat)} (nd : ls.Nodup) : ∀ i, i ≤ ls.length →
    mergeK [] (prs 0 (ls.take i)) = prs 0 (ls.take i)
  | 0, _ => rfl
  | i + 1, h => by
    have ih := merge_prs nd i (by omega)
    have hi : ls[i]? = some ls[i] := List.getElem?_eq_getElem (by omega)
    rw [take_snoc hi, prs_snoc]
    unfold mergeK at ih ⊢
    rw [List.foldl_append, ih]
    show putK (prs 0 (ls.take i)) (Sum.inr (SX.S ls[i])) _ = _
    rw [putK_new _ (by rw [val_prs, if_neg (nodup_take nd hi)])]
/-- the tuples (item, place) -/
def KvAt (K : PySem.W.Frag) (H : Hp) (rs : List Addr)
    (kvs : List (Key × V)) : Prop :=
  Paired (fun p (kv : Key × V) => SqT K H p [kV kv.1, kv.2]) rs kvs
theorem KvAt.snoc {K : PySem.W.Frag} {H : Hp} {r : Addr} {kv : Key × V}
    (h : SqT K H r [kV kv.1, kv.2]) : ∀ {rs : List Addr}
    {kvs : List (Key × V)}, KvAt K H rs kvs → KvAt K H (rs ++ [r]) (kvs ++ [kv])
  | _, _, .nil => .cons h .nil
  | _, _, .cons a t => .cons a (KvAt.snoc h t)
theorem KvAt.len {K : PySem.W.Frag} {H : Hp} : ∀ {rs : List Addr}
    {kvs : List (Key × V)}, KvAt K H rs kvs → rs.length = kvs.length
  | _, _, .nil => rfl
  | _, _, .cons _ t => congrArg (· + 1) (KvAt.len t)
theorem SqT.put {K : PySem.W.Frag} {H : Hp} {r D : Addr} {o : HO}
    {xs ys : List V} (h : SqT K H r xs) (hD : H D = some (.lst ys)) :
    SqT K (upd H D o) r xs := by
  rcases h with (h | ⟨ob, h⟩) | h
  · exact .inl (.inl (by rw [upd_ne (ne_of h hD nofun)]; exact h))
  · exact .inl (.inr ⟨ob, by rw [upd_ne (ne_of h hD nofun)]; exact h⟩)
  · exact .inr h
theorem SqT.same {K : PySem.W.Frag} {H H' : Hp} {r : Addr} {xs : List V}
    (h : SqT K H r xs) (s : Same H H') : SqT K H' r xs := by
  rcases h with (h | ⟨ob, h⟩) | h
  · exact .inl (.inl (s _ _ h))
  · exact .inl (.inr ⟨ob, s _ _ h⟩)
  · exact .inr h
theorem KvAt.put {K : PySem.W.Frag} {H : Hp} {D : Addr} {o : HO} {ys : List V}
    (hD : H D = some (.lst ys)) : ∀ {rs : List Addr} {kvs : List (Key × V)},
    KvAt K H rs kvs → KvAt K (upd H D o) rs kvs
  | _, _, .nil => .nil
  | _, _, .cons h t => .cons (OM.SqT.put h hD) (KvAt.put hD t)
theorem KvAt.same {K : PySem.W.Frag} {H H' : Hp} (s : Same H H') :
    ∀ {rs : List Addr} {kvs : List (Key × V)},
    KvAt K H rs kvs → KvAt K H' rs kvs
  | _, _, .nil => .nil
  | _, _, .cons h t => .cons (OM.SqT.same h s) (KvAt.same s t)
end OM
namespace OM
open PySem PySem.Spec PyProof.Rows L2
abbrev jn (ls : List (List Nat)) : List Nat := TL.joinL [32] ls
theorem sp_S : Str.ofString " " = SX.S [32] := by
  refine TL.ext_tl ?_
  decide +kernel
theorem join_sp (ls : List (List Nat)) :
    Txt.join (Str.ofString " ") (ls.map SX.S) = SX.S (jn ls) := by
  rw [sp_S]
  exact SX.join_S [32] ls
theorem lens_le {m : Nat} : ∀ {ls : List (List Nat)},
    (∀ l ∈ ls, l.length ≤ m) →
    ((ls.map SX.S).map (·.length)).sum ≤ ls.length * m
  | [], _ => Nat.zero_le _
  | l :: r, h => by
    have ih := lens_le (ls := r) fun x hx => h x (List.mem_cons_of_mem _ hx)
    have h1 := h l List.mem_cons_self
    have h2 : (SX.S l).length = l.length := SX.S_len l
    rw [List.map_cons, List.map_cons, List.sum_cons, List.length_cons,
      Nat.add_mul, h2]
    omega
def spDumpO (C : Addr) : Sp := fun vs H Q _ =>
  ∃ (b a : Addr) (ls os : List (List Nat)), vs = [.ref b, .ref a] ∧
  Ord C H b a ls os ∧ ∀ H', Same H H' → Q (vS (jn os)) H'
section
variable {P : Program} {w : World} {K : PySem.W.Frag}
  {mg : Str → Option Value} {base : Heap} {C : Addr}
theorem ok_dumpO {f : Addr} {fd : FuncData} {k : Nat}
    (F : Fun K "dump_order" "dump_order" s_dump_order f fd)
    (Co : Cal P w K mg base k "check_order" ["base", "order"]
      (spFaultOk C)) :
    FnOk P w K mg base CX0 (k + 1) f fd ["base", "order"] (spDumpO C) := by
  refine F.ok sc_dump_order (fun vs H Q E h => ?_)
    (fun cv A outer s H vs Q E hr h => ?_)
  · obtain ⟨b, a, ls, os, rfl, _⟩ := h
    rfl
  obtain ⟨b, a, ls, os, rfl, o, q⟩ := h
  refine ⟨_, pss_cons (ps_expr (pe_cal Co hr (pa_cons (pv 0)
      (pa_cons (pv 1) pa_nil))))
    (pss_one (ps_ret (pe_join pe_str (pv 1)))), ?_⟩
  have gd := o.good.perm o.pm
  refine ⟨_, rfl, _, rfl, b, a, ls, os, rfl, o, fun H1 s1 => ?_⟩
  refine ⟨⟨_, rfl⟩, _, rfl, _, a, os.map SX.S, rfl, rfl, .inl (SqL.of (by
    rw [List.map_map]; exact s1 _ _ o.li)), ?_, ?_⟩
  · have a1 := lens_le (m := 8) fun l h => (gd.nm l h).hi
    have a2 := gd.hi
    have a3 : (Str.ofString " ").length = 1 := by decide +kernel
    rw [a3, List.length_map]
    omega
  · rw [join_sp]
    exact q H1 s1
end
end OM
namespace OM
open PySem PySem.Spec PyProof.Rows L2
/-! ### where a value is no order of the base -/
def pfG (ls : List (List Nat)) : Nat → List (List Nat) →
    List (Option (List Nat)) → Option Nat
  | _, _, [] => none
  | i, _, none :: _ => some i
  | i, seen, some l :: r =>
    if l ∈ ls ∧ l ∉ seen then pfG ls (i + 1) (seen ++ [l]) r else some i
def pf (ls : List (List Nat)) (xs : List V) : Option Nat :=
  match pfG ls 0 [] (xs.map tx) with
  | some i => some i
  | none => if xs.length < ls.length then some xs.length else none
def ansP : Option Nat → V
  | none => .non
  | some n => .int (n : Nat)
theorem pf_some {ls : List (List Nat)} {xs : List V} {i : Nat}
    (h : pfG ls 0 [] (xs.map tx) = some i) : pf ls xs = some i := by
  unfold pf
  rw [h]
theorem pf_end {ls : List (List Nat)} {xs : List V}
    (h : pfG ls 0 [] (xs.map tx) = none) :
    pf ls xs = if xs.length < ls.length then some xs.length else none := by
  unfold pf
  rw [h]
/-- what the loop knows before its i-th turn -/
structure PfAt (ls : List (List Nat)) (xs : List V) (i : Nat)
    (os : List (List Nat)) : Prop where
  tk : xs.take i = os.map vS
  nd : os.Nodup
  sub : ∀ l ∈ os, l ∈ ls
  eq : pfG ls 0 [] (xs.map tx) = pfG ls i os ((xs.drop i).map tx)
theorem PfAt.zero (ls : List (List Nat)) (xs : List V) : PfAt ls xs 0 [] :=
  ⟨by simp, List.nodup_nil, nofun, by rw [List.drop_zero]⟩
theorem tx_S (l : List Nat) : tx (vS l) = some l := by
  unfold tx vS
  simp [SX.S]
theorem PfAt.next {ls : List (List Nat)} {xs : List V} {i : Nat}
    {os : List (List Nat)} {l : List Nat} (h : PfAt ls xs i os)
    (e : xs[i]? = some (vS l)) (h1 : l ∈ ls) (h2 : l ∉ os) :
    PfAt ls xs (i + 1) (os ++ [l]) := by
  refine ⟨?_, ?_, ?_, ?_⟩
  · rw [List.take_add_one, e, h.tk, List.map_append]
    rfl
  · rw [List.nodup_append]
    refine ⟨h.nd, by simp, fun x hx y hy => ?_⟩
    rw [List.mem_singleton.mp hy]
    exact fun z => h2 (by rw [← z]; exact hx)
  · intro x hx
    rcases List.mem_append.mp hx with hx | hx
    · exact h.sub x hx
    · rw [List.mem_singleton.mp hx]
      exact h1
  · rw [h.eq, drop_cons e, List.map_cons, tx_S]
    show (if _ then _ else _) = _
    rw [if_pos ⟨h1, h2⟩]
theorem PfAt.bad {ls : List (List Nat)} {xs : List V} {i : Nat}
    {os : List (List Nat)} {v : V} (h : PfAt ls xs i os)
    (e : xs[i]? = some v)
    (b : tx v = none ∨ ∃ l, tx v = some l ∧ ¬ (l ∈ ls ∧ l ∉ os)) :
    pf ls xs = some i := by
  refine pf_some ?_
  rw [h.eq, drop_cons e, List.map_cons]
  rcases b with b | ⟨l, b, n⟩
  · rw [b]
    rfl
  · rw [b]
    show (if _ then _ else _) = _
    rw [if_neg n]
theorem PfAt.done {ls : List (List Nat)} {xs : List V}
    {os : List (List Nat)} (h : PfAt ls xs xs.length os) :
    xs = os.map vS ∧
    pf ls xs = if xs.length < ls.length then some xs.length else none := by
  refine ⟨?_, pf_end ?_⟩
  · have := h.tk
    rw [List.take_length] at this
    exact this
  · rw [h.eq, List.drop_length]
    rfl
theorem perm_sub' {α : Type} [DecidableEq α] : ∀ (os ls : List α), os.Nodup →
    (∀ x ∈ os, x ∈ ls) → ls.length ≤ os.length → os.Perm ls
  | [], ls, _, _, h => by
    rw [List.eq_nil_of_length_eq_zero (Nat.le_zero.mp h)]
  | x :: r, ls, nd, sub, h => by
    have hx := sub x List.mem_cons_self
    have nc := List.nodup_cons.mp nd
    have ih := perm_sub' r (ls.erase x) nc.2 (fun y hy =>
      (List.mem_erase_of_ne (fun e => by rw [e] at hy; exact nc.1 hy)).mpr
        (sub y (List.mem_cons_of_mem _ hy))) (by
      rw [List.length_erase_of_mem hx]
      rw [List.length_cons] at h
      omega)
    exact (ih.cons x).trans (List.perm_cons_erase hx).symm
theorem tx_some {v : V} {l : List Nat} (h : tx v = some l) : v = vS l := by
  cases v with
  | str x =>
    have : x.cps.toList = l := Option.some.inj h
    rw [← this, vS, SX.S_tl]
  | _ => cases h
/-- what pf has passed is an order's beginning -/
theorem pfG_none {ls : List (List Nat)} : ∀ (r : List (Option (List Nat)))
    (i : Nat) (seen : List (List Nat)), pfG ls i seen r = none →
    seen.Nodup → (∀ l ∈ seen, l ∈ ls) →
    ∃ os, r = os.map some ∧ (seen ++ os).Nodup ∧ ∀ l ∈ seen ++ os, l ∈ ls
  | [], _, seen, _, nd, sub => ⟨[], rfl, by rw [List.append_nil]; exact nd,
      by rw [List.append_nil]; exact sub⟩
  | none :: _, _, _, h, _, _ => by cases h
  | some l :: r, i, seen, h, nd, sub => by
    have h : (if l ∈ ls ∧ l ∉ seen then pfG ls (i + 1) (seen ++ [l]) r
      else some i) = none := h
    by_cases c : l ∈ ls ∧ l ∉ seen
    · rw [if_pos c] at h
      obtain ⟨os, e, n2, s2⟩ := pfG_none r (i + 1) (seen ++ [l]) h (by
        rw [List.nodup_append]
        refine ⟨nd, by simp, fun x hx y hy => ?_⟩
        rw [List.mem_singleton.mp hy]
        exact fun z => c.2 (by rw [← z]; exact hx)) (fun x hx => by
        rcases List.mem_append.mp hx with hx | hx
        · exact sub x hx
        · rw [List.mem_singleton.mp hx]
          exact c.1)
      refine ⟨l :: os, by rw [e]; rfl, ?_, ?_⟩
      · rw [List.append_assoc] at n2
        exact n2
      · rw [List.append_assoc] at s2
        exact s2
    · rw [if_neg c] at h
      cases h
theorem pf_none {ls : List (List Nat)} {xs : List V} (h : pf ls xs = none) :
    ∃ os : List (List Nat), xs = os.map vS ∧ os.Perm ls := by
  unfold pf at h
  cases e : pfG ls 0 [] (xs.map tx) with
  | some i => rw [e] at h; cases h
  | none =>
    rw [e] at h
    have h : (if xs.length < ls.length then some xs.length else none) =
      none := h
    by_cases c : xs.length < ls.length
    · rw [if_pos c] at h
      cases h
    · obtain ⟨os, e1, n1, s1⟩ := pfG_none _ _ _ e List.nodup_nil nofun
      rw [List.nil_append] at n1 s1
      have el : xs.length = os.length := by
        have := congrArg List.length e1
        rw [List.length_map, List.length_map] at this
        exact this
      refine ⟨os, ?_, perm_sub' os ls n1 s1 (by omega)⟩
      apply List.ext_getElem?
      intro i
      have q := congrArg (fun l => l[i]?) e1
      simp only [List.getElem?_map] at q ⊢
      cases hx : xs[i]? with
      | none =>
        rw [hx] at q
        cases ho : os[i]? with
        | none => rfl
        | some o => rw [ho] at q; cases q
      | some v =>
        rw [hx] at q
        cases ho : os[i]? with
        | none => rw [ho] at q; cases q
        | some o =>
          rw [ho] at q
          have q' : tx v = some o := Option.some.inj q
          rw [tx_some q']
          rfl
/-- a value, and what is told of it -/
def Jv (K : PySem.W.Frag) (H : Hp) (ls : List (List Nat)) (v : V)
    (r : Option Nat) : Prop :=
  (∃ t, TyOf K H v t ∧ PySem.W.kitOne K t (.type "list") = some false ∧
    r = some 0) ∨
  (∃ a xs, v = .ref a ∧ H a = some (.lst xs) ∧ (∀ x ∈ xs, Elt1 K H x) ∧
    xs.length ≤ 1000 ∧ r = pf ls xs)
theorem Jv.same {K : PySem.W.Frag} {H H' : Hp} {ls : List (List Nat)} {v : V}
    {r : Option Nat} (h : Jv K H ls v r) (s : Same H H') :
    Jv K H' ls v r := by
  rcases h with ⟨t, a, b, c⟩ | ⟨a, xs, rfl, h1, h2, h3, h4⟩
  · exact .inl ⟨t, OM.TyOf.same a s, b, c⟩
  · exact .inr ⟨a, xs, rfl, s _ _ h1, fun x hx => (h2 x hx).same s, h3, h4⟩
theorem Jv.right {K : PySem.W.Frag} {H : Hp} {ls : List (List Nat)} {v : V}
    (h : Jv K H ls v none) : ∃ (a : Addr) (os : List (List Nat)), v = .ref a ∧
      H a = some (.lst (os.map vS)) ∧ os.Perm ls := by
  rcases h with ⟨t, a, b, c⟩ | ⟨a, xs, rfl, h1, h2, h3, h4⟩
  · cases c
  · obtain ⟨os, rfl, pm⟩ := pf_none h4.symm
    exact ⟨a, os, rfl, h1, pm⟩
/-- order_fault, whatever it is given -/
def spFltX (K : PySem.W.Frag) (C : Addr) : Sp := fun vs H Q _ =>
  ∃ (b : Addr) (v : V) (ls : List (List Nat)) (r : Option Nat),
  vs = [.ref b, v] ∧ BaseAt C H b ls ∧ Good ls ∧ Jv K H ls v r ∧
  ∀ H', Same H H' → Q (ansP r) H'
def spIsOrdX (K : PySem.W.Frag) (C : Addr) : Sp := fun vs H Q _ =>
  ∃ (b : Addr) (v : V) (ls : List (List Nat)) (r : Option Nat),
  vs = [.ref b, v] ∧ BaseAt C H b ls ∧ Good ls ∧ Jv K H ls v r ∧
  ∀ H', Same H H' → Q (.bl (decide (r = none))) H'
/-- an error of one field leaves -/
def XOut (C : Addr) (f : Str) (H : Hp) (E : XK) (v : V) : Prop :=
  ∀ d H', H d = none → H' d = some (.xd [(f, v)]) →
    Same H H' → E (.ref C) (some d) H'
theorem XOut.back {C : Addr} {f : Str} {H H1 : Hp} {E : XK} {v : V}
    (h : XOut C f H E v) (s : Same H H1) : XOut C f H1 E v :=
  fun d H' nd e s' => h d H' (s.free nd) e (s.trans s')
/-- what check_order raises -/
def spChkX (K : PySem.W.Frag) (C CV : Addr) : Sp := fun vs H _ E =>
  ∃ (b : Addr) (v : V) (ls : List (List Nat)) (n : Nat),
  vs = [.ref b, v] ∧ BaseAt C H b ls ∧ Good ls ∧ Jv K H ls v (some n) ∧
  XOut CV "position" H E (.int (n : Nat))
section
variable {P : Program} {w : World} {K : PySem.W.Frag}
  {mg : Str → Option Value} {base : Heap} {C CV CU : Addr}
theorem ok_fltX {f fl : Addr} {fd fdl : FuncData} {k n : Nat}
    (F : Fun K "order_fault" "order_fault" s_order_fault f fd) (B : Bl mg)
    (T : BC K mg C)
    (Mh : CalM P w K mg base C k "has_item" ["self", "value"] (spHas K C))
    (Sl : Spec1 K C "__len__" fl fdl ["self"])
    (Gl : FnOk P w K mg base CX0 n fl fdl ["self"] (spLenB C))
    (hn : n + 1 ≤ k) :
    FnOk P w K mg base CX0 (k + 1) f fd ["base", "value"] (spFltX K C) := by
  refine F.ok sc_order_fault (fun vs H Q E h => ?_)
    (fun cv A outer s H vs Q E hr h => ?_)
  · obtain ⟨b, v, ls, r, rfl, _⟩ := h
    rfl
  obtain ⟨b, v, ls, r, rfl, hb, gd, j, q⟩ := h
  have nd := sc_order_fault.nd
  have hrn := hr.mono hn
  refine ⟨_, pss_cons (ps_if (pt_not (pt_val
      (pe_callB call_isi (by rfl) B.isi bt_isi (pa_cons (pv 1) (pa_cons
        (pe_bltn (v := .ty "list") (by rfl) B.list bt_list rfl) pa_nil)))))
      (pss_one (ps_ret pe_int)) pss_nil)
    (pss_cons (ps_for PassesOwn.never rfl
      (pi_enum (by rfl) B.enum (pa_cons (pv 1) pa_nil))
      (pg_tup rfl (pgs_cons (pg_name (i := 2) nd rfl (.inl rfl))
        (pgs_cons (pg_name (i := 3) nd rfl (.inl rfl)) pgs_nil)))
      (pss_one (ps_if (PW.pt (pw_or (pt_not (pt_val
          (pe_calM Mh hr (pv 0) (pa_cons (pv 3) pa_nil))))
          (pw_or1 (pt_cmpR op_in_seq (pv 3)
            (pe_slice sl_list (pv 1) po_none (po_some (pv 2))) (by rfl)))))
        (pss_one (ps_ret (pv 2))) pss_nil)))
    (pss_cons (ps_if (pt_cmpR op_lt
        (pe_callB call_len_seq (by rfl) B.len PySem.boot_len
          (pa_cons (pv 1) pa_nil))
        (pe_callB (call_lenOwn Sl Gl hrn) (by rfl) B.len PySem.boot_len
          (pa_cons (pv 0) pa_nil)) (nomark _))
      (pss_one (ps_ret (pe_callB call_len_seq (by rfl) B.len PySem.boot_len
          (pa_cons (pv 1) pa_nil)))) pss_nil)
    (pss_one (ps_ret pe_non)))), ?_⟩
  rcases j with ⟨t, ty, kt, rfl⟩ | ⟨a, xs, rfl, ha, el, hx, rfl⟩
  · exact ⟨_, rfl, _, _, _, _, false, rfl, .ty "list", .base ty, kt, _, rfl,
      iteT (q H (Same.refl H))⟩
  refine ⟨_, rfl, _, _, _, _, true, rfl, .ty "list", .base (.lst ha),
    kit_ty (by decide +kernel), _, rfl, iteF ?_⟩
  refine ⟨_, rfl, a, _, rfl, SqL.of ha, ?_⟩
  refine for_it (walk_enum (K := K) (a := a) (xs := xs))
    (fun i σ H' => ∃ (y z : Option V) (os : List (List Nat)),
      σ = [some (.ref b), some (.ref a), y, z] ∧ Same H H' ∧
      PfAt ls xs i os)
    ⟨none, none, [], rfl, Same.refl H, .zero ls xs⟩
    (fun i σ H' _ z => by
      obtain ⟨_, _, _, _, sm, _⟩ := z
      exact SqL.of (sm _ _ ha))
    ?_ ?_
  · rintro i v σ H1 H2 hi ⟨y, z, os, rfl, sm, pa⟩
      ⟨T', x1, x2, rfl, nT, rfl, e1, e2⟩
    cases Option.some.inj e1
    have sm2 := sm.trans (sameNew (o := .tup [.int (i : Nat), x2]) nT)
    have hb2 := hb.same sm2
    obtain ⟨dx, lo, d, h1, h2, h3⟩ := hb2.ob
    refine ⟨T', _, rfl, .inl (.inl upd_same), rfl, _, _, rfl, _, _, rfl, rfl,
      ?_⟩
    refine ⟨_, rfl, b, dx, _, rfl, h1, bf_no _ _ (by decide +kernel)
      (by decide +kernel), _, rfl, b, ls, _, rfl, hb2, gd.nm, ?_⟩
    rcases (el x2 (List.mem_of_getElem? e2)).same sm2 with
      ⟨l, rfl, hl⟩ | ⟨t, ty, kt, nt⟩
    · refine .inl ⟨_, rfl, by rw [SX.S_len]; exact sz (by omega),
        fun H3 s3 => ?_⟩
      have sm3 := sm2.trans s3
      by_cases mm : l ∈ ls
      · rw [decide_eq_true (show (SX.S l).cps.toList ∈ ls from mm)]
        refine ⟨_, rfl, iteF ?_⟩
        refine ⟨_, rfl, _, rfl, _, rfl, i, rfl, a, _, rfl,
          SqL.of (sm3 _ _ ha), fun t nt => ?_⟩
        rw [cut_to _ (by omega), pa.tk]
        refine ⟨t, _, rfl, .inl (SqL.of upd_same), rfl, flat_S _, _, rfl, ?_⟩
        rw [inV_S]
        have sm4 := sm3.trans (sameNew (o := .lst (os.map vS)) nt)
        by_cases mt : l ∈ os
        · rw [decide_eq_true mt]
          refine iteT ⟨_, rfl, ?_⟩
          have := q _ sm4
          rw [pa.bad e2 (.inr ⟨l, tx_S l, fun z => z.2 mt⟩)] at this
          exact this
        · rw [decide_eq_false mt]
          exact iteF ⟨_, _, _, rfl, sm4, pa.next e2 mm mt⟩
      · rw [decide_eq_false (show ¬ (SX.S l).cps.toList ∈ ls from mm)]
        refine ⟨_, rfl, iteT ⟨_, rfl, ?_⟩⟩
        have := q _ sm3
        rw [pa.bad e2 (.inr ⟨l, tx_S l, fun z => mm z.1⟩)] at this
        exact this
    · refine .inr ⟨t, .base ty, kt, fun H3 s3 => ⟨_, rfl, iteT ⟨_, rfl, ?_⟩⟩⟩
      have := q _ (sm2.trans s3)
      rw [pa.bad e2 (.inl nt)] at this
      exact this
  · rintro σ H1 ⟨y, z, os, rfl, sm, pa⟩
    obtain ⟨ex, ep⟩ := pa.done
    have hb1 := hb.same sm
    have ha1 := sm _ _ ha
    obtain ⟨dx, lo, d, h1, h2, h3⟩ := hb1.ob
    refine ⟨_, rfl, a, _, rfl, .inl (SqL.of ha1), _, rfl, b, dx, _, rfl, h1,
      b, ls, rfl, hb1, ls.length, rfl, ?_, _, _, rfl, rfl, _, rfl, ?_⟩
    · have := gd.hi
      omega
    · have := q _ sm
      rw [ep] at this
      by_cases c : xs.length < ls.length
      · rw [decide_eq_true (by omega)]
        rw [if_pos c] at this
        exact iteT ⟨_, rfl, a, _, rfl, .inl (SqL.of ha1), this⟩
      · rw [decide_eq_false (by omega)]
        rw [if_neg c] at this
        exact iteF this
theorem ok_isordX {f : Addr} {fd : FuncData} {k : Nat}
    (F : Fun K "is_order" "is_order" s_is_order f fd)
    (Cf : Cal P w K mg base k "order_fault" ["base", "value"]
      (spFltX K C)) :
    FnOk P w K mg base CX0 (k + 1) f fd ["base", "value"] (spIsOrdX K C) := by
  refine F.ok sc_is_order (fun vs H Q E h => ?_)
    (fun cv A outer s H vs Q E hr h => ?_)
  · obtain ⟨b, v, ls, r, rfl, _⟩ := h
    rfl
  obtain ⟨b, v, ls, r, rfl, hb, gd, j, q⟩ := h
  refine ⟨_, pss_one (ps_ret (pe_cmpR op_isN (pe_cal Cf hr (pa_cons (pv 0)
    (pa_cons (pv 1) pa_nil))) pe_non (nomark _))), ?_⟩
  refine ⟨_, rfl, _, rfl, b, v, ls, r, rfl, hb, gd, j, fun H1 s1 => ⟨rfl, ?_⟩⟩
  have := q H1 s1
  cases r with
  | none => exact this
  | some n => exact this
theorem ok_ioinit {f : Addr} {fd : FuncData} {k : Nat} {q : Str}
    (F : Fun K "__init__" q s_InvalidOrder_init f fd) (T : OexC K CV)
    (n1 : PySem.W.findIn K (.ref CV) "position" = some none) :
    FnOk P w K mg base CX0 (k + 1) f fd ["self", "position"]
      (spX1 CV "position") := by
  refine F.ok sc_InvalidOrder_init (fun vs H Q E h => ?_)
    (fun cv A outer s H vs Q E hr h => ?_)
  · obtain ⟨a, v1, rfl, _⟩ := h
    rfl
  obtain ⟨a, v1, rfl, ha, q⟩ := h
  refine ⟨_, pss_one (ps_ost (pv 0) (pv 1)), ?_⟩
  exact ⟨_, rfl, _, rfl, a, CV, rfl, T, n1, .inl ⟨ha, fun dx nd ne =>
    q dx nd ne⟩⟩
theorem ok_uinit {f : Addr} {fd : FuncData} {k : Nat} {q : Str}
    (F : Fun K "__init__" q s_UnknownItem_init f fd) (T : OexF K CU)
    (n1 : PySem.W.findIn K (.ref CU) "value" = some none) :
    FnOk P w K mg base CX0 (k + 1) f fd ["self", "value"]
      (spX1 CU "value") := by
  refine F.ok sc_UnknownItem_init (fun vs H Q E h => ?_)
    (fun cv A outer s H vs Q E hr h => ?_)
  · obtain ⟨a, v1, rfl, _⟩ := h
    rfl
  obtain ⟨a, v1, rfl, ha, q⟩ := h
  refine ⟨_, pss_one (ps_ostF (pv 0) (pv 1)), ?_⟩
  exact ⟨_, rfl, _, rfl, a, CU, rfl, T, n1, ha, fun dx nd ne => q dx nd ne⟩
theorem ok_chkX {f : Addr} {fd : FuncData} {k j : Nat}
    (F : Fun K "check_order" "check_order" s_check_order f fd)
    (Cf : Cal P w K mg base k "order_fault" ["base", "value"]
      (spFltX K C))
    (M : XMk P w K mg base CV j "InvalidOrder" ["self", "position"]
      (spX1 CV "position")) (hj : j + 1 ≤ k) :
    FnOk P w K mg base (L2.CX P w) (k + 1) f fd ["base", "order"]
      (spChkX K C CV) := by
  refine okE F sc_check_order (fun vs H Q E h => ?_)
    (fun cv A outer s H vs Q E hr h => ?_)
  · obtain ⟨b, v, ls, n, rfl, _⟩ := h
    rfl
  obtain ⟨b, v, ls, n, rfl, hb, gd, jv, q⟩ := h
  have nd := sc_check_order.nd
  refine ⟨_, pss_cons (ps_set (i := 2) nd rfl (.inl rfl)
      (pe_cal Cf hr (pa_cons (pv 0) (pa_cons (pv 1) pa_nil))))
    (pss_one (ps_if (pt_cmpR op_notN (pv 2) pe_non (nomark _))
      (pss_one (ps_raise1 M (hr.mono hj) rfl (takes_of rfl rfl rfl rfl)
        (pa_cons (pv 2) pa_nil))) pss_nil)), ?_⟩
  exact ⟨_, rfl, _, rfl, b, v, ls, some n, rfl, hb, gd, jv, fun H1 s1 =>
    ⟨_, rfl, rfl, _, rfl, iteT ⟨_, rfl, _, rfl,
      fun d H2 nd2 e2 s2 => q d H2 (s1.free nd2) e2 (s1.trans s2)⟩⟩⟩
end
end OM
namespace OM
open PySem PySem.Spec PyProof.Rows L2
/-! ### one def, two promises -/
section
variable {P : Program} {w : World} {K : PySem.W.Frag}
  {mg : Str → Option Value} {base : Heap} {CX : CXT}
def orSp (sp1 sp2 : Sp) : Sp := fun vs H Q E => sp1 vs H Q E ∨ sp2 vs H Q E
theorem fn_or {k : Nat} {f : Addr} {fd : FuncData} {ps : List Str}
    {sp1 sp2 : Sp} (F1 : FnOk P w K mg base CX0 k f fd ps sp1)
    (F2 : FnOk P w K mg base CX k f fd ps sp2) :
    FnOk P w K mg base CX k f fd ps (orSp sp1 sp2) := by
  refine ⟨fun vs H Q E h => ?_, fun A o s H ar us vs Q E r e b v h => ?_⟩
  · rcases h with h | h
    · exact F1.len vs H Q E h
    · exact F2.len vs H Q E h
  · rcases h with h | h
    · refine codeAny_mono (F1.run A o s H ar us vs Q E r e b v h) ?_
      intro x s' z
      match x, z with
      | .error _, z => exact False.elim z
      | .ok .next, z => exact z
      | .ok .brk, z => exact z
      | .ok .cont, z => exact z
      | .ok (.ret _), z => exact z
    · exact F2.run A o s H ar us vs Q E r e b v h
structure CalME (CX : CXT) (P : Program) (w : World) (K : PySem.W.Frag)
    (mg : Str → Option Value) (base : Heap) (C : Addr) (k : Nat) (x : Str)
    (ps : List Str) (sp : Sp) : Prop where
  cl : Cls K C
  ex : ∃ f fd, FnOk P w K mg base CX k f fd ps sp ∧ Meth K C x f ∧
    Binds K fd ps []
end
section
variable {X : Cx} {k : Nat} {ps : List Str} {sp : Sp} {x : Str} {C : Addr}
  {p pos : Pos} {o e : Expr} {es : List Expr} {t : TA} {to : TE} {CX : CXT}
theorem pe_calME {pl : Sem Bool} {E : XK}
    (M : CalME CX X.prog X.w X.K X.mg X.base C k x ps sp)
    (room : Room k X.A) (hx : Passes CX X E) (ho : PE X o to)
    (ha : PA X (e :: es) t)
    (h1 : starEach (e :: es) X.env =
      (false, eval e X.env) :: starEach es X.env := by rfl)
    (h2 : (backTo pos (starEach es X.env)).any (·.1) = false := by rfl)
    (h3 : eval (.Call (.Attribute o x p) (e :: es) [] pos) X.env = (do
      let ov ← eval o X.env
      standAt p.atName
      let (f, first) ← holding [ov] (getMethod ov x pl)
      callWith pos f first (backTo pos (starEach (e :: es) X.env))
        (backToKw pos (keywordEach [] X.env))) := by rfl) :
    PE X (.Call (.Attribute o x p) (e :: es) [] pos)
      (tMeth C x sp [] E to t) := by
  obtain ⟨f, fd, F, m, b⟩ := M.ex
  exact pe_meth (pl := pl) ho M.cl m F room b .nil hx ha h1 h2 h3
end
/-! ### items that the base does not have -/
def NoI (ls : List (List Nat)) (v : V) : Prop := ∀ l, v = vS l → l ∉ ls
def spPosX (K : PySem.W.Frag) (C CU : Addr) : Sp := fun vs H _ E =>
  ∃ (b : Addr) (ls : List (List Nat)) (v : V), vs = [.ref b, v] ∧
  BaseAt C H b ls ∧ (∀ l ∈ ls, Nm l) ∧ Elt1 K H v ∧ NoI ls v ∧
  XOut CU "value" H E v
def spPrecX (K : PySem.W.Frag) (C CU : Addr) : Sp := fun vs H _ E =>
  ∃ (b : Addr) (ls : List (List Nat)) (v u : V), vs = [.ref b, v, u] ∧
  BaseAt C H b ls ∧ (∀ l ∈ ls, Nm l) ∧ Elt1 K H v ∧ Elt1 K H u ∧
  ((NoI ls v ∧ XOut CU "value" H E v) ∨
   (∃ l, v = vS l ∧ l ∈ ls ∧ NoI ls u ∧ XOut CU "value" H E u))
section
variable {P : Program} {w : World} {K : PySem.W.Frag}
  {mg : Str → Option Value} {base : Heap} {C CV CU : Addr}
theorem ok_posX {f : Addr} {fd : FuncData} {k j : Nat}
    (F : Fun K "position_of" "Base.position_of" s_Base_position_of f fd)
    (Mh : CalM P w K mg base C k "has_item" ["self", "value"] (spHas K C))
    (M : XMkF P w K mg base CU j "UnknownItem" ["self", "value"]
      (spX1 CU "value")) (hj : j + 1 ≤ k) :
    FnOk P w K mg base (L2.CX P w) (k + 1) f fd ["self", "item"]
      (spPosX K C CU) := by
  refine okE F sc_Base_position_of (fun vs H Q E h => ?_)
    (fun cv A outer s H vs Q E hr h => ?_)
  · obtain ⟨b, ls, v, rfl, _⟩ := h
    rfl
  obtain ⟨b, ls, v, rfl, hb, nm, el, no, q⟩ := h
  refine ⟨_, pss_cons (ps_if (pt_not (pt_val
      (pe_calM Mh hr (pv 0) (pa_cons (pv 1) pa_nil))))
      (pss_one (ps_raise1F M (hr.mono hj) rfl (takes_of rfl rfl rfl rfl)
        (pa_cons (pv 1) pa_nil))) pss_nil)
    (pss_one ps_never), ?_⟩
  obtain ⟨dx, lo, d, h1, h2, h3⟩ := hb.ob
  refine ⟨_, rfl, b, dx, _, rfl, h1, bf_no _ _ (by decide +kernel)
    (by decide +kernel), _, rfl, b, ls, _, rfl, hb, nm, ?_⟩
  have fin : ∀ H1, Same H H1 → ∀ d H2, H1 d = none →
      H2 d = some (.xd [("value", v)]) → Same H1 H2 →
      E (.ref CU) (some d) H2 := fun H1 s1 d H2 n e s2 =>
    q d H2 (s1.free n) e (s1.trans s2)
  rcases el with ⟨l, rfl, hl⟩ | ⟨t, ty, kt, nt⟩
  · refine .inl ⟨_, rfl, by rw [SX.S_len]; exact sz (by omega),
      fun H1 s1 => ?_⟩
    rw [decide_eq_false (show ¬ (SX.S l).cps.toList ∈ ls from no l rfl)]
    exact ⟨_, rfl, iteT ⟨_, rfl, _, rfl, fun d H2 n e s2 =>
      fin H1 s1 d H2 n e s2⟩⟩
  · exact .inr ⟨t, .base ty, kt, fun H1 s1 => ⟨_, rfl, iteT ⟨_, rfl, _, rfl,
      fun d H2 n e s2 => fin H1 s1 d H2 n e s2⟩⟩⟩
theorem ok_precX {f : Addr} {fd : FuncData} {k : Nat}
    (F : Fun K "precedes" "Base.precedes" s_Base_precedes f fd)
    (Mp : CalME (L2.CX P w) P w K mg base C k "position_of" ["self", "item"]
      (orSp (spPos C) (spPosX K C CU))) :
    FnOk P w K mg base (L2.CX P w) (k + 1) f fd ["self", "first", "second"]
      (spPrecX K C CU) := by
  refine okE F sc_Base_precedes (fun vs H Q E h => ?_)
    (fun cv A outer s H vs Q E hr h => ?_)
  · obtain ⟨b, ls, v, u, rfl, _⟩ := h
    rfl
  obtain ⟨b, ls, v, u, rfl, hb, nm, ev, eu, h⟩ := h
  refine ⟨_, pss_one (ps_ret (pe_cmpR op_lt
    (pe_calME Mp hr (passes_call (takes_of rfl rfl rfl rfl)
      (fun _ _ _ _ z => z)) (pv 0) (pa_cons (pv 1) pa_nil))
    (pe_calME Mp hr (passes_call (takes_of rfl rfl rfl rfl)
      (fun _ _ _ _ z => z)) (pv 0) (pa_cons (pv 2) pa_nil)) (nomark _))), ?_⟩
  obtain ⟨dx, lo, d, h1, h2, h3⟩ := hb.ob
  refine ⟨_, rfl, b, dx, _, rfl, h1, bf_no _ _ (by decide +kernel)
    (by decide +kernel), _, rfl, ?_⟩
  rcases h with ⟨no, q⟩ | ⟨l, rfl, hl, no, q⟩
  · exact .inr ⟨b, ls, v, rfl, hb, nm, ev, no, q⟩
  · refine .inl ⟨b, ls, l, rfl, hb, nm, hl, fun H1 s1 => ?_⟩
    exact ⟨_, rfl, b, dx, _, rfl, s1 _ _ h1, bf_no _ _ (by decide +kernel)
      (by decide +kernel), _, rfl, .inr ⟨b, ls, u, rfl, hb.same s1, nm,
      eu.same s1, no, q.back s1⟩⟩
/-! ### is_inverted, inverted_pairs, dump_order -/
def spInvX (K : PySem.W.Frag) (C CV CU : Addr) : Sp := fun vs H _ E =>
  ∃ (b : Addr) (v x y : V) (ls : List (List Nat)) (r : Option Nat),
  vs = [.ref b, v, x, y] ∧ BaseAt C H b ls ∧ Good ls ∧ Jv K H ls v r ∧
  Elt1 K H x ∧ Elt1 K H y ∧
  ((∃ n, r = some n ∧ XOut CV "position" H E (.int (n : Nat))) ∨
   (r = none ∧ NoI ls x ∧ XOut CU "value" H E x) ∨
   (r = none ∧ (∃ l, x = vS l ∧ l ∈ ls) ∧ NoI ls y ∧
     XOut CU "value" H E y))
theorem ok_invX {f : Addr} {fd : FuncData} {k : Nat}
    (F : Fun K "is_inverted" "is_inverted" s_is_inverted f fd)
    (Cc : CalE (L2.CX P w) P w K mg base k "check_order" ["base", "order"]
      (orSp (spFaultOk C) (spChkX K C CV)))
    (Mp : CalME (L2.CX P w) P w K mg base C k "precedes"
      ["self", "first", "second"] (spPrecX K C CU)) :
    FnOk P w K mg base (L2.CX P w) (k + 1) f fd
      ["base", "order", "first", "second"] (spInvX K C CV CU) := by
  refine okE F sc_is_inverted (fun vs H Q E h => ?_)
    (fun cv A outer s H vs Q E hr h => ?_)
  · obtain ⟨b, v, x, y, ls, r, rfl, _⟩ := h
    rfl
  obtain ⟨b, v, x, y, ls, r, rfl, hb, gd, jv, ex, ey, h⟩ := h
  have nd := sc_is_inverted.nd
  refine ⟨_, pss_cons (ps_expr (pe_calE Cc hr (passes_call
      (takes_of rfl rfl rfl rfl) (fun _ _ _ _ z => z)) (pa_cons (pv 0)
      (pa_cons (pv 1) pa_nil))))
    (pss_cons (ps_set (i := 4) nd rfl (.inl rfl) (pe_calME Mp hr
      (passes_call (takes_of rfl rfl rfl rfl) (fun _ _ _ _ z => z)) (pv 0)
      (pa_cons (pv 2) (pa_cons (pv 3) pa_nil))))
    pss_never), ?_⟩
  refine ⟨_, rfl, _, rfl, ?_⟩
  rcases h with ⟨n, rfl, q⟩ | ⟨rfl, h⟩ | ⟨rfl, h⟩
  · exact .inr ⟨b, v, ls, n, rfl, hb, gd, jv, q⟩
  all_goals
    obtain ⟨a, os, rfl, ha, pm⟩ := jv.right
    refine .inl ⟨b, a, ls, os, rfl, ⟨hb, gd, ha, pm⟩, fun H1 s1 => ?_⟩
    obtain ⟨dx, lo, d, h1, h2, h3⟩ := (hb.same s1).ob
    refine ⟨_, rfl, b, dx, _, rfl, h1, bf_no _ _ (by decide +kernel)
      (by decide +kernel), _, rfl, _, rfl, b, ls, x, y, rfl, hb.same s1, gd.nm,
      ex.same s1, ey.same s1, ?_⟩
  · exact .inl ⟨h.1, h.2.back s1⟩
  · obtain ⟨⟨l, rfl, hl⟩, no, q⟩ := h
    exact .inr ⟨l, rfl, hl, no, q.back s1⟩
theorem ok_pairsX {f : Addr} {fd : FuncData} {k : Nat}
    (F : Fun K "inverted_pairs" "inverted_pairs" s_inverted_pairs f fd)
    (Cc : CalE (L2.CX P w) P w K mg base k "check_order" ["base", "order"]
      (spChkX K C CV)) :
    FnOk P w K mg base (L2.CX P w) (k + 1) f fd ["base", "order"]
      (spChkX K C CV) := by
  refine okE F sc_inverted_pairs (fun vs H Q E h => ?_)
    (fun cv A outer s H vs Q E hr h => ?_)
  · obtain ⟨b, v, ls, n, rfl, _⟩ := h
    rfl
  obtain ⟨b, v, ls, n, rfl, h⟩ := h
  refine ⟨_, pss_cons (ps_expr (pe_calE Cc hr (passes_call
      (takes_of rfl rfl rfl rfl) (fun _ _ _ _ z => z)) (pa_cons (pv 0)
      (pa_cons (pv 1) pa_nil)))) pss_never, ?_⟩
  exact ⟨_, rfl, _, rfl, b, v, ls, n, rfl, h⟩
theorem ok_dumpX {f : Addr} {fd : FuncData} {k : Nat}
    (F : Fun K "dump_order" "dump_order" s_dump_order f fd)
    (Cc : CalE (L2.CX P w) P w K mg base k "check_order" ["base", "order"]
      (spChkX K C CV)) :
    FnOk P w K mg base (L2.CX P w) (k + 1) f fd ["base", "order"]
      (spChkX K C CV) := by
  refine okE F sc_dump_order (fun vs H Q E h => ?_)
    (fun cv A outer s H vs Q E hr h => ?_)
  · obtain ⟨b, v, ls, n, rfl, _⟩ := h
    rfl
  obtain ⟨b, v, ls, n, rfl, h⟩ := h
  refine ⟨_, pss_cons (ps_expr (pe_calE Cc hr (passes_call
      (takes_of rfl rfl rfl rfl) (fun _ _ _ _ z => z)) (pa_cons (pv 0)
      (pa_cons (pv 1) pa_nil)))) pss_never, ?_⟩
  exact ⟨_, rfl, _, rfl, b, v, ls, n, rfl, h⟩
end
end OM
namespace OM
open PySem PySem.Spec PyProof.Rows L2
/-! ### the values that are drawn, and their data -/
def conS (x : Str) : Bool := x == Str.ofString "" || (x == Str.ofString "A" ||
  (x == Str.ofString "ninesigns" || x == Str.ofString "a b"))
theorem conS_cases {x : Str} (h : conS x = true) : x = Str.ofString "" ∨
    x = Str.ofString "A" ∨ x = Str.ofString "ninesigns" ∨
    x = Str.ofString "a b" := by
  unfold conS at h
  simpa [Bool.or_eq_true] using h
inductive Odd (H : Hp) : V → PyData → Prop
  | non : Odd H .non .none
  | bl (b : Bool) : Odd H (.bl b) (.bool b)
  | i0 : Odd H (.int 0) (.int 0)
  | i1 : Odd H (.int 1) (.int 1)
  | con (x : Str) : conS x = true → Odd H (.str x) (.str x)
  | nm (l : List Nat) : Nm l → Odd H (vS l) (.str (SX.S l))
  | t0 {a : Addr} : H a = some (.tup []) → Odd H (.ref a) (.tuple [])
  | t1 {a : Addr} : H a = some (.tup [.str "a"]) →
      Odd H (.ref a) (.tuple [.str "a"])
  | l0 {a : Addr} : H a = some (.lst []) → Odd H (.ref a) (.list [])
  | l1 {a : Addr} : H a = some (.lst [.str "a"]) →
      Odd H (.ref a) (.list [.str "a"])
  | d0 {a : Addr} : H a = some (.dK []) → Odd H (.ref a) (.dict [])
theorem Odd.keep {H H' : Hp} {v : V} {d : PyData} (h : Odd H v d)
    (k : ∀ a o, H a = some o → (∀ ps, o ≠ .tbl ps) →
      (∀ i j, o ≠ .lst [.int i, .int j]) → H' a = some o) : Odd H' v d := by
  cases h with
  | non => exact .non
  | bl b => exact .bl b
  | i0 => exact .i0
  | i1 => exact .i1
  | con x h => exact .con x h
  | nm l h => exact .nm l h
  | t0 e => exact .t0 (k _ _ e nofun nofun)
  | t1 e => exact .t1 (k _ _ e nofun nofun)
  | l0 e => exact .l0 (k _ _ e nofun nofun)
  | l1 e => exact .l1 (k _ _ e nofun nofun)
  | d0 e => exact .d0 (k _ _ e nofun nofun)
theorem Odd.same {H H' : Hp} {v : V} {d : PyData} (h : Odd H v d)
    (s : Same H H') : Odd H' v d := h.keep fun a o e _ _ => s a o e
theorem Odd.ext {H H' : Hp} {v : V} {d : PyData} (h : Odd H v d)
    (s : LamX.ExtN H H') : Odd H' v d := h.keep fun a o e n _ => s a o e n
theorem Odd.but {H H' : Hp} {v : V} {d : PyData} {p : Addr} (h : Odd H v d)
    (r : Rng H p) (s : But p H H') : Odd H' v d :=
  h.keep fun a o e _ n => s a o e fun z => by
    subst z
    obtain ⟨i, j, e', _⟩ := r
    rw [e'] at e
    cases e
    exact n _ _ rfl
theorem Odd.elt {K : PySem.W.Frag} {H : Hp} {v : V} {d : PyData}
    (h : Odd H v d) : Elt1 K H v := by
  cases h with
  | non => exact .inr ⟨_, .non, kit_ty (by decide +kernel), rfl⟩
  | bl b => exact .inr ⟨_, .bl _, kit_ty (by decide +kernel), rfl⟩
  | i0 => exact .inr ⟨_, .int _, kit_ty (by decide +kernel), rfl⟩
  | i1 => exact .inr ⟨_, .int _, kit_ty (by decide +kernel), rfl⟩
  | con x h =>
    refine .inl ⟨x.cps.toList, by rw [vS, SX.S_tl], ?_⟩
    rcases conS_cases h with rfl | rfl | rfl | rfl <;> decide +kernel
  | nm l h => exact .inl ⟨l, rfl, by have := h.hi; omega⟩
  | t0 e => exact .inr ⟨_, .tup e, kit_ty (by decide +kernel), rfl⟩
  | t1 e => exact .inr ⟨_, .tup e, kit_ty (by decide +kernel), rfl⟩
  | l0 e => exact .inr ⟨_, .lst e, kit_ty (by decide +kernel), rfl⟩
  | l1 e => exact .inr ⟨_, .lst e, kit_ty (by decide +kernel), rfl⟩
  | d0 e => exact .inr ⟨_, .dK e, kit_ty (by decide +kernel), rfl⟩
theorem Odd.dx {H : Hp} {v : V} {d : PyData} (h : Odd H v d) : DX H v d := by
  cases h with
  | non => exact .non
  | bl b => exact .bl b
  | i0 => exact .int 0
  | i1 => exact .int 1
  | con x h => exact .str x
  | nm l h => exact .str _
  | t0 e => exact .tup e .nil
  | t1 e => exact .tup e (.cons (.str _) .nil)
  | l0 e => exact .lst e .nil
  | l1 e => exact .lst e (.cons (.str _) .nil)
  | d0 e => exact .d0 e
/-! how long they are when shown, once and twice -/
theorem fold_low (q B : Nat) : ∀ (l : List Nat) (acc : Array Nat),
    (∀ c ∈ acc.toList, c < B) →
    (∀ c ∈ l, ∀ e ∈ Builtin.Str.reprChar q c, e < B) →
    ∀ c ∈ (l.foldl (fun out c => out ++ (Builtin.Str.reprChar q c).toArray)
      acc).toList, c < B
  | [], acc, h, _ => h
  | c :: r, acc, h, hc => by
    refine fold_low q B r _ (fun x hx => ?_)
      fun d hd => hc d (List.mem_cons_of_mem _ hd)
    rw [Array.toList_append] at hx
    rcases List.mem_append.mp hx with hx | hx
    · exact h x hx
    · exact hc c List.mem_cons_self x (by simpa using hx)
theorem chars_az : ((List.range 26).all fun i =>
    (Builtin.Str.reprChar 39 (97 + i)).all (fun e => decide (e < 1114112)) &&
    (Builtin.Str.reprChar 34 (97 + i)).all fun e => decide (e < 1114112)) =
      true := by
  decide +kernel
theorem chars_low {q c e : Nat} (hq : q = 39 ∨ q = 34) (h1 : 97 ≤ c)
    (h2 : c ≤ 122) (he : e ∈ Builtin.Str.reprChar q c) : e < 1114112 := by
  have z := List.all_eq_true.mp chars_az (c - 97)
    (List.mem_range.mpr (by omega))
  obtain ⟨z1, z2⟩ := Bool.and_eq_true_iff.mp z
  rw [show 97 + (c - 97) = c by omega] at z1 z2
  rcases hq with rfl | rfl
  · exact of_decide_eq_true (List.all_eq_true.mp z1 e he)
  · exact of_decide_eq_true (List.all_eq_true.mp z2 e he)
theorem quote_two (x : Str) : reprQuote x = 39 ∨ reprQuote x = 34 := by
  unfold reprQuote
  split
  · exact .inr rfl
  · exact .inl rfl
theorem repr_low {l : List Nat} (h : Nm l) :
    ∀ c ∈ (reprText (SX.S l)).cps.toList, c < 1114112 := by
  have hq := quote_two (SX.S l)
  have hq' : reprQuote (SX.S l) < 1114112 := by
    rcases hq with e | e <;> rw [e] <;> decide
  unfold reprText
  show ∀ c ∈ (((SX.S l).cps.foldl (fun out c => out ++
    (Builtin.Str.reprChar (reprQuote (SX.S l)) c).toArray)
      #[reprQuote (SX.S l)]).push (reprQuote (SX.S l))).toList, _
  intro c hc
  rw [Array.toList_push, ← Array.foldl_toList] at hc
  rcases List.mem_append.mp hc with hc | hc
  · refine fold_low _ 1114112 _ _ (fun x hx => ?_) (fun x hx e he => ?_) c hc
    · rw [show (#[reprQuote (SX.S l)] : Array Nat).toList =
        [reprQuote (SX.S l)] from rfl] at hx
      rw [List.mem_singleton.mp hx]
      exact hq'
    · have az := h.az x hx
      exact chars_low hq (by omega) (by omega) he
  · rw [List.mem_singleton.mp hc]
    exact hq'
/-- short, also when what is shown is shown -/
structure Sm (d : PyData) : Prop where
  sh : d.showable = true
  dp : d.depth ≤ 3
  sz : d.shown.length ≤ 200
  rp : (reprText d.shown).length ≤ 2100
theorem Odd.sm {H : Hp} {v : V} {d : PyData} (h : Odd H v d) : Sm d := by
  cases h with
  | bl b => cases b <;> exact ⟨by decide +kernel, by decide +kernel,
      by decide +kernel, by decide +kernel⟩
  | con x h =>
    rcases conS_cases h with rfl | rfl | rfl | rfl <;>
      exact ⟨by decide +kernel, by decide +kernel,
        by decide +kernel, by decide +kernel⟩
  | nm l h =>
    have h1 := h.hi
    have e : (PyData.str (SX.S l)).shown = reprText (SX.S l) := by
      simp only [PyData.shown]
    have h2 : (reprText (SX.S l)).length ≤ 10 * l.length + 2 := by
      have := StrLaws.reprText_len (SX.S l) (fun c hc => Nat.lt_of_lt_of_le
        (h.uni c hc) (by decide))
      rw [SX.S_len] at this
      exact this
    have h3 := StrLaws.reprText_len (reprText (SX.S l)) (fun c hc =>
      Nat.lt_of_lt_of_le (repr_low h c hc) (by decide))
    refine ⟨by simp only [PyData.showable], by simp only [PyData.depth]; omega,
      by rw [e]; omega, by rw [e]; omega⟩
  | _ => exact ⟨by decide +kernel, by decide +kernel, by decide +kernel,
      by decide +kernel⟩
/-- lists of them -/
inductive OddS (H : Hp) : List V → List PyData → Prop
  | nil : OddS H [] []
  | cons {v : V} {vs : List V} {d : PyData} {ds : List PyData} :
      Odd H v d → OddS H vs ds → OddS H (v :: vs) (d :: ds)
theorem OddS.keep {H H' : Hp} : ∀ {vs : List V} {ds : List PyData},
    OddS H vs ds → (∀ v d, Odd H v d → Odd H' v d) → OddS H' vs ds
  | _, _, .nil, _ => .nil
  | _, _, .cons a b, k => .cons (k _ _ a) (b.keep k)
theorem OddS.dxs {H : Hp} : ∀ {vs : List V} {ds : List PyData},
    OddS H vs ds → DXs H vs ds
  | _, _, .nil => .nil
  | _, _, .cons a b => .cons a.dx b.dxs
theorem OddS.all {H : Hp} : ∀ {vs : List V} {ds : List PyData},
    OddS H vs ds → ∀ v ∈ vs, ∃ d, Odd H v d
  | _, _, .nil, v, hv => by cases hv
  | _, _, .cons a b, v, hv => by
    rcases List.mem_cons.mp hv with rfl | hv
    · exact ⟨_, a⟩
    · exact b.all v hv
theorem oddS_of {H : Hp} : ∀ vs : List V, (∀ v ∈ vs, ∃ d, Odd H v d) →
    ∃ ds, OddS H vs ds
  | [], _ => ⟨[], .nil⟩
  | v :: vs, h => by
    obtain ⟨d, hd⟩ := h v List.mem_cons_self
    obtain ⟨ds, hs⟩ := oddS_of vs fun x hx => h x (List.mem_cons_of_mem _ hx)
    exact ⟨d :: ds, .cons hd hs⟩
theorem OddS.shown {H : Hp} : ∀ {vs : List V} {ds : List PyData},
    OddS H vs ds → PyData.showableAll ds = true ∧ PyData.depthAll ds ≤ 3 ∧
      piled (PyData.shownAll ds) ≤ vs.length * 202
  | _, _, .nil => ⟨by simp only [PyData.showableAll],
      by simp only [PyData.depthAll]; omega,
      by simp only [PyData.shownAll]; exact Nat.zero_le _⟩
  | _, _, .cons a b => by
    obtain ⟨b1, b2, b3⟩ := b.shown
    have sm := a.sm
    refine ⟨?_, ?_, ?_⟩
    · simp only [PyData.showableAll, sm.sh, b1, Bool.and_self]
    · simp only [PyData.depthAll]
      have := sm.dp
      omega
    · simp only [PyData.shownAll]
      rw [piled_cons, List.length_cons, Nat.add_mul]
      have := sm.sz
      omega
end OM
namespace OM
open PySem PySem.Spec PyProof.Rows L2
theorem bt_rp : bootBuiltins "repr" = some (.builtin "repr") := by
  decide +kernel
theorem two_l {a b : V} : [a, b].length ≤ sizeLine := by
  show 2 ≤ sizeLine
  decide
/-- the law's own judgement -/
def spProb (K : PySem.W.Frag) : Sp := fun vs H Q _ =>
  ∃ (it : Addr) (v : V) (ls : List (List Nat)) (r : Option Nat),
  vs = [.ref it, v] ∧ H it = some (.lst (ls.map vS)) ∧ ls.length ≤ 1000 ∧
  Jv K H ls v r ∧ ∀ H', Same H H' → Q (ansP r) H'
/-! ### two items of a list -/
def two (l m : List Nat) (x : List Nat) : Bool := decide (x ∈ [l, m])
theorem two_swap (l m : List Nat) : two l m = two m l := by
  funext x
  unfold two
  refine decide_eq_decide.mpr ?_
  simp only [List.mem_cons, List.not_mem_nil, or_false]
  exact Or.comm
theorem two_no {l m x : List Nat} (h1 : x ≠ l) (h2 : x ≠ m) :
    two l m x = false := by
  unfold two
  refine decide_eq_false ?_
  simp [h1, h2]
theorem two_l1 (l m : List Nat) : two l m l = true := by
  unfold two
  simp
theorem two_r (l m : List Nat) : two l m m = true := by
  unfold two
  simp
theorem filt_none {l m : List Nat} : ∀ {r : List (List Nat)}, l ∉ r → m ∉ r →
    r.filter (two l m) = []
  | [], _, _ => rfl
  | x :: r, h1, h2 => by
    rw [List.mem_cons, not_or] at h1 h2
    rw [List.filter_cons_of_neg (by
      rw [two_no (Ne.symm h1.1) (Ne.symm h2.1)]; decide)]
    exact filt_none h1.2 h2.2
theorem filt_one {l m : List Nat} : ∀ {r : List (List Nat)}, r.Nodup → m ∈ r →
    l ∉ r ∨ l = m → r.filter (two l m) = [m]
  | [], _, h, _ => by cases h
  | x :: r, nd, hm, hl => by
    obtain ⟨n1, n2⟩ := List.nodup_cons.mp nd
    by_cases e : x = m
    · subst e
      rw [List.filter_cons_of_pos (two_r _ _), filt_none ?_ n1]
      rcases hl with hl | hl
      · exact fun z => hl (List.mem_cons_of_mem _ z)
      · rw [hl]
        exact n1
    · have hm' : m ∈ r := by
        rcases List.mem_cons.mp hm with z | z
        · exact absurd z.symm e
        · exact z
      have nl : x ≠ l := by
        rcases hl with hl | hl
        · exact fun z => hl (by rw [← z]; exact List.mem_cons_self)
        · rw [hl]
          exact e
      rw [List.filter_cons_of_neg (by rw [two_no nl e]; decide)]
      refine filt_one n2 hm' ?_
      rcases hl with hl | hl
      · exact .inl fun z => hl (List.mem_cons_of_mem _ z)
      · exact .inr hl
theorem idx_ne {x l : List Nat} {r : List (List Nat)} (h : ¬ x = l) :
    (x :: r).idxOf l = r.idxOf l + 1 := by
  rw [List.idxOf_cons]
  have : (x == l) = false := by simpa using h
  rw [this]
  rfl
theorem filt_two {l m : List Nat} (ne : l ≠ m) : ∀ {r : List (List Nat)},
    r.Nodup → l ∈ r → m ∈ r → r.filter (two l m) =
      if r.idxOf l < r.idxOf m then [l, m] else [m, l]
  | [], _, h, _ => by cases h
  | x :: r, nd, hl, hm => by
    obtain ⟨n1, n2⟩ := List.nodup_cons.mp nd
    by_cases e : x = l
    · subst e
      have hm' : m ∈ r := by
        rcases List.mem_cons.mp hm with z | z
        · exact absurd z.symm ne
        · exact z
      rw [List.filter_cons_of_pos (two_l1 _ _), filt_one n2 hm' (.inl n1),
        List.idxOf_cons_self, idx_ne ne, if_pos (by omega)]
    by_cases e2 : x = m
    · subst e2
      have hl' : l ∈ r := by
        rcases List.mem_cons.mp hl with z | z
        · exact absurd z.symm e
        · exact z
      rw [List.filter_cons_of_pos (two_r _ _), two_swap,
        filt_one n2 hl' (.inl n1),
        List.idxOf_cons_self, idx_ne e, if_neg (by omega)]
    have hl' : l ∈ r := by
      rcases List.mem_cons.mp hl with z | z
      · exact absurd z.symm e
      · exact z
    have hm' : m ∈ r := by
      rcases List.mem_cons.mp hm with z | z
      · exact absurd z.symm e2
      · exact z
    rw [List.filter_cons_of_neg (by rw [two_no e e2]; decide),
      filt_two ne n2 hl' hm', idx_ne e, idx_ne e2]
    by_cases c : r.idxOf l < r.idxOf m
    · rw [if_pos c, if_pos (by omega)]
    · rw [if_neg c, if_neg (by omega)]
theorem filt_eq {ls os : List (List Nat)} {l m : List Nat} (n1 : ls.Nodup)
    (n2 : os.Nodup) (l1 : l ∈ ls) (m1 : m ∈ ls) (l2 : l ∈ os) (m2 : m ∈ os) :
    (!decide (ls.filter (two l m) = os.filter (two l m))) =
      invB ls os l m := by
  unfold invB
  congr 1
  by_cases e : l = m
  · subst e
    rw [filt_one n1 m1 (.inr rfl), filt_one n2 m2 (.inr rfl)]
    simp
  · rw [filt_two e n1 l1 m1, filt_two e n2 l2 m2]
    have ne2 : ¬ m = l := fun z => e z.symm
    by_cases a : ls.idxOf l < ls.idxOf m <;>
      by_cases b : os.idxOf l < os.idxOf m <;> simp [a, b, e, ne2]
/-! ### what is_inverted is due to tell -/
def ItemT (H : Hp) (Q : V → Hp → Prop) (x : Str) : Prop :=
  ∀ t H', H t = none → H' t = some (.tup [.str "item", .str x]) →
    Same H H' → Q (.ref t) H'
theorem ItemT.back {H H1 : Hp} {Q : V → Hp → Prop} {x : Str}
    (h : ItemT H Q x) (s : Same H H1) : ItemT H1 Q x :=
  fun t H' n e s' => h t H' (s.free n) e (s.trans s')
def spDue (K : PySem.W.Frag) : Sp := fun vs H Q _ =>
  ∃ (it a : Addr) (x y : V) (ls os : List (List Nat)) (dx dy : PyData),
  vs = [.ref it, .ref a, x, y] ∧ H it = some (.lst (ls.map vS)) ∧
  H a = some (.lst (os.map vS)) ∧ Good ls ∧ os.Perm ls ∧ Odd H x dx ∧
  Odd H y dy ∧ (NoI ls x → ItemT H Q dx.shown) ∧
  ((∃ l, x = vS l ∧ l ∈ ls) → NoI ls y → ItemT H Q dy.shown) ∧
  (∀ l m, x = vS l → l ∈ ls → y = vS m → m ∈ ls →
    ∀ t H', H t = none →
      H' t = some (.tup [.str "returned", .bl (invB ls os l m)]) →
      Same H H' → Q (.ref t) H')
section
variable {P : Program} {w : World} {K : PySem.W.Frag}
  {mg : Str → Option Value} {base : Heap} {C CV CU : Addr}
theorem ok_prob {f : Addr} {fd : FuncData} {k : Nat}
    (F : Fun K "_law_problem" "_law_problem" s_Lproblem f fd) (B : Bl mg) :
    FnOk P w K mg base CX0 (k + 1) f fd ["_law_items", "_law_value"]
      (spProb K) := by
  refine F.ok sc_Lproblem (fun vs H Q E h => ?_)
    (fun cv A outer s H vs Q E hr h => ?_)
  · obtain ⟨it, v, ls, r, rfl, _⟩ := h
    rfl
  obtain ⟨it, v, ls, r, rfl, hi, hl0, j, q⟩ := h
  have nd := sc_Lproblem.nd
  refine ⟨_, pss_cons (ps_if (pt_not (pt_val
      (pe_callB call_isi (by rfl) B.isi bt_isi (pa_cons (pv 1) (pa_cons
        (pe_bltn (v := .ty "list") (by rfl) B.list bt_list rfl) pa_nil)))))
      (pss_one (ps_ret pe_int)) pss_nil)
    (pss_cons (ps_for PassesOwn.never rfl
      (pi_enum (by rfl) B.enum (pa_cons (pv 1) pa_nil))
      (pg_tup rfl (pgs_cons (pg_name (i := 2) nd rfl (.inl rfl))
        (pgs_cons (pg_name (i := 3) nd rfl (.inl rfl)) pgs_nil)))
      (pss_one (ps_if (PW.pt (pw_or (pt_not (pt_val
          (pe_callB call_isi (by rfl) B.isi bt_isi (pa_cons (pv 3) (pa_cons
            (pe_bltn (v := .ty "str") (by rfl) B.str bt_str rfl) pa_nil)))))
          (pw_or (pt_cmpR op_notIn_seq (pv 3) (pv 0) (by rfl))
          (pw_or1 (pt_cmpR op_in_seq (pv 3)
            (pe_slice sl_list (pv 1) po_none (po_some (pv 2))) (by rfl))))))
        (pss_one (ps_ret (pv 2))) pss_nil)))
    (pss_one (ps_ret (pe_ifExp (pt_cmpR op_lt
        (pe_callB call_len_seq (by rfl) B.len PySem.boot_len
          (pa_cons (pv 1) pa_nil))
        (pe_callB call_len_seq (by rfl) B.len PySem.boot_len
          (pa_cons (pv 0) pa_nil)) (nomark _))
      (pe_callB call_len_seq (by rfl) B.len PySem.boot_len
          (pa_cons (pv 1) pa_nil)) pe_non)))), ?_⟩
  rcases j with ⟨t, ty, kt, rfl⟩ | ⟨a, xs, rfl, ha, el, hx, rfl⟩
  · exact ⟨_, rfl, _, _, _, _, false, rfl, .ty "list", .base ty, kt, _, rfl,
      iteT (q H (Same.refl H))⟩
  refine ⟨_, rfl, _, _, _, _, true, rfl, .ty "list", .base (.lst ha),
    kit_ty (by decide +kernel), _, rfl, iteF ?_⟩
  refine ⟨_, rfl, a, _, rfl, SqL.of ha, ?_⟩
  refine for_it (walk_enum (K := K) (a := a) (xs := xs))
    (fun i σ H' => ∃ (y z : Option V) (os : List (List Nat)),
      σ = [some (.ref it), some (.ref a), y, z] ∧ Same H H' ∧
      PfAt ls xs i os)
    ⟨none, none, [], rfl, Same.refl H, .zero ls xs⟩
    (fun i σ H' _ z => by
      obtain ⟨_, _, _, _, sm, _⟩ := z
      exact SqL.of (sm _ _ ha))
    ?_ ?_
  · rintro i v σ H1 H2 hi' ⟨y, z, os, rfl, sm, pa⟩
      ⟨T', x1, x2, rfl, nT, rfl, e1, e2⟩
    cases Option.some.inj e1
    have sm2 := sm.trans (sameNew (o := .tup [.int (i : Nat), x2]) nT)
    refine ⟨T', _, rfl, .inl (.inl upd_same), rfl, _, _, rfl, _, _, rfl, rfl,
      ?_⟩
    rcases (el x2 (List.mem_of_getElem? e2)).same sm2 with
      ⟨l, rfl, hl⟩ | ⟨t, ty, kt, nt⟩
    · refine ⟨_, rfl, _, _, _, _, true, rfl, .ty "str", .base (.str _),
        kit_ty (by decide +kernel), _, rfl, iteF ?_⟩
      refine ⟨_, rfl, _, rfl, it, _, rfl, .inl (SqL.of (sm2 _ _ hi)), rfl,
        flat_S _, _, rfl, ?_⟩
      rw [inV_S]
      by_cases mm : l ∈ ls
      · rw [decide_eq_true mm]
        refine iteF ?_
        refine ⟨_, rfl, _, rfl, _, rfl, i, rfl, a, _, rfl,
          SqL.of (sm2 _ _ ha), fun t nt => ?_⟩
        rw [cut_to _ (by omega), pa.tk]
        refine ⟨t, _, rfl, .inl (SqL.of upd_same), rfl, flat_S _, _, rfl, ?_⟩
        rw [inV_S]
        have sm4 := sm2.trans (sameNew (o := .lst (os.map vS)) nt)
        by_cases mt : l ∈ os
        · rw [decide_eq_true mt]
          refine iteT ⟨_, rfl, ?_⟩
          have := q _ sm4
          rw [pa.bad e2 (.inr ⟨l, tx_S l, fun z => z.2 mt⟩)] at this
          exact this
        · rw [decide_eq_false mt]
          exact iteF ⟨_, _, _, rfl, sm4, pa.next e2 mm mt⟩
      · rw [decide_eq_false mm]
        refine iteT ⟨_, rfl, ?_⟩
        have := q _ sm2
        rw [pa.bad e2 (.inr ⟨l, tx_S l, fun z => mm z.1⟩)] at this
        exact this
    · refine ⟨_, rfl, _, _, _, _, false, rfl, .ty "str", .base ty, kt, _, rfl,
        iteT ⟨_, rfl, ?_⟩⟩
      have := q _ sm2
      rw [pa.bad e2 (.inl nt)] at this
      exact this
  · rintro σ H1 ⟨y, z, os, rfl, sm, pa⟩
    obtain ⟨ex, ep⟩ := pa.done
    have ha1 := sm _ _ ha
    have hi1 := sm _ _ hi
    refine ⟨_, rfl, a, _, rfl, .inl (SqL.of ha1), _, rfl, it, _, rfl,
      .inl (SqL.of hi1), _, _, rfl, rfl, _, rfl, ?_⟩
    have := q _ sm
    rw [ep] at this
    rw [List.length_map]
    by_cases c : xs.length < ls.length
    · rw [decide_eq_true (by omega)]
      rw [if_pos c] at this
      exact iteT ⟨_, rfl, a, _, rfl, .inl (SqL.of ha1), this⟩
    · rw [decide_eq_false (by omega)]
      rw [if_neg c] at this
      exact iteF this
theorem ok_due {f : Addr} {fd : FuncData} {k : Nat}
    (F : Fun K "_law_inverted_due" "_law_inverted_due" s_Linverted_due f fd)
    (B : Bl mg) (sm : ∃ o, base.get? sysModules = some o) :
    FnG P w K mg base CX0 (k + 1) f fd
      ["_law_items", "_law_value", "_law_first", "_law_second"]
      (spDue K) := by
  refine okG F sc_Linverted_due (fun vs H Q E h => ?_)
    (fun cv A outer s H vs Q E hr gd h => ?_)
  · obtain ⟨it, a, x, y, ls, os, dx, dy, rfl, _⟩ := h
    rfl
  obtain ⟨it, a, x, y, ls, os, dx, dy, rfl, hi, ha, go, pm, ox, oy, q1, q2,
    q3⟩ := h
  have nd := sc_Linverted_due.nd
  have go2 := go.perm pm
  refine ⟨_, pss_cons (ps_for PassesOwn.never rfl
      (pi_tup (pe_tup (pa_cons (pv 2) (pa_cons (pv 3) pa_nil))))
      (pg_name (i := 4) nd rfl (.inl rfl))
      (pss_one (ps_if (PW.pt (pw_or (pt_not (pt_val
          (pe_callB call_isi (by rfl) B.isi bt_isi (pa_cons (pv 4) (pa_cons
            (pe_bltn (v := .ty "str") (by rfl) B.str bt_str rfl) pa_nil)))))
          (pw_or1 (pt_cmpR op_notIn_seq (pv 4) (pv 0) (by rfl)))))
        (pss_one (ps_ret (pe_tup (pa_cons pe_str (pa_cons
          (pe_callB (call_reprY hr.units gd sm) (by rfl) B.repr bt_rp
            (pa_cons (pv 4) pa_nil)) pa_nil))))) pss_nil)))
    (pss_cons (ps_par (i := 5) (j := 6) (by rfl) nd rfl rfl (by decide) rfl rfl
      (pa_cons (pe_lc (own := [("_law_one", 7)]) (g := gName 7) rfl nd
        (pi_list (pv 0))
        (blkOk_by (N := N_Linverted_due) (sc := defScope s_Linverted_due)
          (by decide +kernel))
        (fun _ _ _ _ _ => pg_name (i := 7) nd rfl (Or.inl rfl))
        (fun _ _ _ _ _ => pts_one (pt_cmpR (r := rIn K false) op_in_seq (pv 7)
          (pe_tup (pa_cons (pv 2) (pa_cons (pv 3) pa_nil))) (by rfl)))
        (fun _ _ _ _ _ => pv 7))
      (pa_cons (pe_lc (own := [("_law_one", 7)]) (g := gName 7) rfl nd
        (pi_list (pv 1))
        (blkOk_by (N := N_Linverted_due) (sc := defScope s_Linverted_due)
          (by decide +kernel))
        (fun _ _ _ _ _ => pg_name (i := 7) nd rfl (Or.inl rfl))
        (fun _ _ _ _ _ => pts_one (pt_cmpR (r := rIn K false) op_in_seq (pv 7)
          (pe_tup (pa_cons (pv 2) (pa_cons (pv 3) pa_nil))) (by rfl)))
        (fun _ _ _ _ _ => pv 7)) pa_nil)) (by rfl))
    (pss_one (ps_ret (pe_tup (pa_cons pe_str (pa_cons
      (pe_cmpR (op_neD hr.units) (pv 5) (pv 6) (nomark _)) pa_nil)))))), ?_⟩
  refine ⟨_, rfl, _, rfl, two_l, fun p0 n0 => ⟨p0, rfl,
    ⟨_, SqT.of upd_same⟩, ?_⟩⟩
  have s0 : Same H (upd H p0 (.tup [x, y])) := sameNew n0
  have h0 : (upd H p0 (.tup [x, y])) p0 = some (.tup [x, y]) := upd_same
  generalize upd H p0 (.tup [x, y]) = H0 at s0 h0 ⊢
  refine for_it (walk_tup (K := K) (a := p0) (xs := [x, y]))
    (fun i σ H' => ∃ (z : Option V), σ = [some (.ref it), some (.ref a),
      some x, some y, z, none, none, none] ∧ Same H0 H' ∧
      (1 ≤ i → ∃ l, x = vS l ∧ l ∈ ls) ∧ (2 ≤ i → ∃ l, y = vS l ∧ l ∈ ls))
    ⟨none, rfl, Same.refl H0, fun z => absurd z (by decide),
      fun z => absurd z (by decide)⟩
    (fun i σ H' _ z => by
      obtain ⟨_, _, s1, _⟩ := z
      exact SqT.of (s1 _ _ h0)) ?_ ?_
  · rintro i v σ H1 H2 hi2 ⟨z, rfl, s1, g1, g2⟩ ⟨rfl, ev⟩
    have hi2 : i < 2 := hi2
    have sH := s0.trans s1
    have odd : ∃ d, Odd H v d ∧ (NoI ls v → ItemT H Q d.shown) ∧
        ((∃ l, v = vS l ∧ l ∈ ls) →
          (1 ≤ i + 1 → ∃ l, x = vS l ∧ l ∈ ls) ∧
          (2 ≤ i + 1 → ∃ l, y = vS l ∧ l ∈ ls)) := by
      have c : i = 0 ∨ i = 1 := by omega
      rcases c with rfl | rfl
      · have e : x = v := Option.some.inj ev
        subst e
        exact ⟨dx, ox, q1, fun h => ⟨fun _ => h,
          fun z => absurd z (by decide)⟩⟩
      · have e : y = v := Option.some.inj ev
        subst e
        exact ⟨dy, oy, q2 (g1 (Nat.le_refl _)), fun h =>
          ⟨fun _ => g1 (Nat.le_refl _), fun _ => h⟩⟩
    obtain ⟨d, od, qd, nx⟩ := odd
    have od1 := od.same sH
    have out : NoI ls v → ∀ t, H2 t = none →
        Q (.ref t) (upd H2 t (.tup [.str "item", .str d.shown])) :=
      fun no t nt => (qd no) t _ (sH.free nt) upd_same (sH.trans (sameNew nt))
    have sd := od.sm
    rcases od1.elt (K := K) with ⟨l, rfl, hl⟩ | ⟨t, ty, kt, nt⟩
    · refine ⟨_, rfl, _, _, _, _, true, rfl, .ty "str", .base (.str _),
        kit_ty (by decide +kernel), _, rfl, iteF ?_⟩
      refine ⟨_, rfl, _, rfl, it, _, rfl, .inl (SqL.of (sH _ _ hi)), rfl,
        flat_S _, _, rfl, ?_⟩
      rw [inV_S]
      by_cases mm : l ∈ ls
      · rw [decide_eq_true mm]
        obtain ⟨n1, n2⟩ := nx ⟨l, rfl, mm⟩
        exact iteF ⟨_, rfl, s1, n1, n2⟩
      · rw [decide_eq_false mm]
        refine iteT ⟨_, rfl, _, d, rfl, .inl od1.dx, sd.sh,
          by have := sd.dp; omega, by have := sd.sz; exact sz (by omega),
          two_l, ?_⟩
        exact out fun m e => by
          rw [← vS_inj e]
          exact mm
    · refine ⟨_, rfl, _, _, _, _, false, rfl, .ty "str", .base ty, kt, _, rfl,
        iteT ⟨_, rfl, _, d, rfl, .inl od1.dx, sd.sh,
          by have := sd.dp; omega, by have := sd.sz; exact sz (by omega),
          two_l, ?_⟩⟩
      refine out fun m e => ?_
      rw [e, tx_S] at nt
      cases nt
  · rintro σ H1 ⟨z, rfl, s1, g1, g2⟩
    obtain ⟨l, rfl, hl⟩ := g1 (by show 1 ≤ 2; decide)
    obtain ⟨m, rfl, hm⟩ := g2 (by show 2 ≤ 2; decide)
    have sH := s0.trans s1
    have hi1 := sH _ _ hi
    have ha1 := sH _ _ ha
    have hhi := go.hi
    refine ⟨_, rfl, it, rfl, ⟨_, SqL.of hi1⟩, fun D nD => ?_⟩
    refine lc_it (walk_list (K := K) (a := it) (xs := ls.map vS))
      (fun i H' => H' D = some (.lst (((ls.take i).filter (two l m)).map vS)) ∧
        Same H1 H') ⟨upd_same, sameNew nD⟩
      (fun i H' _ z => SqL.of (z.2 _ _ hi1)) ?_ ?_
    · rintro i v H2 H3 hi2 ⟨hD, s2⟩ ⟨rfl, ev⟩
      obtain ⟨g, hg, rfl⟩ := get_map ev
      rw [List.length_map] at hi2
      have et : ls.take (i + 1) = ls.take i ++ [g] := by
        rw [List.take_add_one, hg]
        rfl
      refine ⟨rfl, _, rfl, _, rfl, _, rfl, two_l, fun t nt => ?_⟩
      refine ⟨t, _, rfl, .inr (SqT.of upd_same), rfl, rfl, _, rfl, ?_⟩
      have e2 : inV (vS g) [vS l, vS m] = two l m g := inV_S g [l, m]
      have s3 : Same H1 (upd H3 t (.tup [vS l, vS m])) :=
        s2.trans (sameNew nt)
      have hD3 : (upd H3 t (.tup [vS l, vS m])) D =
          some (.lst (((ls.take i).filter (two l m)).map vS)) := by
        rw [upd_ne (ne_of_none hD nt)]
        exact hD
      show if inV (vS g) [vS l, vS m] = true then _ else _
      rw [e2]
      refine ite2 (fun c => ?_) (fun c => ?_)
      · refine ⟨_, rfl, _, hD3, ?_, ?_, ?_⟩
        · rw [List.length_map]
          refine sz' (Nat.lt_of_le_of_lt (List.length_filter_le _ _) ?_)
          rw [List.length_take]
          omega
        · rw [upd_same, et, List.filter_append,
            List.filter_cons_of_pos c, List.map_append]
          rfl
        · exact OM.Same.put s3 nD
      · refine ⟨?_, s3⟩
        rw [et, List.filter_append, List.filter_cons_of_neg c]
        rw [List.filter_nil, List.append_nil]
        exact hD3
    rintro H2 ⟨hD, s2⟩
    rw [List.length_map, List.take_length] at hD
    have ha2 := s2 _ _ ha1
    refine ⟨_, rfl, a, rfl, ⟨_, SqL.of ha2⟩, fun D2 nD2 => ?_⟩
    have hoh : os.length ≤ 40 := go2.hi
    refine lc_it (walk_list (K := K) (a := a) (xs := os.map vS))
      (fun i H' => H' D2 = some (.lst (((os.take i).filter (two l m)).map vS)) ∧
        Same H2 H') ⟨upd_same, sameNew nD2⟩
      (fun i H' _ z => SqL.of (z.2 _ _ ha2)) ?_ ?_
    · rintro i v H3 H4 hi2 ⟨hE, s3⟩ ⟨rfl, ev⟩
      obtain ⟨g, hg, rfl⟩ := get_map ev
      rw [List.length_map] at hi2
      have et : os.take (i + 1) = os.take i ++ [g] := by
        rw [List.take_add_one, hg]
        rfl
      refine ⟨rfl, _, rfl, _, rfl, _, rfl, two_l, fun t nt => ?_⟩
      refine ⟨t, _, rfl, .inr (SqT.of upd_same), rfl, rfl, _, rfl, ?_⟩
      have e2 : inV (vS g) [vS l, vS m] = two l m g := inV_S g [l, m]
      have s4 : Same H2 (upd H4 t (.tup [vS l, vS m])) :=
        s3.trans (sameNew nt)
      have hE3 : (upd H4 t (.tup [vS l, vS m])) D2 =
          some (.lst (((os.take i).filter (two l m)).map vS)) := by
        rw [upd_ne (ne_of_none hE nt)]
        exact hE
      show if inV (vS g) [vS l, vS m] = true then _ else _
      rw [e2]
      refine ite2 (fun c => ?_) (fun c => ?_)
      · refine ⟨_, rfl, _, hE3, ?_, ?_, ?_⟩
        · rw [List.length_map]
          refine sz' (Nat.lt_of_le_of_lt (List.length_filter_le _ _) ?_)
          rw [List.length_take]
          omega
        · rw [upd_same, et, List.filter_append,
            List.filter_cons_of_pos c, List.map_append]
          rfl
        · exact OM.Same.put s4 nD2
      · refine ⟨?_, s4⟩
        rw [et, List.filter_append, List.filter_cons_of_neg c]
        rw [List.filter_nil, List.append_nil]
        exact hE3
    rintro H3 ⟨hE, s3⟩
    rw [List.length_map, List.take_length] at hE
    have hD3 := s3 _ _ hD
    have u1 : Uni (ls.filter (two l m)) := fun x hx =>
      (go.nm x (List.mem_filter.mp hx).1).uni
    have u2 : Uni (os.filter (two l m)) := fun x hx =>
      (go2.nm x (List.mem_filter.mp hx).1).uni
    refine ⟨_, _, rfl, _, rfl, _, rfl, _, _, dp_N (SqL.of hD3),
      dp_N (SqL.of hE), shaped_L u1, shaped_L u2, two_l, fun t nt => ?_⟩
    rw [eqv_L, filt_eq go.nd go2.nd hl hm (pm.mem_iff.mpr hl)
      (pm.mem_iff.mpr hm)]
    have sA := (sH.trans s2).trans s3
    exact q3 l m rfl hl rfl hm t _ (sA.free nt) upd_same
      (sA.trans (sameNew nt))
end
end OM
namespace OM
open PySem PySem.Spec PyProof.Rows L2
def Any1 (H : Hp) (v : V) : Prop := ∃ d, Odd H v d
theorem Any1.same {H H' : Hp} {v : V} (h : Any1 H v) (s : Same H H') :
    Any1 H' v := ⟨h.choose, h.choose_spec.same s⟩
theorem Any1.but {H H' : Hp} {v : V} {p : Addr} (h : Any1 H v) (r : Rng H p)
    (s : But p H H') : Any1 H' v := ⟨h.choose, h.choose_spec.but r s⟩
def spOdd : Sp := fun vs H Q _ => ∃ (p it : Addr) (ls : List (List Nat)),
  vs = [.ref p, .ref it] ∧ Rng H p ∧ H it = some (.lst (ls.map vS)) ∧
  it ≠ p ∧ ls.length ≤ 600 ∧
  ∀ x H', Any1 H' x → Rng H' p → But p H H' → Q x H'
def spChgd : Sp := fun vs H Q _ => ∃ (p it a : Addr) (ls : List (List Nat))
    (xs : List V), vs = [.ref p, .ref it, .ref a] ∧ Rng H p ∧
  H it = some (.lst (ls.map vS)) ∧ it ≠ p ∧ Good ls ∧
  H a = some (.lst xs) ∧ a ≠ p ∧ (∀ x ∈ xs, Any1 H x) ∧ xs.length ≤ 100 ∧
  ∀ b ys H', b ≠ p → H' b = some (.lst ys) → (∀ y ∈ ys, Any1 H' y) →
    ys.length ≤ xs.length + 1 → Rng H' p → But p H H' → Q (.ref b) H'
section
variable {P : Program} {w : World} {K : PySem.W.Frag}
  {mg : Str → Option Value} {base : Heap}
theorem ok_odd {f : Addr} {fd : FuncData} {k : Nat}
    (F : Fun K "_law_odd" "_law_odd" s_Lodd f fd)
    (Cn : Cal P w K mg base k "_law_name" ["_law_rng_here", "_law_used"]
      (spName K))
    (Cc : Cal P w K mg base k "_law_choice" ["_law_rng_here", "_law_options"]
      (spChoice K)) :
    FnOk P w K mg base CX0 (k + 1) f fd ["_law_rng_here", "_law_items"]
      spOdd := by
  refine F.ok sc_Lodd (fun vs H Q E h => ?_)
    (fun cv A outer s H vs Q E hr h => ?_)
  · obtain ⟨p, it, ls, rfl, _⟩ := h
    rfl
  obtain ⟨p, it, ls, rfl, rg, hi, nip, hl, q⟩ := h
  have nd := sc_Lodd.nd
  refine ⟨_, pss_cons (ps_set (i := 2) nd rfl (.inl rfl) (pe_lst
      (pa_cons pe_non (pa_cons pe_bl (pa_cons pe_bl (pa_cons pe_int
      (pa_cons pe_int (pa_cons pe_str (pa_cons pe_str (pa_cons pe_str
      (pa_cons (pe_tup pa_nil) (pa_cons (pe_lst pa_nil) (pa_cons pe_dnewK
      (pa_cons (pe_tup (pa_cons pe_str pa_nil))
      (pa_cons (pe_lst (pa_cons pe_str pa_nil)) (pa_cons pe_str
      (pa_cons (pe_cal Cn hr (pa_cons (pv 0) (pa_cons (pv 1) pa_nil)))
        pa_nil)))))))))))))))))
    (pss_one (ps_ret (pe_cal Cc hr (pa_cons (pv 0) (pa_cons (pv 2)
      pa_nil))))), ?_⟩
  refine ⟨by decide, fun p1 n1 => ?_⟩
  have s1 := sameNew (o := .tup []) n1
  have e1 : Any1 (upd H p1 (.tup [])) (.ref p1) := ⟨_, .t0 upd_same⟩
  generalize upd H p1 (.tup []) = H1 at s1 e1 ⊢
  refine ⟨by decide, fun p2 n2 => ?_⟩
  have s2 := s1.trans (sameNew (o := .lst []) n2)
  have e2 : Any1 (upd H1 p2 (.lst [])) (.ref p2) := ⟨_, .l0 upd_same⟩
  replace e1 := e1.same (sameNew (o := .lst []) n2)
  generalize upd H1 p2 (.lst []) = H2 at s2 e1 e2 ⊢
  intro p3 n3
  have s3 := s2.trans (sameNew (o := .dK []) n3)
  have e3 : Any1 (upd H2 p3 (.dK [])) (.ref p3) := ⟨_, .d0 upd_same⟩
  replace e1 := e1.same (sameNew (o := .dK []) n3)
  replace e2 := e2.same (sameNew (o := .dK []) n3)
  generalize upd H2 p3 (.dK []) = H3 at s3 e1 e2 e3 ⊢
  refine ⟨by decide, fun p4 n4 => ?_⟩
  have s4 := s3.trans (sameNew (o := .tup [.str "a"]) n4)
  have e4 : Any1 (upd H3 p4 (.tup [.str "a"])) (.ref p4) := ⟨_, .t1 upd_same⟩
  replace e1 := e1.same (sameNew (o := .tup [.str "a"]) n4)
  replace e2 := e2.same (sameNew (o := .tup [.str "a"]) n4)
  replace e3 := e3.same (sameNew (o := .tup [.str "a"]) n4)
  generalize upd H3 p4 (.tup [.str "a"]) = H4 at s4 e1 e2 e3 e4 ⊢
  refine ⟨by decide, fun p5 n5 => ?_⟩
  have s5 := s4.trans (sameNew (o := .lst [.str "a"]) n5)
  have e5 : Any1 (upd H4 p5 (.lst [.str "a"])) (.ref p5) := ⟨_, .l1 upd_same⟩
  replace e1 := e1.same (sameNew (o := .lst [.str "a"]) n5)
  replace e2 := e2.same (sameNew (o := .lst [.str "a"]) n5)
  replace e3 := e3.same (sameNew (o := .lst [.str "a"]) n5)
  replace e4 := e4.same (sameNew (o := .lst [.str "a"]) n5)
  generalize upd H4 p5 (.lst [.str "a"]) = H5 at s5 e1 e2 e3 e4 e5 ⊢
  have rg5 := rg.same s5
  refine ⟨_, rfl, _, rfl, p, it, ls, rfl, rg5, SqL.of (s5 _ _ hi), nip, hl,
    fun l H6 nl _ rg6 b6 => ?_⟩
  replace e1 := e1.but rg5 b6
  replace e2 := e2.but rg5 b6
  replace e3 := e3.but rg5 b6
  replace e4 := e4.but rg5 b6
  replace e5 := e5.but rg5 b6
  have bb : But p H H6 := (But.of s5).trans b6
  refine ⟨by show 15 ≤ sizeLine; decide, fun p7 n7 => ?_⟩
  have n7p := rg6.ne n7
  refine ⟨_, rfl, _, rfl, p, p7, _, rfl, rg6.same (sameNew n7),
    SqL.of upd_same, n7p.symm, by show 0 < 15; decide,
    by show 15 ≤ 1000; decide, fun x H' hx rg' b' => ?_⟩
  have b7 : But p H6 H' := fun a o ha na =>
    b' a o (by rw [upd_ne (ne_of_none ha n7)]; exact ha) na
  refine q x H' (Any1.but (H := H6) ?_ rg6 b7) rg' (bb.trans b7)
  simp only [List.mem_cons, List.not_mem_nil, or_false] at hx
  rcases hx with rfl | rfl | rfl | rfl | rfl | rfl | rfl | rfl | rfl | rfl |
    rfl | rfl | rfl | rfl | rfl
  · exact ⟨_, .non⟩
  · exact ⟨_, .bl _⟩
  · exact ⟨_, .bl _⟩
  · exact ⟨_, .i0⟩
  · exact ⟨_, .i1⟩
  · exact ⟨_, .con _ (by decide +kernel)⟩
  · exact ⟨_, .con _ (by decide +kernel)⟩
  · exact ⟨_, .con _ (by decide +kernel)⟩
  · exact e1
  · exact e2
  · exact e3
  · exact e4
  · exact e5
  · exact ⟨_, .con _ (by decide +kernel)⟩
  · exact ⟨_, .nm l nl⟩
theorem ok_chgd {f : Addr} {fd : FuncData} {k : Nat}
    (F : Fun K "_law_changed" "_law_changed" s_Lchanged f fd) (B : Bl mg)
    (Cd : CalDraw P w K mg base k)
    (Co : Cal P w K mg base k "_law_odd" ["_law_rng_here", "_law_items"] spOdd)
    (Cc : Cal P w K mg base k "_law_choice" ["_law_rng_here", "_law_options"]
      (spChoice K)) :
    FnOk P w K mg base CX0 (k + 1) f fd
      ["_law_rng_here", "_law_items", "_law_value"] spChgd := by
  refine F.ok sc_Lchanged (fun vs H Q E h => ?_)
    (fun cv A outer s H vs Q E hr h => ?_)
  · obtain ⟨p, it, a, ls, xs, rfl, _⟩ := h
    rfl
  obtain ⟨p, it, a, ls, xs, rfl, rg, hi, nip, go, ha, nap, ev, hx, q⟩ := h
  have nd := sc_Lchanged.nd
  have ghi := go.hi
  have glo := go.lo
  refine ⟨_, pss_cons (ps_par (i := 3) (j := 4) (by rfl) nd rfl rfl (by decide)
      rfl rfl (pa_cons (pe_cal Cd hr (pa_cons (pv 0) (pa_cons
          (pe_op op_add (pe_callB call_len_seq (by rfl) B.len PySem.boot_len
            (pa_cons (pv 2) pa_nil)) pe_int) pa_nil)))
        (pa_cons (pe_cal Cd hr (pa_cons (pv 0) (pa_cons pe_int pa_nil)))
          pa_nil)) (by rfl))
    (pss_cons (ps_if (pt_cmpR op_eq (pv 4) pe_int (nomark _))
      (pss_one (ps_ret (pe_op op_cat (pe_op op_cat
        (pe_slice sl_list (pv 2) po_none (po_some (pv 3)))
        (pe_lst (pa_cons (pe_cal Co hr (pa_cons (pv 0) (pa_cons (pv 1)
          pa_nil))) pa_nil)))
        (pe_slice sl_list (pv 2) (po_some (pv 3)) po_none)))) pss_nil)
    (pss_cons (ps_if (pt_cmpR op_eq (pv 4) pe_int (nomark _))
      (pss_one (ps_ret (pe_op op_cat (pe_op op_cat
        (pe_slice sl_list (pv 2) po_none (po_some (pv 3)))
        (pe_lst (pa_cons (pe_cal Cc hr (pa_cons (pv 0) (pa_cons (pv 1)
          pa_nil))) pa_nil)))
        (pe_slice sl_list (pv 2) (po_some (pv 3)) po_none)))) pss_nil)
    (pss_cons (ps_if (pt_cmpR (op_eqNil hr) (pv 2) (pe_lst pa_nil)
        (nomark _)) (pss_one (ps_ret (pv 2))) pss_nil)
    (pss_cons (ps_set (i := 3) nd rfl (.inl rfl)
      (pe_callB (call_min2 rfl) (by rfl) B.min bt_min (pa_cons (pv 3)
        (pa_cons (pe_op op_sub (pe_callB call_len_seq (by rfl) B.len
          PySem.boot_len (pa_cons (pv 2) pa_nil)) pe_int) pa_nil))))
    (pss_cons (ps_if (pt_cmpR op_eq (pv 4) pe_int (nomark _))
      (pss_one (ps_ret (pe_op op_cat (pe_op op_cat
        (pe_slice sl_list (pv 2) po_none (po_some (pv 3)))
        (pe_lst (pa_cons (pe_cal Co hr (pa_cons (pv 0) (pa_cons (pv 1)
          pa_nil))) pa_nil)))
        (pe_slice sl_list (pv 2) (po_some (pe_op op_add (pv 3) pe_int))
          po_none)))) pss_nil)
    (pss_cons (ps_if (pt_cmpR op_eq (pv 4) pe_int (nomark _))
      (pss_one (ps_ret (pe_op op_cat (pe_op op_cat
        (pe_slice sl_list (pv 2) po_none (po_some (pv 3)))
        (pe_lst (pa_cons (pe_cal Cc hr (pa_cons (pv 0) (pa_cons (pv 1)
          pa_nil))) pa_nil)))
        (pe_slice sl_list (pv 2) (po_some (pe_op op_add (pv 3) pe_int))
          po_none)))) pss_nil)
    (pss_cons (ps_if (pt_cmpR op_eq (pv 4) pe_int (nomark _))
      (pss_one (ps_ret (pe_op op_cat
        (pe_slice sl_list (pv 2) po_none (po_some (pv 3)))
        (pe_slice sl_list (pv 2) (po_some (pe_op op_add (pv 3) pe_int))
          po_none)))) pss_nil)
    (pss_one (ps_ret (pe_op op_cat
        (pe_slice sl_list (pv 2) (po_some (pv 3)) po_none)
        (pe_slice sl_list (pv 2) po_none (po_some (pv 3))))))))))))), ?_⟩
  refine ⟨_, rfl, _, rfl, a, _, rfl, .inl (SqL.of ha), _, _, rfl, rfl, p, _, rfl,
    rg, by omega, by omega, fun d1 H1 c0 c1 rg1 b1 => ⟨_, rfl, p, 6, rfl, rg1,
    by decide, by decide, fun d2 H2 e0 e1 rg2 b2 => ⟨_, _, rfl, ?_⟩⟩⟩
  obtain ⟨m, rfl⟩ : ∃ m : Nat, d1 = m := ⟨d1.toNat, by omega⟩
  have hm : m ≤ xs.length := by omega
  have bb : But p H H2 := b1.trans b2
  have h2 := bb _ _ ha nap
  have i2 := bb _ _ hi nip
  have evs : ∀ x ∈ xs, Any1 H2 x := fun x hx => (ev x hx).but rg bb
  have its : ∀ x ∈ ls.map vS, ∀ H' : Hp, Any1 H' x := fun x hx H' => by
    obtain ⟨l, hl, rfl⟩ := List.mem_map.mp hx
    exact ⟨_, .nm l (go.nm l hl)⟩
  -- a list that is made of what was there
  have fin : ∀ (t : Addr) (ys : List V) (H4 : Hp), But p H2 H4 → Rng H4 p →
      H4 t = none → (∀ y ∈ ys, Any1 H4 y) → ys.length ≤ xs.length + 1 →
      Q (.ref t) (upd H4 t (.lst ys)) := by
    intro t ys H4 b4 rg4 nt ey ly
    have ntp := rg4.ne nt
    exact q t ys _ ntp.symm upd_same (fun y hy => (ey y hy).same (sameNew nt))
      ly (rg4.same (sameNew nt)) ((bb.trans b4).put nt ntp.symm)
  clear c0 c1 b1 rg1
  refine ⟨_, rfl, rfl, _, rfl, ite2 (fun w0 => ?_) (fun w0 => ?_)⟩
  · refine ⟨_, rfl, _, rfl, m, rfl, a, _, rfl, SqL.of h2, fun t1 nt1 => ?_⟩
    rw [cut_to _ hm]
    have s4 := sameNew (o := .lst (xs.take m)) nt1
    have g1 : (upd H2 t1 (.lst (xs.take m))) t1 = some (.lst (xs.take m)) :=
      upd_same
    have r4 := rg2.same s4
    have t1p := (rg2.ne nt1).symm
    generalize upd H2 t1 (.lst (xs.take m)) = H4 at s4 g1 r4 ⊢
    refine ⟨_, rfl, _, rfl, p, it, ls, rfl, r4, s4 _ _ i2, nip, by omega,
      fun v H5 av r5 b5 => ?_⟩
    have b25 : But p H2 H5 := (But.of s4).trans b5
    replace g1 := b5 _ _ g1 t1p
    refine ⟨by show 1 ≤ sizeLine; decide, fun t2 nt2 => ?_⟩
    have s6 := sameNew (o := .lst [v]) nt2
    replace g1 := s6 _ _ g1
    have g2 : (upd H5 t2 (.lst [v])) t2 = some (.lst [v]) := upd_same
    generalize upd H5 t2 (.lst [v]) = H6 at s6 g1 g2 ⊢
    refine ⟨t1, t2, _, _, rfl, rfl, g1, g2, ?_, fun t3 nt3 => ?_⟩
    · rw [List.length_take, List.length_singleton]
      exact sz (by omega)
    have s7 := s6.trans (sameNew (o := .lst (xs.take m ++ [v])) nt3)
    have g3 : (upd H6 t3 (.lst (xs.take m ++ [v]))) t3 =
      some (.lst (xs.take m ++ [v])) := upd_same
    generalize upd H6 t3 (.lst (xs.take m ++ [v])) = H7 at s7 g3 ⊢
    have h7 := s7 _ _ (b25 _ _ h2 nap)
    refine ⟨_, rfl, _, rfl, m, rfl, a, _, rfl, SqL.of h7, fun t4 nt4 => ?_⟩
    rw [cut_from _ (show m ≤ xs.length by omega)]
    have s8 := s7.trans (sameNew (o := .lst (xs.drop m)) nt4)
    replace g3 := sameNew (o := .lst (xs.drop m)) nt4 _ _ g3
    have g4 : (upd H7 t4 (.lst (xs.drop m))) t4 =
      some (.lst (xs.drop m)) := upd_same
    generalize upd H7 t4 (.lst (xs.drop m)) = H8 at s8 g3 g4 ⊢
    refine ⟨t3, t4, _, _, rfl, rfl, g3, g4, ?_, fun t5 nt5 => ?_⟩
    · rw [List.length_append, List.length_take,
        List.length_singleton, List.length_drop]
      exact sz (by omega)
    refine fin t5 _ H8 (b25.trans (But.of s8)) (r5.same s8) nt5 (fun y hy => ?_) ?_
    · have old : ∀ y ∈ xs, Any1 H8 y := fun y hy =>
        ((evs y hy).but rg2 b25).same s8
      rcases List.mem_append.mp hy with hy | hy
      · rcases List.mem_append.mp hy with hy | hy
        · exact old y (List.mem_of_mem_take hy)
        · rw [List.mem_singleton.mp hy]
          exact av.same s8
      · exact old y (List.mem_of_mem_drop hy)
    · rw [List.length_append, List.length_append, List.length_take,
        List.length_drop, List.length_singleton]
      omega
  refine ⟨_, rfl, rfl, _, rfl, ite2 (fun w1 => ?_) (fun w1 => ?_)⟩
  · refine ⟨_, rfl, _, rfl, m, rfl, a, _, rfl, SqL.of h2, fun t1 nt1 => ?_⟩
    rw [cut_to _ hm]
    have s4 := sameNew (o := .lst (xs.take m)) nt1
    have g1 : (upd H2 t1 (.lst (xs.take m))) t1 = some (.lst (xs.take m)) :=
      upd_same
    have r4 := rg2.same s4
    have t1p := (rg2.ne nt1).symm
    generalize upd H2 t1 (.lst (xs.take m)) = H4 at s4 g1 r4 ⊢
    refine ⟨_, rfl, _, rfl, p, it, _, rfl, r4, SqL.of (s4 _ _ i2), nip, by
      rw [List.length_map]; omega, by rw [List.length_map]; omega,
      fun v H5 vm r5 b5 => ?_⟩
    have av : Any1 H5 v := its v vm H5
    have b25 : But p H2 H5 := (But.of s4).trans b5
    replace g1 := b5 _ _ g1 t1p
    refine ⟨by show 1 ≤ sizeLine; decide, fun t2 nt2 => ?_⟩
    have s6 := sameNew (o := .lst [v]) nt2
    replace g1 := s6 _ _ g1
    have g2 : (upd H5 t2 (.lst [v])) t2 = some (.lst [v]) := upd_same
    generalize upd H5 t2 (.lst [v]) = H6 at s6 g1 g2 ⊢
    refine ⟨t1, t2, _, _, rfl, rfl, g1, g2, ?_, fun t3 nt3 => ?_⟩
    · rw [List.length_take, List.length_singleton]
      exact sz (by omega)
    have s7 := s6.trans (sameNew (o := .lst (xs.take m ++ [v])) nt3)
    have g3 : (upd H6 t3 (.lst (xs.take m ++ [v]))) t3 =
      some (.lst (xs.take m ++ [v])) := upd_same
    generalize upd H6 t3 (.lst (xs.take m ++ [v])) = H7 at s7 g3 ⊢
    have h7 := s7 _ _ (b25 _ _ h2 nap)
    refine ⟨_, rfl, _, rfl, m, rfl, a, _, rfl, SqL.of h7, fun t4 nt4 => ?_⟩
    rw [cut_from _ (show m ≤ xs.length by omega)]
    have s8 := s7.trans (sameNew (o := .lst (xs.drop m)) nt4)
    replace g3 := sameNew (o := .lst (xs.drop m)) nt4 _ _ g3
    have g4 : (upd H7 t4 (.lst (xs.drop m))) t4 =
      some (.lst (xs.drop m)) := upd_same
    generalize upd H7 t4 (.lst (xs.drop m)) = H8 at s8 g3 g4 ⊢
    refine ⟨t3, t4, _, _, rfl, rfl, g3, g4, ?_, fun t5 nt5 => ?_⟩
    · rw [List.length_append, List.length_take,
        List.length_singleton, List.length_drop]
      exact sz (by omega)
    refine fin t5 _ H8 (b25.trans (But.of s8)) (r5.same s8) nt5 (fun y hy => ?_) ?_
    · have old : ∀ y ∈ xs, Any1 H8 y := fun y hy =>
        ((evs y hy).but rg2 b25).same s8
      rcases List.mem_append.mp hy with hy | hy
      · rcases List.mem_append.mp hy with hy | hy
        · exact old y (List.mem_of_mem_take hy)
        · rw [List.mem_singleton.mp hy]
          exact av.same s8
      · exact old y (List.mem_of_mem_drop hy)
    · rw [List.length_append, List.length_append, List.length_take,
        List.length_drop, List.length_singleton]
      omega
  refine ⟨_, rfl, by decide, fun p0 n0 => ?_⟩
  have z3 := sameNew (o := .lst []) n0
  have hp0 : (upd H2 p0 (.lst [])) p0 = some (.lst []) := upd_same
  generalize upd H2 p0 (.lst []) = H3 at z3 hp0 ⊢
  replace h2 := z3 _ _ h2
  replace i2 := z3 _ _ i2
  replace evs : ∀ x ∈ xs, Any1 H3 x := fun x hx => (evs x hx).same z3
  replace rg2 := rg2.same z3
  replace bb := bb.trans (But.of z3)
  replace fin : ∀ (t : Addr) (ys : List V) (H4 : Hp), But p H3 H4 → Rng H4 p →
      H4 t = none → (∀ y ∈ ys, Any1 H4 y) → ys.length ≤ xs.length + 1 →
      Q (.ref t) (upd H4 t (.lst ys)) := fun t ys H4 b4 =>
    fin t ys H4 ((But.of z3).trans b4)
  clear z3
  generalize H3 = H2 at *
  refine ⟨a, p0, xs, rfl, rfl, h2, hp0, _, rfl, ?_⟩
  cases hxs : xs with
  | nil =>
    refine iteT ⟨_, rfl, ?_⟩
    rw [hxs] at h2
    exact q a _ H2 nap h2 nofun (by rw [hxs]; show 0 ≤ _; omega) rg2 bb
  | cons x0 xr =>
  have hl : 0 < xs.length := by rw [hxs, List.length_cons]; omega
  refine iteF ?_
  refine ⟨_, rfl, _, rfl, a, _, rfl, .inl (SqL.of h2), _, _, rfl, rfl, _, _, rfl,
    ?_⟩
  obtain ⟨m2, hm2', hm2⟩ : ∃ m2 : Nat,
      (if ((xs.length : Nat) : Int) - 1 < ((m : Nat) : Int) then
        ((xs.length : Nat) : Int) - 1 else ((m : Nat) : Int)) =
        ((m2 : Nat) : Int) ∧ m2 < xs.length := by
    by_cases c : ((xs.length : Nat) : Int) - 1 < ((m : Nat) : Int)
    · rw [if_pos c]
      exact ⟨xs.length - 1, by omega, by omega⟩
    · rw [if_neg c]
      exact ⟨m, rfl, by omega⟩
  rw [hm2']
  replace hm2 : m2 + 1 ≤ xs.length := hm2
  have hm2l : m2 ≤ xs.length := by omega
  refine ⟨_, rfl, rfl, _, rfl, ite2 (fun w2 => ?_) (fun w2 => ?_)⟩
  · refine ⟨_, rfl, _, rfl, m2, rfl, a, _, rfl, SqL.of h2, fun t1 nt1 => ?_⟩
    rw [cut_to _ hm2l]
    have s4 := sameNew (o := .lst (xs.take m2)) nt1
    have g1 : (upd H2 t1 (.lst (xs.take m2))) t1 = some (.lst (xs.take m2)) :=
      upd_same
    have r4 := rg2.same s4
    have t1p := (rg2.ne nt1).symm
    generalize upd H2 t1 (.lst (xs.take m2)) = H4 at s4 g1 r4 ⊢
    refine ⟨_, rfl, _, rfl, p, it, ls, rfl, r4, s4 _ _ i2, nip, by omega,
      fun v H5 av r5 b5 => ?_⟩
    have b25 : But p H2 H5 := (But.of s4).trans b5
    replace g1 := b5 _ _ g1 t1p
    refine ⟨by show 1 ≤ sizeLine; decide, fun t2 nt2 => ?_⟩
    have s6 := sameNew (o := .lst [v]) nt2
    replace g1 := s6 _ _ g1
    have g2 : (upd H5 t2 (.lst [v])) t2 = some (.lst [v]) := upd_same
    generalize upd H5 t2 (.lst [v]) = H6 at s6 g1 g2 ⊢
    refine ⟨t1, t2, _, _, rfl, rfl, g1, g2, ?_, fun t3 nt3 => ?_⟩
    · rw [List.length_take, List.length_singleton]
      exact sz (by omega)
    have s7 := s6.trans (sameNew (o := .lst (xs.take m2 ++ [v])) nt3)
    have g3 : (upd H6 t3 (.lst (xs.take m2 ++ [v]))) t3 =
      some (.lst (xs.take m2 ++ [v])) := upd_same
    generalize upd H6 t3 (.lst (xs.take m2 ++ [v])) = H7 at s7 g3 ⊢
    have h7 := s7 _ _ (b25 _ _ h2 nap)
    refine ⟨_, rfl, _, rfl, _, _, rfl, rfl, ((m2 + 1 : Nat) : Int), rfl, a, _,
      rfl, SqL.of h7, fun t4 nt4 => ?_⟩
    rw [cut_from _ (show (m2 + 1) ≤ xs.length by omega)]
    have s8 := s7.trans (sameNew (o := .lst (xs.drop (m2 + 1))) nt4)
    replace g3 := sameNew (o := .lst (xs.drop (m2 + 1))) nt4 _ _ g3
    have g4 : (upd H7 t4 (.lst (xs.drop (m2 + 1)))) t4 =
      some (.lst (xs.drop (m2 + 1))) := upd_same
    generalize upd H7 t4 (.lst (xs.drop (m2 + 1))) = H8 at s8 g3 g4 ⊢
    refine ⟨t3, t4, _, _, rfl, rfl, g3, g4, ?_, fun t5 nt5 => ?_⟩
    · rw [List.length_append, List.length_take,
        List.length_singleton, List.length_drop]
      exact sz (by omega)
    refine fin t5 _ H8 (b25.trans (But.of s8)) (r5.same s8) nt5 (fun y hy => ?_) ?_
    · have old : ∀ y ∈ xs, Any1 H8 y := fun y hy =>
        ((evs y hy).but rg2 b25).same s8
      rcases List.mem_append.mp hy with hy | hy
      · rcases List.mem_append.mp hy with hy | hy
        · exact old y (List.mem_of_mem_take hy)
        · rw [List.mem_singleton.mp hy]
          exact av.same s8
      · exact old y (List.mem_of_mem_drop hy)
    · rw [List.length_append, List.length_append, List.length_take,
        List.length_drop, List.length_singleton]
      omega
  refine ⟨_, rfl, rfl, _, rfl, ite2 (fun w3 => ?_) (fun w3 => ?_)⟩
  · refine ⟨_, rfl, _, rfl, m2, rfl, a, _, rfl, SqL.of h2, fun t1 nt1 => ?_⟩
    rw [cut_to _ hm2l]
    have s4 := sameNew (o := .lst (xs.take m2)) nt1
    have g1 : (upd H2 t1 (.lst (xs.take m2))) t1 = some (.lst (xs.take m2)) :=
      upd_same
    have r4 := rg2.same s4
    have t1p := (rg2.ne nt1).symm
    generalize upd H2 t1 (.lst (xs.take m2)) = H4 at s4 g1 r4 ⊢
    refine ⟨_, rfl, _, rfl, p, it, _, rfl, r4, SqL.of (s4 _ _ i2), nip, by
      rw [List.length_map]; omega, by rw [List.length_map]; omega,
      fun v H5 vm r5 b5 => ?_⟩
    have av : Any1 H5 v := its v vm H5
    have b25 : But p H2 H5 := (But.of s4).trans b5
    replace g1 := b5 _ _ g1 t1p
    refine ⟨by show 1 ≤ sizeLine; decide, fun t2 nt2 => ?_⟩
    have s6 := sameNew (o := .lst [v]) nt2
    replace g1 := s6 _ _ g1
    have g2 : (upd H5 t2 (.lst [v])) t2 = some (.lst [v]) := upd_same
    generalize upd H5 t2 (.lst [v]) = H6 at s6 g1 g2 ⊢
    refine ⟨t1, t2, _, _, rfl, rfl, g1, g2, ?_, fun t3 nt3 => ?_⟩
    · rw [List.length_take, List.length_singleton]
      exact sz (by omega)
    have s7 := s6.trans (sameNew (o := .lst (xs.take m2 ++ [v])) nt3)
    have g3 : (upd H6 t3 (.lst (xs.take m2 ++ [v]))) t3 =
      some (.lst (xs.take m2 ++ [v])) := upd_same
    generalize upd H6 t3 (.lst (xs.take m2 ++ [v])) = H7 at s7 g3 ⊢
    have h7 := s7 _ _ (b25 _ _ h2 nap)
    refine ⟨_, rfl, _, rfl, _, _, rfl, rfl, ((m2 + 1 : Nat) : Int), rfl, a, _,
      rfl, SqL.of h7, fun t4 nt4 => ?_⟩
    rw [cut_from _ (show (m2 + 1) ≤ xs.length by omega)]
    have s8 := s7.trans (sameNew (o := .lst (xs.drop (m2 + 1))) nt4)
    replace g3 := sameNew (o := .lst (xs.drop (m2 + 1))) nt4 _ _ g3
    have g4 : (upd H7 t4 (.lst (xs.drop (m2 + 1)))) t4 =
      some (.lst (xs.drop (m2 + 1))) := upd_same
    generalize upd H7 t4 (.lst (xs.drop (m2 + 1))) = H8 at s8 g3 g4 ⊢
    refine ⟨t3, t4, _, _, rfl, rfl, g3, g4, ?_, fun t5 nt5 => ?_⟩
    · rw [List.length_append, List.length_take,
        List.length_singleton, List.length_drop]
      exact sz (by omega)
    refine fin t5 _ H8 (b25.trans (But.of s8)) (r5.same s8) nt5 (fun y hy => ?_) ?_
    · have old : ∀ y ∈ xs, Any1 H8 y := fun y hy =>
        ((evs y hy).but rg2 b25).same s8
      rcases List.mem_append.mp hy with hy | hy
      · rcases List.mem_append.mp hy with hy | hy
        · exact old y (List.mem_of_mem_take hy)
        · rw [List.mem_singleton.mp hy]
          exact av.same s8
      · exact old y (List.mem_of_mem_drop hy)
    · rw [List.length_append, List.length_append, List.length_take,
        List.length_drop, List.length_singleton]
      omega
  have two : ∀ (t1 t2 : Addr) (us ws : List V) (H4 : Hp), Same H2 H4 →
      H4 t1 = some (.lst us) → H4 t2 = some (.lst ws) →
      (∀ y ∈ us ++ ws, y ∈ xs) → (us ++ ws).length ≤ xs.length + 1 →
      ∀ t3, H4 t3 = none → Q (.ref t3) (upd H4 t3 (.lst (us ++ ws))) := by
    intro t1 t2 us ws H4 s4 g1 g2 sub ly t3 nt3
    exact fin t3 _ H4 (But.of s4) (rg2.same s4) nt3
      (fun y hy => (evs y (sub y hy)).same s4) ly
  refine ⟨_, rfl, rfl, _, rfl, ite2 (fun w4 => ?_) (fun w4 => ?_)⟩
  · refine ⟨_, rfl, _, rfl, m2, rfl, a, _, rfl, SqL.of h2, fun t1 nt1 => ?_⟩
    rw [cut_to _ hm2l]
    have s4 := sameNew (o := .lst (xs.take m2)) nt1
    have g1 : (upd H2 t1 (.lst (xs.take m2))) t1 = some (.lst (xs.take m2)) :=
      upd_same
    generalize upd H2 t1 (.lst (xs.take m2)) = H4 at s4 g1 ⊢
    refine ⟨_, rfl, _, rfl, _, _, rfl, rfl, ((m2 + 1 : Nat) : Int), rfl, a, _,
      rfl, SqL.of (s4 _ _ h2), fun t2 nt2 => ?_⟩
    rw [cut_from _ hm2]
    have s5 := s4.trans (sameNew (o := .lst (xs.drop (m2 + 1))) nt2)
    replace g1 := sameNew (o := .lst (xs.drop (m2 + 1))) nt2 _ _ g1
    have g2 : (upd H4 t2 (.lst (xs.drop (m2 + 1)))) t2 =
      some (.lst (xs.drop (m2 + 1))) := upd_same
    generalize upd H4 t2 (.lst (xs.drop (m2 + 1))) = H5 at s5 g1 g2 ⊢
    refine ⟨t1, t2, _, _, rfl, rfl, g1, g2, ?_, two t1 t2 _ _ H5 s5 g1 g2
      (fun y hy => ?_) ?_⟩
    · rw [List.length_take, List.length_drop]
      exact sz (by omega)
    · rcases List.mem_append.mp hy with hy | hy
      · exact List.mem_of_mem_take hy
      · exact List.mem_of_mem_drop hy
    · rw [List.length_append, List.length_take, List.length_drop]
      omega
  · refine ⟨_, rfl, _, rfl, m2, rfl, a, _, rfl, SqL.of h2, fun t1 nt1 => ?_⟩
    rw [cut_from _ hm2l]
    have s4 := sameNew (o := .lst (xs.drop m2)) nt1
    have g1 : (upd H2 t1 (.lst (xs.drop m2))) t1 = some (.lst (xs.drop m2)) :=
      upd_same
    generalize upd H2 t1 (.lst (xs.drop m2)) = H4 at s4 g1 ⊢
    refine ⟨_, rfl, _, rfl, m2, rfl, a, _, rfl, SqL.of (s4 _ _ h2),
      fun t2 nt2 => ?_⟩
    rw [cut_to _ hm2l]
    have s5 := s4.trans (sameNew (o := .lst (xs.take m2)) nt2)
    replace g1 := sameNew (o := .lst (xs.take m2)) nt2 _ _ g1
    have g2 : (upd H4 t2 (.lst (xs.take m2))) t2 =
      some (.lst (xs.take m2)) := upd_same
    generalize upd H4 t2 (.lst (xs.take m2)) = H5 at s5 g1 g2 ⊢
    refine ⟨t1, t2, _, _, rfl, rfl, g1, g2, ?_, two t1 t2 _ _ H5 s5 g1 g2
      (fun y hy => ?_) ?_⟩
    · rw [List.length_take, List.length_drop]
      exact sz (by omega)
    · rcases List.mem_append.mp hy with hy | hy
      · exact List.mem_of_mem_drop hy
      · exact List.mem_of_mem_take hy
    · rw [List.length_append, List.length_take, List.length_drop]
      omega
end
end OM
namespace OM
open PySem PySem.Spec PyProof.Rows L2
theorem bt_LE : bootBuiltins "LookupError" = some (.type "LookupError") := by
  decide +kernel
theorem bt_VE' : bootBuiltins "ValueError" = some (.type "ValueError") := by
  decide +kernel
theorem bt_KE : bootBuiltins "KeyError" = some (.type "KeyError") := by
  decide +kernel
theorem bt_IE : bootBuiltins "IndexError" = some (.type "IndexError") := by
  decide +kernel
/-- what is known of the errors' classes -/
structure XO (K : PySem.W.Frag) (mg : Str → Option Value)
    (CI CX CP CT CO CV CU : Addr) : Prop where
  cV : XCl K CV
  cU : XClF K CU
  mI : mg "InvalidBase" = some (.ref CI)
  mX : mg "InvalidIndex" = some (.ref CX)
  mP : mg "InvalidPairs" = some (.ref CP)
  mT : mg "InvalidText" = some (.ref CT)
  mO : mg "OrderError" = some (.ref CO)
  mV : mg "InvalidOrder" = some (.ref CV)
  mU : mg "UnknownItem" = some (.ref CU)
  mE : mg "ValueError" = none
  mL : mg "LookupError" = none
  mK : mg "KeyError" = none
  mN : mg "IndexError" = none
  exV : PySem.W.exmOne K (.ref CV) (.ref CV) = some true
  exN : PySem.W.exmOne K (.ref CU) (.ref CV) = some false
  exU : PySem.W.exmOne K (.ref CU) (.ref CU) = some true
  kA : PySem.W.kitAny K (.ref CV) [.ref CI, .ref CX, .ref CP, .ref CT,
    .type "LookupError"] = some false
  kO : PySem.W.kitOne K (.ref CV) (.ref CO) = some true
  kE : PySem.W.kitOne K (.ref CV) (.type "ValueError") = some true
  kL : PySem.W.kitOne K (.ref CU) (.type "LookupError") = some true
  kN : PySem.W.kitAny K (.ref CU) [.type "KeyError", .type "IndexError",
    .type "ValueError"] = some false
  nV : PySem.W.findIn K (.ref CV) "position" = some none
  nU : PySem.W.findIn K (.ref CU) "value" = some none
def tLen (n : Nat) (t : TS) : TS := fun D σ H => σ.length = n → t D σ H
theorem pss_len {X : Cx} {ss : List Stmt} {t : TS} {n : Nat}
    (hn : X.N.length = n) (h : PSs X ss t) : PSs X ss (tLen n t) :=
  ⟨fun pins s σ H D I w => h.run pins s σ H D I (w (I.len.trans hn))⟩
theorem pss_ex {X : Cx} {ss : List Stmt} {α : Type} {c : α → Prop}
    {t : α → TS} (h : ∀ a, c a → PSs X ss (t a)) :
    PSs X ss (fun D σ H => ∃ a, c a ∧ t a D σ H) :=
  ⟨fun pins s σ H D I ⟨a, ca, w⟩ => (h a ca).run pins s σ H D I w⟩
/-- a new pair (x, v) -/
def NewT (H : Hp) (Q : V → Hp → Prop) (x : Str) (v : V) : Prop :=
  ∀ t H', H t = none → H' t = some (.tup [.str x, v]) → Same H H' →
    Q (.ref t) H'
theorem NewT.back {H H1 : Hp} {Q : V → Hp → Prop} {x : Str} {v : V}
    (h : NewT H Q x v) (s : Same H H1) : NewT H1 Q x v :=
  fun t H' n e s' => h t H' (s.free n) e (s.trans s')
/-- the errors that told tells -/
def ToldE (CV CU : Addr) (Q : V → Hp → Prop) : XK := fun cls d H' =>
  (∃ (dd : Addr) (n : Nat), cls = .ref CV ∧ d = some dd ∧
    H' dd = some (.xd [("position", .int n)]) ∧
    NewT H' Q "order" (.int n)) ∨
  (∃ (dd : Addr) (v : V) (e : PyData), cls = .ref CU ∧ d = some dd ∧
    H' dd = some (.xd [("value", v)]) ∧ Odd H' v e ∧
    NewT H' Q "item" (.str e.shown))
/-- what told makes of the call that it is handed -/
def TTo (CV CU : Addr) : (XK → Hp → VK → Prop) → Hp → VK → Prop :=
  fun tl H Q => ∀ H0, Same H H0 → tl (ToldE CV CU Q) H0
    (fun v H1 => [V.str "returned", v].length ≤ sizeLine ∧ ∀ t, H1 t = none →
      ∃ u, some (some (V.ref t)) = some (some u) ∧
        Q u (upd H1 t (.tup [.str "returned", v])))
section
variable {X : Cx} {CI CX CP CT CO CV CU : Addr}
theorem told_to (B : Bl X.mg) (T : XO X.K X.mg CI CX CP CT CO CV CU) {q : Str}
    {g : Addr} {cdg : Value} {k : Nat} (hr : Room (k + 1) X.A)
    (gd : X.A.guards = some [])
    (sm : ∃ o, X.base.get? sysModules = some o) :
    LamX.GivesTo X N_Ltold "_law_told" (defScope s_Ltold) g cdg
      (defBody s_Ltold) "_law_call" q (TTo CV CU) := by
  intro f c' s H Q tl act hc h
  have nd := sc_Ltold.nd
  rcases X with ⟨P, w, K, mg, base, A, N, s0, H0, env, outer, stack, ex, fn,
    calm, pn0, xe0⟩
  have T : XO K mg CI CX CP CT CO CV CU := T
  have B : Bl mg := B
  have hr : Room (k + 1) A := hr
  have un := (hr.deeper (envOfC "_law_told" (defScope s_Ltold)
      s.heap.objs.size g cdg)).units
  refine ⟨_, pss_cons (ps_set (i := 1) nd rfl (.inl rfl)
      (pe_tup (pa_cons pe_str (pa_cons pe_non pa_nil))))
    (pss_cons (ps_tryEach (i := 2) (n := "e")
      (X := (cxOf C8.CX0 P w K mg base N_Ltold "_law_told"
        (defScope s_Ltold) g cdg A stack s H C8.E0).nox)
      rfl rfl nd rfl rfl
      (fun W pn xe tk _ => pss_ex (α := XK)
        (c := fun Ech => ∀ cls d σ' H', Ech cls d H' → W cls d σ' H')
        fun Ech hW => pss_one (ps_set (i := 1) nd rfl (.inl rfl) (pe_tup
          (pa_cons pe_str (pa_cons (act W pn xe Ech _ _ tk hW) pa_nil)))))
      (.cons ⟨rfl, by decide, .inl T.mV⟩
        (fun a oe cls d pn hz hf => pss_len
          (X := (cxOf C8.CX0 P w K mg base N_Ltold "_law_told"
            (defScope s_Ltold) g cdg A stack s H C8.E0).nox.suite a
            ((a, oe) :: pn)) (n := 4) rfl (pss_cons (ps_set (i := 3) nd rfl
            (.inl rfl) (pe_callB (call_isXT hz hf) (by rfl) B.isi bt_isi
            (pa_cons (pv 2) (pa_cons (pe_tup (pa_cons
              (pe_glob (v := .ref CI) (by rfl) T.mI rfl) (pa_cons
              (pe_glob (v := .ref CX) (by rfl) T.mX rfl) (pa_cons
              (pe_glob (v := .ref CP) (by rfl) T.mP rfl) (pa_cons
              (pe_glob (v := .ref CT) (by rfl) T.mT rfl) (pa_cons
              (pe_bltn (v := .ty "LookupError") (by rfl) T.mL bt_LE rfl)
              pa_nil)))))) pa_nil))))
          (pss_one (ps_if (PW.pt (pw_and (pt_val
              (pe_callB (call_isX hz hf) (by rfl) B.isi bt_isi
                (pa_cons (pv 2) (pa_cons (pe_glob (v := .ref CO) (by rfl) T.mO
                  rfl) pa_nil))))
              (pw_and (pt_val (pe_callB (call_isX hz hf) (by rfl) B.isi bt_isi
                (pa_cons (pv 2) (pa_cons (pe_bltn (v := .ty "ValueError")
                  (by rfl) T.mE bt_VE' rfl) pa_nil))))
              (pw_and1 (pt_not (pt_val (pv 3)))))))
            (pss_one (ps_set (i := 1) nd rfl (.inl rfl) (pe_tup (pa_cons pe_str
              (pa_cons (pe_xf T.cV.xf T.nV hz hf (pv 2)) pa_nil)))))
            pss_nil))))
      (.cons ⟨rfl, by decide, .inl T.mU⟩
        (fun a oe cls d pn hz hf => pss_len
          (X := (cxOf C8.CX0 P w K mg base N_Ltold "_law_told"
            (defScope s_Ltold) g cdg A stack s H C8.E0).nox.suite a
            ((a, oe) :: pn)) (n := 4) rfl
          (pss_one (ps_if (PW.pt (pw_and (pt_val
              (pe_callB (call_isF hz hf) (by rfl) B.isi bt_isi
                (pa_cons (pv 2) (pa_cons (pe_bltn (v := .ty "LookupError")
                  (by rfl) T.mL bt_LE rfl) pa_nil))))
              (pw_and1 (pt_not (pt_val
                (pe_callB (call_isFT hz hf) (by rfl) B.isi bt_isi
                  (pa_cons (pv 2) (pa_cons (pe_tup (pa_cons
                    (pe_bltn (v := .ty "KeyError") (by rfl) T.mK bt_KE rfl)
                    (pa_cons (pe_bltn (v := .ty "IndexError") (by rfl) T.mN
                      bt_IE rfl) (pa_cons (pe_bltn (v := .ty "ValueError")
                      (by rfl) T.mE bt_VE' rfl) pa_nil)))) pa_nil))))))))
            (pss_one (ps_set (i := 1) nd rfl (.inl rfl) (pe_tup (pa_cons pe_str
              (pa_cons (pe_callB (call_reprY un gd sm) (by rfl)
                B.repr bt_rp (pa_cons (pe_xf T.cU.xf T.nU hz hf (pv 2))
                pa_nil)) pa_nil)))))
            pss_nil))) .nil)))
    (pss_one (ps_ret (pv 1)))), ?_⟩
  refine ⟨two_l, fun p0 n0 => ?_⟩
  refine ⟨ToldE CV CU Q, ?_, ?_⟩
  · rintro cls d σ' H' he
    rcases he with ⟨dd, n, rfl, rfl, hd, np⟩ | ⟨dd, v, e, rfl, rfl, hd, od, np⟩
    · refine ⟨true, T.exV, fun _ a na => ?_, fun z => nomatch z⟩
      intro hl
      rw [List.length_set] at hl
      obtain ⟨x0, x1, x2, x3, rfl⟩ : ∃ x0 x1 x2 x3, σ' = [x0, x1, x2, x3] := by
        match σ', hl with
        | [x0, x1, x2, x3], _ => exact ⟨_, _, _, _, rfl⟩
      refine ⟨_, rfl, by show 5 ≤ sizeLine; decide, fun tp ntp => ?_⟩
      have hd4 : ∀ o, (upd H' tp o) dd =
          some (.xd [("position", .int n)]) := fun o => by
        rw [upd_ne (ne_of_none hd ntp)]; exact hd
      refine ⟨CV, dd, tp, _, _, _, false, T.cV, rfl, rfl, hd4 _, rfl, upd_same,
        .cons (.own _) (.cons (.own _) (.cons (.own _) (.cons (.own _)
          (.cons (.ty _) .nil)))), T.kA, ?_⟩
      refine ⟨_, rfl, CV, dd, _, _, _, true, T.cV, rfl, rfl, hd4 _, rfl, .own _,
        T.kO, _, rfl, iteT ?_⟩
      refine ⟨_, rfl, CV, dd, _, _, _, true, T.cV, rfl, rfl, hd4 _, rfl, .ty _,
        T.kE, _, rfl, iteT ?_⟩
      refine ⟨_, rfl, _, rfl, iteT ?_⟩
      refine ⟨_, rfl, rfl, rfl, dd, _, _, rfl, hd4 _, rfl, two_l,
        fun t nt => ?_⟩
      refine ⟨_, rfl, ?_⟩
      exact (np.back (sameNew ntp)) t _ nt upd_same (sameNew nt)
    · refine ⟨false, T.exN, (fun z => nomatch z), fun _ => ⟨true, T.exU,
        fun _ a na => ?_, fun z => nomatch z⟩⟩
      intro hl
      rw [List.length_set] at hl
      obtain ⟨x0, x1, x2, x3, rfl⟩ : ∃ x0 x1 x2 x3, σ' = [x0, x1, x2, x3] := by
        match σ', hl with
        | [x0, x1, x2, x3], _ => exact ⟨_, _, _, _, rfl⟩
      refine ⟨_, rfl, CU, dd, _, _, _, true, T.cU, rfl, rfl, hd, rfl, .ty _,
        T.kL, _, rfl, iteT ?_⟩
      refine ⟨_, rfl, by show 3 ≤ sizeLine; decide, fun tp ntp => ?_⟩
      have hd4 : ∀ o, (upd H' tp o) dd = some (.xd [("value", v)]) := fun o => by
        rw [upd_ne (ne_of_none hd ntp)]; exact hd
      refine ⟨CU, dd, tp, _, _, _, false, T.cU, rfl, rfl, hd4 _, rfl, upd_same,
        .cons (.ty _) (.cons (.ty _) (.cons (.ty _) .nil)), T.kN, _, rfl,
        iteT ?_⟩
      have sd := od.sm
      refine ⟨_, rfl, rfl, rfl, dd, _, _, rfl, hd4 _, rfl, v, e, rfl,
        .inl (od.same (sameNew ntp)).dx, sd.sh, by have := sd.dp; omega,
        by have := sd.sz; exact sz (by omega), two_l, fun t nt => ?_⟩
      refine ⟨_, rfl, ?_⟩
      exact (np.back (sameNew ntp)) t _ nt upd_same (sameNew nt)
  · refine ⟨rfl, sameNew n0 _ _ hc, ?_⟩
    exact h _ (sameNew (o := .tup [.str "other", .non]) n0)
end
end OM
namespace OM
open PySem PySem.Spec PyProof.Rows L2
section
variable {P : Program} {w : World} {K : PySem.W.Frag}
  {mg : Str → Option Value} {base : Heap}
/-- a def whose code object is known -/
theorem okGc {x qual : Str} {st : Stmt} {f : Addr} {fd : FuncData}
    {N ps : List Str} {k : Nat} {sp : Sp} {c : Addr}
    (F : Fun K x qual st f fd) (S : FnScope N ps (defScope st))
    (hcode : fd.code = .ref c)
    (len : ∀ vs H Q E, sp vs H Q E → vs.length = ps.length)
    (body : ∀ (A : Around) (outer : List Env) (s : Shared)
        (H : Hp) (vs : List V) (Q : VK) (E : XK),
      Room k (A.deeper (envOfC qual (defScope st) s.heap.objs.size f (.ref c))) →
      A.guards = some [] → sp vs H Q E →
      ∃ t, PSs (cxOf CX0 P w K mg base N qual (defScope st) f (.ref c) A
          outer s H E).nox (defBody st) t ∧
        t { nx := fun _ H' => Q .non H', rt := Q } (start N vs) H) :
    FnG P w K mg base CX0 (k + 1) f fd ps sp := by
  obtain ⟨oc, od, kV, dc, pm, an, cv, ct, sl, rfl, lk, hc⟩ := F.ex
  have e : cv = .ref c := hcode
  subst e
  refine FnG.mk' lk hc S len ?_
  intro A outer s H vs Q E room gd hsp
  obtain ⟨t, h, q⟩ := body A outer s H vs Q E room gd hsp
  exact ⟨t, h.nox, q⟩
end
theorem BaseAt.ext {C b : Addr} {H H' : Hp} {ls : List (List Nat)}
    (x : BaseAt C H b ls) (s : LamX.ExtN H H') : BaseAt C H' b ls := by
  obtain ⟨dx, lo, d, h1, h2, h3⟩ := x.ob
  exact ⟨dx, lo, d, s _ _ h1 nofun, s _ _ h2 nofun, s _ _ h3 nofun⟩
theorem ext_same {H H' : Hp} (s : Same H H') : LamX.ExtN H H' :=
  LamX.ExtN.of s
def unS : V → List Nat
  | .str x => x.cps.toList
  | _ => []
theorem perm_vS' {ys : List V} {ls : List (List Nat)}
    (h : ys.Perm (ls.map vS)) : ∃ os : List (List Nat), ys = os.map vS ∧ os.Perm ls := by
  refine ⟨ys.map unS, ?_, ?_⟩
  · rw [List.map_map]
    refine (List.map_id ys).symm.trans (List.map_congr_left fun y hy => ?_)
    obtain ⟨l, _, rfl⟩ := List.mem_map.mp (h.mem_iff.mp hy)
    rfl
  · have := h.map unS
    rw [List.map_map] at this
    have e : ls.map (unS ∘ vS) = ls := by
      refine (List.map_congr_left fun l _ => ?_).trans (List.map_id ls)
      rfl
    rw [e] at this
    exact this
/-! ### tables, and all that the drawing leaves as it is -/
theorem Tabs.but {T : List (Addr × Str)} {H H' : Hp} {p : Addr}
    (t : LamX.Tabs T H) (r : Rng H p) (b : But p H H') : LamX.Tabs T H' := by
  obtain ⟨u, v, e, _⟩ := r
  intro x hx
  obtain ⟨ps, h1, h2, h3⟩ := t x hx
  refine ⟨ps, b _ _ h1 (fun z => ?_), h2, fun pos cv hc => ?_⟩
  · rw [z, e] at h1
    cases h1
  · obtain ⟨c, rfl, h4⟩ := h3 pos cv hc
    refine ⟨c, rfl, b _ _ h4 (fun z => ?_)⟩
    rw [z, e] at h4
    exact absurd (Option.some.inj h4) nofun
/-- all stays but p and the tables -/
def Kp (p : Addr) (H H' : Hp) : Prop := ∀ b o, H b = some o → b ≠ p →
  (∀ ps, o ≠ .tbl ps) → H' b = some o
theorem Kp.of {p : Addr} {H H' : Hp} (b : But p H H') : Kp p H H' :=
  fun c o e n _ => b c o e n
theorem Kp.ext {p : Addr} {H H' : Hp} (x : LamX.ExtN H H') : Kp p H H' :=
  fun c o e _ n => x c o e n
theorem Kp.trans {p : Addr} {H H1 H2 : Hp} (a : Kp p H H1) (b : Kp p H1 H2) :
    Kp p H H2 := fun c o e n t => b c o (a c o e n t) n t
theorem Rng.ext {p : Addr} {H H' : Hp} (r : Rng H p) (x : LamX.ExtN H H') :
    Rng H' p := by
  obtain ⟨u, v, e, z⟩ := r
  exact ⟨u, v, x _ _ e nofun, z⟩
theorem SqL.extN {K : PySem.W.Frag} {H H' : Hp} {a : Addr} {xs : List V}
    (h : SqL K H a xs) (x : LamX.ExtN H H') : SqL K H' a xs := by
  rcases h with (h | ⟨o, h⟩) | h
  · exact .inl (.inl (x _ _ h nofun))
  · exact .inl (.inr ⟨o, x _ _ h nofun⟩)
  · exact .inr h
theorem rng_ne {H : Hp} {p q : Addr} {ls : List (List Nat)} (r : Rng H p)
    (h : H q = some (.lst (ls.map vS))) : q ≠ p := fun z => by
  obtain ⟨u, v, e, _⟩ := r
  rw [z, e] at h
  have h' := HO.lst.inj (Option.some.inj h)
  cases ls with
  | nil => cases h'
  | cons l r => cases h'
/-- one cell of the script: the drawing state, the items, the base -/
structure Cl (C : Addr) (T : List (Addr × Str)) (H0 H : Hp) (p it b : Addr)
    (ls : List (List Nat)) : Prop where
  rg : Rng H p
  it : H it = some (.lst (ls.map vS))
  ba : BaseAt C H b ls
  tb : LamX.Tabs T H
  kp : Kp p H0 H
theorem Cl.but {C : Addr} {T : List (Addr × Str)} {H0 H H' : Hp}
    {p it b : Addr} {ls : List (List Nat)} (x : Cl C T H0 H p it b ls)
    (s : But p H H') (r : Rng H' p) : Cl C T H0 H' p it b ls := by
  refine ⟨r, s _ _ x.it (rng_ne x.rg x.it), ?_, Tabs.but x.tb x.rg s,
    x.kp.trans (Kp.of s)⟩
  obtain ⟨dx, lo, d, h1, h2, h3⟩ := x.ba.ob
  obtain ⟨u, v, e, _⟩ := x.rg
  refine ⟨dx, lo, d, s _ _ h1 (fun z => ?_), s _ _ h2 (rng_ne x.rg h2),
    s _ _ h3 (fun z => ?_)⟩
  · rw [z, e] at h1
    cases h1
  · rw [z, e] at h3
    cases h3
theorem Cl.same {C : Addr} {T : List (Addr × Str)} {H0 H H' : Hp}
    {p it b : Addr} {ls : List (List Nat)} (x : Cl C T H0 H p it b ls)
    (s : Same H H') : Cl C T H0 H' p it b ls :=
  x.but (But.of s) (x.rg.same s)
theorem Cl.ext {C : Addr} {T : List (Addr × Str)} {H0 H H' : Hp}
    {p it b : Addr} {ls : List (List Nat)} (x : Cl C T H0 H p it b ls)
    (s : LamX.ExtN H H') (t : LamX.Tabs T H') : Cl C T H0 H' p it b ls :=
  ⟨x.rg.ext s, s _ _ x.it nofun, x.ba.ext s, t, x.kp.trans (Kp.ext s)⟩
theorem at3' {a b c : V} {d : Int} (h0 : 0 ≤ d) (h1 : d < 3) :
    ∃ v, atI [a, b, c] d = some v ∧ (v = a ∨ v = b ∨ v = c) := by
  obtain ⟨j, rfl⟩ : ∃ j : Nat, d = j := ⟨d.toNat, by omega⟩
  match j, h1 with
  | 0, _ => exact ⟨a, atI_nat rfl, .inl rfl⟩
  | 1, _ => exact ⟨b, atI_nat rfl, .inr (.inl rfl)⟩
  | 2, _ => exact ⟨c, atI_nat rfl, .inr (.inr rfl)⟩
  | n + 3, h => exact absurd h (by omega)
theorem Tabs.put {T : List (Addr × Str)} {H : Hp} {D : Addr} {ys zs : List V}
    (t : LamX.Tabs T H) (h : H D = some (.lst ys)) :
    LamX.Tabs T (upd H D (.lst zs)) := by
  intro x hx
  obtain ⟨ps, h1, h2, h3⟩ := t x hx
  have n1 : x.1 ≠ D := fun z => by
    rw [z, h] at h1
    cases h1
  refine ⟨ps, by rw [upd_ne n1]; exact h1, h2, fun pos cv hc => ?_⟩
  obtain ⟨c, rfl, h4⟩ := h3 pos cv hc
  have n2 : c ≠ D := fun z => by
    rw [z, h] at h4
    exact absurd (Option.some.inj h4) nofun
  exact ⟨c, rfl, by rw [upd_ne n2]; exact h4⟩
theorem Odd.kp {H H' : Hp} {v : V} {d : PyData} {p : Addr} (h : Odd H v d)
    (r : Rng H p) (s : Kp p H H') : Odd H' v d :=
  h.keep fun a o e n m => s a o e (fun z => by
    subst z
    obtain ⟨i, j, e', _⟩ := r
    rw [e'] at e
    cases e
    exact m _ _ rfl) n
/-- a value that is judged, and its data -/
inductive Vl (p : Addr) (H : Hp) : V → PyData → Prop
  | odd {v : V} {d : PyData} : Odd H v d → Vl p H v d
  | lst {a : Addr} {xs : List V} {ds : List PyData} :
      H a = some (.lst xs) → a ≠ p → OddS H xs ds → xs.length ≤ 200 →
      Vl p H (.ref a) (.list ds)
  | tup {a : Addr} {xs : List V} {ds : List PyData} :
      H a = some (.tup xs) → OddS H xs ds → xs.length ≤ 200 →
      Vl p H (.ref a) (.tuple ds)
  | dct {a : Addr} {ls : List (List Nat)} : H a = some (.dK (ones ls)) →
      Good ls → Vl p H (.ref a) (.dict (onesD ls))
theorem Vl.kp {p : Addr} {H H' : Hp} {v : V} {d : PyData} (h : Vl p H v d)
    (r : Rng H p) (s : Kp p H H') : Vl p H' v d := by
  have ne : ∀ {a : Addr} {o : HO}, H a = some o → (∀ xs, o ≠ .lst xs) →
      a ≠ p := fun {a o} e n z => by
    subst z
    obtain ⟨i, j, e', _⟩ := r
    rw [e'] at e
    exact n _ (Option.some.inj e).symm
  cases h with
  | odd h => exact .odd (h.kp r s)
  | lst e n h l =>
    exact .lst (s _ _ e n nofun) n (h.keep fun v d z => z.kp r s) l
  | tup e h l =>
    exact .tup (s _ _ e (ne e nofun) nofun) (h.keep fun v d z => z.kp r s) l
  | dct e g => exact .dct (s _ _ e (ne e nofun) nofun) g
theorem Vl.dy {p : Addr} {H : Hp} {v : V} {d : PyData} (h : Vl p H v d) :
    DY H v d := by
  cases h with
  | odd h => exact .inl h.dx
  | lst e n h l => exact .inl (.lst e h.dxs)
  | tup e h l => exact .inl (.tup e h.dxs)
  | dct e g => exact .inr ⟨_, _, rfl, e, rfl⟩
/-- it can be shown -/
structure Shw (d : PyData) : Prop where
  sh : d.showable = true
  dp : d.depth ≤ 60
  sz : d.shown.length ≤ sizeLine
theorem big_line : 10005000 ≤ sizeLine := by decide
theorem sum2_piled (ts : List Str) :
    (ts.map (·.length)).sum + 2 * ts.length = piled ts := by
  induction ts with
  | nil => rfl
  | cons t ts ih =>
    rw [piled_cons, List.map_cons, List.sum_cons, List.length_cons]
    omega
theorem Odd.shw {H : Hp} {v : V} {d : PyData} (h : Odd H v d) : Shw d := by
  have s := h.sm
  exact ⟨s.sh, by have := s.dp; omega, Nat.le_trans s.sz (by decide)⟩
theorem OddS.len {H : Hp} : ∀ {vs : List V} {ds : List PyData},
    OddS H vs ds → vs.length = ds.length
  | _, _, .nil => rfl
  | _, _, .cons _ b => congrArg (· + 1) b.len
theorem onesD_shown : ∀ {ls : List (List Nat)}, (∀ l ∈ ls, Nm l) →
    PyData.showableKv (onesD ls) = true ∧
    PyData.depthKv (onesD ls) ≤ 1 ∧
    piled (PyData.shownKv (onesD ls)) ≤ ls.length * 202
  | [], _ => ⟨by simp only [onesD, List.map_nil, PyData.showableKv],
      by simp only [onesD, List.map_nil, PyData.depthKv]; omega,
      by simp only [onesD, List.map_nil, PyData.shownKv]; exact Nat.zero_le _⟩
  | l :: ls, h => by
    obtain ⟨b1, b2, b3⟩ := onesD_shown fun x hx =>
      h x (List.mem_cons_of_mem l hx)
    have sm := (Odd.nm (H := fun _ => none) l (h l List.mem_cons_self)).sm
    have e : onesD (l :: ls) = (.str (SX.S l), .int 1) :: onesD ls := rfl
    have one : (PyData.int 1).shown.length = 1 := by decide +kernel
    have si : (PyData.int 1).showable = true := by decide +kernel
    rw [e]
    refine ⟨?_, ?_, ?_⟩
    · simp only [PyData.showableKv, sm.sh, si, b1, Bool.and_self]
    · simp only [PyData.depthKv, PyData.depth]
      omega
    · simp only [PyData.shownKv]
      rw [piled_cons, strLen_append, strLen_append, List.length_cons,
        Nat.add_mul, one]
      have := sm.sz
      have c : (Str.ofString ": ").length = 2 := by decide +kernel
      have hl : 202 = 202 := rfl
      rw [c]
      have small : (PyData.str (SX.S l)).shown.length ≤ 10 * l.length + 2 := by
        simp only [PyData.shown]
        have := StrLaws.reprText_len (SX.S l) (fun c hc => Nat.lt_of_lt_of_le
          ((h l List.mem_cons_self).uni c hc) (by decide))
        rw [SX.S_len] at this
        exact this
      have := (h l List.mem_cons_self).hi
      omega
theorem Vl.shw {p : Addr} {H : Hp} {v : V} {d : PyData} (h : Vl p H v d) :
    Shw d := by
  cases h with
  | odd h => exact h.shw
  | lst e n h l =>
    obtain ⟨b1, b2, b3⟩ := h.shown
    refine ⟨by simp only [PyData.showable]; exact b1,
      by simp only [PyData.depth]; omega, ?_⟩
    simp only [PyData.shown]
    refine Nat.le_trans (listText_len_le _) (Nat.le_trans ?_ big_line)
    rw [sum2_piled]
    omega
  | tup e h l =>
    obtain ⟨b1, b2, b3⟩ := h.shown
    refine ⟨by simp only [PyData.showable]; exact b1,
      by simp only [PyData.depth]; omega, ?_⟩
    simp only [PyData.shown]
    refine Nat.le_trans (tupleText_len_le _) (Nat.le_trans ?_ big_line)
    rw [sum2_piled]
    omega
  | dct e g =>
    obtain ⟨b1, b2, b3⟩ := onesD_shown g.nm
    refine ⟨by simp only [PyData.showable]; exact b1,
      by simp only [PyData.depth]; omega, ?_⟩
    simp only [PyData.shown]
    refine Nat.le_trans (dictText_len_le _) (Nat.le_trans ?_ big_line)
    rw [sum2_piled]
    have := g.hi
    omega
/-- what is told of it -/
theorem Odd.jv {K : PySem.W.Frag} {H : Hp} {v : V} {d : PyData}
    (h : Odd H v d) (ls : List (List Nat)) :
    ∃ r, ∀ H', Odd H' v d → Jv K H' ls v r := by
  have txt : ∀ x : Str, ∃ r, ∀ H' : Hp, Jv K H' ls (.str x) r := fun x =>
    ⟨_, fun H' => .inl ⟨_, .str _, kit_ty (by decide +kernel), rfl⟩⟩
  cases h with
  | non =>
    exact ⟨_, fun H' _ => .inl ⟨_, .non, kit_ty (by decide +kernel), rfl⟩⟩
  | bl b =>
    exact ⟨_, fun H' _ => .inl ⟨_, .bl _, kit_ty (by decide +kernel), rfl⟩⟩
  | i0 =>
    exact ⟨_, fun H' _ => .inl ⟨_, .int _, kit_ty (by decide +kernel), rfl⟩⟩
  | i1 =>
    exact ⟨_, fun H' _ => .inl ⟨_, .int _, kit_ty (by decide +kernel), rfl⟩⟩
  | con x h =>
    obtain ⟨r, hr⟩ := txt x
    exact ⟨r, fun H' _ => hr H'⟩
  | nm l h =>
    obtain ⟨r, hr⟩ := txt (SX.S l)
    exact ⟨r, fun H' _ => hr H'⟩
  | t0 e =>
    refine ⟨some 0, fun H' h' => ?_⟩
    cases h' with
    | t0 e' => exact .inl ⟨_, .tup e', kit_ty (by decide +kernel), rfl⟩
  | t1 e =>
    refine ⟨some 0, fun H' h' => ?_⟩
    cases h' with
    | t1 e' => exact .inl ⟨_, .tup e', kit_ty (by decide +kernel), rfl⟩
  | l0 e =>
    refine ⟨pf ls [], fun H' h' => ?_⟩
    cases h' with
    | l0 e' => exact .inr ⟨_, _, rfl, e', nofun, by show 0 ≤ 1000; omega, rfl⟩
  | l1 e =>
    refine ⟨pf ls [.str "a"], fun H' h' => ?_⟩
    cases h' with
    | l1 e' =>
      refine .inr ⟨_, _, rfl, e', fun x hx => ?_, by show 1 ≤ 1000; omega, rfl⟩
      rw [List.mem_singleton.mp hx]
      exact .inl ⟨(Str.ofString "a").cps.toList, by rw [vS, SX.S_tl],
        by decide +kernel⟩
  | d0 e =>
    refine ⟨some 0, fun H' h' => ?_⟩
    cases h' with
    | d0 e' => exact .inl ⟨_, .dK e', kit_ty (by decide +kernel), rfl⟩
theorem Vl.jv {K : PySem.W.Frag} {p : Addr} {H : Hp} {v : V} {d : PyData}
    (h : Vl p H v d) (rg : Rng H p) (ls : List (List Nat)) :
    ∃ r, ∀ H', Kp p H H' → Jv K H' ls v r := by
  have ne : ∀ {a : Addr} {o : HO}, H a = some o → (∀ xs, o ≠ .lst xs) →
      a ≠ p := fun {a o} e n z => by
    subst z
    obtain ⟨i, j, e', _⟩ := rg
    rw [e'] at e
    exact n _ (Option.some.inj e).symm
  cases h with
  | odd h =>
    obtain ⟨r, hr⟩ := h.jv (K := K) ls
    exact ⟨r, fun H' s => hr H' (h.kp rg s)⟩
  | lst e n h l =>
    refine ⟨_, fun H' s => .inr ⟨_, _, rfl, s _ _ e n nofun, fun x hx => ?_,
      by omega, rfl⟩⟩
    obtain ⟨d, hd⟩ := h.all x hx
    exact (hd.kp rg s).elt
  | tup e h l =>
    exact ⟨_, fun H' s => .inl ⟨_, .tup (s _ _ e (ne e nofun) nofun),
      kit_ty (by decide +kernel), rfl⟩⟩
  | dct e g =>
    exact ⟨_, fun H' s => .inl ⟨_, .dK (s _ _ e (ne e nofun) nofun),
      kit_ty (by decide +kernel), rfl⟩⟩
end OM
namespace OM
open PySem PySem.Spec PyProof.Rows L2
/-- the lambdas' name -/
abbrev lamQ : Str :=
  (envOfC "_law_value_right" (defScope s_Lvalue_right) 0 0 .none).qual ++
    "<lambda>"
def spVR (C : Addr) (T : List (Addr × Str)) : Sp :=
  fun vs H Q _ => ∃ (p b it : Addr) (ls : List (List Nat)) (v : V)
    (dv : PyData), vs = [.ref p, .ref b, .ref it, v] ∧
  Cl C T H H p it b ls ∧ Good ls ∧ Vl p H v dv ∧
  ∀ H', Cl C T H H' p it b ls → Q (.bl true) H'
theorem ne_eq {x y : V} {A B : Prop} (e : x = y) (h : B) :
    if (!decide (x = y)) = true then A else B := by
  subst e
  rw [decide_eq_true rfl]
  exact h
theorem pfG_le {ls : List (List Nat)} : ∀ (r : List (Option (List Nat)))
    (i : Nat) (seen : List (List Nat)) (n : Nat),
    pfG ls i seen r = some n → n ≤ i + r.length
  | [], _, _, _, h => by cases h
  | none :: r, i, seen, n, h => by
    have h : some i = some n := h
    cases h
    omega
  | some l :: r, i, seen, n, h => by
    have h : (if l ∈ ls ∧ l ∉ seen then pfG ls (i + 1) (seen ++ [l]) r
      else some i) = some n := h
    by_cases c : l ∈ ls ∧ l ∉ seen
    · rw [if_pos c] at h
      have := pfG_le r _ _ _ h
      rw [List.length_cons]
      omega
    · rw [if_neg c] at h
      cases h
      omega
theorem pf_le {ls : List (List Nat)} {xs : List V} {n : Nat}
    (h : pf ls xs = some n) : n ≤ xs.length := by
  unfold pf at h
  cases e : pfG ls 0 [] (xs.map tx) with
  | some i =>
    rw [e] at h
    cases h
    have := pfG_le _ _ _ _ e
    rw [List.length_map] at this
    omega
  | none =>
    rw [e] at h
    have h : (if xs.length < ls.length then some xs.length else none) =
      some n := h
    by_cases c : xs.length < ls.length
    · rw [if_pos c] at h
      cases h
      omega
    · rw [if_neg c] at h
      cases h
theorem Jv.le {K : PySem.W.Frag} {H : Hp} {ls : List (List Nat)} {v : V}
    {n : Nat} (h : Jv K H ls v (some n)) : n ≤ 1000 := by
  rcases h with ⟨t, a, b, c⟩ | ⟨a, xs, rfl, h1, h2, h3, h4⟩
  · cases c
    omega
  · have := pf_le h4.symm
    omega
theorem tup_shw {x : Str} {d : PyData} (h1 : (reprText x).length ≤ 100)
    (sd : d.showable = true) (dp : d.depth ≤ 10)
    (sz : d.shown.length ≤ 5000) : Shw (.tuple [.str x, d]) := by
  refine ⟨?_, ?_, ?_⟩
  · simp only [PyData.showable, PyData.showableAll, sd, Bool.true_and,
      Bool.and_true]
  · simp only [PyData.depth, PyData.depthAll]
    omega
  · simp only [PyData.shown, PyData.shownAll]
    refine Nat.le_trans (tupleText_len_le _) (Nat.le_trans ?_ big_line)
    simp only [List.map_cons, List.map_nil, List.sum_cons, List.sum_nil,
      List.length_cons, List.length_nil]
    omega
theorem log_small {n : Nat} (h : n < 10 ^ 9) : n.log2 < 1920 := by
  by_cases e : n = 0
  · subst e
    decide
  · refine (Nat.log2_lt e).mpr (Nat.lt_trans h ?_)
    calc (10 : Nat) ^ 9 < 2 ^ 30 := by decide
      _ ≤ 2 ^ 1920 := Nat.pow_le_pow_right (by decide) (by decide)
theorem ord_shw {n : Nat} (h : n ≤ 1000) :
    Shw (.tuple [.str "order", .int (n : Nat)]) := by
  refine tup_shw (by decide +kernel) ?_ (by simp only [PyData.depth]; omega) ?_
  · simp only [PyData.showable]
    exact decide_eq_true (log_small (by simp; omega))
  · simp only [PyData.shown]
    have h3 : (Str.ofString (toString ((n : Nat) : Int))).length ≤ 10 :=
      PyProof.Rows.toString_length_le (by omega) (by decide) (by omega)
    omega
theorem item_shw {H : Hp} {v : V} {d : PyData} (h : Odd H v d) :
    Shw (.tuple [.str "item", .str d.shown]) := by
  refine tup_shw (by decide +kernel) (by simp only [PyData.showable])
    (by simp only [PyData.depth]; omega) ?_
  simp only [PyData.shown]
  have := h.sm.rp
  omega
theorem ret_shw (b : Bool) : Shw (.tuple [.str "returned", .bool b]) := by
  refine tup_shw (by decide +kernel) (by simp only [PyData.showable])
    (by simp only [PyData.depth]; omega) ?_
  cases b <;> decide +kernel
/-- what told tells of a def that checks the order first -/
def Tp (r : Option Nat) (o : HO) : Prop :=
  (r = none ∧ ∃ z, o = .tup [.str "returned", z]) ∨
  (∃ n, r = some n ∧ o = .tup [.str "order", .int (n : Nat)])
theorem Odd.clx {C : Addr} {T : List (Addr × Str)} {H0 H H' : Hp}
    {p it b : Addr} {ls : List (List Nat)} {v : V} {d : PyData}
    (h : Odd H v d) (c : Cl C T H0 H p it b ls) (s : LamX.ExtN H H') :
    Odd H' v d := h.ext s
/-- what told makes of an answer -/
def TolQ (Q : VK) : VK := fun v H1 =>
  [V.str "returned", v].length ≤ sizeLine ∧ ∀ t, H1 t = none →
    ∃ u, some (some (V.ref t)) = some (some u) ∧
      Q u (upd H1 t (.tup [.str "returned", v]))
theorem use_told {sp : Sp} {vs : List V} {H : Hp} {CV CU : Addr} {Q' Q : VK}
    {E : XK} (h : sp vs H (TolQ Q') (ToldE CV CU Q'))
    (eE : E = ToldE CV CU Q') (eQ : Q = TolQ Q') : sp vs H Q E := by
  subst eE eQ
  exact h
section
variable {P : Program} {w : World} {K : PySem.W.Frag}
  {mg : Str → Option Value} {base : Heap}
  {C CI CX CP CT CO CV CU : Addr}
theorem ok_vr {f g c PT : Addr} {fd fg : FuncData} {k : Nat}
    {T : List (Addr × Str)}
    (F : Fun K "_law_value_right" "_law_value_right" s_Lvalue_right f fd)
    (hcode : fd.code = .ref c) (B : Bl mg) (XX : XO K mg CI CX CP CT CO CV CU)
    (Fg : Fun K "_law_told" "_law_told" s_Ltold g fg)
    (mg_ : mg "_law_told" = some (.ref g))
    (kg : PySem.W.keepIn K (.ref g) = true) (bg : Binds K fg ["_law_call"] [])
    (TB : LamX.TabB base mg c PT)
    (hmT : (PT, lamQ) ∈ T) (huT : ∀ p ∈ T, p.1 = PT → p.2 = lamQ)
    (sm : ∃ o, base.get? sysModules = some o)
    (Cp : Cal P w K mg base k "_law_problem" ["_law_items", "_law_value"]
      (spProb K))
    (Ci : Cal P w K mg base k "is_order" ["base", "value"] (spIsOrdX K C))
    (Cd : CalDraw P w K mg base k)
    (Co : Cal P w K mg base k "_law_odd" ["_law_rng_here", "_law_items"] spOdd)
    (Cc : Cal P w K mg base k "_law_choice" ["_law_rng_here", "_law_options"]
      (spChoice K))
    (Cu : CalG P w K mg base k "_law_inverted_due"
      ["_law_items", "_law_value", "_law_first", "_law_second"] (spDue K))
    (Cv : CalE (L2.CX P w) P w K mg base k "is_inverted"
      ["base", "order", "first", "second"]
      (orSp (spInv C) (spInvX K C CV CU)))
    (Cr : CalE (L2.CX P w) P w K mg base k "inverted_pairs"
      ["base", "order"] (orSp (spPairs C) (spChkX K C CV)))
    (Ct : CalE (L2.CX P w) P w K mg base k "dump_order"
      ["base", "order"] (orSp (spDumpO C) (spChkX K C CV))) :
    FnG P w K mg base CX0 (k + 3) f fd
      ["_law_rng_here", "_law_base", "_law_items", "_law_value"]
      (spVR C T) := by
  refine okGc F sc_Lvalue_right hcode (fun vs H Q E h => ?_)
    (fun A outer s H vs Q E hr gd h => ?_)
  · obtain ⟨p, b, it, ls, v, dv, rfl, _⟩ := h
    rfl
  obtain ⟨p, b, it, ls, v, dv, rfl, cl, go, vl, q⟩ := h
  obtain ⟨oc, od, kV, dc, pm, an, cv, ct, sl, rfl, lk, hcd⟩ := Fg.ex
  have nd := sc_Lvalue_right.nd
  have hrk := hr.mono (show k ≤ k + 2 by omega)
  refine ⟨_, C8.pss_cut (ps_par (i := 4) (j := 5) (by rfl) nd rfl rfl
      (by decide) rfl rfl
      (pa_cons (pe_cal Cp hrk (pa_cons (pv 2) (pa_cons (pv 3) pa_nil)))
        (pa_cons (pe_callB (call_reprY hr.units gd sm) (by rfl) B.repr bt_rp
          (pa_cons (pv 3) pa_nil)) pa_nil)) (by rfl))
    (C8.pss_cut (ps_if (pt_cmpR op_ne
        (pe_callB (call_reprY hr.units gd sm) (by rfl) B.repr bt_rp
          (pa_cons (pe_cal Ci hrk (pa_cons (pv 1) (pa_cons (pv 3) pa_nil)))
            pa_nil))
        (pe_callB (call_reprY hr.units gd sm) (by rfl) B.repr bt_rp
          (pa_cons (pe_cmpR op_isN (pv 4) pe_non (nomark _)) pa_nil))
        (nomark _)) (pss_one ps_never) pss_nil)
    (C8.pss_cut (ps_set (i := 6) nd rfl (.inr rfl) (pe_ifExp
        (pt_cmpR op_eq (pe_cal Cd hrk (pa_cons (pv 0) (pa_cons pe_int pa_nil)))
          pe_int (nomark _))
        (pe_cal Co hrk (pa_cons (pv 0) (pa_cons (pv 2) pa_nil)))
        (pe_cal Cc hrk (pa_cons (pv 0) (pa_cons (pv 2) pa_nil)))))
    (C8.pss_cut (ps_set (i := 7) nd rfl (.inr rfl) (pe_ifExp
        (pt_cmpR op_eq (pe_cal Cd hrk (pa_cons (pv 0) (pa_cons pe_int pa_nil)))
          pe_int (nomark _))
        (pe_cal Co hrk (pa_cons (pv 0) (pa_cons (pv 2) pa_nil)))
        (pe_cal Cc hrk (pa_cons (pv 0) (pa_cons (pv 2) pa_nil)))))
    (C8.pss_cut (ps_set (i := 8) nd rfl (.inl rfl)
      (LamX.pe_lamcall (T := T) (k := k) (by rfl) mg_ kg lk hcd bg sc_Ltold
          rfl (.inl rfl) (told_to B XX (k := k + 1) hr gd sm) TB rfl hmT huT hr
          (LamX.lamS_by (sc := defScope s_Lvalue_right)
            (by decide +kernel)) rfl (fun _ _ _ _ _ => rfl)
          (fun A outer s H E f c' hr2 =>
            (pe_calE Cv hr2 (passes_call (takes_of rfl rfl rfl rfl)
              (fun _ _ _ _ z => z)) (pa_cons (pv 1) (pa_cons (pv 3)
                (pa_cons (pv 6) (pa_cons (pv 7) pa_nil))))))))
    (C8.pss_cut (ps_set (i := 9) nd rfl (.inl rfl)
      (pe_tup (pa_cons pe_str (pa_cons (pv 4) pa_nil))))
    (C8.pss_cut (ps_if (pt_cmpR op_isN (pv 4) pe_non (nomark _))
      (pss_one (ps_set (i := 9) nd rfl (.inl rfl) (pe_calG Cu hrk gd
        (pa_cons (pv 2) (pa_cons (pv 3) (pa_cons (pv 6) (pa_cons (pv 7)
          pa_nil))))))) pss_nil)
    (C8.pss_cut (ps_if (PW.pt (pw_or (pt_cmpR op_ne
          (pe_callB (call_reprY hr.units gd sm) (by rfl) B.repr bt_rp
            (pa_cons (pv 8) pa_nil))
          (pe_callB (call_reprY hr.units gd sm) (by rfl) B.repr bt_rp
            (pa_cons (pv 9) pa_nil)) (nomark _))
        (pw_or1 (pt_cmpR op_ne
          (pe_callB (call_reprY hr.units gd sm) (by rfl) B.repr bt_rp
            (pa_cons (pv 3) pa_nil)) (pv 5) (nomark _)))))
      (pss_one ps_never) pss_nil)
    (C8.pss_cut (ps_set (i := 10) nd rfl (.inl rfl)
      (LamX.pe_lamcall (T := T) (k := k) (by rfl) mg_ kg lk hcd bg sc_Ltold
          rfl (.inl rfl) (told_to B XX (k := k + 1) hr gd sm) TB rfl hmT huT hr
          (LamX.lamS_by (sc := defScope s_Lvalue_right)
            (by decide +kernel)) rfl (fun _ _ _ _ _ => rfl)
          (fun A outer s H E f c' hr2 =>
            (pe_calE Cr hr2 (passes_call (takes_of rfl rfl rfl rfl)
              (fun _ _ _ _ z => z)) (pa_cons (pv 1) (pa_cons (pv 3)
                pa_nil))))))
    (C8.pss_cut (ps_set (i := 11) nd rfl (.inl rfl)
      (LamX.pe_lamcall (T := T) (k := k) (by rfl) mg_ kg lk hcd bg sc_Ltold
          rfl (.inl rfl) (told_to B XX (k := k + 1) hr gd sm) TB rfl hmT huT hr
          (LamX.lamS_by (sc := defScope s_Lvalue_right)
            (by decide +kernel)) rfl (fun _ _ _ _ _ => rfl)
          (fun A outer s H E f c' hr2 =>
            (pe_calE Ct hr2 (passes_call (takes_of rfl rfl rfl rfl)
              (fun _ _ _ _ z => z)) (pa_cons (pv 1) (pa_cons (pv 3)
                pa_nil))))))
    (pss_cons (ps_if (pt_cmpR op_isN (pv 4) pe_non (nomark _))
      (pss_one (ps_ret (pe_and (pe_cmpR (op_eqD hr.units)
          (pe_lst (pa_cons (pe_ix ix_tup (pv 10) pe_int (fun _ _ => rfl))
            (pa_cons (pe_ix ix_tup (pv 11) pe_int (fun _ _ => rfl)) pa_nil)))
          (pe_lst (pa_cons pe_str (pa_cons pe_str pa_nil))) (nomark _))
        (pe_one (pe_cmpR op_eq
          (pe_callB (call_reprY hr.units gd sm) (by rfl) B.repr bt_rp
            (pa_cons (pv 3) pa_nil)) (pv 5) (nomark _)))))) pss_nil)
    (pss_one (ps_ret (pe_and (pe_cmpR (op_eqD hr.units)
          (pe_lst (pa_cons (pv 10) (pa_cons (pv 11) pa_nil)))
          (pe_op op_rep (pe_lst (pa_cons (pe_tup (pa_cons pe_str (pa_cons
            (pv 4) pa_nil))) pa_nil)) pe_int) (nomark _))
        (pe_one (pe_cmpR op_eq
          (pe_callB (call_reprY hr.units gd sm) (by rfl) B.repr bt_rp
            (pa_cons (pv 3) pa_nil)) (pv 5) (nomark _)))))))))))))))), ?_⟩
  obtain ⟨r, jk⟩ := vl.jv (K := K) cl.rg ls
  have shv := vl.shw
  have hhi := go.hi
  have hlo := go.lo
  have ph : ∀ b0 : Bool, (PyData.bool b0).showable = true ∧
      (PyData.bool b0).depth ≤ 60 ∧ (PyData.bool b0).shown.length ≤ sizeLine :=
    fun b0 => by cases b0 <;> exact ⟨by decide +kernel, by decide +kernel,
      by decide +kernel⟩
  -- the problem, and how the value is shown
  refine ⟨fun σ' H' => σ' = [some (.ref p), some (.ref b), some (.ref it),
    some v, some (ansP r), some (.str dv.shown), none, none, none, none, none,
    none] ∧ Cl C T H H' p it b ls, ?_, ?_⟩
  · refine ⟨_, rfl, _, rfl, it, v, ls, r, rfl, cl.it, by omega,
      jk H (fun _ _ e _ _ => e), fun H1 s1 => ?_⟩
    have c1 := cl.same s1
    refine ⟨_, rfl, v, dv, rfl, (vl.kp cl.rg c1.kp).dy, shv.sh, shv.dp, shv.sz,
      _, _, rfl, rfl, c1⟩
  rintro _ H1 ⟨rfl, c1⟩
  -- is_order
  refine ⟨fun σ' H' => σ' = [some (.ref p), some (.ref b), some (.ref it),
    some v, some (ansP r), some (.str dv.shown), none, none, none, none, none,
    none] ∧ Cl C T H H' p it b ls, ?_, ?_⟩
  · refine ⟨_, rfl, _, rfl, b, v, ls, r, rfl, c1.ba, go, jk H1 c1.kp,
      fun H2 s2 => ?_⟩
    have c2 := c1.same s2
    obtain ⟨p1, p2, p3⟩ := ph (decide (r = none))
    refine ⟨_, _, rfl, .inl (.bl _), p1, p2, p3, _, rfl, rfl, ?_⟩
    refine ⟨_, _, rfl, .inl (.bl _), (ph _).1, (ph _).2.1, (ph _).2.2, ?_⟩
    refine ⟨rfl, _, rfl, ne_eq ?_ ⟨rfl, c2⟩⟩
    cases r <;> rfl
  rintro _ H2 ⟨rfl, c2⟩
  -- first
  refine ⟨fun σ' H' => ∃ x dx, σ' = [some (.ref p), some (.ref b),
    some (.ref it), some v, some (ansP r), some (.str dv.shown), some x, none,
    none, none, none, none] ∧ Odd H' x dx ∧ Cl C T H H' p it b ls, ?_, ?_⟩
  · refine ⟨_, rfl, p, 4, rfl, c2.rg, by decide, by decide,
      fun d H3 d0 d1 rg3 b3 => ?_⟩
    have c3 := c2.but b3 rg3
    refine ⟨rfl, _, rfl, ite2 (fun z => ?_) (fun z => ?_)⟩
    · refine ⟨_, rfl, _, rfl, p, it, ls, rfl, rg3, c3.it, rng_ne rg3 c3.it,
        by omega, fun x H4 ox rg4 b4 => ?_⟩
      obtain ⟨dx, ox⟩ := ox
      exact ⟨x, dx, rfl, ox, c3.but b4 rg4⟩
    · refine ⟨_, rfl, _, rfl, p, it, _, rfl, rg3, SqL.of c3.it,
        rng_ne rg3 c3.it, by rw [List.length_map]; omega,
        by rw [List.length_map]; omega, fun x H4 mx rg4 b4 => ?_⟩
      obtain ⟨l, hl, rfl⟩ := List.mem_map.mp mx
      exact ⟨_, _, rfl, .nm l (go.nm l hl), c3.but b4 rg4⟩
  rintro _ H3 ⟨x, dx, rfl, ox3, c3⟩
  -- second
  refine ⟨fun σ' H' => ∃ y dy, σ' = [some (.ref p), some (.ref b),
    some (.ref it), some v, some (ansP r), some (.str dv.shown), some x, some y,
    none, none, none, none] ∧ Odd H' x dx ∧ Odd H' y dy ∧
    Cl C T H H' p it b ls, ?_, ?_⟩
  · refine ⟨_, rfl, p, 4, rfl, c3.rg, by decide, by decide,
      fun d H4 d0 d1 rg4 b4 => ?_⟩
    have c4 := c3.but b4 rg4
    have ox4 := ox3.but c3.rg b4
    refine ⟨rfl, _, rfl, ite2 (fun z => ?_) (fun z => ?_)⟩
    · refine ⟨_, rfl, _, rfl, p, it, ls, rfl, rg4, c4.it, rng_ne rg4 c4.it,
        by omega, fun y H5 oy rg5 b5 => ?_⟩
      obtain ⟨dy, oy⟩ := oy
      exact ⟨y, dy, rfl, ox4.but rg4 b5, oy, c4.but b5 rg5⟩
    · refine ⟨_, rfl, _, rfl, p, it, _, rfl, rg4, SqL.of c4.it,
        rng_ne rg4 c4.it, by rw [List.length_map]; omega,
        by rw [List.length_map]; omega, fun y H5 my rg5 b5 => ?_⟩
      obtain ⟨l, hl, rfl⟩ := List.mem_map.mp my
      exact ⟨_, _, rfl, ox4.but rg4 b5, .nm l (go.nm l hl), c4.but b5 rg5⟩
  rintro _ H4 ⟨y, dy, rfl, ox, oy, c4⟩
  -- what is told of is_inverted, what is due
  obtain ⟨s1, w1, dw, hw, shw, toldI, dueN, dueI⟩ : ∃ (s1 : Str) (w1 : V)
      (dw : PyData), (∀ H' : Hp, DX H' w1 dw) ∧ Shw (.tuple [.str s1, dw]) ∧
      (∀ (H1 : Hp) (Q' : VK), Cl C T H H1 p it b ls → Odd H1 x dx →
        Odd H1 y dy → (∀ t H2, H1 t = none →
          H2 t = some (.tup [.str s1, w1]) → Same H1 H2 → Q' (.ref t) H2) →
        orSp (spInv C) (spInvX K C CV CU) [.ref b, v, x, y] H1
          (TolQ Q') (ToldE CV CU Q')) ∧
      (∀ n, r = some n → s1 = "order" ∧ w1 = .int (n : Nat)) ∧
      (r = none → ∀ (H1 : Hp) (Q' : VK), Cl C T H H1 p it b ls →
        Odd H1 x dx → Odd H1 y dy → (∀ t H2, H1 t = none →
          H2 t = some (.tup [.str s1, w1]) → Same H1 H2 → Q' (.ref t) H2) →
        spDue K [.ref it, v, x, y] H1 Q' E0) := by
    cases hr0 : r with
    | some n =>
      subst hr0
      refine ⟨"order", .int (n : Nat), .int (n : Nat), fun _ => .int _,
        ord_shw (jk H (fun _ _ e _ _ => e)).le, fun H1 Q' c1 o1 o2 hQ => ?_,
        fun m e => ?_, fun z => nomatch z⟩
      · refine .inr ⟨b, v, x, y, ls, some n, rfl, c1.ba, go, jk H1 c1.kp,
          o1.elt, o2.elt, .inl ⟨n, rfl, fun d H2 nd2 e2 s2 => ?_⟩⟩
        exact .inl ⟨d, n, rfl, rfl, e2, fun t H3 nt et s3 =>
          hQ t H3 (s2.free nt) et (s2.trans s3)⟩
      · cases e
        exact ⟨rfl, rfl⟩
    | none =>
      subst hr0
      obtain ⟨a, os, rfl, ha, pm⟩ := (jk H (fun _ _ e _ _ => e)).right
      have nap : a ≠ p := rng_ne cl.rg ha
      have at1 : ∀ H1, Cl C T H H1 p it b ls →
          H1 a = some (.lst (os.map vS)) := fun H1 c1 =>
        c1.kp _ _ ha nap nofun
      by_cases hx : ∃ l, x = vS l ∧ l ∈ ls
      · obtain ⟨l, rfl, hl⟩ := hx
        by_cases hy : ∃ m, y = vS m ∧ m ∈ ls
        · obtain ⟨m, rfl, hm⟩ := hy
          refine ⟨"returned", .bl (invB ls os l m), .bool (invB ls os l m),
            fun _ => .bl _, ret_shw _, fun H1 Q' c1 o1 o2 hQ => ?_,
            (fun m e => nomatch e), fun _ H1 Q' c1 o1 o2 hQ => ?_⟩
          · refine .inl ⟨b, a, ls, os, l, m, rfl, ⟨c1.ba, go, at1 H1 c1, pm⟩,
              hl, hm, fun H2 s2 => ⟨two_l, fun t nt => ⟨_, rfl, ?_⟩⟩⟩
            exact hQ t _ (s2.free nt) upd_same (s2.trans (sameNew nt))
          · refine ⟨it, a, _, _, ls, os, dx, dy, rfl, c1.it, at1 H1 c1, go, pm,
              o1, o2, fun no => absurd hl (no l rfl),
              fun _ no => absurd hm (no m rfl), fun l' m' el _ em _ => ?_⟩
            cases vS_inj el
            cases vS_inj em
            exact hQ
        · have no : NoI ls y := fun m e hm => hy ⟨m, e, hm⟩
          refine ⟨"item", .str dy.shown, .str dy.shown, fun _ => .str _,
            item_shw oy, fun H1 Q' c1 o1 o2 hQ => ?_,
            (fun m e => nomatch e), fun _ H1 Q' c1 o1 o2 hQ => ?_⟩
          · refine .inr ⟨b, _, _, y, ls, none, rfl, c1.ba, go, jk H1 c1.kp,
              o1.elt, o2.elt, .inr (.inr ⟨rfl, ⟨l, rfl, hl⟩, no,
              fun d H2 nd2 e2 s2 => ?_⟩)⟩
            exact .inr ⟨d, y, dy, rfl, rfl, e2, o2.same s2, fun t H3 nt et s3 =>
              hQ t H3 (s2.free nt) et (s2.trans s3)⟩
          · exact ⟨it, a, _, _, ls, os, dx, dy, rfl, c1.it, at1 H1 c1, go, pm,
              o1, o2, fun no => absurd hl (no l rfl), fun _ _ => hQ,
              fun l' m' _ _ em hm => absurd hm (no m' em)⟩
      · have no : NoI ls x := fun l e hl => hx ⟨l, e, hl⟩
        refine ⟨"item", .str dx.shown, .str dx.shown, fun _ => .str _,
          item_shw ox, fun H1 Q' c1 o1 o2 hQ => ?_,
          (fun m e => nomatch e), fun _ H1 Q' c1 o1 o2 hQ => ?_⟩
        · refine .inr ⟨b, _, x, y, ls, none, rfl, c1.ba, go, jk H1 c1.kp,
            o1.elt, o2.elt, .inr (.inl ⟨rfl, no,
            fun d H2 nd2 e2 s2 => ?_⟩)⟩
          exact .inr ⟨d, x, dx, rfl, rfl, e2, o1.same s2, fun t H3 nt et s3 =>
            hQ t H3 (s2.free nt) et (s2.trans s3)⟩
        · exact ⟨it, a, _, _, ls, os, dx, dy, rfl, c1.it, at1 H1 c1, go, pm,
            o1, o2, fun _ => hQ, fun ⟨l, e, hl⟩ => absurd hl (no l e),
            fun l' m' el hl _ _ => absurd hl (no l' el)⟩
  -- told
  refine ⟨fun σ' H' => ∃ t8, σ' = [some (.ref p), some (.ref b),
    some (.ref it), some v, some (ansP r), some (.str dv.shown), some x, some y,
    some (.ref t8), none, none, none] ∧ H' t8 = some (.tup [.str s1, w1]) ∧
    Odd H' x dx ∧ Odd H' y dy ∧ Cl C T H H' p it b ls, ?_, ?_⟩
  · refine ⟨c4.tb, fun H5 x5 t5 H6 s6 => ?_⟩
    have c6 := (c4.ext x5 t5).same s6
    have o1 := (ox.ext x5).same s6
    have o2 := (oy.ext x5).same s6
    refine ⟨_, rfl, _, rfl, _, rfl, _, rfl, ?_⟩
    show orSp (spInv C) (spInvX K C CV CU) _ H6 _ _
    refine use_told (CV := CV) (CU := CU) ?_ rfl rfl
    refine toldI H6 _ c6 o1 o2 fun t H7 nt et s7 => ?_
    exact ⟨t, rfl, et, o1.same s7, o2.same s7, c6.same s7⟩
  rintro _ H5 ⟨t8, rfl, h8, ox5, oy5, c5⟩
  -- due
  refine ⟨fun σ' H' => ∃ t9, σ' = [some (.ref p), some (.ref b),
    some (.ref it), some v, some (ansP r), some (.str dv.shown), some x, some y,
    some (.ref t8), some (.ref t9), none, none] ∧
    H' t8 = some (.tup [.str s1, w1]) ∧
    H' t9 = some (.tup [.str "order", ansP r]) ∧
    Odd H' x dx ∧ Odd H' y dy ∧ Cl C T H H' p it b ls, ?_, ?_⟩
  · refine ⟨_, rfl, two_l, fun t9 n9 => ?_⟩
    have s9 := sameNew (o := .tup [.str "order", ansP r]) n9
    exact ⟨t9, rfl, s9 _ _ h8, upd_same, ox5.same s9, oy5.same s9, c5.same s9⟩
  clear ox5 oy5 c5 h8
  rintro _ H6 ⟨t9, rfl, h8, h9, ox6, oy6, c6⟩
  refine ⟨fun σ' H' => ∃ t9, σ' = [some (.ref p), some (.ref b),
    some (.ref it), some v, some (ansP r), some (.str dv.shown), some x, some y,
    some (.ref t8), some (.ref t9), none, none] ∧
    H' t8 = some (.tup [.str s1, w1]) ∧
    H' t9 = some (.tup [.str s1, w1]) ∧ Cl C T H H' p it b ls, ?_, ?_⟩
  · refine ⟨_, rfl, rfl, _, rfl, ?_⟩
    cases hr0 : r with
    | some n =>
      obtain ⟨e1, e2⟩ := dueN n hr0
      refine iteF ⟨t9, ?_, h8, ?_, c6⟩
      · rfl
      · rw [h9, hr0, e1, e2]
        rfl
    | none =>
      refine iteT ⟨_, rfl, _, rfl, _, rfl, _, rfl, ?_⟩
      dsimp only [tNil, List.append_nil]
      refine dueI hr0 H6 _ c6 ox6 oy6 fun t H7 nt et s7 => ?_
      refine ⟨t, ?_, s7 _ _ h8, et, c6.same s7⟩
      rfl
  clear ox6 oy6 c6 h8 h9
  rintro _ H7 ⟨t9', rfl, h8, h9, c7⟩
  refine ⟨fun σ' H' => σ' = [some (.ref p), some (.ref b),
    some (.ref it), some v, some (ansP r), some (.str dv.shown), some x, some y,
    some (.ref t8), some (.ref t9'), none, none] ∧ Cl C T H H' p it b ls,
    ?_, ?_⟩
  · refine ⟨_, rfl, .ref t8, _, rfl, .inl (.tup h8 (.cons (.str _) (.cons (hw _)
      .nil))), shw.sh, shw.dp, shw.sz, _, rfl, .ref t9', _, rfl,
      .inl (.tup h9 (.cons (.str _) (.cons (hw _) .nil))), shw.sh, shw.dp,
      shw.sz, rfl, _, rfl, ne_eq rfl ?_⟩
    exact ⟨_, rfl, v, dv, rfl, (vl.kp cl.rg c7.kp).dy, shv.sh, shv.dp, shv.sz,
      _, rfl, rfl, _, rfl, ne_eq rfl ⟨rfl, c7⟩⟩
  clear h8 h9 c7
  rintro _ H8 ⟨rfl, c8⟩
  -- what is told of the pairs and of the text
  have ordN : r = none → ∃ (a : Addr) (os : List (List Nat)), v = .ref a ∧
      ∀ H1, Cl C T H H1 p it b ls → Ord C H1 b a ls os := by
    rintro rfl
    obtain ⟨a, os, e, ha, pm⟩ := (jk H (fun _ _ e _ _ => e)).right
    exact ⟨a, os, e, fun H1 c1 => ⟨c1.ba, go,
      c1.kp _ _ ha (rng_ne cl.rg ha) nofun, pm⟩⟩
  have errN : ∀ n, r = some n → ∀ (H1 : Hp) (Q' : VK),
      Cl C T H H1 p it b ls → (∀ t o H2, H1 t = none → H2 t = some o →
        Tp r o → Same H1 H2 → Q' (.ref t) H2) →
      spChkX K C CV [.ref b, v] H1 (TolQ Q') (ToldE CV CU Q') := by
    rintro n rfl H1 Q' c1 hQ
    refine ⟨b, v, ls, n, rfl, c1.ba, go, jk H1 c1.kp, fun d H2 nd2 e2 s2 => ?_⟩
    exact .inl ⟨d, n, rfl, rfl, e2, fun t H3 nt et s3 =>
      hQ t _ H3 (s2.free nt) et (.inr ⟨n, rfl, rfl⟩) (s2.trans s3)⟩
  have toldP : ∀ (H1 : Hp) (Q' : VK), Cl C T H H1 p it b ls →
      (∀ t o H2, H1 t = none → H2 t = some o → Tp r o → Same H1 H2 →
        Q' (.ref t) H2) →
      orSp (spPairs C) (spChkX K C CV) [.ref b, v] H1 (TolQ Q')
        (ToldE CV CU Q') := by
    intro H1 Q' c1 hQ
    cases hr0 : r with
    | some n => exact .inr (errN n hr0 H1 Q' c1 hQ)
    | none =>
      obtain ⟨a, os, rfl, od⟩ := ordN hr0
      refine .inl ⟨b, a, ls, os, rfl, od H1 c1, fun D rs H2 nD hD pr s2 =>
        ⟨two_l, fun t nt => ⟨_, rfl, ?_⟩⟩⟩
      exact hQ t _ _ (s2.free nt) upd_same (.inl ⟨hr0, _, rfl⟩)
        (s2.trans (sameNew nt))
  have toldD : ∀ (H1 : Hp) (Q' : VK), Cl C T H H1 p it b ls →
      (∀ t o H2, H1 t = none → H2 t = some o → Tp r o → Same H1 H2 →
        Q' (.ref t) H2) →
      orSp (spDumpO C) (spChkX K C CV) [.ref b, v] H1 (TolQ Q')
        (ToldE CV CU Q') := by
    intro H1 Q' c1 hQ
    cases hr0 : r with
    | some n => exact .inr (errN n hr0 H1 Q' c1 hQ)
    | none =>
      obtain ⟨a, os, rfl, od⟩ := ordN hr0
      refine .inl ⟨b, a, ls, os, rfl, od H1 c1, fun H2 s2 =>
        ⟨two_l, fun t nt => ⟨_, rfl, ?_⟩⟩⟩
      exact hQ t _ _ (s2.free nt) upd_same (.inl ⟨hr0, _, rfl⟩)
        (s2.trans (sameNew nt))
  refine ⟨fun σ' H' => ∃ ta oa, σ' = [some (.ref p), some (.ref b),
    some (.ref it), some v, some (ansP r), some (.str dv.shown), some x, some y,
    some (.ref t8), some (.ref t9'), some (.ref ta), none] ∧
    H' ta = some oa ∧ Tp r oa ∧ Cl C T H H' p it b ls, ?_, ?_⟩
  · refine ⟨c8.tb, fun H9 x9 t9 H6 s6 => ?_⟩
    have c6 := (c8.ext x9 t9).same s6
    refine ⟨_, rfl, _, rfl, ?_⟩
    show orSp (spPairs C) (spChkX K C CV) _ H6 _ _
    refine use_told (CV := CV) (CU := CU) ?_ rfl rfl
    refine toldP H6 _ c6 fun t o H7 nt et tp s7 => ?_
    exact ⟨t, o, rfl, et, tp, c6.same s7⟩
  clear c8
  rintro _ H9 ⟨ta, oa, rfl, ha, tpa, c9⟩
  have noT : ∀ o, Tp r o → ∀ ps, o ≠ .tbl ps := by
    rintro o (⟨_, z, rfl⟩ | ⟨n, _, rfl⟩) ps e <;> cases e
  refine ⟨fun σ' H' => ∃ tb ob, σ' = [some (.ref p), some (.ref b),
    some (.ref it), some v, some (ansP r), some (.str dv.shown), some x, some y,
    some (.ref t8), some (.ref t9'), some (.ref ta), some (.ref tb)] ∧
    H' ta = some oa ∧ H' tb = some ob ∧ Tp r ob ∧ Cl C T H H' p it b ls,
    ?_, ?_⟩
  · refine ⟨c9.tb, fun H5 x5 t5 H6 s6 => ?_⟩
    have c6 := (c9.ext x5 t5).same s6
    have ha6 := s6 _ _ (x5 _ _ ha (noT oa tpa))
    refine ⟨_, rfl, _, rfl, ?_⟩
    show orSp (spDumpO C) (spChkX K C CV) _ H6 _ _
    refine use_told (CV := CV) (CU := CU) ?_ rfl rfl
    refine toldD H6 _ c6 fun t o H7 nt et tp s7 => ?_
    exact ⟨t, o, rfl, s7 _ _ ha6, et, tp, c6.same s7⟩
  clear c9 ha
  rintro _ H5 ⟨tb, ob, rfl, ha, hb, tpb, c5⟩
  refine ⟨_, rfl, rfl, _, rfl, ?_⟩
  cases hr0 : r with
  | none =>
    refine iteT ?_
    rcases tpa with ⟨_, za, rfl⟩ | ⟨n, e, _⟩
    · rcases tpb with ⟨_, zb, rfl⟩ | ⟨n, e, _⟩
      · refine ⟨_, rfl, ta, _, 0, _, rfl, rfl, SqT.of ha, rfl, _, rfl, tb, _, 0,
          _, rfl, rfl, SqT.of hb, rfl, ?_⟩
        refine ⟨two_l, fun q1 n1 => ⟨two_l, fun q2 n2 => ?_⟩⟩
        have z1 := sameNew (o := .lst [.str "returned", .str "returned"]) n1
        have z2 := z1.trans
          (sameNew (o := .lst [.str "returned", .str "returned"]) n2)
        have g1 : (upd (upd H5 q1 (.lst [.str "returned", .str "returned"])) q2
            (.lst [.str "returned", .str "returned"])) q1 =
            some (.lst [.str "returned", .str "returned"]) :=
          sameNew n2 _ _ upd_same
        have c6 := c5.same z2
        refine ⟨.list [.str "returned", .str "returned"],
          .list [.str "returned", .str "returned"],
          .lst (SqL.of g1) (.cons (.str _) (.cons (.str _) .nil)),
          .lst (SqL.of upd_same) (.cons (.str _) (.cons (.str _) .nil)),
          by decide +kernel, by decide +kernel, ?_⟩
        rw [show PyData.eqv (.list [.str "returned", .str "returned"])
          (.list [.str "returned", .str "returned"]) = true by decide +kernel]
        refine ⟨_, rfl, iteT ⟨_, rfl, v, dv, rfl, (vl.kp cl.rg c6.kp).dy,
          shv.sh, shv.dp, shv.sz, _, rfl, rfl, ?_⟩⟩
        rw [decide_eq_true rfl]
        exact q _ c6
      · rw [hr0] at e
        cases e
    · rw [hr0] at e
      cases e
  | some n =>
    refine iteF ?_
    rcases tpa with ⟨e, _⟩ | ⟨m, e, rfl⟩
    · rw [hr0] at e
      cases e
    rcases tpb with ⟨e', _⟩ | ⟨m', e', rfl⟩
    · rw [hr0] at e'
      cases e'
    cases Option.some.inj (hr0.symm.trans e)
    cases Option.some.inj (hr0.symm.trans e')
    refine ⟨_, rfl, _, rfl, two_l, fun q1 n1 => ?_⟩
    have z1 := sameNew (o := .lst [.ref ta, .ref tb]) n1
    have g1 : (upd H5 q1 (.lst [.ref ta, .ref tb])) q1 =
      some (.lst [.ref ta, .ref tb]) := upd_same
    generalize upd H5 q1 (.lst [.ref ta, .ref tb]) = H6 at z1 g1 ⊢
    refine ⟨_, rfl, two_l, fun q2 n2 => ?_⟩
    have z2 := sameNew (o := .tup [.str "order", .int (n : Nat)]) n2
    have g2 : (upd H6 q2 (.tup [.str "order", .int (n : Nat)])) q2 =
      some (.tup [.str "order", .int (n : Nat)]) := upd_same
    show [V.ref q2].length ≤ sizeLine ∧ _
    refine ⟨by show 1 ≤ sizeLine; decide, fun q3 n3 => ?_⟩
    refine ⟨q3, 2, _, rfl, rfl, upd_same, by decide, by decide,
      by show 1 * 2 ≤ sizeLine; decide, fun q4 n4 => ?_⟩
    show rEqD K (.ref q1) (.ref q4) (upd (upd (upd H6 q2 (.tup [.str "order",
      .int (n : Nat)])) q3 (.lst [.ref q2])) q4 (.lst [.ref q2, .ref q2])) _
    have n4' : (upd (upd H6 q2 (.tup [.str "order", .int (n : Nat)])) q3
      (.lst [.ref q2])) q4 = none := n4
    have n3' : (upd H6 q2 (.tup [.str "order", .int (n : Nat)])) q3 = none := n3
    have z3 := (z2.trans (sameNew (o := .lst [.ref q2]) n3')).trans
      (sameNew (o := .lst [.ref q2, .ref q2]) n4')
    have g4 : (upd (upd (upd H6 q2 (.tup [.str "order", .int (n : Nat)])) q3
      (.lst [.ref q2])) q4 (.lst [.ref q2, .ref q2])) q4 =
      some (.lst [.ref q2, .ref q2]) := upd_same
    have g2' := sameNew (o := .lst [.ref q2, .ref q2]) n4' _ _
      (sameNew (o := .lst [.ref q2]) n3' _ _ g2)
    generalize upd (upd (upd H6 q2 (.tup [.str "order", .int (n : Nat)])) q3
      (.lst [.ref q2])) q4 (.lst [.ref q2, .ref q2]) = H7 at z3 g4 g2' ⊢
    have zz := z1.trans z3
    have c7 := c5.same zz
    have shp : SeqAt.shaped (.list [.tuple [.str "order", .int (n : Nat)],
        .tuple [.str "order", .int (n : Nat)]]) = true := by
      unfold SeqAt.shaped
      have so : PyData.strOk (Str.ofString "order") = true := by decide +kernel
      simp only [PyData.canLay0, PyData.canLayAll0, PyData.depth,
        PyData.depthAll, so, Bool.and_self, Bool.true_and]
      exact decide_eq_true (by omega)
    have tu : ∀ {t : Addr}, H7 t =
        some (.tup [.str "order", .int (n : Nat)]) →
        Dp K H7 (.ref t) (.tuple [.str "order", .int (n : Nat)]) := fun {t} h =>
      .tup (SqT.of h) (.cons (.str _) (.cons (.int _) .nil))
    refine ⟨_, _, .lst (SqL.of (z3 _ _ g1)) (.cons (tu (zz _ _ ha))
      (.cons (tu (zz _ _ hb)) .nil)), .lst (SqL.of g4) (.cons (tu g2')
      (.cons (tu g2') .nil)), shp, shp, ?_⟩
    rw [show PyData.eqv (.list [.tuple [.str "order", .int (n : Nat)],
        .tuple [.str "order", .int (n : Nat)]])
        (.list [.tuple [.str "order", .int (n : Nat)],
        .tuple [.str "order", .int (n : Nat)]]) = true by
      simp [PyData.eqv, PyData.eqvAll]]
    refine ⟨_, rfl, iteT ⟨_, rfl, v, dv, rfl, (vl.kp cl.rg c7.kp).dy,
      shv.sh, shv.dp, shv.sz, _, rfl, rfl, ?_⟩⟩
    rw [decide_eq_true rfl]
    exact q _ c7
end
end OM
namespace OM
open PySem PySem.Spec PyProof.Rows L2
theorem bt_tup : bootBuiltins "tuple" = some (.type "tuple") := by
  decide +kernel
theorem val_ones (l : List Nat) : ∀ ls : List (List Nat), l ∉ ls →
    valV (ones ls) (Sum.inr (SX.S l) : Key) = none
  | [], _ => rfl
  | x :: r, h => by
    rw [List.mem_cons, not_or] at h
    have ih := val_ones l r h.2
    have ne : ¬ ((Sum.inr (SX.S x) : Key) = Sum.inr (SX.S l)) :=
      fun z => h.1 (SX.S_inj (Sum.inr.inj z)).symm
    have hv : valV (ones (x :: r)) (Sum.inr (SX.S l) : Key) =
        valV (ones r) (Sum.inr (SX.S l) : Key) := by
      show Option.map _ (List.find? _ ((Sum.inr (SX.S x), _) :: _)) = _
      rw [List.find?_cons_of_neg (by simpa using ne)]
      rfl
    rw [hv]
    exact ih
theorem ones_snoc (ls : List (List Nat)) (l : List Nat) :
    ones (ls ++ [l]) = ones ls ++ [(Sum.inr (SX.S l), V.int 1)] := by
  unfold ones
  rw [List.map_append]
  rfl
theorem merge_ones {ls : List (List Nat)} (nd : ls.Nodup) :
    ∀ i, i ≤ ls.length →
    mergeK [] (ones (ls.take i)) = ones (ls.take i)
  | 0, _ => rfl
  | i + 1, h => by
    have ih := merge_ones nd i (by omega)
    have hi : ls[i]? = some ls[i] := List.getElem?_eq_getElem (by omega)
    rw [take_snoc hi, ones_snoc]
    unfold mergeK at ih ⊢
    rw [List.foldl_append, ih]
    show putK (ones (ls.take i)) (Sum.inr (SX.S ls[i])) _ = _
    rw [putK_new _ (val_ones _ _ (nodup_take nd hi))]
def AnyV (p : Addr) (H : Hp) (v : V) : Prop := ∃ d, Vl p H v d
theorem AnyV.kp {p : Addr} {H H' : Hp} {v : V} (h : AnyV p H v)
    (r : Rng H p) (s : Kp p H H') : AnyV p H' v :=
  ⟨h.choose, h.choose_spec.kp r s⟩
theorem AnyV.same {p : Addr} {H H' : Hp} {v : V} (h : AnyV p H v)
    (r : Rng H p) (s : Same H H') : AnyV p H' v :=
  h.kp r (Kp.of (But.of s))
theorem Any1.kp {p : Addr} {H H' : Hp} {v : V} (h : Any1 H v)
    (r : Rng H p) (s : Kp p H H') : Any1 H' v :=
  ⟨h.choose, h.choose_spec.kp r s⟩
def spLawT (K : PySem.W.Frag) (T : List (Addr × Str)) : Sp := fun vs H Q _ =>
  ∃ (a : Addr) (ns : List Int), vs = [.ref a] ∧ SqL K H a (ns.map V.int) ∧
  ns.length ≤ 63 ∧ LamX.Tabs T H ∧ ∀ H', Q (.bl true) H'
section
variable {P : Program} {w : World} {K : PySem.W.Frag}
  {mg : Str → Option Value} {base : Heap} {C : Addr}
theorem ok_law13 {f : Addr} {fd : FuncData} {k : Nat} {T : List (Addr × Str)}
    (F : Fun K "law" "law" s_law f fd) (B : Bl mg) (T0 : BC K mg C)
    (bD : mg "dict" = none) (bT : mg "tuple" = none)
    (Cr : Cal P w K mg base k "_law_rng" ["_law_script", "_law_k"] (spRng K))
    (Cd : CalDraw P w K mg base k)
    (Cn : Cal P w K mg base k "_law_names"
      ["_law_rng_here", "_law_many", "_law_used"] spNames)
    (Cs : Cal P w K mg base k "_law_shuffled" ["_law_rng_here", "_law_values"]
      (spShuf K))
    (Cg : Cal P w K mg base k "_law_changed"
      ["_law_rng_here", "_law_items", "_law_value"] spChgd)
    (Cc : Cal P w K mg base k "_law_choice" ["_law_rng_here", "_law_options"]
      (spChoice K))
    (Cb : CalC P w K mg base C k "Base" ["self", "items"] (spInitOk C))
    (Mn : CalM P w K mg base C k "names" ["self"] (spGetNames C))
    (Ct : CalG P w K mg base k "_law_value_right"
      ["_law_rng_here", "_law_base", "_law_items", "_law_value"]
      (spVR C T)) :
    FnG P w K mg base CX0 (k + 2) f fd ["_law_script"] (spLawT K T) := by
  refine okG F sc_law (fun vs H Q E h => ?_)
    (fun cv A outer s H vs Q E hr1 gd h => ?_)
  · obtain ⟨a, ns, rfl, _⟩ := h
    rfl
  obtain ⟨a, ns, rfl, hS, hlen, tb, q⟩ := h
  have nd := sc_law.nd
  have hr := hr1.mono (Nat.le_succ k)
  refine ⟨_, pss_cons (ps_for PassesOwn.never rfl
      (pi_range1 (by rfl) B.range (pa_cons
        (pe_callB (call_max2 rfl) (by rfl) B.max bt_max (pa_cons pe_int (pa_cons
          (pe_callB (call_min2 rfl) (by rfl) B.min bt_min (pa_cons pe_int
            (pa_cons (pe_callB call_len_seq (by rfl) B.len PySem.boot_len
              (pa_cons (pv 0) pa_nil)) pa_nil))) pa_nil)))
        pa_nil))
      (pg_name (i := 1) nd rfl (.inl rfl))
      (C8.pss_cut (ps_set (i := 2) nd rfl (.inl rfl)
        (pe_cal Cr hr (pa_cons (pv 0) (pa_cons (pv 1) pa_nil))))
      (C8.pss_cut (ps_set (i := 3) nd rfl (.inl rfl)
        (pe_ix ix_list (pe_lst (pa_cons
          (pe_op op_add pe_int (pe_cal Cd hr (pa_cons (pv 2) (pa_cons pe_int
            pa_nil))))
          (pa_cons (pe_op op_add pe_int (pe_cal Cd hr (pa_cons (pv 2) (pa_cons
            pe_int pa_nil))))
          (pa_cons (pe_op op_add pe_int (pe_cal Cd hr (pa_cons (pv 2)
              (pa_cons pe_int pa_nil)))) pa_nil))))
          (pe_cal Cd hr (pa_cons (pv 2) (pa_cons pe_int pa_nil)))
          (fun _ _ => rfl)))
      (C8.pss_cut (ps_set (i := 4) nd rfl (.inl rfl)
        (pe_cal Cn hr (pa_cons (pv 2) (pa_cons (pv 3) (pa_cons (pe_lst pa_nil)
          pa_nil)))))
      (C8.pss_cut (ps_set (i := 5) nd rfl (.inl rfl)
        (pe_calC Cb hr1 (pa_cons (pe_callTy call_list_of (by rfl) B.list bt_list
          (pa_cons (pv 4) pa_nil)) pa_nil)))
      (C8.pss_cut (ps_for PassesOwn.never rfl
        (pi_range1 (by rfl) B.range (pa_cons pe_int pa_nil))
        (pg_name (i := 6) nd rfl (.inl rfl))
        (C8.pss_cut (ps_set (i := 7) nd rfl (.inl rfl)
          (pe_cal Cs hr (pa_cons (pv 2) (pa_cons (pv 4) pa_nil))))
        (C8.pss_cut (ps_for PassesOwn.never rfl
          (pi_range1 (by rfl) B.range (pa_cons (pe_cal Cd hr (pa_cons (pv 2)
            (pa_cons pe_int pa_nil))) pa_nil))
          (pg_name (i := 8) nd rfl (.inl rfl))
          (pss_one (ps_set (i := 7) nd rfl (.inl rfl) (pe_cal Cg hr (pa_cons
            (pv 2) (pa_cons (pv 4) (pa_cons (pv 7) pa_nil)))))))
        (C8.pss_cut (ps_if (pt_not (pt_val (pe_calG Ct hr gd (pa_cons (pv 2)
            (pa_cons (pv 5) (pa_cons (pv 4) (pa_cons (pv 7) pa_nil)))))))
          (pss_one ps_never) pss_nil)
        (C8.pss_cut (ps_set (i := 9) nd rfl (.inl rfl) (pe_lst (pa_cons pe_non
          (pa_cons pe_int (pa_cons pe_bl (pa_cons pe_str (pa_cons pe_str
          (pa_cons (pe_callTy call_tuple_of (by rfl) bT bt_tup
            (pa_cons (pv 7) pa_nil))
          (pa_cons pe_dnewK (pa_cons (pe_tup pa_nil)
          (pa_cons (pe_callTy (call_dictP rfl) (by rfl) bD bt_dict (pa_cons
            (pe_lc (own := [("_law_item", 10)]) (g := gName 10) (tt := tYes)
              rfl nd (pi_list (pv 4))
              (blkOk_by (N := N_law) (sc := defScope s_law)
                (by decide +kernel))
              (fun _ _ _ _ _ => pg_name (i := 10) nd rfl (Or.inl rfl))
              (fun _ _ _ _ _ => pts_nil)
              (fun _ _ _ _ _ => pe_tup (pa_cons (pv 10) (pa_cons pe_int
                pa_nil)))) pa_nil)) pa_nil)))))))))))
        (C8.pss_cut (ps_set (i := 11) nd rfl (.inl rfl)
          (pe_cal Cc hr (pa_cons (pv 2) (pa_cons (pv 9) pa_nil))))
        (pss_one (ps_if (pt_not (pt_val (pe_calG Ct hr gd (pa_cons (pv 2)
            (pa_cons (pv 5) (pa_cons (pv 4) (pa_cons (pv 11) pa_nil)))))))
          (pss_one ps_never) pss_nil))))))))
      (pss_one (ps_if (pt_cmpR (op_neD hr.units) (pe_calM0 Mn hr (pv 5)) (pv 4)
          (nomark _)) (pss_one ps_never) pss_nil))))))))
    (pss_one (ps_ret pe_bl)), ?_⟩
  -- how many cells
  refine ⟨_, rfl, a, _, rfl, .inl hS, _, _, rfl, _, _, rfl, _, rfl, ?_, ?_, ?_⟩
  · rw [List.length_map]
    split <;> split <;> omega
  · rw [List.length_map]
    split <;> split <;> omega
  generalize hn : (Int.toNat _) = n
  have n4 : n ≤ 1000 := by
    rw [← hn, List.length_map]
    split <;> split <;> omega
  clear hn
  refine for_range (lo := 0) (n := n) (fun i σ H' =>
      ∃ x1 x2 x3 x4 x5 x6 x7 x8 x9 x10 x11 : Option V, σ = [some (.ref a), x1, x2,
        x3, x4, x5, x6, x7, x8, x9, x10, x11] ∧ LamX.ExtN H H' ∧
        LamX.Tabs T H')
    ⟨none, none, none, none, none, none, none, none, none, none, none, rfl,
      LamX.ExtN.refl H, tb⟩ ?_ (fun σ H' _ => q H')
  rintro i σ H0 hi ⟨x1, x2, x3, x4, x5, x6, x7, x8, x9, x10, x11, rfl, e0, t0⟩
  -- the drawing state
  refine ⟨fun σ' H' => ∃ p, σ' = [some (.ref a), some (.int i), some (.ref p),
    x3, x4, x5, x6, x7, x8, x9, x10, x11] ∧ H0 p = none ∧ Rng H' p ∧ Same H0 H',
    ?_, ?_⟩
  · refine ⟨_, rfl, _, rfl, a, ns, i, ?_, OM.SqL.extN hS e0, by omega,
      fun p H1 np rg s1 => ⟨p, ?_, np, rg, s1⟩⟩
    · rw [Int.zero_add]
      rfl
    · rw [Int.zero_add]
      rfl
  rintro _ H1 ⟨p, rfl, np, rg1, s1⟩
  have b1 : But p H0 H1 := But.of s1
  -- how many
  refine ⟨fun σ' H' => ∃ m : Nat, σ' = [some (.ref a), some (.int i),
    some (.ref p), some (.int m), x4, x5, x6, x7, x8, x9, x10, x11] ∧ 1 ≤ m ∧
    m ≤ 40 ∧ Rng H' p ∧ But p H0 H', ?_, ?_⟩
  · refine ⟨_, rfl, p, 6, rfl, rg1, by decide, by decide,
      fun d2 H2 d20 d21 rg2 b2 => ⟨_, _, rfl, rfl, _, rfl, p, 6, rfl, rg2,
      by decide, by decide, fun d3 H3 d30 d31 rg3 b3 => ⟨_, _, rfl, rfl, _, rfl,
      p, 40, rfl, rg3, by decide, by decide, fun d5 H5 d50 d51 rg5 b5 => ⟨_, _,
      rfl, rfl, sz (by simp), fun t nt => ⟨_, rfl, p, 3, rfl,
      rg5.same (sameNew nt), by decide, by decide,
      fun d4 H4 d40 d41 rg4 b4 => ?_⟩⟩⟩⟩⟩
    have ntp : t ≠ p := (rg5.ne nt).symm
    obtain ⟨v, hv, hv'⟩ := at3' (a := V.int (1 + d2)) (b := V.int (1 + d3))
      (c := V.int (1 + d5)) d40 d41
    obtain ⟨m, rfl, m0, m1⟩ : ∃ m : Nat, v = .int m ∧ 1 ≤ m ∧ m ≤ 40 := by
      rcases hv' with rfl | rfl | rfl
      · exact ⟨(1 + d2).toNat, by rw [Int.toNat_of_nonneg (by omega)], by omega,
          by omega⟩
      · exact ⟨(1 + d3).toNat, by rw [Int.toNat_of_nonneg (by omega)], by omega,
          by omega⟩
      · exact ⟨(1 + d5).toNat, by rw [Int.toNat_of_nonneg (by omega)], by omega,
          by omega⟩
    exact ⟨t, _, d4, _, rfl, rfl, SqL.of (b4 t _ upd_same ntp), hv, m, rfl, m0,
      m1, rg4, ((((b1.trans b2).trans b3).trans b5).put nt ntp).trans b4⟩
  rintro _ H2 ⟨m, rfl, m0, m1, rg2, b2⟩
  -- the items
  refine ⟨fun σ' H' => ∃ it ls, σ' = [some (.ref a), some (.int i),
    some (.ref p), some (.int m), some (.ref it), x5, x6, x7, x8, x9, x10,
    x11] ∧ Good ls ∧ H' it = some (.lst (ls.map vS)) ∧ Rng H' p ∧ But p H0 H',
    ?_, ?_⟩
  · refine ⟨_, rfl, _, rfl, sz (by simp), fun u nu => ?_⟩
    have nup : u ≠ p := (rg2.ne nu).symm
    refine ⟨p, u, m, [], rfl, rg2.same (sameNew nu), upd_same, nup, by omega,
      by simp, fun it ls H5 nit hl nm ndl no hit rg5 b5 => ?_⟩
    exact ⟨it, ls, rfl, ⟨nm, ndl, by omega, by omega⟩, hit, rg5,
      (b2.put nu nup).trans b5⟩
  rintro _ H3 ⟨it, ls, rfl, good, hi3, rg3, b3⟩
  -- the base
  refine ⟨fun σ' H' => ∃ b, σ' = [some (.ref a), some (.int i), some (.ref p),
    some (.int m), some (.ref it), some (.ref b), x6, x7, x8, x9, x10, x11] ∧
    BaseAt C H' b ls ∧ Same H3 H', ?_, ?_⟩
  · refine ⟨_, rfl, it, _, rfl, .inl (SqL.of hi3), fun c nc b dx nb nx ne => ?_⟩
    have e1 : Same H3 (upd H3 c (.lst (ls.map vS))) := sameNew nc
    have ncb : c ≠ b := fun z => by rw [← z, upd_same] at nb; cases nb
    have ncx : c ≠ dx := fun z => by rw [← z, upd_same] at nx; cases nx
    refine ⟨b, c, dx, ls, rfl, upd_same, ?_, good, fun H4 hB b4 =>
      ⟨rfl, b, rfl, hB, ?_⟩⟩
    · rw [upd_ne ncb, upd_ne ncx, upd_same]
    · intro y o e
      have ny := ne_of_none (e1 _ _ e) nb
      refine b4 y o ?_ ny
      rw [upd_ne ny, upd_ne (ne_of_none (e1 _ _ e) nx)]
      exact e1 _ _ e
  rintro _ H4 ⟨b, rfl, hB, s4⟩
  have c4 : Cl C T H0 H4 p it b ls := ⟨rg3.same s4, s4 _ _ hi3, hB,
    (t0.ext (b3.same np)).ext s4,
    (Kp.of b3).trans (Kp.of (But.of s4))⟩
  have h40 := good.hi
  have kr : ∀ {H1 : Hp}, Cl C T H0 H1 p it b ls → Cl C T H1 H1 p it b ls :=
    fun c => ⟨c.rg, c.it, c.ba, c.tb, fun _ _ e _ _ => e⟩
  have kt : ∀ {H1 H2 : Hp}, Cl C T H0 H1 p it b ls → Cl C T H1 H2 p it b ls →
      Cl C T H0 H2 p it b ls :=
    fun c c' => ⟨c'.rg, c'.it, c'.ba, c'.tb, c.kp.trans c'.kp⟩
  -- eight values
  refine ⟨fun σ' H' => ∃ y6 y7 y8 y9 y10 y11 : Option V, σ' = [some (.ref a), some (.int i), some (.ref p), some (.int m), some (.ref it),
    some (.ref b), y6, y7, y8, y9,
    y10, y11] ∧ Cl C T H0 H' p it b ls, ?_, ?_⟩
  · refine ⟨8, rfl, by decide, by decide, ?_⟩
    refine for_range (lo := 0) (n := 8) (fun j σ H' =>
      ∃ y6 y7 y8 y9 y10 y11 : Option V, σ = [some (.ref a), some (.int i), some (.ref p), some (.int m), some (.ref it),
    some (.ref b), y6, y7, y8, y9, y10, y11] ∧
      Cl C T H0 H' p it b ls)
      ⟨x6, x7, x8, x9, x10, x11, rfl, c4⟩ ?_ (fun σ H' z => z)
    rintro j σ H5 hj ⟨y6, y7, y8, y9, y10, y11, rfl, c5⟩
    refine ⟨fun σ' H' => ∃ (qv : Addr) (xs : List V) (z6 : Option V),
      σ' = [some (.ref a), some (.int i), some (.ref p), some (.int m), some (.ref it),
    some (.ref b), z6, some (.ref qv), y8, y9, y10, y11] ∧
      H' qv = some (.lst xs) ∧ qv ≠ p ∧ (∀ x ∈ xs, Any1 H' x) ∧
      xs.length ≤ 40 ∧ Cl C T H0 H' p it b ls, ?_, ?_⟩
    · refine ⟨_, rfl, _, rfl, p, it, _, rfl, c5.rg, SqL.of c5.it,
        rng_ne c5.rg c5.it, by rw [List.length_map]; omega,
        fun q0 ys H6 nq py hq rg6 b6 => ?_⟩
      refine ⟨q0, ys, _, rfl, hq, c5.rg.ne nq |>.symm, fun x hx => ?_, ?_,
        c5.but b6 rg6⟩
      · obtain ⟨l, hl, rfl⟩ := List.mem_map.mp (py.mem_iff.mp hx)
        exact ⟨_, .nm l (good.nm l hl)⟩
      · rw [py.length_eq, List.length_map]
        exact h40
    rintro _ H6 ⟨qv, xs, z6, rfl, hq6, nq6, ev6, lx6, c6⟩
    refine ⟨fun σ' H' => ∃ (qv : Addr) (xs : List V) (z8 : Option V),
      σ' = [some (.ref a), some (.int i), some (.ref p), some (.int m), some (.ref it),
    some (.ref b), z6, some (.ref qv), z8, y9, y10, y11] ∧
      H' qv = some (.lst xs) ∧ qv ≠ p ∧ (∀ x ∈ xs, Any1 H' x) ∧
      xs.length ≤ 43 ∧ Cl C T H0 H' p it b ls, ?_, ?_⟩
    · refine ⟨_, rfl, p, 3, rfl, c6.rg, by decide, by decide,
        fun d H7 d0 d1 rg7 b7 => ⟨d, rfl, by omega, by omega, ?_⟩⟩
      refine for_range (lo := 0) (n := d.toNat) (fun j' σ H' =>
        ∃ (qv : Addr) (xs : List V) (z8 : Option V),
        σ = [some (.ref a), some (.int i), some (.ref p), some (.int m), some (.ref it),
    some (.ref b), z6, some (.ref qv), z8, y9, y10, y11] ∧
        H' qv = some (.lst xs) ∧ qv ≠ p ∧ (∀ x ∈ xs, Any1 H' x) ∧
        xs.length ≤ 40 + j' ∧ Cl C T H0 H' p it b ls)
        ⟨qv, xs, y8, rfl, b7 _ _ hq6 nq6, nq6,
          fun x hx => (ev6 x hx).but c6.rg b7, by omega, c6.but b7 rg7⟩ ?_ ?_
      · rintro j' σ H8 hj' ⟨qv', xs', z8, rfl, hq8, nq8, ev8, lx8, c8⟩
        refine ⟨_, rfl, _, rfl, _, rfl, p, it, qv', ls, xs', rfl, c8.rg, c8.it,
          rng_ne c8.rg c8.it, good, hq8, nq8, ev8, by omega,
          fun qw ys H9 nqw hqw ey ly rg9 b9 => ?_⟩
        exact ⟨qw, ys, _, rfl, hqw, nqw, ey, by omega, c8.but b9 rg9⟩
      · rintro σ H8 ⟨qv', xs', z8, rfl, hq8, nq8, ev8, lx8, c8⟩
        exact ⟨qv', xs', z8, rfl, hq8, nq8, ev8, by omega, c8⟩
    clear hq6 nq6 ev6 lx6 c6
    rintro _ H7 ⟨qv, xs, z8, rfl, hq7, nq7, ev7, lx7, c7⟩
    -- the value
    refine ⟨fun σ' H' =>
      σ' = [some (.ref a), some (.int i), some (.ref p), some (.int m), some (.ref it),
    some (.ref b), z6, some (.ref qv), z8, y9, y10, y11] ∧
      H' qv = some (.lst xs) ∧ (∀ x ∈ xs, Any1 H' x) ∧
      Cl C T H0 H' p it b ls, ?_, ?_⟩
    · obtain ⟨ds, os7⟩ := oddS_of xs ev7
      refine ⟨_, rfl, _, rfl, _, rfl, _, rfl, p, b, it, ls, .ref qv, _, rfl,
        kr c7, good, .lst hq7 nq7 os7 (by omega), fun H8 c8 => ⟨_, rfl,
        iteF ⟨rfl, c8.kp _ _ hq7 nq7 nofun, fun x hx => ?_, kt c7 c8⟩⟩⟩
      exact (ev7 x hx).kp c7.rg c8.kp
    clear hq7 ev7 c7
    rintro _ H8 ⟨rfl, hq8, ev8, c8⟩
    -- values of other kinds
    refine ⟨fun σ' H' => ∃ (sl : Addr) (vs : List V) (z10 : Option V),
      σ' = [some (.ref a), some (.int i), some (.ref p), some (.int m), some (.ref it),
    some (.ref b), z6, some (.ref qv), z8, some (.ref sl), z10, y11] ∧
      H' sl = some (.lst vs) ∧ sl ≠ p ∧ vs.length = 9 ∧
      (∀ v ∈ vs, AnyV p H' v) ∧ Cl C T H0 H' p it b ls, ?_, ?_⟩
    · obtain ⟨ds, os8⟩ := oddS_of xs ev8
      refine ⟨_, rfl, qv, xs, rfl, .inl ⟨SqL.of hq8, fun q1 n1 => ?_⟩⟩
      have s9 := sameNew (o := .tup xs) n1
      have c9 := c8.same s9
      have a1 : AnyV p (upd H8 q1 (.tup xs)) (.ref q1) :=
        ⟨_, .tup upd_same (os8.keep fun v d z => z.same s9) (by omega)⟩
      generalize upd H8 q1 (.tup xs) = H9 at s9 c9 a1 ⊢
      intro q2 n2
      have s10 := sameNew (o := .dK []) n2
      have c10 := c9.same s10
      have a2 : AnyV p (upd H9 q2 (.dK [])) (.ref q2) :=
        ⟨_, .odd (.d0 upd_same)⟩
      replace a1 := a1.same c9.rg s10
      generalize upd H9 q2 (.dK []) = H10 at s10 c10 a1 a2 ⊢
      refine ⟨by decide, fun q3 n3 => ?_⟩
      have s11 := sameNew (o := .tup []) n3
      have c11 := c10.same s11
      have a3 : AnyV p (upd H10 q3 (.tup [])) (.ref q3) :=
        ⟨_, .odd (.t0 upd_same)⟩
      replace a1 := a1.same c10.rg s11
      replace a2 := a2.same c10.rg s11
      generalize upd H10 q3 (.tup []) = H11 at s11 c11 a1 a2 a3 ⊢
      refine ⟨_, rfl, it, rfl, ⟨_, SqL.of c11.it⟩, fun L nL => ?_⟩
      refine lc_it (walk_list (K := K) (a := it) (xs := ls.map vS))
        (fun i' H' => ∃ rs, H' L = some (.lst (rs.map V.ref)) ∧
          KvAt K H' rs (ones (ls.take i')) ∧ Same H11 H')
        ⟨[], upd_same, .nil, sameNew nL⟩ (fun i' H' _ z => by
          obtain ⟨_, _, _, s⟩ := z; exact SqL.of (s _ _ c11.it)) ?_ ?_
      · rintro i' v H12 H13 hi' ⟨rs, hL, kv, s12⟩ ⟨rfl, ev⟩
        obtain ⟨l, hl, rfl⟩ := get_map ev
        rw [List.length_map] at hi'
        have lk := kv.len
        unfold ones at lk
        rw [List.length_map, List.length_take] at lk
        refine ⟨rfl, yes ⟨_, rfl, sz (by simp), fun r nr => ⟨rs.map V.ref, ?_,
          ?_, rs ++ [r], ?_, ?_, ?_⟩⟩⟩
        · rw [upd_ne (ne_of_none hL nr)]
          exact hL
        · rw [List.length_map]
          exact sz' (by omega)
        · rw [upd_same, List.map_append]
          rfl
        · rw [take_snoc hl, ones_snoc]
          refine KvAt.put (ys := rs.map V.ref) ?_ (KvAt.snoc
            (kv := (Sum.inr (SX.S l), .int 1)) (.inl (.inl upd_same))
            (KvAt.same (sameNew nr) kv))
          rw [upd_ne (ne_of_none hL nr)]
          exact hL
        · exact OM.Same.put (s12.trans (sameNew nr)) nL
      rintro H12 ⟨rs, hL, kv, s12⟩
      rw [List.length_map] at kv
      refine ⟨L, rs, _, rfl, SqL.of hL, kv, fun q4 n4 => ?_⟩
      rw [merge_ones good.nd _ (Nat.le_refl _), List.take_length]
      have c12 := c11.same s12
      have s13 := sameNew (o := .dK (ones ls)) n4
      have c13 := c12.same s13
      have a4 : AnyV p (upd H12 q4 (.dK (ones ls))) (.ref q4) :=
        ⟨_, .dct upd_same good⟩
      replace a1 := (a1.same c11.rg s12).same c12.rg s13
      replace a2 := (a2.same c11.rg s12).same c12.rg s13
      replace a3 := (a3.same c11.rg s12).same c12.rg s13
      generalize upd H12 q4 (.dK (ones ls)) = H13 at s13 c13 a1 a2 a3 a4 ⊢
      refine ⟨by show 9 ≤ sizeLine; decide, fun q5 n5 => ⟨q5, _, _, rfl, upd_same,
        (c13.rg.ne n5).symm, rfl, fun v hv => ?_, c13.same (sameNew n5)⟩⟩
      refine AnyV.same (H := H13) ?_ c13.rg (sameNew n5)
      simp only [List.mem_cons, List.not_mem_nil, or_false] at hv
      rcases hv with rfl | rfl | rfl | rfl | rfl | rfl | rfl | rfl | rfl
      · exact ⟨_, .odd .non⟩
      · exact ⟨_, .odd .i0⟩
      · exact ⟨_, .odd (.bl _)⟩
      · exact ⟨_, .odd (.con _ (by decide +kernel))⟩
      · obtain ⟨l, e, nl⟩ := nm_of "ab" (by decide +kernel)
        rw [e]
        exact ⟨_, .odd (.nm l nl)⟩
      · exact a1
      · exact a2
      · exact a3
      · exact a4
    clear hq8 ev8 c8
    rintro _ H9 ⟨sl, vs, z10, rfl, h9, nsl, l9, a9, c9⟩
    refine ⟨fun σ' H' => ∃ v,
      σ' = [some (.ref a), some (.int i), some (.ref p), some (.int m), some (.ref it),
    some (.ref b), z6, some (.ref qv), z8, some (.ref sl), z10, some v] ∧
      AnyV p H' v ∧ Cl C T H0 H' p it b ls, ?_, ?_⟩
    · refine ⟨_, rfl, _, rfl, p, sl, vs, rfl, c9.rg, SqL.of h9, nsl, by omega,
        by omega, fun v H10 hv rg10 b10 => ?_⟩
      exact ⟨v, rfl, (a9 v hv).kp c9.rg (Kp.of b10), c9.but b10 rg10⟩
    clear h9 a9 c9
    rintro _ H10 ⟨v, rfl, ⟨dv, vl⟩, c10⟩
    exact ⟨_, rfl, _, rfl, _, rfl, _, rfl, p, b, it, ls, v, dv, rfl, kr c10,
      good, vl, fun H11 c11 => ⟨_, rfl, iteF ⟨_, _, _, _, _, _, rfl,
      kt c10 c11⟩⟩⟩
  rintro _ H5 ⟨y6, y7, y8, y9, y10, y11, rfl, c5⟩
  -- the base has its items
  have x05 : LamX.ExtN H0 H5 := fun y o e n => c5.kp y o e (ne_of_none e np) n
  obtain ⟨dx, lo, dd, h1, h2, h3⟩ := c5.ba.ob
  refine ⟨_, rfl, b, dx, _, rfl, h1, bf_no _ _ (by decide +kernel)
    (by decide +kernel), b, ls, rfl, c5.ba, fun z H6 nz hz s6 => ?_⟩
  refine ⟨_, rfl, _, _, dp_N (SqL.of hz), dp_N (SqL.of (s6 _ _ c5.it)),
    shaped_L good.uni, shaped_L good.uni, _, rfl, ?_⟩
  rw [eqv_L, decide_eq_true rfl]
  exact iteF ⟨_, _, _, _, _, _, _, _, _, _, _, rfl,
    (e0.trans x05).trans (ext_same s6), c5.tb.ext s6⟩
end
end OM
namespace OM
open PySem PySem.Spec PyProof.Rows L2
/-! ### what the top has left -/
structure DefAt (K : PySem.W.Frag) (mg : Str → Option Value) (x : Str)
    (st : Stmt) (ps : List Str) (f : Addr) (fd : FuncData) : Prop where
  fn : Fun K x x st f fd
  mg : mg x = some (.ref f)
  bd : Binds K fd ps []
  bt : ∀ (s : Shared) (us : List Value), us.length = ps.length →
    BindsTo s fd ⟨us, []⟩ (ps.zip us)
theorem defAt {K : PySem.W.Frag} {mg : Str → Option Value} {h : Heap}
    {x : Str} {st : Stmt} {ps : List Str} {f : Addr} {oc : Value}
    {od an : Option Addr} {sl : Array (Option Value)}
    {kV dc pm cv ct : Value} (X : K.In h) (G : h.Ns mainGlobals mg)
    (a : PySem.W.nsIn K mainGlobals x = some (some (.ref f)))
    (l : K.lookup f = some ⟨oc, od, .func (PySem.W.fnOf x x (defArgs st)
      (defBody st) (defScope st) .none kV dc pm an cv ct), sl⟩)
    (c : PySem.W.codeIn K cv x = true)
    (k : PySem.W.keepIn K (.ref f) = true)
    (b : ∀ (kV doc pm : Value) (an : Option Addr) (cdv ct : Value)
      (us : List Value), us.length = ps.length →
      bindArgs (PySem.W.fnOf x x (defArgs st) (defBody st) (defScope st)
        .none kV doc pm an cdv ct) ⟨us, []⟩ = pure (ps.zip us)) :
    ∃ fd, DefAt K mg x st ps f fd :=
  have F := fun_mk (st := st) l c k
  ⟨_, F, PySem.W.mg_of X G a, F.binds b,
    fun _ us hl => .of_eq (b _ _ _ _ _ _ us hl)⟩
structure MethAt (K : PySem.W.Frag) (C : Addr) (m q : Str) (st : Stmt)
    (ps : List Str) (f : Addr) (fd : FuncData) : Prop where
  fn : Fun K m q st f fd
  me : Meth K C m f
  bd : Binds K fd ps []
theorem methAt {K : PySem.W.Frag} {C : Addr}
    {m q : Str} {st : Stmt} {ps : List Str} {f : Addr} {oc : Value}
    {od an : Option Addr} {sl : Array (Option Value)}
    {kV dc pm cv ct : Value}
    (a : PySem.W.findIn K (.ref C) m = some (some (.ref f)))
    (i : PySem.W.isFn K (.ref f) = true)
    (l : K.lookup f = some ⟨oc, od, .func (PySem.W.fnOf m q (defArgs st)
      (defBody st) (defScope st) .none kV dc pm an cv ct), sl⟩)
    (c : PySem.W.codeIn K cv q = true)
    (k : PySem.W.keepIn K (.ref f) = true)
    (b : ∀ (kV doc pm : Value) (an : Option Addr) (cdv ct : Value)
      (us : List Value), us.length = ps.length →
      bindArgs (PySem.W.fnOf m q (defArgs st) (defBody st) (defScope st)
        .none kV doc pm an cdv ct) ⟨us, []⟩ = pure (ps.zip us)) :
    ∃ fd, MethAt K C m q st ps f fd :=
  have F := fun_mk (st := st) l c k
  ⟨_, F, ⟨a, i, k⟩, F.binds b⟩
section
variable {P : Program} {w : World} {K : PySem.W.Frag}
  {mg : Str → Option Value} {base : Heap} {C : Addr}
theorem DefAt.cal {k j : Nat} {x : Str} {st : Stmt} {ps : List Str} {f : Addr}
    {fd : FuncData} {sp : Sp} (D : DefAt K mg x st ps f fd)
    (G : FnOk P w K mg base CX0 j f fd ps sp) (h : j ≤ k) :
    Cal P w K mg base k x ps sp :=
  ⟨f, fd, G.mono h, D.mg, D.fn.kp, D.bd⟩
theorem FnG.up {j k : Nat} {f : Addr} {fd : FuncData} {ps : List Str} {sp : Sp}
    (F : FnG P w K mg base CX0 j f fd ps sp) (h : j ≤ k) :
    FnG P w K mg base CX0 k f fd ps sp :=
  ⟨F.len, fun A o s H ar us vs Q E r g e b v z =>
    F.run A o s H ar us vs Q E (r.mono h) g e b v z⟩
theorem DefAt.calG {k j : Nat} {x : Str} {st : Stmt} {ps : List Str} {f : Addr}
    {fd : FuncData} {sp : Sp} (D : DefAt K mg x st ps f fd)
    (G : FnG P w K mg base CX0 j f fd ps sp) (h : j ≤ k) :
    CalG P w K mg base k x ps sp :=
  ⟨f, fd, G.up h, D.mg, D.fn.kp, D.bd⟩
theorem MethAt.calM {k j : Nat} {m q : Str} {st : Stmt} {ps : List Str}
    {f : Addr} {fd : FuncData} {sp : Sp} (D : MethAt K C m q st ps f fd)
    (c : Cls K C) (G : FnOk P w K mg base CX0 j f fd ps sp) (h : j ≤ k) :
    CalM P w K mg base C k m ps sp :=
  ⟨c, f, fd, G.mono h, D.me, D.bd⟩
theorem MethAt.spec {m q : Str} {st : Stmt} {ps : List Str}
    {f : Addr} {fd : FuncData} (D : MethAt K C m q st ps f fd) :
    Spec1 K C m f fd ps := ⟨D.me.at_, D.me.fn, D.bd⟩
end
end OM
namespace OM
open PySem PySem.Spec PyProof.Rows L2
/-- an error's __init__ -/
structure XInit (K : PySem.W.Frag) (C : Addr) (q : Str) (st : Stmt)
    (ps : List Str) (f : Addr) (fd : FuncData) : Prop where
  fn : Fun K "__init__" q st f fd
  at_ : PySem.W.findIn K (.ref C) "__init__" = some (some (.ref f))
  ty : PySem.W.typeIn K (.ref f) = some (.type "function")
  bd : Binds K fd ps []
theorem xInit {K : PySem.W.Frag} {C : Addr}
    {q : Str} {st : Stmt} {ps : List Str} {f : Addr} {oc : Value}
    {od an : Option Addr} {sl : Array (Option Value)}
    {kV dc pm cv ct : Value}
    (a : PySem.W.findIn K (.ref C) "__init__" = some (some (.ref f)))
    (i : PySem.W.typeIn K (.ref f) = some (.type "function"))
    (l : K.lookup f = some ⟨oc, od, .func (PySem.W.fnOf "__init__" q
      (defArgs st) (defBody st) (defScope st) .none kV dc pm an cv ct), sl⟩)
    (c : PySem.W.codeIn K cv q = true)
    (k : PySem.W.keepIn K (.ref f) = true)
    (b : ∀ (kV doc pm : Value) (an : Option Addr) (cdv ct : Value)
      (us : List Value), us.length = ps.length →
      bindArgs (PySem.W.fnOf "__init__" q (defArgs st) (defBody st)
        (defScope st) .none kV doc pm an cdv ct) ⟨us, []⟩ =
        pure (ps.zip us)) :
    ∃ fd, XInit K C q st ps f fd :=
  have F := fun_mk (st := st) l c k
  ⟨_, F, a, i, F.binds b⟩
/-- an error of the class at S is what «except T» names -/
theorem exm2 {K : PySem.W.Frag} {S T : Addr}
    (h1 : PySem.W.subIn K (.ref T) (.type "BaseException") = some true)
    (h2 : PySem.W.isClsIn K T = true)
    (h3 : PySem.W.typeIn K (.ref T) = some (.type "type")) {b : Bool}
    (h4 : PySem.W.subIn K (.ref S) (.ref T) = some b) :
    PySem.W.exmOne K (.ref S) (.ref T) = some b := by
  have e1 : (PySem.W.subIn K (.ref T) (.type "BaseException") == some true) =
    true := by rw [h1] <;> rfl
  have e2 : ((PySem.W.clsIn K T).isSome &&
      PySem.W.typeIn K (.ref T) == some (.type "type")) = true := by
    have h2' : (PySem.W.clsIn K T).isSome = true := h2
    rw [h2', h3] <;> rfl
  show (if (PySem.W.subIn K (.ref T) (.type "BaseException") == some true) =
    true then (if ((PySem.W.clsIn K T).isSome &&
      PySem.W.typeIn K (.ref T) == some (.type "type")) = true then
      PySem.W.subIn K (.ref S) (.ref T) else none) else none) = some b
  rw [if_pos e1, if_pos e2]
  exact h4
/-- the same with isinstance -/
theorem kit2 {K : PySem.W.Frag} {S T : Addr} (ne : (S == T) = false)
    (h2 : PySem.W.isClsIn K T = true)
    (h3 : PySem.W.typeIn K (.ref T) = some (.type "type")) {b : Bool}
    (h4 : PySem.W.subIn K (.ref S) (.ref T) = some b) :
    PySem.W.kitOne K (.ref S) (.ref T) = some b := by
  have e2 : ((PySem.W.clsIn K T).isSome &&
      PySem.W.typeIn K (.ref T) == some (.type "type")) = true := by
    have h2' : (PySem.W.clsIn K T).isSome = true := h2
    rw [h2', h3] <;> rfl
  have n : ¬ ((Value.ref S == Value.ref T) = true) := fun z => by
    have z' := eq_of_beq z
    injection z' with z'
    rw [z'] at ne
    simp at ne
  unfold PySem.W.kitOne
  rw [if_neg n]
  show (if ((PySem.W.clsIn K T).isSome &&
      PySem.W.typeIn K (.ref T) == some (.type "type")) = true then
      PySem.W.subIn K (.ref S) (.ref T) else none) = some b
  rw [if_pos e2]
  exact h4
theorem kitT {K : PySem.W.Frag} {S : Addr} {T : String} {b : Bool}
    (hm : PySem.W.kitMeta T = true)
    (h : PySem.W.subIn K (.ref S) (.type T) = some b) :
    PySem.W.kitOne K (.ref S) (.type T) = some b := by
  have n : ¬ ((Value.ref S == Value.type T) = true) := fun z => by
    cases eq_of_beq z
  unfold PySem.W.kitOne
  rw [if_neg n]
  show (if PySem.W.kitMeta T = true then
    PySem.W.subIn K (.ref S) (.type T) else none) = some b
  rw [if_pos hm]
  exact h
end OM
namespace OM
open PySem PySem.Spec PyProof.Rows L2
section
variable {P : Program} {w : World} {K : PySem.W.Frag}
  {mg : Str → Option Value} {base : Heap}
  {C CI CX CP CT CO CV CU c PT : Addr}
/-- the law, by what the top has left -/
theorem all13
    {f1 f2 f3 f4 f5 f6 f7 f8 f9 f10 f11 f12 f13 f14 f15 f16 f17 f18 f19 f20
      f21 f22 : Addr}
    {d1 d2 d3 d4 d5 d6 d7 d8 d9 d10 d11 d12 d13 d14 d15 d16 d17 d18 d19 d20
      d21 d22 : FuncData}
    {m1 m2 m3 m4 m5 m6 : Addr} {e1 e2 e3 e4 e5 e6 : FuncData}
    {g1 g2 : Addr} {h1 h2 : FuncData}
    {t40 t8 : Tok} (B : Bl mg) (T : BC K mg C)
    (bD : mg "dict" = none) (bT : mg "tuple" = none)
    (mk : PySem.W.makesIn K C = true)
    (c40 : mg "MAX_ITEMS" = some (.int 40 t40))
    (c8 : mg "MAX_NAME_LENGTH" = some (.int 8 t8))
    (X : XO K mg CI CX CP CT CO CV CU)
    (sm : ∃ o, base.get? sysModules = some o)
    (D1 : DefAt K mg "is_name" s_is_name ["value"] f1 d1)
    (D2 : DefAt K mg "names_fault" s_names_fault ["value", "most"] f2 d2)
    (D3 : DefAt K mg "check_items" s_check_items ["items"] f3 d3)
    (D4 : DefAt K mg "order_fault" s_order_fault ["base", "value"] f4 d4)
    (D5 : DefAt K mg "check_order" s_check_order ["base", "order"] f5 d5)
    (D6 : DefAt K mg "is_order" s_is_order ["base", "value"] f6 d6)
    (D7 : DefAt K mg "is_inverted" s_is_inverted
      ["base", "order", "first", "second"] f7 d7)
    (D8 : DefAt K mg "inverted_pairs" s_inverted_pairs ["base", "order"] f8 d8)
    (D9 : DefAt K mg "dump_order" s_dump_order ["base", "order"] f9 d9)
    (D10 : DefAt K mg "_law_rng" s_Lrng ["_law_script", "_law_k"] f10 d10)
    (D11 : DefAt K mg "_law_draw" s_Ldraw ["_law_rng_here", "_law_many"] f11
      d11)
    (D12 : DefAt K mg "_law_choice" s_Lchoice
      ["_law_rng_here", "_law_options"] f12 d12)
    (D13 : DefAt K mg "_law_name" s_Lname ["_law_rng_here", "_law_used"] f13
      d13)
    (D14 : DefAt K mg "_law_names" s_Lnames
      ["_law_rng_here", "_law_many", "_law_used"] f14 d14)
    (D15 : DefAt K mg "_law_shuffled" s_Lshuffled
      ["_law_rng_here", "_law_values"] f15 d15)
    (D16 : DefAt K mg "_law_odd" s_Lodd ["_law_rng_here", "_law_items"] f16
      d16)
    (D17 : DefAt K mg "_law_changed" s_Lchanged
      ["_law_rng_here", "_law_items", "_law_value"] f17 d17)
    (D18 : DefAt K mg "_law_problem" s_Lproblem
      ["_law_items", "_law_value"] f18 d18)
    (D19 : DefAt K mg "_law_told" s_Ltold ["_law_call"] f19 d19)
    (D20 : DefAt K mg "_law_inverted_due" s_Linverted_due
      ["_law_items", "_law_value", "_law_first", "_law_second"] f20 d20)
    (D21 : DefAt K mg "_law_value_right" s_Lvalue_right
      ["_law_rng_here", "_law_base", "_law_items", "_law_value"] f21 d21)
    (D22 : DefAt K mg "law" s_law ["_law_script"] f22 d22)
    (M1 : MethAt K C "__init__" "Base.__init__" s_Base_init
      ["self", "items"] m1 e1)
    (M2 : MethAt K C "__len__" "Base.__len__" s_Base_len ["self"] m2 e2)
    (M3 : MethAt K C "names" "Base.names" s_Base_names ["self"] m3 e3)
    (M4 : MethAt K C "has_item" "Base.has_item" s_Base_has_item
      ["self", "value"] m4 e4)
    (M5 : MethAt K C "position_of" "Base.position_of" s_Base_position_of
      ["self", "item"] m5 e5)
    (M6 : MethAt K C "precedes" "Base.precedes" s_Base_precedes
      ["self", "first", "second"] m6 e6)
    (I1 : XInit K CV "InvalidOrder.__init__" s_InvalidOrder_init
      ["self", "position"] g1 h1)
    (I2 : XInit K CU "UnknownItem.__init__" s_UnknownItem_init
      ["self", "value"] g2 h2)
    (hcode : d21.code = .ref c) (TB : LamX.TabB base mg c PT) :
    FnG P w K mg base CX0 12 f22 d22 ["_law_script"]
      (spLawT K [(PT, lamQ)]) := by
  have G11 := ok_draw (P := P) (w := w) (base := base) (k := 0) D11.fn B
  have G10 := ok_rng (P := P) (w := w) (base := base) (k := 0) D10.fn B
  have G1 := ok_isname (P := P) (w := w) (base := base) (k := 0) D1.fn B c8
  have G18 := ok_prob (P := P) (w := w) (base := base) (k := 0) D18.fn B
  have G20 := ok_due (P := P) (w := w) (k := 0) D20.fn B sm
  have H3 := ok_getnames (P := P) (w := w) (base := base) (k := 0) M3.fn B T
  have H2 := ok_lenB (P := P) (w := w) (base := base) (k := 0) M2.fn B T
  have J1 := ok_ioinit (P := P) (w := w) (base := base) (mg := mg) (k := 0)
    I1.fn X.cV.ox X.nV
  have J2 := ok_uinit (P := P) (w := w) (base := base) (mg := mg) (k := 0)
    I2.fn X.cU.ox X.nU
  have xV : XMk P w K mg base CV 1 "InvalidOrder" ["self", "position"]
      (spX1 CV "position") := ⟨X.mV, X.cV, g1, h1, J1, I1.at_, I1.ty, I1.bd⟩
  have xU : XMkF P w K mg base CU 1 "UnknownItem" ["self", "value"]
      (spX1 CU "value") := ⟨X.mU, X.cU, g2, h2, J2, I2.at_, I2.ty, I2.bd⟩
  have G12 := ok_choice (k := 1) D12.fn B (D11.cal G11 (by decide))
  have G13 := ok_name (k := 1) D13.fn B (D11.cal G11 (by decide))
  have G14 := ok_names (k := 2) D14.fn B (D13.cal G13 (by decide))
  have G15 := ok_shuf (k := 1) D15.fn B (D11.cal G11 (by decide))
  have G16 := ok_odd (k := 2) D16.fn (D13.cal G13 (by decide))
    (D12.cal G12 (by decide))
  have G17 := ok_chgd (k := 3) D17.fn B (D11.cal G11 (by decide))
    (D16.cal G16 (by decide)) (D12.cal G12 (by decide))
  have G2 := ok_nfault (k := 1) D2.fn B (D1.cal G1 (by decide))
  have G3 := ok_check (k := 2) D3.fn (D2.cal G2 (by decide)) c40
  have H1 := ok_init (k := 3) M1.fn B T (D3.cal G3 (by decide))
  have mkB : Mk K C m1 := ⟨mk, M1.me.at_, M1.me.fn, T.kC⟩
  have H4 := ok_has (k := 1) M4.fn B T (D1.cal G1 (by decide))
  -- right orders, right items
  have H5 := ok_pos (k := 2) M5.fn T (M4.calM T.cl H4 (by decide))
  have H6 := ok_prec (k := 3) M6.fn (M5.calM T.cl H5 (by decide))
  have G4 := ok_fault (k := 2) (n := 1) D4.fn B T
    (M4.calM T.cl H4 (by decide)) M2.spec H2 (by decide)
  have G5 := ok_checkorder (k := 3) D5.fn (D4.cal G4 (by decide))
  have G7 := ok_inv (k := 4) D7.fn (D5.cal G5 (by decide))
    (M6.calM T.cl H6 (by decide))
  have G8 := ok_pairs (k := 4) D8.fn B (D5.cal G5 (by decide))
    (M3.calM T.cl H3 (by decide))
  have G9 := ok_dumpO (k := 4) D9.fn (D5.cal G5 (by decide))
  -- any value
  have K4 := ok_fltX (k := 2) (n := 1) D4.fn B T
    (M4.calM T.cl H4 (by decide)) M2.spec H2 (by decide)
  have K5 := ok_chkX (k := 3) (j := 1) D5.fn (D4.cal K4 (by decide)) xV
    (by decide)
  have K6 := ok_isordX (k := 3) D6.fn (D4.cal K4 (by decide))
  have L5 := ok_posX (k := 2) (j := 1) M5.fn (M4.calM T.cl H4 (by decide)) xU
    (by decide)
  have L6 := ok_precX (k := 3) M6.fn
    ⟨T.cl, m5, e5, (fn_or H5 L5).mono (by decide), M5.me, M5.bd⟩
  have K7 := ok_invX (k := 4) D7.fn
    ⟨f5, d5, (fn_or G5 K5).mono (by decide), D5.mg, D5.fn.kp, D5.bd⟩
    ⟨T.cl, m6, e6, L6.mono (by decide), M6.me, M6.bd⟩
  have K8 := ok_pairsX (k := 4) D8.fn
    ⟨f5, d5, K5.mono (by decide), D5.mg, D5.fn.kp, D5.bd⟩
  have K9 := ok_dumpX (k := 4) D9.fn
    ⟨f5, d5, K5.mono (by decide), D5.mg, D5.fn.kp, D5.bd⟩
  have G21 := ok_vr (k := 7) (T := [(PT, lamQ)]) D21.fn hcode B X D19.fn D19.mg
    D19.fn.kp D19.bd TB (List.mem_singleton.mpr rfl)
    (fun p hp _ => by rw [List.mem_singleton.mp hp]) sm
    (D18.cal G18 (by decide)) (D6.cal K6 (by decide))
    (D11.cal G11 (by decide)) (D16.cal G16 (by decide))
    (D12.cal G12 (by decide)) (D20.calG G20 (by decide))
    ⟨f7, d7, (fn_or G7 K7).mono (by decide), D7.mg, D7.fn.kp, D7.bd⟩
    ⟨f8, d8, (fn_or G8 K8).mono (by decide), D8.mg, D8.fn.kp, D8.bd⟩
    ⟨f9, d9, (fn_or G9 K9).mono (by decide), D9.mg, D9.fn.kp, D9.bd⟩
  exact ok_law13 (k := 10) D22.fn B T bD bT (D10.cal G10 (by decide))
    (D11.cal G11 (by decide)) (D14.cal G14 (by decide))
    (D15.cal G15 (by decide)) (D17.cal G17 (by decide))
    (D12.cal G12 (by decide))
    ⟨T.mgC, m1, e1, H1.mono (by decide), mkB, M1.bd⟩
    (M3.calM T.cl H3 (by decide)) (D21.calG G21 (by decide))
end
end OM
namespace OM
open PySem PySem.Spec PyProof.Rows L2
theorem defAtC {K : PySem.W.Frag} {mg : Str → Option Value} {h : Heap}
    {x : Str} {st : Stmt} {ps : List Str} {f cc : Addr} {oc : Value}
    {od an : Option Addr} {sl : Array (Option Value)}
    {kV dc pm ct : Value} (X : K.In h) (G : h.Ns mainGlobals mg)
    (a : PySem.W.nsIn K mainGlobals x = some (some (.ref f)))
    (l : K.lookup f = some ⟨oc, od, .func (PySem.W.fnOf x x (defArgs st)
      (defBody st) (defScope st) .none kV dc pm an (.ref cc) ct), sl⟩)
    (c : PySem.W.codeIn K (.ref cc) x = true)
    (k : PySem.W.keepIn K (.ref f) = true)
    (b : ∀ (kV doc pm : Value) (an : Option Addr) (cdv ct : Value)
      (us : List Value), us.length = ps.length →
      bindArgs (PySem.W.fnOf x x (defArgs st) (defBody st) (defScope st)
        .none kV doc pm an cdv ct) ⟨us, []⟩ = pure (ps.zip us)) :
    ∃ fd, DefAt K mg x st ps f fd ∧ fd.code = .ref cc :=
  have F := fun_mk (st := st) l c k
  ⟨_, ⟨F, PySem.W.mg_of X G a, F.binds b,
    fun _ us hl => .of_eq (b _ _ _ _ _ _ us hl)⟩, rfl⟩
theorem fin13 {l : PySem.W.OpenLaw} {w : World} {K : PySem.W.Frag} {h : Heap}
    {mg : Str → Option Value} {fa C : Addr} (X : K.In h)
    (G : h.Ns mainGlobals mg) (hfa : mg "law" = some (.ref fa))
    {f1 f2 f3 f4 f5 f6 f7 f8 f9 f10 f11 f12 f13 f14 f15 f16 f17 f18 f19 f20 f21 f22 m1 m2 m3 m4 m5 m6 g1 g2 : Addr}
    {odf1 anf1 odf2 anf2 odf3 anf3 odf4 anf4 odf5 anf5 odf6 anf6 odf7 anf7 odf8 anf8 odf9 anf9 odf10 anf10 odf11 anf11 odf12 anf12 odf13 anf13 odf14 anf14 odf15 anf15 odf16 anf16 odf17 anf17 odf18 anf18 odf19 anf19 odf20 anf20 odf21 anf21 odf22 anf22 odm1 anm1 odm2 anm2 odm3 anm3 odm4 anm4 odm5 anm5 odm6 anm6 odg1 ang1 odg2 ang2 : Option Addr}
    {slf1 slf2 slf3 slf4 slf5 slf6 slf7 slf8 slf9 slf10 slf11 slf12 slf13 slf14 slf15 slf16 slf17 slf18 slf19 slf20 slf21 slf22 slm1 slm2 slm3 slm4 slm5 slm6 slg1 slg2 : Array (Option Value)}
    {ocf1 kVf1 dcf1 pmf1 cdf1 ctf1 : Value}
    {ocf2 kVf2 dcf2 pmf2 cdf2 ctf2 : Value}
    {ocf3 kVf3 dcf3 pmf3 cdf3 ctf3 : Value}
    {ocf4 kVf4 dcf4 pmf4 cdf4 ctf4 : Value}
    {ocf5 kVf5 dcf5 pmf5 cdf5 ctf5 : Value}
    {ocf6 kVf6 dcf6 pmf6 cdf6 ctf6 : Value}
    {ocf7 kVf7 dcf7 pmf7 cdf7 ctf7 : Value}
    {ocf8 kVf8 dcf8 pmf8 cdf8 ctf8 : Value}
    {ocf9 kVf9 dcf9 pmf9 cdf9 ctf9 : Value}
    {ocf10 kVf10 dcf10 pmf10 cdf10 ctf10 : Value}
    {ocf11 kVf11 dcf11 pmf11 cdf11 ctf11 : Value}
    {ocf12 kVf12 dcf12 pmf12 cdf12 ctf12 : Value}
    {ocf13 kVf13 dcf13 pmf13 cdf13 ctf13 : Value}
    {ocf14 kVf14 dcf14 pmf14 cdf14 ctf14 : Value}
    {ocf15 kVf15 dcf15 pmf15 cdf15 ctf15 : Value}
    {ocf16 kVf16 dcf16 pmf16 cdf16 ctf16 : Value}
    {ocf17 kVf17 dcf17 pmf17 cdf17 ctf17 : Value}
    {ocf18 kVf18 dcf18 pmf18 cdf18 ctf18 : Value}
    {ocf19 kVf19 dcf19 pmf19 cdf19 ctf19 : Value}
    {ocf20 kVf20 dcf20 pmf20 cdf20 ctf20 : Value}
    {ocf21 kVf21 dcf21 pmf21 ctf21 : Value}
    {ocf22 kVf22 dcf22 pmf22 cdf22 ctf22 : Value}
    {ocm1 kVm1 dcm1 pmm1 cdm1 ctm1 : Value}
    {ocm2 kVm2 dcm2 pmm2 cdm2 ctm2 : Value}
    {ocm3 kVm3 dcm3 pmm3 cdm3 ctm3 : Value}
    {ocm4 kVm4 dcm4 pmm4 cdm4 ctm4 : Value}
    {ocm5 kVm5 dcm5 pmm5 cdm5 ctm5 : Value}
    {ocm6 kVm6 dcm6 pmm6 cdm6 ctm6 : Value}
    {ocg1 kVg1 dcg1 pmg1 cdg1 ctg1 : Value}
    {ocg2 kVg2 dcg2 pmg2 cdg2 ctg2 : Value}
    {t40 t8 : Tok}
    {tc_law_value_right tp_law_value_right : Addr} {to_law_value_right : Value} {td_law_value_right : Option Addr} {ts_law_value_right : Array (Option Value)} {tu_law_value_right : Array Value}
    {CV CU CO CI CX CP CT : Addr}
    {nmCV qCV : Str} {NCV : Addr} {bsCV subCV : List Value} {snCV : List Str} {abCV : Bool} {colCV : Option Bool} {ddCV : Option Addr} {k0CV k1CV k2CV k3CV k5CV : Option Value}
    {nmCU qCU : Str} {NCU : Addr} {bsCU subCU : List Value} {snCU : List Str} {abCU : Bool} {colCU : Option Bool} {ddCU : Option Addr} {k0CU k1CU k2CU k3CU k5CU : Option Value}
    (af1 : PySem.W.nsIn K mainGlobals "is_name" = some (some (.ref f1)))
    (lf1 : K.lookup f1 = some ⟨ocf1, odf1, .func (PySem.W.fnOf "is_name" "is_name"
      (defArgs s_is_name) (defBody s_is_name) (defScope s_is_name) .none kVf1 dcf1 pmf1 anf1 cdf1
      ctf1), slf1⟩)
    (cf1 : PySem.W.codeIn K cdf1 "is_name" = true)
    (kf1 : PySem.W.keepIn K (.ref f1) = true)
    (af2 : PySem.W.nsIn K mainGlobals "names_fault" = some (some (.ref f2)))
    (lf2 : K.lookup f2 = some ⟨ocf2, odf2, .func (PySem.W.fnOf "names_fault" "names_fault"
      (defArgs s_names_fault) (defBody s_names_fault) (defScope s_names_fault) .none kVf2 dcf2 pmf2 anf2 cdf2
      ctf2), slf2⟩)
    (cf2 : PySem.W.codeIn K cdf2 "names_fault" = true)
    (kf2 : PySem.W.keepIn K (.ref f2) = true)
    (af3 : PySem.W.nsIn K mainGlobals "check_items" = some (some (.ref f3)))
    (lf3 : K.lookup f3 = some ⟨ocf3, odf3, .func (PySem.W.fnOf "check_items" "check_items"
      (defArgs s_check_items) (defBody s_check_items) (defScope s_check_items) .none kVf3 dcf3 pmf3 anf3 cdf3
      ctf3), slf3⟩)
    (cf3 : PySem.W.codeIn K cdf3 "check_items" = true)
    (kf3 : PySem.W.keepIn K (.ref f3) = true)
    (af4 : PySem.W.nsIn K mainGlobals "order_fault" = some (some (.ref f4)))
    (lf4 : K.lookup f4 = some ⟨ocf4, odf4, .func (PySem.W.fnOf "order_fault" "order_fault"
      (defArgs s_order_fault) (defBody s_order_fault) (defScope s_order_fault) .none kVf4 dcf4 pmf4 anf4 cdf4
      ctf4), slf4⟩)
    (cf4 : PySem.W.codeIn K cdf4 "order_fault" = true)
    (kf4 : PySem.W.keepIn K (.ref f4) = true)
    (af5 : PySem.W.nsIn K mainGlobals "check_order" = some (some (.ref f5)))
    (lf5 : K.lookup f5 = some ⟨ocf5, odf5, .func (PySem.W.fnOf "check_order" "check_order"
      (defArgs s_check_order) (defBody s_check_order) (defScope s_check_order) .none kVf5 dcf5 pmf5 anf5 cdf5
      ctf5), slf5⟩)
    (cf5 : PySem.W.codeIn K cdf5 "check_order" = true)
    (kf5 : PySem.W.keepIn K (.ref f5) = true)
    (af6 : PySem.W.nsIn K mainGlobals "is_order" = some (some (.ref f6)))
    (lf6 : K.lookup f6 = some ⟨ocf6, odf6, .func (PySem.W.fnOf "is_order" "is_order"
      (defArgs s_is_order) (defBody s_is_order) (defScope s_is_order) .none kVf6 dcf6 pmf6 anf6 cdf6
      ctf6), slf6⟩)
    (cf6 : PySem.W.codeIn K cdf6 "is_order" = true)
    (kf6 : PySem.W.keepIn K (.ref f6) = true)
    (af7 : PySem.W.nsIn K mainGlobals "is_inverted" = some (some (.ref f7)))
    (lf7 : K.lookup f7 = some ⟨ocf7, odf7, .func (PySem.W.fnOf "is_inverted" "is_inverted"
      (defArgs s_is_inverted) (defBody s_is_inverted) (defScope s_is_inverted) .none kVf7 dcf7 pmf7 anf7 cdf7
      ctf7), slf7⟩)
    (cf7 : PySem.W.codeIn K cdf7 "is_inverted" = true)
    (kf7 : PySem.W.keepIn K (.ref f7) = true)
    (af8 : PySem.W.nsIn K mainGlobals "inverted_pairs" = some (some (.ref f8)))
    (lf8 : K.lookup f8 = some ⟨ocf8, odf8, .func (PySem.W.fnOf "inverted_pairs" "inverted_pairs"
      (defArgs s_inverted_pairs) (defBody s_inverted_pairs) (defScope s_inverted_pairs) .none kVf8 dcf8 pmf8 anf8 cdf8
      ctf8), slf8⟩)
    (cf8 : PySem.W.codeIn K cdf8 "inverted_pairs" = true)
    (kf8 : PySem.W.keepIn K (.ref f8) = true)
    (af9 : PySem.W.nsIn K mainGlobals "dump_order" = some (some (.ref f9)))
    (lf9 : K.lookup f9 = some ⟨ocf9, odf9, .func (PySem.W.fnOf "dump_order" "dump_order"
      (defArgs s_dump_order) (defBody s_dump_order) (defScope s_dump_order) .none kVf9 dcf9 pmf9 anf9 cdf9
      ctf9), slf9⟩)
    (cf9 : PySem.W.codeIn K cdf9 "dump_order" = true)
    (kf9 : PySem.W.keepIn K (.ref f9) = true)
    (af10 : PySem.W.nsIn K mainGlobals "_law_rng" = some (some (.ref f10)))
    (lf10 : K.lookup f10 = some ⟨ocf10, odf10, .func (PySem.W.fnOf "_law_rng" "_law_rng"
      (defArgs s_Lrng) (defBody s_Lrng) (defScope s_Lrng) .none kVf10 dcf10 pmf10 anf10 cdf10
      ctf10), slf10⟩)
    (cf10 : PySem.W.codeIn K cdf10 "_law_rng" = true)
    (kf10 : PySem.W.keepIn K (.ref f10) = true)
    (af11 : PySem.W.nsIn K mainGlobals "_law_draw" = some (some (.ref f11)))
    (lf11 : K.lookup f11 = some ⟨ocf11, odf11, .func (PySem.W.fnOf "_law_draw" "_law_draw"
      (defArgs s_Ldraw) (defBody s_Ldraw) (defScope s_Ldraw) .none kVf11 dcf11 pmf11 anf11 cdf11
      ctf11), slf11⟩)
    (cf11 : PySem.W.codeIn K cdf11 "_law_draw" = true)
    (kf11 : PySem.W.keepIn K (.ref f11) = true)
    (af12 : PySem.W.nsIn K mainGlobals "_law_choice" = some (some (.ref f12)))
    (lf12 : K.lookup f12 = some ⟨ocf12, odf12, .func (PySem.W.fnOf "_law_choice" "_law_choice"
      (defArgs s_Lchoice) (defBody s_Lchoice) (defScope s_Lchoice) .none kVf12 dcf12 pmf12 anf12 cdf12
      ctf12), slf12⟩)
    (cf12 : PySem.W.codeIn K cdf12 "_law_choice" = true)
    (kf12 : PySem.W.keepIn K (.ref f12) = true)
    (af13 : PySem.W.nsIn K mainGlobals "_law_name" = some (some (.ref f13)))
    (lf13 : K.lookup f13 = some ⟨ocf13, odf13, .func (PySem.W.fnOf "_law_name" "_law_name"
      (defArgs s_Lname) (defBody s_Lname) (defScope s_Lname) .none kVf13 dcf13 pmf13 anf13 cdf13
      ctf13), slf13⟩)
    (cf13 : PySem.W.codeIn K cdf13 "_law_name" = true)
    (kf13 : PySem.W.keepIn K (.ref f13) = true)
    (af14 : PySem.W.nsIn K mainGlobals "_law_names" = some (some (.ref f14)))
    (lf14 : K.lookup f14 = some ⟨ocf14, odf14, .func (PySem.W.fnOf "_law_names" "_law_names"
      (defArgs s_Lnames) (defBody s_Lnames) (defScope s_Lnames) .none kVf14 dcf14 pmf14 anf14 cdf14
      ctf14), slf14⟩)
    (cf14 : PySem.W.codeIn K cdf14 "_law_names" = true)
    (kf14 : PySem.W.keepIn K (.ref f14) = true)
    (af15 : PySem.W.nsIn K mainGlobals "_law_shuffled" = some (some (.ref f15)))
    (lf15 : K.lookup f15 = some ⟨ocf15, odf15, .func (PySem.W.fnOf "_law_shuffled" "_law_shuffled"
      (defArgs s_Lshuffled) (defBody s_Lshuffled) (defScope s_Lshuffled) .none kVf15 dcf15 pmf15 anf15 cdf15
      ctf15), slf15⟩)
    (cf15 : PySem.W.codeIn K cdf15 "_law_shuffled" = true)
    (kf15 : PySem.W.keepIn K (.ref f15) = true)
    (af16 : PySem.W.nsIn K mainGlobals "_law_odd" = some (some (.ref f16)))
    (lf16 : K.lookup f16 = some ⟨ocf16, odf16, .func (PySem.W.fnOf "_law_odd" "_law_odd"
      (defArgs s_Lodd) (defBody s_Lodd) (defScope s_Lodd) .none kVf16 dcf16 pmf16 anf16 cdf16
      ctf16), slf16⟩)
    (cf16 : PySem.W.codeIn K cdf16 "_law_odd" = true)
    (kf16 : PySem.W.keepIn K (.ref f16) = true)
    (af17 : PySem.W.nsIn K mainGlobals "_law_changed" = some (some (.ref f17)))
    (lf17 : K.lookup f17 = some ⟨ocf17, odf17, .func (PySem.W.fnOf "_law_changed" "_law_changed"
      (defArgs s_Lchanged) (defBody s_Lchanged) (defScope s_Lchanged) .none kVf17 dcf17 pmf17 anf17 cdf17
      ctf17), slf17⟩)
    (cf17 : PySem.W.codeIn K cdf17 "_law_changed" = true)
    (kf17 : PySem.W.keepIn K (.ref f17) = true)
    (af18 : PySem.W.nsIn K mainGlobals "_law_problem" = some (some (.ref f18)))
    (lf18 : K.lookup f18 = some ⟨ocf18, odf18, .func (PySem.W.fnOf "_law_problem" "_law_problem"
      (defArgs s_Lproblem) (defBody s_Lproblem) (defScope s_Lproblem) .none kVf18 dcf18 pmf18 anf18 cdf18
      ctf18), slf18⟩)
    (cf18 : PySem.W.codeIn K cdf18 "_law_problem" = true)
    (kf18 : PySem.W.keepIn K (.ref f18) = true)
    (af19 : PySem.W.nsIn K mainGlobals "_law_told" = some (some (.ref f19)))
    (lf19 : K.lookup f19 = some ⟨ocf19, odf19, .func (PySem.W.fnOf "_law_told" "_law_told"
      (defArgs s_Ltold) (defBody s_Ltold) (defScope s_Ltold) .none kVf19 dcf19 pmf19 anf19 cdf19
      ctf19), slf19⟩)
    (cf19 : PySem.W.codeIn K cdf19 "_law_told" = true)
    (kf19 : PySem.W.keepIn K (.ref f19) = true)
    (af20 : PySem.W.nsIn K mainGlobals "_law_inverted_due" = some (some (.ref f20)))
    (lf20 : K.lookup f20 = some ⟨ocf20, odf20, .func (PySem.W.fnOf "_law_inverted_due" "_law_inverted_due"
      (defArgs s_Linverted_due) (defBody s_Linverted_due) (defScope s_Linverted_due) .none kVf20 dcf20 pmf20 anf20 cdf20
      ctf20), slf20⟩)
    (cf20 : PySem.W.codeIn K cdf20 "_law_inverted_due" = true)
    (kf20 : PySem.W.keepIn K (.ref f20) = true)
    (af21 : PySem.W.nsIn K mainGlobals "_law_value_right" = some (some (.ref f21)))
    (lf21 : K.lookup f21 = some ⟨ocf21, odf21, .func (PySem.W.fnOf "_law_value_right" "_law_value_right"
      (defArgs s_Lvalue_right) (defBody s_Lvalue_right) (defScope s_Lvalue_right) .none kVf21 dcf21 pmf21 anf21 (.ref tc_law_value_right)
      ctf21), slf21⟩)
    (cf21 : PySem.W.codeIn K (.ref tc_law_value_right) "_law_value_right" = true)
    (tl_law_value_right : K.lookup tc_law_value_right = some ⟨to_law_value_right, td_law_value_right, .fields tu_law_value_right, ts_law_value_right⟩)
    (tv_law_value_right : tu_law_value_right[11]? = some (.ref tp_law_value_right))
    (tn_law_value_right : K.lookup tp_law_value_right = none)
    (tk_law_value_right : PySem.W.codeHdIn K tc_law_value_right tp_law_value_right = true)
    (te_law_value_right : h.get? tp_law_value_right = some (PySem.W.tabObj #[]))
    (kf21 : PySem.W.keepIn K (.ref f21) = true)
    (af22 : PySem.W.nsIn K mainGlobals "law" = some (some (.ref f22)))
    (lf22 : K.lookup f22 = some ⟨ocf22, odf22, .func (PySem.W.fnOf "law" "law"
      (defArgs s_law) (defBody s_law) (defScope s_law) .none kVf22 dcf22 pmf22 anf22 cdf22
      ctf22), slf22⟩)
    (cf22 : PySem.W.codeIn K cdf22 "law" = true)
    (kf22 : PySem.W.keepIn K (.ref f22) = true)
    (aC : PySem.W.nsIn K mainGlobals "Base" = some (some (.ref C)))
    (am1 : PySem.W.findIn K (.ref C) "__init__" = some (some (.ref m1)))
    (im1 : PySem.W.isFn K (.ref m1) = true)
    (lm1 : K.lookup m1 = some ⟨ocm1, odm1, .func (PySem.W.fnOf "__init__" "Base.__init__"
      (defArgs s_Base_init) (defBody s_Base_init) (defScope s_Base_init) .none kVm1 dcm1 pmm1 anm1 cdm1
      ctm1), slm1⟩)
    (cm1 : PySem.W.codeIn K cdm1 "Base.__init__" = true)
    (km1 : PySem.W.keepIn K (.ref m1) = true)
    (am2 : PySem.W.findIn K (.ref C) "__len__" = some (some (.ref m2)))
    (im2 : PySem.W.isFn K (.ref m2) = true)
    (lm2 : K.lookup m2 = some ⟨ocm2, odm2, .func (PySem.W.fnOf "__len__" "Base.__len__"
      (defArgs s_Base_len) (defBody s_Base_len) (defScope s_Base_len) .none kVm2 dcm2 pmm2 anm2 cdm2
      ctm2), slm2⟩)
    (cm2 : PySem.W.codeIn K cdm2 "Base.__len__" = true)
    (km2 : PySem.W.keepIn K (.ref m2) = true)
    (am3 : PySem.W.findIn K (.ref C) "names" = some (some (.ref m3)))
    (im3 : PySem.W.isFn K (.ref m3) = true)
    (lm3 : K.lookup m3 = some ⟨ocm3, odm3, .func (PySem.W.fnOf "names" "Base.names"
      (defArgs s_Base_names) (defBody s_Base_names) (defScope s_Base_names) .none kVm3 dcm3 pmm3 anm3 cdm3
      ctm3), slm3⟩)
    (cm3 : PySem.W.codeIn K cdm3 "Base.names" = true)
    (km3 : PySem.W.keepIn K (.ref m3) = true)
    (am4 : PySem.W.findIn K (.ref C) "has_item" = some (some (.ref m4)))
    (im4 : PySem.W.isFn K (.ref m4) = true)
    (lm4 : K.lookup m4 = some ⟨ocm4, odm4, .func (PySem.W.fnOf "has_item" "Base.has_item"
      (defArgs s_Base_has_item) (defBody s_Base_has_item) (defScope s_Base_has_item) .none kVm4 dcm4 pmm4 anm4 cdm4
      ctm4), slm4⟩)
    (cm4 : PySem.W.codeIn K cdm4 "Base.has_item" = true)
    (km4 : PySem.W.keepIn K (.ref m4) = true)
    (am5 : PySem.W.findIn K (.ref C) "position_of" = some (some (.ref m5)))
    (im5 : PySem.W.isFn K (.ref m5) = true)
    (lm5 : K.lookup m5 = some ⟨ocm5, odm5, .func (PySem.W.fnOf "position_of" "Base.position_of"
      (defArgs s_Base_position_of) (defBody s_Base_position_of) (defScope s_Base_position_of) .none kVm5 dcm5 pmm5 anm5 cdm5
      ctm5), slm5⟩)
    (cm5 : PySem.W.codeIn K cdm5 "Base.position_of" = true)
    (km5 : PySem.W.keepIn K (.ref m5) = true)
    (am6 : PySem.W.findIn K (.ref C) "precedes" = some (some (.ref m6)))
    (im6 : PySem.W.isFn K (.ref m6) = true)
    (lm6 : K.lookup m6 = some ⟨ocm6, odm6, .func (PySem.W.fnOf "precedes" "Base.precedes"
      (defArgs s_Base_precedes) (defBody s_Base_precedes) (defScope s_Base_precedes) .none kVm6 dcm6 pmm6 anm6 cdm6
      ctm6), slm6⟩)
    (cm6 : PySem.W.codeIn K cdm6 "Base.precedes" = true)
    (km6 : PySem.W.keepIn K (.ref m6) = true)
    (pg : PySem.W.plainGet K C Str.empty = true)
    (hd : PySem.W.hasDictIn K C = true)
    (po : PySem.W.plainOver K C = true)
    (sa : PySem.W.findIn K (.ref C) "__setattr__" =
      some (some (.builtin "object.__setattr__")))
    (ha : PySem.W.findIn K (.ref C) "__class__" =
      some (some (.builtin "object.__class__")))
    (hn : PySem.W.specialIn K (.builtin "object.__class__") "__get__" =
      some (some (.builtin "getset_descriptor.__get__")))
    (htk : PySem.W.takesIn K (.builtin "object.__class__") = some true)
    (hm : PySem.W.mroIn K C (.type "object") = some true)
    (mk : PySem.W.makesIn K C = true)
    (kc : PySem.W.keepIn K (.ref C) = true)
    (nL : PySem.W.findIn K (.ref C) "listed" = some none)
    (nP : PySem.W.findIn K (.ref C) "places" = some none)
    (c40 : PySem.W.nsIn K mainGlobals "MAX_ITEMS" = some (some (.int 40 t40)))
    (c8 : PySem.W.nsIn K mainGlobals "MAX_NAME_LENGTH" =
      some (some (.int 8 t8)))
    (zlen : PySem.W.nsIn K mainGlobals "len" = some none)
    (zdivmod : PySem.W.nsIn K mainGlobals "divmod" = some none)
    (zabs : PySem.W.nsIn K mainGlobals "abs" = some none)
    (zmax : PySem.W.nsIn K mainGlobals "max" = some none)
    (zmin : PySem.W.nsIn K mainGlobals "min" = some none)
    (zrange : PySem.W.nsIn K mainGlobals "range" = some none)
    (zenumerate : PySem.W.nsIn K mainGlobals "enumerate" = some none)
    (zisinstance : PySem.W.nsIn K mainGlobals "isinstance" = some none)
    (zstr : PySem.W.nsIn K mainGlobals "str" = some none)
    (zlist : PySem.W.nsIn K mainGlobals "list" = some none)
    (zset : PySem.W.nsIn K mainGlobals "set" = some none)
    (zall : PySem.W.nsIn K mainGlobals "all" = some none)
    (zrepr : PySem.W.nsIn K mainGlobals "repr" = some none)
    (zdict : PySem.W.nsIn K mainGlobals "dict" = some none)
    (ztuple : PySem.W.nsIn K mainGlobals "tuple" = some none)
    (aCO : PySem.W.nsIn K mainGlobals "OrderError" = some (some (.ref CO)))
    (iCO : PySem.W.isClsIn K CO = true)
    (tCO : PySem.W.typeIn K (.ref CO) = some (.type "type"))
    (aCI : PySem.W.nsIn K mainGlobals "InvalidBase" = some (some (.ref CI)))
    (iCI : PySem.W.isClsIn K CI = true)
    (tCI : PySem.W.typeIn K (.ref CI) = some (.type "type"))
    (aCX : PySem.W.nsIn K mainGlobals "InvalidIndex" = some (some (.ref CX)))
    (iCX : PySem.W.isClsIn K CX = true)
    (tCX : PySem.W.typeIn K (.ref CX) = some (.type "type"))
    (aCP : PySem.W.nsIn K mainGlobals "InvalidPairs" = some (some (.ref CP)))
    (iCP : PySem.W.isClsIn K CP = true)
    (tCP : PySem.W.typeIn K (.ref CP) = some (.type "type"))
    (aCT : PySem.W.nsIn K mainGlobals "InvalidText" = some (some (.ref CT)))
    (iCT : PySem.W.isClsIn K CT = true)
    (tCT : PySem.W.typeIn K (.ref CT) = some (.type "type"))
    (eCO : PySem.W.subIn K (.ref CO) (.type "BaseException") = some true)
    (aCV : PySem.W.nsIn K mainGlobals "InvalidOrder" = some (some (.ref CV)))
    (xCV : K.lookup CV = some (excClassObj nmCV qCV CV NCV bsCV [.ref CO,
      .type "ValueError", .type "Exception", .type "BaseException",
      .type "object"] true snCV subCV abCV colCV ddCV k0CV k1CV k2CV k3CV k5CV
      "ValueError.__new__"))
    (saCV : PySem.W.findIn K (.ref CV) "__setattr__" =
      some (some (.builtin "object.__setattr__")))
    (gaCV : PySem.W.findIn K (.ref CV) "__getattribute__" =
      some (some (.builtin "BaseException.__getattribute__")))
    (ggCV : PySem.W.findIn K (.ref CV) "__getattr__" = some none)
    (haCV : PySem.W.findIn K (.ref CV) "__class__" =
      some (some (.builtin "object.__class__")))
    (hmCV : PySem.W.mroIn K CV (.type "object") = some true)
    (eCCV : PySem.W.subIn K (.ref CV) (.type "BaseException") = some true)
    (tCCV : PySem.W.typeIn K (.ref CV) = some (.type "type"))
    (kCCV : PySem.W.keepIn K (.ref CV) = true)
    (hCCV : PySem.W.hasDictIn K CV = true)
    (n0CV : PySem.W.findIn K (.ref CV) "position" = some none)
    (ag1 : PySem.W.findIn K (.ref CV) "__init__" = some (some (.ref g1)))
    (tg1 : PySem.W.typeIn K (.ref g1) = some (.type "function"))
    (lg1 : K.lookup g1 = some ⟨ocg1, odg1, .func (PySem.W.fnOf "__init__" "InvalidOrder.__init__"
      (defArgs s_InvalidOrder_init) (defBody s_InvalidOrder_init) (defScope s_InvalidOrder_init) .none kVg1 dcg1 pmg1 ang1 cdg1
      ctg1), slg1⟩)
    (cg1 : PySem.W.codeIn K cdg1 "InvalidOrder.__init__" = true)
    (kg1 : PySem.W.keepIn K (.ref g1) = true)
    (aCU : PySem.W.nsIn K mainGlobals "UnknownItem" = some (some (.ref CU)))
    (xCU : K.lookup CU = some (excClassObj nmCU qCU CU NCU bsCU leTail
      true snCU subCU abCU colCU ddCU k0CU k1CU k2CU k3CU k5CU
      "LookupError.__new__"))
    (saCU : PySem.W.findIn K (.ref CU) "__setattr__" =
      some (some (.builtin "object.__setattr__")))
    (gaCU : PySem.W.findIn K (.ref CU) "__getattribute__" =
      some (some (.builtin "BaseException.__getattribute__")))
    (ggCU : PySem.W.findIn K (.ref CU) "__getattr__" = some none)
    (haCU : PySem.W.findIn K (.ref CU) "__class__" =
      some (some (.builtin "object.__class__")))
    (hmCU : PySem.W.mroIn K CU (.type "object") = some true)
    (eCCU : PySem.W.subIn K (.ref CU) (.type "BaseException") = some true)
    (tCCU : PySem.W.typeIn K (.ref CU) = some (.type "type"))
    (kCCU : PySem.W.keepIn K (.ref CU) = true)
    (hCCU : PySem.W.hasDictIn K CU = true)
    (n0CU : PySem.W.findIn K (.ref CU) "value" = some none)
    (ag2 : PySem.W.findIn K (.ref CU) "__init__" = some (some (.ref g2)))
    (tg2 : PySem.W.typeIn K (.ref g2) = some (.type "function"))
    (lg2 : K.lookup g2 = some ⟨ocg2, odg2, .func (PySem.W.fnOf "__init__" "UnknownItem.__init__"
      (defArgs s_UnknownItem_init) (defBody s_UnknownItem_init) (defScope s_UnknownItem_init) .none kVg2 dcg2 pmg2 ang2 cdg2
      ctg2), slg2⟩)
    (cg2 : PySem.W.codeIn K cdg2 "UnknownItem.__init__" = true)
    (kg2 : PySem.W.keepIn K (.ref g2) = true)
    (zVE : PySem.W.nsIn K mainGlobals "ValueError" = some none)
    (zLE : PySem.W.nsIn K mainGlobals "LookupError" = some none)
    (zKE : PySem.W.nsIn K mainGlobals "KeyError" = some none)
    (zIE : PySem.W.nsIn K mainGlobals "IndexError" = some none)
    (iCV : PySem.W.isClsIn K CV = true)
    (iCU : PySem.W.isClsIn K CU = true)
    (sVV : PySem.W.subIn K (.ref CV) (.ref CV) = some true)
    (sUU : PySem.W.subIn K (.ref CU) (.ref CU) = some true)
    (sUV : PySem.W.subIn K (.ref CU) (.ref CV) = some false)
    (sCI : PySem.W.subIn K (.ref CV) (.ref CI) = some false)
    (neCI : (CV == CI) = false)
    (sCX : PySem.W.subIn K (.ref CV) (.ref CX) = some false)
    (neCX : (CV == CX) = false)
    (sCP : PySem.W.subIn K (.ref CV) (.ref CP) = some false)
    (neCP : (CV == CP) = false)
    (sCT : PySem.W.subIn K (.ref CV) (.ref CT) = some false)
    (neCT : (CV == CT) = false)
    (sCO : PySem.W.subIn K (.ref CV) (.ref CO) = some true)
    (neCO : (CV == CO) = false)
    (sVE : PySem.W.subIn K (.ref CV) (.type "ValueError") = some true)
    (sVL : PySem.W.subIn K (.ref CV) (.type "LookupError") = some false)
    (sUL : PySem.W.subIn K (.ref CU) (.type "LookupError") = some true)
    (sUK : PySem.W.subIn K (.ref CU) (.type "KeyError") = some false)
    (sUI : PySem.W.subIn K (.ref CU) (.type "IndexError") = some false)
    (sUE : PySem.W.subIn K (.ref CU) (.type "ValueError") = some false)
    (smod : ∃ mm, h.Ns sysModules mm)
    : ∃ (fd : FuncData) (cs : List (Addr × Addr)) (sp : Sp), Bare0 K h cs ∧
      (∀ (s : Shared) (v : Value), BindsTo s fd ⟨[v], []⟩ [("_law_script", v)]) ∧
      (∀ (H : Hp) (a : Addr) (ns : List Int), ns.length ≤ 63 →
        (∀ p ∈ cs, H p.2 = some (.tbl #[])) → SqL K H a (ns.map V.int) →
        sp [.ref a] H (fun v _ => v = .bl true) E0) ∧
      ∀ base : Heap, K.In base → base.Ns mainGlobals mg →
        (∀ p ∈ cs, LamX.TabB base mg p.1 p.2) →
        (∀ b o, h.get? b = some o → (∀ z, o.data ≠ .seq z 0) →
          o.data ≠ .fields #[] → base.get? b = some o) →
        FnG l.prog w K mg base CX0 12 fa fd ["_law_script"] sp := by
  cases hfa.symm.trans (PySem.W.mg_of X G af22)
  have B : Bl mg := ⟨PySem.W.mg_none_of X G zlen, PySem.W.mg_none_of X G zdivmod, PySem.W.mg_none_of X G zabs, PySem.W.mg_none_of X G zmax, PySem.W.mg_none_of X G zmin, PySem.W.mg_none_of X G zrange, PySem.W.mg_none_of X G zenumerate, PySem.W.mg_none_of X G zisinstance, PySem.W.mg_none_of X G zstr, PySem.W.mg_none_of X G zlist, PySem.W.mg_none_of X G zset, PySem.W.mg_none_of X G zall, PySem.W.mg_none_of X G zrepr⟩
  have T : BC K mg C := ⟨⟨⟨pg, hd, po, sa⟩, ha, hn, htk, hm,
    if_pos (beq_self_eq_true _)⟩, nL, nP,
    PySem.W.mg_of X G aC, kc⟩
  obtain ⟨d1, D1⟩ := defAt (st := s_is_name) (ps := ["value"]) X G af1 lf1 cf1 kf1
    fun _ _ _ _ _ _ us hl => match us, hl with | [_], _ => rfl
  obtain ⟨d2, D2⟩ := defAt (st := s_names_fault) (ps := ["value", "most"]) X G af2 lf2 cf2 kf2
    fun _ _ _ _ _ _ us hl => match us, hl with | [_, _], _ => rfl
  obtain ⟨d3, D3⟩ := defAt (st := s_check_items) (ps := ["items"]) X G af3 lf3 cf3 kf3
    fun _ _ _ _ _ _ us hl => match us, hl with | [_], _ => rfl
  obtain ⟨d4, D4⟩ := defAt (st := s_order_fault) (ps := ["base", "value"]) X G af4 lf4 cf4 kf4
    fun _ _ _ _ _ _ us hl => match us, hl with | [_, _], _ => rfl
  obtain ⟨d5, D5⟩ := defAt (st := s_check_order) (ps := ["base", "order"]) X G af5 lf5 cf5 kf5
    fun _ _ _ _ _ _ us hl => match us, hl with | [_, _], _ => rfl
  obtain ⟨d6, D6⟩ := defAt (st := s_is_order) (ps := ["base", "value"]) X G af6 lf6 cf6 kf6
    fun _ _ _ _ _ _ us hl => match us, hl with | [_, _], _ => rfl
  obtain ⟨d7, D7⟩ := defAt (st := s_is_inverted) (ps := ["base", "order", "first", "second"]) X G af7 lf7 cf7 kf7
    fun _ _ _ _ _ _ us hl => match us, hl with | [_, _, _, _], _ => rfl
  obtain ⟨d8, D8⟩ := defAt (st := s_inverted_pairs) (ps := ["base", "order"]) X G af8 lf8 cf8 kf8
    fun _ _ _ _ _ _ us hl => match us, hl with | [_, _], _ => rfl
  obtain ⟨d9, D9⟩ := defAt (st := s_dump_order) (ps := ["base", "order"]) X G af9 lf9 cf9 kf9
    fun _ _ _ _ _ _ us hl => match us, hl with | [_, _], _ => rfl
  obtain ⟨d10, D10⟩ := defAt (st := s_Lrng) (ps := ["_law_script", "_law_k"]) X G af10 lf10 cf10 kf10
    fun _ _ _ _ _ _ us hl => match us, hl with | [_, _], _ => rfl
  obtain ⟨d11, D11⟩ := defAt (st := s_Ldraw) (ps := ["_law_rng_here", "_law_many"]) X G af11 lf11 cf11 kf11
    fun _ _ _ _ _ _ us hl => match us, hl with | [_, _], _ => rfl
  obtain ⟨d12, D12⟩ := defAt (st := s_Lchoice) (ps := ["_law_rng_here", "_law_options"]) X G af12 lf12 cf12 kf12
    fun _ _ _ _ _ _ us hl => match us, hl with | [_, _], _ => rfl
  obtain ⟨d13, D13⟩ := defAt (st := s_Lname) (ps := ["_law_rng_here", "_law_used"]) X G af13 lf13 cf13 kf13
    fun _ _ _ _ _ _ us hl => match us, hl with | [_, _], _ => rfl
  obtain ⟨d14, D14⟩ := defAt (st := s_Lnames) (ps := ["_law_rng_here", "_law_many", "_law_used"]) X G af14 lf14 cf14 kf14
    fun _ _ _ _ _ _ us hl => match us, hl with | [_, _, _], _ => rfl
  obtain ⟨d15, D15⟩ := defAt (st := s_Lshuffled) (ps := ["_law_rng_here", "_law_values"]) X G af15 lf15 cf15 kf15
    fun _ _ _ _ _ _ us hl => match us, hl with | [_, _], _ => rfl
  obtain ⟨d16, D16⟩ := defAt (st := s_Lodd) (ps := ["_law_rng_here", "_law_items"]) X G af16 lf16 cf16 kf16
    fun _ _ _ _ _ _ us hl => match us, hl with | [_, _], _ => rfl
  obtain ⟨d17, D17⟩ := defAt (st := s_Lchanged) (ps := ["_law_rng_here", "_law_items", "_law_value"]) X G af17 lf17 cf17 kf17
    fun _ _ _ _ _ _ us hl => match us, hl with | [_, _, _], _ => rfl
  obtain ⟨d18, D18⟩ := defAt (st := s_Lproblem) (ps := ["_law_items", "_law_value"]) X G af18 lf18 cf18 kf18
    fun _ _ _ _ _ _ us hl => match us, hl with | [_, _], _ => rfl
  obtain ⟨d19, D19⟩ := defAt (st := s_Ltold) (ps := ["_law_call"]) X G af19 lf19 cf19 kf19
    fun _ _ _ _ _ _ us hl => match us, hl with | [_], _ => rfl
  obtain ⟨d20, D20⟩ := defAt (st := s_Linverted_due) (ps := ["_law_items", "_law_value", "_law_first", "_law_second"]) X G af20 lf20 cf20 kf20
    fun _ _ _ _ _ _ us hl => match us, hl with | [_, _, _, _], _ => rfl
  obtain ⟨d21, D21, hcode_law_value_right⟩ := defAtC (st := s_Lvalue_right) (ps := ["_law_rng_here", "_law_base", "_law_items", "_law_value"]) X G af21 lf21 cf21 kf21
    fun _ _ _ _ _ _ us hl => match us, hl with | [_, _, _, _], _ => rfl
  obtain ⟨d22, D22⟩ := defAt (st := s_law) (ps := ["_law_script"]) X G af22 lf22 cf22 kf22
    fun _ _ _ _ _ _ us hl => match us, hl with | [_], _ => rfl
  obtain ⟨e1, M1⟩ := methAt (st := s_Base_init) (ps := ["self", "items"]) am1 im1 lm1 cm1 km1
    fun _ _ _ _ _ _ us hl => match us, hl with | [_, _], _ => rfl
  obtain ⟨e2, M2⟩ := methAt (st := s_Base_len) (ps := ["self"]) am2 im2 lm2 cm2 km2
    fun _ _ _ _ _ _ us hl => match us, hl with | [_], _ => rfl
  obtain ⟨e3, M3⟩ := methAt (st := s_Base_names) (ps := ["self"]) am3 im3 lm3 cm3 km3
    fun _ _ _ _ _ _ us hl => match us, hl with | [_], _ => rfl
  obtain ⟨e4, M4⟩ := methAt (st := s_Base_has_item) (ps := ["self", "value"]) am4 im4 lm4 cm4 km4
    fun _ _ _ _ _ _ us hl => match us, hl with | [_, _], _ => rfl
  obtain ⟨e5, M5⟩ := methAt (st := s_Base_position_of) (ps := ["self", "item"]) am5 im5 lm5 cm5 km5
    fun _ _ _ _ _ _ us hl => match us, hl with | [_, _], _ => rfl
  obtain ⟨e6, M6⟩ := methAt (st := s_Base_precedes) (ps := ["self", "first", "second"]) am6 im6 lm6 cm6 km6
    fun _ _ _ _ _ _ us hl => match us, hl with | [_, _, _], _ => rfl
  obtain ⟨h1, I1⟩ := xInit (q := "InvalidOrder.__init__") (st := s_InvalidOrder_init) (ps := ["self", "position"]) ag1 tg1 lg1 cg1 kg1
    fun _ _ _ _ _ _ us hl => match us, hl with | [_, _], _ => rfl
  have xcCV : XCl K CV := ⟨⟨⟨_, _, _, _, _, _, _, _, _, _, _, _, _, _, _, xCV,
    by show PySem.HandSPX.refsVE PySem.HandSPX.veTail = true; decide +kernel⟩, saCV, eCCV, tCCV, kCCV⟩, ⟨gaCV, ggCV, eCCV, hCCV⟩,
    haCV, hn, htk, hmCV⟩
  obtain ⟨h2, I2⟩ := xInit (q := "UnknownItem.__init__") (st := s_UnknownItem_init) (ps := ["self", "value"]) ag2 tg2 lg2 cg2 kg2
    fun _ _ _ _ _ _ us hl => match us, hl with | [_, _], _ => rfl
  have xcCU : XClF K CU := ⟨⟨⟨_, _, _, _, _, _, _, _, _, _, _, _, _, _, _, _, _, _, fam_LE, xCU⟩, saCU, eCCU, tCCU, kCCU⟩, ⟨gaCU, ggCU, eCCU, hCCU⟩,
    haCU, hn, htk, hmCU⟩
  have XX : XO K mg CI CX CP CT CO CV CU := ⟨xcCV, xcCU, PySem.W.mg_of X G aCI,
    PySem.W.mg_of X G aCX, PySem.W.mg_of X G aCP, PySem.W.mg_of X G aCT,
    PySem.W.mg_of X G aCO, PySem.W.mg_of X G aCV, PySem.W.mg_of X G aCU,
    PySem.W.mg_none_of X G zVE, PySem.W.mg_none_of X G zLE,
    PySem.W.mg_none_of X G zKE, PySem.W.mg_none_of X G zIE,
    exm2 eCCV iCV tCCV sVV, exm2 eCCV iCV tCCV sUV, exm2 eCCU iCU tCCU sUU,
    kitAny_cons (kit2 neCI iCI tCI sCI) (fun _ => kitAny_cons (kit2 neCX iCX tCX sCX)
      (fun _ => kitAny_cons (kit2 neCP iCP tCP sCP) (fun _ => kitAny_cons (kit2 neCT iCT tCT sCT)
      (fun _ => kitAny_cons (kitT (by decide +kernel) sVL) (fun _ => rfl) nofun) nofun) nofun) nofun) nofun,
    kit2 neCO iCO tCO sCO, kitT (by decide +kernel) sVE, kitT (by decide +kernel) sUL,
    kitAny_cons (kitT (by decide +kernel) sUK) (fun _ => kitAny_cons (kitT (by decide +kernel) sUI)
      (fun _ => kitAny_cons (kitT (by decide +kernel) sUE) (fun _ => rfl) nofun) nofun) nofun,
    n0CV, n0CU⟩
  refine ⟨d22, [(tc_law_value_right, tp_law_value_right)], spLawT K [(tp_law_value_right, lamQ)], ⟨fun p hp => ?_, fun p hp => ?_, fun p hp => ?_⟩,
    fun s v => D22.bt s [v] rfl, fun H a ns hl ht hS => ⟨a, ns, rfl, hS, hl, fun p hp => ?_, fun _ => rfl⟩,
    fun base _ _ tb kb => ?_⟩
  · cases List.mem_singleton.mp hp
    exact PySem.W.codeHd_of_K X tk_law_value_right
  · cases List.mem_singleton.mp hp
    exact te_law_value_right
  · cases List.mem_singleton.mp hp
    exact tn_law_value_right
  · cases List.mem_singleton.mp hp
    exact LamX.TabS.nil (ht _ (.head _))
  exact all13 B T (PySem.W.mg_none_of X G zdict) (PySem.W.mg_none_of X G ztuple) mk
    (PySem.W.mg_of X G c40) (PySem.W.mg_of X G c8) XX (sys_base smod kb)
    D1 D2 D3 D4 D5 D6 D7 D8 D9 D10 D11 D12 D13 D14 D15 D16 D17 D18 D19 D20 D21 D22 M1 M2 M3 M4 M5 M6 I1 I2 hcode_law_value_right (tb _ (.head _))
end OM
open PySem PySem.W PyProof.Rows
set_option maxRecDepth 100000 in
set_option maxHeartbeats 0 in
theorem PySem.Challenge.cw_ordermerge_k13_orders_judged_holds : PySem.Challenge.rw_ordermerge_k13_orders_judged.Holds := by
  w_on; o_law; k_head; (case hw => w_witness2)
  k_fill
  refine OM.walkTS (l := PySem.Challenge.rw_ordermerge_k13_orders_judged) (n := 63) (k := 12)
    (x := "_law_script") rfl (by decide) (by decide +kernel) rfl
    ⟨rfl, by decide, by decide⟩ (fun w h Y => PySem.W.km_in_of Y) ?F
  case F =>
    intro w mg fa h Y KX G hmg smod
    refine' OM.fin13 KX G hmg ?af1
      ?lf1
      ?cf1
      ?kf1
      ?af2
      ?lf2
      ?cf2
      ?kf2
      ?af3
      ?lf3
      ?cf3
      ?kf3
      ?af4
      ?lf4
      ?cf4
      ?kf4
      ?af5
      ?lf5
      ?cf5
      ?kf5
      ?af6
      ?lf6
      ?cf6
      ?kf6
      ?af7
      ?lf7
      ?cf7
      ?kf7
      ?af8
      ?lf8
      ?cf8
      ?kf8
      ?af9
      ?lf9
      ?cf9
      ?kf9
      ?af10
      ?lf10
      ?cf10
      ?kf10
      ?af11
      ?lf11
      ?cf11
      ?kf11
      ?af12
      ?lf12
      ?cf12
      ?kf12
      ?af13
      ?lf13
      ?cf13
      ?kf13
      ?af14
      ?lf14
      ?cf14
      ?kf14
      ?af15
      ?lf15
      ?cf15
      ?kf15
      ?af16
      ?lf16
      ?cf16
      ?kf16
      ?af17
      ?lf17
      ?cf17
      ?kf17
      ?af18
      ?lf18
      ?cf18
      ?kf18
      ?af19
      ?lf19
      ?cf19
      ?kf19
      ?af20
      ?lf20
      ?cf20
      ?kf20
      ?af21
      ?lf21
      ?cf21
      ?tl_law_value_right
      ?tv_law_value_right
      ?tn_law_value_right
      ?tk_law_value_right
      ?te_law_value_right
      ?kf21
      ?af22
      ?lf22
      ?cf22
      ?kf22
      ?aC
      ?am1
      ?im1
      ?lm1
      ?cm1
      ?km1
      ?am2
      ?im2
      ?lm2
      ?cm2
      ?km2
      ?am3
      ?im3
      ?lm3
      ?cm3
      ?km3
      ?am4
      ?im4
      ?lm4
      ?cm4
      ?km4
      ?am5
      ?im5
      ?lm5
      ?cm5
      ?km5
      ?am6
      ?im6
      ?lm6
      ?cm6
      ?km6
      ?pg
      ?hd
      ?po
      ?sa
      ?ha
      ?hn
      ?htk
      ?hm
      ?mk
      ?kc
      ?nL
      ?nP
      ?c40
      ?c8
      ?zlen
      ?zdivmod
      ?zabs
      ?zmax
      ?zmin
      ?zrange
      ?zenumerate
      ?zisinstance
      ?zstr
      ?zlist
      ?zset
      ?zall
      ?zrepr
      ?zdict
      ?ztuple
      ?aCO
      ?iCO
      ?tCO
      ?aCI
      ?iCI
      ?tCI
      ?aCX
      ?iCX
      ?tCX
      ?aCP
      ?iCP
      ?tCP
      ?aCT
      ?iCT
      ?tCT
      ?eCO
      ?aCV
      ?xCV
      ?saCV
      ?gaCV
      ?ggCV
      ?haCV
      ?hmCV
      ?eCCV
      ?tCCV
      ?kCCV
      ?hCCV
      ?n0CV
      ?ag1
      ?tg1
      ?lg1
      ?cg1
      ?kg1
      ?aCU
      ?xCU
      ?saCU
      ?gaCU
      ?ggCU
      ?haCU
      ?hmCU
      ?eCCU
      ?tCCU
      ?kCCU
      ?hCCU
      ?n0CU
      ?ag2
      ?tg2
      ?lg2
      ?cg2
      ?kg2
      ?zVE
      ?zLE
      ?zKE
      ?zIE
      ?iCV
      ?iCU
      ?sVV
      ?sUU
      ?sUV
      ?sCI
      ?neCI
      ?sCX
      ?neCX
      ?sCP
      ?neCP
      ?sCT
      ?neCT
      ?sCO
      ?neCO
      ?sVE
      ?sVL
      ?sUL
      ?sUK
      ?sUI
      ?sUE
      ?smod
    (case af1 => k_is)
    (case lf1 => k_is)
    (case cf1 => k_is)
    (case kf1 => k_is)
    (case af2 => k_is)
    (case lf2 => k_is)
    (case cf2 => k_is)
    (case kf2 => k_is)
    (case af3 => k_is)
    (case lf3 => k_is)
    (case cf3 => k_is)
    (case kf3 => k_is)
    (case af4 => k_is)
    (case lf4 => k_is)
    (case cf4 => k_is)
    (case kf4 => k_is)
    (case af5 => k_is)
    (case lf5 => k_is)
    (case cf5 => k_is)
    (case kf5 => k_is)
    (case af6 => k_is)
    (case lf6 => k_is)
    (case cf6 => k_is)
    (case kf6 => k_is)
    (case af7 => k_is)
    (case lf7 => k_is)
    (case cf7 => k_is)
    (case kf7 => k_is)
    (case af8 => k_is)
    (case lf8 => k_is)
    (case cf8 => k_is)
    (case kf8 => k_is)
    (case af9 => k_is)
    (case lf9 => k_is)
    (case cf9 => k_is)
    (case kf9 => k_is)
    (case af10 => k_is)
    (case lf10 => k_is)
    (case cf10 => k_is)
    (case kf10 => k_is)
    (case af11 => k_is)
    (case lf11 => k_is)
    (case cf11 => k_is)
    (case kf11 => k_is)
    (case af12 => k_is)
    (case lf12 => k_is)
    (case cf12 => k_is)
    (case kf12 => k_is)
    (case af13 => k_is)
    (case lf13 => k_is)
    (case cf13 => k_is)
    (case kf13 => k_is)
    (case af14 => k_is)
    (case lf14 => k_is)
    (case cf14 => k_is)
    (case kf14 => k_is)
    (case af15 => k_is)
    (case lf15 => k_is)
    (case cf15 => k_is)
    (case kf15 => k_is)
    (case af16 => k_is)
    (case lf16 => k_is)
    (case cf16 => k_is)
    (case kf16 => k_is)
    (case af17 => k_is)
    (case lf17 => k_is)
    (case cf17 => k_is)
    (case kf17 => k_is)
    (case af18 => k_is)
    (case lf18 => k_is)
    (case cf18 => k_is)
    (case kf18 => k_is)
    (case af19 => k_is)
    (case lf19 => k_is)
    (case cf19 => k_is)
    (case kf19 => k_is)
    (case af20 => k_is)
    (case lf20 => k_is)
    (case cf20 => k_is)
    (case kf20 => k_is)
    (case af21 => k_is)
    (case lf21 => k_is)
    (case cf21 => k_is)
    (case tl_law_value_right => k_is)
    (case tv_law_value_right => rfl)
    (case tn_law_value_right => first | rfl | k_is)
    (case tk_law_value_right => first | kernel_rfl | rfl | k_is)
    (case te_law_value_right => exact PySem.W.km_tabs_of Y _ (by simp))
    (case kf21 => k_is)
    (case af22 => k_is)
    (case lf22 => k_is)
    (case cf22 => k_is)
    (case kf22 => k_is)
    (case aC => k_is)
    (case am1 => k_is)
    (case im1 => k_is)
    (case lm1 => k_is)
    (case cm1 => k_is)
    (case km1 => k_is)
    (case am2 => k_is)
    (case im2 => k_is)
    (case lm2 => k_is)
    (case cm2 => k_is)
    (case km2 => k_is)
    (case am3 => k_is)
    (case im3 => k_is)
    (case lm3 => k_is)
    (case cm3 => k_is)
    (case km3 => k_is)
    (case am4 => k_is)
    (case im4 => k_is)
    (case lm4 => k_is)
    (case cm4 => k_is)
    (case km4 => k_is)
    (case am5 => k_is)
    (case im5 => k_is)
    (case lm5 => k_is)
    (case cm5 => k_is)
    (case km5 => k_is)
    (case am6 => k_is)
    (case im6 => k_is)
    (case lm6 => k_is)
    (case cm6 => k_is)
    (case km6 => k_is)
    (case pg => k_is)
    (case hd => k_is)
    (case po => k_is)
    (case sa => k_is)
    (case ha => k_is)
    (case hn => k_is)
    (case htk => k_is)
    (case hm => k_is)
    (case mk => k_is)
    (case kc => k_is)
    (case nL => k_is)
    (case nP => k_is)
    (case c40 => k_is)
    (case c8 => k_is)
    (case zlen => k_is)
    (case zdivmod => k_is)
    (case zabs => k_is)
    (case zmax => k_is)
    (case zmin => k_is)
    (case zrange => k_is)
    (case zenumerate => k_is)
    (case zisinstance => k_is)
    (case zstr => k_is)
    (case zlist => k_is)
    (case zset => k_is)
    (case zall => k_is)
    (case zrepr => k_is)
    (case zdict => k_is)
    (case ztuple => k_is)
    (case aCO => k_is)
    (case iCO => k_is)
    (case tCO => k_is)
    (case aCI => k_is)
    (case iCI => k_is)
    (case tCI => k_is)
    (case aCX => k_is)
    (case iCX => k_is)
    (case tCX => k_is)
    (case aCP => k_is)
    (case iCP => k_is)
    (case tCP => k_is)
    (case aCT => k_is)
    (case iCT => k_is)
    (case tCT => k_is)
    (case eCO => k_is)
    (case aCV => k_is)
    (case xCV => k_is)
    (case saCV => k_is)
    (case gaCV => k_is)
    (case ggCV => k_is)
    (case haCV => k_is)
    (case hmCV => k_is)
    (case eCCV => k_is)
    (case tCCV => k_is)
    (case kCCV => k_is)
    (case hCCV => k_is)
    (case n0CV => k_is)
    (case ag1 => k_is)
    (case tg1 => k_is)
    (case lg1 => k_is)
    (case cg1 => k_is)
    (case kg1 => k_is)
    (case aCU => k_is)
    (case xCU => k_is)
    (case saCU => k_is)
    (case gaCU => k_is)
    (case ggCU => k_is)
    (case haCU => k_is)
    (case hmCU => k_is)
    (case eCCU => k_is)
    (case tCCU => k_is)
    (case kCCU => k_is)
    (case hCCU => k_is)
    (case n0CU => k_is)
    (case ag2 => k_is)
    (case tg2 => k_is)
    (case lg2 => k_is)
    (case cg2 => k_is)
    (case kg2 => k_is)
    (case zVE => k_is)
    (case zLE => k_is)
    (case zKE => k_is)
    (case zIE => k_is)
    (case iCV => k_is)
    (case iCU => k_is)
    (case sVV => first | rfl | k_is)
    (case sUU => first | rfl | k_is)
    (case sUV => first | rfl | k_is)
    (case sCI => first | rfl | k_is)
    (case neCI => first | rfl | decide | k_is)
    (case sCX => first | rfl | k_is)
    (case neCX => first | rfl | decide | k_is)
    (case sCP => first | rfl | k_is)
    (case neCP => first | rfl | decide | k_is)
    (case sCT => first | rfl | k_is)
    (case neCT => first | rfl | decide | k_is)
    (case sCO => first | rfl | k_is)
    (case neCO => first | rfl | decide | k_is)
    (case sVE => k_is)
    (case sVL => k_is)
    (case sUL => k_is)
    (case sUK => k_is)
    (case sUI => k_is)
    (case sUE => k_is)
    (case smod => exact smod)
