import PyProof.Rows.All
import Wide.All
import OpenK.AllK
import Wide.FinOn
import HandS.ForMost
import HandS.Codes
import HandS.FStr
import HandS.Walk
import HandS.FStrTup
import PyProof.EqKinds
import HandS.IsInst
import HandS.SetKeys
import HandS.DictComp
import HandS.Exc
import HandS.Style
import HandS.Deep
import HandS.Defaults
import HandS.Conv
import PySem.Challenge.RW_ordermerge_k29_logs_equal_and_cloned
set_option Elab.async false
set_option linter.all false
set_option maxRecDepth 100000
set_option maxHeartbeats 8000000
/-! a def's promise where no repr is under way -/
namespace OM
open PySem PySem.Spec PyProof.Rows L2

/-- FnOk, for callers around whom nothing is being shown -/
structure FnG (P : Program) (w : World) (K : PySem.W.Frag)
    (mg : Str → Option Value) (base : Heap) (CX : CXT)
    (k : Nat) (f : Addr) (fd : FuncData) (ps : List Str) (sp : Sp) : Prop where
  len : ∀ vs H Q E, sp vs H Q E → vs.length = ps.length
  run : ∀ (A : Around) (outer : List Env) (s : Shared) (H : Hp)
      (args : Args) (us : List Value) (vs : List V) (Q : VK) (E : XK),
    Room k A → A.guards = some [] →
    Env0 P w K mg base A outer s H →
    BindsTo s fd args (ps.zip us) → Vals vs us → sp vs H Q E →
    codeAny (model P w) A (.call (.ref f) args)
      (CR CX outer P w H s Q E) s

section
variable {P : Program} {w : World} {K : PySem.W.Frag}
  {mg : Str → Option Value} {base : Heap} {CX : CXT}
theorem FnG.ofOk {k : Nat} {f : Addr} {fd : FuncData} {ps : List Str} {sp : Sp}
    (F : FnOk P w K mg base CX k f fd ps sp) :
    FnG P w K mg base CX k f fd ps sp :=
  ⟨F.len, fun A o s H ar us vs Q E r _ e b v z =>
    F.run A o s H ar us vs Q E r e b v z⟩

theorem FnG.mk' {k : Nat} {f : Addr} {nm qual : Str} {pr : Arguments}
    {bd : List Stmt} {sc : Scope} {dV kV dc pm cv ct oc : Value}
    {an od : Option Addr} {sl : Array (Option Value)} {N ps : List Str} {sp : Sp}
    (lk : K.lookup f = some ⟨oc, od,
      .func (PySem.W.fnOf nm qual pr bd sc dV kV dc pm an cv ct), sl⟩)
    (hc : PySem.W.codeIn K cv qual = true) (S : FnScope N ps sc)
    (len : ∀ vs H Q E, sp vs H Q E → vs.length = ps.length)
    (body : ∀ (A : Around) (outer : List Env) (s : Shared) (H : Hp)
        (vs : List V) (Q : VK) (E : XK),
      Room k (A.deeper (envOfC qual sc s.heap.objs.size f cv)) →
      A.guards = some [] → sp vs H Q E →
      ∃ t, PSs (cxOf CX P w K mg base N qual sc f cv A outer s H E) bd t ∧
        t { nx := fun _ H' => Q .non H', rt := Q } (start N vs) H) :
    FnG P w K mg base CX (k + 1) f
      (PySem.W.fnOf nm qual pr bd sc dV kV dc pm an cv ct) ps sp := by
  refine ⟨len, ?_⟩
  intro A outer s H args us vs Q E room gd env bnd rel hsp
  have kin : K.In s.heap :=
    env.mod.kin.keeps fun b o q => (env.bs b o q).1
  have nol : s.heap.NoLimit :=
    env.mod.nolimit.keeps fun b o q => (env.bs b o q).1
  have kinds : ∀ y ∈ ps.zip us, sc.names.lookup y.1 = some .local ∨
      (sc.names.lookup y.1 = some .cell ∧
        ((cellsFrom (s.heap.objs.size + 1) sc.names []).lookup y.1).isSome
          = true) := by
    rintro ⟨n, v⟩ hy
    cases S.par n (List.of_mem_zip hy).1 with
    | inl q => exact Or.inl q
    | inr q => exact Or.inr ⟨q, PySem.W.cellsFrom_some _ _ _ (.inl q)⟩
  refine codeAny_call_function room.depth (kin _ _ lk) rfl S.co S.gen rfl
    (PySem.W.codeRec_of kin hc) (bnd _ _ _ _ ?_)
  refine wpAny_newFunctionEnv_cells S.kind kinds ?_
  intro env' he s1 x
  subst he
  refine ⟨nol.keeps x.toInCall.keep, codeAny_func ?_⟩
  obtain ⟨t, ht, hq⟩ := body A outer s H vs Q E (room.deeper _) gd hsp
  have I := inv_start (CX := CX) (E := E) S room.hd env
    (len _ _ _ _ hsp) rel x
  refine wpAny_mono (ht.run [] s1 (start N vs) H _ I hq) ?_
    (fun e s' z => z)
  intro fl s' hs
  cases fl with
  | ret u =>
    obtain ⟨v, σ', H', J, rv, q⟩ := hs
    exact ⟨v, H', J.os, J.bare, J.base, J.hok, rv, q⟩
  | next =>
    obtain ⟨σ', H', J, q⟩ := hs
    exact ⟨V.non, H', J.os, J.bare, J.base, J.hok, rfl, q⟩
  | brk => exact (hs.choose_spec.choose_spec.2 : False).elim
  | cont => exact (hs.choose_spec.choose_spec.2 : False).elim

/-- a def of the text, by its body -/
theorem okG {x qual : Str} {st : Stmt} {f : Addr} {fd : FuncData}
    {N ps : List Str} {k : Nat} {sp : Sp} (F : Fun K x qual st f fd)
    (S : FnScope N ps (defScope st))
    (len : ∀ vs H Q E, sp vs H Q E → vs.length = ps.length)
    (body : ∀ (cv : Value) (A : Around) (outer : List Env) (s : Shared)
        (H : Hp) (vs : List V) (Q : VK) (E : XK),
      Room k (A.deeper (envOfC qual (defScope st) s.heap.objs.size f cv)) →
      A.guards = some [] → sp vs H Q E →
      ∃ t, PSs (cxOf CX0 P w K mg base N qual (defScope st) f cv A
          outer s H E).nox (defBody st) t ∧
        t { nx := fun _ H' => Q .non H', rt := Q } (start N vs) H) :
    FnG P w K mg base CX0 (k + 1) f fd ps sp := by
  obtain ⟨oc, od, kV, dc, pm, an, cv, ct, sl, rfl, lk, hc⟩ := F.ex
  refine FnG.mk' lk hc S len ?_
  intro A outer s H vs Q E room gd hsp
  obtain ⟨t, h, q⟩ := body cv A outer s H vs Q E room gd hsp
  exact ⟨t, h.nox, q⟩
end

section
variable {X : Cx} {CX : CXT} {k : Nat} {f : Addr} {fd : FuncData}
  {ps : List Str} {sp : Sp} {dvs : List V} {ds : List Value} {E : XK}
theorem runG {pins : List (Addr × Obj)} {σ : L2.St} {H : Hp} {s : Shared}
    {Q : VK} {us : List Value} {vs : List V}
    (F : FnG X.prog X.w X.K X.mg X.base CX k f fd ps sp)
    (room : Room k X.A) (gd : X.A.guards = some [])
    (hb : Binds X.K fd ps ds) (hd : Vals dvs ds) (hx : Passes CX X E)
    (I : Inv X pins σ H s) (r : Vals vs us) (h : sp (vs ++ dvs) H Q E) :
    wpAny (model X.prog X.w) X.A (call (.ref f) us) (EP X pins σ Q) X.xe s := by
  have rr := r.append hd
  have hl : (us ++ ds).length = ps.length :=
    rr.length.symm.trans (F.len _ _ _ _ h)
  refine wpAny_call (codeAny_mono (F.run X.A X.stack s H ⟨us, []⟩ (us ++ ds)
    (vs ++ dvs) Q E room gd I.env0 (hb s us I.kIn hl) rr h) ?_)
  intro r s' hq
  match r, hq with
  | .error e, hq => exact hx pins σ H s e s' I hq
  | .ok (.ret u), hq => exact I.after hq
  | .ok .next, hq => exact False.elim hq
  | .ok .brk, hq => exact False.elim hq
  | .ok .cont, hq => exact False.elim hq

theorem pe_callG {x : Str} {p pos : Pos} {e : Expr} {es : List Expr} {t : TA}
    (F : FnG X.prog X.w X.K X.mg X.base CX k f fd ps sp)
    (room : Room k X.A) (gd : X.A.guards = some []) (hg : Gl X x)
    (hm : X.mg x = some (.ref f)) (hk : PySem.W.keepIn X.K (.ref f) = true)
    (hb : Binds X.K fd ps ds) (hd : Vals dvs ds) (hx : Passes CX X E)
    (ha : PA X (e :: es) t)
    (h1 : (x == ("__debug__" : Str)) = false := by decide)
    (h2 : starEach (e :: es) X.env =
      (false, eval e X.env) :: starEach es X.env := by rfl)
    (h3 : (backTo pos (starEach es X.env)).any (·.1) = false := by rfl) :
    PE X (.Call (.Name x p) (e :: es) [] pos) (tCall sp dvs E t) := by
  constructor
  intro pins s σ H Q I h
  refine wpAny_Call_Name_kw (ld_glob I hg hm ?_ h1)
  refine PySem.W.callWith_K (h₀ := X.base) I.ok.mod.kin hk
    (thn (ha.run pos pins s σ H _ I h) ?_) h2 h3
  rintro us s1 ⟨vs, H1, I1, r, q⟩
  exact ⟨I1.kIn, runG F room gd hb hd hx I1 r q⟩
end

/-! ### repr of data -/
section
variable {X : Cx}
theorem DpAll.noDict : ∀ {K : PySem.W.Frag} {H : Hp} (ds : List PyData)
    {vs : List V}, (∀ d ∈ ds, ∀ v, Dp K H v d → d.hasDict = false) →
    DpAll K H vs ds → PyData.hasDictAll ds = false
  | _, _, [], _, _, _ => by simp only [PyData.hasDictAll]
  | _, _, d :: ds, _, f, h => by
    cases h with
    | cons h1 h2 =>
      simp only [PyData.hasDictAll]
      rw [f d List.mem_cons_self _ h1,
        DpAll.noDict ds (fun e he => f e (List.mem_cons_of_mem _ he)) h2]
      rfl
mutual
theorem Dp.noDict {K : PySem.W.Frag} {H : Hp} :
    ∀ (d : PyData) {v : V}, Dp K H v d → d.hasDict = false
  | .none, _, _ => by simp only [PyData.hasDict]
  | .bool _, _, _ => by simp only [PyData.hasDict]
  | .int _, _, _ => by simp only [PyData.hasDict]
  | .str _, _, _ => by simp only [PyData.hasDict]
  | .list ds, _, h => by
    cases h with
    | lst _ h => simp only [PyData.hasDict]; exact Dp.noDicts ds h
  | .tuple ds, _, h => by
    cases h with
    | tup _ h => simp only [PyData.hasDict]; exact Dp.noDicts ds h
  | .dict _, _, h => by cases h
theorem Dp.noDicts {K : PySem.W.Frag} {H : Hp} :
    ∀ (ds : List PyData) {vs : List V}, DpAll K H vs ds →
      PyData.hasDictAll ds = false
  | [], _, _ => by simp only [PyData.hasDictAll]
  | d :: ds, _, h => by
    cases h with
    | cons h1 h2 =>
      simp only [PyData.hasDictAll]
      rw [Dp.noDict d h1, Dp.noDicts ds h2]
      rfl
end
/-- repr(x) of data without dicts -/
def rRepr (K : PySem.W.Frag) : List V → Hp → VK → Prop := fun xs H Q =>
  ∃ v d, xs = [v] ∧ Dp K H v d ∧ d.showable = true ∧ d.depth ≤ 60 ∧
    d.shown.length ≤ sizeLine ∧ Q (.str d.shown) H
theorem call_reprD {k : Nat} (room : Room k X.A)
    (gd : X.A.guards = some []) :
    CallR X (.builtin "repr") (rRepr X.K) := by
  intro pins s σ H xs us Q I r h
  obtain ⟨v, d, rfl, hd, sh, dp, sz, q⟩ := h
  cases r with
  | cons rv rn =>
    cases rn
    rename_i u
    obtain ⟨as, rd⟩ := Dp.reads I d v u hd rv
    have un := room.units
    cases hd with
    | non =>
      cases rv
      exact PySem.P.repr_of_none ⟨.str _, H, I.tok _, ⟨_, rfl⟩, q⟩
    | bl b =>
      cases rv
      exact PySem.P.repr_of_bool ⟨.str _, H, I.tok _, ⟨_, rfl⟩, q⟩
    | int i =>
      obtain ⟨t, rfl⟩ := rv
      refine PySem.P.repr_of_int ?_ ⟨.str _, H, I.tok _, ⟨_, rfl⟩, q⟩
      simpa [PyData.showable] using sh
    | str x =>
      obtain ⟨t, rfl⟩ := rv
      exact PySem.P.repr_of_str ⟨.str _, H, I.tok _, ⟨_, rfl⟩, q⟩ sz
    | lst a b =>
      cases rv
      refine repr_of_reads' rd sh (PyData.noDict_hsm
        (Dp.noDict _ (Dp.lst a b))) gd (by omega) (fun _ _ e => e)
        (fun h' u tk hk => ?_) sz
      exact ⟨.str _, H, I.kept hk, ⟨_, rfl⟩, q⟩
    | tup a b =>
      cases rv
      refine repr_of_reads' rd sh (PyData.noDict_hsm
        (Dp.noDict _ (Dp.tup a b))) gd (by omega) (fun _ _ e => e)
        (fun h' u tk hk => ?_) sz
      exact ⟨.str _, H, I.kept hk, ⟨_, rfl⟩, q⟩
end
end OM
namespace OM
open PySem PySem.Spec PyProof.Rows L2

/-- the law's call, nothing being shown around it -/
theorem lawG {P : Program} {w : World} {K : PySem.W.Frag}
    {mg mb : Str → Option Value} {k : Nat} {fa a : Addr} {fd : FuncData}
    {x : Str} {sp : Sp} {s1 : Shared} {vs : List Value} {ns : List Int}
    (kin : K.In s1.heap) (glob : s1.heap.Ns mainGlobals mg)
    (blt : s1.heap.Ns builtinsNs mb)
    (boot : ∀ x : Str, x ≠ "__name__" → mb x = bootBuiltins x)
    (nol : s1.heap.NoLimit) (gens : s1.gens = #[])
    (ha : s1.heap.get? a =
      some { cls := .type "list", data := .seq vs.toArray })
    (hints : IntsAre vs ns) (hl : ns.length ≤ sizeLine)
    (room : Room k callerA)
    (F : ∀ base : Heap, K.In base → base.Ns mainGlobals mg →
      FnG P w K mg base CX0 k fa fd [x] sp)
    (bind : ∀ (s : Shared) (u : Value), BindsTo s fd ⟨[u], []⟩ [(x, u)])
    (hsp : ∀ H : Hp, Only H → SqL K H a (ns.map V.int) →
      sp [.ref a] H (fun v _ => v = .bl true) E0) :
    codeAny (model P w) callerA (.call (.ref fa) ⟨[.ref a], []⟩)
      (fun r s' => r = .ok (.ret (.bool true)) ∧ OldK s1.heap s'.heap ∧
        s'.os = s1.os ∧ AllBare s'.gens) s1 := by
  have rel := vals_ints hints
  have lv := hints.length
  -- H tracks the script alone, or nothing
  suffices core : ∀ H : Hp, Only H → SqL K H a (ns.map V.int) →
      HOk P w H s1.heap → (∀ b, H b ≠ none → b = a) →
      (H a ≠ none → K.lookup a = none) →
      codeAny (model P w) callerA (.call (.ref fa) ⟨[.ref a], []⟩)
        (fun r s' => r = .ok (.ret (.bool true)) ∧ OldK s1.heap s'.heap ∧
          s'.os = s1.os ∧ AllBare s'.gens) s1 by
    by_cases hk : ∃ o, K.lookup a = some o
    · obtain ⟨o, hk⟩ := hk
      have e := kin a o hk
      rw [ha] at e
      cases e
      refine core (fun _ => none) (fun _ => Or.inl rfl) (Or.inr ?_)
        (fun b u z => ?_) (fun b z => absurd rfl z) (fun z => absurd rfl z)
      · exact ⟨_, vs.toArray, _, hk, rfl, rfl, rfl,
          by rw [List.size_toArray, lv]; exact hl, by simpa using rel⟩
      · cases (show (none : Option HO) = some u from z)
    · have hk : K.lookup a = none := by
        cases q : K.lookup a with
        | none => rfl
        | some o => exact absurd ⟨o, q⟩ hk
      let ob : Obj := { cls := .type "list", data := .seq vs.toArray }
      refine core (fun b => if b = a then
          some (.frz ob (.lst (ns.map V.int))) else none)
        (fun b => ?_) (Or.inl (Or.inr ⟨ob, if_pos rfl⟩))
        (fun b u z => ?_) (fun b z => ?_) (fun _ => hk)
      · by_cases hb : b = a
        · exact Or.inr ⟨_, _, if_pos hb⟩
        · exact Or.inl (if_neg hb)
      · by_cases hb : b = a
        · cases (if_pos hb).symm.trans z
          subst hb
          exact ⟨ha, by rw [List.length_map]; exact hl, vs, _, rel, ha⟩
        · cases (if_neg hb).symm.trans z
      · by_cases hb : b = a
        · exact hb
        · exact absurd (if_neg hb) z
  intro H only sq ok alone notK
  have untracked : ∀ {b : Addr} {o : Obj}, s1.heap.get? b = some o →
      (∀ z, o.data ≠ .seq z 0) → H b = none := by
    intro b o e d
    cases q : H b with
    | none => rfl
    | some u =>
      have z : b = a := alone b (by rw [q]; exact nofun)
      subst z
      rw [ha] at e
      cases e
      exact absurd rfl (d _)
  have ns' : ∀ {b : Addr} {m : Str → Option Value}, s1.heap.Ns b m →
      (hidT s1.heap H).Ns b m := by
    rintro b m ⟨o, es, ep, e, d, r⟩
    refine ⟨o, es, ep, hidT_get e (untracked e fun z y => ?_), d, r⟩
    cases d.symm.trans y
  have kin' : K.In (hidT s1.heap H) := by
    intro b o e
    refine hidT_get (kin b o e) ?_
    cases q : H b with
    | none => rfl
    | some u =>
      have z : b = a := alone b (by rw [q]; exact nofun)
      subst z
      rw [notK (by rw [q]; exact nofun)] at e
      cases e
  have md : Mod K mg (hidT s1.heap H) := by
    obtain ⟨mc, h1, h2⟩ := nol
    exact ⟨kin', ns' glob, ⟨mb, ns' blt, boot⟩, ⟨mc, ns' h1, h2⟩⟩
  have env : Env0 P w K mg (hidT s1.heap H) callerA [] s1 H :=
    ⟨rfl, md, fun b o e => of_hidT e, Nat.le_of_eq (hidT_size _ _), trivial,
      fun b hb => (nomatch (show b ∈ ([] : List Addr) from hb)), ok,
      .of_eq gens⟩
  refine codeAny_mono ((F _ kin' (ns' glob)).run callerA [] s1 H ⟨[.ref a], []⟩
    [.ref a] [.ref a] _ _ room rfl env (bind s1 (.ref a)) (.cons rfl .nil)
    (hsp H only sq)) ?_
  intro r s' h
  match r, h with
  | .error e, h => exact False.elim h
  | .ok .next, h => exact False.elim h
  | .ok .brk, h => exact False.elim h
  | .ok .cont, h => exact False.elim h
  | .ok (.ret u), h =>
    obtain ⟨v, H', os, bare, un, ok', rv, q⟩ := h
    cases (show v = .bl true from q)
    cases (show u = Value.bool true from rv)
    refine ⟨rfl, OldK.of_keep fun b o e => ?_, os, bare⟩
    cases q : H b with
    | none =>
      exact un.keep b o e q
        (fun z => nomatch (show b ∈ ([] : List Addr) from z)) (by simp)
    | some u =>
      cases only b with
      | inl z => rw [q] at z; cases z
      | inr z =>
        obtain ⟨ob, xs, z⟩ := z
        have e1 := (ok b _ z).1
        have e2 := (ok' b _ (un.frzs b ob _ z)).1
        rw [e] at e1
        cases e1
        exact e2

/-- what the head leaves, from the law's promise -/
theorem walkG {l : PySem.W.OpenLaw} {n k : Nat} {q : Program} {ls : List Str}
    {XP : (Str → Option Value) → Heap → Prop} {YP : World → Heap → Prop}
    {d : DefRec} {K : Params → PySem.W.Frag} {sp : PySem.W.Frag → Sp} {x : Str}
    (hn : l.most = some n) (hn2 : n ≤ sizeLine)
    (hdf : d.params.defaults = []) (room : Room k callerA)
    (hY : ∀ (w : World) (h : Heap), YP w h → (K w.params).In h)
    (F : ∀ (w : World) (mg : Str → Option Value) (fa : Addr) (h : Heap),
      (K w.params).In h → h.Ns mainGlobals mg → mg d.name = some (.ref fa) →
      ∃ fd : FuncData,
        (∀ (s : Shared) (u : Value), BindsTo s fd ⟨[u], []⟩ [(x, u)]) ∧
        ∀ base : Heap, (K w.params).In base → base.Ns mainGlobals mg →
          FnG l.prog w (K w.params) mg base CX0 k fa fd [x]
            (sp (K w.params)))
    (hsp : ∀ (K : PySem.W.Frag) (H : Hp) (a : Addr) (ns : List Int),
      ns.length ≤ n → Only H → SqL K H a (ns.map V.int) →
      sp K [.ref a] H (fun v _ => v = .bl true) E0) :
    PySem.W.WalkO q ls XP YP l.row.toRowW d []
      (fun f vs => PySem.call f vs) := by
  refine Att.attach_call hn hdf ?_
  intro w s₀ s1 mg mb fa o pm cd doc a vs ns G Y ho hd hcd hmg hobj hi hlen hg
  have KX := hY w _ Y
  obtain ⟨fd, hb, hF⟩ := F w mg fa _ KX G.T.g hmg
  exact lawG KX G.T.g G.T.b G.T.builtins G.T.nolimit hg hobj hi
    (Nat.le_trans hlen hn2) room hF hb
    (fun H hO hS => hsp (K w.params) H a ns hlen hO hS)
end OM
namespace OM
open PySem PySem.Spec PyProof.Rows L2

/-! ### a callee, in one word -/
structure Cal (P : Program) (w : World) (K : PySem.W.Frag)
    (mg : Str → Option Value) (base : Heap) (k : Nat) (x : Str)
    (ps : List Str) (sp : Sp) : Prop where
  ex : ∃ f fd, FnOk P w K mg base CX0 k f fd ps sp ∧
    mg x = some (.ref f) ∧ PySem.W.keepIn K (.ref f) = true ∧
    Binds K fd ps []
structure CalG (P : Program) (w : World) (K : PySem.W.Frag)
    (mg : Str → Option Value) (base : Heap) (k : Nat) (x : Str)
    (ps : List Str) (sp : Sp) : Prop where
  ex : ∃ f fd, FnG P w K mg base CX0 k f fd ps sp ∧
    mg x = some (.ref f) ∧ PySem.W.keepIn K (.ref f) = true ∧
    Binds K fd ps []
section
variable {X : Cx} {k : Nat} {ps : List Str} {sp : Sp} {x : Str}
  {p pos : Pos} {e : Expr} {es : List Expr} {t : TA}
theorem pe_cal (C : Cal X.prog X.w X.K X.mg X.base k x ps sp)
    (room : Room k X.A) (ha : PA X (e :: es) t)
    (hg : Gl X x := by rfl)
    (h1 : (x == ("__debug__" : Str)) = false := by decide)
    (h2 : starEach (e :: es) X.env =
      (false, eval e X.env) :: starEach es X.env := by rfl)
    (h3 : (backTo pos (starEach es X.env)).any (·.1) = false := by rfl) :
    PE X (.Call (.Name x p) (e :: es) [] pos) (tCall sp [] E0 t) := by
  obtain ⟨f, fd, F, m, kp, b⟩ := C.ex
  exact pe_call F room hg m kp b .nil pass0 ha h1 h2 h3
theorem pe_calG (C : CalG X.prog X.w X.K X.mg X.base k x ps sp)
    (room : Room k X.A) (gd : X.A.guards = some [])
    (ha : PA X (e :: es) t)
    (hg : Gl X x := by rfl)
    (h1 : (x == ("__debug__" : Str)) = false := by decide)
    (h2 : starEach (e :: es) X.env =
      (false, eval e X.env) :: starEach es X.env := by rfl)
    (h3 : (backTo pos (starEach es X.env)).any (·.1) = false := by rfl) :
    PE X (.Call (.Name x p) (e :: es) [] pos) (tCall sp [] E0 t) := by
  obtain ⟨f, fd, F, m, kp, b⟩ := C.ex
  exact pe_callG F room gd hg m kp b .nil pass0 ha h1 h2 h3
end

/-! ### heaps: what may have changed -/
/-- all but p is as it was -/
def But (p : Addr) (H H' : Hp) : Prop :=
  ∀ q o, H q = some o → q ≠ p → H' q = some o
theorem But.refl {p : Addr} (H : Hp) : But p H H := fun _ _ h _ => h
theorem But.trans {p : Addr} {H H1 H2 : Hp} (a : But p H H1)
    (b : But p H1 H2) : But p H H2 :=
  fun q o h n => b q o (a q o h n) n
theorem But.of {p : Addr} {H H' : Hp} (a : Same H H') : But p H H' :=
  fun q o h _ => a q o h
theorem But.new {p q : Addr} {o : HO} {H H' : Hp} (a : But p H H')
    (n : H q = none) : But p H (upd H' q o) := fun b u h nb => by
  rw [upd_ne (ne_of_none h n)]
  exact a b u h nb
theorem But.at {p : Addr} {o : HO} {H H' : Hp} (a : But p H H') :
    But p H (upd H' p o) := fun b u h nb => by
  rw [upd_ne nb]
  exact a b u h nb
theorem But.same {p : Addr} {H H' : Hp} (a : But p H H')
    (n : H p = none) : Same H H' := fun q o h =>
  a q o h (ne_of_none h n)
theorem sameNew {H : Hp} {p : Addr} {o : HO} (h : H p = none) :
    Same H (upd H p o) := fun b x e => by
  rw [upd_ne (ne_of_none e h)]
  exact e
theorem Same.put {H H' : Hp} {p : Addr} {o : HO} (a : Same H H')
    (h : H p = none) : Same H (upd H' p o) := fun b x e => by
  rw [upd_ne (ne_of_none e h)]
  exact a b x e
theorem But.free {p q : Addr} {H H' : Hp} (a : But p H H') (n : q ≠ p)
    (h : H' q = none) : H q = none := by
  cases e : H q with
  | none => rfl
  | some o => rw [a q o e n] at h; cases h
theorem But.seq {K : PySem.W.Frag} {p a : Addr} {H H' : Hp} {xs : List V}
    (b : But p H H') (h : SqL K H a xs) (n : a ≠ p) : SqL K H' a xs := by
  rcases h with (h | ⟨o, h⟩) | h
  · exact .inl (.inl (b _ _ h n))
  · exact .inl (.inr ⟨o, b _ _ h n⟩)
  · exact .inr h

/-! ### the built-ins' names -/
structure Bl (mg : Str → Option Value) : Prop where
  len : mg "len" = none
  divmod : mg "divmod" = none
  abs : mg "abs" = none
  max : mg "max" = none
  min : mg "min" = none
  range : mg "range" = none
  enum : mg "enumerate" = none
  isi : mg "isinstance" = none
  str : mg "str" = none
  list : mg "list" = none
  set : mg "set" = none
  all : mg "all" = none
  repr : mg "repr" = none
theorem bt_divmod : bootBuiltins "divmod" = some (.builtin "divmod") := by
  decide +kernel
theorem bt_abs : bootBuiltins "abs" = some (.builtin "abs") := by
  decide +kernel
theorem bt_max : bootBuiltins "max" = some (.builtin "max") := by
  decide +kernel
theorem bt_min : bootBuiltins "min" = some (.builtin "min") := by
  decide +kernel
theorem bt_isi : bootBuiltins "isinstance" = some (.builtin "isinstance") := by
  decide +kernel
theorem bt_str : bootBuiltins "str" = some (.type "str") := by
  decide +kernel
theorem bt_list : bootBuiltins "list" = some (.type "list") := by
  decide +kernel
theorem bt_set : bootBuiltins "set" = some (.type "set") := by
  decide +kernel
theorem bt_all : bootBuiltins "all" = some (.builtin "all") := by
  decide +kernel
theorem bt_repr : bootBuiltins "repr" = some (.builtin "repr") := by
  decide +kernel

/-! ### the drawing state -/
def Rng (H : Hp) (p : Addr) : Prop :=
  ∃ a b : Int, H p = some (.lst [.int a, .int b]) ∧ 0 ≤ a ∧ 0 ≤ b ∧
    b < 2147483647
theorem Rng.but {H H' : Hp} {p q : Addr} (r : Rng H p) (b : But q H H')
    (n : p ≠ q) : Rng H' p := by
  obtain ⟨x, y, e, z⟩ := r
  exact ⟨x, y, b _ _ e n, z⟩
theorem Rng.same {H H' : Hp} {p : Addr} (r : Rng H p) (b : Same H H') :
    Rng H' p := by
  obtain ⟨x, y, e, z⟩ := r
  exact ⟨x, y, b _ _ e, z⟩
theorem Rng.ne {H : Hp} {p q : Addr} (r : Rng H p) (n : H q = none) :
    p ≠ q := by
  obtain ⟨x, y, e, z⟩ := r
  exact ne_of_none e n

/-- a draw below m: some number, the state moved on -/
def spDraw : Sp := fun vs H Q _ => ∃ (p : Addr) (m : Int),
  vs = [.ref p, .int m] ∧ Rng H p ∧ 0 < m ∧ m < 1000000 ∧
  ∀ (d : Int) (H' : Hp), 0 ≤ d → d < m → Rng H' p → But p H H' →
    Q (.int d) H'
/-- a new drawing state -/
def spRng (K : PySem.W.Frag) : Sp := fun vs H Q _ =>
  ∃ (a : Addr) (ns : List Int) (k : Nat), vs = [.ref a, .int k] ∧
  SqL K H a (ns.map V.int) ∧ k ≤ 1000 ∧
  ∀ (p : Addr) (H' : Hp), H p = none → Rng H' p → Same H H' →
    Q (.ref p) H'
end OM
/-! names as lists of codes -/
namespace OM
open PySem L2

/-- one to eight letters from a to z -/
structure Nm (l : List Nat) : Prop where
  lo : 1 ≤ l.length
  hi : l.length ≤ 8
  az : ∀ c ∈ l, 97 ≤ c ∧ c ≤ 122
abbrev vS (l : List Nat) : V := .str (SX.S l)
theorem vS_inj {a b : List Nat} (h : vS a = vS b) : a = b :=
  SX.S_inj (V.str.inj h)

theorem nodup_le {α : Type} [BEq α] [LawfulBEq α] : ∀ {l m : List α},
    l.Nodup → (∀ x ∈ l, x ∈ m) → l.length ≤ m.length
  | [], _, _, _ => Nat.zero_le _
  | x :: l, m, nd, h => by
    have hx : x ∈ m := h x List.mem_cons_self
    have nd' := List.nodup_cons.mp nd
    have r : l.length ≤ (m.erase x).length := by
      refine nodup_le nd'.2 fun y hy => ?_
      have ne : y ≠ x := fun e => nd'.1 (e ▸ hy)
      exact (List.mem_erase_of_ne ne).mpr (h y (List.mem_cons_of_mem _ hy))
    rw [List.length_erase_of_mem hx] at r
    have : 0 < m.length := List.length_pos_of_mem hx
    rw [List.length_cons]
    omega

/-- the k-th name to fall back upon -/
def frs6 (l : List Nat) (k : Nat) : List Nat :=
  l.take 6 ++ [97 + k / 26, 97 + k % 26]
theorem frs6_inj {l : List Nat} {j k : Nat} (h : frs6 l j = frs6 l k) :
    j = k := by
  have e := List.append_cancel_left h
  injection e with e1 e2
  injection e2 with e2 _
  omega
theorem Nm.frs {l : List Nat} (n : Nm l) {k : Nat} (hk : k < 676) :
    Nm (frs6 l k) := by
  unfold frs6
  refine ⟨?_, ?_, ?_⟩
  · simp
  · rw [List.length_append, List.length_take]
    show min 6 l.length + 2 ≤ 8
    omega
  · intro c hc
    rcases List.mem_append.mp hc with h | h
    · exact n.az c (List.mem_of_mem_take h)
    · rcases List.mem_cons.mp h with h | h
      · omega
      · rcases List.mem_cons.mp h with h | h
        · omega
        · cases h
def fresh (l : List Nat) : List (List Nat) :=
  l :: (List.range 676).map (frs6 l)
theorem fresh_nm {l : List Nat} (n : Nm l) : ∀ x ∈ fresh l, Nm x := by
  intro x hx
  rcases List.mem_cons.mp hx with h | h
  · rw [h]; exact n
  · obtain ⟨k, hk, rfl⟩ := List.mem_map.mp h
    exact n.frs (List.mem_range.mp hk)
theorem nodup_map {α β : Type} {f : α → β} (hf : ∀ a b, f a = f b → a = b) :
    ∀ {l : List α}, l.Nodup → (l.map f).Nodup
  | [], _ => List.nodup_nil
  | x :: l, h => by
    have h' := List.nodup_cons.mp h
    rw [List.map_cons]
    refine List.nodup_cons.mpr ⟨fun m => ?_, nodup_map hf h'.2⟩
    obtain ⟨y, hy, e⟩ := List.mem_map.mp m
    exact h'.1 (hf _ _ e ▸ hy)
theorem fresh_some {l : List Nat} {us : List (List Nat)}
    (h : us.length < 676) :
    ∃ x r, (fresh l).filter (fun y => decide (y ∉ us)) = x :: r := by
  cases e : (fresh l).filter (fun y => decide (y ∉ us)) with
  | cons x r => exact ⟨x, r, rfl⟩
  | nil =>
    exfalso
    have all : ∀ x ∈ (List.range 676).map (frs6 l), x ∈ us := by
      intro x hx
      apply Classical.byContradiction
      intro nx
      have : x ∈ (fresh l).filter (fun y => decide (y ∉ us)) :=
        List.mem_filter.mpr ⟨List.mem_cons_of_mem _ hx, decide_eq_true nx⟩
      rw [e] at this
      cases this
    have le := nodup_le (nodup_map (fun a b => frs6_inj (l := l))
      List.nodup_range) all
    rw [List.length_map, List.length_range] at le
    omega
theorem inV_S (x : List Nat) : ∀ us : List (List Nat),
    inV (vS x) (us.map vS) = decide (x ∈ us)
  | [] => by simp [inV]
  | u :: us => by
    have ih := inV_S x us
    unfold inV at ih ⊢
    rw [List.map_cons, List.any_cons, ih]
    by_cases e : u = x
    · subst e
      simp [eqV]
    · have ne : ¬ x = u := fun z => e z.symm
      have : eqV (vS u) (vS x) = false := by
        unfold eqV
        simp
        intro z
        exact e z
      rw [this]
      simp [ne]
theorem flat_S (us : List (List Nat)) : (us.map vS).all flatV = true := by
  rw [List.all_eq_true]
  intro v hv
  obtain ⟨l, _, rfl⟩ := List.mem_map.mp hv
  rfl
end OM
namespace OM
open PySem PySem.Spec PyProof.Rows L2
/-- an expression, with a word behind it -/
def tMid (t : TE) : TE := fun σ H Q =>
  ∃ M : V → Hp → Prop, t σ H M ∧ ∀ v H', M v H' → Q v H'
theorem pe_mid {X : Cx} {e : Expr} {t : TE} (h : PE X e t) :
    PE X e (tMid t) := by
  constructor
  intro pins s σ H Q I q
  obtain ⟨M, m, k⟩ := q
  refine thn (h.run pins s σ H M I m) ?_
  rintro u s1 ⟨v, H1, I1, r, z⟩
  exact ⟨v, H1, I1, r, k v H1 z⟩
def tMidT (t : TT) : TT := fun σ H Q =>
  ∃ M : Bool → Hp → Prop, t σ H M ∧ ∀ v H', M v H' → Q v H'
theorem pt_mid {X : Cx} {e : Expr} {t : TT} (h : PT X e t) :
    PT X e (tMidT t) := by
  constructor
  intro pins s σ H Q I q
  obtain ⟨M, m, k⟩ := q
  refine thn (h.run pins s σ H M I m) ?_
  rintro u s1 ⟨H1, I1, z⟩
  exact ⟨H1, I1, k u H1 z⟩
theorem But.put {p t : Addr} {o : HO} {H H1 : Hp} (a : But p H H1)
    (n : H1 t = none) (ne : t ≠ p) : But p H (upd H1 t o) :=
  a.new (a.free ne n)
/-- len of a list or tuple, the written part a letter -/
def rLenK (K : PySem.W.Frag) : List V → Hp → VK → Prop := fun xs H Q =>
  ∃ p ys, xs = [.ref p] ∧ (SqL K H p ys ∨ SqT K H p ys) ∧
    Q (.int ys.length) H
theorem call_lenK {X : Cx} : CallR X (.builtin "len") (rLenK X.K) :=
  call_len_seq
theorem sz {n : Nat} (h : n ≤ 100000) : n ≤ sizeLine :=
  Nat.le_trans h (by decide)
theorem sz' {n : Nat} (h : n < 100000) : n < sizeLine :=
  Nat.lt_of_lt_of_le h (by decide)
end OM
namespace OM
open PySem PySem.Spec PyProof.Rows L2
section
variable {X : Cx} {n : Nat} {f C : Addr} {fd : FuncData} {ps : List Str}
  {sp : Sp}
/-- a def runs at another depth of the same frame -/
theorem runAt {A : Around} {pins : List (Addr × Obj)} {σ : L2.St} {H : Hp}
    {s : Shared} {Q : VK} {us : List Value} {vs : List V}
    (F : FnG X.prog X.w X.K X.mg X.base CX0 n f fd ps sp)
    (room : Room n A) (gd : A.guards = some []) (fr : A.frames = X.A.frames)
    (hb : Binds X.K fd ps []) (I : Inv X pins σ H s) (r : Vals vs us)
    (h : sp vs H Q E0) :
    wpAny (model X.prog X.w) A (call (.ref f) us) (EP X pins σ Q) X.xe s := by
  have hl : us.length = ps.length := r.length.symm.trans (F.len _ _ _ _ h)
  have e0 : Env0 X.prog X.w X.K X.mg X.base A X.stack s H := by
    have e := I.env0
    exact ⟨by rw [fr]; exact e.frames, e.mod, e.bs, e.bsz, e.funs, e.frf,
      e.hok, e.bare⟩
  have bd : BindsTo s fd ⟨us, []⟩ (ps.zip us) := by
    have := hb s us I.kIn (by rw [List.append_nil]; exact hl)
    rw [List.append_nil] at this
    exact this
  refine wpAny_call (codeAny_mono (F.run A X.stack s H ⟨us, []⟩ us vs Q E0
    room gd e0 bd r h) ?_)
  intro r s' hq
  match r, hq with
  | .error e, hq => exact False.elim hq
  | .ok (.ret u), hq => exact I.after hq
  | .ok .next, hq => exact False.elim hq
  | .ok .brk, hq => exact False.elim hq
  | .ok .cont, hq => exact False.elim hq
/-- the same of a def that asks nothing of what is shown -/
theorem runAt0 {A : Around} {pins : List (Addr × Obj)} {σ : L2.St} {H : Hp}
    {s : Shared} {Q : VK} {us : List Value} {vs : List V}
    (F : FnOk X.prog X.w X.K X.mg X.base CX0 n f fd ps sp)
    (room : Room n A) (fr : A.frames = X.A.frames)
    (hb : Binds X.K fd ps []) (I : Inv X pins σ H s) (r : Vals vs us)
    (h : sp vs H Q E0) :
    wpAny (model X.prog X.w) A (call (.ref f) us) (EP X pins σ Q) X.xe s := by
  have hl : us.length = ps.length := r.length.symm.trans (F.len _ _ _ _ h)
  have e0 : Env0 X.prog X.w X.K X.mg X.base A X.stack s H := by
    have e := I.env0
    exact ⟨by rw [fr]; exact e.frames, e.mod, e.bs, e.bsz, e.funs, e.frf,
      e.hok, e.bare⟩
  have bd : BindsTo s fd ⟨us, []⟩ (ps.zip us) := by
    have := hb s us I.kIn (by rw [List.append_nil]; exact hl)
    rw [List.append_nil] at this
    exact this
  refine wpAny_call (codeAny_mono (F.run A X.stack s H ⟨us, []⟩ us vs Q E0
    room e0 bd r h) ?_)
  intro r s' hq
  match r, hq with
  | .error e, hq => exact False.elim hq
  | .ok (.ret u), hq => exact I.after hq
  | .ok .next, hq => exact False.elim hq
  | .ok .brk, hq => exact False.elim hq
  | .ok .cont, hq => exact False.elim hq
/-- an own method that the interpreter calls by itself -/
structure Spec1 (K : PySem.W.Frag) (C : Addr) (m : Str) (f : Addr)
    (fd : FuncData) (ps : List Str) : Prop where
  at_ : PySem.W.findIn K (.ref C) m = some (some (.ref f))
  fn : PySem.W.isFn K (.ref f) = true
  bd : Binds K fd ps []
/-- x == y, both of the class at C -/
def rEqOwn (C : Addr) (sp : Sp) : R2 := fun x y H Q =>
  ∃ a b dx dy fs gs, x = .ref a ∧ y = .ref b ∧
    H a = some (.ins C dx fs) ∧ H b = some (.ins C dy gs) ∧
    sp [.ref a, .ref b] H (fun v H' => ∃ r, v = .bl r ∧ Q (.bl r) H') E0
theorem op_eqOwn (S : Spec1 X.K C "__eq__" f fd ps)
    (F : FnOk X.prog X.w X.K X.mg X.base CX0 n f fd ps sp)
    (room : Room n X.A) : OpR X (compareOp .Eq) (rEqOwn C sp) := by
  intro pins s σ H x y v u Q I rx ry h
  obtain ⟨a, b, dx, dy, fs, gs, rfl, rfl, ha, hb, q⟩ := h
  cases rx
  cases ry
  obtain ⟨mA, J, _⟩ := ins_get I.hok ha
  obtain ⟨mB, J', _⟩ := ins_get I.hok hb
  obtain ⟨od, J, _⟩ := J.look
  obtain ⟨od', J', _⟩ := J'.look
  obtain ⟨m, hF⟩ := I.fr
  show wpAny _ X.A (richCompare .Eq (.ref a) (.ref b)) _ _ s
  refine PySem.W.cmp_K (op := .Eq) (tb := .ref C) room.units0 hF
    I.ok.mod.kin J J'.type (by simp [PySem.W.notFirst]) S.at_ S.fn ?_
  refine wpAny_mono (runAt0 F room rfl S.bd I (us := [.ref a, .ref b])
    (vs := [.ref a, .ref b])
    (.cons rfl (.cons rfl .nil)) q) ?_ (fun _ _ z => z)
  rintro z s' ⟨v, H', I', rv, r, rfl, q'⟩
  cases rv
  exact ⟨.bl r, H', I', rfl, q'⟩
/-- len(x) of the class at C -/
def rLenOwn (C : Addr) (sp : Sp) : List V → Hp → VK → Prop := fun xs H Q =>
  ∃ a dx fs, xs = [.ref a] ∧ H a = some (.ins C dx fs) ∧
    sp [.ref a] H (fun v H' => ∃ n : Nat, v = .int n ∧ n < 2 ^ 60 ∧
      Q (.int n) H') E0
theorem call_lenOwn (S : Spec1 X.K C "__len__" f fd ps)
    (F : FnOk X.prog X.w X.K X.mg X.base CX0 n f fd ps sp)
    (room : Room (n + 1) X.A) :
    CallR X (.builtin "len") (rLenOwn C sp) := by
  intro pins s σ H xs us Q I r h
  obtain ⟨a, dx, fs, rfl, ha, q⟩ := h
  cases r with
  | cons rv rn =>
    cases rn
    cases rv
    obtain ⟨mA, J, _⟩ := ins_get I.hok ha
    obtain ⟨od, J, _⟩ := J.look
    obtain ⟨m, hF⟩ := I.fr
    refine PySem.W.len_K hF I.ok.mod.kin J S.at_ S.fn ?_
    refine wpAny_mono (runAt0 (A := X.A.in1) F room.in1 rfl S.bd I
      (us := [.ref a]) (vs := [.ref a]) (.cons rfl .nil) q) ?_ (fun _ _ z => z)
    rintro z s' ⟨v, H', I', rv, k, rfl, hk, q'⟩
    obtain ⟨t, rfl⟩ := rv
    exact ⟨⟨by omega, by omega⟩, .int k, H', I'.tok _, ⟨_, rfl⟩, q'⟩
/-- repr(x) of the class at C -/
def rReprOwn (C : Addr) (sp : Sp) : List V → Hp → VK → Prop := fun xs H Q =>
  ∃ a dx fs, xs = [.ref a] ∧ H a = some (.ins C dx fs) ∧
    sp [.ref a] H (fun v H' => ∃ x : Str, v = .str x ∧ Q (.str x) H') E0
theorem call_reprOwn (S : Spec1 X.K C "__repr__" f fd ps)
    (F : FnG X.prog X.w X.K X.mg X.base CX0 n f fd ps sp)
    (room : Room (n + 1) X.A) (gd : X.A.guards = some []) :
    CallR X (.builtin "repr") (rReprOwn C sp) := by
  intro pins s σ H xs us Q I r h
  obtain ⟨a, dx, fs, rfl, ha, q⟩ := h
  cases r with
  | cons rv rn =>
    cases rn
    cases rv
    obtain ⟨mA, J, _⟩ := ins_get I.hok ha
    obtain ⟨od, J, _⟩ := J.look
    obtain ⟨m, hF⟩ := I.fr
    refine PySem.W.repr_K (by have := room.units; show X.A.units + 1 < _; omega) hF I.ok.mod.kin J S.at_ S.fn ?_
    refine wpAny_mono (runAt (A := X.A.in1) F room.in1 gd rfl S.bd I
      (us := [.ref a]) (vs := [.ref a]) (.cons rfl .nil) q) ?_ (fun _ _ z => z)
    rintro z s' ⟨v, H', I', rv, x, rfl, q'⟩
    obtain ⟨t, rfl⟩ := rv
    exact ⟨.str x, H', I', ⟨_, rfl⟩, q'⟩
/-- {x!r} of data -/
def tFmtD (K : PySem.W.Frag) (te : TE) : TE := fun σ H Q =>
  te σ H fun v H1 => ∃ a d, v = .ref a ∧ Dp K H1 v d ∧ d.showable = true ∧
    d.depth ≤ 60 ∧ d.shown.length ≤ sizeLine ∧ Q (.str d.shown) H1
theorem pe_fmtD {e : Expr} {te : TE} {pos : Pos} {k : Nat}
    (room : Room k X.A) (gd : X.A.guards = some []) (he : PE X e te) :
    PE X (.FormattedValue e 114 none pos) (tFmtD X.K te) := by
  constructor
  intro pins s σ H Q I h
  refine wpAny_FormattedValue_repr (thn (he.run pins s σ H _ I h) ?_)
  rintro v s1 ⟨x, H1, I1, r1, a, d, rfl, hd, sh, dp, sz, q⟩
  cases r1
  obtain ⟨as, rd⟩ := Dp.reads I1 d _ _ hd rfl
  have un := room.units
  refine pyReprObj_of_reads rd sh (PyData.noDict_hsm (Dp.noDict _ hd)) gd
    (by omega) (fun _ _ e => e) (fun h' u tk hk => ?_) sz
  exact wpAny_formatField_str ⟨.str _, H1, I1.kept hk, ⟨_, rfl⟩, q⟩
    ⟨.str _, H1, (I1.kept (t' := tk) hk).tok _, ⟨_, rfl⟩, q⟩ sz
end
end OM
namespace OM
open PySem PySem.Spec PyProof.Rows L2
abbrev dN (ls : List (List Nat)) : List PyData := ls.map fun l => .str (SX.S l)
theorem dpAll_N {K : PySem.W.Frag} {H : Hp} : ∀ ls : List (List Nat),
    DpAll K H (ls.map vS) (dN ls)
  | [] => .nil
  | l :: r => .cons (.str _) (dpAll_N r)
theorem dp_N {K : PySem.W.Frag} {H : Hp} {a : Addr} {ls : List (List Nat)}
    (h : SqL K H a (ls.map vS)) : Dp K H (.ref a) (.list (dN ls)) :=
  .lst h (dpAll_N ls)
theorem eqv_N : ∀ ls ms : List (List Nat),
    PyData.eqvAll (dN ls) (dN ms) = decide (ls = ms)
  | [], [] => by simp [PyData.eqvAll]
  | [], m :: ms => by simp [PyData.eqvAll]
  | l :: ls, [] => by simp [PyData.eqvAll]
  | l :: ls, m :: ms => by
    have ih := eqv_N ls ms
    show (PyData.eqv (.str (SX.S l)) (.str (SX.S m)) &&
      PyData.eqvAll (dN ls) (dN ms)) = _
    rw [ih]
    unfold PyData.eqv
    rw [SX.S_beq_eq]
    by_cases e : l = m
    · subst e
      simp
    · have : ¬ (l :: ls = m :: ms) := fun z => e (List.cons.inj z).1
      rw [decide_eq_false e, decide_eq_false this]
      rfl
theorem eqv_L (ls ms : List (List Nat)) :
    PyData.eqv (.list (dN ls)) (.list (dN ms)) = decide (ls = ms) := by
  rw [show PyData.eqv (.list (dN ls)) (.list (dN ms)) =
    PyData.eqvAll (dN ls) (dN ms) by simp only [PyData.eqv]]
  exact eqv_N ls ms
/-- texts of Unicode's codes -/
def Uni (ls : List (List Nat)) : Prop := ∀ l ∈ ls, ∀ c ∈ l, c < 1114112
theorem lay_N : ∀ ls : List (List Nat), Uni ls →
    PyData.canLayAll0 (dN ls) = true
  | [], _ => by simp [PyData.canLayAll0]
  | l :: ls, h => by
    have ih := lay_N ls fun x hx => h x (List.mem_cons_of_mem _ hx)
    have ok : PyData.strOk (SX.S l) = true := by
      unfold PyData.strOk
      rw [Array.all_eq_true]
      intro i hi
      have := h l List.mem_cons_self l.toArray[i] (by simp)
      exact decide_eq_true this
    show PyData.canLayAll0 (.str (SX.S l) :: dN ls) = true
    simp only [PyData.canLayAll0, PyData.canLay0, ih, ok, Bool.and_self]
theorem depth_N : ∀ ls : List (List Nat), PyData.depthAll (dN ls) ≤ 1
  | [] => by simp [PyData.depthAll]
  | l :: ls => by
    have ih := depth_N ls
    show PyData.depthAll (.str (SX.S l) :: dN ls) ≤ 1
    simp only [PyData.depthAll, PyData.depth]
    omega
theorem depth_L (ls : List (List Nat)) : (PyData.list (dN ls)).depth ≤ 2 := by
  simp only [PyData.depth]
  have := depth_N ls
  omega
theorem shaped_L {ls : List (List Nat)} (h : Uni ls) :
    SeqAt.shaped (.list (dN ls)) = true := by
  unfold SeqAt.shaped
  rw [show PyData.canLay0 (.list (dN ls)) = PyData.canLayAll0 (dN ls) by
    simp only [PyData.canLay0], lay_N ls h]
  have := depth_L ls
  exact decide_eq_true (by omega)
theorem showable_N : ∀ ls : List (List Nat), PyData.showableAll (dN ls) = true
  | [] => by simp [PyData.showableAll]
  | l :: ls => by
    have ih := showable_N ls
    show PyData.showableAll (.str (SX.S l) :: dN ls) = true
    simp only [PyData.showableAll, PyData.showable, ih, Bool.and_self]
theorem showable_L (ls : List (List Nat)) :
    (PyData.list (dN ls)).showable = true := by
  simp only [PyData.showable]
  exact showable_N ls
/-- short lists of short texts are shown shortly -/
theorem piled_N : ∀ (ls : List (List Nat)) (m : Nat),
    (∀ l ∈ ls, l.length ≤ m ∧ ∀ c ∈ l, c < 1114112) →
    piled (PyData.shownAll (dN ls)) ≤ ls.length * (10 * m + 4)
  | [], _, _ => by
    show piled (PyData.shownAll []) ≤ _
    simp only [PyData.shownAll]
    exact Nat.zero_le _
  | l :: ls, m, h => by
    have ih := piled_N ls m fun x hx => h x (List.mem_cons_of_mem _ hx)
    obtain ⟨h1, h2⟩ := h l List.mem_cons_self
    have h3 := StrLaws.reprText_len (SX.S l) (fun c hc => Nat.lt_of_lt_of_le
      (h2 c hc) (by decide))
    have h4 : (SX.S l).length = l.length := SX.S_len l
    have h5 : (reprText (SX.S l)).length ≤ 10 * m + 2 := by
      refine Nat.le_trans h3 ?_
      rw [h4]
      omega
    show piled (PyData.shownAll (.str (SX.S l) :: dN ls)) ≤ _
    simp only [PyData.shownAll, PyData.shown]
    rw [piled_cons, List.length_cons, Nat.add_mul]
    omega
theorem shown_L {ls : List (List Nat)} {m : Nat} (hn : ls.length ≤ 1000)
    (hm : m ≤ 1000) (h : ∀ l ∈ ls, l.length ≤ m ∧ ∀ c ∈ l, c < 1114112) :
    (PyData.list (dN ls)).shown.length ≤ sizeLine := by
  have p := piled_N ls m h
  have e : (PyData.list (dN ls)).shown =
      listText (PyData.shownAll (dN ls)) := by simp only [PyData.shown]
  rw [e]
  have q := listText_len_le (PyData.shownAll (dN ls))
  have r : ((PyData.shownAll (dN ls)).map (·.length)).sum +
      2 * (PyData.shownAll (dN ls)).length =
      piled (PyData.shownAll (dN ls)) := by
    generalize PyData.shownAll (dN ls) = ts
    induction ts with
    | nil => rfl
    | cons t ts ih =>
      rw [piled_cons, List.map_cons, List.sum_cons, List.length_cons]
      omega
  have s : ls.length * (10 * m + 4) ≤ 1000 * 10004 :=
    Nat.mul_le_mul hn (by omega)
  refine Nat.le_trans (show _ ≤ 10004003 by omega) (by decide)
end OM
/-! two neighbours exchanged -/
namespace OM
def exch {α : Type} : List α → Nat → List α
  | x :: y :: r, 0 => y :: x :: r
  | x :: r, i + 1 => x :: exch r i
  | l, _ => l
theorem exch_succ {α : Type} (x : α) (l : List α) (i : Nat) :
    exch (x :: l) (i + 1) = x :: exch l i := by cases l <;> rfl
theorem exch_map {α β : Type} (f : α → β) : ∀ (xs : List α) (i : Nat),
    exch (xs.map f) i = (exch xs i).map f
  | [], i => by cases i <;> rfl
  | [x], 0 => rfl
  | [x], i + 1 => by
    show f x :: exch [] i = (x :: exch [] i).map f
    rw [List.map_cons, ← exch_map f [] i]
    rfl
  | x :: y :: r, 0 => rfl
  | x :: y :: r, i + 1 => by
    show f x :: exch ((y :: r).map f) i = (x :: exch (y :: r) i).map f
    rw [exch_map f (y :: r) i, List.map_cons]
theorem exch_perm {α : Type} : ∀ (xs : List α) (i : Nat), (exch xs i).Perm xs
  | [], i => by cases i <;> exact List.Perm.refl _
  | [x], 0 => List.Perm.refl _
  | [x], i + 1 => (exch_perm [] i).cons x
  | x :: y :: r, 0 => List.Perm.swap x y r
  | x :: y :: r, i + 1 => (exch_perm (y :: r) i).cons x
theorem exch_len {α : Type} (xs : List α) (i : Nat) :
    (exch xs i).length = xs.length := (exch_perm xs i).length_eq
theorem exch_exch {α : Type} : ∀ (xs : List α) (i : Nat),
    exch (exch xs i) i = xs
  | [], i => by cases i <;> rfl
  | [x], 0 => rfl
  | [x], i + 1 => by
    show x :: exch (exch [] i) i = [x]
    rw [exch_exch [] i]
  | x :: y :: r, 0 => rfl
  | x :: y :: r, i + 1 => by
    rw [exch_succ, exch_succ, exch_exch (y :: r) i]
theorem exch_eq {α : Type} : ∀ {xs : List α} {i : Nat} (h : i + 1 < xs.length),
    exch xs i = xs.take i ++ [xs[i + 1], xs[i]] ++ xs.drop (i + 2)
  | [], i, h => absurd h (by simp)
  | [x], i, h => absurd h (by simp)
  | x :: y :: r, 0, h => rfl
  | x :: y :: r, i + 1, h => by
    have ih := exch_eq (xs := y :: r) (i := i) (by simpa using h)
    show x :: exch (y :: r) i = _
    rw [ih]
    rfl
theorem exch_getD {α : Type} (d : α) : ∀ {xs : List α} {i : Nat}
    (h : i + 1 < xs.length), (exch xs i).getD i d = xs.getD (i + 1) d ∧
      (exch xs i).getD (i + 1) d = xs.getD i d
  | [], i, h => absurd h (by simp)
  | [x], i, h => absurd h (by simp)
  | x :: y :: r, 0, h => ⟨rfl, rfl⟩
  | x :: y :: r, i + 1, h => by
    have ih := exch_getD d (xs := y :: r) (i := i) (by simpa using h)
    show (x :: exch (y :: r) i).getD (i + 1) d = _ ∧
      (x :: exch (y :: r) i).getD (i + 1 + 1) d = _
    rw [List.getD_cons_succ, List.getD_cons_succ, List.getD_cons_succ,
      List.getD_cons_succ]
    exact ih
theorem getD_map {α β : Type} (f : α → β) {xs : List α} {i : Nat} (d : α)
    (h : i < xs.length) : (xs.map f)[i]? = some (f (xs.getD i d)) := by
  rw [List.getElem?_map, List.getElem?_eq_getElem h,
    List.getD_eq_getElem?_getD, List.getElem?_eq_getElem h]
  rfl
theorem getD_mem {α : Type} {xs : List α} {i : Nat} (d : α)
    (h : i < xs.length) : xs.getD i d ∈ xs := by
  rw [List.getD_eq_getElem?_getD, List.getElem?_eq_getElem h]
  exact List.getElem_mem h
/-- does a swap there go outward -/
def outB (ls os : List (List Nat)) (i : Nat) : Bool :=
  decide (ls.idxOf (os.getD i []) < ls.idxOf (os.getD (i + 1) []))
theorem exch_get {α : Type} : ∀ {xs : List α} {i : Nat}
    (h : i + 1 < xs.length) (j : Nat), (exch xs i)[j]? =
      if j = i then xs[i + 1]? else if j = i + 1 then xs[i]? else xs[j]?
  | [], i, h, _ => absurd h (by simp)
  | [x], i, h, _ => absurd h (by simp)
  | x :: y :: r, 0, h, 0 => rfl
  | x :: y :: r, 0, h, 1 => rfl
  | x :: y :: r, 0, h, j + 2 => by
    rw [if_neg (by omega), if_neg (by omega)]
    rfl
  | x :: y :: r, i + 1, h, 0 => by
    rw [exch_succ, if_neg (by omega), if_neg (by omega)]
    rfl
  | x :: y :: r, i + 1, h, j + 1 => by
    have ih := exch_get (xs := y :: r) (i := i) (by simpa using h) j
    rw [exch_succ, List.getElem?_cons_succ, ih, List.getElem?_cons_succ,
      List.getElem?_cons_succ]
    by_cases e : j = i
    · subst e
      rw [if_pos rfl, if_pos rfl]
      rfl
    · by_cases e2 : j = i + 1
      · subst e2
        rw [if_neg e, if_pos rfl, if_neg (by omega), if_pos rfl]
        rfl
      · rw [if_neg e, if_neg e2, if_neg (by omega), if_neg (by omega)]
        rfl
end OM
/-! words of swaps: which pairs they invert, and what a swap back cancels -/
namespace OM
abbrev Nme := List Nat
theorem m_idx {l : List Nme} {i : Nat} {x : Nme} (nd : l.Nodup)
    (h : l[i]? = some x) : l.idxOf x = i := by
  have hm := List.mem_of_getElem? h
  have hl := List.idxOf_lt_length_of_mem hm
  obtain ⟨hi, e⟩ := List.getElem?_eq_some_iff.mp h
  have e2 := List.getElem_idxOf hl
  exact (List.getElem_inj nd).mp (e2.trans e.symm)
theorem m_get {l : List Nme} {x : Nme} (h : x ∈ l) :
    l[l.idxOf x]? = some x := by
  have hl := List.idxOf_lt_length_of_mem h
  rw [List.getElem?_eq_getElem hl, List.getElem_idxOf hl]
theorem m_inj {l : List Nme} {x y : Nme} (hx : x ∈ l) (hy : y ∈ l)
    (h : l.idxOf x = l.idxOf y) : x = y := by
  have a := m_get hx
  rw [h, m_get hy] at a
  exact (Option.some.inj a).symm
theorem m_getD {l : List Nme} {i : Nat} (h : i < l.length) :
    l[i]? = some (l.getD i []) := by
  rw [List.getD_eq_getElem?_getD, List.getElem?_eq_getElem h]
  rfl
/-- where the items stand behind a swap -/
theorem idx_exch {l : List Nme} {i : Nat} (nd : l.Nodup)
    (h : i + 1 < l.length) {x : Nme} (hx : x ∈ l) :
    (exch l i).idxOf x = if x = l.getD i [] then i + 1
      else if x = l.getD (i + 1) [] then i else l.idxOf x := by
  have nd' : (exch l i).Nodup := (exch_perm l i).nodup_iff.mpr nd
  have g0 := m_getD (show i < l.length by omega)
  have g1 := m_getD h
  refine m_idx nd' ?_
  rw [exch_get h]
  by_cases e0 : x = l.getD i []
  · rw [if_pos e0, if_neg (by omega), if_pos rfl, g0, e0]
  · rw [if_neg e0]
    by_cases e1 : x = l.getD (i + 1) []
    · rw [if_pos e1, if_pos rfl, g1, e1]
    · rw [if_neg e1]
      have gx := m_get hx
      rw [if_neg fun z => e0 ?_, if_neg fun z => e1 ?_, gx]
      · rw [z, g1] at gx
        exact (Option.some.inj gx).symm
      · rw [z, g0] at gx
        exact (Option.some.inj gx).symm
/-- a pair of the base that stands the other way round in os -/
def Iv (ls os : List Nme) (p : Nme × Nme) : Prop :=
  p.1 ∈ ls ∧ p.2 ∈ ls ∧ ls.idxOf p.1 < ls.idxOf p.2 ∧
    os.idxOf p.2 < os.idxOf p.1
/-- T lists the inverted pairs of os -/
structure Rep (ls os : List Nme) (T : List (Nme × Nme)) : Prop where
  nd : T.Nodup
  mem : ∀ p, p ∈ T ↔ Iv ls os p
theorem Rep.len {ls os : List Nme} {T U : List (Nme × Nme)} (a : Rep ls os T)
    (b : Rep ls os U) : T.length = U.length := by
  have h : T.Perm U := (List.perm_ext_iff_of_nodup a.nd b.nd).mpr fun p =>
    (a.mem p).trans (b.mem p).symm
  exact h.length_eq
/-- the two neighbours there, the smaller position first -/
def nbr (os : List Nme) (i : Nat) : Nme × Nme :=
  (os.getD i [], os.getD (i + 1) [])
structure Of (ls os : List Nme) : Prop where
  nd : ls.Nodup
  pm : os.Perm ls
theorem Of.ndo {ls os : List Nme} (o : Of ls os) : os.Nodup :=
  o.pm.nodup_iff.mpr o.nd
theorem Of.exch {ls os : List Nme} (o : Of ls os) (i : Nat) :
    Of ls (exch os i) := ⟨o.nd, (exch_perm os i).trans o.pm⟩
section
variable {ls os : List Nme} {i : Nat}
theorem Of.ne (o : Of ls os) (h : i + 1 < os.length) :
    os.getD i [] ≠ os.getD (i + 1) [] := fun e => by
  have a := m_idx o.ndo (m_getD (show i < os.length by omega))
  have b := m_idx o.ndo (m_getD h)
  rw [e] at a
  omega
theorem Of.m0 (o : Of ls os) (h : i + 1 < os.length) : os.getD i [] ∈ ls :=
  o.pm.mem_iff.mp (getD_mem [] (by omega))
theorem Of.m1 (o : Of ls os) (h : i + 1 < os.length) :
    os.getD (i + 1) [] ∈ ls := o.pm.mem_iff.mp (getD_mem [] h)
/-- a swap changes just one pair -/
theorem iv_exch (o : Of ls os) (h : i + 1 < os.length) {x y : Nme}
    (hx : x ∈ ls) (hy : y ∈ ls) (ne : x ≠ y) :
    ((exch os i).idxOf y < (exch os i).idxOf x) ↔
      (if x = os.getD i [] ∧ y = os.getD (i + 1) [] then True
       else if x = os.getD (i + 1) [] ∧ y = os.getD i [] then False
       else os.idxOf y < os.idxOf x) := by
  have ox : x ∈ os := o.pm.mem_iff.mpr hx
  have oy : y ∈ os := o.pm.mem_iff.mpr hy
  rw [idx_exch o.ndo h ox, idx_exch o.ndo h oy]
  have n01 := o.ne h
  have i0 := m_idx o.ndo (m_getD (show i < os.length by omega))
  have i1 := m_idx o.ndo (m_getD h)
  generalize os.getD i [] = a at *
  generalize os.getD (i + 1) [] = b at *
  have hneq : os.idxOf x ≠ os.idxOf y := fun e => ne (m_inj ox oy e)
  by_cases xa : x = a
  · subst xa
    have ya : ¬ y = x := fun e => ne e.symm
    rw [if_pos rfl, if_neg ya]
    by_cases yb : y = b
    · subst yb
      rw [if_pos rfl, if_pos ⟨rfl, rfl⟩]
      simp
    · rw [if_neg yb, if_neg (fun z => yb z.2), if_neg (fun z => n01 z.1)]
      have : os.idxOf y ≠ i + 1 := fun e => yb (m_inj oy
        (o.pm.mem_iff.mpr (by
          have := (List.idxOf_lt_length_of_mem oy)
          have gb : os[i + 1]? = some b := by
            rw [← i1]
            refine m_get ?_
            exact Classical.byContradiction fun nb => by
              have := List.idxOf_eq_length nb
              omega
          exact o.pm.mem_iff.mp (List.mem_of_getElem? gb))) (by omega))
      omega
  · rw [if_neg xa]
    by_cases xb : x = b
    · subst xb
      rw [if_pos rfl]
      by_cases ya : y = a
      · subst ya
        rw [if_pos rfl, if_neg (fun z => xa z.1), if_pos ⟨rfl, rfl⟩]
        simp
      · have yb : ¬ y = x := fun e => ne e.symm
        rw [if_neg ya, if_neg yb, if_neg (fun z => xa z.1),
          if_neg (fun z => ya z.2)]
        have ma : a ∈ os := Classical.byContradiction fun na => by
          have := List.idxOf_eq_length na
          omega
        have : os.idxOf y ≠ i := fun e => ya (m_inj oy ma (by omega))
        omega
    · rw [if_neg xb, if_neg (show ¬ (x = a ∧ y = b) from fun z => xa z.1),
        if_neg (show ¬ (x = b ∧ y = a) from fun z => xb z.1)]
      have ma : a ∈ os := Classical.byContradiction fun na => by
        have := List.idxOf_eq_length na
        omega
      have mb : b ∈ os := Classical.byContradiction fun nb => by
        have := List.idxOf_eq_length nb
        omega
      have x0 : os.idxOf x ≠ i := fun e => xa (m_inj ox ma (by omega))
      have x1 : os.idxOf x ≠ i + 1 := fun e => xb (m_inj ox mb (by omega))
      by_cases ya : y = a
      · subst ya
        rw [if_pos rfl]
        omega
      · rw [if_neg ya]
        by_cases yb : y = b
        · subst yb
          rw [if_pos rfl]
          omega
        · rw [if_neg yb]
theorem out_lt : outB ls os i = true ↔
    ls.idxOf (os.getD i []) < ls.idxOf (os.getD (i + 1) []) := by
  unfold outB
  exact decide_eq_true_iff
theorem in_lt (o : Of ls os) (h : i + 1 < os.length) :
    outB ls os i = false ↔
    ls.idxOf (os.getD (i + 1) []) < ls.idxOf (os.getD i []) := by
  unfold outB
  rw [decide_eq_false_iff_not]
  have : ls.idxOf (os.getD i []) ≠ ls.idxOf (os.getD (i + 1) []) := fun e =>
    o.ne h (m_inj (o.m0 h) (o.m1 h) e)
  omega
/-- an outward swap inverts its pair -/
theorem Rep.out {T : List (Nme × Nme)} (r : Rep ls os T) (o : Of ls os)
    (h : i + 1 < os.length) (ob : outB ls os i = true) :
    nbr os i ∉ T ∧ Rep ls (exch os i) (T ++ [nbr os i]) := by
  have lt := out_lt.mp ob
  have i0 := m_idx o.ndo (m_getD (show i < os.length by omega))
  have i1 := m_idx o.ndo (m_getD h)
  have no : nbr os i ∉ T := fun z => by
    have := ((r.mem _).mp z).2.2.2
    unfold nbr at this
    simp only at this
    omega
  refine ⟨no, ⟨?_, ?_⟩⟩
  · refine List.nodup_append.mpr ⟨r.nd, by simp, ?_⟩
    intro x hx y hy e
    rw [List.mem_singleton.mp hy] at e
    exact no (e ▸ hx)
  · rintro ⟨x, y⟩
    rw [List.mem_append, List.mem_singleton, r.mem]
    unfold Iv
    simp only
    constructor
    · rintro (⟨hx, hy, hl, hv⟩ | e)
      · have ne : x ≠ y := fun z => by rw [z] at hl; omega
        refine ⟨hx, hy, hl, (iv_exch o h hx hy ne).mpr ?_⟩
        split
        · trivial
        · rw [if_neg]
          · exact hv
          · rintro ⟨rfl, rfl⟩
            omega
      · cases e
        have ne := o.ne h
        refine ⟨o.m0 h, o.m1 h, lt, (iv_exch o h (o.m0 h) (o.m1 h) ne).mpr ?_⟩
        rw [if_pos ⟨rfl, rfl⟩]
        trivial
    · rintro ⟨hx, hy, hl, hv⟩
      have ne : x ≠ y := fun z => by rw [z] at hl; omega
      have z := (iv_exch o h hx hy ne).mp hv
      split at z
      · rename_i c
        refine Or.inr ?_
        rw [c.1, c.2]
        rfl
      · split at z
        · exact z.elim
        · exact Or.inl ⟨hx, hy, hl, z⟩
/-- an inward swap takes its pair away -/
theorem Rep.inn {T : List (Nme × Nme)} (r : Rep ls os T) (o : Of ls os)
    (h : i + 1 < os.length) (ob : outB ls os i = false) :
    (os.getD (i + 1) [], os.getD i []) ∈ T ∧
    Rep ls (exch os i) (T.erase (os.getD (i + 1) [], os.getD i [])) := by
  have lt := (in_lt o h).mp ob
  have i0 := m_idx o.ndo (m_getD (show i < os.length by omega))
  have i1 := m_idx o.ndo (m_getD h)
  refine ⟨(r.mem _).mpr ⟨o.m1 h, o.m0 h, lt, by show os.idxOf (os.getD i []) < os.idxOf (os.getD (i + 1) []); omega⟩,
    ⟨r.nd.erase _, ?_⟩⟩
  rintro ⟨x, y⟩
  rw [r.nd.mem_erase_iff, r.mem]
  unfold Iv
  simp only
  constructor
  · rintro ⟨ne, hx, hy, hl, hv⟩
    have nxy : x ≠ y := fun z => by rw [z] at hl; omega
    refine ⟨hx, hy, hl, (iv_exch o h hx hy nxy).mpr ?_⟩
    split
    · trivial
    · rw [if_neg]
      · exact hv
      · rintro ⟨rfl, rfl⟩
        exact ne rfl
  · rintro ⟨hx, hy, hl, hv⟩
    have nxy : x ≠ y := fun z => by rw [z] at hl; omega
    have z := (iv_exch o h hx hy nxy).mp hv
    split at z
    · rename_i c
      rw [c.1, c.2] at hl
      omega
    · split at z
      · exact z.elim
      · rename_i c
        refine ⟨fun e => c ?_, hx, hy, hl, z⟩
        cases e
        exact ⟨rfl, rfl⟩
end
/-! ### words -/
def run (os : List Nme) (ws : List Nat) : List Nme := ws.foldl exch os
/-- each index is one of a swap -/
def Ixs (n : Nat) (ws : List Nat) : Prop := ∀ i ∈ ws, i + 1 < n
/-- each swap goes outward -/
def Wd (ls : List Nme) : List Nme → List Nat → Prop
  | _, [] => True
  | os, i :: r => i + 1 < os.length ∧ outB ls os i = true ∧
    Wd ls (exch os i) r
/-- the pairs that the swaps exchange -/
def prsOf : List Nme → List Nat → List (Nme × Nme)
  | _, [] => []
  | os, i :: r => nbr os i :: prsOf (exch os i) r
theorem run_len (ws : List Nat) : ∀ os : List Nme,
    (run os ws).length = os.length := by
  induction ws with
  | nil => intro os; rfl
  | cons i r ih =>
    intro os
    show (run (exch os i) r).length = _
    rw [ih, exch_len]
theorem Of.run {ls : List Nme} (ws : List Nat) : ∀ {os : List Nme},
    Of ls os → Of ls (run os ws) := by
  induction ws with
  | nil => intro os o; exact o
  | cons i r ih => intro os o; exact ih (o.exch i)
theorem Wd.ixs {ls : List Nme} : ∀ {ws : List Nat} {os : List Nme},
    Wd ls os ws → Ixs os.length ws
  | [], _, _ => nofun
  | i :: r, os, h => fun j hj => by
    rcases List.mem_cons.mp hj with e | e
    · rw [e]; exact h.1
    · have := Wd.ixs h.2.2 j e
      rw [exch_len] at this
      exact this
theorem prsOf_len : ∀ (ws : List Nat) (os : List Nme),
    (prsOf os ws).length = ws.length
  | [], _ => rfl
  | i :: r, os => congrArg (· + 1) (prsOf_len r (exch os i))
theorem Rep.word {ls : List Nme} : ∀ {ws : List Nat} {os : List Nme}
    {T : List (Nme × Nme)}, Rep ls os T → Of ls os → Wd ls os ws →
    Rep ls (OM.run os ws) (T ++ prsOf os ws)
  | [], _, T, r, _, _ => by
    show Rep _ _ (T ++ [])
    rw [List.append_nil]
    exact r
  | i :: w, os, T, r, o, h => by
    have := Rep.word (r.out o h.1 h.2.1).2 (o.exch i) h.2.2
    rw [List.append_assoc] at this
    exact this
/-- any swaps: as many pairs as swaps only if all of them go outward -/
theorem Rep.any {ls : List Nme} : ∀ {ws : List Nat} {os : List Nme}
    {T : List (Nme × Nme)}, Rep ls os T → Of ls os → Ixs os.length ws →
    ∃ U, Rep ls (OM.run os ws) U ∧ U.length ≤ T.length + ws.length ∧
      (U.length = T.length + ws.length → Wd ls os ws)
  | [], _, T, r, _, _ => ⟨T, r, Nat.le_refl _, fun _ => trivial⟩
  | i :: w, os, T, r, o, h => by
    have hi := h i List.mem_cons_self
    have hw : Ixs (exch os i).length w := by
      rw [exch_len]
      exact fun j hj => h j (List.mem_cons_of_mem _ hj)
    cases ob : outB ls os i with
    | true =>
      obtain ⟨U, a, b, c⟩ := Rep.any (r.out o hi ob).2 (o.exch i) hw
      rw [List.length_append] at b c
      refine ⟨U, a, ?_, fun e => ⟨hi, ob, c ?_⟩⟩
      · rw [List.length_cons]
        simp at b
        omega
      · rw [List.length_cons] at e
        simp
        omega
    | false =>
      obtain ⟨m, q⟩ := r.inn o hi ob
      obtain ⟨U, a, b, c⟩ := Rep.any q (o.exch i) hw
      rw [List.length_erase_of_mem m] at b c
      have : 0 < T.length := List.length_pos_of_mem m
      refine ⟨U, a, ?_, fun e => ?_⟩
      · rw [List.length_cons]
        omega
      · rw [List.length_cons] at e
        omega
theorem Rep.nil {ls : List Nme} (nd : ls.Nodup) : Rep ls ls [] :=
  ⟨List.nodup_nil, fun p => ⟨nofun, fun h => by
    have := h.2.2
    omega⟩⟩
theorem run_app (us vs : List Nat) (os : List Nme) :
    run os (us ++ vs) = run (run os us) vs := List.foldl_append
/-! ### the swap back -/
/-- two labels exchanged -/
def lab (x y z : Nme) : Nme := if z = x then y else if z = y then x else z
theorem run_lab (x y : Nme) : ∀ (ws : List Nat) (os : List Nme),
    run (os.map (lab x y)) ws = (run os ws).map (lab x y)
  | [], _ => rfl
  | i :: r, os => by
    show run (exch (os.map (lab x y)) i) r = (run (exch os i) r).map (lab x y)
    rw [exch_map, run_lab x y r]
/-- a swap exchanges the labels of two neighbours -/
theorem exch_lab {os : List Nme} {i : Nat} (nd : os.Nodup)
    (h : i + 1 < os.length) :
    exch os i = os.map (lab (os.getD i []) (os.getD (i + 1) [])) := by
  refine List.ext_getElem? fun j => ?_
  have g0 := m_getD (show i < os.length by omega)
  have g1 := m_getD h
  rw [exch_get h, List.getElem?_map]
  have i0 := m_idx nd g0
  have i1 := m_idx nd g1
  by_cases e0 : j = i
  · subst e0
    rw [if_pos rfl, g0, g1]
    show _ = some (lab _ _ _)
    unfold lab
    rw [if_pos rfl]
  · rw [if_neg e0]
    by_cases e1 : j = i + 1
    · subst e1
      rw [if_pos rfl, g0, g1]
      show _ = some (lab _ _ _)
      unfold lab
      rw [if_neg, if_pos rfl]
      intro z
      rw [z] at i1
      omega
    · rw [if_neg e1]
      cases gj : os[j]? with
      | none => rfl
      | some z =>
        have ij := m_idx nd gj
        show _ = some (lab _ _ _)
        unfold lab
        rw [if_neg, if_neg]
        · intro e
          rw [e] at ij
          omega
        · intro e
          rw [e] at ij
          omega
theorem lab_comm (x y : Nme) : lab x y = lab y x := by
  funext z
  unfold lab
  by_cases a : z = x
  · by_cases b : z = y
    · rw [if_pos a, if_pos b, ← a, ← b]
    · rw [if_pos a, if_neg b, if_pos a]
  · by_cases b : z = y
    · rw [if_neg a, if_pos b, if_pos b]
    · rw [if_neg a, if_neg b, if_neg b, if_neg a]
theorem prsOf_get : ∀ (us : List Nat) (i : Nat) (vs : List Nat)
    (os : List Nme), (prsOf os (us ++ i :: vs))[us.length]? =
      some (nbr (run os us) i)
  | [], i, vs, os => rfl
  | u :: us, i, vs, os => prsOf_get us i vs (exch os u)
/-- the swap back of the pair at position j: without that entry the others
    are outward swaps and lead to the order behind the swap -/
theorem cancel {ls : List Nme} {ws : List Nat} {i j : Nat} (nd : ls.Nodup)
    (w : Wd ls ls ws) (h : i + 1 < ls.length)
    (ob : outB ls (run ls ws) i = false)
    (hj : (prsOf ls ws)[j]? = some ((run ls ws).getD (i + 1) [],
      (run ls ws).getD i [])) :
    Wd ls ls (ws.eraseIdx j) ∧
      run ls (ws.eraseIdx j) = exch (run ls ws) i := by
  have o0 : Of ls ls := ⟨nd, List.Perm.refl _⟩
  have o := o0.run ws
  have lo : (run ls ws).length = ls.length := run_len ws ls
  have jl : j < ws.length := by
    have := (List.getElem?_eq_some_iff.mp hj).1
    rw [prsOf_len] at this
    exact this
  have sp : ws = ws.take j ++ ws[j] :: ws.drop (j + 1) := by
    rw [← List.drop_eq_getElem_cons jl, List.take_append_drop]
  have er : ws.eraseIdx j = ws.take j ++ ws.drop (j + 1) :=
    List.eraseIdx_eq_take_drop_succ ws j
  have lt : (ws.take j).length = j := by rw [List.length_take]; omega
  have jx : ws[j] + 1 < ls.length := w.ixs _ (List.getElem_mem jl)
  generalize hu : ws.take j = us at sp er lt
  generalize hv : ws.drop (j + 1) = vs at sp er
  generalize ws[j] = m at sp jx
  have pj := prsOf_get us m vs ls
  rw [← sp, lt, hj] at pj
  have pe := Option.some.inj pj
  -- the order behind the other entries
  have o1 := o0.run us
  have l1 : (run ls us).length = ls.length := run_len us ls
  have e1 : run ls ws = run (exch (run ls us) m) vs := by
    rw [sp, run_app]
    rfl
  have eq : run ls (us ++ vs) = exch (run ls ws) i := by
    rw [run_app, exch_lab o.ndo (by omega)]
    have ea : (run ls ws).getD (i + 1) [] = (run ls us).getD m [] :=
      congrArg Prod.fst pe
    have eb : (run ls ws).getD i [] = (run ls us).getD (m + 1) [] :=
      congrArg Prod.snd pe
    rw [ea, eb, lab_comm, e1, ← run_lab]
    have : (exch (run ls us) m).map (lab ((run ls us).getD m [])
        ((run ls us).getD (m + 1) [])) = run ls us := by
      have x := exch_lab ((o1.exch m).ndo) (i := m) (by rw [exch_len]; omega)
      obtain ⟨g0, g1⟩ := exch_getD ([] : Nme) (xs := run ls us) (i := m)
        (by omega)
      rw [exch_exch, g0, g1, lab_comm] at x
      exact x.symm
    rw [this]
  rw [er]
  refine ⟨?_, eq⟩
  -- all of them go outward, by counting
  have r0 := Rep.nil nd
  have rw' := r0.word o0 w
  obtain ⟨mm, ri⟩ := rw'.inn o (by omega) ob
  have ix : Ixs ls.length (us ++ vs) := fun k hk => w.ixs k (by
    rw [sp]
    rcases List.mem_append.mp hk with z | z
    · exact List.mem_append_left _ z
    · exact List.mem_append_right _ (List.mem_cons_of_mem _ z))
  obtain ⟨U, ru, _, hU⟩ := r0.any o0 ix
  rw [eq] at ru
  have l2 := ru.len ri
  refine hU ?_
  rw [l2, List.length_erase_of_mem mm, List.nil_append, prsOf_len]
  have : ws.length = us.length + (vs.length + 1) := by
    rw [sp, List.length_append, List.length_cons]
  rw [List.length_append, List.length_nil]
  omega
end OM
namespace OM
open PySem PySem.Spec PyProof.Rows L2
/-- what a comprehension walks, whatever its turn does -/
theorem walkW {J : It} {n : Nat} {G : Hp → Prop}
    {Y : Nat → Hp → V → Hp → Prop} (wk : Walk J n G Y) {H0 : Hp}
    {Qd : Hp → Prop} {body : V → Hp → (Hp → Prop) → Prop}
    (Pv : Nat → Hp → Prop) (h0 : Pv 0 H0) (hG : ∀ i H, i ≤ n → Pv i H → G H)
    (hs : ∀ i x H H', i < n → Pv i H → Y i H x H' → body x H' (Pv (i + 1)))
    (hd : ∀ H, Pv n H → Qd H) :
    ∃ W : Nat → Nat → Hp → Prop, (∃ m, W 0 m H0) ∧
      ∀ i m H, W i m H → (J.stop i H ∧ Qd H) ∨ (J.go i H ∧
        ∃ Nx : Hp → Prop, (∀ H', Nx H' → ∃ m', m' < m ∧ W (i + 1) m' H') ∧
        ∀ x H', J.yld i H x H' → body x H' Nx) := by
  refine ⟨fun i m H => m + i = n ∧ Pv i H, ⟨n, rfl, h0⟩, ?_⟩
  rintro i m H ⟨e, p⟩
  have q := hG i H (by omega) p
  rcases Nat.lt_or_ge i n with lt | ge
  · exact .inr ⟨wk.goes i H lt q, Pv (i + 1),
      fun H' p' => ⟨m - 1, by omega, by omega, p'⟩,
      fun x H' y => hs i x H H' lt p (wk.yields i H x H' lt q y)⟩
  · have e' : i = n := by omega
    subst e'
    exact .inl ⟨wk.stops H q, hd H p⟩
/-! ### pairs of names -/
abbrev Pr := List Nat × List Nat
abbrev vT (p : Pr) : List V := [vS p.1, vS p.2]
def PrsAt (H : Hp) (rs : List Addr) (ps : List Pr) : Prop :=
  Paired (fun r p => H r = some (.tup (vT p))) rs ps
theorem PrsAt.same {H H' : Hp} : ∀ {rs : List Addr} {ps : List Pr},
    PrsAt H rs ps → Same H H' → PrsAt H' rs ps
  | _, _, .nil, _ => .nil
  | _, _, .cons h t, s => .cons (s _ _ h) (PrsAt.same t s)
theorem PrsAt.snoc {H : Hp} {r : Addr} {p : Pr} (h : H r = some (.tup (vT p))) :
    ∀ {rs : List Addr} {ps : List Pr}, PrsAt H rs ps →
      PrsAt H (rs ++ [r]) (ps ++ [p])
  | _, _, .nil => .cons h .nil
  | _, _, .cons a t => .cons a (PrsAt.snoc h t)
theorem PrsAt.app {H : Hp} {qs : List Addr} {us : List Pr}
    (h : PrsAt H qs us) : ∀ {rs : List Addr} {ps : List Pr}, PrsAt H rs ps →
      PrsAt H (rs ++ qs) (ps ++ us)
  | _, _, .nil => h
  | _, _, .cons a t => .cons a (PrsAt.app h t)
theorem PrsAt.len {H : Hp} : ∀ {rs : List Addr} {ps : List Pr},
    PrsAt H rs ps → rs.length = ps.length
  | _, _, .nil => rfl
  | _, _, .cons _ t => congrArg (· + 1) (PrsAt.len t)
abbrev dT (p : Pr) : PyData := .tuple [.str (SX.S p.1), .str (SX.S p.2)]
abbrev dP (ps : List Pr) : List PyData := ps.map dT
theorem dp_T {K : PySem.W.Frag} {H : Hp} {r : Addr} {p : Pr}
    (h : H r = some (.tup (vT p))) : Dp K H (.ref r) (dT p) :=
  .tup (SqT.of h) (.cons (.str _) (.cons (.str _) .nil))
theorem dpAll_P {K : PySem.W.Frag} {H : Hp} : ∀ {rs : List Addr}
    {ps : List Pr}, PrsAt H rs ps → DpAll K H (rs.map V.ref) (dP ps)
  | _, _, .nil => .nil
  | _, _, .cons h t => .cons (dp_T h) (dpAll_P t)
theorem dp_P {K : PySem.W.Frag} {H : Hp} {a : Addr} {rs : List Addr}
    {ps : List Pr} (h : SqL K H a (rs.map V.ref)) (p : PrsAt H rs ps) :
    Dp K H (.ref a) (.list (dP ps)) := .lst h (dpAll_P p)
theorem eqv_T (p q : Pr) : PyData.eqv (dT p) (dT q) = decide (p = q) := by
  obtain ⟨a, b⟩ := p
  obtain ⟨c, d⟩ := q
  show PyData.eqv (.tuple [.str (SX.S a), .str (SX.S b)])
    (.tuple [.str (SX.S c), .str (SX.S d)]) = _
  simp only [PyData.eqv, PyData.eqvAll, SX.S_beq_eq, Bool.and_true]
  by_cases e : a = c
  · by_cases f : b = d
    · subst e; subst f; simp
    · simp [e, f]
  · simp [e]
theorem eqv_PA : ∀ ps qs : List Pr,
    PyData.eqvAll (dP ps) (dP qs) = decide (ps = qs)
  | [], [] => by simp [PyData.eqvAll]
  | [], m :: ms => by simp [PyData.eqvAll]
  | l :: ls, [] => by simp [PyData.eqvAll]
  | l :: ls, m :: ms => by
    have ih := eqv_PA ls ms
    show (PyData.eqv (dT l) (dT m) && PyData.eqvAll (dP ls) (dP ms)) = _
    rw [ih, eqv_T]
    by_cases e : l = m
    · subst e
      simp
    · have : ¬ (l :: ls = m :: ms) := fun z => e (List.cons.inj z).1
      rw [decide_eq_false e, decide_eq_false this]
      rfl
theorem eqv_P (ps qs : List Pr) :
    PyData.eqv (.list (dP ps)) (.list (dP qs)) = decide (ps = qs) := by
  rw [show PyData.eqv (.list (dP ps)) (.list (dP qs)) =
    PyData.eqvAll (dP ps) (dP qs) by simp only [PyData.eqv]]
  exact eqv_PA ps qs
theorem any_P (q : Pr) : ∀ ps : List Pr,
    ((dP ps).any fun z => PyData.eqv z (dT q)) = decide (q ∈ ps)
  | [] => by simp
  | p :: ps => by
    have ih := any_P q ps
    rw [show dP (p :: ps) = dT p :: dP ps from rfl, List.any_cons, ih, eqv_T]
    by_cases e : p = q
    · subst e
      simp
    · have ne : ¬ q = p := fun z => e z.symm
      simp [e, ne]
/-- names in pairs -/
def UniP (ps : List Pr) : Prop := ∀ p ∈ ps,
  (p.1.length ≤ 8 ∧ ∀ c ∈ p.1, c < 1114112) ∧
  (p.2.length ≤ 8 ∧ ∀ c ∈ p.2, c < 1114112)
theorem strOkS {l : List Nat} (h : ∀ c ∈ l, c < 1114112) :
    PyData.strOk (SX.S l) = true := by
  unfold PyData.strOk
  rw [Array.all_eq_true]
  intro i hi
  have := h l.toArray[i] (by simp)
  exact decide_eq_true this
theorem lay_T {p : Pr} (h1 : ∀ c ∈ p.1, c < 1114112)
    (h2 : ∀ c ∈ p.2, c < 1114112) : PyData.canLay0 (dT p) = true := by
  simp only [PyData.canLay0, PyData.canLayAll0, strOkS h1, strOkS h2,
    Bool.and_self]
theorem lay_P : ∀ ps : List Pr, UniP ps → PyData.canLayAll0 (dP ps) = true
  | [], _ => by simp [PyData.canLayAll0]
  | p :: ps, h => by
    have ih := lay_P ps fun x hx => h x (List.mem_cons_of_mem _ hx)
    have hp := h p List.mem_cons_self
    show PyData.canLayAll0 (dT p :: dP ps) = true
    rw [show PyData.canLayAll0 (dT p :: dP ps) =
      (PyData.canLay0 (dT p) && PyData.canLayAll0 (dP ps)) by
        simp only [PyData.canLayAll0], ih, lay_T hp.1.2 hp.2.2]
    rfl
theorem depth_T (p : Pr) : (dT p).depth ≤ 2 := by
  simp only [PyData.depth, PyData.depthAll]
  omega
theorem depth_PA : ∀ ps : List Pr, PyData.depthAll (dP ps) ≤ 2
  | [] => by simp [PyData.depthAll]
  | p :: ps => by
    have ih := depth_PA ps
    have h := depth_T p
    show PyData.depthAll (dT p :: dP ps) ≤ 2
    rw [show PyData.depthAll (dT p :: dP ps) =
      max (dT p).depth (PyData.depthAll (dP ps)) by
        simp only [PyData.depthAll]]
    omega
theorem depth_P (ps : List Pr) : (PyData.list (dP ps)).depth ≤ 3 := by
  rw [show (PyData.list (dP ps)).depth = PyData.depthAll (dP ps) + 1 by
    simp only [PyData.depth]]
  have := depth_PA ps
  omega
theorem shaped_T {p : Pr} (h1 : ∀ c ∈ p.1, c < 1114112)
    (h2 : ∀ c ∈ p.2, c < 1114112) : SeqAt.shaped (dT p) = true := by
  unfold SeqAt.shaped
  rw [lay_T h1 h2]
  have := depth_T p
  exact decide_eq_true (by omega)
theorem shaped_P {ps : List Pr} (h : UniP ps) :
    SeqAt.shaped (.list (dP ps)) = true := by
  unfold SeqAt.shaped
  rw [show PyData.canLay0 (.list (dP ps)) = PyData.canLayAll0 (dP ps) by
    simp only [PyData.canLay0], lay_P ps h]
  have := depth_P ps
  exact decide_eq_true (by omega)
theorem showable_P : ∀ ps : List Pr, PyData.showableAll (dP ps) = true
  | [] => by simp [PyData.showableAll]
  | p :: ps => by
    have ih := showable_P ps
    show PyData.showableAll (dT p :: dP ps) = true
    simp only [PyData.showableAll, PyData.showable, ih, Bool.and_self]
theorem showable_PL (ps : List Pr) : (PyData.list (dP ps)).showable = true := by
  rw [show (PyData.list (dP ps)).showable = PyData.showableAll (dP ps) by
    simp only [PyData.showable]]
  exact showable_P ps
theorem shown_T {p : Pr} (h1 : p.1.length ≤ 8 ∧ ∀ c ∈ p.1, c < 1114112)
    (h2 : p.2.length ≤ 8 ∧ ∀ c ∈ p.2, c < 1114112) :
    (dT p).shown.length ≤ 200 := by
  have e : (dT p).shown = tupleText [reprText (SX.S p.1),
    reprText (SX.S p.2)] := by simp only [PyData.shown, PyData.shownAll]
  rw [e]
  have t := fmt_text [reprText (SX.S p.1), reprText (SX.S p.2)]
  rw [piled_cons, piled_cons, piled_nil] at t
  have a := StrLaws.reprText_len (SX.S p.1) (fun c hc => Nat.lt_of_lt_of_le
    (h1.2 c hc) (by decide))
  have b := StrLaws.reprText_len (SX.S p.2) (fun c hc => Nat.lt_of_lt_of_le
    (h2.2 c hc) (by decide))
  have c : (SX.S p.1).length = p.1.length := SX.S_len _
  have d : (SX.S p.2).length = p.2.length := SX.S_len _
  rw [c] at a
  rw [d] at b
  omega
theorem shown_PA : ∀ (ps : List Pr), UniP ps →
    piled (PyData.shownAll (dP ps)) ≤ ps.length * 202
  | [], _ => by
    show piled (PyData.shownAll []) ≤ _
    simp only [PyData.shownAll]
    exact Nat.zero_le _
  | p :: ps, h => by
    have ih := shown_PA ps fun x hx => h x (List.mem_cons_of_mem _ hx)
    have hp := h p List.mem_cons_self
    have t := shown_T hp.1 hp.2
    show piled (PyData.shownAll (dT p :: dP ps)) ≤ _
    rw [show PyData.shownAll (dT p :: dP ps) =
      (dT p).shown :: PyData.shownAll (dP ps) by simp only [PyData.shownAll],
      piled_cons, List.length_cons, Nat.add_mul]
    omega
theorem shown_P {ps : List Pr} (h : UniP ps) (hn : ps.length ≤ 2000) :
    (PyData.list (dP ps)).shown.length ≤ sizeLine := by
  have p := shown_PA ps h
  have e : (PyData.list (dP ps)).shown =
      listText (PyData.shownAll (dP ps)) := by simp only [PyData.shown]
  rw [e]
  have q := listText_len_le (PyData.shownAll (dP ps))
  have r : ((PyData.shownAll (dP ps)).map (·.length)).sum +
      2 * (PyData.shownAll (dP ps)).length =
      piled (PyData.shownAll (dP ps)) := by
    generalize PyData.shownAll (dP ps) = ts
    induction ts with
    | nil => rfl
    | cons t ts ih =>
      rw [piled_cons, List.map_cons, List.sum_cons, List.length_cons]
      omega
  refine Nat.le_trans (show _ ≤ 404003 by omega) (by decide)
/-! ### the inverted pairs -/
def invF (os : List (List Nat)) (f : List Nat) (r : List (List Nat)) :
    List Pr :=
  (r.filter fun s => decide (os.idxOf s < os.idxOf f)).map fun s => (f, s)
def invTo (ls os : List (List Nat)) : Nat → List Pr
  | 0 => []
  | i + 1 => invTo ls os i ++ match ls[i]? with
    | some f => invF os f (ls.drop (i + 1))
    | none => []
def invAll (ls os : List (List Nat)) : List Pr := invTo ls os ls.length
theorem invF_mem {os : List (List Nat)} {f : List Nat} {r : List (List Nat)}
    {p : Pr} : p ∈ invF os f r ↔ p.1 = f ∧ p.2 ∈ r ∧
      os.idxOf p.2 < os.idxOf f := by
  unfold invF
  obtain ⟨a, b⟩ := p
  simp only [List.mem_map, List.mem_filter, decide_eq_true_eq, Prod.mk.injEq]
  constructor
  · rintro ⟨x, ⟨h1, h2⟩, rfl, rfl⟩
    exact ⟨rfl, h1, h2⟩
  · rintro ⟨rfl, h1, h2⟩
    exact ⟨b, ⟨h1, h2⟩, rfl, rfl⟩
theorem invTo_mem {ls os : List (List Nat)} {p : Pr} : ∀ {i : Nat},
    p ∈ invTo ls os i ↔ ∃ j < i, ls[j]? = some p.1 ∧ p.2 ∈ ls.drop (j + 1) ∧
      os.idxOf p.2 < os.idxOf p.1
  | 0 => by simp [invTo]
  | i + 1 => by
    have ih := invTo_mem (ls := ls) (os := os) (p := p) (i := i)
    show p ∈ invTo ls os i ++ _ ↔ _
    rw [List.mem_append, ih]
    constructor
    · rintro (⟨j, hj, h⟩ | h)
      · exact ⟨j, by omega, h⟩
      · cases e : ls[i]? with
        | none => rw [e] at h; cases h
        | some f =>
          rw [e] at h
          obtain ⟨h1, h2, h3⟩ := invF_mem.mp h
          exact ⟨i, by omega, by rw [h1]; exact e, h2, by rw [h1]; exact h3⟩
    · rintro ⟨j, hj, h1, h2, h3⟩
      by_cases e : j = i
      · subst e
        refine .inr ?_
        rw [h1]
        exact invF_mem.mpr ⟨rfl, h2, h3⟩
      · exact .inl ⟨j, by omega, h1, h2, h3⟩
theorem invF_len (os : List (List Nat)) (f : List Nat) (r : List (List Nat)) :
    (invF os f r).length ≤ r.length := by
  unfold invF
  rw [List.length_map]
  exact List.length_filter_le _ _
theorem invTo_len (ls os : List (List Nat)) : ∀ i, i ≤ ls.length →
    (invTo ls os i).length ≤ i * ls.length
  | 0, _ => Nat.zero_le _
  | i + 1, h => by
    have ih := invTo_len ls os i (by omega)
    show (invTo ls os i ++ _).length ≤ _
    rw [List.length_append, Nat.add_mul]
    have : (match ls[i]? with
      | some f => invF os f (ls.drop (i + 1))
      | none => []).length ≤ ls.length := by
      cases ls[i]? with
      | none => exact Nat.zero_le _
      | some f =>
        refine Nat.le_trans (invF_len _ _ _) ?_
        rw [List.length_drop]
        omega
    omega
end OM
namespace OM
open PySem PySem.Spec PyProof.Rows L2
/-! ### o.m(e, .., k = v, ..) -/
def tMethK (C : Addr) (m : Str) (sp : Sp) (gV : List V → List V → List V)
    (E : XK) (ta : TE) (t tk : TA) : TE := fun σ H Q => ta σ H fun x H1 =>
  ∃ a dx fs, x = .ref a ∧ H1 a = some (.ins C dx fs) ∧ fs.lookup m = none ∧
    t σ H1 fun vs H2 => tk σ H2 fun zs H3 => sp (gV (x :: vs) zs) H3 Q E
section
variable {X : Cx} {CX : CXT} {k : Nat} {f C : Addr} {fd : FuncData}
  {ps ks : List Str} {sp : Sp} {E : XK} {m : Str} {apos pos : Pos}
  {o e : Expr} {es : List Expr} {kws : List Keyword} {ta : TE} {t tk : TA}
  {g : List Value → List Value → List Value} {gV : List V → List V → List V}
theorem pe_methK {pl : Sem Bool} (he : PE X o ta) (c : Cls X.K C)
    (hm : Meth X.K C m f)
    (F : FnOk X.prog X.w X.K X.mg X.base CX k f fd ps sp) (hr : Room k X.A)
    (hb : KBinds X.K fd ps ks g gV) (hx : Passes CX X E)
    (ha : PA X (e :: es) t) (hkw : PK X kws tk)
    (hall : (backToKw pos (keywordEach kws X.env)).all (·.1.isSome) = true
      := by rfl)
    (hks : (backToKw pos (keywordEach kws X.env)).filterMap (·.1) = ks
      := by rfl)
    (hst : starEach (e :: es) X.env = (false, eval e X.env) ::
      starEach es X.env := by rfl)
    (hpl : ((backTo pos (starEach (e :: es) X.env)).any (·.1) ||
      (backToKw pos (keywordEach kws X.env)).any (·.1.isNone)) = false
      := by rfl)
    (ht : eval (.Call (.Attribute o m apos) (e :: es) kws pos) X.env = (do
      let ov ← eval o X.env
      standAt apos.atName
      let (f, first) ← holding [ov] (getMethod ov m pl)
      callWith pos f first (backTo pos (starEach (e :: es) X.env))
        (backToKw pos (keywordEach kws X.env))) := by rfl) :
    PE X (.Call (.Attribute o m apos) (e :: es) kws pos)
      (tMethK C m sp gV E ta t tk) := by
  refine ⟨fun pins s σ H Q I h => ?_⟩
  refine PySem.W.methodCall_KW (pl := pl) (thn (he.run pins s σ H _ I h)
    fun u s1 ⟨x, H1, I1, rx, a, dx, fs, ex, ea, l, q⟩ => ?_) ht
  subst ex
  obtain rfl : u = Value.ref a := rx
  refine getmeth_ok I1 ea c hm l ?_
  refine PySem.W.callWith_KW (first := [.ref a]) (h₀ := X.base) I.ok.mod.kin
    hm.kp hall (thn (ha.run pos pins s1 σ H1 _ I1 q)
      fun us s2 ⟨vs, H2, I2, r, q2⟩ => ?_) hpl hst
  refine thn (hkw.run pos pins s2 σ H2 _ I2 q2)
    fun ws s3 ⟨zs, H3, I3, rz, q3⟩ => ⟨I3.kIn, ?_⟩
  rw [hks]
  exact run_fnk (us := .ref a :: us) (vs := .ref a :: vs) F hr hb hx I3
    (.cons rfl r) rz q3
end
/-! ### a method whose last parameter is given by its name -/
def kwG {α : Type} (n : Nat) (us ws : List α) : List α :=
  if us.length = n ∧ ws.length = 1 then us ++ ws else []
theorem kw_rel {n : Nat} {vs zs : List V} {us ws : List Value}
    (a : Vals vs us) (b : Vals zs ws) : Vals (kwG n vs zs) (kwG n us ws) := by
  unfold kwG
  rw [a.length, b.length]
  split
  · exact a.append b
  · exact .nil
structure CalMK (P : Program) (w : World) (K : PySem.W.Frag)
    (mg : Str → Option Value) (base : Heap) (C : Addr) (k : Nat) (x kw : Str)
    (n : Nat) (ps : List Str) (sp : Sp) : Prop where
  cl : Cls K C
  ex : ∃ f fd, FnOk P w K mg base CX0 k f fd ps sp ∧ Meth K C x f ∧
    KBinds K fd ps [kw] (kwG n) (kwG n)
section
variable {X : Cx} {k n : Nat} {ps : List Str} {sp : Sp} {x kw : Str} {C : Addr}
  {p pos : Pos} {o e : Expr} {es : List Expr} {t tk : TA} {to : TE}
  {kws : List Keyword}
theorem pe_calMK {pl : Sem Bool}
    (M : CalMK X.prog X.w X.K X.mg X.base C k x kw n ps sp)
    (room : Room k X.A) (ho : PE X o to) (ha : PA X (e :: es) t)
    (hk : PK X kws tk)
    (hall : (backToKw pos (keywordEach kws X.env)).all (·.1.isSome) = true
      := by rfl)
    (hks : (backToKw pos (keywordEach kws X.env)).filterMap (·.1) = [kw]
      := by rfl)
    (hst : starEach (e :: es) X.env = (false, eval e X.env) ::
      starEach es X.env := by rfl)
    (hpl : ((backTo pos (starEach (e :: es) X.env)).any (·.1) ||
      (backToKw pos (keywordEach kws X.env)).any (·.1.isNone)) = false
      := by rfl)
    (ht : eval (.Call (.Attribute o x p) (e :: es) kws pos) X.env = (do
      let ov ← eval o X.env
      standAt p.atName
      let (f, first) ← holding [ov] (getMethod ov x pl)
      callWith pos f first (backTo pos (starEach (e :: es) X.env))
        (backToKw pos (keywordEach kws X.env))) := by rfl) :
    PE X (.Call (.Attribute o x p) (e :: es) kws pos)
      (tMethK C x sp (kwG n) E0 to t tk) := by
  obtain ⟨f, fd, F, m, b⟩ := M.ex
  exact pe_methK (pl := pl) ho M.cl m F room b pass0 ha hk hall hks hst hpl ht
end
/-! ### entries -/
abbrev En := Nat × List Nat
abbrev vE (e : En) : List V := [.int e.1, vS e.2]
def EnsAt (H : Hp) (rs : List Addr) (es : List En) : Prop :=
  Paired (fun r e => H r = some (.tup (vE e))) rs es
theorem EnsAt.same {H H' : Hp} : ∀ {rs : List Addr} {es : List En},
    EnsAt H rs es → Same H H' → EnsAt H' rs es
  | _, _, .nil, _ => .nil
  | _, _, .cons h t, s => .cons (s _ _ h) (EnsAt.same t s)
/-- entries stand where tuples stay -/
theorem EnsAt.keep {H H' : Hp} (k : ∀ a xs, H a = some (.tup xs) →
    H' a = some (.tup xs)) : ∀ {rs : List Addr} {es : List En},
    EnsAt H rs es → EnsAt H' rs es
  | _, _, .nil => .nil
  | _, _, .cons h t => .cons (k _ _ h) (EnsAt.keep k t)
theorem EnsAt.snoc {H : Hp} {r : Addr} {e : En}
    (h : H r = some (.tup (vE e))) :
    ∀ {rs : List Addr} {es : List En}, EnsAt H rs es →
      EnsAt H (rs ++ [r]) (es ++ [e])
  | _, _, .nil => .cons h .nil
  | _, _, .cons a t => .cons a (EnsAt.snoc h t)
theorem EnsAt.app {H : Hp} {qs : List Addr} {us : List En}
    (h : EnsAt H qs us) : ∀ {rs : List Addr} {es : List En}, EnsAt H rs es →
      EnsAt H (rs ++ qs) (es ++ us)
  | _, _, .nil => h
  | _, _, .cons a t => .cons a (EnsAt.app h t)
theorem EnsAt.len {H : Hp} : ∀ {rs : List Addr} {es : List En},
    EnsAt H rs es → rs.length = es.length
  | _, _, .nil => rfl
  | _, _, .cons _ t => congrArg (· + 1) (EnsAt.len t)
theorem EnsAt.take {H : Hp} : ∀ {rs : List Addr} {es : List En} (n : Nat),
    EnsAt H rs es → EnsAt H (rs.take n) (es.take n)
  | _, _, 0, _ => .nil
  | _, _, _ + 1, .nil => .nil
  | _, _, n + 1, .cons h t => .cons h (EnsAt.take n t)
theorem EnsAt.drop {H : Hp} : ∀ {rs : List Addr} {es : List En} (n : Nat),
    EnsAt H rs es → EnsAt H (rs.drop n) (es.drop n)
  | _, _, 0, h => h
  | _, _, _ + 1, .nil => .nil
  | _, _, n + 1, .cons _ t => EnsAt.drop n t
theorem EnsAt.erase {H : Hp} : ∀ {rs : List Addr} {es : List En} (n : Nat),
    EnsAt H rs es → EnsAt H (rs.eraseIdx n) (es.eraseIdx n)
  | _, _, _, .nil => .nil
  | _, _, 0, .cons _ t => t
  | _, _, n + 1, .cons h t => .cons h (EnsAt.erase n t)
theorem EnsAt.get {H : Hp} : ∀ {rs : List Addr} {es : List En} {i : Nat}
    {e : En}, EnsAt H rs es → es[i]? = some e →
    ∃ r, rs[i]? = some r ∧ H r = some (.tup (vE e))
  | _, _, _, _, .nil, h => by simp at h
  | _, _, 0, _, .cons h _, e => by cases e; exact ⟨_, rfl, h⟩
  | _, _, n + 1, _, .cons _ t, e => EnsAt.get (i := n) t (by simpa using e)
theorem PrsAt.get {H : Hp} : ∀ {rs : List Addr} {es : List Pr} {i : Nat}
    {e : Pr}, PrsAt H rs es → es[i]? = some e →
    ∃ r, rs[i]? = some r ∧ H r = some (.tup (vT e))
  | _, _, _, _, .nil, h => by simp at h
  | _, _, 0, _, .cons h _, e => by cases e; exact ⟨_, rfl, h⟩
  | _, _, n + 1, _, .cons _ t, e => PrsAt.get (i := n) t (by simpa using e)
abbrev dE (e : En) : PyData := .tuple [.int (e.1 : Int), .str (SX.S e.2)]
abbrev dEs (es : List En) : List PyData := es.map dE
theorem dp_E {K : PySem.W.Frag} {H : Hp} {r : Addr} {e : En}
    (h : H r = some (.tup (vE e))) : Dp K H (.ref r) (dE e) :=
  .tup (SqT.of h) (.cons (.int _) (.cons (.str _) .nil))
theorem dpAll_E {K : PySem.W.Frag} {H : Hp} : ∀ {rs : List Addr}
    {es : List En}, EnsAt H rs es → DpAll K H (rs.map V.ref) (dEs es)
  | _, _, .nil => .nil
  | _, _, .cons h t => .cons (dp_E h) (dpAll_E t)
theorem dp_Es {K : PySem.W.Frag} {H : Hp} {a : Addr} {rs : List Addr}
    {es : List En} (h : SqL K H a (rs.map V.ref)) (p : EnsAt H rs es) :
    Dp K H (.ref a) (.list (dEs es)) := .lst h (dpAll_E p)
theorem eqv_E1 (p q : En) : PyData.eqv (dE p) (dE q) = decide (p = q) := by
  obtain ⟨a, b⟩ := p
  obtain ⟨c, d⟩ := q
  show PyData.eqv (.tuple [.int (a : Int), .str (SX.S b)])
    (.tuple [.int (c : Int), .str (SX.S d)]) = _
  simp only [PyData.eqv, PyData.eqvAll, SX.S_beq_eq, Bool.and_true]
  by_cases e : a = c
  · by_cases f : b = d
    · subst e; subst f; simp
    · simp [e, f]
  · have : ¬ ((a : Int) = (c : Int)) := by omega
    simp [e, this]
theorem eqv_EA : ∀ ps qs : List En,
    PyData.eqvAll (dEs ps) (dEs qs) = decide (ps = qs)
  | [], [] => by simp [PyData.eqvAll]
  | [], m :: ms => by simp [PyData.eqvAll]
  | l :: ls, [] => by simp [PyData.eqvAll]
  | l :: ls, m :: ms => by
    have ih := eqv_EA ls ms
    show (PyData.eqv (dE l) (dE m) && PyData.eqvAll (dEs ls) (dEs ms)) = _
    rw [ih, eqv_E1]
    by_cases e : l = m
    · subst e
      simp
    · have : ¬ (l :: ls = m :: ms) := fun z => e (List.cons.inj z).1
      rw [decide_eq_false e, decide_eq_false this]
      rfl
theorem eqv_E (ps qs : List En) :
    PyData.eqv (.list (dEs ps)) (.list (dEs qs)) = decide (ps = qs) := by
  rw [show PyData.eqv (.list (dEs ps)) (.list (dEs qs)) =
    PyData.eqvAll (dEs ps) (dEs qs) by simp only [PyData.eqv]]
  exact eqv_EA ps qs
/-- small indexes, short reasons -/
def SmE (es : List En) : Prop := ∀ e ∈ es, e.1 < 64 ∧ e.2.length ≤ 8 ∧
  ∀ c ∈ e.2, c < 1114112
theorem SmE.app {a b : List En} (x : SmE a) (y : SmE b) : SmE (a ++ b) :=
  fun e h => (List.mem_append.mp h).elim (x e) (y e)
theorem SmE.erase {a : List En} (x : SmE a) (j : Nat) : SmE (a.eraseIdx j) :=
  fun e h => x e (List.mem_of_mem_eraseIdx h)
theorem int64 : ∀ i : Fin 64, (PyData.int (i.val : Int)).showable = true ∧
    (PyData.int (i.val : Int)).shown.length ≤ 5 := by decide +kernel
theorem lay_E {e : En} (h : ∀ c ∈ e.2, c < 1114112) :
    PyData.canLay0 (dE e) = true := by
  simp only [PyData.canLay0, PyData.canLayAll0, strOkS h, Bool.and_self]
theorem lay_Es : ∀ es : List En, SmE es → PyData.canLayAll0 (dEs es) = true
  | [], _ => by simp [PyData.canLayAll0]
  | p :: ps, h => by
    have ih := lay_Es ps fun x hx => h x (List.mem_cons_of_mem _ hx)
    have hp := h p List.mem_cons_self
    show PyData.canLayAll0 (dE p :: dEs ps) = true
    rw [show PyData.canLayAll0 (dE p :: dEs ps) =
      (PyData.canLay0 (dE p) && PyData.canLayAll0 (dEs ps)) by
        simp only [PyData.canLayAll0], ih, lay_E hp.2.2]
    rfl
theorem depth_E1 (p : En) : (dE p).depth ≤ 2 := by
  simp only [PyData.depth, PyData.depthAll]
  omega
theorem depth_EA : ∀ ps : List En, PyData.depthAll (dEs ps) ≤ 2
  | [] => by simp [PyData.depthAll]
  | p :: ps => by
    have ih := depth_EA ps
    have h := depth_E1 p
    show PyData.depthAll (dE p :: dEs ps) ≤ 2
    rw [show PyData.depthAll (dE p :: dEs ps) =
      max (dE p).depth (PyData.depthAll (dEs ps)) by
        simp only [PyData.depthAll]]
    omega
theorem depth_E (ps : List En) : (PyData.list (dEs ps)).depth ≤ 3 := by
  rw [show (PyData.list (dEs ps)).depth = PyData.depthAll (dEs ps) + 1 by
    simp only [PyData.depth]]
  have := depth_EA ps
  omega
theorem shaped_E {ps : List En} (h : SmE ps) :
    SeqAt.shaped (.list (dEs ps)) = true := by
  unfold SeqAt.shaped
  rw [show PyData.canLay0 (.list (dEs ps)) = PyData.canLayAll0 (dEs ps) by
    simp only [PyData.canLay0], lay_Es ps h]
  have := depth_E ps
  exact decide_eq_true (by omega)
theorem showable_EA : ∀ ps : List En, SmE ps →
    PyData.showableAll (dEs ps) = true
  | [], _ => by simp [PyData.showableAll]
  | p :: ps, h => by
    have ih := showable_EA ps fun x hx => h x (List.mem_cons_of_mem _ hx)
    have hp := (int64 ⟨p.1, (h p List.mem_cons_self).1⟩).1
    show PyData.showableAll (dE p :: dEs ps) = true
    simp only [PyData.showableAll, PyData.showable, ih, Bool.and_true]
    simpa only [PyData.showable] using hp
theorem showable_E {ps : List En} (h : SmE ps) :
    (PyData.list (dEs ps)).showable = true := by
  rw [show (PyData.list (dEs ps)).showable = PyData.showableAll (dEs ps) by
    simp only [PyData.showable]]
  exact showable_EA ps h
theorem shown_E1 {p : En} (h0 : p.1 < 64)
    (h1 : p.2.length ≤ 8 ∧ ∀ c ∈ p.2, c < 1114112) :
    (dE p).shown.length ≤ 200 := by
  have e : (dE p).shown = tupleText [(PyData.int (p.1 : Int)).shown,
    reprText (SX.S p.2)] := by simp only [PyData.shown, PyData.shownAll]
  rw [e]
  have t := fmt_text [(PyData.int (p.1 : Int)).shown, reprText (SX.S p.2)]
  rw [piled_cons, piled_cons, piled_nil] at t
  have a := (int64 ⟨p.1, h0⟩).2
  have b := StrLaws.reprText_len (SX.S p.2) (fun c hc => Nat.lt_of_lt_of_le
    (h1.2 c hc) (by decide))
  have d : (SX.S p.2).length = p.2.length := SX.S_len _
  rw [d] at b
  have a' : (PyData.int (p.1 : Int)).shown.length ≤ 5 := a
  omega
theorem shown_EA : ∀ (ps : List En), SmE ps →
    piled (PyData.shownAll (dEs ps)) ≤ ps.length * 202
  | [], _ => by
    show piled (PyData.shownAll []) ≤ _
    simp only [PyData.shownAll]
    exact Nat.zero_le _
  | p :: ps, h => by
    have ih := shown_EA ps fun x hx => h x (List.mem_cons_of_mem _ hx)
    have hp := h p List.mem_cons_self
    have t := shown_E1 hp.1 hp.2
    show piled (PyData.shownAll (dE p :: dEs ps)) ≤ _
    rw [show PyData.shownAll (dE p :: dEs ps) =
      (dE p).shown :: PyData.shownAll (dEs ps) by simp only [PyData.shownAll],
      piled_cons, List.length_cons, Nat.add_mul]
    omega
theorem shown_E {ps : List En} (h : SmE ps) (hn : ps.length ≤ 2000) :
    (PyData.list (dEs ps)).shown.length ≤ sizeLine := by
  have p := shown_EA ps h
  have e : (PyData.list (dEs ps)).shown =
      listText (PyData.shownAll (dEs ps)) := by simp only [PyData.shown]
  rw [e]
  have q := listText_len_le (PyData.shownAll (dEs ps))
  have r : ((PyData.shownAll (dEs ps)).map (·.length)).sum +
      2 * (PyData.shownAll (dEs ps)).length =
      piled (PyData.shownAll (dEs ps)) := by
    generalize PyData.shownAll (dEs ps) = ts
    induction ts with
    | nil => rfl
    | cons t ts ih =>
      rw [piled_cons, List.map_cons, List.sum_cons, List.length_cons]
      omega
  refine Nat.le_trans (show _ ≤ 404003 by omega) (by decide)
end OM
namespace OM
open PySem PySem.Spec PyProof.Rows L2
/-! ### an own instance beside a value of another kind: ==, from both sides, and != -/
section
variable {prog : Program} {w : World} {A : Around} {E : Value → Shared → Prop}
  {s : Shared} {K : PySem.W.Frag} {x C L f : Addr} {h₀ : Heap}
  {m : Str → Option Value} {ox : Obj} {od : Option Obj}
/-- a == x, x own: a's type has nothing to say, so x's own __eq__ is asked -/
theorem eq_right {a : Value} {T id : String} {Q : Value → Shared → Prop}
    (hu : A.units < cLine) (F : Fr h₀ L s.heap m) (X₀ : K.In h₀)
    (I : PySem.W.InstAt s.heap x ox C od) (ta : s.TypeIs a T)
    (sl : Slot T (cmpInfo .Eq).2.1 id)
    (sub : PySem.W.subIn K (.ref C) (.type T) = some false)
    (no : ∀ R : Value → Shared → Prop, R .notImplemented s →
      wpAny (model prog w) A (call (.builtin id) [a, .ref x]) R E s)
    (at_ : PySem.W.findIn K (.ref C) (cmpInfo .Eq).2.2 = some (some (.ref f)))
    (fn : PySem.W.isFn K (.ref f) = true)
    (h : wpAny (model prog w) A (call (.ref f) [.ref x, a])
      (PySem.W.CmpBack Q) E s) :
    wpAny (model prog w) A (richCompare .Eq a (.ref x)) Q E s := by
  have XK := X₀.keeps F.keep
  have own : wpAny (model prog w) A (tryCompare (.ref x) (cmpInfo .Eq).2.2 a)
      (fun r s' => ∃ v, r = some v ∧ Q v s') E s := by
    unfold tryCompare
    refine wpAny_bind (PySem.W.ifBound_K XK I at_ fn (wpAny_mono h
      (fun v s' q => ?_) fun _ _ z => z))
    cases v <;> first | exact q.elim | exact wpAny_pure ⟨_, rfl, q⟩
  unfold richCompare
  simp only [ta.oneThing_none]
  refine wpAny_holding (wpAny_bind (wpAny_cRoomFor hu ?_))
  refine wpAny_bind (wpAny_typeOf ta (wpAny_bind (I.type.here ?_)))
  simp only [show (Value.type T != Value.ref C) = true from rfl, if_true]
  refine wpAny_bind ((PySem.W.looks_subIn XK sub).here ?_)
  simp only [Bool.false_eq_true, if_false]
  refine wpAny_bind (wpAny_tryCompare_declines ta sl (no _ ⟨rfl, ?_⟩))
  simp only [Bool.not_false, if_true]
  refine wpAny_bind (wpAny_mono own (fun r s' z => ?_) fun _ _ z => z)
  obtain ⟨v, rfl, q⟩ := z
  exact wpAny_pure q
theorem ne_slot : Slot "object" (Str.ofString "__ne__") "object.__ne__" :=
  Slot.of (T := "object") (name := "__ne__") (owner := "object") (n := "__ne__")
    (by rw [typeLookup_type, builtinLookup_eq_fast]; kernel_rfl)
    (by decide +kernel) (by decide +kernel) (by decide +kernel)
    (.inl (by decide +kernel)) (by rw [isSubtype_type]; kernel_rfl)
/-- object.__ne__ of an own instance turns its own __eq__ round -/
theorem ne_body {b : Value} {Q : Value → Shared → Prop}
    (hu : A.units < cLine) (XK : K.In s.heap)
    (I : PySem.W.InstAt s.heap x ox C od)
    (at_ : PySem.W.findIn K (.ref C) "__eq__" = some (some (.ref f)))
    (fn : PySem.W.isFn K (.ref f) = true)
    (h : wpAny (model prog w) A (call (.ref f) [.ref x, b])
      (fun v s' => ∃ r, v = .bool r ∧ Q (.bool (!r)) s') E s) :
    wpAny (model prog w) A (Builtin.«object.__ne__» ⟨[.ref x, b], []⟩)
      (fun fin s' => ∃ v, fin = .done (.ret v) ∧ Q v s') E s := by
  show wpAny _ _ (cRoomFor "comparison" [.ref x, b] >>= fun _ => _) _ _ s
  refine wpAny_bind (wpAny_cRoomFor hu ?_)
  refine wpAny_bind (PySem.W.ifBound_K XK I at_ fn (wpAny_mono h
    (fun v s' z => ?_) fun _ _ z => z))
  obtain ⟨r, rfl, q⟩ := z
  exact wpAny_bind (wpAny_truthy_bool (wpAny_pure ⟨_, rfl, q⟩))
theorem ne_check {b : Value} (XK : K.In s.heap)
    (I : PySem.W.InstAt s.heap x ox C od)
    (top : PySem.W.subIn K (.ref C) (.type "object") = some true)
    {Q : Unit → Shared → Prop} (q : Q () s) :
    wpAny (model prog w) A (checkBuiltinCall "object.__ne__"
      ⟨[.ref x, b], []⟩) Q E s := by
  simp only [checkBuiltinCall, F.cmpKind_ne, F.cmpSplit_ne]
  refine wpAny_bind ?_
  unfold isInstance
  refine wpAny_bind (I.type.here ((PySem.W.looks_subIn XK top).here ?_))
  rw [if_neg (by decide)]
  cases sg : Manifest.signature? "object.__ne__" with
  | none => exact wpAny_pure q
  | some sig =>
    have ok := F.cmpArgs_ne (.ref x) b
    simp only [argsOk, sg] at ok
    exact wpAny_of_eq ok q
/-- a slot of the bottom class, asked of an own instance -/
theorem asks_slot {name : Str} {id : String} {args : List Value}
    {Q : Option Value → Shared → Prop} (XK : K.In s.heap)
    (I : PySem.W.InstAt s.heap x ox C od)
    (no : PySem.W.findIn K (.ref C) name = some (some (.builtin id)))
    (bd : ∀ self, bindSpecial (.builtin id) self = pure (.builtin id, [self]))
    (h : wpAny (model prog w) A (call (.builtin id) (.ref x :: args))
      (fun v => Q (some v)) E s) :
    wpAny (model prog w) A (callSpecialIfBound? (.ref x) name args) Q E s := by
  have last : wpAny (model prog w) A (call (.builtin id) ([.ref x] ++ args) >>=
      fun v => pure (some v)) Q E s :=
    wpAny_bind (wpAny_mono h (fun _ _ z => wpAny_pure z) fun _ _ z => z)
  unfold callSpecialIfBound? bindSpecialIfBound?
  refine wpAny_holding (wpAny_bind (wpAny_bind (wpAny_bind (I.type.here
    ((PySem.W.looks_findIn XK no).here ?_)))))
  simp only [bd]
  refine wpAny_bind (wpAny_askSetting (wpAny_ite ?_))
  split
  · exact wpAny_bind (wpAny_pure (wpAny_pure last))
  · exact wpAny_tryCatch (wpAny_bind (wpAny_pure (wpAny_pure last)))
/-- x != b, x own and without a __ne__ of its own -/
theorem ne_left {b tb : Value} {Q : Value → Shared → Prop}
    (hu : A.units + 1 < cLine) (Fh : Fr h₀ L s.heap m) (X₀ : K.In h₀)
    (I : PySem.W.InstAt s.heap x ox C od)
    (hb : PySem.W.Looks (model prog w) s.heap (typeOf b) tb)
    (hn : PySem.W.notFirst K C tb = true)
    (top : PySem.W.subIn K (.ref C) (.type "object") = some true)
    (no : PySem.W.findIn K (.ref C) "__ne__" =
      some (some (.builtin "object.__ne__")))
    (at_ : PySem.W.findIn K (.ref C) "__eq__" = some (some (.ref f)))
    (fn : PySem.W.isFn K (.ref f) = true)
    (h : wpAny (model prog w) A.in1 (call (.ref f) [.ref x, b])
      (fun v s' => ∃ r, v = .bool r ∧ Q (.bool (!r)) s') E s) :
    wpAny (model prog w) A (richCompare .NotEq (.ref x) b) Q E s := by
  have XK := X₀.keeps Fh.keep
  have called : wpAny (model prog w) A (call (.builtin "object.__ne__")
      [.ref x, b]) (fun v s' => (∃ r, v = .bool r) ∧ Q v s') E s :=
    wpAny_call (codeAny_call_builtin ne_slot.plain F.cmpEntry_ne
      (ne_check XK I top (wpAny_mono (ne_body (A := A.in1)
        (Q := fun v s' => (∃ r, v = .bool r) ∧ Q v s') hu XK I at_ fn
        (wpAny_mono h (fun v s' z => by
          obtain ⟨r, e, q⟩ := z
          exact ⟨r, e, ⟨_, rfl⟩, q⟩) fun _ _ z => z))
        (fun fin s' z => by obtain ⟨v, rfl, q⟩ := z; exact q) fun _ _ z => z)))
  have told : wpAny (model prog w) A (tryCompare (.ref x)
      (cmpInfo .NotEq).2.1 b) (fun r s' => ∃ v, r = some v ∧ Q v s') E s := by
    unfold tryCompare
    refine wpAny_bind (asks_slot XK I no ne_slot.bind (wpAny_mono called
      (fun v s' z => ?_) fun _ _ z => z))
    obtain ⟨⟨r, rfl⟩, q⟩ := z
    exact wpAny_pure ⟨_, rfl, q⟩
  have ends : wpAny (model prog w) A (do
      if let some v ← tryCompare (.ref x) (cmpInfo .NotEq).2.1 b then return v
      if !false then
        if let some v ← tryCompare b (cmpInfo .NotEq).2.2 (.ref x) then return v
      rule "compare.ne-identity"; return .bool (!(← isSame (.ref x) b))) Q E s :=
    wpAny_bind (wpAny_mono told (fun r s' z => by
      obtain ⟨v, rfl, q⟩ := z
      exact wpAny_pure q) fun _ _ z => z)
  unfold richCompare
  simp only [oneThing_ref]
  refine wpAny_holding (wpAny_bind (wpAny_cRoomFor (Nat.lt_of_succ_lt hu) ?_))
  refine wpAny_bind (I.type.here (wpAny_bind (hb.here ?_)))
  split
  · rename_i ne
    have e : PySem.W.subIn K tb (.ref C) = some false := by
      rcases Bool.or_eq_true_iff.mp hn with z | z
      · rw [beq_iff_eq.mp z] at ne; simp at ne
      · exact beq_iff_eq.mp z
    refine wpAny_bind ((PySem.W.looks_subIn XK e).here ?_)
    simp only [Bool.false_eq_true, if_false]
    exact ends
  · refine wpAny_bind (wpAny_pure ?_)
    simp only [Bool.false_eq_true, if_false]
    exact ends
theorem no_int {a : Int} {tk : Tok} {dx : Addr} {R : Value → Shared → Prop}
    (ho : s.heap.get? x = some (PySem.W.instObj C dx))
    (q : R .notImplemented s) :
    wpAny (model prog w) A (call (.builtin "int.__eq__") [.int a tk, .ref x]) R
      E s := by
  refine wpAny_call_entry F.slot_int_eq rfl F.entry_int_eq ?_
    (F.args_int_eq_2 _ _)
  obtain ⟨hp, g, d, t, os⟩ := s
  wp_walk using SeqAt.wpAny_loadPart' ho, wpAny_load ho
  exact ⟨_, rfl, q⟩
theorem no_bool {a : Bool} {dx : Addr} {R : Value → Shared → Prop}
    (ho : s.heap.get? x = some (PySem.W.instObj C dx))
    (q : R .notImplemented s) :
    wpAny (model prog w) A (call (.builtin "int.__eq__") [.bool a, .ref x]) R
      E s := by
  refine wpAny_call_entry F.slot_bool_eq rfl F.entry_int_eq ?_
    (F.args_int_eq_2 _ _)
  obtain ⟨hp, g, d, t, os⟩ := s
  wp_walk using SeqAt.wpAny_loadPart' ho, wpAny_load ho
  exact ⟨_, rfl, q⟩
theorem no_str {a : Str} {tk : Tok} {dx : Addr} {R : Value → Shared → Prop}
    (ho : s.heap.get? x = some (PySem.W.instObj C dx))
    (q : R .notImplemented s) :
    wpAny (model prog w) A (call (.builtin "str.__eq__") [.str a tk, .ref x]) R
      E s := by
  refine wpAny_call_entry F.slot_str_eq rfl F.entry_str_eq ?_
    (F.args_str_eq_2 _ _)
  obtain ⟨hp, g, d, t, os⟩ := s
  wp_walk using SeqAt.wpAny_loadPart' ho, wpAny_load ho
  exact ⟨_, rfl, q⟩
theorem no_none {dx : Addr} {R : Value → Shared → Prop}
    (ho : s.heap.get? x = some (PySem.W.instObj C dx))
    (q : R .notImplemented s) :
    wpAny (model prog w) A (call (.builtin "NoneType.__eq__") [.none, .ref x]) R
      E s := by
  refine wpAny_call_entry F.slot_NoneType_eq rfl F.entry_NoneType_eq ?_
    (F.args_NoneType_eq_2 _ _)
  obtain ⟨hp, g, d, t, os⟩ := s
  wp_walk using SeqAt.wpAny_loadPart' ho, wpAny_load ho
  exact ⟨_, rfl, q⟩
theorem no_list {p : Addr} {R : Value → Shared → Prop}
    (XK : K.In s.heap) (I : PySem.W.InstAt s.heap x ox C od)
    (tp : s.TypeIs (.ref p) "list")
    (sub : PySem.W.subIn K (.ref C) (.type "list") = some false)
    (q : R .notImplemented s) :
    wpAny (model prog w) A (call (.builtin "list.__eq__") [.ref p, .ref x]) R
      E s := by
  refine wpAny_call_entry F.slot_list_eq tp F.entry_list_eq ?_
    (F.args_list_eq_2 _ _)
  show wpAny _ _ (isInstance (.ref x) (.type "list") >>= _) _ _ s
  unfold isInstance
  refine wpAny_bind (wpAny_bind (I.type.here ((PySem.W.looks_subIn XK
    sub).here ?_)))
  first
    | exact wpAny_pure ⟨_, rfl, q⟩
    | exact wpAny_bind (wpAny_rule (wpAny_pure ⟨_, rfl, q⟩))
theorem no_tup {p : Addr} {R : Value → Shared → Prop}
    (XK : K.In s.heap) (I : PySem.W.InstAt s.heap x ox C od)
    (tp : s.TypeIs (.ref p) "tuple")
    (sub : PySem.W.subIn K (.ref C) (.type "tuple") = some false)
    (q : R .notImplemented s) :
    wpAny (model prog w) A (call (.builtin "tuple.__eq__") [.ref p, .ref x]) R
      E s := by
  refine wpAny_call_entry F.slot_tuple_eq tp F.entry_tuple_eq ?_
    (F.args_tuple_eq_2 _ _)
  show wpAny _ _ (isInstance (.ref x) (.type "tuple") >>= _) _ _ s
  unfold isInstance
  refine wpAny_bind (wpAny_bind (I.type.here ((PySem.W.looks_subIn XK
    sub).here ?_)))
  first
    | exact wpAny_pure ⟨_, rfl, q⟩
    | exact wpAny_bind (wpAny_rule (wpAny_pure ⟨_, rfl, q⟩))
theorem no_dict {p : Addr} {R : Value → Shared → Prop}
    (XK : K.In s.heap) (I : PySem.W.InstAt s.heap x ox C od)
    (tp : s.TypeIs (.ref p) "dict")
    (sub : PySem.W.subIn K (.ref C) (.type "dict") = some false)
    (q : R .notImplemented s) :
    wpAny (model prog w) A (call (.builtin "dict.__eq__") [.ref p, .ref x]) R
      E s := by
  refine wpAny_call_entry F.slot_dict_eq tp F.entry_dict_eq ?_
    (F.args_dict_eq_2 _ _)
  show wpAny _ _ (isInstance (.ref x) (.type "dict") >>= _) _ _ s
  unfold isInstance
  refine wpAny_bind (wpAny_bind (I.type.here ((PySem.W.looks_subIn XK
    sub).here ?_)))
  first
    | exact wpAny_pure ⟨_, rfl, q⟩
    | exact wpAny_bind (wpAny_rule (wpAny_pure ⟨_, rfl, q⟩))
end
/-! ### the layer's rules -/
/-- what an own instance is compared with, if it is not own -/
inductive Pl (H : Hp) : V → String → Prop where
  | non : Pl H .non "NoneType"
  | bl (b : Bool) : Pl H (.bl b) "bool"
  | int (i : Int) : Pl H (.int i) "int"
  | str (y : Str) : Pl H (.str y) "str"
  | lst {a : Addr} {xs : List V} (e : H a = some (.lst xs)) : Pl H (.ref a) "list"
  | tup {a : Addr} {xs : List V} (e : H a = some (.tup xs)) :
    Pl H (.ref a) "tuple"
  | dK {a : Addr} {kvs : List (Key × V)} (e : H a = some (.dK kvs)) :
    Pl H (.ref a) "dict"
theorem Pl.same {H H' : Hp} {v : V} {T : String} (p : Pl H v T)
    (z : Same H H') : Pl H' v T := by
  cases p with
  | non => exact .non
  | bl b => exact .bl b
  | int i => exact .int i
  | str y => exact .str y
  | lst e => exact .lst (z _ _ e)
  | tup e => exact .tup (z _ _ e)
  | dK e => exact .dK (z _ _ e)
/-- the class at C has nothing to do with the kinds above -/
structure Apart (K : PySem.W.Frag) (C : Addr) : Prop where
  up : ∀ T ∈ ["NoneType", "bool", "int", "str", "list", "tuple", "dict"],
    PySem.W.subIn K (.type T) (.ref C) = some false
  dn : ∀ T ∈ ["NoneType", "bool", "int", "str", "list", "tuple", "dict"],
    PySem.W.subIn K (.ref C) (.type T) = some false
theorem Pl.kind {H : Hp} {v : V} {T : String} (p : Pl H v T) :
    T ∈ ["NoneType", "bool", "int", "str", "list", "tuple", "dict"] := by
  cases p <;> decide
section
variable {X : Cx} {pins : List (Addr × Obj)} {σ : L2.St} {H : Hp} {s : Shared}
theorem Pl.typ {v : V} {T : String} {u : Value} (I : L2.Inv X pins σ H s)
    (p : Pl H v T) (r : RelV v u) : s.TypeIs u T := by
  cases p with
  | non => cases (show u = Value.none from r); rfl
  | bl b => cases (show u = Value.bool b from r); rfl
  | int i => obtain ⟨t, z⟩ := (show ∃ t, u = Value.int i t from r); cases z; rfl
  | str y => obtain ⟨t, z⟩ := (show ∃ t, u = Value.str y t from r); cases z; rfl
  | @lst a xs e =>
    cases (show u = Value.ref a from r)
    obtain ⟨_, _, n, _, z⟩ := (show ObjOk X.prog X.w H s.heap a (.lst xs) from
      I.hok a _ e)
    exact ⟨_, z, rfl⟩
  | @tup a xs e =>
    cases (show u = Value.ref a from r)
    obtain ⟨_, _, _, o, z, c, _⟩ := (show ObjOk X.prog X.w H s.heap a
      (.tup xs) from I.hok a _ e)
    exact ⟨o, z, c⟩
  | @dK a kvs e =>
    cases (show u = Value.ref a from r)
    obtain ⟨_, _, _, _, o, _, _, z, c, _⟩ := (show ObjOk X.prog X.w H s.heap a
      (.dK kvs) from I.hok a _ e)
    exact ⟨o, z, c.1⟩
theorem look_of {M : Model} {u : Value} {T : String} (h : s.TypeIs u T) :
    PySem.W.Looks M s.heap (typeOf u) (.type T) := by
  intro A Q E s' k q
  cases u with
  | ref a =>
    obtain ⟨o, z, c⟩ := h
    exact wpAny_typeOf_ref (k _ _ z) (by rw [c]; exact q)
  | _ => exact wpAny_typeOf (s := s') h q
/-- a value with a type that is known -/
def Typd (K : PySem.W.Frag) (C : Addr) (H : Hp) (y : V) : Prop :=
  (∃ T, Pl H y T) ∨ ∃ (b D dy : Addr) (gs : List (Str × V)), y = .ref b ∧
    H b = some (.ins D dy gs) ∧ PySem.W.notFirst K C (.ref D) = true
theorem Typd.look {M : Model} {C : Addr} {y : V} {u : Value}
    (ap : Apart X.K C) (I : L2.Inv X pins σ H s) (p : Typd X.K C H y)
    (r : RelV y u) : ∃ t, PySem.W.Looks M s.heap (typeOf u) t ∧
      PySem.W.notFirst X.K C t = true := by
  rcases p with ⟨T, p⟩ | ⟨b, D, dy, gs, rfl, hb, n⟩
  · refine ⟨.type T, look_of (p.typ I r), ?_⟩
    unfold PySem.W.notFirst
    rw [ap.up T p.kind]
    simp
  · cases r
    obtain ⟨_, J, _⟩ := ins_get I.hok hb
    obtain ⟨_, J, _⟩ := J.look
    exact ⟨.ref D, J.type, n⟩
end
section
variable {X : Cx} {C f : Addr} {fd : FuncData} {n : Nat} {ps : List Str} {sp : Sp}
/-- x == y, x of the class at C -/
def rEqA (K : PySem.W.Frag) (C : Addr) (sp : Sp) : R2 := fun x y H Q =>
  ∃ a dx fs, x = .ref a ∧ H a = some (.ins C dx fs) ∧ Typd K C H y ∧
    sp [.ref a, y] H (fun v H' => ∃ r, v = .bl r ∧ Q (.bl r) H') E0
theorem op_eqA (S : Spec1 X.K C "__eq__" f fd ps) (ap : Apart X.K C)
    (G : FnOk X.prog X.w X.K X.mg X.base CX0 n f fd ps sp)
    (room : Room n X.A) : OpR X (compareOp .Eq) (rEqA X.K C sp) := by
  intro pins s σ H x y v u Q I rx ry h
  obtain ⟨a, dx, fs, rfl, ha, ty, q⟩ := h
  cases rx
  obtain ⟨mA, J, _⟩ := ins_get I.hok ha
  obtain ⟨od, J, _⟩ := J.look
  obtain ⟨m, hF⟩ := I.fr
  obtain ⟨t, lk, nf⟩ := ty.look (M := model X.prog X.w) ap I ry
  show wpAny _ X.A (richCompare .Eq (.ref a) u) _ _ s
  refine PySem.W.cmp_K (op := .Eq) room.units0 hF I.ok.mod.kin J lk nf S.at_
    S.fn ?_
  refine wpAny_mono (runAt0 G room rfl S.bd I (us := [.ref a, u])
    (vs := [.ref a, y]) (.cons rfl (.cons ry .nil)) q) ?_ (fun _ _ z => z)
  rintro z s' ⟨v, H', I', rv, r, rfl, q'⟩
  cases rv
  exact ⟨.bl r, H', I', rfl, q'⟩
/-- x != y, x of the class at C -/
def rNeA (K : PySem.W.Frag) (C : Addr) (sp : Sp) : R2 := fun x y H Q =>
  ∃ a dx fs, x = .ref a ∧ H a = some (.ins C dx fs) ∧ Typd K C H y ∧
    sp [.ref a, y] H (fun v H' => ∃ r, v = .bl r ∧ Q (.bl (!r)) H') E0
theorem op_neA (S : Spec1 X.K C "__eq__" f fd ps) (ap : Apart X.K C)
    (top : PySem.W.subIn X.K (.ref C) (.type "object") = some true)
    (no : PySem.W.findIn X.K (.ref C) "__ne__" =
      some (some (.builtin "object.__ne__")))
    (G : FnOk X.prog X.w X.K X.mg X.base CX0 n f fd ps sp)
    (room : Room (n + 1) X.A) : OpR X (compareOp .NotEq) (rNeA X.K C sp) := by
  intro pins s σ H x y v u Q I rx ry h
  obtain ⟨a, dx, fs, rfl, ha, ty, q⟩ := h
  cases rx
  obtain ⟨mA, J, _⟩ := ins_get I.hok ha
  obtain ⟨od, J, _⟩ := J.look
  obtain ⟨m, hF⟩ := I.fr
  obtain ⟨t, lk, nf⟩ := ty.look (M := model X.prog X.w) ap I ry
  show wpAny _ X.A (richCompare .NotEq (.ref a) u) _ _ s
  refine ne_left room.in1.units0 hF I.ok.mod.kin J lk nf top no S.at_ S.fn ?_
  refine wpAny_mono (runAt0 (A := X.A.in1) G room.in1 rfl S.bd I
    (us := [.ref a, u]) (vs := [.ref a, y]) (.cons rfl (.cons ry .nil)) q) ?_
    (fun _ _ z => z)
  rintro z s' ⟨v, H', I', rv, r, rfl, q'⟩
  cases rv
  exact ⟨r, rfl, .bl (!r), H', I', rfl, q'⟩
/-- x == y, y of the class at C, x of another kind -/
def rEqR (C : Addr) (sp : Sp) : R2 := fun x y H Q =>
  ∃ a dx fs T, y = .ref a ∧ H a = some (.ins C dx fs) ∧ Pl H x T ∧
    sp [.ref a, x] H (fun v H' => ∃ r, v = .bl r ∧ Q (.bl r) H') E0
theorem op_eqR (S : Spec1 X.K C "__eq__" f fd ps) (ap : Apart X.K C)
    (G : FnOk X.prog X.w X.K X.mg X.base CX0 n f fd ps sp)
    (room : Room n X.A) : OpR X (compareOp .Eq) (rEqR C sp) := by
  intro pins s σ H x y v u Q I rx ry h
  obtain ⟨a, dx, fs, T, rfl, ha, p, q⟩ := h
  cases ry
  obtain ⟨mA, J0, _⟩ := ins_get I.hok ha
  obtain ⟨od, J, _⟩ := J0.look
  obtain ⟨m, hF⟩ := I.fr
  have XK : X.K.In s.heap := I.ok.mod.kin.keeps hF.keep
  have run : wpAny (model X.prog X.w) X.A (call (.ref f) [.ref a, v])
      (PySem.W.CmpBack (EP X pins σ Q)) X.xe s := by
    refine wpAny_mono (runAt0 G room rfl S.bd I (us := [.ref a, v])
      (vs := [.ref a, x]) (.cons rfl (.cons rx .nil)) q) ?_ (fun _ _ z => z)
    rintro z s' ⟨v, H', I', rv, r, rfl, q'⟩
    cases rv
    exact ⟨.bl r, H', I', rfl, q'⟩
  have tv := p.typ I rx
  have sub := ap.dn T p.kind
  show wpAny _ X.A (richCompare .Eq v (.ref a)) _ _ s
  cases p with
  | non =>
    cases (show v = Value.none from rx)
    exact eq_right room.units0 hF I.ok.mod.kin J tv F.slot_NoneType_eq sub
      (fun R z => no_none J0.obj z) S.at_ S.fn run
  | bl b =>
    cases (show v = Value.bool b from rx)
    exact eq_right room.units0 hF I.ok.mod.kin J tv F.slot_bool_eq sub
      (fun R z => no_bool J0.obj z) S.at_ S.fn run
  | int i =>
    obtain ⟨t, z⟩ := (show ∃ t, v = Value.int i t from rx)
    cases z
    exact eq_right room.units0 hF I.ok.mod.kin J tv F.slot_int_eq sub
      (fun R z => no_int J0.obj z) S.at_ S.fn run
  | str y =>
    obtain ⟨t, z⟩ := (show ∃ t, v = Value.str y t from rx)
    cases z
    exact eq_right room.units0 hF I.ok.mod.kin J tv F.slot_str_eq sub
      (fun R z => no_str J0.obj z) S.at_ S.fn run
  | @lst b xs e =>
    cases (show v = Value.ref b from rx)
    exact eq_right room.units0 hF I.ok.mod.kin J tv F.slot_list_eq sub
      (fun R z => no_list XK J tv sub z) S.at_ S.fn run
  | @tup b xs e =>
    cases (show v = Value.ref b from rx)
    exact eq_right room.units0 hF I.ok.mod.kin J tv F.slot_tuple_eq sub
      (fun R z => no_tup XK J tv sub z) S.at_ S.fn run
  | @dK b kvs e =>
    cases (show v = Value.ref b from rx)
    exact eq_right room.units0 hF I.ok.mod.kin J tv F.slot_dict_eq sub
      (fun R z => no_dict XK J tv sub z) S.at_ S.fn run
/-- one of two rules -/
theorem op_or {f : Value → Value → Sem Value} {r1 r2 : R2} (h1 : OpR X f r1)
    (h2 : OpR X f r2) : OpR X f (fun x y H Q => r1 x y H Q ∨ r2 x y H Q) := by
  intro pins s σ H x y v u Q I rx ry h
  rcases h with h | h
  · exact h1 pins s σ H x y v u Q I rx ry h
  · exact h2 pins s σ H x y v u Q I rx ry h
end
end OM
namespace OM
open PySem PySem.Spec PyProof.Rows L2
def topS (i : Nat) : Stmt :=
  PySem.Challenge.pw_ordermerge_k29_logs_equal_and_cloned.main.body.getD i
    (.Pass ⟨0, 0, 0, 0⟩)
abbrev s_InvalidBase_init : Stmt := inClass (topS 3) 0
abbrev N_InvalidBase_init : List Str := ["self", "problem", "position"]
theorem sc_InvalidBase_init : FnScope N_InvalidBase_init
    ["self", "problem", "position"] (defScope s_InvalidBase_init) :=
  ⟨rfl, rfl, rfl, by decide +kernel, rfl,
    by decide +kernel, by decide +kernel⟩
abbrev s_InvalidIndex_init : Stmt := inClass (topS 4) 0
abbrev N_InvalidIndex_init : List Str := ["self", "value"]
theorem sc_InvalidIndex_init : FnScope N_InvalidIndex_init
    ["self", "value"] (defScope s_InvalidIndex_init) :=
  ⟨rfl, rfl, rfl, by decide +kernel, rfl,
    by decide +kernel, by decide +kernel⟩
abbrev s_InvalidReason_init : Stmt := inClass (topS 5) 0
abbrev N_InvalidReason_init : List Str := ["self", "value"]
theorem sc_InvalidReason_init : FnScope N_InvalidReason_init
    ["self", "value"] (defScope s_InvalidReason_init) :=
  ⟨rfl, rfl, rfl, by decide +kernel, rfl,
    by decide +kernel, by decide +kernel⟩
abbrev s_InvalidPosition_init : Stmt := inClass (topS 6) 0
abbrev N_InvalidPosition_init : List Str := ["self", "value"]
theorem sc_InvalidPosition_init : FnScope N_InvalidPosition_init
    ["self", "value"] (defScope s_InvalidPosition_init) :=
  ⟨rfl, rfl, rfl, by decide +kernel, rfl,
    by decide +kernel, by decide +kernel⟩
abbrev s_InvalidCount_init : Stmt := inClass (topS 7) 0
abbrev N_InvalidCount_init : List Str := ["self", "value"]
theorem sc_InvalidCount_init : FnScope N_InvalidCount_init
    ["self", "value"] (defScope s_InvalidCount_init) :=
  ⟨rfl, rfl, rfl, by decide +kernel, rfl,
    by decide +kernel, by decide +kernel⟩
abbrev s_InvalidEntries_init : Stmt := inClass (topS 8) 0
abbrev N_InvalidEntries_init : List Str := ["self", "position"]
theorem sc_InvalidEntries_init : FnScope N_InvalidEntries_init
    ["self", "position"] (defScope s_InvalidEntries_init) :=
  ⟨rfl, rfl, rfl, by decide +kernel, rfl,
    by decide +kernel, by decide +kernel⟩
abbrev s_UnknownItem_init : Stmt := inClass (topS 9) 0
abbrev N_UnknownItem_init : List Str := ["self", "value"]
theorem sc_UnknownItem_init : FnScope N_UnknownItem_init
    ["self", "value"] (defScope s_UnknownItem_init) :=
  ⟨rfl, rfl, rfl, by decide +kernel, rfl,
    by decide +kernel, by decide +kernel⟩
abbrev s_is_name : Stmt := topS 13
abbrev N_is_name : List Str := ["value", "letter"]
theorem sc_is_name : FnScope N_is_name
    ["value"] (defScope s_is_name) :=
  ⟨rfl, rfl, rfl, by decide +kernel, rfl,
    by decide +kernel, by decide +kernel⟩
abbrev s_names_fault : Stmt := topS 14
abbrev N_names_fault : List Str := ["value", "most", "seen", "at", "name"]
theorem sc_names_fault : FnScope N_names_fault
    ["value", "most"] (defScope s_names_fault) :=
  ⟨rfl, rfl, rfl, by decide +kernel, rfl,
    by decide +kernel, by decide +kernel⟩
abbrev s_check_items : Stmt := topS 15
abbrev N_check_items : List Str := ["items", "fault", "problem", "position"]
theorem sc_check_items : FnScope N_check_items
    ["items"] (defScope s_check_items) :=
  ⟨rfl, rfl, rfl, by decide +kernel, rfl,
    by decide +kernel, by decide +kernel⟩
abbrev s_Base_init : Stmt := inClass (topS 16) 0
abbrev N_Base_init : List Str := ["self", "items", "name", "at"]
theorem sc_Base_init : FnScope N_Base_init
    ["self", "items"] (defScope s_Base_init) :=
  ⟨rfl, rfl, rfl, by decide +kernel, rfl,
    by decide +kernel, by decide +kernel⟩
abbrev s_Base_eq : Stmt := inClass (topS 16) 1
abbrev N_Base_eq : List Str := ["self", "other"]
theorem sc_Base_eq : FnScope N_Base_eq
    ["self", "other"] (defScope s_Base_eq) :=
  ⟨rfl, rfl, rfl, by decide +kernel, rfl,
    by decide +kernel, by decide +kernel⟩
abbrev s_Base_len : Stmt := inClass (topS 16) 2
abbrev N_Base_len : List Str := ["self"]
theorem sc_Base_len : FnScope N_Base_len
    ["self"] (defScope s_Base_len) :=
  ⟨rfl, rfl, rfl, by decide +kernel, rfl,
    by decide +kernel, by decide +kernel⟩
abbrev s_Base_repr : Stmt := inClass (topS 16) 3
abbrev N_Base_repr : List Str := ["self"]
theorem sc_Base_repr : FnScope N_Base_repr
    ["self"] (defScope s_Base_repr) :=
  ⟨rfl, rfl, rfl, by decide +kernel, rfl,
    by decide +kernel, by decide +kernel⟩
abbrev s_Base_names : Stmt := inClass (topS 16) 4
abbrev N_Base_names : List Str := ["self"]
theorem sc_Base_names : FnScope N_Base_names
    ["self"] (defScope s_Base_names) :=
  ⟨rfl, rfl, rfl, by decide +kernel, rfl,
    by decide +kernel, by decide +kernel⟩
abbrev s_Base_has_item : Stmt := inClass (topS 16) 5
abbrev N_Base_has_item : List Str := ["self", "value"]
theorem sc_Base_has_item : FnScope N_Base_has_item
    ["self", "value"] (defScope s_Base_has_item) :=
  ⟨rfl, rfl, rfl, by decide +kernel, rfl,
    by decide +kernel, by decide +kernel⟩
abbrev s_Base_position_of : Stmt := inClass (topS 16) 6
abbrev N_Base_position_of : List Str := ["self", "item"]
theorem sc_Base_position_of : FnScope N_Base_position_of
    ["self", "item"] (defScope s_Base_position_of) :=
  ⟨rfl, rfl, rfl, by decide +kernel, rfl,
    by decide +kernel, by decide +kernel⟩
abbrev s_Base_precedes : Stmt := inClass (topS 16) 7
abbrev N_Base_precedes : List Str := ["self", "first", "second"]
theorem sc_Base_precedes : FnScope N_Base_precedes
    ["self", "first", "second"] (defScope s_Base_precedes) :=
  ⟨rfl, rfl, rfl, by decide +kernel, rfl,
    by decide +kernel, by decide +kernel⟩
abbrev s_check_item : Stmt := topS 17
abbrev N_check_item : List Str := ["base", "value"]
theorem sc_check_item : FnScope N_check_item
    ["base", "value"] (defScope s_check_item) :=
  ⟨rfl, rfl, rfl, by decide +kernel, rfl,
    by decide +kernel, by decide +kernel⟩
abbrev s_pair_of : Stmt := topS 18
abbrev N_pair_of : List Str := ["base", "first", "second"]
theorem sc_pair_of : FnScope N_pair_of
    ["base", "first", "second"] (defScope s_pair_of) :=
  ⟨rfl, rfl, rfl, by decide +kernel, rfl,
    by decide +kernel, by decide +kernel⟩
abbrev s_is_integer : Stmt := topS 20
abbrev N_is_integer : List Str := ["value"]
theorem sc_is_integer : FnScope N_is_integer
    ["value"] (defScope s_is_integer) :=
  ⟨rfl, rfl, rfl, by decide +kernel, rfl,
    by decide +kernel, by decide +kernel⟩
abbrev s_is_integer_from : Stmt := topS 21
abbrev N_is_integer_from : List Str := ["value", "low", "high"]
theorem sc_is_integer_from : FnScope N_is_integer_from
    ["value", "low", "high"] (defScope s_is_integer_from) :=
  ⟨rfl, rfl, rfl, by decide +kernel, rfl,
    by decide +kernel, by decide +kernel⟩
abbrev s_is_swap_index : Stmt := topS 23
abbrev N_is_swap_index : List Str := ["base", "value"]
theorem sc_is_swap_index : FnScope N_is_swap_index
    ["base", "value"] (defScope s_is_swap_index) :=
  ⟨rfl, rfl, rfl, by decide +kernel, rfl,
    by decide +kernel, by decide +kernel⟩
abbrev s_check_swap_index : Stmt := topS 24
abbrev N_check_swap_index : List Str := ["base", "index"]
theorem sc_check_swap_index : FnScope N_check_swap_index
    ["base", "index"] (defScope s_check_swap_index) :=
  ⟨rfl, rfl, rfl, by decide +kernel, rfl,
    by decide +kernel, by decide +kernel⟩
abbrev s_exchanged : Stmt := topS 25
abbrev N_exchanged : List Str := ["order", "index"]
theorem sc_exchanged : FnScope N_exchanged
    ["order", "index"] (defScope s_exchanged) :=
  ⟨rfl, rfl, rfl, by decide +kernel, rfl,
    by decide +kernel, by decide +kernel⟩
abbrev s_goes_outward : Stmt := topS 26
abbrev N_goes_outward : List Str := ["base", "order", "index"]
theorem sc_goes_outward : FnScope N_goes_outward
    ["base", "order", "index"] (defScope s_goes_outward) :=
  ⟨rfl, rfl, rfl, by decide +kernel, rfl,
    by decide +kernel, by decide +kernel⟩
abbrev s_order_after_swaps : Stmt := topS 27
abbrev N_order_after_swaps : List Str := ["base", "indexes", "order", "index"]
theorem sc_order_after_swaps : FnScope N_order_after_swaps
    ["base", "indexes"] (defScope s_order_after_swaps) :=
  ⟨rfl, rfl, rfl, by decide +kernel, rfl,
    by decide +kernel, by decide +kernel⟩
abbrev s_pairs_of_swaps : Stmt := topS 28
abbrev N_pairs_of_swaps : List Str := ["base", "indexes", "order", "pairs", "index"]
theorem sc_pairs_of_swaps : FnScope N_pairs_of_swaps
    ["base", "indexes"] (defScope s_pairs_of_swaps) :=
  ⟨rfl, rfl, rfl, by decide +kernel, rfl,
    by decide +kernel, by decide +kernel⟩
abbrev s_is_reason : Stmt := topS 31
abbrev N_is_reason : List Str := ["value"]
theorem sc_is_reason : FnScope N_is_reason
    ["value"] (defScope s_is_reason) :=
  ⟨rfl, rfl, rfl, by decide +kernel, rfl,
    by decide +kernel, by decide +kernel⟩
abbrev s_check_reason : Stmt := topS 32
abbrev N_check_reason : List Str := ["reason"]
theorem sc_check_reason : FnScope N_check_reason
    ["reason"] (defScope s_check_reason) :=
  ⟨rfl, rfl, rfl, by decide +kernel, rfl,
    by decide +kernel, by decide +kernel⟩
abbrev s_SwapLog_init : Stmt := inClass (topS 33) 0
abbrev N_SwapLog_init : List Str := ["self", "base"]
theorem sc_SwapLog_init : FnScope N_SwapLog_init
    ["self", "base"] (defScope s_SwapLog_init) :=
  ⟨rfl, rfl, rfl, by decide +kernel, rfl,
    by decide +kernel, by decide +kernel⟩
abbrev s_SwapLog_eq : Stmt := inClass (topS 33) 1
abbrev N_SwapLog_eq : List Str := ["self", "other"]
theorem sc_SwapLog_eq : FnScope N_SwapLog_eq
    ["self", "other"] (defScope s_SwapLog_eq) :=
  ⟨rfl, rfl, rfl, by decide +kernel, rfl,
    by decide +kernel, by decide +kernel⟩
abbrev s_SwapLog_len : Stmt := inClass (topS 33) 2
abbrev N_SwapLog_len : List Str := ["self"]
theorem sc_SwapLog_len : FnScope N_SwapLog_len
    ["self"] (defScope s_SwapLog_len) :=
  ⟨rfl, rfl, rfl, by decide +kernel, rfl,
    by decide +kernel, by decide +kernel⟩
abbrev s_SwapLog_repr : Stmt := inClass (topS 33) 3
abbrev N_SwapLog_repr : List Str := ["self"]
theorem sc_SwapLog_repr : FnScope N_SwapLog_repr
    ["self"] (defScope s_SwapLog_repr) :=
  ⟨rfl, rfl, rfl, by decide +kernel, rfl,
    by decide +kernel, by decide +kernel⟩
abbrev s_SwapLog_base : Stmt := inClass (topS 33) 4
abbrev N_SwapLog_base : List Str := ["self"]
theorem sc_SwapLog_base : FnScope N_SwapLog_base
    ["self"] (defScope s_SwapLog_base) :=
  ⟨rfl, rfl, rfl, by decide +kernel, rfl,
    by decide +kernel, by decide +kernel⟩
abbrev s_SwapLog_order : Stmt := inClass (topS 33) 5
abbrev N_SwapLog_order : List Str := ["self"]
theorem sc_SwapLog_order : FnScope N_SwapLog_order
    ["self"] (defScope s_SwapLog_order) :=
  ⟨rfl, rfl, rfl, by decide +kernel, rfl,
    by decide +kernel, by decide +kernel⟩
abbrev s_SwapLog_entries : Stmt := inClass (topS 33) 6
abbrev N_SwapLog_entries : List Str := ["self"]
theorem sc_SwapLog_entries : FnScope N_SwapLog_entries
    ["self"] (defScope s_SwapLog_entries) :=
  ⟨rfl, rfl, rfl, by decide +kernel, rfl,
    by decide +kernel, by decide +kernel⟩
abbrev s_SwapLog_indexes : Stmt := inClass (topS 33) 7
abbrev N_SwapLog_indexes : List Str := ["self", "index", "reason"]
theorem sc_SwapLog_indexes : FnScope N_SwapLog_indexes
    ["self"] (defScope s_SwapLog_indexes) :=
  ⟨rfl, rfl, rfl, by decide +kernel, rfl,
    by decide +kernel, by decide +kernel⟩
abbrev s_SwapLog_swap : Stmt := inClass (topS 33) 8
abbrev N_SwapLog_swap : List Str := ["self", "index", "reason"]
theorem sc_SwapLog_swap : FnScope N_SwapLog_swap
    ["self", "index", "reason"] (defScope s_SwapLog_swap) :=
  ⟨rfl, rfl, rfl, by decide +kernel, rfl,
    by decide +kernel, by decide +kernel⟩
abbrev s_SwapLog_swap_checked : Stmt := inClass (topS 33) 9
abbrev N_SwapLog_swap_checked : List Str := ["self", "index", "reason", "cancelled"]
theorem sc_SwapLog_swap_checked : FnScope N_SwapLog_swap_checked
    ["self", "index", "reason"] (defScope s_SwapLog_swap_checked) :=
  ⟨rfl, rfl, rfl, by decide +kernel, rfl,
    by decide +kernel, by decide +kernel⟩
abbrev s_SwapLog_swap_each : Stmt := inClass (topS 33) 10
abbrev N_SwapLog_swap_each : List Str := ["self", "indexes", "reason", "cancelled", "index"]
theorem sc_SwapLog_swap_each : FnScope N_SwapLog_swap_each
    ["self", "indexes", "reason"] (defScope s_SwapLog_swap_each) :=
  ⟨rfl, rfl, rfl, by decide +kernel, rfl,
    by decide +kernel, by decide +kernel⟩
abbrev s_SwapLog_move : Stmt := inClass (topS 33) 11
abbrev N_SwapLog_move : List Str := ["self", "item", "index", "reason", "start"]
theorem sc_SwapLog_move : FnScope N_SwapLog_move
    ["self", "item", "index", "reason"] (defScope s_SwapLog_move) :=
  ⟨rfl, rfl, rfl, by decide +kernel, rfl,
    by decide +kernel, by decide +kernel⟩
abbrev s_SwapLog_check_position : Stmt := inClass (topS 33) 13
abbrev N_SwapLog_check_position : List Str := ["self", "position"]
theorem sc_SwapLog_check_position : FnScope N_SwapLog_check_position
    ["self", "position"] (defScope s_SwapLog_check_position) :=
  ⟨rfl, rfl, rfl, by decide +kernel, rfl,
    by decide +kernel, by decide +kernel⟩
abbrev s_SwapLog_remove_entry : Stmt := inClass (topS 33) 14
abbrev N_SwapLog_remove_entry : List Str := ["self", "position", "former", "again", "places", "at", "index", "reason", "cancelled"]
theorem sc_SwapLog_remove_entry : FnScope N_SwapLog_remove_entry
    ["self", "position"] (defScope s_SwapLog_remove_entry) :=
  ⟨rfl, rfl, rfl, by decide +kernel, rfl,
    by decide +kernel, by decide +kernel⟩
abbrev s_SwapLog_clear_entries : Stmt := inClass (topS 33) 15
abbrev N_SwapLog_clear_entries : List Str := ["self"]
theorem sc_SwapLog_clear_entries : FnScope N_SwapLog_clear_entries
    ["self"] (defScope s_SwapLog_clear_entries) :=
  ⟨rfl, rfl, rfl, by decide +kernel, rfl,
    by decide +kernel, by decide +kernel⟩
abbrev s_SwapLog_order_after : Stmt := inClass (topS 33) 16
abbrev N_SwapLog_order_after : List Str := ["self", "count"]
theorem sc_SwapLog_order_after : FnScope N_SwapLog_order_after
    ["self", "count"] (defScope s_SwapLog_order_after) :=
  ⟨rfl, rfl, rfl, by decide +kernel, rfl,
    by decide +kernel, by decide +kernel⟩
abbrev s_SwapLog_pair_at : Stmt := inClass (topS 33) 17
abbrev N_SwapLog_pair_at : List Str := ["self", "position"]
theorem sc_SwapLog_pair_at : FnScope N_SwapLog_pair_at
    ["self", "position"] (defScope s_SwapLog_pair_at) :=
  ⟨rfl, rfl, rfl, by decide +kernel, rfl,
    by decide +kernel, by decide +kernel⟩
abbrev s_SwapLog_entry_for : Stmt := inClass (topS 33) 18
abbrev N_SwapLog_entry_for : List Str := ["self", "first", "second", "pair", "pairs"]
theorem sc_SwapLog_entry_for : FnScope N_SwapLog_entry_for
    ["self", "first", "second"] (defScope s_SwapLog_entry_for) :=
  ⟨rfl, rfl, rfl, by decide +kernel, rfl,
    by decide +kernel, by decide +kernel⟩
abbrev s_SwapLog_clone : Stmt := inClass (topS 33) 19
abbrev N_SwapLog_clone : List Str := ["self", "other"]
theorem sc_SwapLog_clone : FnScope N_SwapLog_clone
    ["self"] (defScope s_SwapLog_clone) :=
  ⟨rfl, rfl, rfl, by decide +kernel, rfl,
    by decide +kernel, by decide +kernel⟩
abbrev s_is_entry : Stmt := topS 34
abbrev N_is_entry : List Str := ["base", "value"]
theorem sc_is_entry : FnScope N_is_entry
    ["base", "value"] (defScope s_is_entry) :=
  ⟨rfl, rfl, rfl, by decide +kernel, rfl,
    by decide +kernel, by decide +kernel⟩
abbrev s_log_from_entries : Stmt := topS 35
abbrev N_log_from_entries : List Str := ["base", "entries", "log", "at", "entry"]
theorem sc_log_from_entries : FnScope N_log_from_entries
    ["base", "entries"] (defScope s_log_from_entries) :=
  ⟨rfl, rfl, rfl, by decide +kernel, rfl,
    by decide +kernel, by decide +kernel⟩
abbrev s_Lrng : Stmt := topS 37
abbrev N_Lrng : List Str := ["_law_script", "_law_k", "_law_cell"]
theorem sc_Lrng : FnScope N_Lrng
    ["_law_script", "_law_k"] (defScope s_Lrng) :=
  ⟨rfl, rfl, rfl, by decide +kernel, rfl,
    by decide +kernel, by decide +kernel⟩
abbrev s_Ldraw : Stmt := topS 38
abbrev N_Ldraw : List Str := ["_law_rng_here", "_law_many", "_law_digit"]
theorem sc_Ldraw : FnScope N_Ldraw
    ["_law_rng_here", "_law_many"] (defScope s_Ldraw) :=
  ⟨rfl, rfl, rfl, by decide +kernel, rfl,
    by decide +kernel, by decide +kernel⟩
abbrev s_Lchoice : Stmt := topS 39
abbrev N_Lchoice : List Str := ["_law_rng_here", "_law_options"]
theorem sc_Lchoice : FnScope N_Lchoice
    ["_law_rng_here", "_law_options"] (defScope s_Lchoice) :=
  ⟨rfl, rfl, rfl, by decide +kernel, rfl,
    by decide +kernel, by decide +kernel⟩
abbrev s_Lname : Stmt := topS 40
abbrev N_Lname : List Str := ["_law_rng_here", "_law_used", "_law_letters", "_law_length", "_law_name_here", "_law_k", "_law_fresh", "_law_one"]
theorem sc_Lname : FnScope N_Lname
    ["_law_rng_here", "_law_used"] (defScope s_Lname) :=
  ⟨rfl, rfl, rfl, by decide +kernel, rfl,
    by decide +kernel, by decide +kernel⟩
abbrev s_Lnames : Stmt := topS 41
abbrev N_Lnames : List Str := ["_law_rng_here", "_law_many", "_law_used", "_law_result", "_law_k"]
theorem sc_Lnames : FnScope N_Lnames
    ["_law_rng_here", "_law_many", "_law_used"] (defScope s_Lnames) :=
  ⟨rfl, rfl, rfl, by decide +kernel, rfl,
    by decide +kernel, by decide +kernel⟩
abbrev s_Lswapped_entries : Stmt := topS 42
abbrev N_Lswapped_entries : List Str := ["_law_items", "_law_entries", "_law_order", "_law_index", "_law_label_here", "_law_first", "_law_second", "_law_now", "_law_position", "_law_entry", "_law_at"]
theorem sc_Lswapped_entries : FnScope N_Lswapped_entries
    ["_law_items", "_law_entries", "_law_order", "_law_index", "_law_label_here"] (defScope s_Lswapped_entries) :=
  ⟨rfl, rfl, rfl, by decide +kernel, rfl,
    by decide +kernel, by decide +kernel⟩
abbrev s_Lbegun : Stmt := topS 43
abbrev N_Lbegun : List Str := ["_law_items"]
theorem sc_Lbegun : FnScope N_Lbegun
    ["_law_items"] (defScope s_Lbegun) :=
  ⟨rfl, rfl, rfl, by decide +kernel, rfl,
    by decide +kernel, by decide +kernel⟩
abbrev s_Lswap_done : Stmt := topS 44
abbrev N_Lswap_done : List Str := ["_law_state", "_law_at", "_law_label_here", "_law_items", "_law_order", "_law_entries", "_law_cancelled"]
theorem sc_Lswap_done : FnScope N_Lswap_done
    ["_law_state", "_law_at", "_law_label_here"] (defScope s_Lswap_done) :=
  ⟨rfl, rfl, rfl, by decide +kernel, rfl,
    by decide +kernel, by decide +kernel⟩
abbrev s_Llabel : Stmt := topS 45
abbrev N_Llabel : List Str := ["_law_rng_here"]
theorem sc_Llabel : FnScope N_Llabel
    ["_law_rng_here"] (defScope s_Llabel) :=
  ⟨rfl, rfl, rfl, by decide +kernel, rfl,
    by decide +kernel, by decide +kernel⟩
abbrev s_Lswapped : Stmt := topS 46
abbrev N_Lswapped : List Str := ["_law_rng_here", "_law_log", "_law_state", "_law_at", "_law_label_here", "_law_due", "_law_result"]
theorem sc_Lswapped : FnScope N_Lswapped
    ["_law_rng_here", "_law_log", "_law_state"] (defScope s_Lswapped) :=
  ⟨rfl, rfl, rfl, by decide +kernel, rfl,
    by decide +kernel, by decide +kernel⟩
abbrev s_Lis : Stmt := topS 47
abbrev N_Lis : List Str := ["_law_log", "_law_state", "_law_told"]
theorem sc_Lis : FnScope N_Lis
    ["_law_log", "_law_state"] (defScope s_Lis) :=
  ⟨rfl, rfl, rfl, by decide +kernel, rfl,
    by decide +kernel, by decide +kernel⟩
abbrev s_Lcopied : Stmt := topS 48
abbrev N_Lcopied : List Str := ["_law_state"]
theorem sc_Lcopied : FnScope N_Lcopied
    ["_law_state"] (defScope s_Lcopied) :=
  ⟨rfl, rfl, rfl, by decide +kernel, rfl,
    by decide +kernel, by decide +kernel⟩
abbrev s_Lturned : Stmt := topS 49
abbrev N_Lturned : List Str := ["_law_rng_here", "_law_logs", "_law_states", "_law_k", "_law_way", "_law_other", "_law_given", "_law_at", "_law_label_here", "_law_order"]
theorem sc_Lturned : FnScope N_Lturned
    ["_law_rng_here", "_law_logs", "_law_states"] (defScope s_Lturned) :=
  ⟨rfl, rfl, rfl, by decide +kernel, rfl,
    by decide +kernel, by decide +kernel⟩
abbrev s_Lasked_right : Stmt := topS 50
abbrev N_Lasked_right : List Str := ["_law_log", "_law_state", "_law_order", "_law_pairs", "_law_orders", "_law_at", "_law_label_here", "_law_many", "_law_k", "_law_first", "_law_last", "_law_due", "_law_upper", "_law_lower"]
theorem sc_Lasked_right : FnScope N_Lasked_right
    ["_law_log", "_law_state"] (defScope s_Lasked_right) :=
  ⟨rfl, rfl, rfl, by decide +kernel, rfl,
    by decide +kernel, by decide +kernel⟩
abbrev s_Lall_right : Stmt := topS 51
abbrev N_Lall_right : List Str := ["_law_logs", "_law_states", "_law_k", "_law_shown", "_law_j", "_law_due"]
theorem sc_Lall_right : FnScope N_Lall_right
    ["_law_logs", "_law_states"] (defScope s_Lall_right) :=
  ⟨rfl, rfl, rfl, by decide +kernel, rfl,
    by decide +kernel, by decide +kernel⟩
abbrev s_Lunlike : Stmt := topS 52
abbrev N_Lunlike : List Str := ["_law_log", "_law_items", "_law_others", "_law_other"]
theorem sc_Lunlike : FnScope N_Lunlike
    ["_law_log", "_law_items"] (defScope s_Lunlike) :=
  ⟨rfl, rfl, rfl, by decide +kernel, rfl,
    by decide +kernel, by decide +kernel⟩
abbrev s_Lright : Stmt := topS 53
abbrev N_Lright : List Str := ["_law_rng_here", "_law_items", "_law_given", "_law_first", "_law_logs", "_law_states", "_law_k", "_law_turn", "_law_log"]
theorem sc_Lright : FnScope N_Lright
    ["_law_rng_here"] (defScope s_Lright) :=
  ⟨rfl, rfl, rfl, by decide +kernel, rfl,
    by decide +kernel, by decide +kernel⟩
abbrev s_law : Stmt := topS 54
abbrev N_law : List Str := ["_law_script", "_law_k"]
theorem sc_law : FnScope N_law
    ["_law_script"] (defScope s_law) :=
  ⟨rfl, rfl, rfl, by decide +kernel, rfl,
    by decide +kernel, by decide +kernel⟩
end OM
namespace OM
open PySem PySem.Spec PyProof.Rows L2
section
variable {P : Program} {w : World} {K : PySem.W.Frag}
  {mg : Str → Option Value} {base : Heap}
theorem at0 (x y : V) : atI [x, y] 0 = some x := atI_nat (j := 0) rfl
theorem at1 (x y : V) : atI [x, y] 1 = some y := atI_nat (j := 1) rfl
theorem ok_draw {f : Addr} {fd : FuncData} {k : Nat}
    (F : Fun K "_law_draw" "_law_draw" s_Ldraw f fd) (B : Bl mg) :
    FnOk P w K mg base CX0 (k + 1) f fd ["_law_rng_here", "_law_many"]
      spDraw := by
  refine F.ok sc_Ldraw (fun vs H Q E h => ?_)
    (fun cv A outer s H vs Q E hr h => ?_)
  · obtain ⟨p, m, rfl, _⟩ := h
    rfl
  obtain ⟨p, m, rfl, rg, m0, m1, q⟩ := h
  obtain ⟨a, b, hp, a0, b0, b1⟩ := rg
  have nd := sc_Ldraw.nd
  refine ⟨_, pss_cons (ps_if (pt_cmpR op_gt
      (pe_ix ix_list (pv 0) pe_int (fun _ _ => rfl)) pe_int (nomark _))
      (pss_cons (ps_asg (pe_callB call_divmod (by rfl) B.divmod bt_divmod
          (pa_cons (pe_ix ix_list (pv 0) pe_int (fun _ _ => rfl))
            (pa_cons (pv 1) pa_nil)))
        (pg_tup rfl (pgs_cons (pg_sub (pv 0) pe_int set_list)
          (pgs_cons (pg_name (i := 2) nd rfl (.inl rfl)) pgs_nil))))
        (pss_one (ps_ret (pv 2)))) pss_nil)
    (pss_cons (ps_asg (pe_op op_mod (pe_op op_add (pe_op op_mul
        (pe_ix ix_list (pv 0) pe_int (fun _ _ => rfl)) pe_int) pe_int) pe_int)
        (pg_sub (pv 0) pe_int set_list))
    (pss_one (ps_ret (pe_op op_mod (pe_op op_fdiv (pe_op op_mod (pe_op op_mul
        (pe_ix ix_list (pv 0) pe_int (fun _ _ => rfl))
        (pe_ix ix_list (pv 0) pe_int (fun _ _ => rfl))) pe_int) pe_int)
        (pv 1))))), ?_⟩
  refine ⟨_, rfl, p, _, 0, _, rfl, rfl, SqL.of hp, at0 _ _, _, _, rfl, rfl,
    _, rfl, ite2 (fun c => ?_) (fun c => ?_)⟩
  · have c' : 0 < a := of_decide_eq_true c
    refine ⟨_, rfl, p, _, 0, _, rfl, rfl, SqL.of hp, at0 _ _, _, rfl, a, m,
      rfl, ⟨m0, by omega⟩, fun t nt => ?_⟩
    have nt' : p ≠ t := ne_of_none hp nt
    have hp' : (upd H t (.tup [.int (a / m), .int (a % m)])) p =
        some (.lst [.int a, .int b]) := by rw [upd_ne nt']; exact hp
    refine ⟨t, _, rfl, .inl (.inl upd_same), rfl, _, _, rfl, _, rfl, p, _, 0,
      0, rfl, rfl, hp', rfl, _, _, rfl, rfl, _, rfl, ?_⟩
    refine q _ _ (Int.emod_nonneg _ (by omega)) (Int.emod_lt_of_pos _ m0)
      ⟨a / m, b, upd_same, Int.ediv_nonneg a0 (by omega), b0, b1⟩ ?_
    exact ((But.refl H).new nt).at
  · have b2 : 0 ≤ (b * 48271 + 10007) % 2147483587 :=
      Int.emod_nonneg _ (by decide)
    have b3 : (b * 48271 + 10007) % 2147483587 < 2147483587 :=
      Int.emod_lt_of_pos _ (by decide)
    refine ⟨_, rfl, p, _, 1, _, rfl, rfl, SqL.of hp, at1 _ _, _, _, rfl, rfl,
      .inl ⟨by omega, by omega⟩, _, _, rfl, rfl, _, _, rfl, rfl,
      (by show (0 : Int) < 2147483587; decide), _, rfl, p, _, 1, 1, rfl, rfl,
      hp, rfl, ?_⟩
    have hp' : (upd H p (.lst [.int a,
        .int ((b * 48271 + 10007) % 2147483587)])) p = _ := upd_same
    refine ⟨_, rfl, p, _, 1, _, rfl, rfl, SqL.of hp', at1 _ _, _, rfl, p, _,
      1, _, rfl, rfl, SqL.of hp', at1 _ _, _, _, rfl, rfl,
      .inl ⟨by omega, by omega⟩, _, _, rfl, rfl,
      (by show (0 : Int) < 2147483549; decide), _, _, rfl, rfl,
      ⟨by decide, by decide⟩, _, rfl, _, _, rfl, rfl, m0, ?_⟩
    refine q _ _ (Int.emod_nonneg _ (by omega)) (Int.emod_lt_of_pos _ m0)
      ⟨a, _, upd_same, a0, b2, by omega⟩ (But.refl H).at
end
end OM
namespace OM
open PySem PySem.Spec PyProof.Rows L2
section
variable {P : Program} {w : World} {K : PySem.W.Frag}
  {mg : Str → Option Value} {base : Heap}
theorem ifx_cut {tA : TT} {ta tb : TE} {σ : L2.St} {H : Hp} {R : VK}
    (v : V) (h : ∀ R : VK, R v H → tIf tA ta tb σ H R) (k : R v H) :
    tIf tA ta tb σ H R := h R k
theorem ok_rng {f : Addr} {fd : FuncData} {k : Nat}
    (F : Fun K "_law_rng" "_law_rng" s_Lrng f fd) (B : Bl mg) :
    FnOk P w K mg base CX0 (k + 1) f fd ["_law_script", "_law_k"]
      (spRng K) := by
  refine F.ok sc_Lrng (fun vs H Q E h => ?_)
    (fun cv A outer s H vs Q E hr h => ?_)
  · obtain ⟨a, ns, k, rfl, _⟩ := h
    rfl
  obtain ⟨a, ns, n, rfl, hS, hn, q⟩ := h
  have nd := sc_Lrng.nd
  refine ⟨_, pss_cons (ps_set (i := 2) nd rfl (.inl rfl) (pe_ifExp
      (pt_cmpR op_lt (pv 1) (pe_callB call_len_seq (by rfl) B.len
        PySem.boot_len (pa_cons (pv 0) pa_nil)) (nomark _))
      (pe_callB call_abs (by rfl) B.abs bt_abs
        (pa_cons (pe_ix ix_list (pv 0) (pv 1) (fun _ _ => rfl)) pa_nil))
      pe_int))
    (pss_one (ps_ret (pe_lst (pa_cons
      (pe_callB (call_max2 rfl) (by rfl) B.max bt_max
        (pa_cons pe_int (pa_cons (pe_op op_sub (pv 2)
          (pe_op op_pow pe_int pe_int)) pa_nil)))
      (pa_cons (pe_op op_add (pe_op op_mod (pe_op op_pow
        (pe_op op_add (pe_op op_add (pe_op op_mod (pv 2) pe_int)
          (pe_op op_mul pe_int (pv 1))) pe_int) pe_int) pe_int) pe_int)
        pa_nil))))), ?_⟩
  obtain ⟨c, hc⟩ : ∃ c : Int, (n < ns.length → c =
      if ns.getD n 0 < 0 then - ns.getD n 0 else ns.getD n 0) ∧
      (¬ n < ns.length → c = 0) := by
    by_cases h : n < ns.length
    · exact ⟨_, fun _ => rfl, fun z => absurd h z⟩
    · exact ⟨0, fun z => absurd z h, fun _ => rfl⟩
  refine ifx_cut (.int c) (fun R hR => ?_) ?_
  · refine ⟨_, rfl, _, rfl, a, _, rfl, .inl hS, _, _, rfl, rfl, _, rfl,
      ite2 (fun z => ?_) (fun z => ?_)⟩
    · have z' : (n : Int) < ((ns.map V.int).length : Int) :=
        of_decide_eq_true z
      rw [List.length_map] at z'
      have hn' : n < ns.length := by omega
      have g : (ns.map V.int)[n]? = some (.int (ns.getD n 0)) := by
        rw [List.getElem?_map, List.getElem?_eq_getElem hn',
          List.getD_eq_getElem?_getD, List.getElem?_eq_getElem hn']
        rfl
      refine ⟨_, rfl, _, rfl, a, _, n, _, rfl, rfl, hS, atI_nat g, _, rfl, ?_⟩
      rw [← hc.1 hn']
      exact hR
    · have z' : ¬ n < ns.length := fun y => z (decide_eq_true (by
        rw [List.length_map]; omega))
      rw [hc.2 z'] at hR
      exact hR
  · have c0 : 0 ≤ c % 2147483543 := Int.emod_nonneg _ (by decide)
    have c1 : c % 2147483543 < 2147483543 :=
      Int.emod_lt_of_pos _ (by decide)
    refine ⟨_, rfl, _, _, rfl, rfl, ⟨by decide, by decide, by decide⟩, _, _,
      rfl, rfl, _, _, rfl, _, rfl, _, _, rfl, rfl,
      (by show (0 : Int) < 2147483543; decide), _, rfl, _, _, rfl, rfl,
      .inl ⟨by decide, by decide⟩, _, _, rfl, rfl, _, _, rfl, rfl, _, _, rfl,
      rfl, ⟨by decide, by decide, by omega⟩, _, _, rfl, rfl,
      (by show (0 : Int) < 2147483497; decide), _, _, rfl, rfl,
      (by show 2 ≤ sizeLine; decide), fun p np => ?_⟩
    generalize hb : ((c % 2147483543 + 101 * (n : Int) + 7) ^
      (2 : Int).toNat) % 2147483497 = b
    have b0 : 0 ≤ b := by rw [← hb]; exact Int.emod_nonneg _ (by decide)
    have b1 : b < 2147483497 := by
      rw [← hb]; exact Int.emod_lt_of_pos _ (by decide)
    refine q p _ np ⟨_, b + 1, upd_same, ?_, by omega, by omega⟩
      (sameNew np)
    split <;> omega
end
end OM
namespace OM
open PySem PySem.Spec PyProof.Rows L2
abbrev lets : Str := "abcdefghijklmnopqrstuvwxyz"
theorem lets_tl : lets.cps.toList = List.range' 97 26 := by decide +kernel
theorem lets_at {i : Int} (h0 : 0 ≤ i) (h1 : i < 26) :
    atI lets.cps.toList i = some (97 + i.toNat) := by
  have e : i = ((i.toNat : Nat) : Int) := by omega
  rw [e, lets_tl]
  refine atI_nat ?_
  rw [Int.toNat_natCast, List.getElem?_range' (by omega)]
  simp
theorem yes {σ : L2.St} {H : Hp} {A B : Hp → Prop} (h : A H) :
    tYes σ H fun b H' => if b = true then A H' else B H' :=
  iteT (B := B H) h
theorem joinL_ones : ∀ cs : List Nat,
    TL.joinL [] (cs.map fun c => [c]) = cs
  | [] => rfl
  | [c] => rfl
  | c :: d :: r => by
    have ih := joinL_ones (d :: r)
    show [c] ++ [] ++ TL.joinL [] ((d :: r).map fun c => [c]) = _
    rw [ih]
    rfl
def nmB (l : List Nat) : Bool :=
  decide (1 ≤ l.length) && decide (l.length ≤ 8) &&
    l.all fun c => decide (97 ≤ c) && decide (c ≤ 122)
theorem nmB_iff {l : List Nat} : nmB l = true ↔ Nm l := by
  unfold nmB
  simp only [Bool.and_eq_true, decide_eq_true_eq, List.all_eq_true]
  exact ⟨fun ⟨⟨a, b⟩, c⟩ => ⟨a, b, c⟩, fun n => ⟨⟨n.lo, n.hi⟩, n.az⟩⟩
theorem nm_of (x : Str) (h : nmB x.cps.toList = true) :
    ∃ l, (.str x : V) = vS l ∧ Nm l :=
  ⟨x.cps.toList, by rw [vS, SX.S_tl], nmB_iff.mp h⟩
/-- an item of eight written ones -/
theorem at8 {α : Type} {P : α → Prop} {a b c d e f g h : α} {i : Int}
    (h0 : 0 ≤ i) (h1 : i < 8) (pa : P a) (pb : P b) (pc : P c) (pd : P d)
    (pe : P e) (pf : P f) (pg : P g) (ph : P h) :
    ∃ v, atI [a, b, c, d, e, f, g, h] i = some v ∧ P v := by
  have e : i = 0 ∨ i = 1 ∨ i = 2 ∨ i = 3 ∨ i = 4 ∨ i = 5 ∨ i = 6 ∨ i = 7 := by
    omega
  rcases e with rfl | rfl | rfl | rfl | rfl | rfl | rfl | rfl
  · exact ⟨a, rfl, pa⟩
  · exact ⟨b, rfl, pb⟩
  · exact ⟨c, rfl, pc⟩
  · exact ⟨d, rfl, pd⟩
  · exact ⟨_, rfl, pe⟩
  · exact ⟨f, rfl, pf⟩
  · exact ⟨g, rfl, pg⟩
  · exact ⟨h, rfl, ph⟩
theorem at4 {α : Type} {P : α → Prop} {a b c d : α} {i : Int}
    (h0 : 0 ≤ i) (h1 : i < 4) (pa : P a) (pb : P b) (pc : P c) (pd : P d) :
    ∃ v, atI [a, b, c, d] i = some v ∧ P v := by
  have e : i = 0 ∨ i = 1 ∨ i = 2 ∨ i = 3 := by omega
  rcases e with rfl | rfl | rfl | rfl
  · exact ⟨a, rfl, pa⟩
  · exact ⟨b, rfl, pb⟩
  · exact ⟨c, rfl, pc⟩
  · exact ⟨d, rfl, pd⟩
/-- a new name that is not among us -/
def spName (K : PySem.W.Frag) : Sp := fun vs H Q _ =>
  ∃ (p a : Addr) (us : List (List Nat)), vs = [.ref p, .ref a] ∧ Rng H p ∧
  SqL K H a (us.map vS) ∧ a ≠ p ∧ us.length ≤ 600 ∧
  ∀ (l : List Nat) (H' : Hp), Nm l → l ∉ us → Rng H' p → But p H H' →
    Q (vS l) H'
section
variable {P : Program} {w : World} {K : PySem.W.Frag}
  {mg : Str → Option Value} {base : Heap}
abbrev CalDraw (P : Program) (w : World) (K : PySem.W.Frag)
    (mg : Str → Option Value) (base : Heap) (k : Nat) : Prop :=
  Cal P w K mg base k "_law_draw" ["_law_rng_here", "_law_many"] spDraw
theorem ok_name {f : Addr} {fd : FuncData} {k : Nat}
    (F : Fun K "_law_name" "_law_name" s_Lname f fd) (B : Bl mg)
    (C : CalDraw P w K mg base k) :
    FnOk P w K mg base CX0 (k + 1) f fd ["_law_rng_here", "_law_used"]
      (spName K) := by
  refine F.ok sc_Lname (fun vs H Q E h => ?_)
    (fun cv A outer s H vs Q E hr h => ?_)
  · obtain ⟨p, a, us, rfl, _⟩ := h
    rfl
  obtain ⟨p, a, us, rfl, rg, hS, nap, hus, q⟩ := h
  have nd := sc_Lname.nd
  refine ⟨_, C8.pss_cut (ps_set (i := 2) nd rfl (.inr rfl) pe_str)
    (C8.pss_cut (ps_set (i := 3) nd rfl (.inl rfl) (pe_ix ix_list
      (pe_lst (pa_cons pe_int (pa_cons pe_int (pa_cons pe_int (pa_cons
        (pe_op op_add pe_int (pe_cal C hr (pa_cons (pv 0)
          (pa_cons pe_int pa_nil)))) pa_nil)))))
      (pe_cal C hr (pa_cons (pv 0) (pa_cons pe_int pa_nil)))
      (fun _ _ => rfl)))
    (C8.pss_cut (ps_set (i := 4) nd rfl (.inr rfl) (pe_join pe_str
      (pe_lc (own := [("_law_k", 5)]) (g := gName 5) (tt := tYes) rfl nd
        (pi_range1 (by rfl) B.range (pa_cons (pv 3) pa_nil))
        (blkOk_by (N := N_Lname) (sc := defScope s_Lname) (by decide +kernel))
        (fun _ _ _ _ _ => pg_name (i := 5) nd rfl (Or.inl rfl))
        (fun _ _ _ _ _ => pts_nil)
        (fun _ _ _ _ _ => pe_ix ix_str (pv 2)
          (pe_cal C hr (pa_cons (pv 0) (pa_cons pe_int pa_nil)))
          (fun _ _ => rfl)))))
    (C8.pss_cut (ps_if (pt_cmpR op_eq (pe_cal C hr (pa_cons (pv 0)
        (pa_cons pe_int pa_nil))) pe_int (nomark _))
      (pss_one (ps_set (i := 4) nd rfl (.inr rfl) (pe_ix ix_list
        (pe_lst (pa_cons pe_str (pa_cons pe_str (pa_cons pe_str (pa_cons
          pe_str (pa_cons pe_str (pa_cons pe_str (pa_cons pe_str (pa_cons
          pe_str pa_nil)))))))))
        (pe_cal C hr (pa_cons (pv 0) (pa_cons pe_int pa_nil)))
        (fun _ _ => rfl)))) pss_nil)
    (C8.pss_cut (ps_set (i := 6) nd rfl (.inl rfl) (pe_op op_cat
      (pe_lst (pa_cons (pv 4) pa_nil))
      (pe_lc (own := [("_law_k", 5)]) (g := gName 5) (tt := tYes) rfl nd
        (pi_range1 (by rfl) B.range (pa_cons pe_int pa_nil))
        (blkOk_by (N := N_Lname) (sc := defScope s_Lname) (by decide +kernel))
        (fun _ _ _ _ _ => pg_name (i := 5) nd rfl (Or.inl rfl))
        (fun _ _ _ _ _ => pts_nil)
        (fun _ _ _ _ _ => pe_op op_add_str (pe_op op_add_str
          (pe_slice sl_str (pv 4) po_none (po_some pe_int))
          (pe_ix ix_str (pv 2) (pe_op op_fdiv (pv 5) pe_int)
            (fun _ _ => rfl)))
          (pe_ix ix_str (pv 2) (pe_op op_mod (pv 5) pe_int)
            (fun _ _ => rfl))))))
    (pss_one (ps_ret (pe_ix ix_list
      (pe_lc (own := [("_law_one", 7)]) (g := gName 7) rfl nd
        (pi_list (pv 6))
        (blkOk_by (N := N_Lname) (sc := defScope s_Lname) (by decide +kernel))
        (fun _ _ _ _ _ => pg_name (i := 7) nd rfl (Or.inl rfl))
        (fun _ _ _ _ _ => pts_one (pt_cmpR (r := rIn K true) op_notIn_seq (pv 7) (pv 1) (by rfl)))
        (fun _ _ _ _ _ => pv 7))
      pe_int (fun _ _ => rfl)))))))), ?_⟩
  -- letters
  refine ⟨fun σ' H' => σ' = [some (.ref p), some (.ref a), some (.str lets),
    none, none, none, none, none] ∧ H = H', ⟨rfl, rfl⟩, ?_⟩
  rintro _ _ ⟨rfl, rfl⟩
  -- length
  refine ⟨fun σ' H' => ∃ n : Int, 1 ≤ n ∧ n ≤ 8 ∧ σ' = [some (.ref p),
    some (.ref a), some (.str lets), some (.int n), none, none, none, none] ∧
    Rng H' p ∧ But p H H', ?_, ?_⟩
  · refine ⟨_, rfl, p, 8, rfl, rg, by decide, by decide,
      fun d H1 d0 d1 rg1 b1 => ⟨_, _, rfl, rfl, sz (by simp), fun t nt =>
      ⟨_, rfl, p, 4, rfl, rg1.same (sameNew nt), by decide, by decide,
      fun d2 H2 e0 e1 rg2 b2 => ?_⟩⟩⟩
    have ne : t ≠ p := (rg1.ne nt).symm
    obtain ⟨v, hv, n, rfl, n0, n1⟩ := at4 (a := V.int 1) (b := V.int 1)
      (c := V.int 2) (d := V.int (1 + d))
      (P := fun v => ∃ n : Int, v = .int n ∧ 1 ≤ n ∧ n ≤ 8) e0 e1
      ⟨1, rfl, by omega, by omega⟩ ⟨1, rfl, by omega, by omega⟩
      ⟨2, rfl, by omega, by omega⟩ ⟨1 + d, rfl, by omega, by omega⟩
    exact ⟨t, _, d2, _, rfl, rfl, SqL.of (b2 t _ upd_same ne), hv, n, n0, n1,
      rfl, rg2, (b1.put nt ne).trans b2⟩
  rintro _ H1 ⟨n, n0, n1, rfl, rg1, b1⟩
  -- the letters drawn
  refine ⟨fun σ' H' => ∃ l, Nm l ∧ σ' = [some (.ref p), some (.ref a),
    some (.str lets), some (.int n), some (vS l), none, none, none] ∧
    Rng H' p ∧ But p H H', ?_, ?_⟩
  · refine ⟨⟨_, rfl⟩, _, rfl, n, rfl, by omega, by omega, fun D nD => ?_⟩
    have ne : D ≠ p := (rg1.ne nD).symm
    refine lc_range (lo := 0) (n := n.toNat) (fun i H' => ∃ cs : List Nat,
      cs.length = i ∧ (∀ c ∈ cs, 97 ≤ c ∧ c ≤ 122) ∧
      H' D = some (.lst (cs.map fun c => vS [c])) ∧ Rng H' p ∧ But p H H')
      ⟨[], rfl, nofun, upd_same, rg1.same (sameNew nD), b1.put nD ne⟩ ?_ ?_
    · rintro i H2 hi ⟨cs, hl, az, hD, rg2, b2⟩
      refine ⟨rfl, yes ⟨_, rfl, _, rfl, p, 26, rfl, rg2, by decide,
        by decide, fun d H3 d0 d1 rg3 b3 => ⟨_, d, _, rfl, rfl,
        sz (by decide), lets_at d0 d1, _, b3 D _ hD ne, ?_, cs ++
        [97 + d.toNat], ?_, ?_, ?_, ?_, ?_⟩⟩⟩
      · rw [List.length_map]
        exact sz' (by omega)
      · rw [List.length_append, hl]
        rfl
      · intro c hc
        rcases List.mem_append.mp hc with h | h
        · exact az c h
        · rcases List.mem_cons.mp h with h | h
          · omega
          · cases h
      · rw [upd_same, List.map_append]
        rfl
      · exact rg3.but (But.at (p := D) (But.refl H3)) ne.symm
      · exact (b2.trans b3).new (b1.free ne nD)
    · rintro H2 ⟨cs, hl, az, hD, rg2, b2⟩
      refine ⟨_, D, cs.map fun c => SX.S [c], rfl, rfl,
        .inl (SqL.of (by rw [List.map_map]; exact hD)), ?_, cs,
        ⟨by omega, by omega, az⟩, ?_, rg2, b2⟩
      · have e1 : ((cs.map fun c => SX.S [c]).map fun x => x.length).sum =
            cs.length := by
          rw [List.map_map]
          clear hl az hD
          induction cs with
          | nil => rfl
          | cons c cs ih =>
            rw [List.map_cons, List.sum_cons, ih, List.length_cons]
            show 1 + cs.length = cs.length + 1
            omega
        rw [e1, List.length_map, show (Str.ofString "").length = 0 from rfl]
        omega
      · have e2 : Txt.join (Str.ofString "") (cs.map fun c => SX.S [c]) =
            SX.S cs := by
          have := SX.join_S [] (cs.map fun c => [c])
          rw [List.map_map, joinL_ones] at this
          exact this
        rw [e2]
        rfl
  rintro _ H2 ⟨l, nl, rfl, rg2, b2⟩
  -- a command's name
  refine ⟨fun σ' H' => ∃ l, Nm l ∧ σ' = [some (.ref p), some (.ref a),
    some (.str lets), some (.int n), some (vS l), none, none, none] ∧
    Rng H' p ∧ But p H H', ?_, ?_⟩
  · refine ⟨_, rfl, p, 8, rfl, rg2, by decide, by decide,
      fun d H3 d0 d1 rg3 b3 => ⟨rfl, _, rfl, ite2 (fun _ => ?_)
        (fun _ => ⟨l, nl, rfl, rg3, b2.trans b3⟩)⟩⟩
    refine ⟨sz (by decide), fun t nt => ⟨_, rfl, p, 8, rfl,
      rg3.same (sameNew nt), by decide, by decide,
      fun d2 H4 e0 e1 rg4 b4 => ?_⟩⟩
    have ne : t ≠ p := (rg3.ne nt).symm
    obtain ⟨v, hv, l', rfl, nl'⟩ := at8 (P := fun v => ∃ l, v = vS l ∧ Nm l)
      e0 e1 (nm_of "swap" (by decide +kernel)) (nm_of "move" (by decide +kernel))
      (nm_of "base" (by decide +kernel)) (nm_of "users" (by decide +kernel))
      (nm_of "merged" (by decide +kernel)) (nm_of "log" (by decide +kernel))
      (nm_of "ok" (by decide +kernel)) (nm_of "undo" (by decide +kernel))
    exact ⟨t, _, d2, _, rfl, rfl, SqL.of (b4 t _ upd_same ne), hv, l', nl',
      rfl, rg4, ((b2.trans b3).put nt ne).trans b4⟩
  clear nl rg2 b2
  rintro _ H2 ⟨l, nl, rfl, rg2, b2⟩
  -- names to fall back upon
  refine ⟨fun σ' H' => ∃ fr, σ' = [some (.ref p), some (.ref a),
    some (.str lets), some (.int n), some (vS l), none, some (.ref fr), none]
    ∧ fr ≠ p ∧ H' fr = some (.lst ((fresh l).map vS)) ∧
    Rng H' p ∧ But p H H', ?_, ?_⟩
  · refine ⟨_, rfl, sz (by simp), fun t nt => ?_⟩
    have ne : t ≠ p := (rg2.ne nt).symm
    refine ⟨676, rfl, by decide, by decide, fun D nD => ?_⟩
    have rg3 : Rng (upd H2 t (.lst [vS l])) p := rg2.same (sameNew nt)
    have neD : D ≠ p := (rg3.ne nD).symm
    have net : t ≠ D := fun e => by rw [← e, upd_same] at nD; cases nD
    have b3 : But p H (upd H2 t (.lst [vS l])) := b2.put nt ne
    refine lc_range (lo := 0) (n := 676) (fun i H' =>
      H' D = some (.lst (((List.range i).map (frs6 l)).map vS)) ∧
      H' t = some (.lst [vS l]) ∧ Rng H' p ∧ But p H H')
      ⟨upd_same, by rw [upd_ne net, upd_same], rg3.same (sameNew nD),
        b3.put nD neD⟩ ?_ ?_
    · rintro i H4 hi ⟨hD, ht, rg4, b4⟩
      have f1 : 0 ≤ (0 + (i : Int)) / 26 := by omega
      have f2 : (0 + (i : Int)) / 26 < 26 := by omega
      have f3 : 0 ≤ (0 + (i : Int)) % 26 := by omega
      have f4 : (0 + (i : Int)) % 26 < 26 := by omega
      have ll := nl.hi
      have ec : cutS (SX.S l) none (some 6) = SX.S (l.take 6) := by
        rw [C8.cutS_slice, SX.slice_to (by decide)]
        rfl
      refine ⟨rfl, yes ⟨_, rfl, 6, rfl, SX.S l, rfl,
        sz (by rw [SX.S_len]; omega), _, rfl, _, rfl, _, _, rfl, rfl,
        ⟨by decide, by decide⟩, _, _, _, rfl, rfl, sz (by decide),
        lets_at f1 f2, _, _, rfl, rfl, ?_, _, rfl, _, rfl, _, _, rfl, rfl,
        (by show (0 : Int) < 26; decide), _, _, _, rfl, rfl, sz (by decide),
        lets_at f3 f4, _, _, rfl, rfl, ?_, _, hD, ?_, ?_, ?_, ?_, ?_⟩⟩
      · rw [ec, SX.S_len, List.length_take]
        show min 6 l.length + 1 ≤ _
        exact sz (by omega)
      · rw [ec, strLen_append, SX.S_len, List.length_take]
        show min 6 l.length + 1 + 1 ≤ _
        exact sz (by omega)
      · rw [List.length_map, List.length_map, List.length_range]
        exact sz' (by omega)
      · rw [upd_same, ec]
        have e5 : SX.S (l.take 6) ++ (⟨#[97 + ((0 + (i : Int)) / 26).toNat]⟩ :
            Str) ++ ⟨#[97 + ((0 + (i : Int)) % 26).toNat]⟩ =
            SX.S (frs6 l i) := by
          have e6 : ((0 + (i : Int)) / 26).toNat = i / 26 := by omega
          have e7 : ((0 + (i : Int)) % 26).toNat = i % 26 := by omega
          rw [e6, e7]
          show SX.S (l.take 6) ++ SX.S [97 + i / 26] ++ SX.S [97 + i % 26] = _
          rw [SX.S_cat, SX.S_cat]
          unfold frs6
          rw [List.append_assoc]
          rfl
        rw [e5, List.range_succ, List.map_append, List.map_append]
        rfl
      · rw [upd_ne net]
        exact ht
      · exact rg4.but (But.at (p := D) (But.refl H4)) neD.symm
      · exact b4.new (b3.free neD nD)
    · rintro H4 ⟨hD, ht, rg4, b4⟩
      refine ⟨t, D, _, _, rfl, rfl, ht, hD, ?_, fun fr nfr => ⟨fr, rfl,
        (rg4.ne nfr).symm, ?_, rg4.same (sameNew nfr),
        b4.put nfr (rg4.ne nfr).symm⟩⟩
      · rw [List.length_map, List.length_map, List.length_range]
        exact sz (by simp)
      · rw [upd_same]
        rfl
  clear rg2 b2
  rintro _ H3 ⟨fr, rfl, nfp, hfr, rg3, b3⟩
  -- the first one that is free
  refine ⟨_, rfl, fr, rfl, ⟨_, SqL.of hfr⟩, fun D nD => ?_⟩
  have neD : D ≠ p := (rg3.ne nD).symm
  have nfD : fr ≠ D := ne_of_none hfr nD
  have hS3 : SqL K H3 a (us.map vS) := b3.seq hS nap
  have naD : SqL K (upd H3 D (.lst [])) a (us.map vS) := (sameNew nD).seq hS3
  refine lc_list (K := K) (a := fr) (xs := (fresh l).map vS) (fun i H' =>
    H' D = some (.lst ((((fresh l).take i).filter
      (fun y => decide (y ∉ us))).map vS)) ∧
    H' fr = some (.lst ((fresh l).map vS)) ∧ Rng H' p ∧ But p H3 H' ∧
    SqL K H' a (us.map vS))
    ⟨upd_same, by rw [upd_ne nfD]; exact hfr, rg3.same (sameNew nD),
      (But.refl H3).put nD neD, naD⟩ (fun i H' _ z => SqL.of z.2.1) ?_ ?_
  · rintro i y H4 hy ⟨hD, hf, rg4, b4, hS4⟩
    rw [List.getElem?_map] at hy
    obtain ⟨x, hx, rfl⟩ : ∃ x, (fresh l)[i]? = some x ∧ vS x = y := by
      cases e : (fresh l)[i]? with
      | none => rw [e] at hy; cases hy
      | some x => rw [e] at hy; exact ⟨x, rfl, Option.some.inj hy⟩
    have et : (fresh l).take (i + 1) = (fresh l).take i ++ [x] := by
      rw [List.take_add_one, hx]
      rfl
    refine ⟨rfl, _, rfl, _, rfl, a, _, rfl, .inl hS4, rfl, flat_S us, _, rfl,
      ?_⟩
    rw [inV_S]
    have hlen : ((((fresh l).take i).filter
        (fun y => decide (y ∉ us))).map vS).length < sizeLine := by
      rw [List.length_map]
      refine sz' (Nat.lt_of_le_of_lt (List.length_filter_le _ _) ?_)
      rw [List.length_take]
      have : (fresh l).length = 677 := by
        unfold fresh
        rw [List.length_cons, List.length_map, List.length_range]
      omega
    by_cases hm : x ∈ us
    · rw [decide_eq_true hm]
      refine iteF ⟨?_, hf, rg4, b4, hS4⟩
      rw [hD, et, List.filter_append, List.filter_cons_of_neg (by simp [hm]),
        List.filter_nil, List.append_nil]
    · rw [decide_eq_false hm]
      refine iteT ⟨_, rfl, _, hD, hlen, ?_, ?_, ?_, ?_, ?_⟩
      · rw [upd_same, et, List.filter_append,
          List.filter_cons_of_pos (by simp [hm]), List.filter_nil,
          List.map_append]
        rfl
      · rw [upd_ne nfD]
        exact hf
      · exact rg4.but (But.at (p := D) (But.refl H4)) neD.symm
      · exact b4.new nD
      · have naD' : But D H4 (upd H4 D (.lst ((((fresh l).take i).filter
            (fun y => decide (y ∉ us))).map vS ++ [vS x]))) :=
          But.at (But.refl H4)
        by_cases had : a = D
        · subst had
          rcases hS3 with (h | ⟨o, h⟩) | h
          · rw [h] at nD; cases nD
          · rw [h] at nD; cases nD
          · exact .inr h
        · exact naD'.seq hS4 had
  · rintro H4 ⟨hD, hf, rg4, b4, hS4⟩
    obtain ⟨x, r, ex⟩ := fresh_some (l := l) (us := us) (by omega)
    rw [List.take_of_length_le (by rw [List.length_map]; exact Nat.le_refl _),
      ex] at hD
    have mx : x ∈ (fresh l).filter (fun y => decide (y ∉ us)) := by
      rw [ex]; exact List.mem_cons_self
    have mx' := List.mem_filter.mp mx
    exact ⟨D, _, 0, _, rfl, rfl, SqL.of hD, atI_nat (j := 0) rfl,
      q x H4 (fresh_nm nl x mx'.1) (of_decide_eq_true mx'.2) rg4
        (b3.trans b4)⟩
end
end OM
namespace OM
open PySem PySem.Spec PyProof.Rows L2
/-- some new names -/
def spNames : Sp := fun vs H Q _ =>
  ∃ (p u : Addr) (m : Nat) (us : List (List Nat)),
  vs = [.ref p, .int m, .ref u] ∧ Rng H p ∧ H u = some (.lst (us.map vS)) ∧
  u ≠ p ∧ m ≤ 100 ∧ us.length ≤ 400 ∧
  ∀ (q : Addr) (ls : List (List Nat)) (H' : Hp), H q = none →
    ls.length = m → (∀ l ∈ ls, Nm l) → ls.Nodup → (∀ l ∈ ls, l ∉ us) →
    H' q = some (.lst (ls.map vS)) → Rng H' p → But p H H' →
    Q (.ref q) H'
section
variable {P : Program} {w : World} {K : PySem.W.Frag}
  {mg : Str → Option Value} {base : Heap}
theorem ok_names {f : Addr} {fd : FuncData} {k : Nat}
    (F : Fun K "_law_names" "_law_names" s_Lnames f fd) (B : Bl mg)
    (C : Cal P w K mg base k "_law_name" ["_law_rng_here", "_law_used"]
      (spName K)) :
    FnOk P w K mg base CX0 (k + 1) f fd
      ["_law_rng_here", "_law_many", "_law_used"] spNames := by
  refine F.ok sc_Lnames (fun vs H Q E h => ?_)
    (fun cv A outer s H vs Q E hr h => ?_)
  · obtain ⟨p, u, m, us, rfl, _⟩ := h
    rfl
  obtain ⟨p, u, m, us, rfl, rg, hu, nup, hm, hus, q⟩ := h
  have nd := sc_Lnames.nd
  refine ⟨_, pss_cons (ps_set (i := 3) nd rfl (.inl rfl) (pe_lst pa_nil))
    (pss_cons (ps_for PassesOwn.never rfl
      (pi_range1 (by rfl) B.range (pa_cons (pv 1) pa_nil))
      (pg_name (i := 4) nd rfl (.inl rfl))
      (pss_one (ps_expr (pe_bm PySem.F.plainAttrs_list
        PySem.F.slot_list_append PySem.F.type_list_append mt_append (pv 3)
        (pa_cons (pe_cal C hr (pa_cons (pv 0) (pa_cons
          (pe_op op_cat (pv 2) (pv 3)) pa_nil))) pa_nil)))))
    (pss_one (ps_ret (pv 3)))), ?_⟩
  refine ⟨sz (by simp), fun r nr => ?_⟩
  have nrp : r ≠ p := (rg.ne nr).symm
  have nru : u ≠ r := ne_of_none hu nr
  refine ⟨_, rfl, m, rfl, by omega, by omega, ?_⟩
  refine for_range (lo := 0) (n := m) (fun i σ H' => ∃ (ls : List (List Nat))
      (v : Option V), σ = [some (.ref p), some (.int m), some (.ref u),
      some (.ref r), v] ∧ ls.length = i ∧ (∀ l ∈ ls, Nm l) ∧ ls.Nodup ∧
      (∀ l ∈ ls, l ∉ us) ∧ H' r = some (.lst (ls.map vS)) ∧ Rng H' p ∧
      But p H H')
    ⟨[], none, rfl, rfl, nofun, List.nodup_nil, nofun, upd_same,
      rg.same (sameNew nr), (But.refl H).put nr nrp⟩ ?_ ?_
  · rintro i σ H1 hi ⟨ls, v, rfl, hl, nm, nd1, no, h1, rg1, b1⟩
    refine ⟨_, rfl, .inl ⟨rfl, _, SqL.of h1⟩, _, rfl, _, rfl, _, rfl, u, r,
      _, _, rfl, rfl, b1 u _ hu nup, h1, ?_, fun t nt => ?_⟩
    · rw [List.length_map, List.length_map]
      exact sz (by omega)
    have ntp : t ≠ p := (rg1.ne nt).symm
    have ntr : r ≠ t := ne_of_none h1 nt
    refine ⟨p, t, us ++ ls, rfl, rg1.same (sameNew nt), ?_, ntp, ?_,
      fun l H2 nl ni rg2 b2 => ?_⟩
    · rw [List.map_append]
      exact SqL.of upd_same
    · rw [List.length_append]
      omega
    · have h2 : H2 r = some (.lst (ls.map vS)) :=
        b2 r _ (by rw [upd_ne ntr]; exact h1) nrp
      refine ⟨r, _, _, rfl, rfl, h2, ?_, ls ++ [l], _, rfl, ?_, ?_, ?_, ?_, ?_,
        ?_, ?_⟩
      · rw [List.length_map]
        exact sz' (by omega)
      · rw [List.length_append, hl]
        rfl
      · intro x hx
        rcases List.mem_append.mp hx with h | h
        · exact nm x h
        · rw [List.mem_singleton.mp h]
          exact nl
      · refine List.nodup_append.mpr ⟨nd1, by simp, ?_⟩
        intro x hx y hy e
        rw [List.mem_singleton.mp hy] at e
        exact ni (List.mem_append_right _ (e ▸ hx))
      · intro x hx
        rcases List.mem_append.mp hx with h | h
        · exact no x h
        · rw [List.mem_singleton.mp h]
          exact fun z => ni (List.mem_append_left _ z)
      · rw [upd_same, List.map_append]
        rfl
      · exact rg2.but (But.at (p := r) (But.refl H2)) nrp.symm
      · exact ((b1.put nt ntp).trans b2).new nr
  · rintro σ H1 ⟨ls, v, rfl, hl, nm, nd1, no, h1, rg1, b1⟩
    exact ⟨_, rfl, q r ls H1 nr hl nm nd1 no h1 rg1 b1⟩
end
end OM
namespace OM
open PySem PySem.Spec PyProof.Rows L2
theorem lt1 (c d : Nat) : decide (([c] : List Nat) < [d]) = decide (c < d) := by
  by_cases h : c < d
  · rw [decide_eq_true h]
    refine decide_eq_true ?_
    rw [List.cons_lt_cons_iff]
    exact Or.inl h
  · rw [decide_eq_false h]
    refine decide_eq_false fun z => ?_
    rw [List.cons_lt_cons_iff] at z
    rcases z with z | ⟨_, z⟩
    · exact h z
    · exact absurd z (by simp)
def azB (c : Nat) : Bool := decide (97 ≤ c) && decide (c ≤ 122)
theorem all_az (l : List Nat) :
    ((l.map azB).all id) = l.all azB := by
  rw [List.all_map]
  rfl
/-- is it a name: a text, or a value of another type -/
def spIsName (K : PySem.W.Frag) : Sp := fun vs H Q _ => ∃ v, vs = [v] ∧
  ((∃ x : Str, v = .str x ∧ x.length ≤ sizeLine ∧ ∀ H', Same H H' →
      Q (.bl (nmB x.cps.toList)) H') ∨
   (∃ t, TyX K H v t ∧ PySem.W.kitOne K t (.type "str") = some false ∧
      Q (.bl false) H))
section
variable {P : Program} {w : World} {K : PySem.W.Frag}
  {mg : Str → Option Value} {base : Heap}
theorem ok_isname {f : Addr} {fd : FuncData} {k : Nat}
    (F : Fun K "is_name" "is_name" s_is_name f fd) (B : Bl mg)
    {t8 : Tok} (m8 : mg "MAX_NAME_LENGTH" = some (.int 8 t8)) :
    FnOk P w K mg base CX0 (k + 1) f fd ["value"] (spIsName K) := by
  refine F.ok sc_is_name (fun vs H Q E h => ?_)
    (fun cv A outer s H vs Q E hr h => ?_)
  · obtain ⟨v, rfl, _⟩ := h
    rfl
  obtain ⟨v, rfl, h⟩ := h
  have nd := sc_is_name.nd
  refine ⟨_, pss_cons (ps_if (pt_mid (PW.pt (pw_or (pt_not (pt_val
      (pe_callB call_isi (by rfl) B.isi bt_isi (pa_cons (pv 0) (pa_cons
        (pe_bltn (v := .ty "str") (by rfl) B.str bt_str rfl) pa_nil)))))
      (pw_or1 (pt_not (pt_chain op_le op_le pe_int
        (pe_callB call_len_str (by rfl) B.len PySem.boot_len
          (pa_cons (pv 0) pa_nil))
        (pe_glob (v := .int 8) (by rfl) m8 ⟨_, rfl⟩)))))))
      (pss_one (ps_ret pe_bl)) pss_nil)
    (pss_one (ps_ret (pe_callB (cr_all rfl) (by rfl) B.all bt_all (pa_cons
      (pe_lc (own := [("letter", 1)]) (g := gName 1) (tt := tYes) rfl nd
        (pi_str (pv 0))
        (blkOk_by (N := N_is_name) (sc := defScope s_is_name)
          (by decide +kernel))
        (fun _ _ _ _ _ => pg_name (i := 1) nd rfl (Or.inl rfl))
        (fun _ _ _ _ _ => pts_nil)
        (fun _ _ _ _ _ => pe_mid (pe_chain op_le_str op_le_str pe_str
          (pv 1) pe_str))) pa_nil)))), ?_⟩
  rcases h with ⟨x, rfl, hx, q⟩ | ⟨t, ty, kt, q⟩
  · refine ⟨fun b H' => b = !(decide (1 ≤ x.length) && decide (x.length ≤ 8)) ∧
      H = H', ?_, ?_⟩
    · refine ⟨_, rfl, _, _, _, _, true, rfl, .ty "str", .base (.str x),
        kit_ty (by decide +kernel), _, rfl, iteF ?_⟩
      refine ⟨_, rfl, x, rfl, hx, _, _, rfl, rfl, _, rfl, ite2 (fun c => ?_)
        (fun c => ?_)⟩
      · have c' : (1 : Int) ≤ x.length := of_decide_eq_true c
        refine ⟨_, _, rfl, rfl, _, rfl, ?_, rfl⟩
        rw [decide_eq_true (show 1 ≤ x.length by omega), Bool.true_and]
        congr 1
        exact decide_eq_decide.mpr ⟨fun z => by omega, fun z => by omega⟩
      · refine ⟨_, rfl, ?_, rfl⟩
        rw [decide_eq_false (show ¬ 1 ≤ x.length from fun z =>
          c (decide_eq_true (by omega)))]
        rfl
    · rintro b _ ⟨rfl, rfl⟩
      by_cases c : 1 ≤ x.length ∧ x.length ≤ 8
      · rw [decide_eq_true c.1, decide_eq_true c.2]
        refine iteF ⟨_, rfl, x, rfl, fun D nD => ?_⟩
        refine lc_it walk_str (fun i H' => H' D = some (.lst
          (((x.cps.toList.take i).map azB).map V.bl)) ∧ Same H H')
          ⟨upd_same, sameNew nD⟩ (fun _ _ _ _ => trivial) ?_ ?_
        · rintro i v _ H1 hi ⟨hD, sm⟩ ⟨rfl, c0, hc, rfl⟩
          have hc' : x.cps.toList[i]? = some c0 := by
            rw [Array.getElem?_toList]; exact hc
          refine ⟨rfl, yes ⟨fun v H' => v = .bl (azB c0) ∧ H1 = H', ?_, ?_⟩⟩
          · refine ⟨_, rfl, _, _, rfl, rfl, _, rfl, ite2 (fun z => ?_)
              (fun z => ?_)⟩
            · refine ⟨_, _, rfl, rfl, ?_, rfl⟩
              have z' : ¬ c0 < 97 := by
                rw [show (Str.ofString "a").cps.toList = [97] by
                  decide +kernel, lt1] at z
                simpa using z
              rw [show (Str.ofString "z").cps.toList = [122] by
                decide +kernel, lt1]
              unfold azB
              rw [decide_eq_true (show 97 ≤ c0 by omega), Bool.true_and]
              congr 1
              by_cases y : c0 ≤ 122
              · rw [decide_eq_true y, decide_eq_false (by omega)]
                rfl
              · rw [decide_eq_false y, decide_eq_true (by omega)]
                rfl
            · refine ⟨?_, rfl⟩
              have z' : c0 < 97 := by
                rw [show (Str.ofString "a").cps.toList = [97] by
                  decide +kernel, lt1] at z
                simpa using z
              unfold azB
              rw [decide_eq_false (show ¬ 97 ≤ c0 by omega)]
              rfl
          · rintro v _ ⟨rfl, rfl⟩
            refine ⟨_, hD, ?_, ?_, ?_⟩
            · rw [List.length_map, List.length_map, List.length_take]
              refine sz' ?_
              have : x.length = x.cps.toList.length := TL.len_tl x
              omega
            · rw [upd_same, List.take_add_one, hc', List.map_append,
                List.map_append]
              rfl
            · exact OM.Same.put sm nD
        · rintro H1 ⟨hD, sm⟩
          rw [List.take_of_length_le (by
            rw [Array.length_toList]; exact Nat.le_refl _)] at hD
          refine ⟨D, _, rfl, SqL.of hD, ?_⟩
          rw [all_az]
          have := q H1 sm
          unfold nmB at this
          rw [← TL.len_tl x] at this
          rw [decide_eq_true c.1, decide_eq_true c.2, Bool.true_and,
            Bool.true_and] at this
          exact this
      · have e : (decide (1 ≤ x.length) && decide (x.length ≤ 8)) = false := by
          by_cases c1 : 1 ≤ x.length
          · rw [decide_eq_false (show ¬ x.length ≤ 8 from fun z => c ⟨c1, z⟩)]
            exact Bool.and_false _
          · rw [decide_eq_false c1]
            exact Bool.false_and _
        rw [e]
        refine iteT ?_
        have := q H (Same.refl H)
        unfold nmB at this
        rw [← TL.len_tl x, e, Bool.false_and] at this
        exact this
  · refine ⟨fun b H' => b = true ∧ H = H', ?_, ?_⟩
    · exact ⟨_, rfl, _, _, _, _, false, rfl, .ty "str", ty, kt, _, rfl,
        iteT ⟨rfl, rfl⟩⟩
    · rintro b _ ⟨rfl, rfl⟩
      exact iteT q
end
end OM
namespace OM
open PySem PySem.Spec PyProof.Rows L2
/-- what makes a base -/
structure Good (ls : List (List Nat)) : Prop where
  nm : ∀ l ∈ ls, Nm l
  nd : ls.Nodup
  lo : 1 ≤ ls.length
  hi : ls.length ≤ 40
theorem Nm.len {l : List Nat} (n : Nm l) : (SX.S l).length ≤ sizeLine := by
  rw [SX.S_len]
  have := n.hi
  exact sz (by omega)
theorem Nm.b {l : List Nat} (n : Nm l) : nmB (SX.S l).cps.toList = true :=
  nmB_iff.mpr n
theorem get_map {ls : List (List Nat)} {i : Nat} {v : V}
    (h : (ls.map vS)[i]? = some v) : ∃ l, ls[i]? = some l ∧ v = vS l := by
  rw [List.getElem?_map] at h
  cases e : ls[i]? with
  | none => rw [e] at h; cases h
  | some l => rw [e] at h; exact ⟨l, rfl, (Option.some.inj h).symm⟩
theorem nodup_take {α : Type} {ls : List α} {i : Nat} {l : α}
    (nd : ls.Nodup) (h : ls[i]? = some l) : l ∉ ls.take i := by
  intro hm
  obtain ⟨j, hj, e⟩ := List.getElem_of_mem hm
  rw [List.length_take] at hj
  rw [List.getElem_take] at e
  obtain ⟨hi, e2⟩ := List.getElem?_eq_some_iff.mp h
  have := (List.getElem_inj nd).mp (e.trans e2.symm)
  omega
def spCheckOk : Sp := fun vs H Q _ => ∃ (a : Addr) (ls : List (List Nat)),
  vs = [.ref a] ∧ H a = some (.lst (ls.map vS)) ∧ Good ls ∧
  ∀ H', Same H H' → Q .non H'
def spNFaultOk : Sp := fun vs H Q _ => ∃ (a : Addr) (ls : List (List Nat)),
  vs = [.ref a, .int 40] ∧ H a = some (.lst (ls.map vS)) ∧ Good ls ∧
  ∀ H', Same H H' → Q .non H'
section
variable {P : Program} {w : World} {K : PySem.W.Frag}
  {mg : Str → Option Value} {base : Heap}
abbrev CalIsName (P : Program) (w : World) (K : PySem.W.Frag)
    (mg : Str → Option Value) (base : Heap) (k : Nat) : Prop :=
  Cal P w K mg base k "is_name" ["value"] (spIsName K)
theorem ok_nfault {f : Addr} {fd : FuncData} {k : Nat}
    (F : Fun K "names_fault" "names_fault" s_names_fault f fd) (B : Bl mg)
    (C : CalIsName P w K mg base k) :
    FnOk P w K mg base CX0 (k + 1) f fd ["value", "most"] spNFaultOk := by
  refine F.ok sc_names_fault (fun vs H Q E h => ?_)
    (fun cv A outer s H vs Q E hr h => ?_)
  · obtain ⟨a, ls, rfl, _⟩ := h
    rfl
  obtain ⟨a, ls, rfl, ha, gd, q⟩ := h
  have nd := sc_names_fault.nd
  refine ⟨_, pss_cons (ps_if (pt_not (pt_val
      (pe_callB call_isi (by rfl) B.isi bt_isi (pa_cons (pv 0) (pa_cons
        (pe_bltn (v := .ty "list") (by rfl) B.list bt_list rfl) pa_nil)))))
      (pss_one ps_never) pss_nil)
    (pss_cons (ps_set (i := 2) nd rfl (.inl rfl)
      (pe_callTy0 cr_set0K (by rfl) B.set bt_set))
    (pss_cons (ps_for PassesOwn.never rfl
      (pi_enum (by rfl) B.enum (pa_cons (pv 0) pa_nil))
      (pg_tup rfl (pgs_cons (pg_name (i := 3) nd rfl (.inl rfl))
        (pgs_cons (pg_name (i := 4) nd rfl (.inl rfl)) pgs_nil)))
      (pss_cons (ps_if (pt_not (pt_val (pe_cal C hr (pa_cons (pv 4) pa_nil))))
        (pss_one ps_never) pss_nil)
      (pss_cons (ps_if (pt_cmpR or_sinK (pv 4) (pv 2) (by rfl))
        (pss_one ps_never) pss_nil)
      (pss_one (ps_expr (pe_saddK (pv 2) (pa_cons (pv 4) pa_nil)))))))
    (pss_cons (ps_if (pt_not (pt_chain op_le op_le pe_int
        (pe_callB call_len_seq (by rfl) B.len PySem.boot_len
          (pa_cons (pv 0) pa_nil)) (pv 1)))
      (pss_one ps_never) pss_nil)
    (pss_one (ps_ret pe_non))))), ?_⟩
  refine ⟨_, rfl, _, _, _, _, true, rfl, .ty "list", .base (.lst ha),
    kit_ty (by decide +kernel), _, rfl, iteF ?_⟩
  refine ⟨rfl, fun sn nsn => ?_⟩
  have nas : a ≠ sn := ne_of_none ha nsn
  have ha1 : (upd H sn (SetK P w sn (fun _ => false) 0)) a =
      some (.lst (ls.map vS)) := by rw [upd_ne nas]; exact ha
  refine ⟨_, rfl, a, _, rfl, SqL.of ha1, ?_⟩
  refine for_it (walk_enum (K := K) (a := a) (xs := ls.map vS))
    (fun i σ H' => ∃ (S : Key → Bool) (n : Nat) (y z : Option V),
      σ = [some (.ref a), some (.int 40), some (.ref sn), y, z] ∧ n ≤ i ∧
      (∀ l, S (Sum.inr (SX.S l)) = decide (l ∈ ls.take i)) ∧
      H' sn = some (SetK P w sn S n) ∧ H' a = some (.lst (ls.map vS)) ∧
      Same H H')
    ⟨fun _ => false, 0, none, none, rfl, Nat.le_refl _, fun l => by simp,
      upd_same, ha1, sameNew nsn⟩
    (fun i σ H' _ z => by obtain ⟨_, _, _, _, _, _, _, _, h, _⟩ := z; exact SqL.of h)
    ?_ ?_
  · rintro i v σ H1 H2 hi ⟨S, n, y, z, rfl, hn, hS, hs, ha2, sm⟩
      ⟨T, x1, x2, rfl, nT, rfl, e1, e2⟩
    obtain ⟨l, hl, rfl⟩ := get_map e2
    cases Option.some.inj e1
    rw [List.length_map] at hi
    have nl : Nm l := gd.nm l (List.mem_of_getElem? hl)
    have nTs : sn ≠ T := ne_of_none hs nT
    have nTa : a ≠ T := ne_of_none ha2 nT
    have sm1 : Same H (upd H1 T (.tup [.int (i : Nat), vS l])) :=
      sm.trans (sameNew nT)
    have nin : l ∉ ls.take i := nodup_take gd.nd hl
    refine ⟨T, _, rfl, .inl (.inl upd_same), rfl, _, _, rfl, _, _, rfl, rfl,
      ?_⟩
    refine ⟨_, rfl, _, rfl, .inl ⟨_, rfl, nl.len, fun H3 sm3 => ?_⟩⟩
    rw [nl.b]
    have hs3 : H3 sn = some (SetK P w sn S n) :=
      sm3 _ _ (by rw [upd_ne nTs]; exact hs)
    have ha3 : H3 a = some (.lst (ls.map vS)) :=
      sm3 _ _ (by rw [upd_ne nTa]; exact ha2)
    refine ⟨_, rfl, iteF ?_⟩
    refine ⟨_, rfl, _, rfl, Sum.inr (SX.S l), sn, S, n, rfl, rfl, hs3, _, rfl,
      ?_⟩
    have sf : S (Sum.inr (SX.S l)) = false := by
      rw [hS]; exact decide_eq_false nin
    rw [sf]
    refine iteF ?_
    refine ⟨_, rfl, ⟨sn, S, n, rfl, hs3⟩, _, rfl, sn, Sum.inr (SX.S l), S, n,
      rfl, rfl, hs3, ?_, ?_⟩
    · have := gd.hi
      show n + 1 < 4096
      omega
    refine ⟨_, _, _, _, rfl, ?_, ?_, upd_same, ?_, ?_⟩
    · rw [sf]
      show n + 1 ≤ i + 1
      omega
    · intro l'
      show (S (Sum.inr (SX.S l')) || decide ((Sum.inr (SX.S l') : Key) =
        Sum.inr (SX.S l))) = _
      rw [hS, List.take_add_one, hl]
      by_cases e : l' = l
      · subst e
        simp
      · have : ¬ ((Sum.inr (SX.S l') : Key) = Sum.inr (SX.S l)) :=
          fun z => e (SX.S_inj (Sum.inr.inj z))
        rw [decide_eq_false this, Bool.or_false]
        refine decide_eq_decide.mpr ?_
        rw [List.mem_append]
        constructor
        · exact Or.inl
        · rintro (z | z)
          · exact z
          · exact absurd (by simpa using z) e
    · rw [upd_ne nas]
      exact ha3
    · exact OM.Same.put (sm1.trans sm3) nsn
  · rintro σ H1 ⟨S, n, y, z, rfl, hn, hS, hs, ha2, sm⟩
    have h1 := gd.lo
    have h2 := gd.hi
    refine ⟨_, rfl, a, _, rfl, .inl (SqL.of ha2), _, _, rfl, rfl, _, rfl, ?_⟩
    rw [List.length_map, decide_eq_true (show (1 : Int) ≤ ls.length by omega)]
    refine iteT ⟨_, rfl, _, _, rfl, rfl, _, rfl, ?_⟩
    rw [decide_eq_true (show (ls.length : Int) ≤ 40 by omega)]
    exact iteF (q H1 sm)
theorem ok_check {f : Addr} {fd : FuncData} {k : Nat}
    (F : Fun K "check_items" "check_items" s_check_items f fd)
    (Cf : Cal P w K mg base k "names_fault" ["value", "most"] spNFaultOk)
    {t40 : Tok} (m40 : mg "MAX_ITEMS" = some (.int 40 t40)) :
    FnOk P w K mg base CX0 (k + 1) f fd ["items"] spCheckOk := by
  refine F.ok sc_check_items (fun vs H Q E h => ?_)
    (fun cv A outer s H vs Q E hr h => ?_)
  · obtain ⟨a, ls, rfl, _⟩ := h
    rfl
  obtain ⟨a, ls, rfl, ha, gd, q⟩ := h
  have nd := sc_check_items.nd
  refine ⟨_, pss_cons (ps_set (i := 1) nd rfl (.inl rfl)
      (pe_cal Cf hr (pa_cons (pv 0) (pa_cons
        (pe_glob (v := .int 40) (by rfl) m40 ⟨_, rfl⟩) pa_nil))))
    (pss_one (ps_if (pt_cmpR op_notN (pv 1) pe_non (nomark _))
      (pss_cons ps_never (pss_one ps_never)) pss_nil)), ?_⟩
  exact ⟨_, rfl, a, ls, rfl, ha, gd, fun H1 s1 =>
    ⟨_, rfl, rfl, _, rfl, iteF (q H1 s1)⟩⟩
end
end OM
namespace OM
open PySem PySem.Spec PyProof.Rows L2
/-! ### what a base holds -/
def prs : Nat → List (List Nat) → List (Key × V)
  | _, [] => []
  | n, l :: r => (Sum.inr (SX.S l), .int (n : Int)) :: prs (n + 1) r
theorem prs_len : ∀ (n : Nat) (ls : List (List Nat)),
    (prs n ls).length = ls.length
  | _, [] => rfl
  | n, _ :: r => congrArg (· + 1) (prs_len (n + 1) r)
theorem prs_snoc : ∀ (n : Nat) (ls : List (List Nat)) (l : List Nat),
    prs n (ls ++ [l]) =
      prs n ls ++ [(Sum.inr (SX.S l), .int ((n + ls.length : Nat) : Int))]
  | n, [], l => rfl
  | n, x :: r, l => by
    have ih := prs_snoc (n + 1) r l
    show (Sum.inr (SX.S x), V.int (n : Int)) :: prs (n + 1) (r ++ [l]) = _
    rw [ih, List.length_cons, show n + 1 + r.length = n + (r.length + 1) by
      omega]
    rfl
theorem val_prs (l : List Nat) : ∀ (n : Nat) (ls : List (List Nat)),
    valV (prs n ls) (Sum.inr (SX.S l) : Key) =
      if l ∈ ls then some (.int ((n + ls.idxOf l : Nat) : Int)) else none
  | n, [] => rfl
  | n, x :: r => by
    have ih := val_prs l (n + 1) r
    by_cases e : x = l
    · subst e
      rw [if_pos List.mem_cons_self, List.idxOf_cons_self]
      show Option.map _ (List.find? _ ((Sum.inr (SX.S x), _) :: _)) = _
      rw [List.find?_cons_of_pos (by simp)]
      rfl
    · have ne : ¬ ((Sum.inr (SX.S x) : Key) = Sum.inr (SX.S l)) :=
        fun z => e (SX.S_inj (Sum.inr.inj z))
      have hv : valV (prs n (x :: r)) (Sum.inr (SX.S l) : Key) =
          valV (prs (n + 1) r) (Sum.inr (SX.S l)) := by
        show Option.map _ (List.find? _ ((Sum.inr (SX.S x), _) :: _)) = _
        rw [List.find?_cons_of_neg (by simpa using ne)]
        rfl
      rw [hv, ih]
      by_cases m : l ∈ r
      · rw [if_pos m, if_pos (List.mem_cons_of_mem _ m),
          List.idxOf_cons, show (x == l) = false from
            beq_eq_false_iff_ne.mpr e]
        show some (V.int ((n + 1 + r.idxOf l : Nat) : Int)) =
          some (V.int ((n + (r.idxOf l + 1) : Nat) : Int))
        rw [show n + 1 + r.idxOf l = n + (r.idxOf l + 1) by omega]
      · rw [if_neg m, if_neg fun z => ?_]
        rcases List.mem_cons.mp z with z | z
        · exact e z.symm
        · exact m z
/-- the attributes -/
def bf (lo d : Addr) : List (Str × V) :=
  putF "places" (.ref d) (putF "listed" (.ref lo) [])
theorem ne_pl : ¬ (("listed" : Str) = "places") := by decide +kernel
theorem bf_listed (lo d : Addr) :
    (bf lo d).lookup ("listed" : Str) = some (.ref lo) := by
  unfold bf
  rw [lookup_putF, if_neg ne_pl, lookup_putF, if_pos rfl]
theorem bf_places (lo d : Addr) :
    (bf lo d).lookup ("places" : Str) = some (.ref d) := by
  unfold bf
  rw [lookup_putF, if_pos rfl]
theorem bf_no (lo d : Addr) {m : Str} (h1 : ¬ m = "places")
    (h2 : ¬ m = "listed") : (bf lo d).lookup m = none := by
  unfold bf
  rw [lookup_putF, if_neg h1, lookup_putF, if_neg h2]
  rfl
structure BaseAt (C : Addr) (H : Hp) (b : Addr) (ls : List (List Nat)) :
    Prop where
  ob : ∃ dx lo d, H b = some (.ins C dx (bf lo d)) ∧
    H lo = some (.lst (ls.map vS)) ∧ H d = some (.dK (prs 0 ls))
theorem BaseAt.same {C b : Addr} {H H' : Hp} {ls : List (List Nat)}
    (x : BaseAt C H b ls) (s : Same H H') : BaseAt C H' b ls := by
  obtain ⟨dx, lo, d, h1, h2, h3⟩ := x.ob
  exact ⟨dx, lo, d, s _ _ h1, s _ _ h2, s _ _ h3⟩
theorem neRng {H : Hp} {p q : Addr} {ls : List (List Nat)} (r : Rng H p)
    (h : H q = some (.lst (ls.map vS))) : q ≠ p := by
  obtain ⟨a, b, e, _⟩ := r
  refine ne_of h e fun z => ?_
  have z' := HO.lst.inj z
  cases ls with
  | nil => cases z'
  | cons l r =>
    rw [List.map_cons] at z'
    cases (List.cons.inj z').1
theorem BaseAt.but {C b p : Addr} {H H' : Hp} {ls : List (List Nat)}
    (x : BaseAt C H b ls) (r : Rng H p) (s : But p H H') :
    BaseAt C H' b ls := by
  obtain ⟨dx, lo, d, h1, h2, h3⟩ := x.ob
  have n2 := neRng r h2
  obtain ⟨i, j, e, _⟩ := r
  exact ⟨dx, lo, d, s _ _ h1 (ne_of h1 e nofun), s _ _ h2 n2,
    s _ _ h3 (ne_of h3 e nofun)⟩
theorem BaseAt.ne {C b p : Addr} {H : Hp} {ls : List (List Nat)}
    (x : BaseAt C H b ls) (n : H p = none) : b ≠ p := by
  obtain ⟨dx, lo, d, h1, h2, h3⟩ := x.ob
  exact ne_of_none h1 n
structure BC (K : PySem.W.Frag) (mg : Str → Option Value) (C : Addr) :
    Prop where
  ic : C8.InsC K C
  nL : NoAttr K C "listed"
  nP : NoAttr K C "places"
  mgC : mg "Base" = some (.ref C)
  kC : PySem.W.keepIn K (.ref C) = true
theorem BC.cl {K : PySem.W.Frag} {mg : Str → Option Value} {C : Addr}
    (x : BC K mg C) : Cls K C := x.ic.cl
/-- Base(items), the items being right -/
def spInitOk (C : Addr) : Sp := fun vs H Q _ =>
  ∃ (b a dx : Addr) (ls : List (List Nat)), vs = [.ref b, .ref a] ∧
  H b = some (.ins C dx []) ∧ H a = some (.lst (ls.map vS)) ∧ Good ls ∧
  ∀ H', BaseAt C H' b ls → But b H H' → Q .non H'
/-- a walk of a dict comprehension -/
theorem dc_walk {J : It} {n : Nat} {G : Hp → Prop}
    {Y : Nat → Hp → V → Hp → Prop} (wk : Walk J n G Y) {g : TG} {tt : TT}
    {tk tv : TE} {vs : List Nat} {σ : L2.St} {H1 : Hp} {D : Addr}
    {Qd : Hp → Prop} (Pv : Nat → Hp → Prop)
    (h0 : Pv 0 (upd H1 D (.dK []))) (hG : ∀ i H, i ≤ n → Pv i H → G H)
    (hs : ∀ i x H H', i < n → Pv i H → Y i H x H' →
      g x (wipe σ vs) H' fun σ2 H2 => wipe σ2 vs = wipe σ vs ∧
        tt σ2 H2 fun b H3 => if b = true then tk σ2 H3 fun y H4 =>
          tv σ2 H4 fun z H5 => ∃ kvs k, y = kV k ∧ H5 D = some (.dK kvs) ∧
            kvs.length < sizeLine ∧ Pv (i + 1) (upd H5 D (.dK (putK kvs k z)))
          else Pv (i + 1) H3)
    (hd : ∀ H, Pv n H → Qd H) :
    ∃ W : Nat → Nat → Hp → Prop, (∃ m, W 0 m (upd H1 D (.dK []))) ∧
      ∀ i m H, W i m H → (J.stop i H ∧ Qd H) ∨ (J.go i H ∧
        ∃ Nx : Hp → Prop, (∀ H', Nx H' → ∃ m', m' < m ∧ W (i + 1) m' H') ∧
        ∀ x H', J.yld i H x H' → g x (wipe σ vs) H' fun σ2 H2 =>
          wipe σ2 vs = wipe σ vs ∧ tt σ2 H2 fun b H3 => if b = true then
            tk σ2 H3 fun y H4 => tv σ2 H4 fun z H5 => ∃ kvs k, y = kV k ∧
              H5 D = some (.dK kvs) ∧ kvs.length < sizeLine ∧
              Nx (upd H5 D (.dK (putK kvs k z))) else Nx H3) := by
  refine ⟨fun i m H => m + i = n ∧ Pv i H, ⟨n, rfl, h0⟩, ?_⟩
  rintro i m H ⟨e, p⟩
  have q := hG i H (by omega) p
  rcases Nat.lt_or_ge i n with lt | ge
  · exact .inr ⟨wk.goes i H lt q, Pv (i + 1),
      fun H' p' => ⟨m - 1, by omega, by omega, p'⟩,
      fun x H' y => hs i x H H' lt p (wk.yields i H x H' lt q y)⟩
  · have e' : i = n := by omega
    subst e'
    exact .inl ⟨wk.stops H q, hd H p⟩
section
variable {P : Program} {w : World} {K : PySem.W.Frag}
  {mg : Str → Option Value} {base : Heap} {C : Addr}
theorem ok_init {f : Addr} {fd : FuncData} {k : Nat}
    (F : Fun K "__init__" "Base.__init__" s_Base_init f fd) (B : Bl mg)
    (T : BC K mg C)
    (Ck : Cal P w K mg base k "check_items" ["items"] spCheckOk) :
    FnOk P w K mg base CX0 (k + 1) f fd ["self", "items"] (spInitOk C) := by
  refine F.ok sc_Base_init (fun vs H Q E h => ?_)
    (fun cv A outer s H vs Q E hr h => ?_)
  · obtain ⟨b, a, dx, ls, rfl, _⟩ := h
    rfl
  obtain ⟨b, a, dx, ls, rfl, hb, ha, gd, q⟩ := h
  have nd := sc_Base_init.nd
  refine ⟨_, pss_cons (ps_expr (pe_cal Ck hr (pa_cons (pv 1) pa_nil)))
    (pss_cons (ps_fld (pv 0) (pe_callTy call_list_of (by rfl) B.list bt_list
      (pa_cons (pv 1) pa_nil)) rfl)
    (pss_one (ps_fld (pv 0)
      (pe_dc (own := [("name", 2), ("at", 3)])
        (g := gTup K 2 (gCons (gName 3) (gCons (gName 2) gNil)))
        (tt := tYes) rfl nd
        (pi_enum (by rfl) B.enum (pa_cons (pv 1) pa_nil))
        (blkOk_by (N := N_Base_init) (sc := defScope s_Base_init)
          (by decide +kernel))
        (fun _ _ _ _ _ => pg_tup rfl (pgs_cons (pg_name (i := 3) nd rfl
          (Or.inl rfl)) (pgs_cons (pg_name (i := 2) nd rfl (Or.inl rfl))
          pgs_nil)))
        (fun _ _ _ _ _ => pts_nil) (fun _ _ _ _ _ => pv 2)
        (fun _ _ _ _ _ => pv 3)) rfl))), ?_⟩
  refine ⟨_, rfl, a, ls, rfl, ha, gd, fun H1 s1 => ?_⟩
  have nba : b ≠ a := ne_of hb ha nofun
  have hb1 := s1 _ _ hb
  have ha1 := s1 _ _ ha
  refine ⟨_, rfl, a, _, rfl, .inl (SqL.of ha1), fun lo nlo => ?_⟩
  have nbl : b ≠ lo := ne_of_none hb1 nlo
  have nal : a ≠ lo := ne_of_none ha1 nlo
  refine ⟨_, rfl, b, C, dx, [], rfl, by rw [upd_ne nbl]; exact hb1, T.cl, T.nL,
    by decide, ?_⟩
  generalize eH2 : upd (upd H1 lo (.lst (ls.map vS))) b
    (.ins C dx (putF "listed" (.ref lo) [])) = H2
  have hb2 : H2 b = some (.ins C dx (putF "listed" (.ref lo) [])) := by
    rw [← eH2]; exact upd_same
  have ha2 : H2 a = some (.lst (ls.map vS)) := by
    rw [← eH2, upd_ne nba.symm, upd_ne nal]; exact ha1
  have hl2 : H2 lo = some (.lst (ls.map vS)) := by
    rw [← eH2, upd_ne nbl.symm, upd_same]
  have b2 : But b H H2 := by
    rw [← eH2]
    exact ((But.of s1).new (s1.free nlo)).at
  refine ⟨_, rfl, a, _, rfl, SqL.of ha2, fun d nd' => ?_⟩
  have ndb : b ≠ d := ne_of_none hb2 nd'
  have nda : a ≠ d := ne_of_none ha2 nd'
  have ndl : lo ≠ d := ne_of_none hl2 nd'
  refine dc_walk (walk_enum (K := K) (a := a) (xs := ls.map vS))
    (fun i H' => H' d = some (.dK (prs 0 (ls.take i))) ∧
      H' b = some (.ins C dx (putF "listed" (.ref lo) [])) ∧
      H' a = some (.lst (ls.map vS)) ∧ H' lo = some (.lst (ls.map vS)) ∧
      But b H H')
    ⟨upd_same, by rw [upd_ne ndb]; exact hb2, by rw [upd_ne nda]; exact ha2,
      by rw [upd_ne ndl]; exact hl2, b2.put nd' ndb.symm⟩
    (fun i H' _ z => SqL.of z.2.2.1) ?_ ?_
  · rintro i v H3 H4 hi ⟨hd, h1, h2, h3, b3⟩ ⟨T', x1, x2, rfl, nT, rfl, e1, e2⟩
    obtain ⟨l, hl, rfl⟩ := get_map e2
    cases Option.some.inj e1
    rw [List.length_map] at hi
    have hhi := gd.hi
    refine ⟨T', _, rfl, .inl (.inl upd_same), rfl, _, _, rfl, _, _, rfl, rfl,
      rfl, yes ⟨_, rfl, _, rfl, prs 0 (ls.take i), Sum.inr (SX.S l), rfl, ?_, ?_,
      ?_, ?_, ?_, ?_, ?_⟩⟩
    · rw [upd_ne (ne_of_none hd nT)]
      exact hd
    · rw [prs_len, List.length_take]
      exact sz' (by omega)
    · rw [upd_same, putK_new _ (by
        rw [val_prs, if_neg (nodup_take gd.nd hl)]),
        List.take_add_one, hl]
      show _ = some (HO.dK (prs 0 (ls.take i ++ [l])))
      rw [prs_snoc, List.length_take, Nat.min_eq_left (by omega),
        Nat.zero_add]
    · rw [upd_ne ndb, upd_ne (ne_of_none h1 nT)]
      exact h1
    · rw [upd_ne nda, upd_ne (ne_of_none h2 nT)]
      exact h2
    · rw [upd_ne ndl, upd_ne (ne_of_none h3 nT)]
      exact h3
    · exact (b3.put nT (ne_of_none h1 nT).symm).new (b2.free ndb.symm nd')
  · rintro H3 ⟨hd, h1, h2, h3, b3⟩
    rw [List.take_of_length_le (by rw [List.length_map]; exact Nat.le_refl _)]
      at hd
    refine ⟨_, rfl, b, C, dx, _, rfl, h1, T.cl, T.nP,
      by show 1 < 1000; decide, ?_⟩
    refine q _ ⟨dx, lo, d, upd_same, ?_, ?_⟩ b3.at
    · rw [upd_ne nbl.symm]
      exact h3
    · rw [upd_ne ndb.symm]
      exact hd
end
end OM
namespace OM
open PySem PySem.Spec PyProof.Rows L2
/-! ### a method, in one word -/
structure CalM (P : Program) (w : World) (K : PySem.W.Frag)
    (mg : Str → Option Value) (base : Heap) (C : Addr) (k : Nat) (x : Str)
    (ps : List Str) (sp : Sp) : Prop where
  cl : Cls K C
  ex : ∃ f fd, FnOk P w K mg base CX0 k f fd ps sp ∧ Meth K C x f ∧
    Binds K fd ps []
section
variable {X : Cx} {k : Nat} {ps : List Str} {sp : Sp} {x : Str} {C : Addr}
  {p pos : Pos} {o e : Expr} {es : List Expr} {t : TA} {to : TE}
theorem pe_calM {pl : Sem Bool} (M : CalM X.prog X.w X.K X.mg X.base C k x ps sp)
    (room : Room k X.A) (ho : PE X o to) (ha : PA X (e :: es) t)
    (h1 : starEach (e :: es) X.env =
      (false, eval e X.env) :: starEach es X.env := by rfl)
    (h2 : (backTo pos (starEach es X.env)).any (·.1) = false := by rfl)
    (h3 : eval (.Call (.Attribute o x p) (e :: es) [] pos) X.env = (do
      let ov ← eval o X.env
      standAt p.atName
      let (f, first) ← holding [ov] (getMethod ov x pl)
      callWith pos f first (backTo pos (starEach (e :: es) X.env))
        (backToKw pos (keywordEach [] X.env))) := by rfl) :
    PE X (.Call (.Attribute o x p) (e :: es) [] pos)
      (tMeth C x sp [] E0 to t) := by
  obtain ⟨f, fd, F, m, b⟩ := M.ex
  exact pe_meth (pl := pl) ho M.cl m F room b .nil pass0 ha h1 h2 h3
theorem pe_calM0 {pl : Sem Bool} (M : CalM X.prog X.w X.K X.mg X.base C k x ps sp)
    (room : Room k X.A) (ho : PE X o to)
    (h3 : eval (.Call (.Attribute o x p) [] [] pos) X.env = (do
      let ov ← eval o X.env
      standAt p.atName
      let (f, first) ← holding [ov] (getMethod ov x pl)
      callWith pos f first (backTo pos (starEach [] X.env))
        (backToKw pos (keywordEach [] X.env))) := by rfl) :
    PE X (.Call (.Attribute o x p) [] [] pos)
      (tMeth C x sp [] E0 to tNil) := by
  obtain ⟨f, fd, F, m, b⟩ := M.ex
  exact pe_meth0 (pl := pl) ho M.cl m F room b .nil pass0 h3
end
def spGetNames (C : Addr) : Sp := fun vs H Q _ =>
  ∃ (b : Addr) (ls : List (List Nat)), vs = [.ref b] ∧ BaseAt C H b ls ∧
  ∀ q H', H q = none → H' q = some (.lst (ls.map vS)) → Same H H' →
    Q (.ref q) H'
def spLenB (C : Addr) : Sp := fun vs H Q _ =>
  ∃ (b : Addr) (ls : List (List Nat)), vs = [.ref b] ∧ BaseAt C H b ls ∧
  Q (.int ls.length) H
/-- == of two bases -/
def spEqB (C : Addr) : Sp := fun vs H Q _ =>
  ∃ (b o : Addr) (ls ms : List (List Nat)), vs = [.ref b, .ref o] ∧
  BaseAt C H b ls ∧ BaseAt C H o ms ∧ Uni ls ∧ Uni ms ∧
  Q (.bl (decide (ls = ms))) H
def baseText (ls : List (List Nat)) : Str :=
  Str.empty ++ Str.ofString "Base(" ++ (PyData.list (dN ls)).shown ++
    Str.ofString ")"
/-- repr of a base -/
def spReprB (C : Addr) : Sp := fun vs H Q _ =>
  ∃ (b : Addr) (ls : List (List Nat)), vs = [.ref b] ∧ BaseAt C H b ls ∧
  Good ls ∧ Q (.str (baseText ls)) H
theorem Nm.uni {l : List Nat} (n : Nm l) : ∀ c ∈ l, c < 1114112 := fun c h => by
  have := n.az c h
  omega
theorem Good.uni {ls : List (List Nat)} (g : Good ls) : Uni ls :=
  fun l h => (g.nm l h).uni
theorem Good.shown {ls : List (List Nat)} (g : Good ls) :
    (PyData.list (dN ls)).shown.length ≤ sizeLine := by
  have := g.hi
  exact shown_L (m := 8) (by omega) (by omega) fun l h =>
    ⟨(g.nm l h).hi, (g.nm l h).uni⟩
section
variable {P : Program} {w : World} {K : PySem.W.Frag}
  {mg : Str → Option Value} {base : Heap} {C : Addr}
theorem ok_getnames {f : Addr} {fd : FuncData} {k : Nat}
    (F : Fun K "names" "Base.names" s_Base_names f fd) (B : Bl mg)
    (T : BC K mg C) :
    FnOk P w K mg base CX0 (k + 1) f fd ["self"] (spGetNames C) := by
  refine F.ok sc_Base_names (fun vs H Q E h => ?_)
    (fun cv A outer s H vs Q E hr h => ?_)
  · obtain ⟨b, ls, rfl, _⟩ := h
    rfl
  obtain ⟨b, ls, rfl, hb, q⟩ := h
  obtain ⟨dx, lo, d, h1, h2, h3⟩ := hb.ob
  refine ⟨_, pss_one (ps_ret (pe_callTy call_list_of (by rfl) B.list bt_list
    (pa_cons (pe_fld (pv 0) rfl) pa_nil))), ?_⟩
  exact ⟨_, rfl, b, C, dx, _, _, rfl, h1, T.cl, T.nL, bf_listed _ _, lo, _, rfl,
    .inl (SqL.of h2), fun l nl => q l _ nl upd_same (sameNew nl)⟩
theorem ok_lenB {f : Addr} {fd : FuncData} {k : Nat}
    (F : Fun K "__len__" "Base.__len__" s_Base_len f fd) (B : Bl mg)
    (T : BC K mg C) :
    FnOk P w K mg base CX0 (k + 1) f fd ["self"] (spLenB C) := by
  refine F.ok sc_Base_len (fun vs H Q E h => ?_)
    (fun cv A outer s H vs Q E hr h => ?_)
  · obtain ⟨b, ls, rfl, _⟩ := h
    rfl
  obtain ⟨b, ls, rfl, hb, q⟩ := h
  obtain ⟨dx, lo, d, h1, h2, h3⟩ := hb.ob
  refine ⟨_, pss_one (ps_ret (pe_callB call_len_seq (by rfl) B.len
    PySem.boot_len (pa_cons (pe_fld (pv 0) rfl) pa_nil))), ?_⟩
  refine ⟨_, rfl, b, C, dx, _, _, rfl, h1, T.cl, T.nL, bf_listed _ _, lo, _,
    rfl, .inl (SqL.of h2), ?_⟩
  rw [List.length_map]
  exact q
theorem ok_eqB {f : Addr} {fd : FuncData} {k : Nat}
    (F : Fun K "__eq__" "Base.__eq__" s_Base_eq f fd) (B : Bl mg)
    (T : BC K mg C) :
    FnOk P w K mg base CX0 (k + 1) f fd ["self", "other"] (spEqB C) := by
  refine F.ok sc_Base_eq (fun vs H Q E h => ?_)
    (fun cv A outer s H vs Q E hr h => ?_)
  · obtain ⟨b, o, ls, ms, rfl, _⟩ := h
    rfl
  obtain ⟨b, o, ls, ms, rfl, hb, ho, u1, u2, q⟩ := h
  obtain ⟨dx, lo, d, h1, h2, h3⟩ := hb.ob
  obtain ⟨dy, mo, e, g1, g2, g3⟩ := ho.ob
  refine ⟨_, pss_one (ps_ret (pe_and
    (pe_callB (C8.call_isC T.ic) (by rfl) B.isi bt_isi (pa_cons (pv 1)
      (pa_cons (pe_glob (v := .ref C) (by rfl) T.mgC rfl) pa_nil)))
    (pe_one (pe_cmpR (op_eqD hr.units) (pe_fld (pv 0) rfl) (pe_fld (pv 1) rfl)
      (nomark _))))), ?_⟩
  refine ⟨_, rfl, o, dy, _, rfl, g1, _, rfl, iteT ?_⟩
  refine ⟨_, rfl, b, C, dx, _, _, rfl, h1, T.cl, T.nL, bf_listed _ _, _, rfl, o,
    C, dy, _, _, rfl, g1, T.cl, T.nL, bf_listed _ _, _, _, dp_N (SqL.of h2),
    dp_N (SqL.of g2), shaped_L u1, shaped_L u2, ?_⟩
  rw [eqv_L]
  exact q
theorem ok_reprB {f : Addr} {fd : FuncData} {k : Nat}
    (F : Fun K "__repr__" "Base.__repr__" s_Base_repr f fd)
    (T : BC K mg C) :
    FnG P w K mg base CX0 (k + 1) f fd ["self"] (spReprB C) := by
  refine okG F sc_Base_repr (fun vs H Q E h => ?_)
    (fun cv A outer s H vs Q E hr gd h => ?_)
  · obtain ⟨b, ls, rfl, _⟩ := h
    rfl
  obtain ⟨b, ls, rfl, hb, good, q⟩ := h
  obtain ⟨dx, lo, d, h1, h2, h3⟩ := hb.ob
  refine ⟨_, pss_one (ps_ret (pe_joined (.cons pe_str (.cons
    (pe_fmtD hr gd (pe_fld (pv 0) rfl)) (.cons pe_str .nil))))), ?_⟩
  have l1 := good.shown
  have l2 : (PyData.list (dN ls)).shown.length ≤ 10004003 := by
    have e : (PyData.list (dN ls)).shown =
        listText (PyData.shownAll (dN ls)) := by simp only [PyData.shown]
    have p := piled_N ls 8 fun l h => ⟨(good.nm l h).hi, (good.nm l h).uni⟩
    have q := listText_len_le (PyData.shownAll (dN ls))
    rw [e]
    have r : ((PyData.shownAll (dN ls)).map (·.length)).sum +
        2 * (PyData.shownAll (dN ls)).length =
        piled (PyData.shownAll (dN ls)) := by
      generalize PyData.shownAll (dN ls) = ts
      induction ts with
      | nil => rfl
      | cons t ts ih =>
        rw [piled_cons, List.map_cons, List.sum_cons, List.length_cons]
        omega
    have s : ls.length * (10 * 8 + 4) ≤ 40 * 84 :=
      Nat.mul_le_mul good.hi (Nat.le_refl _)
    omega
  have l3 : (Str.ofString "Base(").length = 5 := by decide +kernel
  have l4 : (Str.ofString ")").length = 1 := by decide +kernel
  have l5 : (Str.empty).length = 0 := by decide +kernel
  have l6 : 10005000 ≤ sizeLine := by decide
  refine ⟨_, rfl, ?_, _, rfl, b, C, dx, _, _, rfl, h1, T.cl, T.nL,
    bf_listed _ _, lo, _, rfl, dp_N (SqL.of h2), showable_L ls,
    Nat.le_trans (depth_L ls) (by decide), l1, _, rfl, ?_, _, rfl, ?_, q⟩
  · rw [strLen_append]
    omega
  · rw [strLen_append, strLen_append]
    omega
  · rw [strLen_append, strLen_append, strLen_append]
    omega
end
end OM
namespace OM
open PySem PySem.Spec PyProof.Rows L2
/-- is it an item -/
def spHas (K : PySem.W.Frag) (C : Addr) : Sp := fun vs H Q _ =>
  ∃ (b : Addr) (ls : List (List Nat)) (v : V), vs = [.ref b, v] ∧
  BaseAt C H b ls ∧ (∀ l ∈ ls, Nm l) ∧
  ((∃ x : Str, v = .str x ∧ x.length ≤ sizeLine ∧ ∀ H', Same H H' →
      Q (.bl (decide (x.cps.toList ∈ ls))) H') ∨
   (∃ t, TyX K H v t ∧ PySem.W.kitOne K t (.type "str") = some false ∧
      ∀ H', Same H H' → Q (.bl false) H'))
section
variable {P : Program} {w : World} {K : PySem.W.Frag}
  {mg : Str → Option Value} {base : Heap} {C : Addr}
theorem ok_has {f : Addr} {fd : FuncData} {k : Nat}
    (F : Fun K "has_item" "Base.has_item" s_Base_has_item f fd) (B : Bl mg)
    (T : BC K mg C) (Ci : CalIsName P w K mg base k) :
    FnOk P w K mg base CX0 (k + 1) f fd ["self", "value"] (spHas K C) := by
  refine F.ok sc_Base_has_item (fun vs H Q E h => ?_)
    (fun cv A outer s H vs Q E hr h => ?_)
  · obtain ⟨b, ls, v, rfl, _⟩ := h
    rfl
  obtain ⟨b, ls, v, rfl, hb, nm, h⟩ := h
  have hu := hu_of hr
  refine ⟨_, pss_one (ps_ret (pe_and (pe_cal Ci hr (pa_cons (pv 1) pa_nil))
    (pe_one (pe_cmp (pc_din hu (pv 1) (pe_fld (pv 0) rfl)) rfl)))), ?_⟩
  rcases h with ⟨x, rfl, hx, q⟩ | ⟨t, ty, kt, q⟩
  · refine ⟨_, rfl, _, rfl, .inl ⟨x, rfl, hx, fun H1 s1 => ?_⟩⟩
    obtain ⟨dx, lo, d, h1, h2, h3⟩ := (hb.same s1).ob
    refine ⟨_, rfl, ?_⟩
    by_cases hm : x.cps.toList ∈ ls
    · have e : nmB x.cps.toList = true := nmB_iff.mpr (nm _ hm)
      rw [e]
      refine iteT ⟨_, rfl, _, rfl, b, C, dx, _, _, rfl, h1, T.cl, T.nP,
        bf_places _ _, d, _, rfl, DGet.k (k := Sum.inr x) h3, ?_⟩
      have ex : x = SX.S x.cps.toList := (SX.S_tl x).symm
      rw [ex, val_prs, if_pos hm]
      have := q H1 s1
      rw [decide_eq_true hm] at this
      exact this
    · have qf := q H1 s1
      rw [decide_eq_false hm] at qf
      cases e : nmB x.cps.toList with
      | false => exact iteF qf
      | true =>
        refine iteT ⟨_, rfl, _, rfl, b, C, dx, _, _, rfl, h1, T.cl, T.nP,
          bf_places _ _, d, _, rfl, DGet.k (k := Sum.inr x) h3, ?_⟩
        have ex : x = SX.S x.cps.toList := (SX.S_tl x).symm
        rw [ex, val_prs, if_neg hm]
        exact qf
  · exact ⟨_, rfl, _, rfl, .inr ⟨t, ty, kt, _, rfl, iteF (q H (Same.refl H))⟩⟩
end
end OM
namespace OM
open PySem PySem.Spec PyProof.Rows L2
/-! ### a class that is made, in one word -/
structure CalC (P : Program) (w : World) (K : PySem.W.Frag)
    (mg : Str → Option Value) (base : Heap) (C : Addr) (k : Nat) (x : Str)
    (ps : List Str) (sp : Sp) : Prop where
  mgC : mg x = some (.ref C)
  ex : ∃ f fd, FnOk P w K mg base CX0 k f fd ps sp ∧ Mk K C f ∧
    Binds K fd ps []
section
variable {X : Cx} {k : Nat} {ps : List Str} {sp : Sp} {x : Str} {C : Addr}
  {p pos : Pos} {e : Expr} {es : List Expr} {t : TA}
theorem pe_calC (M : CalC X.prog X.w X.K X.mg X.base C k x ps sp)
    (room : Room (k + 1) X.A) (ha : PA X (e :: es) t)
    (hg : Gl X x := by rfl)
    (h1 : (x == ("__debug__" : Str)) = false := by decide)
    (h2 : starEach (e :: es) X.env =
      (false, eval e X.env) :: starEach es X.env := by rfl)
    (h3 : (backTo pos (starEach es X.env)).any (·.1) = false := by rfl) :
    PE X (.Call (.Name x p) (e :: es) [] pos) (tMake C sp [] E0 t) := by
  obtain ⟨f, fd, F, m, b⟩ := M.ex
  exact pe_make m F room hg M.mgC b .nil pass0 ha h1 h2 h3
end
theorem cut_to (xs : List V) {n : Nat} (h : n ≤ xs.length) :
    cutV xs none (some (n : Int)) = xs.take n := by
  unfold cutV
  rw [HT.sIx_nat, HT.sIx_none, Nat.min_eq_left h, Nat.sub_zero,
    List.drop_zero]
theorem cut_from (xs : List V) {n : Nat} (h : n ≤ xs.length) :
    cutV xs (some (n : Int)) none = xs.drop n := by
  unfold cutV
  rw [HT.sIx_nat, HT.sIx_none, Nat.min_eq_left h]
  exact List.take_of_length_le (by rw [List.length_drop]; exact Nat.le_refl _)
/-- os is an order of the base -/
structure Ord (C : Addr) (H : Hp) (b a : Addr) (ls os : List (List Nat)) :
    Prop where
  ba : BaseAt C H b ls
  good : Good ls
  li : H a = some (.lst (os.map vS))
  pm : os.Perm ls
theorem Ord.same {C b a : Addr} {H H' : Hp} {ls os : List (List Nat)}
    (x : Ord C H b a ls os) (s : Same H H') : Ord C H' b a ls os :=
  ⟨x.ba.same s, x.good, s _ _ x.li, x.pm⟩
theorem Good.perm {ls os : List (List Nat)} (g : Good ls)
    (p : os.Perm ls) : Good os :=
  ⟨fun l h => g.nm l (p.mem_iff.mp h), p.nodup_iff.mpr g.nd,
    by rw [p.length_eq]; exact g.lo, by rw [p.length_eq]; exact g.hi⟩
end OM
namespace OM
open PySem PySem.Spec PyProof.Rows L2
/-- one of the options -/
def spChoice (K : PySem.W.Frag) : Sp := fun vs H Q _ =>
  ∃ (p a : Addr) (xs : List V), vs = [.ref p, .ref a] ∧ Rng H p ∧
  SqL K H a xs ∧ a ≠ p ∧ 0 < xs.length ∧ xs.length ≤ 1000 ∧
  ∀ (x : V) (H' : Hp), x ∈ xs → Rng H' p → But p H H' → Q x H'
section
variable {P : Program} {w : World} {K : PySem.W.Frag}
  {mg : Str → Option Value} {base : Heap}
theorem ok_choice {f : Addr} {fd : FuncData} {k : Nat}
    (F : Fun K "_law_choice" "_law_choice" s_Lchoice f fd) (B : Bl mg)
    (Cd : CalDraw P w K mg base k) :
    FnOk P w K mg base CX0 (k + 1) f fd ["_law_rng_here", "_law_options"]
      (spChoice K) := by
  refine F.ok sc_Lchoice (fun vs H Q E h => ?_)
    (fun cv A outer s H vs Q E hr h => ?_)
  · obtain ⟨p, a, xs, rfl, _⟩ := h
    rfl
  obtain ⟨p, a, xs, rfl, rg, hS, nap, h0, h1, q⟩ := h
  refine ⟨_, pss_one (ps_ret (pe_ix ix_list (pv 1) (pe_cal Cd hr
    (pa_cons (pv 0) (pa_cons (pe_callB call_len_seq (by rfl) B.len
      PySem.boot_len (pa_cons (pv 1) pa_nil)) pa_nil))) (fun _ _ => rfl))), ?_⟩
  refine ⟨_, rfl, _, rfl, _, rfl, a, _, rfl, .inl hS, p, xs.length, rfl, rg,
    by omega, by omega, fun d H1 d0 d1 rg1 b1 => ?_⟩
  have hd : d.toNat < xs.length := by omega
  have ed : d = ((d.toNat : Nat) : Int) := by omega
  refine ⟨a, xs, d, xs[d.toNat], rfl, rfl, b1.seq hS nap, ?_,
    q _ H1 (List.getElem_mem hd) rg1 b1⟩
  have := atI_nat (List.getElem?_eq_getElem hd)
  rw [← ed] at this
  exact this
end
end OM
namespace OM
open PySem PySem.Spec PyProof.Rows L2
/-- an item's place -/
def spPos (C : Addr) : Sp := fun vs H Q _ =>
  ∃ (b : Addr) (ls : List (List Nat)) (l : List Nat), vs = [.ref b, vS l] ∧
  BaseAt C H b ls ∧ (∀ l ∈ ls, Nm l) ∧ l ∈ ls ∧
  ∀ H', Same H H' → Q (.int ((ls.idxOf l : Nat) : Int)) H'
def spPrec (C : Addr) : Sp := fun vs H Q _ =>
  ∃ (b : Addr) (ls : List (List Nat)) (l m : List Nat),
  vs = [.ref b, vS l, vS m] ∧
  BaseAt C H b ls ∧ (∀ l ∈ ls, Nm l) ∧ l ∈ ls ∧ m ∈ ls ∧
  ∀ H', Same H H' → Q (.bl (decide (ls.idxOf l < ls.idxOf m))) H'
theorem idx_get {ls : List (List Nat)} {l : List Nat} (h : l ∈ ls) :
    (ls.map vS)[ls.idxOf l]? = some (vS l) := by
  have hl := List.idxOf_lt_length_of_mem h
  rw [List.getElem?_map, List.getElem?_eq_getElem hl, List.getElem_idxOf hl]
  rfl
theorem idx_first {ls : List (List Nat)} {l : List Nat} (m : Nat) (z : V)
    (hm : m < ls.idxOf l) (hz : (ls.map vS)[m]? = some z) :
    eqV z (vS l) = false := by
  rw [List.getElem?_map] at hz
  cases e : ls[m]? with
  | none => rw [e] at hz; cases hz
  | some x =>
    rw [e] at hz
    cases Option.some.inj hz
    have ne : x ≠ l := by
      rintro rfl
      obtain ⟨hl, e2⟩ := List.getElem?_eq_some_iff.mp e
      have := List.not_of_lt_findIdx hm
      simp [e2] at this
    unfold eqV
    simp
    exact ne
theorem eqV_self (l : List Nat) : eqV (vS l) (vS l) = true := by
  unfold eqV
  simp
section
variable {P : Program} {w : World} {K : PySem.W.Frag}
  {mg : Str → Option Value} {base : Heap} {C : Addr}
theorem ok_pos {f : Addr} {fd : FuncData} {k : Nat}
    (F : Fun K "position_of" "Base.position_of" s_Base_position_of f fd)
    (T : BC K mg C)
    (Mh : CalM P w K mg base C k "has_item" ["self", "value"] (spHas K C)) :
    FnOk P w K mg base CX0 (k + 1) f fd ["self", "item"] (spPos C) := by
  refine F.ok sc_Base_position_of (fun vs H Q E h => ?_)
    (fun cv A outer s H vs Q E hr h => ?_)
  · obtain ⟨b, ls, l, rfl, _⟩ := h
    rfl
  obtain ⟨b, ls, l, rfl, hb, nm, hm, q⟩ := h
  have hu := hu_of hr
  refine ⟨_, pss_cons (ps_if (pt_not (pt_val
      (pe_calM Mh hr (pv 0) (pa_cons (pv 1) pa_nil)))) (pss_one ps_never)
      pss_nil)
    (pss_one (ps_ret (pe_dget hu (pe_fld (pv 0) rfl) (pv 1)
      (fun _ _ => rfl)))), ?_⟩
  obtain ⟨dx, lo, d, h1, h2, h3⟩ := hb.ob
  refine ⟨_, rfl, b, dx, _, rfl, h1, bf_no _ _ (by decide +kernel)
    (by decide +kernel), _, rfl, b, ls, _, rfl, hb, nm, .inl ⟨_, rfl,
    (nm l hm).len, fun H1 s1 => ?_⟩⟩
  rw [decide_eq_true (show (SX.S l).cps.toList ∈ ls from hm)]
  refine ⟨_, rfl, iteF ?_⟩
  refine ⟨_, rfl, b, C, dx, _, _, rfl, s1 _ _ h1, T.cl, T.nP, bf_places _ _, _,
    rfl, d, _, rfl, ?_, q H1 s1⟩
  have g := DGet.k (k := Sum.inr (SX.S l)) (s1 _ _ h3)
  rw [val_prs, if_pos hm, Nat.zero_add] at g
  exact g
theorem ok_prec {f : Addr} {fd : FuncData} {k : Nat}
    (F : Fun K "precedes" "Base.precedes" s_Base_precedes f fd)
    (Mp : CalM P w K mg base C k "position_of" ["self", "item"] (spPos C)) :
    FnOk P w K mg base CX0 (k + 1) f fd ["self", "first", "second"]
      (spPrec C) := by
  refine F.ok sc_Base_precedes (fun vs H Q E h => ?_)
    (fun cv A outer s H vs Q E hr h => ?_)
  · obtain ⟨b, ls, l, m, rfl, _⟩ := h
    rfl
  obtain ⟨b, ls, l, m, rfl, hb, nm, hl, hm, q⟩ := h
  refine ⟨_, pss_one (ps_ret (pe_cmpR op_lt
    (pe_calM Mp hr (pv 0) (pa_cons (pv 1) pa_nil))
    (pe_calM Mp hr (pv 0) (pa_cons (pv 2) pa_nil)) (nomark _))), ?_⟩
  obtain ⟨dx, lo, d, h1, h2, h3⟩ := hb.ob
  refine ⟨_, rfl, b, dx, _, rfl, h1, bf_no _ _ (by decide +kernel)
    (by decide +kernel), _, rfl, b, ls, l, rfl, hb, nm, hl, fun H1 s1 => ?_⟩
  refine ⟨_, rfl, b, dx, _, rfl, s1 _ _ h1, bf_no _ _ (by decide +kernel)
    (by decide +kernel), _, rfl, b, ls, m, rfl, hb.same s1, nm, hm,
    fun H2 s2 => ⟨_, _, rfl, rfl, ?_⟩⟩
  have := q H2 (s1.trans s2)
  show Q (.bl (decide (((ls.idxOf l : Nat) : Int) <
    ((ls.idxOf m : Nat) : Int)))) H2
  rw [show decide (((ls.idxOf l : Nat) : Int) < ((ls.idxOf m : Nat) : Int)) =
    decide (ls.idxOf l < ls.idxOf m) from decide_eq_decide.mpr
      ⟨fun z => by omega, fun z => by omega⟩]
  exact this
end
end OM
namespace OM
open PySem PySem.Spec PyProof.Rows L2
structure BlI (mg : Str → Option Value) : Prop where
  int : mg "int" = none
  bool : mg "bool" = none
theorem bti_int : bootBuiltins "int" = some (.type "int") := by
  decide +kernel
theorem bti_bool : bootBuiltins "bool" = some (.type "bool") := by
  decide +kernel
/-- a whole number is an integer -/
def spIsInt : Sp := fun vs H Q _ => ∃ v : Int, vs = [.int v] ∧ Q (.bl true) H
/-- a whole number within bounds -/
def spIntFrom : Sp := fun vs H Q _ => ∃ v lo hi : Int,
  vs = [.int v, .int lo, .int hi] ∧
  Q (.bl (decide (lo ≤ v) && decide (v ≤ hi))) H
def spSwapIx (C : Addr) : Sp := fun vs H Q _ =>
  ∃ (b : Addr) (ls : List (List Nat)) (v : Int), vs = [.ref b, .int v] ∧
  BaseAt C H b ls ∧ ls.length ≤ 40 ∧
  Q (.bl (decide (0 ≤ v) && decide (v ≤ (ls.length : Int) - 2))) H
def spChkIx (C : Addr) : Sp := fun vs H Q _ =>
  ∃ (b : Addr) (ls : List (List Nat)) (i : Nat), vs = [.ref b, .int i] ∧
  BaseAt C H b ls ∧ ls.length ≤ 40 ∧ i + 1 < ls.length ∧ Q .non H
def spExch (K : PySem.W.Frag) : Sp := fun vs H Q _ =>
  ∃ (a : Addr) (xs : List V) (i : Nat), vs = [.ref a, .int i] ∧
  SqL K H a xs ∧ i + 1 < xs.length ∧ xs.length ≤ 1000 ∧
  ∀ q H', H q = none → H' q = some (.lst (exch xs i)) → Same H H' →
    Q (.ref q) H'
def spOut (C : Addr) : Sp := fun vs H Q _ =>
  ∃ (b a : Addr) (ls os : List (List Nat)) (i : Nat),
  vs = [.ref b, .ref a, .int i] ∧ Ord C H b a ls os ∧ i + 1 < os.length ∧
  ∀ H', Same H H' → Q (.bl (outB ls os i)) H'
section
variable {P : Program} {w : World} {K : PySem.W.Frag}
  {mg : Str → Option Value} {base : Heap} {C : Addr}
theorem ok_isint {f : Addr} {fd : FuncData} {k : Nat}
    (F : Fun K "is_integer" "is_integer" s_is_integer f fd)
    (B : Bl mg) (BI : BlI mg) :
    FnOk P w K mg base CX0 (k + 1) f fd ["value"] spIsInt := by
  refine F.ok sc_is_integer (fun vs H Q E h => ?_)
    (fun cv A outer s H vs Q E hr h => ?_)
  · obtain ⟨v, rfl, _⟩ := h
    rfl
  obtain ⟨v, rfl, q⟩ := h
  refine ⟨_, pss_one (ps_ret (pe_and
    (pe_callB call_isi (by rfl) B.isi bt_isi (pa_cons (pv 0) (pa_cons
      (pe_bltn (v := .ty "int") (by rfl) BI.int bti_int rfl) pa_nil)))
    (pe_one (pe_not (pe_callB call_isi (by rfl) B.isi bt_isi (pa_cons (pv 0)
      (pa_cons (pe_bltn (v := .ty "bool") (by rfl) BI.bool bti_bool rfl)
        pa_nil))))))), ?_⟩
  refine ⟨_, rfl, _, _, _, _, true, rfl, .ty "int", .base (.int _),
    kit_ty (by decide +kernel), _, rfl, iteT ?_⟩
  exact ⟨_, rfl, _, _, _, _, false, rfl, .ty "bool", .base (.int _),
    kit_ty (by decide +kernel), _, rfl, q⟩
theorem ok_intfrom {f : Addr} {fd : FuncData} {k : Nat}
    (F : Fun K "is_integer_from" "is_integer_from" s_is_integer_from f fd)
    (Ci : Cal P w K mg base k "is_integer" ["value"] spIsInt) :
    FnOk P w K mg base CX0 (k + 1) f fd ["value", "low", "high"]
      spIntFrom := by
  refine F.ok sc_is_integer_from (fun vs H Q E h => ?_)
    (fun cv A outer s H vs Q E hr h => ?_)
  · obtain ⟨v, lo, hi, rfl, _⟩ := h
    rfl
  obtain ⟨v, lo, hi, rfl, q⟩ := h
  refine ⟨_, pss_one (ps_ret (pe_and (pe_cal Ci hr (pa_cons (pv 0) pa_nil))
    (pe_one (pe_chain op_le op_le (pv 1) (pv 0) (pv 2))))), ?_⟩
  refine ⟨_, rfl, v, rfl, _, rfl, iteT ?_⟩
  refine ⟨_, rfl, _, rfl, _, _, rfl, rfl, _, rfl, ite2 (fun c => ?_)
    (fun c => ?_)⟩
  · refine ⟨_, rfl, _, _, rfl, rfl, ?_⟩
    have c' : lo ≤ v := of_decide_eq_true c
    rw [decide_eq_true c', Bool.true_and] at q
    exact q
  · have c' : ¬ lo ≤ v := fun z => c (decide_eq_true z)
    rw [decide_eq_false c', Bool.false_and] at q
    exact q
theorem ok_swapix {f fl : Addr} {fd fdl : FuncData} {k n : Nat}
    (F : Fun K "is_swap_index" "is_swap_index" s_is_swap_index f fd)
    (B : Bl mg)
    (Ci : Cal P w K mg base k "is_integer_from" ["value", "low", "high"]
      spIntFrom)
    (Sl : Spec1 K C "__len__" fl fdl ["self"])
    (Gl : FnOk P w K mg base CX0 n fl fdl ["self"] (spLenB C))
    (hn : n + 1 ≤ k) :
    FnOk P w K mg base CX0 (k + 1) f fd ["base", "value"] (spSwapIx C) := by
  refine F.ok sc_is_swap_index (fun vs H Q E h => ?_)
    (fun cv A outer s H vs Q E hr h => ?_)
  · obtain ⟨b, ls, v, rfl, _⟩ := h
    rfl
  obtain ⟨b, ls, v, rfl, hb, hl, q⟩ := h
  have hrn := hr.mono hn
  refine ⟨_, pss_one (ps_ret (pe_cal Ci hr (pa_cons (pv 1) (pa_cons pe_int
    (pa_cons (pe_op op_sub (pe_callB (call_lenOwn Sl Gl hrn) (by rfl) B.len
      PySem.boot_len (pa_cons (pv 0) pa_nil)) pe_int) pa_nil))))), ?_⟩
  obtain ⟨dx, lo, d, h1, h2, h3⟩ := hb.ob
  exact ⟨_, rfl, _, rfl, b, dx, _, rfl, h1, b, ls, rfl, hb, ls.length, rfl,
    by omega, _, _, rfl, rfl, v, 0, _, rfl, q⟩
theorem ok_chkix {f : Addr} {fd : FuncData} {k : Nat}
    (F : Fun K "check_swap_index" "check_swap_index" s_check_swap_index f fd)
    (Ci : Cal P w K mg base k "is_swap_index" ["base", "value"]
      (spSwapIx C)) :
    FnOk P w K mg base CX0 (k + 1) f fd ["base", "index"] (spChkIx C) := by
  refine F.ok sc_check_swap_index (fun vs H Q E h => ?_)
    (fun cv A outer s H vs Q E hr h => ?_)
  · obtain ⟨b, ls, v, rfl, _⟩ := h
    rfl
  obtain ⟨b, ls, i, rfl, hb, hl, hi, q⟩ := h
  refine ⟨_, pss_one (ps_if (pt_not (pt_val (pe_cal Ci hr (pa_cons (pv 0)
    (pa_cons (pv 1) pa_nil))))) (pss_one ps_never) pss_nil), ?_⟩
  refine ⟨_, rfl, _, rfl, b, ls, _, rfl, hb, hl, _, rfl, ?_⟩
  rw [decide_eq_true (show (0 : Int) ≤ (i : Int) by omega),
    decide_eq_true (show (i : Int) ≤ (ls.length : Int) - 2 by omega)]
  exact iteF q
theorem ok_exch {f : Addr} {fd : FuncData} {k : Nat}
    (F : Fun K "exchanged" "exchanged" s_exchanged f fd) :
    FnOk P w K mg base CX0 (k + 1) f fd ["order", "index"] (spExch K) := by
  refine F.ok sc_exchanged (fun vs H Q E h => ?_)
    (fun cv A outer s H vs Q E hr h => ?_)
  · obtain ⟨a, xs, i, rfl, _⟩ := h
    rfl
  obtain ⟨a, xs, i, rfl, hS, hi, hx, q⟩ := h
  refine ⟨_, pss_one (ps_ret (pe_op op_cat (pe_op op_cat
      (pe_slice sl_list (pv 0) po_none (po_some (pv 1)))
      (pe_lst (pa_cons (pe_ix ix_list (pv 0) (pe_op op_add (pv 1) pe_int)
          (fun _ _ => rfl))
        (pa_cons (pe_ix ix_list (pv 0) (pv 1) (fun _ _ => rfl)) pa_nil))))
      (pe_slice sl_list (pv 0) (po_some (pe_op op_add (pv 1) pe_int))
        po_none))), ?_⟩
  refine ⟨_, rfl, _, rfl, i, rfl, a, _, rfl, hS, fun p1 n1 => ?_⟩
  rw [cut_to _ (by omega)]
  have s1 : Same H (upd H p1 (.lst (xs.take i))) := sameNew n1
  have h1 : (upd H p1 (.lst (xs.take i))) p1 = some (.lst (xs.take i)) :=
    upd_same
  generalize upd H p1 (.lst (xs.take i)) = H1 at s1 h1 ⊢
  have g1 := s1.seq hS
  refine ⟨_, rfl, _, rfl, _, _, rfl, rfl, a, _, _, xs[i + 1], rfl, rfl, g1,
    atI_nat (j := i + 1) (List.getElem?_eq_getElem hi), _, rfl, _, rfl, a, _, _,
    xs[i], rfl, rfl, g1, atI_nat (j := i)
    (List.getElem?_eq_getElem (by omega)), sz (by simp), fun p2 n2 => ?_⟩
  have s2 : Same H1 (upd H1 p2 (.lst [xs[i + 1], xs[i]])) := sameNew n2
  have h2 : (upd H1 p2 (.lst [xs[i + 1], xs[i]])) p2 =
    some (.lst [xs[i + 1], xs[i]]) := upd_same
  generalize upd H1 p2 (.lst [xs[i + 1], xs[i]]) = H2 at s2 h2 ⊢
  refine ⟨p1, p2, _, _, rfl, rfl, s2 _ _ h1, h2, ?_, fun p3 n3 => ?_⟩
  · rw [List.length_take]
    exact sz (by simp; omega)
  have s3 : Same H2 (upd H2 p3 (.lst (xs.take i ++ [xs[i + 1], xs[i]]))) :=
    sameNew n3
  have h3 : (upd H2 p3 (.lst (xs.take i ++ [xs[i + 1], xs[i]]))) p3 =
    some (.lst (xs.take i ++ [xs[i + 1], xs[i]])) := upd_same
  generalize upd H2 p3 (.lst (xs.take i ++ [xs[i + 1], xs[i]])) = H3
    at s3 h3 ⊢
  refine ⟨_, rfl, _, rfl, _, _, rfl, rfl, _, rfl, a, _, rfl,
    s3.seq (s2.seq g1), fun p4 n4 => ?_⟩
  rw [show (i : Int) + 2 = ((i + 2 : Nat) : Int) by omega,
    cut_from _ (by omega)]
  have s4 : Same H3 (upd H3 p4 (.lst (xs.drop (i + 2)))) := sameNew n4
  have h4 : (upd H3 p4 (.lst (xs.drop (i + 2)))) p4 =
    some (.lst (xs.drop (i + 2))) := upd_same
  generalize upd H3 p4 (.lst (xs.drop (i + 2))) = H4 at s4 h4 ⊢
  refine ⟨p3, p4, _, _, rfl, rfl, s4 _ _ h3, h4, ?_, fun p5 n5 => ?_⟩
  · rw [List.length_append, List.length_take, List.length_drop]
    exact sz (by simp; omega)
  have sm : Same H H4 := ((s1.trans s2).trans s3).trans s4
  refine q p5 _ ?_ ?_ (sm.trans (sameNew n5))
  · cases e : H p5 with
    | none => rfl
    | some o => rw [sm _ _ e] at n5; cases n5
  · rw [upd_same, ← exch_eq hi]
theorem ok_goes {f : Addr} {fd : FuncData} {k : Nat}
    (F : Fun K "goes_outward" "goes_outward" s_goes_outward f fd)
    (Mp : CalM P w K mg base C k "precedes" ["self", "first", "second"]
      (spPrec C)) :
    FnOk P w K mg base CX0 (k + 1) f fd ["base", "order", "index"]
      (spOut C) := by
  refine F.ok sc_goes_outward (fun vs H Q E h => ?_)
    (fun cv A outer s H vs Q E hr h => ?_)
  · obtain ⟨b, a, ls, os, i, rfl, _⟩ := h
    rfl
  obtain ⟨b, a, ls, os, i, rfl, o, hi, q⟩ := h
  refine ⟨_, pss_one (ps_ret (pe_calM Mp hr (pv 0) (pa_cons
    (pe_ix ix_list (pv 1) (pv 2) (fun _ _ => rfl)) (pa_cons
    (pe_ix ix_list (pv 1) (pe_op op_add (pv 2) pe_int) (fun _ _ => rfl))
    pa_nil)))), ?_⟩
  obtain ⟨dx, lo, d, h1, h2, h3⟩ := o.ba.ob
  have hL := SqL.of (K := K) o.li
  refine ⟨_, rfl, b, dx, _, rfl, h1, bf_no _ _ (by decide +kernel)
    (by decide +kernel), _, rfl, _, rfl, a, _, _, _, rfl, rfl, hL,
    atI_nat (j := i) (getD_map vS [] (by omega)), _, rfl, _, rfl, _, _, rfl, rfl,
    a, _, _, _, rfl, rfl, hL, atI_nat (j := i + 1) (getD_map vS [] hi),
    b, ls, _, _, rfl, o.ba, o.good.nm, o.pm.mem_iff.mp (getD_mem [] (by omega)),
    o.pm.mem_iff.mp (getD_mem [] hi), fun H1 s1 => q H1 s1⟩
end
end OM
namespace OM
open PySem PySem.Spec PyProof.Rows L2
/-- the inverted pairs, new tuples in a new list -/
def spPairs (C : Addr) : Sp := fun vs H Q _ =>
  ∃ (b a : Addr) (ls os : List (List Nat)), vs = [.ref b, .ref a] ∧
  Ord C H b a ls os ∧ ∀ (q : Addr) (rs : List Addr) (H' : Hp), H q = none →
    H' q = some (.lst (rs.map V.ref)) → PrsAt H' rs (invAll ls os) →
    Same H H' → Q (.ref q) H'
/-- the same by the law -/
def spLInv : Sp := fun vs H Q _ =>
  ∃ (it a : Addr) (ls os : List (List Nat)), vs = [.ref it, .ref a] ∧
  H it = some (.lst (ls.map vS)) ∧ H a = some (.lst (os.map vS)) ∧ Good ls ∧
  os.Perm ls ∧ ∀ (q : Addr) (rs : List Addr) (H' : Hp), H q = none →
    H' q = some (.lst (rs.map V.ref)) → PrsAt H' rs (invAll ls os) →
    Same H H' → Q (.ref q) H'
theorem invF_snoc (os : List (List Nat)) (f : List Nat) (r : List (List Nat))
    (s : List Nat) : invF os f (r ++ [s]) = invF os f r ++
      if os.idxOf s < os.idxOf f then [(f, s)] else [] := by
  unfold invF
  rw [List.filter_append, List.map_append]
  congr 1
  by_cases h : os.idxOf s < os.idxOf f
  · rw [List.filter_cons_of_pos (by simpa using h), if_pos h]
    rfl
  · rw [List.filter_cons_of_neg (by simpa using h), if_neg h]
    rfl
theorem take_snoc {α : Type} {r : List α} {j : Nat} {s : α}
    (h : r[j]? = some s) : r.take (j + 1) = r.take j ++ [s] := by
  rw [List.take_add_one, h]
  rfl
theorem Good.many {ls : List (List Nat)} (g : Good ls) (os : List (List Nat))
    {i : Nat} (hi : i ≤ ls.length) : (invTo ls os i).length ≤ 1600 := by
  have a := invTo_len ls os i hi
  have b := g.hi
  have : i * ls.length ≤ 40 * 40 := Nat.mul_le_mul (by omega) b
  omega
theorem SqL.up {K : PySem.W.Frag} {H H' : Hp} {a : Addr} {xs : List V}
    (h : H a = some (.lst xs)) (s : Same H H') : SqL K H' a xs :=
  SqL.of (s _ _ h)
theorem PrsAt.put {H : Hp} {D : Addr} {o : HO} {xs : List V} :
    ∀ {rs : List Addr} {ps : List Pr}, PrsAt H rs ps →
      H D = some (.lst xs) → PrsAt (upd H D o) rs ps
  | _, _, .nil, _ => .nil
  | _, _, .cons h t, hD => .cons (by
      rw [upd_ne (ne_of h hD nofun)]; exact h) (PrsAt.put t hD)
end OM
namespace OM
open PySem PySem.Spec PyProof.Rows L2
structure Bl2 (mg : Str → Option Value) : Prop where
  dict : mg "dict" = none
  int : mg "int" = none
theorem bt_dict : bootBuiltins "dict" = some (.type "dict") := by
  decide +kernel
theorem bt_int : bootBuiltins "int" = some (.type "int") := by
  decide +kernel
theorem merge_prs {ls : List (List Nat)} (nd : ls.Nodup) : ∀ i, i ≤ ls.length →
    mergeK [] (prs 0 (ls.take i)) = prs 0 (ls.take i)
  | 0, _ => rfl
  | i + 1, h => by
    have ih := merge_prs nd i (by omega)
    have hi : ls[i]? = some ls[i] := List.getElem?_eq_getElem (by omega)
    rw [take_snoc hi, prs_snoc]
    unfold mergeK at ih ⊢
    rw [List.foldl_append, ih]
    show putK (prs 0 (ls.take i)) (Sum.inr (SX.S ls[i])) _ = _
    rw [putK_new _ (by rw [val_prs, if_neg (nodup_take nd hi)])]
/-- the tuples (item, place) -/
def KvAt (K : PySem.W.Frag) (H : Hp) (rs : List Addr)
    (kvs : List (Key × V)) : Prop :=
  Paired (fun p (kv : Key × V) => SqT K H p [kV kv.1, kv.2]) rs kvs
theorem KvAt.snoc {K : PySem.W.Frag} {H : Hp} {r : Addr} {kv : Key × V}
    (h : SqT K H r [kV kv.1, kv.2]) : ∀ {rs : List Addr}
    {kvs : List (Key × V)}, KvAt K H rs kvs → KvAt K H (rs ++ [r]) (kvs ++ [kv])
  | _, _, .nil => .cons h .nil
  | _, _, .cons a t => .cons a (KvAt.snoc h t)
theorem KvAt.len {K : PySem.W.Frag} {H : Hp} : ∀ {rs : List Addr}
    {kvs : List (Key × V)}, KvAt K H rs kvs → rs.length = kvs.length
  | _, _, .nil => rfl
  | _, _, .cons _ t => congrArg (· + 1) (KvAt.len t)
theorem SqT.put {K : PySem.W.Frag} {H : Hp} {r D : Addr} {o : HO}
    {xs ys : List V} (h : SqT K H r xs) (hD : H D = some (.lst ys)) :
    SqT K (upd H D o) r xs := by
  rcases h with (h | ⟨ob, h⟩) | h
  · exact .inl (.inl (by rw [upd_ne (ne_of h hD nofun)]; exact h))
  · exact .inl (.inr ⟨ob, by rw [upd_ne (ne_of h hD nofun)]; exact h⟩)
  · exact .inr h
theorem SqT.same {K : PySem.W.Frag} {H H' : Hp} {r : Addr} {xs : List V}
    (h : SqT K H r xs) (s : Same H H') : SqT K H' r xs := by
  rcases h with (h | ⟨ob, h⟩) | h
  · exact .inl (.inl (s _ _ h))
  · exact .inl (.inr ⟨ob, s _ _ h⟩)
  · exact .inr h
theorem KvAt.put {K : PySem.W.Frag} {H : Hp} {D : Addr} {o : HO} {ys : List V}
    (hD : H D = some (.lst ys)) : ∀ {rs : List Addr} {kvs : List (Key × V)},
    KvAt K H rs kvs → KvAt K (upd H D o) rs kvs
  | _, _, .nil => .nil
  | _, _, .cons h t => .cons (OM.SqT.put h hD) (KvAt.put hD t)
theorem KvAt.same {K : PySem.W.Frag} {H H' : Hp} (s : Same H H') :
    ∀ {rs : List Addr} {kvs : List (Key × V)},
    KvAt K H rs kvs → KvAt K H' rs kvs
  | _, _, .nil => .nil
  | _, _, .cons h t => .cons (OM.SqT.same h s) (KvAt.same s t)
end OM
namespace OM
open PySem PySem.Spec PyProof.Rows L2
theorem idx_of {α : Type} [BEq α] [LawfulBEq α] {l : List α} {i : Nat} {x : α}
    (nd : l.Nodup) (h : l[i]? = some x) : l.idxOf x = i := by
  have hm := List.mem_of_getElem? h
  have hl := List.idxOf_lt_length_of_mem hm
  obtain ⟨hi, e⟩ := List.getElem?_eq_some_iff.mp h
  have e2 := List.getElem_idxOf hl
  exact (List.getElem_inj nd).mp (e2.trans e.symm)
theorem idx_inj {l : List (List Nat)} {x y : List Nat} (hx : x ∈ l)
    (h : l.idxOf x = l.idxOf y) (hy : y ∈ l) : x = y := by
  have a := List.getElem_idxOf (List.idxOf_lt_length_of_mem hx)
  have b := List.getElem_idxOf (List.idxOf_lt_length_of_mem hy)
  rw [← a, ← b]
  congr 1
theorem mem_drop_idx {l : List (List Nat)} (nd : l.Nodup) {j : Nat}
    {s : List Nat} : s ∈ l.drop j ↔ s ∈ l ∧ j ≤ l.idxOf s := by
  constructor
  · intro h
    obtain ⟨i, hi⟩ := List.mem_iff_getElem?.mp h
    rw [List.getElem?_drop] at hi
    rw [idx_of nd hi]
    exact ⟨List.mem_of_getElem? hi, by omega⟩
  · rintro ⟨h, hj⟩
    have hl := List.idxOf_lt_length_of_mem h
    refine List.mem_iff_getElem?.mpr ⟨l.idxOf s - j, ?_⟩
    rw [List.getElem?_drop, show j + (l.idxOf s - j) = l.idxOf s by omega,
      List.getElem?_eq_getElem hl, List.getElem_idxOf hl]
theorem invAll_mem {ls os : List (List Nat)} (nd : ls.Nodup) {p : Pr} :
    p ∈ invAll ls os ↔ p.1 ∈ ls ∧ p.2 ∈ ls ∧ ls.idxOf p.1 < ls.idxOf p.2 ∧
      os.idxOf p.2 < os.idxOf p.1 := by
  unfold invAll
  rw [invTo_mem]
  constructor
  · rintro ⟨j, hj, h1, h2, h3⟩
    have e := idx_of nd h1
    have d := (mem_drop_idx nd).mp h2
    exact ⟨List.mem_of_getElem? h1, d.1, by omega, h3⟩
  · rintro ⟨h1, h2, h3, h4⟩
    have hl := List.idxOf_lt_length_of_mem h1
    refine ⟨ls.idxOf p.1, hl, ?_, (mem_drop_idx nd).mpr ⟨h2, h3⟩, h4⟩
    rw [List.getElem?_eq_getElem hl, List.getElem_idxOf hl]
theorem Good.uniP {ls os : List (List Nat)} (g : Good ls) :
    UniP (invAll ls os) := fun p hp => by
  have h := (invAll_mem g.nd).mp hp
  exact ⟨⟨(g.nm _ h.1).hi, (g.nm _ h.1).uni⟩,
    ⟨(g.nm _ h.2.1).hi, (g.nm _ h.2.1).uni⟩⟩
theorem Good.ne {ls : List (List Nat)} (g : Good ls) : ls ≠ [] := fun e => by
  have := g.lo
  rw [e] at this
  exact absurd this (by decide)
theorem ne_no {x : V} {A B : Prop} (h : B) :
    if (!decide (x = x)) = true then A else B := iteNS rfl h
/-- the pair of two items, by their places -/
def pairOf (ls : List (List Nat)) (l m : List Nat) : Pr :=
  if ls.idxOf l < ls.idxOf m then (l, m) else (m, l)
end OM
namespace OM
open PySem PySem.Spec PyProof.Rows L2
/-! ### what a log holds -/
def lf (b cu ro : Addr) : List (Str × V) :=
  putF "rows" (.ref ro) (putF "current" (.ref cu) (putF "ground" (.ref b) []))
theorem ne_gc : ¬ (("ground" : Str) = "current") := by decide +kernel
theorem ne_gr : ¬ (("ground" : Str) = "rows") := by decide +kernel
theorem ne_cr : ¬ (("current" : Str) = "rows") := by decide +kernel
theorem lf_ground (b cu ro : Addr) :
    (lf b cu ro).lookup ("ground" : Str) = some (.ref b) := by
  unfold lf
  rw [lookup_putF, if_neg ne_gr, lookup_putF, if_neg ne_gc, lookup_putF,
    if_pos rfl]
theorem lf_current (b cu ro : Addr) :
    (lf b cu ro).lookup ("current" : Str) = some (.ref cu) := by
  unfold lf
  rw [lookup_putF, if_neg ne_cr, lookup_putF, if_pos rfl]
theorem lf_rows (b cu ro : Addr) :
    (lf b cu ro).lookup ("rows" : Str) = some (.ref ro) := by
  unfold lf
  rw [lookup_putF, if_pos rfl]
theorem lf_no (b cu ro : Addr) {m : Str} (h1 : ¬ m = "ground")
    (h2 : ¬ m = "current") (h3 : ¬ m = "rows") :
    (lf b cu ro).lookup m = none := by
  unfold lf
  rw [lookup_putF, if_neg h3, lookup_putF, if_neg h2, lookup_putF, if_neg h1]
  rfl
theorem lf_eq (b cu ro : Addr) : lf b cu ro =
    [(("ground" : Str), V.ref b), ("current", V.ref cu), ("rows", V.ref ro)] := by
  unfold lf
  show putF "rows" _ (if ("ground" : Str) = "current" then _ else _) = _
  rw [if_neg ne_gc]
  show (if ("ground" : Str) = "rows" then _ else _) = _
  rw [if_neg ne_gr]
  show _ :: (if ("current" : Str) = "rows" then _ else _) = _
  rw [if_neg ne_cr]
  rfl
theorem lf_setc (b cu ro cu' : Addr) :
    putF "current" (.ref cu') (lf b cu ro) = lf b cu' ro := by
  rw [lf_eq, lf_eq]
  show (if ("ground" : Str) = "current" then _ else _) = _
  rw [if_neg ne_gc]
  show _ :: (if ("current" : Str) = "current" then _ else _) = _
  rw [if_pos rfl]
theorem lf_setr (b cu ro ro' : Addr) :
    putF "rows" (.ref ro') (lf b cu ro) = lf b cu ro' := by
  rw [lf_eq, lf_eq]
  show (if ("ground" : Str) = "rows" then _ else _) = _
  rw [if_neg ne_gr]
  show _ :: (if ("current" : Str) = "rows" then _ else _) = _
  rw [if_neg ne_cr]
  show _ :: _ :: (if ("rows" : Str) = "rows" then _ else _) = _
  rw [if_pos rfl]
theorem lf_len (b cu ro : Addr) : (lf b cu ro).length < 1000 := by
  rw [lf_eq]
  show 3 < 1000
  decide
abbrev ixs (rows : List En) : List Nat := rows.map (·.1)
/-- a reason: a name or nothing -/
def Rsn (l : List Nat) : Prop := l = [] ∨ Nm l
theorem Rsn.len {l : List Nat} (h : Rsn l) : l.length ≤ 8 := by
  rcases h with rfl | h
  · simp
  · exact h.hi
theorem Rsn.uni {l : List Nat} (h : Rsn l) : ∀ c ∈ l, c < 1114112 := by
  rcases h with rfl | h
  · nofun
  · exact h.uni
structure LogAt (C L : Addr) (H : Hp) (g ro b : Addr) (ls : List (List Nat))
    (rows : List En) : Prop where
  ob : ∃ dx cu rs, H g = some (.ins L dx (lf b cu ro)) ∧
    H cu = some (.lst ((run ls (ixs rows)).map vS)) ∧
    H ro = some (.lst (rs.map V.ref)) ∧ EnsAt H rs rows
  ba : BaseAt C H b ls
  good : Good ls
  wd : Wd ls ls (ixs rows)
  rn : ∀ e ∈ rows, Rsn e.2
section
variable {C L g ro b : Addr} {H H' : Hp} {ls : List (List Nat)} {rows : List En}
theorem LogAt.same (x : LogAt C L H g ro b ls rows) (s : Same H H') :
    LogAt C L H' g ro b ls rows := by
  obtain ⟨dx, cu, rs, h1, h2, h3, h4⟩ := x.ob
  exact ⟨⟨dx, cu, rs, s _ _ h1, s _ _ h2, s _ _ h3, h4.same s⟩, x.ba.same s,
    x.good, x.wd, x.rn⟩
theorem LogAt.of (x : LogAt C L H g ro b ls rows) : Of ls (run ls (ixs rows)) :=
  Of.run _ ⟨x.good.nd, List.Perm.refl _⟩
theorem LogAt.perm (x : LogAt C L H g ro b ls rows) :
    (run ls (ixs rows)).Perm ls := x.of.pm
theorem LogAt.oLen (x : LogAt C L H g ro b ls rows) :
    (run ls (ixs rows)).length = ls.length := run_len _ _
theorem LogAt.sme (x : LogAt C L H g ro b ls rows) : SmE rows := fun e he => by
  have h1 := x.wd.ixs e.1 (List.mem_map_of_mem he)
  have h2 := x.good.hi
  have h3 := x.rn e he
  exact ⟨by omega, h3.len, h3.uni⟩
end
theorem invTo_nodup {ls os : List (List Nat)} (nd : ls.Nodup) :
    ∀ i, (invTo ls os i).Nodup
  | 0 => List.nodup_nil
  | i + 1 => by
    have ih := invTo_nodup (os := os) nd i
    show (invTo ls os i ++ _).Nodup
    cases e : ls[i]? with
    | none => simpa using ih
    | some f =>
      refine List.nodup_append.mpr ⟨ih, ?_, ?_⟩
      · show (invF os f (ls.drop (i + 1))).Nodup
        unfold invF
        refine nodup_map (fun a b h => (Prod.mk.inj h).2) ?_
        exact ((List.drop_sublist _ _).nodup nd).filter _
      · rintro x hx y hy rfl
        obtain ⟨j, hj, h1, _, _⟩ := invTo_mem.mp hx
        have h2 := (invF_mem.mp hy).1
        have a := idx_of nd h1
        have c := idx_of nd e
        rw [h2] at a
        omega
theorem rep_inv {ls os : List (List Nat)} (nd : ls.Nodup) :
    Rep ls os (invAll ls os) := ⟨invTo_nodup nd _, fun _ => invAll_mem nd⟩
section
variable {C L g ro b : Addr} {H H' : Hp} {ls : List (List Nat)} {rows : List En}
theorem LogAt.rep (x : LogAt C L H g ro b ls rows) :
    Rep ls (run ls (ixs rows)) (prsOf ls (ixs rows)) := by
  have := (Rep.nil x.good.nd).word ⟨x.good.nd, List.Perm.refl _⟩ x.wd
  rw [List.nil_append] at this
  exact this
theorem LogAt.count (x : LogAt C L H g ro b ls rows) :
    rows.length = (invAll ls (run ls (ixs rows))).length := by
  have := x.rep.len (rep_inv x.good.nd)
  rw [prsOf_len, List.length_map] at this
  exact this
theorem LogAt.many (x : LogAt C L H g ro b ls rows) : rows.length ≤ 1600 := by
  rw [x.count]
  exact x.good.many _ (Nat.le_refl _)
end
/-- all but two places are as they were -/
def But2 (g ro : Addr) (H H' : Hp) : Prop :=
  ∀ q o, H q = some o → q ≠ g → q ≠ ro → H' q = some o
theorem But2.of {g ro : Addr} {H H' : Hp} (s : Same H H') : But2 g ro H H' :=
  fun q o h _ _ => s q o h
theorem But2.trans {g ro : Addr} {H H1 H2 : Hp} (a : But2 g ro H H1)
    (b : But2 g ro H1 H2) : But2 g ro H H2 :=
  fun q o h n m => b q o (a q o h n m) n m
/-- what a log is not -/
structure Out (g ro q : Addr) : Prop where
  g : q ≠ g
  ro : q ≠ ro
section
variable {C L g ro b p q : Addr} {H H' : Hp} {ls ms : List (List Nat)}
  {rows : List En}
theorem LogAt.rng (x : LogAt C L H g ro b ls rows) (r : Rng H p) :
    Out g ro p := by
  obtain ⟨dx, cu, rs, h1, h2, h3, h4⟩ := x.ob
  obtain ⟨i, j, e, _⟩ := r
  refine ⟨ne_of e h1 nofun, ne_of e h3 fun z => ?_⟩
  have z' := HO.lst.inj z
  cases rs with
  | nil => cases z'
  | cons a r => cases (List.cons.inj z').1
theorem LogAt.nms (x : LogAt C L H g ro b ls rows)
    (h : H q = some (.lst (ms.map vS))) (ne : ms ≠ []) : Out g ro q := by
  obtain ⟨dx, cu, rs, h1, h2, h3, h4⟩ := x.ob
  refine ⟨ne_of h h1 nofun, ne_of h h3 fun z => ?_⟩
  have z' := HO.lst.inj z
  cases ms with
  | nil => exact ne rfl
  | cons m r =>
    cases rs with
    | nil => cases z'
    | cons a r => cases (List.cons.inj z').1
theorem bf_ne_lf {lo d b cu ro : Addr} {C L dx dy : Addr} :
    ¬ ((HO.ins C dx (bf lo d)) = (HO.ins L dy (lf b cu ro))) := fun z => by
  have z' : bf lo d = lf b cu ro := by injection z
  have := congrArg (List.lookup ("ground" : Str)) z'
  rw [lf_ground, bf_no _ _ (by decide +kernel) (by decide +kernel)] at this
  cases this
/-- a base stays where a log changes -/
theorem LogAt.bas (x : LogAt C L H g ro b ls rows) {c : Addr} (g' : Good ms)
    (h : BaseAt C H c ms) (s : But2 g ro H H') : BaseAt C H' c ms := by
  obtain ⟨dx, cu, rs, h1, h2, h3, h4⟩ := x.ob
  obtain ⟨dy, lo, d, k1, k2, k3⟩ := h.ob
  have n2 := x.nms k2 g'.ne
  exact ⟨dy, lo, d, s _ _ k1 (ne_of k1 h1 bf_ne_lf) (ne_of k1 h3 nofun),
    s _ _ k2 n2.g n2.ro, s _ _ k3 (ne_of k3 h1 nofun) (ne_of k3 h3 nofun)⟩
theorem Rng.but2 (r : Rng H p) (o : Out g ro p) (s : But2 g ro H H') :
    Rng H' p := by
  obtain ⟨i, j, e, z⟩ := r
  exact ⟨i, j, s _ _ e o.g o.ro, z⟩
theorem LogAt.tup (x : LogAt C L H g ro b ls rows) {xs : List V}
    (h : H q = some (.tup xs)) : Out g ro q := by
  obtain ⟨dx, cu, rs, h1, h2, h3, h4⟩ := x.ob
  exact ⟨ne_of h h1 nofun, ne_of h h3 nofun⟩
/-- a log stays where a rng changes -/
theorem LogAt.but (x : LogAt C L H g ro b ls rows) (r : Rng H p)
    (s : But p H H') : LogAt C L H' g ro b ls rows := by
  have o := x.rng r
  obtain ⟨dx, cu, rs, h1, h2, h3, h4⟩ := x.ob
  refine ⟨⟨dx, cu, rs, s _ _ h1 o.g.symm, s _ _ h2 (neRng r h2),
    s _ _ h3 o.ro.symm, h4.keep fun a xs h => s _ _ h ?_⟩, x.ba.but r s, x.good,
    x.wd, x.rn⟩
  obtain ⟨i, j, e, z⟩ := r
  exact ne_of h e nofun
end
structure LC (K : PySem.W.Frag) (mg : Str → Option Value) (L : Addr) :
    Prop where
  ic : C8.InsC K L
  nG : NoAttr K L "ground"
  nC : NoAttr K L "current"
  nR : NoAttr K L "rows"
  mgL : mg "SwapLog" = some (.ref L)
  kL : PySem.W.keepIn K (.ref L) = true
theorem LC.cl {K : PySem.W.Frag} {mg : Str → Option Value} {L : Addr}
    (x : LC K mg L) : Cls K L := x.ic.cl
/-! ### promises -/
def spLInit (C L : Addr) : Sp := fun vs H Q _ =>
  ∃ (g b dx : Addr) (ls : List (List Nat)), vs = [.ref g, .ref b] ∧
  H g = some (.ins L dx []) ∧ BaseAt C H b ls ∧ Good ls ∧
  ∀ ro H', H ro = none → LogAt C L H' g ro b ls [] → But g H H' → Q .non H'
def spLLen (C L : Addr) : Sp := fun vs H Q _ =>
  ∃ (g ro b : Addr) (ls : List (List Nat)) (rows : List En), vs = [.ref g] ∧
  LogAt C L H g ro b ls rows ∧ Q (.int rows.length) H
def spLOrd (C L : Addr) : Sp := fun vs H Q _ =>
  ∃ (g ro b : Addr) (ls : List (List Nat)) (rows : List En), vs = [.ref g] ∧
  LogAt C L H g ro b ls rows ∧ ∀ q H', H q = none →
    H' q = some (.lst ((run ls (ixs rows)).map vS)) → Same H H' → Q (.ref q) H'
def spLEnt (C L : Addr) : Sp := fun vs H Q _ =>
  ∃ (g ro b : Addr) (ls : List (List Nat)) (rows : List En), vs = [.ref g] ∧
  LogAt C L H g ro b ls rows ∧ ∀ q rs H', H q = none →
    H' q = some (.lst (rs.map V.ref)) → EnsAt H' rs rows → Same H H' →
    Q (.ref q) H'
abbrev vIs (ws : List Nat) : List V := ws.map fun (i : Nat) => V.int (i : Int)
def spLIxs (C L : Addr) : Sp := fun vs H Q _ =>
  ∃ (g ro b : Addr) (ls : List (List Nat)) (rows : List En), vs = [.ref g] ∧
  LogAt C L H g ro b ls rows ∧ ∀ q H', H q = none →
    H' q = some (.lst (vIs (ixs rows))) → Same H H' → Q (.ref q) H'
section
variable {P : Program} {w : World} {K : PySem.W.Frag}
  {mg : Str → Option Value} {base : Heap} {C L : Addr}
theorem ok_linit {f : Addr} {fd : FuncData} {k : Nat}
    (F : Fun K "__init__" "SwapLog.__init__" s_SwapLog_init f fd)
    (T : LC K mg L)
    (Mn : CalM P w K mg base C k "names" ["self"] (spGetNames C)) :
    FnOk P w K mg base CX0 (k + 1) f fd ["self", "base"] (spLInit C L) := by
  refine F.ok sc_SwapLog_init (fun vs H Q E h => ?_)
    (fun cv A outer s H vs Q E hr h => ?_)
  · obtain ⟨g, b, dx, ls, rfl, _⟩ := h
    rfl
  obtain ⟨g, b, dx, ls, rfl, hg, hb, gd, q⟩ := h
  refine ⟨_, pss_cons (ps_fld (pv 0) (pv 1) rfl)
    (pss_cons (ps_fld (pv 0) (pe_calM0 Mn hr (pv 1)) rfl)
    (pss_one (ps_fld (pv 0) (pe_lst pa_nil) rfl))), ?_⟩
  refine ⟨_, rfl, _, rfl, g, L, dx, [], rfl, hg, T.cl, T.nG, by decide, ?_⟩
  have b1 : But g H (upd H g (.ins L dx (putF "ground" (.ref b) []))) :=
    (But.refl H).at
  have g1 : (upd H g (.ins L dx (putF "ground" (.ref b) []))) g =
    some (.ins L dx (putF "ground" (.ref b) [])) := upd_same
  generalize upd H g (.ins L dx (putF "ground" (.ref b) [])) = H1 at b1 g1 ⊢
  have hb1 : BaseAt C H1 b ls := by
    obtain ⟨dy, lo, d, k1, k2, k3⟩ := hb.ob
    refine ⟨dy, lo, d, b1 _ _ k1 (ne_of k1 hg fun z => ?_),
      b1 _ _ k2 (ne_of k2 hg nofun), b1 _ _ k3 (ne_of k3 hg nofun)⟩
    have z' : bf lo d = [] := by injection z
    have := congrArg (List.lookup ("listed" : Str)) z'
    rw [bf_listed] at this
    cases this
  obtain ⟨dy, lo, d, k1, k2, k3⟩ := hb1.ob
  refine ⟨_, rfl, b, dy, _, rfl, k1, bf_no _ _ (by decide +kernel)
    (by decide +kernel), b, ls, rfl, hb1, fun cu H2 ncu hcu s2 => ?_⟩
  refine ⟨_, rfl, g, L, dx, _, rfl, s2 _ _ g1, T.cl, T.nC,
    by show 1 < 1000; decide, ?_⟩
  have ngc : g ≠ cu := ne_of_none g1 ncu
  have b3 : But g H (upd H2 g (.ins L dx (putF "current" (.ref cu)
    (putF "ground" (.ref b) [])))) := (b1.trans (But.of s2)).at
  have c3 : (upd H2 g (.ins L dx (putF "current" (.ref cu)
    (putF "ground" (.ref b) [])))) cu = some (.lst (ls.map vS)) := by
    rw [upd_ne ngc.symm]; exact hcu
  have g3 : (upd H2 g (.ins L dx (putF "current" (.ref cu)
    (putF "ground" (.ref b) [])))) g = some (.ins L dx (putF "current"
    (.ref cu) (putF "ground" (.ref b) []))) := upd_same
  have hb3 : BaseAt C (upd H2 g (.ins L dx (putF "current" (.ref cu)
      (putF "ground" (.ref b) [])))) b ls := by
    refine ⟨dy, lo, d, ?_, ?_, ?_⟩
    · rw [upd_ne (ne_of k1 g1 fun z => ?_)]
      · exact s2 _ _ k1
      · have z' : bf lo d = putF "ground" (.ref b) [] := by injection z
        have := congrArg (List.lookup ("listed" : Str)) z'
        rw [bf_listed, lookup_putF, if_neg (by decide +kernel)] at this
        cases this
    · rw [upd_ne (ne_of k2 g1 nofun)]
      exact s2 _ _ k2
    · rw [upd_ne (ne_of k3 g1 nofun)]
      exact s2 _ _ k3
  generalize (upd H2 g (.ins L dx (putF "current" (.ref cu)
      (putF "ground" (.ref b) [])))) = H3 at b3 c3 g3 hb3 ⊢
  refine ⟨sz (by simp), fun ro nro => ?_⟩
  have ngo : g ≠ ro := ne_of_none g3 nro
  have nco : cu ≠ ro := ne_of_none c3 nro
  refine ⟨_, rfl, g, L, dx, _, rfl, by rw [upd_ne ngo]; exact g3, T.cl, T.nR,
    ?_, ?_⟩
  · show (putF "current" (.ref cu) [(("ground" : Str), V.ref b)]).length < 1000
    show (if ("ground" : Str) = "current" then _ else _ : List _).length < 1000
    rw [if_neg ne_gc]
    show 2 < 1000
    decide
  have fro : H ro = none := by
    cases e : H ro with
    | none => rfl
    | some o => rw [b3 _ _ e ngo.symm] at nro; cases nro
  refine q ro _ fro ⟨⟨dx, cu, [], upd_same, ?_, ?_, .nil⟩, ?_, gd, trivial,
    nofun⟩ ?_
  · rw [upd_ne ngc.symm, upd_ne nco]
    exact c3
  · rw [upd_ne ngo.symm, upd_same]
    rfl
  · have hb4 := hb3.same (sameNew (o := .lst []) nro)
    obtain ⟨dz, l2, d2, z1, z2, z3⟩ := hb4.ob
    have gz : (upd H3 ro (.lst [])) g = _ := (upd_ne ngo).trans g3
    refine ⟨dz, l2, d2, ?_, ?_, ?_⟩
    · rw [upd_ne (ne_of z1 gz fun z => ?_)]
      · exact z1
      · have z' : bf l2 d2 = putF "current" (.ref cu)
          (putF "ground" (.ref b) []) := by injection z
        have := congrArg (List.lookup ("listed" : Str)) z'
        rw [bf_listed, lookup_putF, if_neg (by decide +kernel), lookup_putF,
          if_neg (by decide +kernel)] at this
        cases this
    · rw [upd_ne (ne_of z2 gz nofun)]
      exact z2
    · rw [upd_ne (ne_of z3 gz nofun)]
      exact z3
  · exact (b3.put nro ngo.symm).at
theorem ok_llen {f : Addr} {fd : FuncData} {k : Nat}
    (F : Fun K "__len__" "SwapLog.__len__" s_SwapLog_len f fd) (B : Bl mg)
    (T : LC K mg L) :
    FnOk P w K mg base CX0 (k + 1) f fd ["self"] (spLLen C L) := by
  refine F.ok sc_SwapLog_len (fun vs H Q E h => ?_)
    (fun cv A outer s H vs Q E hr h => ?_)
  · obtain ⟨g, ro, b, ls, rows, rfl, _⟩ := h
    rfl
  obtain ⟨g, ro, b, ls, rows, rfl, x, q⟩ := h
  obtain ⟨dx, cu, rs, h1, h2, h3, h4⟩ := x.ob
  refine ⟨_, pss_one (ps_ret (pe_callB call_len_seq (by rfl) B.len
    PySem.boot_len (pa_cons (pe_fld (pv 0) rfl) pa_nil))), ?_⟩
  refine ⟨_, rfl, g, L, dx, _, _, rfl, h1, T.cl, T.nR, lf_rows _ _ _, ro, _,
    rfl, .inl (SqL.of h3), ?_⟩
  rw [List.length_map, h4.len]
  exact q
theorem ok_lord {f : Addr} {fd : FuncData} {k : Nat}
    (F : Fun K "order" "SwapLog.order" s_SwapLog_order f fd) (B : Bl mg)
    (T : LC K mg L) :
    FnOk P w K mg base CX0 (k + 1) f fd ["self"] (spLOrd C L) := by
  refine F.ok sc_SwapLog_order (fun vs H Q E h => ?_)
    (fun cv A outer s H vs Q E hr h => ?_)
  · obtain ⟨g, ro, b, ls, rows, rfl, _⟩ := h
    rfl
  obtain ⟨g, ro, b, ls, rows, rfl, x, q⟩ := h
  obtain ⟨dx, cu, rs, h1, h2, h3, h4⟩ := x.ob
  refine ⟨_, pss_one (ps_ret (pe_callTy call_list_of (by rfl) B.list bt_list
    (pa_cons (pe_fld (pv 0) rfl) pa_nil))), ?_⟩
  exact ⟨_, rfl, g, L, dx, _, _, rfl, h1, T.cl, T.nC, lf_current _ _ _, cu, _,
    rfl, .inl (SqL.of h2), fun l nl => q l _ nl upd_same (sameNew nl)⟩
theorem ok_lent {f : Addr} {fd : FuncData} {k : Nat}
    (F : Fun K "entries" "SwapLog.entries" s_SwapLog_entries f fd) (B : Bl mg)
    (T : LC K mg L) :
    FnOk P w K mg base CX0 (k + 1) f fd ["self"] (spLEnt C L) := by
  refine F.ok sc_SwapLog_entries (fun vs H Q E h => ?_)
    (fun cv A outer s H vs Q E hr h => ?_)
  · obtain ⟨g, ro, b, ls, rows, rfl, _⟩ := h
    rfl
  obtain ⟨g, ro, b, ls, rows, rfl, x, q⟩ := h
  obtain ⟨dx, cu, rs, h1, h2, h3, h4⟩ := x.ob
  refine ⟨_, pss_one (ps_ret (pe_callTy call_list_of (by rfl) B.list bt_list
    (pa_cons (pe_fld (pv 0) rfl) pa_nil))), ?_⟩
  exact ⟨_, rfl, g, L, dx, _, _, rfl, h1, T.cl, T.nR, lf_rows _ _ _, ro, _,
    rfl, .inl (SqL.of h3), fun l nl => q l rs _ nl upd_same
      (h4.same (sameNew nl)) (sameNew nl)⟩
theorem ok_lixs {f : Addr} {fd : FuncData} {k : Nat}
    (F : Fun K "indexes" "SwapLog.indexes" s_SwapLog_indexes f fd)
    (T : LC K mg L) :
    FnOk P w K mg base CX0 (k + 1) f fd ["self"] (spLIxs C L) := by
  refine F.ok sc_SwapLog_indexes (fun vs H Q E h => ?_)
    (fun cv A outer s H vs Q E hr h => ?_)
  · obtain ⟨g, ro, b, ls, rows, rfl, _⟩ := h
    rfl
  obtain ⟨g, ro, b, ls, rows, rfl, x, q⟩ := h
  obtain ⟨dx, cu, rs, h1, h2, h3, h4⟩ := x.ob
  have nd := sc_SwapLog_indexes.nd
  have hm := x.many
  refine ⟨_, pss_one (ps_ret (pe_lc (own := [("index", 1), ("reason", 2)])
    (g := gTup K 2 (gCons (gName 1) (gCons (gName 2) gNil))) (tt := tYes)
    rfl nd (pi_list (pe_fld (pv 0) rfl))
    (blkOk_by (N := N_SwapLog_indexes) (sc := defScope s_SwapLog_indexes)
      (by decide +kernel))
    (fun _ _ _ _ _ => pg_tup rfl (pgs_cons (pg_name (i := 1) nd rfl
      (Or.inl rfl)) (pgs_cons (pg_name (i := 2) nd rfl (Or.inl rfl)) pgs_nil)))
    (fun _ _ _ _ _ => pts_nil) (fun _ _ _ _ _ => pv 1))), ?_⟩
  refine ⟨_, rfl, g, L, dx, _, _, rfl, h1, T.cl, T.nR, lf_rows _ _ _, ro, rfl,
    ⟨_, SqL.of h3⟩, fun D nD => ?_⟩
  refine lc_list (K := K) (a := ro) (xs := rs.map V.ref) (fun j H' =>
    H' D = some (.lst (vIs (ixs (rows.take j)))) ∧ Same H H')
    ⟨upd_same, sameNew nD⟩ (fun j H' _ z => SqL.of (z.2 _ _ h3)) ?_ ?_
  · rintro j y H1 hy ⟨hD, s1⟩
    rw [List.getElem?_map] at hy
    cases e : rs[j]? with
    | none => rw [e] at hy; cases hy
    | some r =>
      rw [e] at hy
      cases Option.some.inj hy
      have hj : j < rows.length := by
        rw [← h4.len]; exact (List.getElem?_eq_some_iff.mp e).1
      obtain ⟨r', e', ht⟩ := h4.get (List.getElem?_eq_getElem hj)
      rw [e] at e'
      cases Option.some.inj e'
      refine ⟨r, _, rfl, .inl (.inl (s1 _ _ ht)), rfl, _, _, rfl, _, _, rfl,
        rfl, rfl, yes ⟨_, rfl, _, hD, ?_, ?_, ?_⟩⟩
      · rw [List.length_map, List.length_map, List.length_take]
        exact sz' (by omega)
      · rw [upd_same, List.take_add_one, List.getElem?_eq_getElem hj]
        show _ = some (HO.lst (vIs (ixs (rows.take j ++ [rows[j]]))))
        unfold vIs ixs
        rw [List.map_append, List.map_append]
        rfl
      · exact OM.Same.put s1 nD
  · rintro H1 ⟨hD, s1⟩
    rw [List.length_map, h4.len, List.take_length] at hD
    exact q D H1 nD hD s1
end
end OM
namespace OM
open PySem PySem.Spec PyProof.Rows L2
theorem hu65' {A : Around} {k : Nat} (hr : Room k A) : A.units + 65 < cLine := by
  have := hr.un
  omega
theorem prsOf_snoc : ∀ (us : List Nat) (i : Nat) (os : List (List Nat)),
    prsOf os (us ++ [i]) = prsOf os us ++ [nbr (run os us) i]
  | [], i, os => rfl
  | u :: us, i, os => congrArg (nbr os u :: ·) (prsOf_snoc us i (exch os u))
theorem run_snoc (us : List Nat) (i : Nat) (os : List (List Nat)) :
    run os (us ++ [i]) = exch (run os us) i := by
  rw [run_app]
  rfl
theorem ne_nr {H : Hp} {o q : Addr} {ms : List (List Nat)} {rs : List Addr}
    (h : H o = some (.lst (ms.map vS))) (ne : ms ≠ [])
    (k : H q = some (.lst (rs.map V.ref))) : o ≠ q := ne_of h k fun z => by
  have z' := HO.lst.inj z
  cases ms with
  | nil => exact ne rfl
  | cons m r =>
    cases rs with
    | nil => cases z'
    | cons a r => cases (List.cons.inj z').1
theorem run_ne {os : List (List Nat)} (ws : List Nat) (ne : os ≠ []) :
    run os ws ≠ [] := fun e => by
  have := run_len ws os
  rw [e] at this
  exact ne (List.length_eq_zero_iff.mp this.symm)
theorem UniP_prs {ls : List (List Nat)} (g : Good ls) {ws : List Nat}
    (w : Wd ls ls ws) : UniP (prsOf ls ws) := fun p hp => by
  have r := (Rep.nil g.nd).word ⟨g.nd, List.Perm.refl _⟩ w
  rw [List.nil_append] at r
  have h := (r.mem p).mp hp
  exact ⟨⟨(g.nm _ h.1).hi, (g.nm _ h.1).uni⟩,
    ⟨(g.nm _ h.2.1).hi, (g.nm _ h.2.1).uni⟩⟩
theorem uni_pair {ls : List (List Nat)} (g : Good ls) {l m : List Nat}
    (hl : l ∈ ls) (hm : m ∈ ls) :
    (∀ x ∈ (pairOf ls l m).1, x < 1114112) ∧
      ∀ x ∈ (pairOf ls l m).2, x < 1114112 := by
  unfold pairOf
  split
  · exact ⟨(g.nm l hl).uni, (g.nm m hm).uni⟩
  · exact ⟨(g.nm m hm).uni, (g.nm l hl).uni⟩
def spPairOf (C : Addr) : Sp := fun vs H Q _ =>
  ∃ (b : Addr) (ls : List (List Nat)) (l m : List Nat),
  vs = [.ref b, vS l, vS m] ∧ BaseAt C H b ls ∧ (∀ l ∈ ls, Nm l) ∧ l ∈ ls ∧
  m ∈ ls ∧ ∀ t H', H t = none → H' t = some (.tup (vT (pairOf ls l m))) →
    Same H H' → Q (.ref t) H'
def spPrsOf (C : Addr) : Sp := fun vs H Q _ =>
  ∃ (b a : Addr) (ls : List (List Nat)) (ws : List Nat),
  vs = [.ref b, .ref a] ∧ BaseAt C H b ls ∧ Good ls ∧
  H a = some (.lst (vIs ws)) ∧ Ixs ls.length ws ∧ ws.length ≤ 1600 ∧
  ∀ q rs H', H q = none → H' q = some (.lst (rs.map V.ref)) →
    PrsAt H' rs (prsOf ls ws) → Same H H' → Q (.ref q) H'
/-- the entry of two items -/
def entV (ls : List (List Nat)) (rows : List En) (l m : List Nat) : V :=
  if pairOf ls l m ∈ prsOf ls (ixs rows) then
    .int (((prsOf ls (ixs rows)).idxOf (pairOf ls l m) : Nat) : Int) else .non
def spLFor (C L : Addr) : Sp := fun vs H Q _ =>
  ∃ (g ro b : Addr) (ls : List (List Nat)) (rows : List En) (l m : List Nat),
  vs = [.ref g, vS l, vS m] ∧ LogAt C L H g ro b ls rows ∧ l ∈ ls ∧ m ∈ ls ∧
  ∀ H', Same H H' → Q (entV ls rows l m) H'
def spLChk (C L : Addr) : Sp := fun vs H Q _ =>
  ∃ (g ro b : Addr) (ls : List (List Nat)) (rows : List En) (j : Nat),
  vs = [.ref g, .int j] ∧ LogAt C L H g ro b ls rows ∧ j < rows.length ∧
  Q .non H
def spLPair (C L : Addr) : Sp := fun vs H Q _ =>
  ∃ (g ro b : Addr) (ls : List (List Nat)) (rows : List En) (j : Nat),
  vs = [.ref g, .int j] ∧ LogAt C L H g ro b ls rows ∧ j < rows.length ∧
  ∀ t H', H' t = some (.tup (vT ((prsOf ls (ixs rows)).getD j ([], [])))) →
    Same H H' → Q (.ref t) H'
section
variable {P : Program} {w : World} {K : PySem.W.Frag}
  {mg : Str → Option Value} {base : Heap} {C L : Addr}
theorem ok_pairof {f : Addr} {fd : FuncData} {k : Nat}
    (F : Fun K "pair_of" "pair_of" s_pair_of f fd)
    (Mp : CalM P w K mg base C k "precedes" ["self", "first", "second"]
      (spPrec C)) :
    FnOk P w K mg base CX0 (k + 1) f fd ["base", "first", "second"]
      (spPairOf C) := by
  refine F.ok sc_pair_of (fun vs H Q E h => ?_)
    (fun cv A outer s H vs Q E hr h => ?_)
  · obtain ⟨b, ls, l, m, rfl, _⟩ := h
    rfl
  obtain ⟨b, ls, l, m, rfl, hb, nm, hl, hm, q⟩ := h
  refine ⟨_, pss_cons (ps_if (pt_val (pe_calM Mp hr (pv 0) (pa_cons (pv 1)
      (pa_cons (pv 2) pa_nil))))
      (pss_one (ps_ret (pe_tup (pa_cons (pv 1) (pa_cons (pv 2) pa_nil)))))
      pss_nil)
    (pss_one (ps_ret (pe_tup (pa_cons (pv 2) (pa_cons (pv 1) pa_nil))))), ?_⟩
  obtain ⟨dx, lo, d, h1, h2, h3⟩ := hb.ob
  refine ⟨_, rfl, b, dx, _, rfl, h1, bf_no _ _ (by decide +kernel)
    (by decide +kernel), _, rfl, _, rfl, b, ls, l, m, rfl, hb, nm, hl, hm,
    fun H1 s1 => ⟨_, rfl, ite2 (fun c => ?_) (fun c => ?_)⟩⟩
  · refine ⟨_, rfl, _, rfl, sz (by simp), fun t nt => q t _ (s1.free nt) ?_
      (s1.trans (sameNew nt))⟩
    rw [upd_same]
    unfold pairOf
    rw [if_pos (of_decide_eq_true c)]
  · refine ⟨_, rfl, _, rfl, sz (by simp), fun t nt => q t _ (s1.free nt) ?_
      (s1.trans (sameNew nt))⟩
    rw [upd_same]
    unfold pairOf
    rw [if_neg fun z => c (decide_eq_true z)]
theorem ok_prsof {f : Addr} {fd : FuncData} {k : Nat}
    (F : Fun K "pairs_of_swaps" "pairs_of_swaps" s_pairs_of_swaps f fd)
    (Mn : CalM P w K mg base C k "names" ["self"] (spGetNames C))
    (Ce : Cal P w K mg base k "exchanged" ["order", "index"] (spExch K)) :
    FnOk P w K mg base CX0 (k + 1) f fd ["base", "indexes"] (spPrsOf C) := by
  refine F.ok sc_pairs_of_swaps (fun vs H Q E h => ?_)
    (fun cv A outer s H vs Q E hr h => ?_)
  · obtain ⟨b, a, ls, ws, rfl, _⟩ := h
    rfl
  obtain ⟨b, a, ls, ws, rfl, hb, gd, ha, ix, hw, q⟩ := h
  have nd := sc_pairs_of_swaps.nd
  refine ⟨_, pss_cons (ps_set (i := 2) nd rfl (.inl rfl)
      (pe_calM0 Mn hr (pv 0)))
    (pss_cons (ps_set (i := 3) nd rfl (.inl rfl) (pe_lst pa_nil))
    (pss_cons (ps_for PassesOwn.never rfl (pi_list (pv 1))
      (pg_name (i := 4) nd rfl (.inl rfl))
      (pss_cons (ps_expr (pe_bm PySem.F.plainAttrs_list
          PySem.F.slot_list_append PySem.F.type_list_append mt_append (pv 3)
          (pa_cons (pe_tup (pa_cons
            (pe_ix ix_list (pv 2) (pv 4) (fun _ _ => rfl)) (pa_cons
            (pe_ix ix_list (pv 2) (pe_op op_add (pv 4) pe_int)
              (fun _ _ => rfl)) pa_nil))) pa_nil)))
      (pss_one (ps_set (i := 2) nd rfl (.inl rfl)
        (pe_cal Ce hr (pa_cons (pv 2) (pa_cons (pv 4) pa_nil)))))))
    (pss_one (ps_ret (pv 3))))), ?_⟩
  obtain ⟨dx, lo, d, h1, h2, h3⟩ := hb.ob
  refine ⟨_, rfl, b, dx, _, rfl, h1, bf_no _ _ (by decide +kernel)
    (by decide +kernel), b, ls, rfl, hb, fun o0 H1 no0 ho0 s1 => ?_⟩
  refine ⟨sz (by simp), fun r nr => ?_⟩
  have fr : H r = none := s1.free nr
  refine ⟨_, rfl, a, rfl, ⟨_, SqL.of (sameNew nr _ _ (s1 _ _ ha))⟩, ?_⟩
  refine for_list (K := K) (a := a) (xs := vIs ws) (fun i σ H' =>
      ∃ (o : Addr) (rs : List Addr) (y : Option V),
      σ = [some (.ref b), some (.ref a), some (.ref o), some (.ref r), y] ∧
      H' o = some (.lst ((run ls (ws.take i)).map vS)) ∧
      H' r = some (.lst (rs.map V.ref)) ∧
      PrsAt H' rs (prsOf ls (ws.take i)) ∧ Same H H')
    ⟨o0, [], none, rfl, sameNew nr _ _ ho0, upd_same, .nil,
      s1.trans (sameNew nr)⟩
    (fun i σ H' _ z => by
      obtain ⟨_, _, _, _, _, _, _, s⟩ := z
      exact SqL.of (s _ _ ha)) ?_ ?_
  · rintro i v σ H2 hv ⟨o, rs, y, rfl, ho, hr2, pr, s2⟩
    obtain ⟨m, hm, rfl⟩ : ∃ m : Nat, ws[i]? = some m ∧ v = .int (m : Int) := by
      rw [List.getElem?_map] at hv
      cases e : ws[i]? with
      | none => rw [e] at hv; cases hv
      | some m => rw [e] at hv; exact ⟨m, rfl, (Option.some.inj hv).symm⟩
    have hi : i < ws.length := (List.getElem?_eq_some_iff.mp hm).1
    have mx := ix m (List.mem_of_getElem? hm)
    have ol : (run ls (ws.take i)).length = ls.length := run_len _ _
    have lr := pr.len
    rw [prsOf_len, List.length_take] at lr
    have nor : o ≠ r := ne_nr ho (run_ne _ gd.ne) hr2
    have hS := SqL.of (K := K) ho
    refine ⟨_, rfl, .inl ⟨rfl, _, SqL.of hr2⟩, _, rfl, _, rfl, o, _, _, _, rfl,
      rfl, hS, atI_nat (j := m) (getD_map vS [] (by omega)), _, rfl, _, rfl, _,
      _, rfl, rfl, o, _, _, _, rfl, rfl, hS, atI_nat (j := m + 1)
      (getD_map vS [] (by omega)), sz (by simp), fun t nt => ?_⟩
    have s3 : Same H2 (upd H2 t (.tup [vS ((run ls (ws.take i)).getD m []),
        vS ((run ls (ws.take i)).getD (m + 1) [])])) :=
      sameNew nt
    have ht : (upd H2 t (.tup [vS ((run ls (ws.take i)).getD m []),
        vS ((run ls (ws.take i)).getD (m + 1) [])])) t =
      some (.tup [vS ((run ls (ws.take i)).getD m []),
        vS ((run ls (ws.take i)).getD (m + 1) [])]) := upd_same
    refine ⟨r, _, _, rfl, rfl, s3 _ _ hr2, ?_, ?_⟩
    · rw [List.length_map]
      exact sz' (by omega)
    have ntr : t ≠ r := (ne_of_none hr2 nt).symm
    have h4r : (upd (upd H2 t (.tup [vS ((run ls (ws.take i)).getD m []),
        vS ((run ls (ws.take i)).getD (m + 1) [])])) r
      (.lst (rs.map V.ref ++ [.ref t]))) r =
      some (.lst (rs.map V.ref ++ [.ref t])) := upd_same
    have h4o : (upd (upd H2 t (.tup [vS ((run ls (ws.take i)).getD m []),
        vS ((run ls (ws.take i)).getD (m + 1) [])])) r
      (.lst (rs.map V.ref ++ [.ref t]))) o =
      some (.lst ((run ls (ws.take i)).map vS)) := by
      rw [upd_ne nor]; exact s3 _ _ ho
    have p4 : PrsAt (upd (upd H2 t (.tup [vS ((run ls (ws.take i)).getD m []),
        vS ((run ls (ws.take i)).getD (m + 1) [])])) r
      (.lst (rs.map V.ref ++ [.ref t]))) (rs ++ [t])
      (prsOf ls (ws.take i) ++ [nbr (run ls (ws.take i)) m]) :=
      ((pr.same s3).snoc ht).put (s3 _ _ hr2)
    have s4 : Same H (upd (upd H2 t (.tup [vS ((run ls (ws.take i)).getD m []),
        vS ((run ls (ws.take i)).getD (m + 1) [])])) r
      (.lst (rs.map V.ref ++ [.ref t]))) :=
      OM.Same.put (s2.trans s3) fr
    generalize (upd (upd H2 t (.tup [vS ((run ls (ws.take i)).getD m []),
        vS ((run ls (ws.take i)).getD (m + 1) [])])) r
      (.lst (rs.map V.ref ++ [.ref t]))) = H4 at h4r h4o p4 s4 ⊢
    refine ⟨_, rfl, _, rfl, o, _, m, rfl, SqL.of h4o, ?_, ?_,
      fun o' H5 no' ho' s5 => ?_⟩
    · rw [List.length_map]; omega
    · rw [List.length_map, ol]
      have := gd.hi
      omega
    rw [exch_map] at ho'
    have tk : ws.take (i + 1) = ws.take i ++ [m] := by
      rw [List.take_add_one, hm]
      rfl
    refine ⟨o', rs ++ [t], _, rfl, ?_, ?_, ?_, s4.trans s5⟩
    · rw [tk, run_snoc]
      exact ho'
    · rw [List.map_append]
      exact s5 _ _ h4r
    · rw [tk, prsOf_snoc]
      exact p4.same s5
  · rintro σ H2 ⟨o, rs, y, rfl, ho, hr2, pr, s2⟩
    rw [List.length_map, List.take_length] at pr
    exact ⟨_, rfl, q r rs H2 fr hr2 pr s2⟩
theorem ok_lfor {f : Addr} {fd : FuncData} {k : Nat}
    (F : Fun K "entry_for" "SwapLog.entry_for" s_SwapLog_entry_for f fd)
    (T : LC K mg L)
    (Cp : Cal P w K mg base k "pair_of" ["base", "first", "second"]
      (spPairOf C))
    (Cs : Cal P w K mg base k "pairs_of_swaps" ["base", "indexes"]
      (spPrsOf C))
    (Mi : CalM P w K mg base L k "indexes" ["self"] (spLIxs C L)) :
    FnOk P w K mg base CX0 (k + 1) f fd ["self", "first", "second"]
      (spLFor C L) := by
  refine F.ok sc_SwapLog_entry_for (fun vs H Q E h => ?_)
    (fun cv A outer s H vs Q E hr h => ?_)
  · obtain ⟨g, ro, b, ls, rows, l, m, rfl, _⟩ := h
    rfl
  obtain ⟨g, ro, b, ls, rows, l, m, rfl, x, hl, hm, q⟩ := h
  have nd := sc_SwapLog_entry_for.nd
  refine ⟨_, pss_cons (ps_set (i := 3) nd rfl (.inl rfl)
      (pe_cal Cp hr (pa_cons (pe_fld (pv 0) rfl) (pa_cons (pv 1)
        (pa_cons (pv 2) pa_nil)))))
    (pss_cons (ps_set (i := 4) nd rfl (.inl rfl)
      (pe_cal Cs hr (pa_cons (pe_fld (pv 0) rfl) (pa_cons
        (pe_calM0 Mi hr (pv 0)) pa_nil))))
    (pss_one (ps_ret (pe_ifExp
      (pt_cmpR (op_inD (hu65' hr)) (pv 3) (pv 4) (by rfl))
      (pe_bm PySem.F.plainAttrs_list PySem.F.slot_list_index
        PySem.F.type_list_index (mt_indexD (hu65' hr)) (pv 4)
        (pa_cons (pv 3) pa_nil)) pe_non)))), ?_⟩
  obtain ⟨dx, cu, rs, h1, h2, h3, h4⟩ := x.ob
  refine ⟨_, rfl, g, L, dx, _, _, rfl, h1, T.cl, T.nG, lf_ground _ _ _, _, rfl,
    _, rfl, b, ls, l, m, rfl, x.ba, x.good.nm, hl, hm, fun t H1 nt ht s1 => ?_⟩
  have x1 := x.same s1
  refine ⟨_, rfl, g, L, dx, _, _, rfl, s1 _ _ h1, T.cl, T.nG, lf_ground _ _ _,
    _, rfl, g, dx, _, rfl, s1 _ _ h1, lf_no _ _ _ (by decide +kernel)
    (by decide +kernel) (by decide +kernel), g, ro, b, ls, rows, rfl, x1,
    fun ia H2 nia hia s2 => ?_⟩
  have x2 := x1.same s2
  have hlen : (ixs rows).length ≤ 1600 := by
    rw [List.length_map]; exact x.many
  refine ⟨b, ia, ls, ixs rows, rfl, x2.ba, x.good, hia, x.wd.ixs, hlen,
    fun pa prs' H3 npa hpa hpr s3 => ?_⟩
  have ht3 := s3 _ _ (s2 _ _ ht)
  have up := UniP_prs x.good x.wd
  have ut := uni_pair x.good hl hm
  have dpt := dp_T (K := K) ht3
  have dpp := dp_P (K := K) (SqL.of hpa) hpr
  have sht := shaped_T ut.1 ut.2
  have shp := shaped_P up
  refine ⟨_, rfl, _, rfl, _, _, dpt, dpp, sht, shp, _, rfl, ?_⟩
  rw [any_P]
  have qq := q H3 ((s1.trans s2).trans s3)
  unfold entV at qq
  by_cases c : pairOf ls l m ∈ prsOf ls (ixs rows)
  · rw [decide_eq_true c]
    rw [if_pos c] at qq
    refine iteT ?_
    have il := List.idxOf_lt_length_of_mem c
    refine ⟨_, rfl, .inl ⟨rfl, _, SqL.of hpa⟩, _, rfl, pa, _, _, _,
      (prsOf ls (ixs rows)).idxOf (pairOf ls l m), dT (pairOf ls l m), rfl, rfl,
      dpp, dpt, shp, sht, ?_, ?_, ?_, qq⟩
    · rw [List.getElem?_map, List.getElem?_eq_getElem il,
        List.getElem_idxOf il]
      rfl
    · rw [eqv_T]
      exact decide_eq_true rfl
    · intro n z hn hz
      rw [List.getElem?_map] at hz
      cases e : (prsOf ls (ixs rows))[n]? with
      | none => rw [e] at hz; cases hz
      | some p =>
        rw [e] at hz
        cases Option.some.inj hz
        rw [eqv_T]
        refine decide_eq_false fun z => ?_
        obtain ⟨hl', e2⟩ := List.getElem?_eq_some_iff.mp e
        have := List.not_of_lt_findIdx hn
        simp [e2, z] at this
  · rw [decide_eq_false c]
    rw [if_neg c] at qq
    exact iteF qq
theorem ok_lchk {f : Addr} {fd : FuncData} {k : Nat}
    (F : Fun K "check_position" "SwapLog.check_position"
      s_SwapLog_check_position f fd)
    (B : Bl mg) (T : LC K mg L)
    (Ci : Cal P w K mg base k "is_integer_from" ["value", "low", "high"]
      spIntFrom) :
    FnOk P w K mg base CX0 (k + 1) f fd ["self", "position"]
      (spLChk C L) := by
  refine F.ok sc_SwapLog_check_position (fun vs H Q E h => ?_)
    (fun cv A outer s H vs Q E hr h => ?_)
  · obtain ⟨g, ro, b, ls, rows, j, rfl, _⟩ := h
    rfl
  obtain ⟨g, ro, b, ls, rows, j, rfl, x, hj, q⟩ := h
  refine ⟨_, pss_one (ps_if (pt_not (pt_val (pe_cal Ci hr (pa_cons (pv 1)
    (pa_cons pe_int (pa_cons (pe_op op_sub (pe_callB call_len_seq (by rfl) B.len
      PySem.boot_len (pa_cons (pe_fld (pv 0) rfl) pa_nil)) pe_int)
      pa_nil)))))) (pss_one ps_never) pss_nil), ?_⟩
  obtain ⟨dx, cu, rs, h1, h2, h3, h4⟩ := x.ob
  refine ⟨_, rfl, _, rfl, g, L, dx, _, _, rfl, h1, T.cl, T.nR, lf_rows _ _ _,
    ro, _, rfl, .inl (SqL.of h3), _, _, rfl, rfl, _, 0, _, rfl, _, rfl, ?_⟩
  rw [List.length_map, h4.len, decide_eq_true (show (0 : Int) ≤ (j : Int) by
    omega), decide_eq_true (show (j : Int) ≤ (rows.length : Int) - 1 by omega)]
  exact iteF q
end
end OM
namespace OM
open PySem PySem.Spec PyProof.Rows L2
section
variable {P : Program} {w : World} {K : PySem.W.Frag}
  {mg : Str → Option Value} {base : Heap} {C L : Addr}
theorem ok_lpair {f : Addr} {fd : FuncData} {k : Nat}
    (F : Fun K "pair_at" "SwapLog.pair_at" s_SwapLog_pair_at f fd)
    (T : LC K mg L)
    (Mk' : CalM P w K mg base L k "check_position" ["self", "position"]
      (spLChk C L))
    (Cs : Cal P w K mg base k "pairs_of_swaps" ["base", "indexes"]
      (spPrsOf C))
    (Mi : CalM P w K mg base L k "indexes" ["self"] (spLIxs C L)) :
    FnOk P w K mg base CX0 (k + 1) f fd ["self", "position"]
      (spLPair C L) := by
  refine F.ok sc_SwapLog_pair_at (fun vs H Q E h => ?_)
    (fun cv A outer s H vs Q E hr h => ?_)
  · obtain ⟨g, ro, b, ls, rows, j, rfl, _⟩ := h
    rfl
  obtain ⟨g, ro, b, ls, rows, j, rfl, x, hj, q⟩ := h
  refine ⟨_, pss_cons (ps_expr (pe_calM Mk' hr (pv 0) (pa_cons (pv 1) pa_nil)))
    (pss_one (ps_ret (pe_ix ix_list
      (pe_cal Cs hr (pa_cons (pe_fld (pv 0) rfl) (pa_cons
        (pe_calM0 Mi hr (pv 0)) pa_nil))) (pv 1) (fun _ _ => rfl)))), ?_⟩
  obtain ⟨dx, cu, rs, h1, h2, h3, h4⟩ := x.ob
  refine ⟨_, rfl, g, dx, _, rfl, h1, lf_no _ _ _ (by decide +kernel)
    (by decide +kernel) (by decide +kernel), _, rfl, g, ro, b, ls, rows, j, rfl,
    x, hj, ?_⟩
  refine ⟨_, rfl, g, L, dx, _, _, rfl, h1, T.cl, T.nG, lf_ground _ _ _,
    _, rfl, g, dx, _, rfl, h1, lf_no _ _ _ (by decide +kernel)
    (by decide +kernel) (by decide +kernel), g, ro, b, ls, rows, rfl, x,
    fun ia H2 nia hia s2 => ?_⟩
  have x2 := x.same s2
  have hlen : (ixs rows).length ≤ 1600 := by
    rw [List.length_map]; exact x.many
  refine ⟨b, ia, ls, ixs rows, rfl, x2.ba, x.good, hia, x.wd.ixs, hlen,
    fun pa prs' H3 npa hpa hpr s3 => ?_⟩
  have hj' : j < (prsOf ls (ixs rows)).length := by
    rw [prsOf_len, List.length_map]; exact hj
  obtain ⟨r, e, hr'⟩ := hpr.get (List.getElem?_eq_getElem hj')
  refine ⟨_, rfl, pa, _, _, _, rfl, rfl, SqL.of hpa, atI_nat (j := j) (by
    rw [List.getElem?_map, e]; rfl), q r H3 ?_ (s2.trans s3)⟩
  rw [List.getD_eq_getElem?_getD, List.getElem?_eq_getElem hj']
  exact hr'
end
end OM
namespace OM
open PySem PySem.Spec PyProof.Rows L2
theorem Wd.snoc {ls : List (List Nat)} {i : Nat} : ∀ {ws : List Nat}
    {os : List (List Nat)}, Wd ls os ws → i + 1 < os.length →
    outB ls (run os ws) i = true → Wd ls os (ws ++ [i])
  | [], _, _, h, o => ⟨h, o, trivial⟩
  | u :: ws, os, w, h, o => ⟨w.1, w.2.1, Wd.snoc w.2.2
      (by rw [exch_len]; exact h) o⟩
theorem ixs_erase : ∀ (rows : List En) (j : Nat),
    ixs (rows.eraseIdx j) = (ixs rows).eraseIdx j
  | [], _ => rfl
  | _ :: _, 0 => rfl
  | e :: r, j + 1 => congrArg (e.1 :: ·) (ixs_erase r j)
theorem map_erase {α β : Type} (f : α → β) : ∀ (l : List α) (j : Nat),
    (l.map f).eraseIdx j = (l.eraseIdx j).map f
  | [], _ => rfl
  | _ :: _, 0 => rfl
  | e :: r, j + 1 => congrArg (f e :: ·) (map_erase f r j)
/-- the entry that a swap back cancels -/
def canJ (ls : List (List Nat)) (ws : List Nat) (i : Nat) : Nat :=
  (prsOf ls ws).idxOf ((run ls ws).getD (i + 1) [], (run ls ws).getD i [])
def rowsS (ls : List (List Nat)) (rows : List En) (i : Nat) (r : List Nat) :
    List En :=
  if outB ls (run ls (ixs rows)) i = true then rows ++ [(i, r)]
  else rows.eraseIdx (canJ ls (ixs rows) i)
def ansS (ls : List (List Nat)) (rows : List En) (i : Nat) : V :=
  if outB ls (run ls (ixs rows)) i = true then .non
  else .int ((canJ ls (ixs rows) i : Nat) : Int)
section
variable {C L g ro b : Addr} {H H' : Hp} {ls : List (List Nat)} {rows : List En}
  {i : Nat} {r : List Nat}
theorem LogAt.canMem (x : LogAt C L H g ro b ls rows) (hi : i + 1 < ls.length)
    (ob : outB ls (run ls (ixs rows)) i = false) :
    ((run ls (ixs rows)).getD (i + 1) [], (run ls (ixs rows)).getD i []) ∈
      prsOf ls (ixs rows) :=
  (x.rep.inn x.of (by rw [x.oLen]; exact hi) ob).1
theorem LogAt.canLt (x : LogAt C L H g ro b ls rows) (hi : i + 1 < ls.length)
    (ob : outB ls (run ls (ixs rows)) i = false) :
    canJ ls (ixs rows) i < rows.length := by
  have := List.idxOf_lt_length_of_mem (x.canMem hi ob)
  rw [prsOf_len, List.length_map] at this
  exact this
theorem LogAt.step (x : LogAt C L H g ro b ls rows) (hi : i + 1 < ls.length) :
    Wd ls ls (ixs (rowsS ls rows i r)) ∧
      run ls (ixs (rowsS ls rows i r)) = exch (run ls (ixs rows)) i := by
  unfold rowsS
  cases ob : outB ls (run ls (ixs rows)) i with
  | true =>
    rw [if_pos rfl]
    have e : ixs (rows ++ [(i, r)]) = ixs rows ++ [i] := List.map_append
    rw [e]
    exact ⟨x.wd.snoc hi ob, run_snoc _ _ _⟩
  | false =>
    rw [if_neg nofun, ixs_erase]
    have m := x.canMem hi ob
    have il := List.idxOf_lt_length_of_mem m
    refine cancel x.good.nd x.wd hi ob ?_
    unfold canJ
    rw [List.getElem?_eq_getElem il, List.getElem_idxOf il]
theorem LogAt.stepR (x : LogAt C L H g ro b ls rows) (hr : Rsn r) :
    ∀ e ∈ rowsS ls rows i r, Rsn e.2 := by
  unfold rowsS
  intro e he
  split at he
  · rcases List.mem_append.mp he with h | h
    · exact x.rn e h
    · rw [List.mem_singleton.mp h]
      exact hr
  · exact x.rn e (List.mem_of_mem_eraseIdx he)
theorem LogAt.forV (x : LogAt C L H g ro b ls rows) (hi : i + 1 < ls.length)
    (ob : outB ls (run ls (ixs rows)) i = false) :
    entV ls rows ((run ls (ixs rows)).getD i [])
      ((run ls (ixs rows)).getD (i + 1) []) =
      .int ((canJ ls (ixs rows) i : Nat) : Int) := by
  have m := x.canMem hi ob
  have lt := (in_lt x.of (by rw [x.oLen]; exact hi)).mp ob
  have e : pairOf ls ((run ls (ixs rows)).getD i [])
      ((run ls (ixs rows)).getD (i + 1) []) =
      ((run ls (ixs rows)).getD (i + 1) [], (run ls (ixs rows)).getD i []) := by
    unfold pairOf
    rw [if_neg (by omega)]
  unfold entV canJ
  rw [e, if_pos m]
end
def spIsRsn : Sp := fun vs H Q _ => ∃ l : List Nat, vs = [vS l] ∧ Rsn l ∧
  ∀ H', Same H H' → Q (.bl true) H'
def spChkRsn : Sp := fun vs H Q _ => ∃ l : List Nat, vs = [vS l] ∧ Rsn l ∧
  ∀ H', Same H H' → Q .non H'
def spSwapC (C L : Addr) : Sp := fun vs H Q _ =>
  ∃ (g ro b : Addr) (ls : List (List Nat)) (rows : List En) (i : Nat)
    (r : List Nat), vs = [.ref g, .int i, vS r] ∧
  LogAt C L H g ro b ls rows ∧ i + 1 < ls.length ∧ Rsn r ∧
  ∀ H', LogAt C L H' g ro b ls (rowsS ls rows i r) → But2 g ro H H' →
    Q (ansS ls rows i) H'
section
variable {P : Program} {w : World} {K : PySem.W.Frag}
  {mg : Str → Option Value} {base : Heap} {C L : Addr}
theorem ok_isrsn {f : Addr} {fd : FuncData} {k : Nat}
    (F : Fun K "is_reason" "is_reason" s_is_reason f fd) (B : Bl mg)
    {tN : Tok} (mN : mg "NO_REASON" = some (.str (Str.ofString "") tN))
    (Ci : CalIsName P w K mg base k) :
    FnOk P w K mg base CX0 (k + 1) f fd ["value"] spIsRsn := by
  refine F.ok sc_is_reason (fun vs H Q E h => ?_)
    (fun cv A outer s H vs Q E hr h => ?_)
  · obtain ⟨l, rfl, _⟩ := h
    rfl
  obtain ⟨l, rfl, hl, q⟩ := h
  refine ⟨_, pss_one (ps_ret (pe_or (pe_cal Ci hr (pa_cons (pv 0) pa_nil))
    (pe_one (pe_and (pe_callB call_isi (by rfl) B.isi bt_isi (pa_cons (pv 0)
      (pa_cons (pe_bltn (v := .ty "str") (by rfl) B.str bt_str rfl) pa_nil)))
      (pe_one (pe_cmpR op_eq (pv 0)
        (pe_glob (v := .str (Str.ofString "")) (by rfl) mN ⟨_, rfl⟩)
        (nomark _))))))), ?_⟩
  have ll := hl.len
  refine ⟨_, rfl, _, rfl, .inl ⟨_, rfl, ?_, fun H1 s1 => ⟨_, rfl, ?_⟩⟩⟩
  · rw [SX.S_len]
    exact sz (by omega)
  rcases hl with rfl | hl
  · rw [show nmB (SX.S ([] : List Nat)).cps.toList = false by decide +kernel]
    refine iteF ⟨_, rfl, _, _, _, _, true, rfl, .ty "str", .base (.str _),
      kit_ty (by decide +kernel), _, rfl, iteT ⟨_, rfl, rfl, ?_⟩⟩
    rw [decide_eq_true (show V.str (SX.S []) = V.str (Str.ofString "") by
      rfl)]
    exact q H1 s1
  · rw [show nmB (SX.S l).cps.toList = true from nmB_iff.mpr hl]
    exact iteT (q H1 s1)
theorem ok_chkrsn {f : Addr} {fd : FuncData} {k : Nat}
    (F : Fun K "check_reason" "check_reason" s_check_reason f fd)
    (Ci : Cal P w K mg base k "is_reason" ["value"] spIsRsn) :
    FnOk P w K mg base CX0 (k + 1) f fd ["reason"] spChkRsn := by
  refine F.ok sc_check_reason (fun vs H Q E h => ?_)
    (fun cv A outer s H vs Q E hr h => ?_)
  · obtain ⟨l, rfl, _⟩ := h
    rfl
  obtain ⟨l, rfl, hl, q⟩ := h
  refine ⟨_, pss_one (ps_if (pt_not (pt_val (pe_cal Ci hr (pa_cons (pv 0)
    pa_nil)))) (pss_one ps_never) pss_nil), ?_⟩
  exact ⟨_, rfl, l, rfl, hl, fun H1 s1 => ⟨_, rfl, iteF (q H1 s1)⟩⟩
theorem ok_swapc {f : Addr} {fd : FuncData} {k : Nat}
    (F : Fun K "swap_checked" "SwapLog.swap_checked" s_SwapLog_swap_checked
      f fd)
    (T : LC K mg L)
    (Cg : Cal P w K mg base k "goes_outward" ["base", "order", "index"]
      (spOut C))
    (Ce : Cal P w K mg base k "exchanged" ["order", "index"] (spExch K))
    (Mf : CalM P w K mg base L k "entry_for" ["self", "first", "second"]
      (spLFor C L)) :
    FnOk P w K mg base CX0 (k + 1) f fd ["self", "index", "reason"]
      (spSwapC C L) := by
  refine F.ok sc_SwapLog_swap_checked (fun vs H Q E h => ?_)
    (fun cv A outer s H vs Q E hr h => ?_)
  · obtain ⟨g, ro, b, ls, rows, i, r, rfl, _⟩ := h
    rfl
  obtain ⟨g, ro, b, ls, rows, i, r, rfl, x, hi, hrs, q⟩ := h
  have nd := sc_SwapLog_swap_checked.nd
  refine ⟨_, C8.pss_cut (ps_if (pt_val (pe_cal Cg hr (pa_cons
      (pe_fld (pv 0) rfl) (pa_cons (pe_fld (pv 0) rfl) (pa_cons (pv 1)
      pa_nil)))))
      (pss_cons (ps_set (i := 3) nd rfl (.inl rfl) pe_non)
        (pss_one (ps_expr (pe_bm PySem.F.plainAttrs_list
          PySem.F.slot_list_append PySem.F.type_list_append mt_append
          (pe_fld (pv 0) rfl) (pa_cons (pe_tup (pa_cons (pv 1)
            (pa_cons (pv 2) pa_nil))) pa_nil)))))
      (pss_cons (ps_set (i := 3) nd rfl (.inl rfl) (pe_calM Mf hr (pv 0)
          (pa_cons (pe_ix ix_list (pe_fld (pv 0) rfl) (pv 1)
            (fun _ _ => rfl)) (pa_cons (pe_ix ix_list (pe_fld (pv 0) rfl)
            (pe_op op_add (pv 1) pe_int) (fun _ _ => rfl)) pa_nil))))
        (pss_one (ps_expr (pe_bm PySem.F.plainAttrs_list
          PySem.F.slot_list_pop PySem.F.type_list_pop mt_popAt
          (pe_fld (pv 0) rfl) (pa_cons (pv 3) pa_nil))))))
    (pss_cons (ps_fld (pv 0) (pe_cal Ce hr (pa_cons (pe_fld (pv 0) rfl)
        (pa_cons (pv 1) pa_nil))) rfl)
    (pss_one (ps_ret (pv 3)))), ?_⟩
  obtain ⟨dx, cu, rs, h1, h2, h3, h4⟩ := x.ob
  have ol := x.oLen
  have go := x.good.perm x.perm
  have O : Ord C H b cu ls (run ls (ixs rows)) :=
    ⟨x.ba, x.good, h2, x.perm⟩
  have nco : cu ≠ ro := ne_nr h2 (run_ne _ x.good.ne) h3
  have ngo : g ≠ ro := ne_of h1 h3 nofun
  have many := x.many
  have l4 := h4.len
  refine ⟨fun σ' H' => ∃ rs', σ' = [some (.ref g), some (.int i), some (vS r),
    some (ansS ls rows i)] ∧ H' g = some (.ins L dx (lf b cu ro)) ∧
    H' cu = some (.lst ((run ls (ixs rows)).map vS)) ∧
    H' ro = some (.lst (rs'.map V.ref)) ∧ EnsAt H' rs' (rowsS ls rows i r) ∧
    BaseAt C H' b ls ∧ But ro H H', ?_, ?_⟩
  · refine ⟨_, rfl, g, L, dx, _, _, rfl, h1, T.cl, T.nG, lf_ground _ _ _, _,
      rfl, g, L, dx, _, _, rfl, h1, T.cl, T.nC, lf_current _ _ _, _, rfl, b, cu,
      ls, _, i, rfl, O, by omega, fun H1 s1 => ⟨_, rfl, ?_⟩⟩
    have x1 := x.same s1
    have bas : ∀ {H2 : Hp}, But ro H H2 → BaseAt C H2 b ls := fun s => by
      obtain ⟨dy, lo, d, k1, k2, k3⟩ := x.ba.ob
      exact ⟨dy, lo, d, s _ _ k1 (ne_of k1 h3 nofun),
        s _ _ k2 (ne_nr k2 x.good.ne h3), s _ _ k3 (ne_of k3 h3 nofun)⟩
    cases ob : outB ls (run ls (ixs rows)) i with
    | true =>
      refine iteT ?_
      refine ⟨_, rfl, g, L, dx, _, _, rfl, s1 _ _ h1, T.cl, T.nR,
        lf_rows _ _ _, .inl ⟨rfl, _, SqL.of (s1 _ _ h3)⟩, _, rfl, _, rfl,
        sz (by simp), fun t nt => ?_⟩
      have s2 : Same H (upd H1 t (.tup [.int i, vS r])) :=
        s1.trans (sameNew nt)
      have ht : (upd H1 t (.tup [.int i, vS r])) t =
        some (.tup [.int i, vS r]) := upd_same
      generalize (upd H1 t (.tup [.int i, vS r])) = H2 at s2 ht ⊢
      refine ⟨ro, _, _, rfl, rfl, s2 _ _ h3, ?_, ?_⟩
      · rw [List.length_map]
        exact sz' (by omega)
      have bu : But ro H (upd H2 ro (.lst (rs.map V.ref ++ [.ref t]))) :=
        (But.of s2).at
      refine ⟨rs ++ [t], ?_, ?_, ?_, ?_, ?_, bas bu, bu⟩
      · unfold ansS
        rw [ob, if_pos rfl]
        rfl
      · exact bu _ _ h1 ngo
      · exact bu _ _ h2 nco
      · rw [upd_same, List.map_append]
        rfl
      · unfold rowsS
        rw [ob, if_pos rfl]
        refine EnsAt.keep (H := H2) (fun a xs ha => ?_)
          ((h4.same s2).snoc (e := (i, r)) ht)
        rw [upd_ne (ne_of ha (s2 _ _ h3) nofun)]
        exact ha
    | false =>
      refine iteF ?_
      have gL := getD_map vS [] (show i < (run ls (ixs rows)).length by omega)
      have gR := getD_map vS [] (show i + 1 < (run ls (ixs rows)).length by
        omega)
      have hS := SqL.of (K := K) (s1 _ _ h2)
      refine ⟨_, rfl, g, dx, _, rfl, s1 _ _ h1, lf_no _ _ _
        (by decide +kernel) (by decide +kernel) (by decide +kernel), _, rfl, g,
        L, dx, _, _, rfl, s1 _ _ h1, T.cl, T.nC, lf_current _ _ _, _, rfl, cu,
        _, _, _, rfl, rfl, hS, atI_nat (j := i) gL, _, rfl, g,
        L, dx, _, _, rfl, s1 _ _ h1, T.cl, T.nC, lf_current _ _ _, _, rfl, _, _,
        rfl, rfl, cu, _, _, _, rfl, rfl, hS, atI_nat (j := i + 1) gR, g, ro, b,
        ls, rows, _, _, rfl, x1, x.of.m0 (by omega), x.of.m1 (by omega),
        fun H2 s2 => ?_⟩
      rw [x.forV hi ob]
      have s12 := s1.trans s2
      have cl := x.canLt hi ob
      have e3 : (rs.map V.ref)[canJ ls (ixs rows) i]? =
          some ((rs.map V.ref)[canJ ls (ixs rows) i]'(by
            rw [List.length_map]; omega)) := List.getElem?_eq_getElem _
      refine ⟨_, rfl, g, L, dx, _, _, rfl, s12 _ _ h1, T.cl, T.nR,
        lf_rows _ _ _, .inl ⟨rfl, _, SqL.of (s12 _ _ h3)⟩, _, rfl, ro, _, _,
        canJ ls (ixs rows) i, _, rfl, rfl, s12 _ _ h3, by omega, by omega, ?_,
        e3, ?_⟩
      · have sx := seqIndex_of (k := ((canJ ls (ixs rows) i : Nat) : Int))
          (n := (rs.map V.ref).length) (by omega) (by
            rw [List.length_map]; omega)
        rw [Int.toNat_natCast] at sx
        exact sx
      have bu : But ro H (upd H2 ro (.lst ((rs.map V.ref).eraseIdx
          (canJ ls (ixs rows) i)))) := (But.of s12).at
      refine ⟨rs.eraseIdx (canJ ls (ixs rows) i), ?_, ?_, ?_, ?_, ?_, bas bu,
        bu⟩
      · unfold ansS
        rw [ob, if_neg nofun]
        rfl
      · exact bu _ _ h1 ngo
      · exact bu _ _ h2 nco
      · rw [upd_same]
        congr 2
        exact map_erase _ _ _
      · unfold rowsS
        rw [ob, if_neg nofun]
        refine EnsAt.keep (H := H2) (fun a xs ha => ?_)
          ((h4.same s12).erase _)
        rw [upd_ne (ne_of ha (s12 _ _ h3) nofun)]
        exact ha
  rintro _ H1 ⟨rs', rfl, g1, c1, r1, e1, b1, u1⟩
  refine ⟨_, rfl, g, L, dx, _, _, rfl, g1, T.cl, T.nC, lf_current _ _ _, _, rfl,
    cu, _, i, rfl, SqL.of c1, ?_, ?_, fun cu' H2 ncu hcu s2 => ?_⟩
  · rw [List.length_map]; omega
  · rw [List.length_map, ol]
    have := x.good.hi
    omega
  rw [exch_map] at hcu
  refine ⟨_, rfl, g, L, dx, _, rfl, s2 _ _ g1, T.cl, T.nC, lf_len _ _ _, ?_⟩
  rw [lf_setc]
  have ngc : g ≠ cu' := ne_of_none g1 ncu
  have nrc : ro ≠ cu' := ne_of_none r1 ncu
  obtain ⟨st1, st2⟩ := x.step (r := r) hi
  refine ⟨_, rfl, q _ ⟨⟨dx, cu', rs', upd_same, ?_, ?_, ?_⟩, ?_, x.good, st1,
    x.stepR hrs⟩ ?_⟩
  · rw [upd_ne ngc.symm, st2]
    exact hcu
  · rw [upd_ne ngo.symm]
    exact s2 _ _ r1
  · refine EnsAt.keep (H := H2) (fun a xs ha => ?_) (e1.same s2)
    rw [upd_ne (ne_of ha (s2 _ _ g1) nofun)]
    exact ha
  · obtain ⟨dy, lo, d, k1, k2, k3⟩ := (b1.same s2).ob
    have gg := s2 _ _ g1
    refine ⟨dy, lo, d, ?_, ?_, ?_⟩
    · rw [upd_ne (ne_of k1 gg bf_ne_lf)]; exact k1
    · rw [upd_ne (ne_of k2 gg nofun)]; exact k2
    · rw [upd_ne (ne_of k3 gg nofun)]; exact k3
  · intro y o e n m
    rw [upd_ne n]
    exact s2 _ _ (u1 _ _ e m)
theorem ok_lswap {f : Addr} {fd : FuncData} {k : Nat}
    (F : Fun K "swap" "SwapLog.swap" s_SwapLog_swap f fd)
    (T : LC K mg L)
    (Ci : Cal P w K mg base k "check_swap_index" ["base", "index"]
      (spChkIx C))
    (Cr : Cal P w K mg base k "check_reason" ["reason"] spChkRsn)
    (Ms : CalM P w K mg base L k "swap_checked" ["self", "index", "reason"]
      (spSwapC C L)) :
    FnOk P w K mg base CX0 (k + 1) f fd ["self", "index", "reason"]
      (spSwapC C L) := by
  refine F.ok sc_SwapLog_swap (fun vs H Q E h => ?_)
    (fun cv A outer s H vs Q E hr h => ?_)
  · obtain ⟨g, ro, b, ls, rows, i, r, rfl, _⟩ := h
    rfl
  obtain ⟨g, ro, b, ls, rows, i, r, rfl, x, hi, hrs, q⟩ := h
  refine ⟨_, pss_cons (ps_expr (pe_cal Ci hr (pa_cons (pe_fld (pv 0) rfl)
      (pa_cons (pv 1) pa_nil))))
    (pss_cons (ps_expr (pe_cal Cr hr (pa_cons (pv 2) pa_nil)))
    (pss_one (ps_ret (pe_calM Ms hr (pv 0) (pa_cons (pv 1)
      (pa_cons (pv 2) pa_nil)))))), ?_⟩
  obtain ⟨dx, cu, rs, h1, h2, h3, h4⟩ := x.ob
  refine ⟨_, rfl, g, L, dx, _, _, rfl, h1, T.cl, T.nG, lf_ground _ _ _, _, rfl,
    b, ls, i, rfl, x.ba, x.good.hi, hi, ?_⟩
  refine ⟨_, rfl, r, rfl, hrs, fun H1 s1 => ?_⟩
  refine ⟨_, rfl, g, dx, _, rfl, s1 _ _ h1, lf_no _ _ _ (by decide +kernel)
    (by decide +kernel) (by decide +kernel), _, rfl, _, rfl, g, ro, b, ls, rows,
    i, r, rfl, x.same s1, hi, hrs, fun H2 x2 u2 => q H2 x2
      (But2.trans (But2.of s1) u2)⟩
end
end OM
namespace OM
open PySem PySem.Spec PyProof.Rows L2
theorem Wd.out {ls : List (List Nat)} : ∀ {ws : List Nat}
    {os : List (List Nat)} {i m : Nat}, Wd ls os ws → ws[i]? = some m →
    outB ls (run os (ws.take i)) m = true
  | [], _, _, _, _, h => by simp at h
  | u :: ws, os, 0, m, w, h => by
    cases Option.some.inj h
    exact w.2.1
  | u :: ws, os, i + 1, m, w, h => Wd.out (i := i) w.2.2 (by simpa using h)
theorem But2.same {g ro : Addr} {H H1 H2 : Hp} (s : Same H H1)
    (u : But2 g ro H1 H2) (ng : H g = none) (nr : H ro = none) :
    Same H H2 := fun q o e =>
  u q o (s q o e) (ne_of_none e ng) (ne_of_none e nr)
theorem ent_at {C L g ro b : Addr} {H : Hp} {ls : List (List Nat)}
    {rows : List En} (x : LogAt C L H g ro b ls rows) {j : Nat} {p : Pr}
    (h : (prsOf ls (ixs rows))[j]? = some p) :
    p.1 ∈ ls ∧ p.2 ∈ ls ∧ entV ls rows p.1 p.2 = .int (j : Int) ∧
      entV ls rows p.2 p.1 = .int (j : Int) := by
  have hm := List.mem_of_getElem? h
  obtain ⟨h1, h2, h3, h4⟩ := (x.rep.mem p).mp hm
  have e1 : pairOf ls p.1 p.2 = p := by
    unfold pairOf
    rw [if_pos h3]
  have e2 : pairOf ls p.2 p.1 = p := by
    unfold pairOf
    rw [if_neg (by omega)]
  have e3 := idx_of x.rep.nd h
  unfold entV
  rw [e1, e2, if_pos hm, e3]
  exact ⟨h1, h2, rfl, rfl⟩
theorem exch_eqD {os : List (List Nat)} {i : Nat} (hi : i + 1 < os.length) :
    exch os i = os.take i ++ [os.getD (i + 1) [], os.getD i []] ++
      os.drop (i + 2) := by
  rw [exch_eq hi, List.getD_eq_getElem?_getD, List.getD_eq_getElem?_getD,
    List.getElem?_eq_getElem (show i < os.length by omega),
    List.getElem?_eq_getElem hi]
  rfl
section
variable {C L g ro b : Addr} {H H' : Hp} {ls : List (List Nat)} {rows : List En}
  {i : Nat} {r : List Nat}
theorem LogAt.forN (x : LogAt C L H g ro b ls rows) (hi : i + 1 < ls.length)
    (ob : outB ls (run ls (ixs rows)) i = true) :
    entV ls rows ((run ls (ixs rows)).getD i [])
      ((run ls (ixs rows)).getD (i + 1) []) = .non := by
  have no := (x.rep.out x.of (by rw [x.oLen]; exact hi) ob).1
  have lt := out_lt.mp ob
  have e : pairOf ls ((run ls (ixs rows)).getD i [])
      ((run ls (ixs rows)).getD (i + 1) []) = nbr (run ls (ixs rows)) i := by
    unfold pairOf
    rw [if_pos lt]
    rfl
  unfold entV
  rw [e, if_neg no]
theorem LogAt.ents (x : LogAt C L H g ro b ls rows) (u : But2 g ro H H')
    {rs : List Addr} {es : List En} (h : EnsAt H rs es) : EnsAt H' rs es :=
  h.keep fun _ _ e => u _ _ e (x.tup e).g (x.tup e).ro
end
end OM
namespace OM
open PySem PySem.Spec PyProof.Rows L2
/-! ### the other entries performed again -/
def rep1 (ls : List (List Nat)) (st : List En × List Nat) (a : Nat) (e : En) :
    List En × List Nat :=
  (rowsS ls st.1 e.1 e.2, if outB ls (run ls (ixs st.1)) e.1 = true
    then st.2 ++ [a] else st.2.eraseIdx (canJ ls (ixs st.1) e.1))
def replN (ls : List (List Nat)) (rows : List En) (j : Nat) :
    Nat → List En × List Nat
  | 0 => ([], [])
  | n + 1 => if n = j then replN ls rows j n
    else rep1 ls (replN ls rows j n) n (rows.getD n (0, []))
def gone (ls : List (List Nat)) (rows : List En) (j : Nat) : List Nat :=
  (List.range rows.length).filter fun a =>
    decide (a ∉ (replN ls rows j rows.length).2)
theorem replN_le (ls : List (List Nat)) (rows : List En) (j : Nat) :
    ∀ n, (replN ls rows j n).2.length ≤ n
  | 0 => Nat.le_refl _
  | n + 1 => by
    have ih := replN_le ls rows j n
    unfold replN
    split
    · omega
    · unfold rep1
      simp only
      split
      · rw [List.length_append]
        simp
        omega
      · have := List.length_eraseIdx_le (replN ls rows j n).2
          (canJ ls (ixs (replN ls rows j n).1) (rows.getD n (0, [])).1)
        omega
theorem inV_I (a : Nat) : ∀ ks : List Nat,
    inV (.int (a : Int)) (vIs ks) = decide (a ∈ ks)
  | [] => by simp [inV]
  | u :: us => by
    have ih := inV_I a us
    unfold inV at ih ⊢
    unfold vIs at ih ⊢
    rw [List.map_cons, List.any_cons, ih]
    by_cases e : u = a
    · subst e
      simp [eqV]
    · have ne : ¬ a = u := fun z => e z.symm
      have : eqV (.int (u : Int)) (.int (a : Int)) = false := by
        unfold eqV
        simp
        omega
      rw [this]
      simp [ne]
theorem flat_I (ks : List Nat) : (vIs ks).all flatV = true := by
  rw [List.all_eq_true]
  intro v hv
  obtain ⟨l, _, rfl⟩ := List.mem_map.mp hv
  rfl
theorem lenS {C L g ro b : Addr} {H : Hp} {ls : List (List Nat)}
    {rows : List En} {i : Nat} {r : List Nat} {ks : List Nat} {a : Nat}
    (x : LogAt C L H g ro b ls rows) (hi : i + 1 < ls.length)
    (h : ks.length = rows.length) :
    (if outB ls (run ls (ixs rows)) i = true then ks ++ [a]
      else ks.eraseIdx (canJ ls (ixs rows) i)).length =
      (rowsS ls rows i r).length := by
  unfold rowsS
  cases ob : outB ls (run ls (ixs rows)) i with
  | true =>
    rw [if_pos rfl, if_pos rfl, List.length_append, List.length_append, h]
    rfl
  | false =>
    have cl := x.canLt hi ob
    rw [if_neg nofun, if_neg nofun, List.length_eraseIdx,
      List.length_eraseIdx, if_pos (by omega), if_pos cl, h]
theorem ne_ni {H : Hp} {o q : Addr} {ms : List (List Nat)} {ks : List Nat}
    (h : H o = some (.lst (ms.map vS))) (ne : ms ≠ [])
    (k : H q = some (.lst (vIs ks))) : o ≠ q := ne_of h k fun z => by
  have z' := HO.lst.inj z
  cases ms with
  | nil => exact ne rfl
  | cons m r =>
    cases ks with
    | nil => cases z'
    | cons a r => cases (List.cons.inj z').1
/-- a log stays where a list of numbers changes -/
theorem LogAt.ints {C L g ro b p : Addr} {H H' : Hp} {ls : List (List Nat)}
    {rows : List En} {ks : List Nat} (x : LogAt C L H g ro b ls rows)
    (h : H p = some (.lst (vIs ks))) (n : p ≠ ro) (s : But p H H') :
    LogAt C L H' g ro b ls rows := by
  obtain ⟨dx, cu, rs, h1, h2, h3, h4⟩ := x.ob
  obtain ⟨dy, lo, d, z1, z2, z3⟩ := x.ba.ob
  exact ⟨⟨dx, cu, rs, s _ _ h1 (ne_of h1 h nofun),
    s _ _ h2 (ne_ni h2 (run_ne _ x.good.ne) h), s _ _ h3 n.symm,
    h4.keep fun a xs e => s _ _ e (ne_of e h nofun)⟩,
    ⟨dy, lo, d, s _ _ z1 (ne_of z1 h nofun), s _ _ z2 (ne_ni z2 x.good.ne h),
      s _ _ z3 (ne_of z3 h nofun)⟩, x.good, x.wd, x.rn⟩
/-- a log stays where another one changes -/
theorem LogAt.other {C L g ro b p dx bb cu rr : Addr} {H H' : Hp}
    {ls : List (List Nat)} {rows : List En} (x : LogAt C L H g ro b ls rows)
    (h : H p = some (.ins L dx (lf bb cu rr))) (n : g ≠ p) (s : But p H H') :
    LogAt C L H' g ro b ls rows := by
  obtain ⟨dx, cu, rs, h1, h2, h3, h4⟩ := x.ob
  obtain ⟨dy, lo, d, z1, z2, z3⟩ := x.ba.ob
  exact ⟨⟨dx, cu, rs, s _ _ h1 n, s _ _ h2 (ne_of h2 h nofun),
    s _ _ h3 (ne_of h3 h nofun),
    h4.keep fun a xs e => s _ _ e (ne_of e h nofun)⟩,
    ⟨dy, lo, d, s _ _ z1 (ne_of z1 h bf_ne_lf), s _ _ z2 (ne_of z2 h nofun),
      s _ _ z3 (ne_of z3 h nofun)⟩, x.good, x.wd, x.rn⟩
def spLBase (C L : Addr) : Sp := fun vs H Q _ =>
  ∃ (g ro b : Addr) (ls : List (List Nat)) (rows : List En), vs = [.ref g] ∧
  LogAt C L H g ro b ls rows ∧ Q (.ref b) H
def spClone (C L : Addr) : Sp := fun vs H Q _ =>
  ∃ (g ro b : Addr) (ls : List (List Nat)) (rows : List En), vs = [.ref g] ∧
  LogAt C L H g ro b ls rows ∧ ∀ g' ro' H', H g' = none → H ro' = none →
    LogAt C L H' g' ro' b ls rows → Same H H' → Q (.ref g') H'
def spRemove (C L : Addr) : Sp := fun vs H Q _ =>
  ∃ (g ro b : Addr) (ls : List (List Nat)) (rows : List En) (j : Nat),
  vs = [.ref g, .int j] ∧ LogAt C L H g ro b ls rows ∧ j < rows.length ∧
  ∀ q ro' H', H q = none → H ro' = none → q ≠ ro' →
    LogAt C L H' g ro' b ls (replN ls rows j rows.length).1 →
    H' q = some (.lst (vIs (gone ls rows j))) → But g H H' → Q (.ref q) H'
section
variable {P : Program} {w : World} {K : PySem.W.Frag}
  {mg : Str → Option Value} {base : Heap} {C L : Addr}
theorem ok_lbase {f : Addr} {fd : FuncData} {k : Nat}
    (F : Fun K "base" "SwapLog.base" s_SwapLog_base f fd)
    (T : LC K mg L) :
    FnOk P w K mg base CX0 (k + 1) f fd ["self"] (spLBase C L) := by
  refine F.ok sc_SwapLog_base (fun vs H Q E h => ?_)
    (fun cv A outer s H vs Q E hr h => ?_)
  · obtain ⟨g, ro, b, ls, rows, rfl, _⟩ := h
    rfl
  obtain ⟨g, ro, b, ls, rows, rfl, x, q⟩ := h
  obtain ⟨dx, cu, rs, h1, h2, h3, h4⟩ := x.ob
  refine ⟨_, pss_one (ps_ret (pe_fld (pv 0) rfl)), ?_⟩
  exact ⟨_, rfl, g, L, dx, _, _, rfl, h1, T.cl, T.nG, lf_ground _ _ _, q⟩
/-- a log's two lists replaced -/
theorem LogAt.swapIn {g ro b cu' ro' dx cu : Addr} {H1 H2 H3 : Hp}
    {ls : List (List Nat)} {rows rows' : List En} {rs' : List Addr}
    (x : LogAt C L H1 g ro b ls rows)
    (h1 : H1 g = some (.ins L dx (lf b cu ro)))
    (s : ∀ q o, H1 q = some o → q ≠ g → H3 q = some o)
    (k1 : H3 g = some (.ins L dx (lf b cu' ro')))
    (k2 : H3 cu' = some (.lst ((run ls (ixs rows')).map vS)))
    (k3 : H3 ro' = some (.lst (rs'.map V.ref))) (k4 : EnsAt H3 rs' rows')
    (wd : Wd ls ls (ixs rows')) (rn : ∀ e ∈ rows', Rsn e.2) :
    LogAt C L H3 g ro' b ls rows' := by
  refine ⟨⟨dx, cu', rs', k1, k2, k3, k4⟩, ?_, x.good, wd, rn⟩
  obtain ⟨dy, lo, d, z1, z2, z3⟩ := x.ba.ob
  exact ⟨dy, lo, d, s _ _ z1 (ne_of z1 h1 bf_ne_lf),
    s _ _ z2 (ne_of z2 h1 nofun), s _ _ z3 (ne_of z3 h1 nofun)⟩
theorem ok_remove {f : Addr} {fd : FuncData} {k : Nat}
    (F : Fun K "remove_entry" "SwapLog.remove_entry" s_SwapLog_remove_entry
      f fd)
    (B : Bl mg) (T : LC K mg L)
    (Cl : CalC P w K mg base L k "SwapLog" ["self", "base"] (spLInit C L))
    (Mk' : CalM P w K mg base L k "check_position" ["self", "position"]
      (spLChk C L))
    (Mo : CalM P w K mg base L k "order" ["self"] (spLOrd C L))
    (Me : CalM P w K mg base L k "entries" ["self"] (spLEnt C L))
    (Ms : CalM P w K mg base L k "swap_checked" ["self", "index", "reason"]
      (spSwapC C L)) :
    FnOk P w K mg base CX0 (k + 2) f fd ["self", "position"]
      (spRemove C L) := by
  refine F.ok sc_SwapLog_remove_entry (fun vs H Q E h => ?_)
    (fun cv A outer s H vs Q E hr1 h => ?_)
  · obtain ⟨g, ro, b, ls, rows, j, rfl, _⟩ := h
    rfl
  obtain ⟨g, ro, b, ls, rows, j, rfl, x, hj, q⟩ := h
  have nd := sc_SwapLog_remove_entry.nd
  have hr := hr1.mono (Nat.le_succ k)
  refine ⟨_, pss_cons (ps_expr (pe_calM Mk' hr (pv 0) (pa_cons (pv 1) pa_nil)))
    (pss_cons (ps_set (i := 2) nd rfl (.inl rfl) (pe_calM0 Me hr (pv 0)))
    (C8.pss_cut (ps_set (i := 3) nd rfl (.inl rfl)
      (pe_calC Cl hr1 (pa_cons (pe_fld (pv 0) rfl) pa_nil)))
    (pss_cons (ps_set (i := 4) nd rfl (.inr rfl) (pe_lst pa_nil))
    (C8.pss_cut (ps_for PassesOwn.never rfl
      (pi_enum (by rfl) B.enum (pa_cons (pv 2) pa_nil))
      (pg_tup rfl (pgs_cons (pg_name (i := 5) nd rfl (.inl rfl))
        (pgs_cons (pg_tup rfl (pgs_cons (pg_name (i := 6) nd rfl (.inl rfl))
          (pgs_cons (pg_name (i := 7) nd rfl (.inl rfl)) pgs_nil))) pgs_nil)))
      (pss_one (ps_if (pt_cmpR op_ne (pv 5) (pv 1) (nomark _))
        (C8.pss_cut (ps_set (i := 8) nd rfl (.inl rfl)
          (pe_calM Ms hr (pv 3) (pa_cons (pv 6) (pa_cons (pv 7) pa_nil))))
        (pss_one (ps_if (pt_cmpR op_isN (pv 8) pe_non (nomark _))
          (pss_one (ps_expr (pe_bm PySem.F.plainAttrs_list
            PySem.F.slot_list_append PySem.F.type_list_append mt_append (pv 4)
            (pa_cons (pv 5) pa_nil))))
          (pss_one (ps_expr (pe_bm PySem.F.plainAttrs_list
            PySem.F.slot_list_pop PySem.F.type_list_pop mt_popAt (pv 4)
            (pa_cons (pv 8) pa_nil)))))))
        pss_nil)))
    (pss_cons (ps_fld (pv 0) (pe_calM0 Mo hr (pv 3)) rfl)
    (pss_cons (ps_fld (pv 0) (pe_calM0 Me hr (pv 3)) rfl)
    (pss_one (ps_ret (pe_lc (own := [("at", 5)]) (g := gName 5) rfl nd
      (pi_range1 (by rfl) B.range (pa_cons (pe_callB call_len_seq (by rfl) B.len
        PySem.boot_len (pa_cons (pv 2) pa_nil)) pa_nil))
      (blkOk_by (N := N_SwapLog_remove_entry)
        (sc := defScope s_SwapLog_remove_entry) (by decide +kernel))
      (fun _ _ _ _ _ => pg_name (i := 5) nd rfl (Or.inl rfl))
      (fun _ _ _ _ _ => pts_one (pt_cmpR (r := rIn K true)
        op_notIn_seq (pv 5) (pv 4) (by rfl)))
      (fun _ _ _ _ _ => pv 5)))))))))), ?_⟩
  obtain ⟨dx, cu, rs, h1, h2, h3, h4⟩ := x.ob
  have many := x.many
  refine ⟨_, rfl, g, dx, _, rfl, h1, lf_no _ _ _ (by decide +kernel)
    (by decide +kernel) (by decide +kernel), _, rfl, g, ro, b, ls, rows, j, rfl,
    x, hj, ?_⟩
  refine ⟨_, rfl, g, dx, _, rfl, h1, lf_no _ _ _ (by decide +kernel)
    (by decide +kernel) (by decide +kernel), g, ro, b, ls, rows, rfl, x,
    fun fo rsf H1 nfo hfo hes s1 => ?_⟩
  have lrs := hes.len
  -- an empty log
  refine ⟨fun σ' H' => ∃ g2 ro2, σ' = [some (.ref g), some (.int j),
    some (.ref fo), some (.ref g2), none, none, none, none, none] ∧
    H1 g2 = none ∧ H1 ro2 = none ∧ LogAt C L H' g2 ro2 b ls [] ∧
    Same H1 H', ?_, ?_⟩
  · refine ⟨_, rfl, g, L, dx, _, _, rfl, s1 _ _ h1, T.cl, T.nG, lf_ground _ _ _,
      fun g2 dx2 ng nx ne => ?_⟩
    have s0 : Same H1 (upd (upd H1 dx2 (.own g2)) g2 (.ins L dx2 [])) :=
      OM.Same.put (sameNew nx) ng
    refine ⟨g2, b, dx2, ls, rfl, upd_same, (x.same s1).ba.same s0, x.good,
      fun ro2 H2 nro x2 b2 => ⟨rfl, g2, ro2, rfl, ng, s0.free nro, x2, ?_⟩⟩
    exact fun y o e => b2 y o (s0 y o e) (ne_of_none e ng)
  rintro _ H2 ⟨g2, ro2, rfl, ng1, nro1, x2, s2⟩
  have ng : H g2 = none := s1.free ng1
  have nro : H ro2 = none := s1.free nro1
  have nfg : fo ≠ g2 := ne_of_none hfo ng1
  have nfr : fo ≠ ro2 := ne_of_none hfo nro1
  refine ⟨sz (by simp), fun pl npl => ?_⟩
  have nfp : fo ≠ pl := ne_of_none (s2 _ _ hfo) npl
  have s3 : Same H2 (upd H2 pl (.lst [])) := sameNew npl
  have hpl : (upd H2 pl (.lst [])) pl = some (.lst []) := upd_same
  have npr : pl ≠ ro2 := fun e => by
    obtain ⟨_, _, _, _, _, k3, _⟩ := x2.ob
    rw [e, k3] at npl; cases npl
  have fpl : H pl = none := (s1.trans s2).free npl
  generalize upd H2 pl (.lst []) = H3 at s3 hpl ⊢
  have x3 := x2.same s3
  have s03 : Same H H3 := (s1.trans s2).trans s3
  -- the others again
  refine ⟨fun σ' H' => ∃ y5 y6 y7 y8, σ' = [some (.ref g), some (.int j),
    some (.ref fo), some (.ref g2), some (.ref pl), y5, y6, y7, y8] ∧
    LogAt C L H' g2 ro2 b ls (replN ls rows j rows.length).1 ∧
    H' pl = some (.lst (vIs (replN ls rows j rows.length).2)) ∧ Same H H' ∧
    H' fo = some (.lst (rsf.map V.ref)), ?_, ?_⟩
  · refine ⟨_, rfl, fo, _, rfl, SqL.of (s3 _ _ (s2 _ _ hfo)), ?_⟩
    refine for_it (walk_enum (K := K) (a := fo) (xs := rsf.map V.ref))
      (fun i σ H' => ∃ y5 y6 y7 y8, σ = [some (.ref g), some (.int j),
        some (.ref fo), some (.ref g2), some (.ref pl), y5, y6, y7, y8] ∧
        LogAt C L H' g2 ro2 b ls (replN ls rows j i).1 ∧
        H' pl = some (.lst (vIs (replN ls rows j i).2)) ∧
        (replN ls rows j i).2.length = (replN ls rows j i).1.length ∧
        Same H H' ∧ H' fo = some (.lst (rsf.map V.ref)) ∧ EnsAt H' rsf rows)
      ⟨none, none, none, none, rfl, x3, hpl, rfl, s03, s3 _ _ (s2 _ _ hfo),
        (hes.same s2).same s3⟩
      (fun i σ H' _ z => by
        obtain ⟨_, _, _, _, _, _, _, _, _, z, _⟩ := z
        exact SqL.of z) ?_ ?_
    · rintro i v σ H4 H5 hi ⟨y5, y6, y7, y8, rfl, x4, p4, l4, s4, f4, e4⟩
        ⟨T', x1', x2', rfl, nT, rfl, c1, c2⟩
      have c2 : (rsf.map V.ref)[i]? = some x2' := c2
      rw [List.getElem?_map] at c2
      rw [List.length_map] at hi
      have hi' : i < rows.length := by omega
      have gi : rows[i]? = some rows[i] := List.getElem?_eq_getElem hi'
      obtain ⟨r, er, ht⟩ := e4.get gi
      rw [er] at c2
      cases Option.some.inj c2
      cases Option.some.inj c1
      have s5 : Same H4 (upd H4 T' (.tup [.int (i : Nat), .ref r])) :=
        sameNew nT
      have hT : (upd H4 T' (.tup [.int (i : Nat), .ref r])) T' =
        some (.tup [.int (i : Nat), .ref r]) := upd_same
      generalize (upd H4 T' (.tup [.int (i : Nat), .ref r])) = H5 at s5 hT ⊢
      have x5 := x4.same s5
      have p5 := s5 _ _ p4
      have f5 := s5 _ _ f4
      have e5 := e4.same s5
      have gd : rows.getD i (0, []) = rows[i] := by
        rw [List.getD_eq_getElem?_getD, gi]; rfl
      have ix : rows[i].1 + 1 < ls.length := x.wd.ixs _
        (List.mem_map_of_mem (List.getElem_mem hi'))
      have le := replN_le ls rows j i
      refine ⟨T', _, rfl, .inl (.inl hT), rfl, _, _, rfl, _, _, rfl, r, _, rfl,
        .inl (.inl (s5 _ _ ht)), rfl, _, _, rfl, _, _, rfl, rfl, rfl, ?_⟩
      refine ⟨_, rfl, _, rfl, rfl, _, rfl, ?_⟩
      by_cases c : i = j
      · subst c
        refine iteNS rfl ?_
        have er : replN ls rows i (i + 1) = replN ls rows i i := if_pos rfl
        rw [er]
        exact ⟨_, _, _, _, rfl, x5, p5, l4, s4.trans s5, f5, e5⟩
      · have nv : ¬ (V.int (i : Int) = V.int (j : Int)) := fun z => c (by
          have := V.int.inj z
          omega)
        rw [decide_eq_false nv]
        refine iteT ?_
        have er : replN ls rows j (i + 1) =
            rep1 ls (replN ls rows j i) i rows[i] := by
          rw [← gd]
          exact if_neg c
        rw [er]
        generalize replN ls rows j i = R at x5 p5 l4 le ⊢
        obtain ⟨R1, R2⟩ := R
        simp only at x5 p5 l4 le
        obtain ⟨dy, cy, ry, w1, w2, w3, w4⟩ := x5.ob
        -- the swap
        refine ⟨fun σ' H' => σ' = [some (.ref g), some (.int j),
          some (.ref fo), some (.ref g2), some (.ref pl), some (.int (i : Nat)),
          some (.int rows[i].1), some (vS rows[i].2),
          some (ansS ls R1 rows[i].1)] ∧
          LogAt C L H' g2 ro2 b ls (rowsS ls R1 rows[i].1 rows[i].2) ∧
          But2 g2 ro2 H5 H', ?_, ?_⟩
        · exact ⟨_, rfl, g2, dy, _, rfl, w1, lf_no _ _ _ (by decide +kernel)
            (by decide +kernel) (by decide +kernel), _, rfl, _, rfl, g2, ro2, b,
            ls, R1, rows[i].1, rows[i].2, rfl, x5, ix,
            x.rn _ (List.getElem_mem hi'), fun H6 x6 u6 => ⟨rfl, x6, u6⟩⟩
        rintro _ H6 ⟨rfl, x6, u6⟩
        have ngp : pl ≠ g2 := ne_of p5 w1 nofun
        have p6 := u6 _ _ p5 ngp npr
        have s6 : Same H H6 := But2.same (s4.trans s5) u6 ng nro
        have f6 := u6 _ _ f5 nfg nfr
        have e6 := x5.ents u6 e5
        have lenn := lenS (r := rows[i].2) (a := i) x5 ix l4
        have m6 := x6.many
        show tIfS _ _ _ _ _ _
        cases ob : outB ls (run ls (ixs R1)) rows[i].1 with
        | true =>
          have ea : ansS ls R1 rows[i].1 = .non := by
            unfold ansS
            rw [ob, if_pos rfl]
          have eb : rep1 ls (R1, R2) i rows[i] =
              (rowsS ls R1 rows[i].1 rows[i].2, R2 ++ [i]) := by
            unfold rep1
            simp only
            rw [ob, if_pos rfl]
          rw [ob, if_pos rfl] at lenn
          rw [ea, eb]
          refine ⟨_, rfl, rfl, _, rfl, iteT ?_⟩
          refine ⟨_, rfl, .inl ⟨rfl, _, SqL.of p6⟩, _, rfl, pl, _, _, rfl, rfl,
            p6, ?_, ?_⟩
          · rw [List.length_map]
            exact sz' (by omega)
          have bp : But pl H6 (upd H6 pl (.lst (vIs R2 ++
            [.int (i : Nat)]))) := (But.refl H6).at
          refine ⟨_, _, _, _, rfl, x6.ints p6 npr bp, ?_, lenn,
            OM.Same.put s6 fpl, bp _ _ f6 nfp, e6.keep fun a xs e =>
              bp _ _ e (ne_of e p6 nofun)⟩
          rw [upd_same]
          unfold vIs
          rw [List.map_append]
          rfl
        | false =>
          have ea : ansS ls R1 rows[i].1 =
              .int ((canJ ls (ixs R1) rows[i].1 : Nat) : Int) := by
            unfold ansS
            rw [ob, if_neg nofun]
          have eb : rep1 ls (R1, R2) i rows[i] =
              (rowsS ls R1 rows[i].1 rows[i].2,
                R2.eraseIdx (canJ ls (ixs R1) rows[i].1)) := by
            unfold rep1
            simp only
            rw [ob, if_neg nofun]
          have cl := x5.canLt ix ob
          rw [ob, if_neg nofun] at lenn
          rw [ea, eb]
          generalize canJ ls (ixs R1) rows[i].1 = c at cl lenn ⊢
          refine ⟨_, rfl, rfl, _, rfl, iteF ?_⟩
          have ec : (vIs R2)[c]? = some ((vIs R2)[c]'(by
            rw [List.length_map]; omega)) := List.getElem?_eq_getElem _
          refine ⟨_, rfl, .inl ⟨rfl, _, SqL.of p6⟩, _, rfl, pl, _, _, c, _, rfl,
            rfl, p6, by omega, by omega, ?_, ec, ?_⟩
          · have sx := seqIndex_of (k := ((c : Nat) : Int))
              (n := (vIs R2).length) (by omega) (by
                rw [List.length_map]; omega)
            rw [Int.toNat_natCast] at sx
            exact sx
          have bp : But pl H6 (upd H6 pl (.lst ((vIs R2).eraseIdx c))) :=
            (But.refl H6).at
          refine ⟨_, _, _, _, rfl, x6.ints p6 npr bp, ?_, lenn,
            OM.Same.put s6 fpl, bp _ _ f6 nfp, e6.keep fun a xs e =>
              bp _ _ e (ne_of e p6 nofun)⟩
          rw [upd_same]
          congr 2
          exact map_erase _ _ _
    · rintro σ H4 ⟨y5, y6, y7, y8, rfl, x4, p4, l4, s4, f4, e4⟩
      rw [List.length_map, lrs] at x4 p4
      exact ⟨_, _, _, _, rfl, x4, p4, s4, f4⟩
  rintro _ H4 ⟨y5, y6, y7, y8, rfl, x4, p4, s4, f4⟩
  have wd' := x4.wd
  have rn' := x4.rn
  have le := replN_le ls rows j rows.length
  have hgg := s4 _ _ h1
  have n2g : g2 ≠ g := fun e => by rw [e, h1] at ng; cases ng
  obtain ⟨d4, c4, r4, a1, a2, a3, a4⟩ := x4.ob
  refine ⟨_, rfl, g2, d4, _, rfl, a1, lf_no _ _ _ (by decide +kernel)
    (by decide +kernel) (by decide +kernel), g2, ro2, b, ls, _, rfl, x4,
    fun o H5 no ho s5 => ?_⟩
  have ngo : g ≠ o := ne_of_none hgg no
  refine ⟨_, rfl, g, L, dx, _, rfl, s5 _ _ hgg, T.cl, T.nC, lf_len _ _ _, ?_⟩
  rw [lf_setc]
  have u6 : But g H4 (upd H5 g (.ins L dx (lf b o ro))) := (But.of s5).at
  have g6 : (upd H5 g (.ins L dx (lf b o ro))) g =
    some (.ins L dx (lf b o ro)) := upd_same
  have o6 : (upd H5 g (.ins L dx (lf b o ro))) o = some (.lst ((run ls
    (ixs (replN ls rows j rows.length).1)).map vS)) := by
    rw [upd_ne ngo.symm]; exact ho
  generalize (upd H5 g (.ins L dx (lf b o ro))) = H6 at u6 g6 o6 ⊢
  have x6 := x4.other hgg n2g u6
  refine ⟨_, rfl, g2, d4, _, rfl, u6 _ _ a1 n2g, lf_no _ _ _
    (by decide +kernel) (by decide +kernel) (by decide +kernel), g2, ro2, b, ls,
    _, rfl, x6, fun e rsE H7 ne he heE s7 => ?_⟩
  have nge : g ≠ e := ne_of_none g6 ne
  refine ⟨_, rfl, g, L, dx, _, rfl, s7 _ _ g6, T.cl, T.nR, lf_len _ _ _, ?_⟩
  rw [lf_setr]
  have u8 : But g H4 (upd H7 g (.ins L dx (lf b o e))) :=
    (u6.trans (But.of s7)).at
  have g8 : (upd H7 g (.ins L dx (lf b o e))) g =
    some (.ins L dx (lf b o e)) := upd_same
  have o8 : (upd H7 g (.ins L dx (lf b o e))) o = some (.lst ((run ls
    (ixs (replN ls rows j rows.length).1)).map vS)) := by
    rw [upd_ne ngo.symm]; exact s7 _ _ o6
  have e8 : (upd H7 g (.ins L dx (lf b o e))) e =
    some (.lst (rsE.map V.ref)) := by
    rw [upd_ne nge.symm]; exact he
  have r8 : EnsAt (upd H7 g (.ins L dx (lf b o e))) rsE
      (replN ls rows j rows.length).1 := heE.keep fun a xs h => by
    rw [upd_ne (ne_of h (s7 _ _ g6) nofun)]; exact h
  generalize (upd H7 g (.ins L dx (lf b o e))) = H8 at u8 g8 o8 e8 r8 ⊢
  have b8 : But g H H8 := fun y o' h n => u8 _ _ (s4 _ _ h) n
  have nfog : fo ≠ g := fun z => by rw [z, h1] at nfo; cases nfo
  have npg : pl ≠ g := fun z => by rw [z, h1] at fpl; cases fpl
  have f8 := u8 _ _ f4 nfog
  have p8 := u8 _ _ p4 npg
  have fe : H e = none := by
    cases z : H e with
    | none => rfl
    | some oo => rw [u6 _ _ (s4 _ _ z) nge.symm] at ne; cases ne
  refine ⟨_, rfl, fo, _, rfl, .inl (SqL.of f8), _, rfl, ?_, ?_,
    fun D nD => ?_⟩
  · omega
  · rw [List.length_map]
    omega
  have nDe : D ≠ e := (ne_of_none e8 nD).symm
  have fD : H D = none := by
    cases z : H D with
    | none => rfl
    | some oo =>
      have nDg : D ≠ g := fun w => by rw [w, g8] at nD; cases nD
      rw [b8 _ _ z nDg] at nD; cases nD
  generalize hn : (Int.toNat _) = n
  have hn' : n = rows.length := by
    rw [← hn, List.length_map, lrs]
    omega
  subst hn'
  clear hn
  refine lc_range (lo := 0) (n := rows.length) (fun i H' =>
    H' D = some (.lst (vIs ((List.range i).filter fun a =>
      decide (a ∉ (replN ls rows j rows.length).2)))) ∧ Same H8 H')
    ⟨upd_same, sameNew nD⟩ ?_ ?_
  · rintro i H9 hi ⟨hD, s9⟩
    refine ⟨rfl, _, rfl, _, rfl, pl, _, rfl, .inl (SqL.of (s9 _ _ p8)), rfl,
      flat_I _, _, rfl, ?_⟩
    rw [Int.zero_add, inV_I]
    have hl : ((List.range i).filter fun a =>
        decide (a ∉ (replN ls rows j rows.length).2)).length ≤ i := by
      refine Nat.le_trans (List.length_filter_le _ _) ?_
      rw [List.length_range]
      exact Nat.le_refl _
    by_cases hm : i ∈ (replN ls rows j rows.length).2
    · rw [decide_eq_true hm]
      refine iteF ⟨?_, s9⟩
      rw [hD, List.range_succ, List.filter_append,
        List.filter_cons_of_neg (by simp [hm]), List.filter_nil,
        List.append_nil]
    · rw [decide_eq_false hm]
      refine iteT ⟨_, rfl, _, hD, ?_, ?_, OM.Same.put s9 nD⟩
      · rw [List.length_map]
        exact sz' (by omega)
      · rw [upd_same, List.range_succ, List.filter_append,
          List.filter_cons_of_pos (by simp [hm]), List.filter_nil]
        unfold vIs
        rw [List.map_append]
        rfl
  · rintro H9 ⟨hD, s9⟩
    refine q D e H9 fD fe nDe ?_ hD ?_
    · exact x.swapIn (H2 := H8) h1 (fun y o' h n => s9 _ _ (b8 _ _ h n))
        (s9 _ _ g8) (s9 _ _ o8) (s9 _ _ e8) (r8.same s9) wd' rn'
    · exact fun y o' h n => s9 _ _ (b8 _ _ h n)
end
end OM
namespace OM
open PySem PySem.Spec PyProof.Rows L2
section
variable {P : Program} {w : World} {K : PySem.W.Frag}
  {mg : Str → Option Value} {base : Heap} {C L : Addr}
theorem ok_clone {f : Addr} {fd : FuncData} {k : Nat}
    (F : Fun K "clone" "SwapLog.clone" s_SwapLog_clone f fd)
    (T : LC K mg L)
    (Cl : CalC P w K mg base L k "SwapLog" ["self", "base"] (spLInit C L))
    (Mo : CalM P w K mg base L k "order" ["self"] (spLOrd C L))
    (Me : CalM P w K mg base L k "entries" ["self"] (spLEnt C L)) :
    FnOk P w K mg base CX0 (k + 2) f fd ["self"] (spClone C L) := by
  refine F.ok sc_SwapLog_clone (fun vs H Q E h => ?_)
    (fun cv A outer s H vs Q E hr1 h => ?_)
  · obtain ⟨g, ro, b, ls, rows, rfl, _⟩ := h
    rfl
  obtain ⟨g, ro, b, ls, rows, rfl, x, q⟩ := h
  have nd := sc_SwapLog_clone.nd
  have hr := hr1.mono (Nat.le_succ k)
  refine ⟨_, C8.pss_cut (ps_set (i := 1) nd rfl (.inl rfl)
      (pe_calC Cl hr1 (pa_cons (pe_fld (pv 0) rfl) pa_nil)))
    (pss_cons (ps_fld (pv 1) (pe_calM0 Mo hr (pv 0)) rfl)
    (pss_cons (ps_fld (pv 1) (pe_calM0 Me hr (pv 0)) rfl)
    (pss_one (ps_ret (pv 1))))), ?_⟩
  obtain ⟨dx, cu, rs, h1, h2, h3, h4⟩ := x.ob
  refine ⟨fun σ' H' => ∃ g2 ro2, σ' = [some (.ref g), some (.ref g2)] ∧
    H g2 = none ∧ H ro2 = none ∧ LogAt C L H' g2 ro2 b ls [] ∧ Same H H', ?_,
    ?_⟩
  · refine ⟨_, rfl, g, L, dx, _, _, rfl, h1, T.cl, T.nG, lf_ground _ _ _,
      fun g2 dx2 ng nx ne => ?_⟩
    have s0 : Same H (upd (upd H dx2 (.own g2)) g2 (.ins L dx2 [])) :=
      OM.Same.put (sameNew nx) ng
    refine ⟨g2, b, dx2, ls, rfl, upd_same, x.ba.same s0, x.good,
      fun ro2 H1 nro x1 b1 => ⟨rfl, g2, ro2, rfl, ng, s0.free nro, x1, ?_⟩⟩
    exact fun y o e => b1 y o (s0 y o e) (ne_of_none e ng)
  rintro _ H1 ⟨g2, ro2, rfl, ng, nro, x1, s1⟩
  obtain ⟨dx2, cu2, rs2, k1, k2, k3, k4⟩ := x1.ob
  refine ⟨_, rfl, g, dx, _, rfl, s1 _ _ h1, lf_no _ _ _ (by decide +kernel)
    (by decide +kernel) (by decide +kernel), g, ro, b, ls, rows, rfl, x.same s1,
    fun o H2 no ho s2 => ?_⟩
  refine ⟨_, rfl, g2, L, dx2, _, rfl, s2 _ _ k1, T.cl, T.nC, lf_len _ _ _, ?_⟩
  rw [lf_setc]
  have ngo : g2 ≠ o := ne_of_none k1 no
  have u3 : But g2 H1 (upd H2 g2 (.ins L dx2 (lf b o ro2))) := (But.of s2).at
  have g3 : (upd H2 g2 (.ins L dx2 (lf b o ro2))) g2 =
    some (.ins L dx2 (lf b o ro2)) := upd_same
  have o3 : (upd H2 g2 (.ins L dx2 (lf b o ro2))) o =
    some (.lst ((run ls (ixs rows)).map vS)) := by
    rw [upd_ne ngo.symm]; exact ho
  have s3 : Same H (upd H2 g2 (.ins L dx2 (lf b o ro2))) :=
    OM.Same.put (s1.trans s2) ng
  generalize (upd H2 g2 (.ins L dx2 (lf b o ro2))) = H3 at u3 g3 o3 s3 ⊢
  refine ⟨_, rfl, g, dx, _, rfl, s3 _ _ h1, lf_no _ _ _ (by decide +kernel)
    (by decide +kernel) (by decide +kernel), g, ro, b, ls, rows, rfl, x.same s3,
    fun e rs' H4 ne he hes s4 => ?_⟩
  refine ⟨_, rfl, g2, L, dx2, _, rfl, s4 _ _ g3, T.cl, T.nR, lf_len _ _ _, ?_⟩
  rw [lf_setr]
  have nge : g2 ≠ e := ne_of_none g3 ne
  refine ⟨_, rfl, q g2 e _ ng (s3.free ne) ?_ (OM.Same.put (s3.trans s4) ng)⟩
  refine x1.swapIn (H2 := H4) k1 (fun y o h n => ?_) upd_same (cu' := o) ?_ ?_
    (rs' := rs') ?_ x.wd x.rn
  · rw [upd_ne n]
    exact s4 _ _ (u3 _ _ h n)
  · rw [upd_ne ngo.symm]
    exact s4 _ _ o3
  · rw [upd_ne nge.symm]
    exact he
  · refine hes.keep fun a xs ha => ?_
    rw [upd_ne (ne_of ha (s4 _ _ g3) nofun)]
    exact ha
end
end OM
namespace OM
open PySem PySem.Spec PyProof.Rows L2
/-! ### the law's own state of a log -/
theorem set_exch {α : Type} : ∀ (xs : List α) (k : Nat) (h : k + 1 < xs.length),
    (xs.set k xs[k + 1]).set (k + 1) xs[k] = exch xs k
  | [], k, h => absurd h (by simp)
  | [x], k, h => absurd h (by simp)
  | x :: y :: r, 0, h => rfl
  | x :: y :: r, k + 1, h => by
    have ih := set_exch (y :: r) k (by simpa using h)
    rw [exch_succ, ← ih]
    rfl
abbrev kI : Key := Sum.inr ("items" : Str)
abbrev kO : Key := Sum.inr ("order" : Str)
abbrev kE : Key := Sum.inr ("entries" : Str)
theorem kIO : ¬ (kI = kO) := by decide +kernel
theorem kIE : ¬ (kI = kE) := by decide +kernel
theorem kOE : ¬ (kO = kE) := by decide +kernel
def st3 (it od en : Addr) : List (Key × V) :=
  [(kI, .ref it), (kO, .ref od), (kE, .ref en)]
theorem st3_I (it od en : Addr) : valV (st3 it od en) kI = some (.ref it) :=
  valV_pos rfl
theorem st3_O (it od en : Addr) : valV (st3 it od en) kO = some (.ref od) :=
  (valV_neg kIO).trans (valV_pos rfl)
theorem st3_E (it od en : Addr) : valV (st3 it od en) kE = some (.ref en) :=
  (valV_neg kIE).trans ((valV_neg kOE).trans (valV_pos rfl))
theorem put_E (it od en en' : Addr) :
    putK (st3 it od en) kE (.ref en') = st3 it od en' := by
  unfold putK
  rw [valV_any, st3_E, if_pos (show (some (V.ref en)).isSome = true from rfl)]
  unfold st3
  rw [List.map_cons, List.map_cons, List.map_cons, if_neg kIE, if_neg kOE,
    if_pos rfl]
  rfl
theorem put_O (it od en od' : Addr) :
    putK (st3 it od en) kO (.ref od') = st3 it od' en := by
  unfold putK
  rw [valV_any, st3_O, if_pos (show (some (V.ref od)).isSome = true from rfl)]
  unfold st3
  rw [List.map_cons, List.map_cons, List.map_cons, if_neg kIO, if_pos rfl,
    if_neg (fun z => kOE z.symm)]
  rfl
theorem merge3 (it od en : Addr) : mergeK [] [(kI, V.ref it), (kO, .ref od),
    (kE, .ref en)] = st3 it od en := by
  unfold mergeK
  rw [List.foldl_cons, List.foldl_cons, List.foldl_cons, List.foldl_nil]
  rw [putK_new _ (rfl : valV ([] : List (Key × V)) kI = none), List.nil_append,
    putK_new _ (show valV [(kI, V.ref it)] kO = none from
      (valV_neg kIO).trans rfl),
    putK_new _ (show valV ([(kI, V.ref it)] ++ [(kO, V.ref od)]) kE = none from
      (valV_neg kIE).trans ((valV_neg kOE).trans rfl))]
  rfl
/-- the state at s: items, order, entries -/
structure StAt (H : Hp) (s it en : Addr) (ls : List (List Nat))
    (rows : List En) : Prop where
  ob : ∃ od rs, H s = some (.dK (st3 it od en)) ∧
    H it = some (.lst (ls.map vS)) ∧
    H od = some (.lst ((run ls (ixs rows)).map vS)) ∧
    H en = some (.lst (rs.map V.ref)) ∧ EnsAt H rs rows
theorem StAt.same {H H' : Hp} {s it en : Addr} {ls : List (List Nat)}
    {rows : List En} (x : StAt H s it en ls rows) (z : Same H H') :
    StAt H' s it en ls rows := by
  obtain ⟨od, rs, h1, h2, h3, h4, h5⟩ := x.ob
  exact ⟨od, rs, z _ _ h1, z _ _ h2, z _ _ h3, z _ _ h4, h5.same z⟩
/-- what entries may be -/
structure Rw (ls : List (List Nat)) (rows : List En) : Prop where
  good : Good ls
  wd : Wd ls ls (ixs rows)
  rn : ∀ e ∈ rows, Rsn e.2
theorem LogAt.rw {C L g ro b : Addr} {H : Hp} {ls : List (List Nat)}
    {rows : List En} (x : LogAt C L H g ro b ls rows) : Rw ls rows :=
  ⟨x.good, x.wd, x.rn⟩
section
variable {ls : List (List Nat)} {rows : List En} {i : Nat} {r : List Nat}
theorem Rw.rep (x : Rw ls rows) :
    Rep ls (run ls (ixs rows)) (prsOf ls (ixs rows)) := by
  have := (Rep.nil x.good.nd).word ⟨x.good.nd, List.Perm.refl _⟩ x.wd
  rw [List.nil_append] at this
  exact this
theorem Rw.of (x : Rw ls rows) : Of ls (run ls (ixs rows)) :=
  Of.run _ ⟨x.good.nd, List.Perm.refl _⟩
theorem Rw.many (x : Rw ls rows) : rows.length ≤ 1600 := by
  have := x.rep.len (rep_inv x.good.nd)
  rw [prsOf_len, List.length_map] at this
  rw [this]
  exact x.good.many _ (Nat.le_refl _)
theorem Rw.sme (x : Rw ls rows) : SmE rows := fun e he => by
  have h1 := x.wd.ixs e.1 (List.mem_map_of_mem he)
  have h2 := x.good.hi
  have h3 := x.rn e he
  exact ⟨by omega, h3.len, h3.uni⟩
theorem Rw.canMem (x : Rw ls rows) (hi : i + 1 < ls.length)
    (ob : outB ls (run ls (ixs rows)) i = false) :
    ((run ls (ixs rows)).getD (i + 1) [], (run ls (ixs rows)).getD i []) ∈
      prsOf ls (ixs rows) :=
  (x.rep.inn x.of (by rw [run_len]; exact hi) ob).1
theorem Rw.canLt (x : Rw ls rows) (hi : i + 1 < ls.length)
    (ob : outB ls (run ls (ixs rows)) i = false) :
    canJ ls (ixs rows) i < rows.length := by
  have := List.idxOf_lt_length_of_mem (x.canMem hi ob)
  rw [prsOf_len, List.length_map] at this
  exact this
theorem Rw.step (x : Rw ls rows) (hi : i + 1 < ls.length) (hr : Rsn r) :
    Rw ls (rowsS ls rows i r) ∧
      run ls (ixs (rowsS ls rows i r)) = exch (run ls (ixs rows)) i := by
  have key : Wd ls ls (ixs (rowsS ls rows i r)) ∧
      run ls (ixs (rowsS ls rows i r)) = exch (run ls (ixs rows)) i := by
    unfold rowsS
    cases ob : outB ls (run ls (ixs rows)) i with
    | true =>
      rw [if_pos rfl]
      have e : ixs (rows ++ [(i, r)]) = ixs rows ++ [i] := List.map_append
      rw [e]
      exact ⟨x.wd.snoc hi ob, run_snoc _ _ _⟩
    | false =>
      rw [if_neg nofun, ixs_erase]
      have m := x.canMem hi ob
      have il := List.idxOf_lt_length_of_mem m
      refine cancel x.good.nd x.wd hi ob ?_
      unfold canJ
      rw [List.getElem?_eq_getElem il, List.getElem_idxOf il]
  refine ⟨⟨x.good, key.1, ?_⟩, key.2⟩
  unfold rowsS
  intro e he
  split at he
  · rcases List.mem_append.mp he with h | h
    · exact x.rn e h
    · rw [List.mem_singleton.mp h]
      exact hr
  · exact x.rn e (List.mem_of_mem_eraseIdx he)
end
def spSwEnt : Sp := fun vs H Q _ =>
  ∃ (it en od : Addr) (ls : List (List Nat)) (rows : List En)
    (rs : List Addr) (i : Nat) (r : List Nat),
  vs = [.ref it, .ref en, .ref od, .int i, vS r] ∧ Rw ls rows ∧
  H it = some (.lst (ls.map vS)) ∧ H en = some (.lst (rs.map V.ref)) ∧
  EnsAt H rs rows ∧ H od = some (.lst ((run ls (ixs rows)).map vS)) ∧
  i + 1 < ls.length ∧ ∀ t n rs' H', H n = none →
    H' t = some (.tup [.ref n, ansS ls rows i]) →
    H' n = some (.lst (rs'.map V.ref)) → EnsAt H' rs' (rowsS ls rows i r) →
    Same H H' → Q (.ref t) H'
def spBegun : Sp := fun vs H Q _ =>
  ∃ (it : Addr) (ls : List (List Nat)), vs = [.ref it] ∧
  H it = some (.lst (ls.map vS)) ∧ ls.length ≤ 1000 ∧ ∀ s en H', H s = none →
    H en = none → StAt H' s it en ls [] → Same H H' → Q (.ref s) H'
def spDone : Sp := fun vs H Q _ =>
  ∃ (s it en : Addr) (ls : List (List Nat)) (rows : List En) (i : Nat)
    (r : List Nat), vs = [.ref s, .int i, vS r] ∧ Rw ls rows ∧
  StAt H s it en ls rows ∧ i + 1 < ls.length ∧ Rsn r ∧
  ∀ en' H', H en' = none → StAt H' s it en' ls (rowsS ls rows i r) →
    But s H H' → Q (ansS ls rows i) H'
end OM
namespace OM
open PySem PySem.Spec PyProof.Rows L2
section
variable {P : Program} {w : World} {K : PySem.W.Frag}
  {mg : Str → Option Value} {base : Heap}
theorem ok_swent {f : Addr} {fd : FuncData} {k : Nat}
    (F : Fun K "_law_swapped_entries" "_law_swapped_entries"
      s_Lswapped_entries f fd) (B : Bl mg) :
    FnOk P w K mg base CX0 (k + 1) f fd ["_law_items", "_law_entries",
      "_law_order", "_law_index", "_law_label_here"] spSwEnt := by
  refine F.ok sc_Lswapped_entries (fun vs H Q E h => ?_)
    (fun cv A outer s H vs Q E hr h => ?_)
  · obtain ⟨it, en, od, ls, rows, rs, i, r, rfl, _⟩ := h
    rfl
  obtain ⟨it, en, od, ls, rows, rs, i, r, rfl, x, hit, hen, hes, hod, hi, q⟩ :=
    h
  have nd := sc_Lswapped_entries.nd
  refine ⟨_, C8.pss_cut (ps_par (i := 5) (j := 6) (by rfl) nd rfl rfl
      (by decide) rfl rfl
      (pa_cons (pe_ix ix_list (pv 2) (pv 3) (fun _ _ => rfl))
        (pa_cons (pe_ix ix_list (pv 2) (pe_op op_add (pv 3) pe_int)
          (fun _ _ => rfl)) pa_nil)) (by rfl))
    (pss_cons (ps_if (pt_cmpR op_lt
        (pe_bm PySem.F.plainAttrs_list PySem.F.slot_list_index
          PySem.F.type_list_index mt_index (pv 0) (pa_cons (pv 5) pa_nil))
        (pe_bm PySem.F.plainAttrs_list PySem.F.slot_list_index
          PySem.F.type_list_index mt_index (pv 0) (pa_cons (pv 6) pa_nil))
        (nomark _))
      (pss_one (ps_ret (pe_tup (pa_cons (pe_op op_cat (pv 1)
        (pe_lst (pa_cons (pe_tup (pa_cons (pv 3) (pa_cons (pv 4) pa_nil)))
          pa_nil))) (pa_cons pe_non pa_nil))))) pss_nil)
    (pss_cons (ps_set (i := 7) nd rfl (.inl rfl)
      (pe_callTy call_list_of (by rfl) B.list bt_list (pa_cons (pv 0) pa_nil)))
    (pss_cons (ps_for PassesOwn.never rfl
      (pi_enum (by rfl) B.enum (pa_cons (pv 1) pa_nil))
      (pg_tup rfl (pgs_cons (pg_name (i := 8) nd rfl (.inl rfl))
        (pgs_cons (pg_name (i := 9) nd rfl (.inl rfl)) pgs_nil)))
      (pss_cons (ps_set (i := 10) nd rfl (.inl rfl)
        (pe_ix ix_tup (pv 9) pe_int (fun _ _ => rfl)))
      (pss_cons (ps_if (pt_cmpR (op_eqD hr.units)
          (pe_tup (pa_cons (pe_ix ix_list (pv 7) (pv 10) (fun _ _ => rfl))
            (pa_cons (pe_ix ix_list (pv 7) (pe_op op_add (pv 10) pe_int)
              (fun _ _ => rfl)) pa_nil)))
          (pe_tup (pa_cons (pv 6) (pa_cons (pv 5) pa_nil))) (nomark _))
        (pss_one (ps_ret (pe_tup (pa_cons (pe_op op_cat
          (pe_slice sl_list (pv 1) po_none (po_some (pv 8)))
          (pe_slice sl_list (pv 1) (po_some (pe_op op_add (pv 8) pe_int))
            po_none)) (pa_cons (pv 8) pa_nil))))) pss_nil)
      (pss_one (ps_asg (pe_tup (pa_cons
          (pe_ix ix_list (pv 7) (pe_op op_add (pv 10) pe_int) (fun _ _ => rfl))
          (pa_cons (pe_ix ix_list (pv 7) (pv 10) (fun _ _ => rfl)) pa_nil)))
        (pg_tup rfl (pgs_cons (pg_sub (pv 7) (pv 10) set_list)
          (pgs_cons (pg_sub (pv 7) (pe_op op_add (pv 10) pe_int) set_list)
            pgs_nil))))))))
    (pss_one ps_never)))), ?_⟩
  have ol : (run ls (ixs rows)).length = ls.length := run_len _ _
  have hi' : i + 1 < (run ls (ixs rows)).length := by omega
  have gL := getD_map vS [] (show i < (run ls (ixs rows)).length by omega)
  have gR := getD_map vS [] hi'
  have mL := x.of.m0 hi'
  have mR := x.of.m1 hi'
  have eo := @out_lt ls (run ls (ixs rows)) i
  have ei := in_lt x.of hi'
  have cm := x.canMem (i := i) hi
  have ecj : canJ ls (ixs rows) i = (prsOf ls (ixs rows)).idxOf
    ((run ls (ixs rows)).getD (i + 1) [], (run ls (ixs rows)).getD i []) := rfl
  have many := x.many
  have lrs := hes.len
  have h40 := x.good.hi
  generalize (run ls (ixs rows)).getD i [] = l at gL mL eo ei cm ecj
  generalize (run ls (ixs rows)).getD (i + 1) [] = m at gR mR eo ei cm ecj
  -- the two items
  refine ⟨fun σ' H' => σ' = [some (.ref it), some (.ref en), some (.ref od),
    some (.int i), some (vS r), some (vS l), some (vS m), none, none, none,
    none] ∧ H = H', ?_, ?_⟩
  · exact ⟨_, rfl, _, rfl, od, _, _, _, rfl, rfl, SqL.of hod,
      atI_nat (j := i) gL, _, rfl, _, rfl, _, _, rfl, rfl, od, _, _, _, rfl,
      rfl, SqL.of hod, atI_nat (j := i + 1) gR, _, _, rfl, rfl, rfl⟩
  rintro _ _ ⟨rfl, rfl⟩
  have hL := SqL.of (K := K) hit
  refine ⟨_, rfl, .inl ⟨rfl, _, hL⟩, _, rfl, it, _, _, ls.idxOf l, vS l, rfl,
    rfl, hL, rfl, flat_S ls, idx_get mL, eqV_self l, idx_first, _, rfl,
    .inl ⟨rfl, _, hL⟩, _, rfl, it, _, _, ls.idxOf m, vS m, rfl, rfl,
    hL, rfl, flat_S ls, idx_get mR, eqV_self m, idx_first, _, _, rfl, rfl, _,
    rfl, ite2 (fun c => ?_) (fun c => ?_)⟩
  · have c' : ls.idxOf l < ls.idxOf m := by
      have : ((ls.idxOf l : Nat) : Int) < ((ls.idxOf m : Nat) : Int) :=
        of_decide_eq_true c
      omega
    have ob := eo.mpr c'
    have ea : ansS ls rows i = .non := by
      unfold ansS
      rw [ob, if_pos rfl]
    have er : rowsS ls rows i r = rows ++ [(i, r)] := by
      unfold rowsS
      rw [ob, if_pos rfl]
    rw [ea, er] at q
    refine ⟨_, rfl, _, rfl, _, rfl, sz (by simp), fun t nt => ?_⟩
    have s4 : Same H (upd H t (.tup [.int i, vS r])) := sameNew nt
    have ht : (upd H t (.tup [.int i, vS r])) t =
      some (.tup [.int i, vS r]) := upd_same
    generalize (upd H t (.tup [.int i, vS r])) = H4 at s4 ht ⊢
    refine ⟨sz (by simp), fun u nu => ?_⟩
    have s5 : Same H4 (upd H4 u (.lst [.ref t])) := sameNew nu
    have hu : (upd H4 u (.lst [.ref t])) u = some (.lst [.ref t]) := upd_same
    generalize (upd H4 u (.lst [.ref t])) = H5 at s5 hu ⊢
    refine ⟨en, u, _, _, rfl, rfl, s5 _ _ (s4 _ _ hen), hu, ?_,
      fun ex nex => ?_⟩
    · rw [List.length_map]
      exact sz (by simp; omega)
    have s6 : Same H5 (upd H5 ex (.lst (rs.map V.ref ++ [.ref t]))) :=
      sameNew nex
    have h6 : (upd H5 ex (.lst (rs.map V.ref ++ [.ref t]))) ex =
      some (.lst (rs.map V.ref ++ [.ref t])) := upd_same
    generalize (upd H5 ex (.lst (rs.map V.ref ++ [.ref t]))) = H6 at s6 h6 ⊢
    refine ⟨sz (by simp), fun t7 n7 => ?_⟩
    have s46 := (s4.trans s5).trans s6
    refine q t7 ex (rs ++ [t]) _ ((s4.trans s5).free nex) upd_same ?_ ?_
      (s46.trans (sameNew n7))
    · rw [List.map_append]
      exact sameNew n7 _ _ h6
    · exact (((hes.same s4).snoc (e := (i, r)) ht).same
        (s5.trans s6)).same (sameNew n7)
  · have ob : outB ls (run ls (ixs rows)) i = false := by
      cases z : outB ls (run ls (ixs rows)) i with
      | false => rfl
      | true =>
        have := eo.mp z
        exact absurd (decide_eq_true (show ((ls.idxOf l : Nat) : Int) <
          ((ls.idxOf m : Nat) : Int) by omega)) c
    have ea : ansS ls rows i = .int ((canJ ls (ixs rows) i : Nat) : Int) := by
      unfold ansS
      rw [ob, if_neg nofun]
    have er : rowsS ls rows i r = rows.eraseIdx (canJ ls (ixs rows) i) := by
      unfold rowsS
      rw [ob, if_neg nofun]
    have cl := x.canLt hi ob
    have pm := cm ob
    rw [ea, er] at q
    have cj : ∀ j, (prsOf ls (ixs rows))[j]? = some (m, l) →
        canJ ls (ixs rows) i = j := fun j h => by
      rw [ecj]; exact idx_of x.rep.nd h
    have cg : (prsOf ls (ixs rows))[canJ ls (ixs rows) i]? = some (m, l) := by
      have il := List.idxOf_lt_length_of_mem pm
      rw [ecj, List.getElem?_eq_getElem il, List.getElem_idxOf il]
    generalize canJ ls (ixs rows) i = c at cl q cj cg
    clear ea er
    refine ⟨_, rfl, it, _, rfl, .inl hL, fun nw nnw => ?_⟩
    have s1 : Same H (upd H nw (.lst (ls.map vS))) := sameNew nnw
    have h1 : (upd H nw (.lst (ls.map vS))) nw = some (.lst (ls.map vS)) :=
      upd_same
    generalize (upd H nw (.lst (ls.map vS))) = H1 at s1 h1 ⊢
    refine ⟨_, rfl, en, _, rfl, SqL.of (s1 _ _ hen), ?_⟩
    refine for_it (walk_enum (K := K) (a := en) (xs := rs.map V.ref))
      (fun j σ H' => ∃ y8 y9 y10, σ = [some (.ref it), some (.ref en),
        some (.ref od), some (.int i), some (vS r), some (vS l), some (vS m),
        some (.ref nw), y8, y9, y10] ∧
        H' nw = some (.lst ((run ls (ixs (rows.take j))).map vS)) ∧ j ≤ c ∧
        Same H H')
      ⟨none, none, none, rfl, h1, Nat.zero_le _, s1⟩
      (fun j σ H' _ z => by
        obtain ⟨_, _, _, _, _, _, s⟩ := z
        exact SqL.of (s _ _ hen)) ?_ ?_
    · rintro j v σ H4 H5 hj ⟨y8, y9, y10, rfl, w4, jc, s4⟩
        ⟨T', x1', x2', rfl, nT, rfl, c1, c2⟩
      have c2 : (rs.map V.ref)[j]? = some x2' := c2
      rw [List.getElem?_map] at c2
      rw [List.length_map] at hj
      have hj' : j < rows.length := by omega
      have gi : rows[j]? = some rows[j] := List.getElem?_eq_getElem hj'
      obtain ⟨e, er, ht⟩ := (hes.same s4).get gi
      rw [er] at c2
      cases Option.some.inj c2
      cases Option.some.inj c1
      have s5 : Same H4 (upd H4 T' (.tup [.int (j : Nat), .ref e])) :=
        sameNew nT
      have hT : (upd H4 T' (.tup [.int (j : Nat), .ref e])) T' =
        some (.tup [.int (j : Nat), .ref e]) := upd_same
      generalize (upd H4 T' (.tup [.int (j : Nat), .ref e])) = H5 at s5 hT ⊢
      have w5 := s5 _ _ w4
      have hx := x.wd.ixs _ (List.mem_map_of_mem (f := (·.1))
        (List.getElem_mem hj'))
      have tk : ixs (rows.take (j + 1)) = ixs (rows.take j) ++ [rows[j].1] := by
        rw [List.take_add_one, gi]
        exact List.map_append
      have pj : (prsOf ls (ixs rows))[j]? =
          some (nbr (run ls (ixs (rows.take j))) rows[j].1) := by
        have sp : ixs rows = ixs (rows.take j) ++ rows[j].1 ::
            ixs (rows.drop (j + 1)) := by
          have : rows = rows.take j ++ rows[j] :: rows.drop (j + 1) := by
            rw [← List.drop_eq_getElem_cons hj', List.take_append_drop]
          have e2 := congrArg ixs this
          rw [e2]
          unfold ixs
          rw [List.map_append, List.map_cons]
        have lt : (ixs (rows.take j)).length = j := by
          rw [List.length_map, List.length_take]; omega
        have := prsOf_get (ixs (rows.take j)) rows[j].1
          (ixs (rows.drop (j + 1))) ls
        rw [← sp, lt] at this
        exact this
      have ols : (run ls (ixs (rows.take j))).length = ls.length := run_len _ _
      have r1 : run ls (ixs (rows.take (j + 1))) =
          exch (run ls (ixs (rows.take j))) rows[j].1 := by
        rw [tk, run_snoc]
      rw [r1]
      have mm : ∀ y ∈ run ls (ixs (rows.take j)), y ∈ ls := fun y hy =>
        (Of.run (ixs (rows.take j)) ⟨x.good.nd, List.Perm.refl _⟩).pm.mem_iff.mp
          hy
      generalize run ls (ixs (rows.take j)) = os at w4 w5 pj ols mm ⊢
      have ht : H4 e = some (.tup [.int (rows[j].1 : Int), vS rows[j].2]) := ht
      generalize hp : rows[j].1 = a at hx pj ht ⊢
      have g0 := getD_map vS [] (show a < os.length by omega)
      have g1 := getD_map vS [] (show a + 1 < os.length by omega)
      have m0 := mm _ (getD_mem [] (show a < os.length by omega))
      have m1 := mm _ (getD_mem [] (show a + 1 < os.length by omega))
      have hS := SqL.of (K := K) w5
      refine ⟨T', _, rfl, .inl (.inl hT), rfl, _, _, rfl, _, _, rfl, rfl, ?_⟩
      refine ⟨_, rfl, e, _, 0, _, rfl, rfl, .inl (.inl (s5 _ _ ht)),
        atI_nat (j := 0) rfl, ?_⟩
      have u0 := (x.good.nm _ m0).uni
      have u1 := (x.good.nm _ m1).uni
      refine ⟨_, rfl, _, rfl, nw, _, _, _, rfl, rfl, hS, atI_nat (j := a) g0, _,
        rfl, _, rfl, _, _, rfl, rfl, nw, _, _, _, rfl, rfl, hS,
        atI_nat (j := a + 1) g1, sz (by simp), fun t1 n1 => ?_⟩
      have s6 : Same H5 (upd H5 t1 (.tup (vT (os.getD a [],
        os.getD (a + 1) [])))) := sameNew n1
      have h6 : (upd H5 t1 (.tup (vT (os.getD a [], os.getD (a + 1) [])))) t1 =
        some (.tup (vT (os.getD a [], os.getD (a + 1) []))) := upd_same
      generalize (upd H5 t1 (.tup (vT (os.getD a [], os.getD (a + 1) [])))) = H6
        at s6 h6 ⊢
      refine ⟨_, rfl, _, rfl, sz (by simp), fun t2 n2 => ?_⟩
      have s7 : Same H6 (upd H6 t2 (.tup (vT (m, l)))) := sameNew n2
      have h7 : (upd H6 t2 (.tup (vT (m, l)))) t2 =
        some (.tup (vT (m, l))) := upd_same
      generalize (upd H6 t2 (.tup (vT (m, l)))) = H7 at s7 h7 ⊢
      refine ⟨_, _, dp_T (s7 _ _ h6), dp_T h7, shaped_T u0 u1,
        shaped_T (x.good.nm m mR).uni (x.good.nm l mL).uni, _, rfl, ?_⟩
      rw [eqv_T]
      have s57 := (s5.trans s6).trans s7
      have sH := s4.trans s57
      by_cases d : (os.getD a [], os.getD (a + 1) []) = (m, l)
      · rw [decide_eq_true d]
        refine iteT ?_
        have ec : c = j := cj j (by rw [pj]; exact congrArg some d)
        subst ec
        have hE := SqL.of (K := K) (sH _ _ hen)
        refine ⟨_, rfl, _, rfl, c, rfl, en, _, rfl, hE, fun p1 n3 => ?_⟩
        rw [cut_to _ (by rw [List.length_map]; omega), ← List.map_take]
        have s8 : Same H7 (upd H7 p1 (.lst ((rs.take c).map V.ref))) :=
          sameNew n3
        have h8 : (upd H7 p1 (.lst ((rs.take c).map V.ref))) p1 =
          some (.lst ((rs.take c).map V.ref)) := upd_same
        generalize upd H7 p1 (.lst ((rs.take c).map V.ref)) = H8 at s8 h8 ⊢
        refine ⟨_, rfl, _, rfl, _, _, rfl, rfl, _, rfl, en, _, rfl, s8.seq hE,
          fun p2 n4 => ?_⟩
        rw [show (c : Int) + 1 = ((c + 1 : Nat) : Int) by omega,
          cut_from _ (by rw [List.length_map]; omega), ← List.map_drop]
        have s9 : Same H8 (upd H8 p2 (.lst ((rs.drop (c + 1)).map V.ref))) :=
          sameNew n4
        have h9 : (upd H8 p2 (.lst ((rs.drop (c + 1)).map V.ref))) p2 =
          some (.lst ((rs.drop (c + 1)).map V.ref)) := upd_same
        generalize upd H8 p2 (.lst ((rs.drop (c + 1)).map V.ref)) = H9
          at s9 h9 ⊢
        refine ⟨p1, p2, _, _, rfl, rfl, s9 _ _ h8, h9, ?_, fun p3 n5 => ?_⟩
        · rw [List.length_map, List.length_map, List.length_take,
            List.length_drop]
          exact sz (by omega)
        have s10 : Same H9 (upd H9 p3 (.lst ((rs.take c).map V.ref ++
          (rs.drop (c + 1)).map V.ref))) := sameNew n5
        have h10 : (upd H9 p3 (.lst ((rs.take c).map V.ref ++
          (rs.drop (c + 1)).map V.ref))) p3 = some (.lst ((rs.take c).map V.ref
          ++ (rs.drop (c + 1)).map V.ref)) := upd_same
        generalize (upd H9 p3 (.lst ((rs.take c).map V.ref ++
          (rs.drop (c + 1)).map V.ref))) = H10 at s10 h10 ⊢
        refine ⟨_, rfl, sz (by simp), fun t3 n6 => ?_⟩
        have s9' := (sH.trans s8).trans s9
        have s11 := (s9'.trans s10).trans (sameNew
          (o := .tup [.ref p3, .int (c : Nat)]) n6)
        refine q t3 p3 (rs.take c ++ rs.drop (c + 1)) _ (s9'.free n5) upd_same
          ?_ ?_ s11
        · rw [List.map_append]
          exact sameNew n6 _ _ h10
        · rw [List.eraseIdx_eq_take_drop_succ]
          exact EnsAt.app ((hes.drop (c + 1)).same s11)
            ((hes.take c).same s11)
      · rw [decide_eq_false d]
        refine iteF ?_
        have nj : c ≠ j := fun z => d (by
          have cg' := cg
          rw [z, pj] at cg'
          exact Option.some.inj cg')
        have w7 := s57 _ _ w4
        have hS7 := SqL.of (K := K) w7
        have ha1 : a + 1 < (os.map vS).length := by rw [List.length_map]; omega
        refine ⟨_, rfl, _, rfl, _, _, rfl, rfl, nw, _, _, (os.map vS)[a + 1],
          rfl, rfl, hS7, atI_nat (j := a + 1) (List.getElem?_eq_getElem ha1), _,
          rfl, _, rfl, nw, _, _, (os.map vS)[a], rfl, rfl, hS7,
          atI_nat (j := a) (List.getElem?_eq_getElem (by omega)), sz (by simp),
          fun t3 n3 => ?_⟩
        have ntr : nw ≠ t3 := ne_of_none w7 n3
        have h8 : (upd H7 t3 (.tup [(os.map vS)[a + 1], (os.map vS)[a]])) nw =
            some (.lst (os.map vS)) := by
          rw [upd_ne ntr]; exact w7
        refine ⟨t3, _, rfl, .inl (.inl upd_same), rfl, _, _, rfl, _, rfl, _,
          rfl, nw, _, a, a, rfl, rfl, h8, ?_, _, _, rfl, _, rfl, _, rfl, _,
          _, rfl, rfl, nw, _, a + 1, a + 1, rfl, rfl, upd_same, ?_, rfl, ?_⟩
        · unfold ixN
          rw [if_pos (by omega), if_pos (by omega), Int.toNat_natCast]
        · unfold ixN
          rw [List.length_set, if_pos (by omega), if_pos (by omega)]
          rfl
        refine ⟨_, _, _, rfl, ?_, by omega, ?_⟩
        · rw [upd_same, set_exch _ _ ha1, exch_map]
        · exact OM.Same.put (OM.Same.put ((sH).trans (sameNew n3)) nnw) nnw
    · rintro σ H4 ⟨y8, y9, y10, rfl, w4, jc, s4⟩
      rw [List.length_map] at jc
      omega
end
end OM
namespace OM
open PySem PySem.Spec PyProof.Rows L2
/-! ### what the top has left -/
structure DefAt (K : PySem.W.Frag) (mg : Str → Option Value) (x : Str)
    (st : Stmt) (ps : List Str) (f : Addr) (fd : FuncData) : Prop where
  fn : Fun K x x st f fd
  mg : mg x = some (.ref f)
  bd : Binds K fd ps []
  bt : ∀ (s : Shared) (us : List Value), us.length = ps.length →
    BindsTo s fd ⟨us, []⟩ (ps.zip us)
theorem defAt {K : PySem.W.Frag} {mg : Str → Option Value} {h : Heap}
    {x : Str} {st : Stmt} {ps : List Str} {f : Addr} {oc : Value}
    {od an : Option Addr} {sl : Array (Option Value)}
    {kV dc pm cv ct : Value} (X : K.In h) (G : h.Ns mainGlobals mg)
    (a : PySem.W.nsIn K mainGlobals x = some (some (.ref f)))
    (l : K.lookup f = some ⟨oc, od, .func (PySem.W.fnOf x x (defArgs st)
      (defBody st) (defScope st) .none kV dc pm an cv ct), sl⟩)
    (c : PySem.W.codeIn K cv x = true)
    (k : PySem.W.keepIn K (.ref f) = true)
    (b : ∀ (kV doc pm : Value) (an : Option Addr) (cdv ct : Value)
      (us : List Value), us.length = ps.length →
      bindArgs (PySem.W.fnOf x x (defArgs st) (defBody st) (defScope st)
        .none kV doc pm an cdv ct) ⟨us, []⟩ = pure (ps.zip us)) :
    ∃ fd, DefAt K mg x st ps f fd :=
  have F := fun_mk (st := st) l c k
  ⟨_, F, PySem.W.mg_of X G a, F.binds b,
    fun _ us hl => .of_eq (b _ _ _ _ _ _ us hl)⟩
structure MethAt (K : PySem.W.Frag) (C : Addr) (m q : Str) (st : Stmt)
    (ps : List Str) (f : Addr) (fd : FuncData) : Prop where
  fn : Fun K m q st f fd
  me : Meth K C m f
  bd : Binds K fd ps []
theorem methAt {K : PySem.W.Frag} {C : Addr}
    {m q : Str} {st : Stmt} {ps : List Str} {f : Addr} {oc : Value}
    {od an : Option Addr} {sl : Array (Option Value)}
    {kV dc pm cv ct : Value}
    (a : PySem.W.findIn K (.ref C) m = some (some (.ref f)))
    (i : PySem.W.isFn K (.ref f) = true)
    (l : K.lookup f = some ⟨oc, od, .func (PySem.W.fnOf m q (defArgs st)
      (defBody st) (defScope st) .none kV dc pm an cv ct), sl⟩)
    (c : PySem.W.codeIn K cv q = true)
    (k : PySem.W.keepIn K (.ref f) = true)
    (b : ∀ (kV doc pm : Value) (an : Option Addr) (cdv ct : Value)
      (us : List Value), us.length = ps.length →
      bindArgs (PySem.W.fnOf m q (defArgs st) (defBody st) (defScope st)
        .none kV doc pm an cdv ct) ⟨us, []⟩ = pure (ps.zip us)) :
    ∃ fd, MethAt K C m q st ps f fd :=
  have F := fun_mk (st := st) l c k
  ⟨_, F, ⟨a, i, k⟩, F.binds b⟩
section
variable {P : Program} {w : World} {K : PySem.W.Frag}
  {mg : Str → Option Value} {base : Heap} {C : Addr}
theorem DefAt.cal {k j : Nat} {x : Str} {st : Stmt} {ps : List Str} {f : Addr}
    {fd : FuncData} {sp : Sp} (D : DefAt K mg x st ps f fd)
    (G : FnOk P w K mg base CX0 j f fd ps sp) (h : j ≤ k) :
    Cal P w K mg base k x ps sp :=
  ⟨f, fd, G.mono h, D.mg, D.fn.kp, D.bd⟩
theorem FnG.up {j k : Nat} {f : Addr} {fd : FuncData} {ps : List Str} {sp : Sp}
    (F : FnG P w K mg base CX0 j f fd ps sp) (h : j ≤ k) :
    FnG P w K mg base CX0 k f fd ps sp :=
  ⟨F.len, fun A o s H ar us vs Q E r g e b v z =>
    F.run A o s H ar us vs Q E (r.mono h) g e b v z⟩
theorem DefAt.calG {k j : Nat} {x : Str} {st : Stmt} {ps : List Str} {f : Addr}
    {fd : FuncData} {sp : Sp} (D : DefAt K mg x st ps f fd)
    (G : FnG P w K mg base CX0 j f fd ps sp) (h : j ≤ k) :
    CalG P w K mg base k x ps sp :=
  ⟨f, fd, G.up h, D.mg, D.fn.kp, D.bd⟩
theorem MethAt.calM {k j : Nat} {m q : Str} {st : Stmt} {ps : List Str}
    {f : Addr} {fd : FuncData} {sp : Sp} (D : MethAt K C m q st ps f fd)
    (c : Cls K C) (G : FnOk P w K mg base CX0 j f fd ps sp) (h : j ≤ k) :
    CalM P w K mg base C k m ps sp :=
  ⟨c, f, fd, G.mono h, D.me, D.bd⟩
theorem MethAt.spec {m q : Str} {st : Stmt} {ps : List Str}
    {f : Addr} {fd : FuncData} (D : MethAt K C m q st ps f fd) :
    Spec1 K C m f fd ps := ⟨D.me.at_, D.me.fn, D.bd⟩
end
end OM
namespace OM
open PySem PySem.Spec PyProof.Rows L2
/-- a method whose last parameter is given by its name alone -/
structure MethKAt (K : PySem.W.Frag) (C : Addr) (m q kw : Str) (n : Nat)
    (st : Stmt) (ps : List Str) (f : Addr) (fd : FuncData) : Prop where
  fn : Fun K m q st f fd
  me : Meth K C m f
  kb : KBinds K fd ps [kw] (kwG n) (kwG n)
theorem methKAt {K : PySem.W.Frag} {C : Addr}
    {m q kw : Str} {n : Nat} {st : Stmt} {ps : List Str} {f : Addr} {oc : Value}
    {od an : Option Addr} {sl : Array (Option Value)}
    {kV dc pm cv ct : Value}
    (a : PySem.W.findIn K (.ref C) m = some (some (.ref f)))
    (i : PySem.W.isFn K (.ref f) = true)
    (l : K.lookup f = some ⟨oc, od, .func (PySem.W.fnOf m q (defArgs st)
      (defBody st) (defScope st) .none kV dc pm an cv ct), sl⟩)
    (c : PySem.W.codeIn K cv q = true)
    (k : PySem.W.keepIn K (.ref f) = true)
    (hp : 0 < ps.length)
    (b : ∀ (us : List Value) (z : Value), us.length = n →
      bindArgs (PySem.W.fnOf m q (defArgs st) (defBody st) (defScope st)
        .none kV dc pm an cv ct) ⟨us, [(kw, z)]⟩ = pure (ps.zip (us ++ [z]))) :
    ∃ fd, MethKAt K C m q kw n st ps f fd := by
  have F := fun_mk (st := st) l c k
  refine ⟨_, F, ⟨a, i, k⟩, ⟨?_, fun x y => kw_rel x y⟩⟩
  intro s us ws _ hl
  by_cases h : us.length = n ∧ ws.length = 1
  · obtain ⟨z, rfl⟩ := List.length_eq_one_iff.mp h.2
    have e : kwG n us [z] = us ++ [z] := if_pos h
    rw [e]
    exact .of_eq (b us z h.1)
  · have e : kwG n us ws = [] := if_neg h
    rw [e] at hl
    exact absurd hl (by rw [List.length_nil]; omega)
section
variable {P : Program} {w : World} {K : PySem.W.Frag}
  {mg : Str → Option Value} {base : Heap} {C : Addr}
theorem MethKAt.calMK {k j n : Nat} {m q kw : Str} {st : Stmt} {ps : List Str}
    {f : Addr} {fd : FuncData} {sp : Sp} (D : MethKAt K C m q kw n st ps f fd)
    (c : Cls K C) (G : FnOk P w K mg base CX0 j f fd ps sp) (h : j ≤ k) :
    CalMK P w K mg base C k m kw n ps sp :=
  ⟨c, f, fd, G.mono h, D.me, D.kb⟩
end
end OM
namespace OM
open PySem PySem.Spec PyProof.Rows L2
/-! ### a method whose last parameter has a default -/
structure CalMD (P : Program) (w : World) (K : PySem.W.Frag)
    (mg : Str → Option Value) (base : Heap) (C : Addr) (k : Nat) (x : Str)
    (ps : List Str) (dvs : List V) (sp : Sp) : Prop where
  cl : Cls K C
  ex : ∃ f fd ds, FnOk P w K mg base CX0 k f fd ps sp ∧ Meth K C x f ∧
    Binds K fd ps ds ∧ Vals dvs ds
section
variable {X : Cx} {k : Nat} {ps : List Str} {sp : Sp} {x : Str} {C : Addr}
  {p pos : Pos} {o e : Expr} {es : List Expr} {t : TA} {to : TE} {dvs : List V}
theorem pe_calMD {pl : Sem Bool}
    (M : CalMD X.prog X.w X.K X.mg X.base C k x ps dvs sp)
    (room : Room k X.A) (ho : PE X o to) (ha : PA X (e :: es) t)
    (h1 : starEach (e :: es) X.env =
      (false, eval e X.env) :: starEach es X.env := by rfl)
    (h2 : (backTo pos (starEach es X.env)).any (·.1) = false := by rfl)
    (h3 : eval (.Call (.Attribute o x p) (e :: es) [] pos) X.env = (do
      let ov ← eval o X.env
      standAt p.atName
      let (f, first) ← holding [ov] (getMethod ov x pl)
      callWith pos f first (backTo pos (starEach (e :: es) X.env))
        (backToKw pos (keywordEach [] X.env))) := by rfl) :
    PE X (.Call (.Attribute o x p) (e :: es) [] pos)
      (tMeth C x sp dvs E0 to t) := by
  obtain ⟨f, fd, ds, F, m, b, v⟩ := M.ex
  exact pe_meth (pl := pl) ho M.cl m F room b v pass0 ha h1 h2 h3
end
structure MethKDAt (K : PySem.W.Frag) (C : Addr) (m q kw : Str) (n : Nat)
    (st : Stmt) (ps : List Str) (f : Addr) (fd : FuncData) : Prop where
  k : MethKAt K C m q kw n st ps f fd
  bd : ∃ ds, Vals [vS []] ds ∧ Binds K fd ps ds
theorem methKDAt {K : PySem.W.Frag} {C D : Addr}
    {m q kw : Str} {n : Nat} {st : Stmt} {ps : List Str} {f : Addr} {oc : Value}
    {od an : Option Addr} {sl : Array (Option Value)} {t : Tok}
    {dc pm cv ct : Value}
    (a : PySem.W.findIn K (.ref C) m = some (some (.ref f)))
    (i : PySem.W.isFn K (.ref f) = true)
    (l : K.lookup f = some ⟨oc, od, .func (PySem.W.fnOf m q (defArgs st)
      (defBody st) (defScope st) .none (.ref D) dc pm an cv ct), sl⟩)
    (c : PySem.W.codeIn K cv q = true)
    (k : PySem.W.keepIn K (.ref f) = true)
    (hp : ps.length = n + 1)
    (hd : PySem.W.nsIn K D kw = some (some (.str (Str.ofString "") t)))
    (b : ∀ (us : List Value) (z : Value), us.length = n →
      bindArgs (PySem.W.fnOf m q (defArgs st) (defBody st) (defScope st)
        .none (.ref D) dc pm an cv ct) ⟨us, [(kw, z)]⟩ =
        pure (ps.zip (us ++ [z])))
    (b2 : ∀ (us : List Value) (z : Value), us.length = n →
      KwChain D [(kw, z)] (bindArgs (PySem.W.fnOf m q (defArgs st) (defBody st)
        (defScope st) .none (.ref D) dc pm an cv ct) ⟨us, []⟩)
        (ps.zip (us ++ [z]))) :
    ∃ fd, MethKDAt K C m q kw n st ps f fd := by
  have F := fun_mk (st := st) l c k
  refine ⟨_, ⟨F, ⟨a, i, k⟩, ⟨?_, fun x y => kw_rel x y⟩⟩, [.str (Str.ofString "") t],
    .cons ⟨_, rfl⟩ .nil, ?_⟩
  · intro s us ws _ hl
    by_cases h : us.length = n ∧ ws.length = 1
    · obtain ⟨z, rfl⟩ := List.length_eq_one_iff.mp h.2
      have e : kwG n us [z] = us ++ [z] := if_pos h
      rw [e]
      exact .of_eq (b us z h.1)
    · have e : kwG n us ws = [] := if_neg h
      rw [e] at hl
      exact absurd hl (by rw [List.length_nil]; omega)
  · intro s us X hl
    rw [List.length_append, hp] at hl
    have hn : us.length = n := by simpa using hl
    refine BindsTo.of_looks fun M => KwChain.looks X ?_ (b2 us _ hn)
    intro z hz
    rw [List.mem_singleton.mp hz]
    exact hd
section
variable {P : Program} {w : World} {K : PySem.W.Frag}
  {mg : Str → Option Value} {base : Heap} {C : Addr}
theorem MethKDAt.calMD {k j n : Nat} {m q kw : Str} {st : Stmt} {ps : List Str}
    {f : Addr} {fd : FuncData} {sp : Sp} (D : MethKDAt K C m q kw n st ps f fd)
    (c : Cls K C) (G : FnOk P w K mg base CX0 j f fd ps sp) (h : j ≤ k) :
    CalMD P w K mg base C k m ps [vS []] sp := by
  obtain ⟨ds, v, b⟩ := D.bd
  exact ⟨c, f, fd, ds, G.mono h, D.k.me, b, v⟩
end
end OM
namespace OM
open PySem PySem.Spec PyProof.Rows L2
section
variable {P : Program} {w : World} {K : PySem.W.Frag}
  {mg : Str → Option Value} {base : Heap}
theorem ok_begun {f : Addr} {fd : FuncData} {k : Nat}
    (F : Fun K "_law_begun" "_law_begun" s_Lbegun f fd) (B : Bl mg) :
    FnOk P w K mg base CX0 (k + 1) f fd ["_law_items"] spBegun := by
  refine F.ok sc_Lbegun (fun vs H Q E h => ?_)
    (fun cv A outer s H vs Q E hr h => ?_)
  · obtain ⟨it, ls, rfl, _⟩ := h
    rfl
  obtain ⟨it, ls, rfl, hit, hl, q⟩ := h
  refine ⟨_, pss_one (ps_ret (pe_disp (pps_cons pe_str (pv 0) (pps_cons pe_str
    (pe_callTy call_list_of (by rfl) B.list bt_list (pa_cons (pv 0) pa_nil))
    (pps_cons pe_str (pe_lst pa_nil) pps_nil))) (by rfl) (by rfl)
    (fun z => by cases z) (by decide))), ?_⟩
  intro p np
  have s1 : Same H (upd H p (.dK [])) := sameNew np
  have h1 : (upd H p (.dK [])) p = some (.dK []) := upd_same
  generalize upd H p (.dK []) = H1 at s1 h1 ⊢
  refine ⟨_, rfl, _, rfl, it, _, rfl, .inl (SqL.of (s1 _ _ hit)),
    fun od nod => ?_⟩
  have s2 : Same H1 (upd H1 od (.lst (ls.map vS))) := sameNew nod
  have h2 : (upd H1 od (.lst (ls.map vS))) od = some (.lst (ls.map vS)) :=
    upd_same
  generalize upd H1 od (.lst (ls.map vS)) = H2 at s2 h2 ⊢
  refine ⟨sz (by simp), fun en nen => ?_⟩
  have s3 : Same H2 (upd H2 en (.lst [])) := sameNew nen
  have h3 : (upd H2 en (.lst [])) en = some (.lst []) := upd_same
  generalize upd H2 en (.lst []) = H3 at s3 h3 ⊢
  have hp3 := s3 _ _ (s2 _ _ h1)
  refine ⟨hp3, [(kI, .ref it), (kO, .ref od), (kE, .ref en)], rfl,
    by show 3 ≤ 15; decide, ?_⟩
  rw [merge3]
  have s13 := (s1.trans s2).trans s3
  have bp : But p H3 (upd H3 p (.dK (st3 it od en))) := (But.refl H3).at
  refine q p en _ np ((s1.trans s2).free nen) ⟨od, [], upd_same, ?_, ?_, ?_,
    .nil⟩ (OM.Same.put s13 np)
  · exact bp _ _ (s13 _ _ hit) (ne_of (s13 _ _ hit) hp3 nofun)
  · exact bp _ _ (s3 _ _ h2) (ne_of (s3 _ _ h2) hp3 nofun)
  · exact bp _ _ h3 (ne_of h3 hp3 nofun)
theorem ok_done {f : Addr} {fd : FuncData} {k : Nat}
    (F : Fun K "_law_swap_done" "_law_swap_done" s_Lswap_done f fd)
    (Ce : Cal P w K mg base k "_law_swapped_entries" ["_law_items",
      "_law_entries", "_law_order", "_law_index", "_law_label_here"]
      spSwEnt) :
    FnOk P w K mg base CX0 (k + 1) f fd ["_law_state", "_law_at",
      "_law_label_here"] spDone := by
  refine F.ok sc_Lswap_done (fun vs H Q E h => ?_)
    (fun cv A outer s H vs Q E hr h => ?_)
  · obtain ⟨s, it, en, ls, rows, i, r, rfl, _⟩ := h
    rfl
  obtain ⟨sa, it, en, ls, rows, i, r, rfl, x, st, hi, hrs, q⟩ := h
  have nd := sc_Lswap_done.nd
  have hu := hu_of hr
  refine ⟨_, C8.pss_cut (ps_par (i := 3) (j := 4) (by rfl) nd rfl rfl
      (by decide) rfl rfl
      (pa_cons (pe_dget hu (pv 0) pe_str (fun _ _ => rfl))
        (pa_cons (pe_dget hu (pv 0) pe_str (fun _ _ => rfl)) pa_nil)) (by rfl))
    (C8.pss_cut (ps_asg (pe_cal Ce hr (pa_cons (pv 3) (pa_cons
        (pe_dget hu (pv 0) pe_str (fun _ _ => rfl)) (pa_cons (pv 4)
        (pa_cons (pv 1) (pa_cons (pv 2) pa_nil))))))
      (pg_tup rfl (pgs_cons (pg_name (i := 5) nd rfl (.inl rfl))
        (pgs_cons (pg_name (i := 6) nd rfl (.inl rfl)) pgs_nil))))
    (pss_cons (ps_dput hu (pv 0) pe_str (pv 5) rfl)
    (pss_cons (ps_dput hu (pv 0) pe_str (pe_op op_cat (pe_op op_cat
      (pe_slice sl_list (pv 4) po_none (po_some (pv 1)))
      (pe_lst (pa_cons (pe_ix ix_list (pv 4) (pe_op op_add (pv 1) pe_int)
          (fun _ _ => rfl))
        (pa_cons (pe_ix ix_list (pv 4) (pv 1) (fun _ _ => rfl)) pa_nil))))
      (pe_slice sl_list (pv 4) (po_some (pe_op op_add (pv 1) pe_int))
        po_none)) rfl)
    (pss_one (ps_ret (pv 6)))))), ?_⟩
  obtain ⟨od, rs, h1, h2, h3, h4, h5⟩ := st.ob
  have dgI : ∀ {H' : Hp} {od en : Addr}, H' sa = some (.dK (st3 it od en)) →
      DGet H' sa (.str (Str.ofString "items")) (some (.ref it)) := fun e => by
    have := DGet.k (k := kI) e
    rw [st3_I] at this
    exact this
  have dgO : ∀ {H' : Hp} {od en : Addr}, H' sa = some (.dK (st3 it od en)) →
      DGet H' sa (.str (Str.ofString "order")) (some (.ref od)) := fun e => by
    have := DGet.k (k := kO) e
    rw [st3_O] at this
    exact this
  have dgE : ∀ {H' : Hp} {od en : Addr}, H' sa = some (.dK (st3 it od en)) →
      DGet H' sa (.str (Str.ofString "entries")) (some (.ref en)) := fun e => by
    have := DGet.k (k := kE) e
    rw [st3_E] at this
    exact this
  have ol : (run ls (ixs rows)).length = ls.length := run_len _ _
  have h40 := x.good.hi
  obtain ⟨x', st2⟩ := x.step hi hrs
  refine ⟨fun σ' H' => σ' = [some (.ref sa), some (.int i), some (vS r),
    some (.ref it), some (.ref od), none, none] ∧ H = H', ?_, ?_⟩
  · exact ⟨_, rfl, sa, _, rfl, dgI h1, _, rfl, sa, _, rfl, dgO h1, _, _, rfl,
      rfl, rfl⟩
  rintro _ _ ⟨rfl, rfl⟩
  refine ⟨fun σ' H' => ∃ n rs', σ' = [some (.ref sa), some (.int i),
    some (vS r), some (.ref it), some (.ref od), some (.ref n),
    some (ansS ls rows i)] ∧ H n = none ∧ H' n = some (.lst (rs'.map V.ref)) ∧
    EnsAt H' rs' (rowsS ls rows i r) ∧ Same H H', ?_, ?_⟩
  · refine ⟨_, rfl, _, rfl, sa, _, rfl, dgE h1, _, rfl, _, rfl, _, rfl, it, en,
      od, ls, rows, rs, i, r, rfl, x, h2, h4, h5, h3, hi,
      fun t n rs' H1 nn ht hn hes s1 => ?_⟩
    exact ⟨t, _, rfl, .inl (.inl ht), rfl, _, _, rfl, _, _, rfl, rfl, n, rs',
      rfl, nn, hn, hes, s1⟩
  rintro _ H1 ⟨n, rs', rfl, nn, hn, hes, s1⟩
  have g1 := s1 _ _ h1
  have nsn : sa ≠ n := ne_of_none h1 nn
  refine ⟨_, rfl, _, rfl, sa, _, rfl, DPut.k (k := kE) g1 (by
    show 3 < sizeLine; decide), ?_⟩
  rw [put_E]
  have b2 : But sa H1 (upd H1 sa (.dK (st3 it od n))) := (But.refl H1).at
  have g2 : (upd H1 sa (.dK (st3 it od n))) sa =
    some (.dK (st3 it od n)) := upd_same
  generalize (upd H1 sa (.dK (st3 it od n))) = H2 at b2 g2 ⊢
  have o1 := s1 _ _ h3
  have hS : SqL K H2 od ((run ls (ixs rows)).map vS) :=
    SqL.of (b2 _ _ o1 (ne_of o1 g1 nofun))
  have i1 := s1 _ _ h2
  have it2 := b2 _ _ i1 (ne_of i1 g1 nofun)
  have n2 := b2 _ _ hn nsn.symm
  have e2 : EnsAt H2 rs' (rowsS ls rows i r) := hes.keep fun a xs e =>
    b2 _ _ e (ne_of e g1 nofun)
  generalize hos : run ls (ixs rows) = os at *
  have hil : i + 1 < (os.map vS).length := by rw [List.length_map]; omega
  refine ⟨_, rfl, _, rfl, i, rfl, od, _, rfl, hS, fun p1 n1 => ?_⟩
  rw [cut_to _ (by omega)]
  have s3 : Same H2 (upd H2 p1 (.lst ((os.map vS).take i))) := sameNew n1
  have k3 : (upd H2 p1 (.lst ((os.map vS).take i))) p1 =
    some (.lst ((os.map vS).take i)) := upd_same
  generalize upd H2 p1 (.lst ((os.map vS).take i)) = H3 at s3 k3 ⊢
  have hS3 := s3.seq hS
  refine ⟨_, rfl, _, rfl, _, _, rfl, rfl, od, _, _, (os.map vS)[i + 1], rfl, rfl,
    hS3, atI_nat (j := i + 1) (List.getElem?_eq_getElem hil), _, rfl, _, rfl,
    od, _, _, (os.map vS)[i], rfl, rfl, hS3, atI_nat (j := i)
    (List.getElem?_eq_getElem (by omega)), sz (by simp), fun p2 m2 => ?_⟩
  have s4 : Same H3 (upd H3 p2 (.lst [(os.map vS)[i + 1], (os.map vS)[i]])) :=
    sameNew m2
  have k4 : (upd H3 p2 (.lst [(os.map vS)[i + 1], (os.map vS)[i]])) p2 =
    some (.lst [(os.map vS)[i + 1], (os.map vS)[i]]) := upd_same
  generalize upd H3 p2 (.lst [(os.map vS)[i + 1], (os.map vS)[i]]) = H4
    at s4 k4 ⊢
  refine ⟨p1, p2, _, _, rfl, rfl, s4 _ _ k3, k4, ?_, fun p3 m3 => ?_⟩
  · rw [List.length_take]
    exact sz (by simp; omega)
  have s5 : Same H4 (upd H4 p3 (.lst ((os.map vS).take i ++
    [(os.map vS)[i + 1], (os.map vS)[i]]))) := sameNew m3
  have k5 : (upd H4 p3 (.lst ((os.map vS).take i ++
    [(os.map vS)[i + 1], (os.map vS)[i]]))) p3 =
    some (.lst ((os.map vS).take i ++
      [(os.map vS)[i + 1], (os.map vS)[i]])) := upd_same
  generalize upd H4 p3 (.lst ((os.map vS).take i ++
    [(os.map vS)[i + 1], (os.map vS)[i]])) = H5 at s5 k5 ⊢
  refine ⟨_, rfl, _, rfl, _, _, rfl, rfl, _, rfl, od, _, rfl,
    s5.seq (s4.seq hS3), fun p4 m4 => ?_⟩
  rw [show (i : Int) + 2 = ((i + 2 : Nat) : Int) by omega,
    cut_from _ (by omega)]
  have s6 : Same H5 (upd H5 p4 (.lst ((os.map vS).drop (i + 2)))) := sameNew m4
  have k6 : (upd H5 p4 (.lst ((os.map vS).drop (i + 2)))) p4 =
    some (.lst ((os.map vS).drop (i + 2))) := upd_same
  generalize upd H5 p4 (.lst ((os.map vS).drop (i + 2))) = H6 at s6 k6 ⊢
  refine ⟨p3, p4, _, _, rfl, rfl, s6 _ _ k5, k6, ?_, fun p5 m5 => ?_⟩
  · rw [List.length_append, List.length_take, List.length_drop]
    exact sz (by simp; omega)
  rw [← exch_eq hil, exch_map]
  have s7 : Same H6 (upd H6 p5 (.lst ((exch os i).map vS))) := sameNew m5
  have k7 : (upd H6 p5 (.lst ((exch os i).map vS))) p5 =
    some (.lst ((exch os i).map vS)) := upd_same
  generalize upd H6 p5 (.lst ((exch os i).map vS)) = H7 at s7 k7 ⊢
  have s27 := (((s3.trans s4).trans s5).trans s6).trans s7
  have g7 := s27 _ _ g2
  refine ⟨_, rfl, sa, _, rfl, DPut.k (k := kO) g7 (by
    show 3 < sizeLine; decide), ?_⟩
  rw [put_O]
  have b8 : But sa H7 (upd H7 sa (.dK (st3 it p5 n))) := (But.refl H7).at
  refine ⟨_, rfl, q n _ nn ⟨p5, rs', upd_same, ?_, ?_, ?_, ?_⟩ ?_⟩
  · have z := s27 _ _ it2
    exact b8 _ _ z (ne_of z g7 nofun)
  · rw [st2]
    exact b8 _ _ k7 (ne_of k7 g7 nofun)
  · exact b8 _ _ (s27 _ _ n2) nsn.symm
  · exact (e2.same s27).keep fun a xs e => b8 _ _ e (ne_of e g7 nofun)
  · exact fun y o e m => b8 _ _ (s27 _ _ (b2 _ _ (s1 _ _ e) m)) m
def spLabel : Sp := fun vs H Q _ => ∃ p : Addr, vs = [.ref p] ∧ Rng H p ∧
  ∀ (r : List Nat) (H' : Hp), Rsn r → Rng H' p → But p H H' → Q (vS r) H'
theorem ok_label {f : Addr} {fd : FuncData} {k : Nat}
    (F : Fun K "_law_label" "_law_label" s_Llabel f fd)
    (Cn : Cal P w K mg base k "_law_name" ["_law_rng_here", "_law_used"]
      (spName K))
    (Cc : Cal P w K mg base k "_law_choice" ["_law_rng_here", "_law_options"]
      (spChoice K)) :
    FnOk P w K mg base CX0 (k + 1) f fd ["_law_rng_here"] spLabel := by
  refine F.ok sc_Llabel (fun vs H Q E h => ?_)
    (fun cv A outer s H vs Q E hr h => ?_)
  · obtain ⟨p, rfl, _⟩ := h
    rfl
  obtain ⟨p, rfl, rg, q⟩ := h
  refine ⟨_, pss_one (ps_ret (pe_cal Cc hr (pa_cons (pv 0) (pa_cons
    (pe_lst (pa_cons pe_str (pa_cons pe_str (pa_cons pe_str (pa_cons pe_str
      (pa_cons (pe_cal Cn hr (pa_cons (pv 0) (pa_cons (pe_lst pa_nil) pa_nil)))
        pa_nil)))))) pa_nil)))), ?_⟩
  refine ⟨_, rfl, _, rfl, sz (by simp), fun u nu => ?_⟩
  have nup : u ≠ p := (rg.ne nu).symm
  refine ⟨p, u, [], rfl, rg.same (sameNew nu), SqL.of upd_same, nup, by simp,
    fun l H1 nl _ rg1 b1 => ⟨sz (by simp), fun t nt => ?_⟩⟩
  have ntp : t ≠ p := (rg1.ne nt).symm
  refine ⟨p, t, _, rfl, rg1.same (sameNew nt), SqL.of upd_same, ntp, by simp,
    by simp, fun y H2 hy rg2 b2 => ?_⟩
  obtain ⟨r, rfl, hr'⟩ : ∃ r, y = vS r ∧ Rsn r := by
    rcases List.mem_cons.mp hy with e | hy
    · exact ⟨[], e, .inl rfl⟩
    · rcases List.mem_cons.mp hy with e | hy
      · exact ⟨[], e, .inl rfl⟩
      · rcases List.mem_cons.mp hy with e | hy
        · obtain ⟨r, e2, n2⟩ := nm_of "x" (by decide +kernel)
          exact ⟨r, e.trans e2, .inr n2⟩
        · rcases List.mem_cons.mp hy with e | hy
          · obtain ⟨r, e2, n2⟩ := nm_of "urgent" (by decide +kernel)
            exact ⟨r, e.trans e2, .inr n2⟩
          · rw [List.mem_singleton.mp hy]
            exact ⟨l, rfl, .inr nl⟩
  refine q r H2 hr' rg2 ?_
  exact ((((But.refl H).put nu nup).trans b1).put nt ntp).trans b2
end
end OM
namespace OM
open PySem PySem.Spec PyProof.Rows L2
theorem sum_piled (ts : List Str) :
    (ts.map (·.length)).sum + 2 * ts.length = piled ts := by
  induction ts with
  | nil => rfl
  | cons t ts ih =>
    rw [piled_cons, List.map_cons, List.sum_cons, List.length_cons]
    omega
theorem shownN_le {ls : List (List Nat)} (g : Good ls) :
    (PyData.list (dN ls)).shown.length ≤ 4000 := by
  have e : (PyData.list (dN ls)).shown =
      listText (PyData.shownAll (dN ls)) := by simp only [PyData.shown]
  have p := piled_N ls 8 fun l h => ⟨(g.nm l h).hi, (g.nm l h).uni⟩
  have q := listText_len_le (PyData.shownAll (dN ls))
  rw [e]
  have r := sum_piled (PyData.shownAll (dN ls))
  have s : ls.length * (10 * 8 + 4) ≤ 40 * 84 :=
    Nat.mul_le_mul g.hi (Nat.le_refl _)
  omega
theorem shownE_le {rows : List En} (h : SmE rows) (hn : rows.length ≤ 1600) :
    (PyData.list (dEs rows)).shown.length ≤ 400000 := by
  have e : (PyData.list (dEs rows)).shown =
      listText (PyData.shownAll (dEs rows)) := by simp only [PyData.shown]
  have p := shown_EA rows h
  have q := listText_len_le (PyData.shownAll (dEs rows))
  rw [e]
  have r := sum_piled (PyData.shownAll (dEs rows))
  omega
theorem int1601 : ∀ i : Fin 1601, (PyData.int (i.val : Int)).showable = true ∧
    (PyData.int (i.val : Int)).shown.length ≤ 5 := by decide +kernel
/-- what a swap returns, as data -/
def ansD (ls : List (List Nat)) (rows : List En) (i : Nat) : PyData :=
  if outB ls (run ls (ixs rows)) i = true then .none
  else .int ((canJ ls (ixs rows) i : Nat) : Int)
theorem dp_ans {K : PySem.W.Frag} {H : Hp} {ls : List (List Nat)}
    {rows : List En} {i : Nat} : Dp K H (ansS ls rows i) (ansD ls rows i) := by
  unfold ansS ansD
  split
  · exact .non
  · exact .int _
theorem ans_ok {ls : List (List Nat)} {rows : List En} {i : Nat}
    (x : Rw ls rows) (hi : i + 1 < ls.length) :
    (ansD ls rows i).showable = true ∧ (ansD ls rows i).depth ≤ 60 ∧
      (ansD ls rows i).shown.length ≤ sizeLine := by
  unfold ansD
  cases ob : outB ls (run ls (ixs rows)) i with
  | true => rw [if_pos rfl]; decide +kernel
  | false =>
    rw [if_neg nofun]
    have cl := x.canLt hi ob
    have m := x.many
    obtain ⟨a, b⟩ := int1601 ⟨canJ ls (ixs rows) i, by omega⟩
    refine ⟨a, ?_, Nat.le_trans b (by decide)⟩
    simp only [PyData.depth]
    omega
section
variable {C L g ro b s it en p q : Addr} {H H' : Hp} {ls : List (List Nat)}
  {rows : List En}
theorem neRngR' {rs : List Addr} (r : Rng H p)
    (h : H q = some (.lst (rs.map V.ref))) : q ≠ p := by
  obtain ⟨a, b, e, _⟩ := r
  refine ne_of h e fun z => ?_
  have z' := HO.lst.inj z
  cases rs with
  | nil => cases z'
  | cons l r =>
    rw [List.map_cons] at z'
    cases (List.cons.inj z').1
theorem StAt.but (x : StAt H s it en ls rows) (r : Rng H p) (z : But p H H') :
    StAt H' s it en ls rows := by
  obtain ⟨od, rs, h1, h2, h3, h4, h5⟩ := x.ob
  have n2 := neRng r h2
  have n3 := neRng r h3
  have n4 := neRngR' r h4
  obtain ⟨i, j, e, _⟩ := r
  exact ⟨od, rs, z _ _ h1 (ne_of h1 e nofun), z _ _ h2 n2, z _ _ h3 n3,
    z _ _ h4 n4, h5.keep fun a xs h => z _ _ h (ne_of h e nofun)⟩
theorem StAt.but2 (x : StAt H s it en ls rows) {ms : List (List Nat)}
    {rows' : List En} (y : LogAt C L H g ro b ms rows') (ne : ls ≠ [])
    (n : en ≠ ro) (z : But2 g ro H H') : StAt H' s it en ls rows := by
  obtain ⟨od, rs, h1, h2, h3, h4, h5⟩ := x.ob
  obtain ⟨dx, cu, rs', k1, k2, k3, k4⟩ := y.ob
  have o2 := y.nms h2 ne
  have o3 := y.nms h3 (run_ne _ ne)
  exact ⟨od, rs, z _ _ h1 (ne_of h1 k1 nofun) (ne_of h1 k3 nofun),
    z _ _ h2 o2.g o2.ro, z _ _ h3 o3.g o3.ro,
    z _ _ h4 (ne_of h4 k1 nofun) n, y.ents z h5⟩
/-- a log stays where the law's state changes -/
theorem LogAt.butS (y : LogAt C L H g ro b ls rows) {od : Addr}
    (h : H s = some (.dK (st3 it od en))) (z : But s H H') :
    LogAt C L H' g ro b ls rows := by
  obtain ⟨dx, cu, rs, h1, h2, h3, h4⟩ := y.ob
  obtain ⟨dy, lo, d, z1, z2, z3⟩ := y.ba.ob
  refine ⟨⟨dx, cu, rs, z _ _ h1 (ne_of h1 h nofun), z _ _ h2 (ne_of h2 h nofun),
    z _ _ h3 (ne_of h3 h nofun),
    h4.keep fun a xs e => z _ _ e (ne_of e h nofun)⟩,
    ⟨dy, lo, d, z _ _ z1 (ne_of z1 h nofun), z _ _ z2 (ne_of z2 h nofun),
      z _ _ z3 (ne_of z3 h fun w => ?_)⟩, y.good, y.wd, y.rn⟩
  have w' := HO.dK.inj w
  have ne := y.good.ne
  cases ls with
  | nil => exact ne rfl
  | cons l r =>
    have w2 : (Sum.inr (SX.S l), V.int ((0 : Nat) : Int)) =
        ((kI : Key), V.ref it) := (List.cons.inj w').1
    exact absurd (congrArg Prod.snd w2) nofun
theorem Rng.butS (r : Rng H p) {od : Addr}
    (h : H s = some (.dK (st3 it od en))) (z : But s H H') : Rng H' p := by
  obtain ⟨i, j, e, w⟩ := r
  exact ⟨i, j, z _ _ e (ne_of e h nofun), w⟩
end
/-- a log and the law's state of it -/
structure Bth (C L : Addr) (H : Hp) (g ro b s it en : Addr)
    (ls : List (List Nat)) (rows : List En) : Prop where
  lg : LogAt C L H g ro b ls rows
  st : StAt H s it en ls rows
  ne : en ≠ ro
/-- all but four places are as they were -/
def But4 (p g ro s : Addr) (H H' : Hp) : Prop :=
  ∀ q o, H q = some o → q ≠ p → q ≠ g → q ≠ ro → q ≠ s → H' q = some o
def spSwapd (C L : Addr) : Sp := fun vs H Q _ =>
  ∃ (p g ro b s it en : Addr) (ls : List (List Nat)) (rows : List En),
  vs = [.ref p, .ref g, .ref s] ∧ Rng H p ∧ Bth C L H g ro b s it en ls rows ∧
  2 ≤ ls.length ∧ ∀ rows' en' H', Bth C L H' g ro b s it en' ls rows' →
    Rng H' p → But4 p g ro s H H' → Q (.bl true) H'
def spIs (C L : Addr) : Sp := fun vs H Q _ =>
  ∃ (g ro b s it en : Addr) (ls : List (List Nat)) (rows : List En),
  vs = [.ref g, .ref s] ∧ Bth C L H g ro b s it en ls rows ∧
  ∀ H', Same H H' → Q (.bl true) H'
theorem Bth.same {C L g ro b s it en : Addr} {H H' : Hp}
    {ls : List (List Nat)} {rows : List En}
    (x : Bth C L H g ro b s it en ls rows) (z : Same H H') :
    Bth C L H' g ro b s it en ls rows := ⟨x.lg.same z, x.st.same z, x.ne⟩
theorem Bth.but {C L g ro b s it en p : Addr} {H H' : Hp}
    {ls : List (List Nat)} {rows : List En}
    (x : Bth C L H g ro b s it en ls rows) (r : Rng H p) (z : But p H H') :
    Bth C L H' g ro b s it en ls rows := ⟨x.lg.but r z, x.st.but r z, x.ne⟩
/-- the data that is shown -/
def dSt (os ls : List (List Nat)) (rows : List En) : PyData :=
  .list [.list (dN os), .list (dEs rows), .int (rows.length : Int),
    .list (dN ls)]
theorem dSt_ok {os ls : List (List Nat)} {rows : List En} (g1 : Good os)
    (g2 : Good ls) (sm : SmE rows) (hn : rows.length ≤ 1600) :
    (dSt os ls rows).showable = true ∧ (dSt os ls rows).depth ≤ 60 ∧
      (dSt os ls rows).shown.length ≤ sizeLine := by
  obtain ⟨i1, i2⟩ := int1601 ⟨rows.length, by omega⟩
  have i1' : (PyData.int (rows.length : Int)).showable = true := i1
  have i2' : (PyData.int (rows.length : Int)).shown.length ≤ 5 := i2
  have a1 := showable_L os
  have a2 := showable_L ls
  have a3 := showable_E sm
  refine ⟨?_, ?_, ?_⟩
  · unfold dSt
    rw [show (PyData.list [.list (dN os), .list (dEs rows),
      .int (rows.length : Int), .list (dN ls)]).showable =
      ((PyData.list (dN os)).showable && ((PyData.list (dEs rows)).showable &&
      ((PyData.int (rows.length : Int)).showable &&
      ((PyData.list (dN ls)).showable && true)))) by
        simp only [PyData.showable, PyData.showableAll], a1, a2, a3, i1']
    rfl
  · have d1 := depth_L os
    have d2 := depth_L ls
    have d3 := depth_E rows
    unfold dSt
    rw [show (PyData.list [.list (dN os), .list (dEs rows),
      .int (rows.length : Int), .list (dN ls)]).depth =
      max (PyData.list (dN os)).depth (max (PyData.list (dEs rows)).depth
      (max (PyData.int (rows.length : Int)).depth
      (max (PyData.list (dN ls)).depth 0))) + 1 by
        simp only [PyData.depth, PyData.depthAll]]
    have d4 : (PyData.int (rows.length : Int)).depth ≤ 1 := by
      simp only [PyData.depth]
      omega
    omega
  · have b1 := shownN_le g1
    have b2 := shownN_le g2
    have b3 := shownE_le sm hn
    have e : (dSt os ls rows).shown = listText [(PyData.list (dN os)).shown,
        (PyData.list (dEs rows)).shown, (PyData.int (rows.length : Int)).shown,
        (PyData.list (dN ls)).shown] := by
      unfold dSt
      simp only [PyData.shown, PyData.shownAll]
    rw [e]
    have q := listText_len_le [(PyData.list (dN os)).shown,
        (PyData.list (dEs rows)).shown, (PyData.int (rows.length : Int)).shown,
        (PyData.list (dN ls)).shown]
    simp only [List.map_cons, List.map_nil, List.sum_cons, List.sum_nil,
      List.length_cons, List.length_nil] at q
    exact Nat.le_trans (show _ ≤ 410000 by omega) (by decide)
end OM
namespace OM
open PySem PySem.Spec PyProof.Rows L2
section
variable {P : Program} {w : World} {K : PySem.W.Frag}
  {mg : Str → Option Value} {base : Heap} {C L : Addr}
theorem ok_swapd {f : Addr} {fd : FuncData} {k : Nat}
    (F : Fun K "_law_swapped" "_law_swapped" s_Lswapped f fd) (B : Bl mg)
    (Cd : CalDraw P w K mg base k)
    (Cl : Cal P w K mg base k "_law_label" ["_law_rng_here"] spLabel)
    (Cs : Cal P w K mg base k "_law_swap_done" ["_law_state", "_law_at",
      "_law_label_here"] spDone)
    (Md : CalMD P w K mg base L k "swap" ["self", "index", "reason"] [vS []]
      (spSwapC C L))
    (Ms : CalMK P w K mg base L k "swap" "reason" 2
      ["self", "index", "reason"] (spSwapC C L)) :
    FnG P w K mg base CX0 (k + 1) f fd ["_law_rng_here", "_law_log",
      "_law_state"] (spSwapd C L) := by
  refine okG F sc_Lswapped (fun vs H Q E h => ?_)
    (fun cv A outer s H vs Q E hr gd h => ?_)
  · obtain ⟨p, g, ro, b, sa, it, en, ls, rows, rfl, _⟩ := h
    rfl
  obtain ⟨p, g, ro, b, sa, it, en, ls, rows, rfl, rg, x, l2, q⟩ := h
  have nd := sc_Lswapped.nd
  have hu := hu_of hr
  refine ⟨_, C8.pss_cut (ps_par (i := 3) (j := 4) (by rfl) nd rfl rfl
      (by decide) rfl rfl
      (pa_cons (pe_cal Cd hr (pa_cons (pv 0) (pa_cons (pe_op op_sub
          (pe_callB call_len_seq (by rfl) B.len PySem.boot_len (pa_cons
            (pe_dget hu (pv 2) pe_str (fun _ _ => rfl)) pa_nil)) pe_int)
          pa_nil)))
        (pa_cons (pe_cal Cl hr (pa_cons (pv 0) pa_nil)) pa_nil)) (by rfl))
    (C8.pss_cut (ps_set (i := 5) nd rfl (.inl rfl)
      (pe_cal Cs hr (pa_cons (pv 2) (pa_cons (pv 3) (pa_cons (pv 4) pa_nil)))))
    (C8.pss_cut (ps_set (i := 6) nd rfl (.inl rfl)
      (pe_ifExp (PW.pt (pw_and (pt_cmpR op_eq (pv 4) pe_str (nomark _))
          (pw_and1 (pt_cmpR op_eq (pe_cal Cd hr (pa_cons (pv 0)
            (pa_cons pe_int pa_nil))) pe_int (nomark _)))))
        (pe_calMD Md hr (pv 1) (pa_cons (pv 3) pa_nil))
        (pe_calMK Ms hr (pv 1) (pa_cons (pv 3) pa_nil)
          (pk_cons (pv 4) pk_nil))))
    (pss_one (ps_ret (pe_cmpR op_eq
      (pe_callB (call_reprD hr gd) (by rfl) B.repr bt_repr
        (pa_cons (pv 6) pa_nil))
      (pe_callB (call_reprD hr gd) (by rfl) B.repr bt_repr
        (pa_cons (pv 5) pa_nil)) (nomark _)))))), ?_⟩
  obtain ⟨od, rs, h1, h2, h3, h4, h5⟩ := x.st.ob
  have h40 := x.lg.good.hi
  -- where, and why
  refine ⟨fun σ' H' => ∃ (i : Nat) (r : List Nat), σ' = [some (.ref p),
    some (.ref g), some (.ref sa), some (.int i), some (vS r), none, none] ∧
    i + 1 < ls.length ∧ Rsn r ∧ Rng H' p ∧ But p H H', ?_, ?_⟩
  · refine ⟨_, rfl, _, rfl, sa, _, rfl, (by
        have := DGet.k (k := kO) h1
        rw [st3_O] at this
        exact this), od, _, rfl, .inl (SqL.of h3), _, _, rfl, rfl, p,
      (ls.length : Int) - 1, ?_, rg, by omega, by omega,
      fun d H1 d0 d1 rg1 b1 => ?_⟩
    · rw [List.length_map, run_len]
      rfl
    refine ⟨_, rfl, p, rfl, rg1, fun r H2 hrs rg2 b2 => ?_⟩
    refine ⟨_, _, rfl, d.toNat, r, ?_, by omega, hrs, rg2, b1.trans b2⟩
    rw [Int.toNat_of_nonneg d0]
    rfl
  rintro _ H1 ⟨i, r, rfl, hi, hrs, rg1, b1⟩
  have x1 := x.but rg b1
  -- the law's own
  refine ⟨fun σ' H' => ∃ en', σ' = [some (.ref p), some (.ref g), some (.ref sa),
    some (.int i), some (vS r), some (ansS ls rows i), none] ∧
    LogAt C L H' g ro b ls rows ∧ StAt H' sa it en' ls (rowsS ls rows i r) ∧
    en' ≠ ro ∧ Rng H' p ∧ But sa H1 H', ?_, ?_⟩
  · refine ⟨_, rfl, _, rfl, _, rfl, sa, it, en, ls, rows, i, r, rfl, x.lg.rw,
      x1.st, hi, hrs, fun en' H2 nen st2 b2 => ?_⟩
    obtain ⟨od1, rs1, k1, _⟩ := x1.st.ob
    obtain ⟨_, _, _, _, _, w3, _⟩ := x1.lg.ob
    exact ⟨en', rfl, x1.lg.butS k1 b2, st2, (ne_of_none w3 nen).symm,
      rg1.butS k1 b2, b2⟩
  rintro _ H2 ⟨en', rfl, lg2, st2, ne2, rg2, b2⟩
  -- the log's
  refine ⟨fun σ' H' => σ' = [some (.ref p), some (.ref g),
    some (.ref sa), some (.int i), some (vS r), some (ansS ls rows i),
    some (ansS ls rows i)] ∧
    Bth C L H' g ro b sa it en' ls (rowsS ls rows i r) ∧ Rng H' p ∧
    But4 p g ro sa H H', ?_, ?_⟩
  · -- both ways of calling do the same
    have key : ∀ {H3 H4 : Hp}, But p H2 H3 → Rng H3 p →
        LogAt C L H4 g ro b ls (rowsS ls rows i r) → But2 g ro H3 H4 →
        Bth C L H4 g ro b sa it en' ls (rowsS ls rows i r) ∧ Rng H4 p ∧
          But4 p g ro sa H H4 := by
      intro H3 H4 b3 rg3 x4 u4
      have lg3 := lg2.but rg2 b3
      have st3' := st2.but rg2 b3
      refine ⟨⟨x4, st3'.but2 lg3 x.lg.good.ne ne2 u4, ne2⟩,
        rg3.but2 (lg3.rng rg3) u4, ?_⟩
      intro y o e n1 n2 n3 n4
      exact u4 _ _ (b3 _ _ (b2 _ _ (b1 _ _ e n1) n4) n1) n2 n3
    have other : ∀ {H3 : Hp}, But p H2 H3 → Rng H3 p →
        tMethK L "swap" (spSwapC C L) (kwG 2) E0 (tVar 1)
          (tCons (tVar 3) tNil) (tCons (tVar 4) tNil)
          [some (.ref p), some (.ref g), some (.ref sa), some (.int i),
            some (vS r), some (ansS ls rows i), none] H3
          (fun v H' => gName 6 v [some (.ref p), some (.ref g), some (.ref sa),
            some (.int i), some (vS r), some (ansS ls rows i), none] H'
            fun σ' H' => σ' = [some (.ref p), some (.ref g),
              some (.ref sa), some (.int i), some (vS r),
              some (ansS ls rows i), some (ansS ls rows i)] ∧
              Bth C L H' g ro b sa it en' ls (rowsS ls rows i r) ∧ Rng H' p ∧
              But4 p g ro sa H H') := by
      intro H3 b3 rg3
      have lg3 := lg2.but rg2 b3
      obtain ⟨dx, cu, rs3, w1, w2, w3, w4⟩ := lg3.ob
      exact ⟨_, rfl, g, dx, _, rfl, w1, lf_no _ _ _ (by decide +kernel)
        (by decide +kernel) (by decide +kernel), _, rfl, _, rfl, g, ro, b, ls,
        rows, i, r, rfl, lg3, hi, hrs, fun H4 x4 u4 =>
          ⟨rfl, key b3 rg3 x4 u4⟩⟩
    refine ⟨_, rfl, rfl, _, rfl, ?_⟩
    by_cases c : V.str (SX.S r) = V.str (Str.ofString "")
    · have er : r = [] := SX.S_inj (V.str.inj c)
      rw [decide_eq_true c]
      refine iteT ⟨_, rfl, p, 2, rfl, rg2, by decide, by decide,
        fun d H3 d0 d1 rg3 b3 => ⟨rfl, _, rfl, ite2 (fun _ => ?_)
          (fun _ => other b3 rg3)⟩⟩
      have lg3 := lg2.but rg2 b3
      obtain ⟨dx, cu, rs3, w1, w2, w3, w4⟩ := lg3.ob
      subst er
      exact ⟨_, rfl, g, dx, _, rfl, w1, lf_no _ _ _ (by decide +kernel)
        (by decide +kernel) (by decide +kernel), _, rfl, g, ro, b, ls,
        rows, i, [], rfl, lg3, hi, .inl rfl, fun H4 x4 u4 =>
          ⟨rfl, key b3 rg3 x4 u4⟩⟩
    · rw [decide_eq_false c]
      exact iteF (other (But.refl H2) rg2)
  rintro _ H3 ⟨rfl, x3, rg3, b3⟩
  obtain ⟨a1, a2, a3⟩ := ans_ok x.lg.rw hi
  refine ⟨_, rfl, _, _, rfl, dp_ans, a1, a2, a3, _, rfl, _, _, rfl, dp_ans, a1,
    a2, a3, rfl, ?_⟩
  rw [decide_eq_true rfl]
  exact q _ _ H3 x3 rg3 b3
end
end OM
namespace OM
open PySem PySem.Spec PyProof.Rows L2
section
variable {P : Program} {w : World} {K : PySem.W.Frag}
  {mg : Str → Option Value} {base : Heap} {C L : Addr}
theorem ok_is {f fl : Addr} {fd fdl : FuncData} {k n : Nat}
    (F : Fun K "_law_is" "_law_is" s_Lis f fd) (B : Bl mg)
    (Sl : Spec1 K L "__len__" fl fdl ["self"])
    (Gl : FnOk P w K mg base CX0 n fl fdl ["self"] (spLLen C L))
    (hn : n + 1 ≤ k)
    (Mo : CalM P w K mg base L k "order" ["self"] (spLOrd C L))
    (Me : CalM P w K mg base L k "entries" ["self"] (spLEnt C L))
    (Mb : CalM P w K mg base L k "base" ["self"] (spLBase C L))
    (Mn : CalM P w K mg base C k "names" ["self"] (spGetNames C)) :
    FnG P w K mg base CX0 (k + 1) f fd ["_law_log", "_law_state"]
      (spIs C L) := by
  refine okG F sc_Lis (fun vs H Q E h => ?_)
    (fun cv A outer s H vs Q E hr gd h => ?_)
  · obtain ⟨g, ro, b, sa, it, en, ls, rows, rfl, _⟩ := h
    rfl
  obtain ⟨g, ro, b, sa, it, en, ls, rows, rfl, x, q⟩ := h
  have nd := sc_Lis.nd
  have hu := hu_of hr
  have hrn := hr.mono hn
  refine ⟨_, C8.pss_cut (ps_set (i := 2) nd rfl (.inl rfl) (pe_lst (pa_cons
      (pe_calM0 Mo hr (pv 0)) (pa_cons (pe_calM0 Me hr (pv 0)) (pa_cons
      (pe_callB (call_lenOwn Sl Gl hrn) (by rfl) B.len PySem.boot_len
        (pa_cons (pv 0) pa_nil)) (pa_cons
      (pe_calM0 Mn hr (pe_calM0 Mb hr (pv 0))) pa_nil))))))
    (pss_one (ps_ret (pe_cmpR op_eq
      (pe_callB (call_reprD hr gd) (by rfl) B.repr bt_repr
        (pa_cons (pv 2) pa_nil))
      (pe_callB (call_reprD hr gd) (by rfl) B.repr bt_repr (pa_cons
        (pe_lst (pa_cons (pe_dget hu (pv 1) pe_str (fun _ _ => rfl)) (pa_cons
          (pe_dget hu (pv 1) pe_str (fun _ _ => rfl)) (pa_cons
          (pe_callB call_len_seq (by rfl) B.len PySem.boot_len (pa_cons
            (pe_dget hu (pv 1) pe_str (fun _ _ => rfl)) pa_nil)) (pa_cons
          (pe_dget hu (pv 1) pe_str (fun _ _ => rfl)) pa_nil))))) pa_nil))
      (nomark _)))), ?_⟩
  obtain ⟨od, rs, h1, h2, h3, h4, h5⟩ := x.st.ob
  obtain ⟨dx, cu, rs', w1, w2, w3, w4⟩ := x.lg.ob
  have many := x.lg.many
  have lno : ∀ {b cu ro : Addr} {m : Str}, ¬ m = "ground" → ¬ m = "current" →
    ¬ m = "rows" → (lf b cu ro).lookup m = none := fun a b c => lf_no _ _ _ a b c
  obtain ⟨v1, v2, v3⟩ := dSt_ok (x.lg.good.perm x.lg.perm) x.lg.good x.lg.sme
    many
  refine ⟨fun σ' H' => ∃ t, σ' = [some (.ref g), some (.ref sa),
    some (.ref t)] ∧ Dp K H' (.ref t) (dSt (run ls (ixs rows)) ls rows) ∧
    Same H H', ?_, ?_⟩
  · refine ⟨_, rfl, g, dx, _, rfl, w1, lno (by decide +kernel)
      (by decide +kernel) (by decide +kernel), g, ro, b, ls, rows, rfl, x.lg,
      fun o H1 no ho s1 => ?_⟩
    refine ⟨_, rfl, g, dx, _, rfl, s1 _ _ w1, lno (by decide +kernel)
      (by decide +kernel) (by decide +kernel), g, ro, b, ls, rows, rfl,
      x.lg.same s1, fun e rs2 H2 ne he hes s2 => ?_⟩
    have s12 := s1.trans s2
    refine ⟨_, rfl, g, dx, _, rfl, s12 _ _ w1, g, ro, b, ls, rows, rfl,
      x.lg.same s12, rows.length, rfl, by omega, _, rfl, g, dx, _, rfl,
      s12 _ _ w1, lno (by decide +kernel) (by decide +kernel)
      (by decide +kernel), g, ro, b, ls, rows, rfl, x.lg.same s12, ?_⟩
    have ba := (x.lg.same s12).ba
    obtain ⟨dy, lo, d, z1, z2, z3⟩ := ba.ob
    refine ⟨b, dy, _, rfl, z1, bf_no _ _ (by decide +kernel)
      (by decide +kernel), b, ls, rfl, ba, fun nm H3 nnm hnm s3 => ?_⟩
    refine ⟨sz (by simp), fun t nt => ⟨t, rfl, ?_,
      (s12.trans s3).trans (sameNew nt)⟩⟩
    have s34 := s3.trans (sameNew (o := .lst [.ref o, .ref e,
      .int (rows.length : Nat), .ref nm]) nt)
    exact .lst (SqL.of upd_same) (.cons (dp_N (SqL.of (s34 _ _ (s2 _ _ ho))))
      (.cons (dp_Es (SqL.of (s34 _ _ he)) (hes.same s34)) (.cons (.int _)
      (.cons (dp_N (SqL.of (sameNew nt _ _ hnm))) .nil))))
  rintro _ H1 ⟨t, rfl, dt, s1⟩
  have g1 := s1 _ _ h1
  have dgO := DGet.k (k := kO) g1
  have dgE := DGet.k (k := kE) g1
  have dgI := DGet.k (k := kI) g1
  rw [st3_O] at dgO
  rw [st3_E] at dgE
  rw [st3_I] at dgI
  refine ⟨_, rfl, _, _, rfl, dt, v1, v2, v3, ?_⟩
  refine ⟨_, rfl, sa, _, rfl, dgO, _, rfl, sa, _, rfl, dgE, _, rfl, sa, _, rfl,
    dgE, en, _, rfl, .inl (SqL.of (s1 _ _ h4)), _, rfl, sa, _, rfl, dgI,
    sz (by simp), fun t2 n2 => ?_⟩
  rw [List.length_map, h5.len]
  have s2 := s1.trans (sameNew (o := .lst [.ref od, .ref en,
    .int (rows.length : Nat), .ref it]) n2)
  refine ⟨_, dSt (run ls (ixs rows)) ls rows, rfl, .lst (SqL.of upd_same)
    (.cons (dp_N (SqL.of (s2 _ _ h3))) (.cons (dp_Es (SqL.of (s2 _ _ h4))
      (h5.same s2)) (.cons (.int _) (.cons (dp_N (SqL.of (s2 _ _ h2)))
      .nil)))), v1, v2, v3, rfl, ?_⟩
  rw [decide_eq_true rfl]
  exact q _ s2
end
end OM
namespace OM
open PySem PySem.Spec PyProof.Rows L2
/-! ### lists of small numbers -/
abbrev dIs (ks : List Nat) : List PyData := ks.map fun (i : Nat) =>
  .int (i : Int)
theorem dpAll_I {K : PySem.W.Frag} {H : Hp} : ∀ ks : List Nat,
    DpAll K H (vIs ks) (dIs ks)
  | [] => .nil
  | _ :: r => .cons (.int _) (dpAll_I r)
theorem dp_I {K : PySem.W.Frag} {H : Hp} {a : Addr} {ks : List Nat}
    (h : SqL K H a (vIs ks)) : Dp K H (.ref a) (.list (dIs ks)) :=
  .lst h (dpAll_I ks)
theorem showable_IA : ∀ ks : List Nat, (∀ i ∈ ks, i < 1601) →
    PyData.showableAll (dIs ks) = true
  | [], _ => by simp [PyData.showableAll]
  | k :: r, h => by
    have ih := showable_IA r fun i hi => h i (List.mem_cons_of_mem _ hi)
    have a := (int1601 ⟨k, h k List.mem_cons_self⟩).1
    show PyData.showableAll (.int (k : Int) :: dIs r) = true
    rw [show PyData.showableAll (.int (k : Int) :: dIs r) =
      ((PyData.int (k : Int)).showable && PyData.showableAll (dIs r)) by
        simp only [PyData.showableAll], ih]
    rw [show (PyData.int (k : Int)).showable = true from a]
    rfl
theorem depth_IA : ∀ ks : List Nat, PyData.depthAll (dIs ks) ≤ 1
  | [] => by simp [PyData.depthAll]
  | k :: r => by
    have ih := depth_IA r
    show PyData.depthAll (.int (k : Int) :: dIs r) ≤ 1
    simp only [PyData.depthAll, PyData.depth]
    omega
theorem shown_IA : ∀ ks : List Nat, (∀ i ∈ ks, i < 1601) →
    piled (PyData.shownAll (dIs ks)) ≤ ks.length * 7
  | [], _ => by
    show piled (PyData.shownAll []) ≤ _
    simp only [PyData.shownAll]
    exact Nat.zero_le _
  | k :: r, h => by
    have ih := shown_IA r fun i hi => h i (List.mem_cons_of_mem _ hi)
    have a : (PyData.int (k : Int)).shown.length ≤ 5 :=
      (int1601 ⟨k, h k List.mem_cons_self⟩).2
    show piled (PyData.shownAll (.int (k : Int) :: dIs r)) ≤ _
    rw [show PyData.shownAll (.int (k : Int) :: dIs r) =
      (PyData.int (k : Int)).shown :: PyData.shownAll (dIs r) by
        simp only [PyData.shownAll], piled_cons, List.length_cons, Nat.add_mul]
    omega
theorem ints_ok {ks : List Nat} (h : ∀ i ∈ ks, i < 1601)
    (hn : ks.length ≤ 1600) : (PyData.list (dIs ks)).showable = true ∧
    (PyData.list (dIs ks)).depth ≤ 60 ∧
    (PyData.list (dIs ks)).shown.length ≤ sizeLine := by
  refine ⟨?_, ?_, ?_⟩
  · rw [show (PyData.list (dIs ks)).showable = PyData.showableAll (dIs ks) by
      simp only [PyData.showable]]
    exact showable_IA ks h
  · rw [show (PyData.list (dIs ks)).depth = PyData.depthAll (dIs ks) + 1 by
      simp only [PyData.depth]]
    have := depth_IA ks
    omega
  · have e : (PyData.list (dIs ks)).shown =
        listText (PyData.shownAll (dIs ks)) := by simp only [PyData.shown]
    have p := shown_IA ks h
    have q := listText_len_le (PyData.shownAll (dIs ks))
    rw [e]
    have r := sum_piled (PyData.shownAll (dIs ks))
    exact Nat.le_trans (show _ ≤ 20000 by omega) (by decide)
end OM
namespace OM
open PySem PySem.Spec PyProof.Rows L2
def spOas (C : Addr) : Sp := fun vs H Q _ =>
  ∃ (b a : Addr) (ls : List (List Nat)) (ws : List Nat),
  vs = [.ref b, .ref a] ∧ BaseAt C H b ls ∧ Good ls ∧
  H a = some (.lst (vIs ws)) ∧ Ixs ls.length ws ∧
  ∀ q H', H q = none → H' q = some (.lst ((run ls ws).map vS)) → Same H H' →
    Q (.ref q) H'
def spLAfter (C L : Addr) : Sp := fun vs H Q _ =>
  ∃ (g ro b : Addr) (ls : List (List Nat)) (rows : List En) (n : Nat),
  vs = [.ref g, .int n] ∧ LogAt C L H g ro b ls rows ∧ n ≤ rows.length ∧
  ∀ q H', H q = none →
    H' q = some (.lst ((run ls ((ixs rows).take n)).map vS)) → Same H H' →
    Q (.ref q) H'
def spClear (C L : Addr) : Sp := fun vs H Q _ =>
  ∃ (g ro b : Addr) (ls : List (List Nat)) (rows : List En), vs = [.ref g] ∧
  LogAt C L H g ro b ls rows ∧ ∀ ro' H', H ro' = none →
    LogAt C L H' g ro' b ls [] → But g H H' → Q .non H'
def logText (os : List (List Nat)) (rows : List En) : Str :=
  Str.empty ++ Str.ofString "SwapLog(" ++ (PyData.list (dN os)).shown ++
    Str.ofString ", " ++ (PyData.list (dEs rows)).shown ++ Str.ofString ")"
def spLRepr (C L : Addr) : Sp := fun vs H Q _ =>
  ∃ (g ro b : Addr) (ls : List (List Nat)) (rows : List En), vs = [.ref g] ∧
  LogAt C L H g ro b ls rows ∧
  Q (.str (logText (run ls (ixs rows)) rows)) H
section
variable {P : Program} {w : World} {K : PySem.W.Frag}
  {mg : Str → Option Value} {base : Heap} {C L : Addr}
theorem ok_oas {f : Addr} {fd : FuncData} {k : Nat}
    (F : Fun K "order_after_swaps" "order_after_swaps" s_order_after_swaps
      f fd)
    (Mn : CalM P w K mg base C k "names" ["self"] (spGetNames C))
    (Ce : Cal P w K mg base k "exchanged" ["order", "index"] (spExch K)) :
    FnOk P w K mg base CX0 (k + 1) f fd ["base", "indexes"] (spOas C) := by
  refine F.ok sc_order_after_swaps (fun vs H Q E h => ?_)
    (fun cv A outer s H vs Q E hr h => ?_)
  · obtain ⟨b, a, ls, ws, rfl, _⟩ := h
    rfl
  obtain ⟨b, a, ls, ws, rfl, hb, gd, ha, ix, q⟩ := h
  have nd := sc_order_after_swaps.nd
  refine ⟨_, pss_cons (ps_set (i := 2) nd rfl (.inl rfl)
      (pe_calM0 Mn hr (pv 0)))
    (pss_cons (ps_for PassesOwn.never rfl (pi_list (pv 1))
      (pg_name (i := 3) nd rfl (.inl rfl))
      (pss_one (ps_set (i := 2) nd rfl (.inl rfl)
        (pe_cal Ce hr (pa_cons (pv 2) (pa_cons (pv 3) pa_nil))))))
    (pss_one (ps_ret (pv 2)))), ?_⟩
  obtain ⟨dx, lo, d, h1, h2, h3⟩ := hb.ob
  refine ⟨_, rfl, b, dx, _, rfl, h1, bf_no _ _ (by decide +kernel)
    (by decide +kernel), b, ls, rfl, hb, fun o0 H1 no0 ho0 s1 => ?_⟩
  refine ⟨_, rfl, a, rfl, ⟨_, SqL.of (s1 _ _ ha)⟩, ?_⟩
  refine for_list (K := K) (a := a) (xs := vIs ws) (fun i σ H' =>
      ∃ (o : Addr) (y : Option V),
      σ = [some (.ref b), some (.ref a), some (.ref o), y] ∧ H o = none ∧
      H' o = some (.lst ((run ls (ws.take i)).map vS)) ∧ Same H H')
    ⟨o0, none, rfl, no0, ho0, s1⟩
    (fun i σ H' _ z => by
      obtain ⟨_, _, _, _, _, s⟩ := z
      exact SqL.of (s _ _ ha)) ?_ ?_
  · rintro i v σ H2 hv ⟨o, y, rfl, no, ho, s2⟩
    obtain ⟨m, hm, rfl⟩ : ∃ m : Nat, ws[i]? = some m ∧ v = .int (m : Int) := by
      rw [List.getElem?_map] at hv
      cases e : ws[i]? with
      | none => rw [e] at hv; cases hv
      | some m => rw [e] at hv; exact ⟨m, rfl, (Option.some.inj hv).symm⟩
    have mx := ix m (List.mem_of_getElem? hm)
    have ol : (run ls (ws.take i)).length = ls.length := run_len _ _
    refine ⟨_, rfl, _, rfl, o, _, m, rfl, SqL.of ho, ?_, ?_,
      fun o' H5 no' ho' s5 => ?_⟩
    · rw [List.length_map]; omega
    · rw [List.length_map, ol]
      have := gd.hi
      omega
    rw [exch_map] at ho'
    have tk : ws.take (i + 1) = ws.take i ++ [m] := by
      rw [List.take_add_one, hm]
      rfl
    refine ⟨o', _, rfl, s2.free no', ?_, s2.trans s5⟩
    rw [tk, run_snoc]
    exact ho'
  · rintro σ H2 ⟨o, y, rfl, no, ho, s2⟩
    rw [List.length_map, List.take_length] at ho
    exact ⟨_, rfl, q o H2 no ho s2⟩
theorem ok_lafter {f : Addr} {fd : FuncData} {k : Nat}
    (F : Fun K "order_after" "SwapLog.order_after" s_SwapLog_order_after f fd)
    (B : Bl mg) (T : LC K mg L)
    (Ci : Cal P w K mg base k "is_integer_from" ["value", "low", "high"]
      spIntFrom)
    (Co : Cal P w K mg base k "order_after_swaps" ["base", "indexes"]
      (spOas C))
    (Mi : CalM P w K mg base L k "indexes" ["self"] (spLIxs C L)) :
    FnOk P w K mg base CX0 (k + 1) f fd ["self", "count"]
      (spLAfter C L) := by
  refine F.ok sc_SwapLog_order_after (fun vs H Q E h => ?_)
    (fun cv A outer s H vs Q E hr h => ?_)
  · obtain ⟨g, ro, b, ls, rows, n, rfl, _⟩ := h
    rfl
  obtain ⟨g, ro, b, ls, rows, n, rfl, x, hn, q⟩ := h
  refine ⟨_, pss_cons (ps_if (pt_not (pt_val (pe_cal Ci hr (pa_cons (pv 1)
      (pa_cons pe_int (pa_cons (pe_callB call_len_seq (by rfl) B.len
        PySem.boot_len (pa_cons (pe_fld (pv 0) rfl) pa_nil)) pa_nil))))))
      (pss_one ps_never) pss_nil)
    (pss_one (ps_ret (pe_cal Co hr (pa_cons (pe_fld (pv 0) rfl) (pa_cons
      (pe_slice sl_list (pe_calM0 Mi hr (pv 0)) po_none (po_some (pv 1)))
      pa_nil))))), ?_⟩
  obtain ⟨dx, cu, rs, h1, h2, h3, h4⟩ := x.ob
  refine ⟨_, rfl, _, rfl, g, L, dx, _, _, rfl, h1, T.cl, T.nR, lf_rows _ _ _,
    ro, _, rfl, .inl (SqL.of h3), _, 0, _, rfl, _, rfl, ?_⟩
  rw [List.length_map, h4.len, decide_eq_true (show (0 : Int) ≤ (n : Int) by
    omega), decide_eq_true (show (n : Int) ≤ (rows.length : Int) by omega)]
  refine iteF ?_
  refine ⟨_, rfl, g, L, dx, _, _, rfl, h1, T.cl, T.nG, lf_ground _ _ _, _, rfl,
    g, dx, _, rfl, h1, lf_no _ _ _ (by decide +kernel) (by decide +kernel)
    (by decide +kernel), g, ro, b, ls, rows, rfl, x, fun ia H1 nia hia s1 => ?_⟩
  refine ⟨_, rfl, n, rfl, ia, _, rfl, SqL.of hia, fun t nt => ?_⟩
  rw [cut_to _ (by rw [List.length_map, List.length_map]; exact hn)]
  have e : (vIs (ixs rows)).take n = vIs ((ixs rows).take n) :=
    List.map_take.symm
  rw [e]
  have x1 := (x.same s1).same (sameNew (o := .lst (vIs ((ixs rows).take n))) nt)
  refine ⟨b, t, ls, (ixs rows).take n, rfl, x1.ba, x.good, upd_same, ?_,
    fun o H2 no ho s2 => ?_⟩
  · exact fun i hi => x.wd.ixs i (List.mem_of_mem_take hi)
  · have s12 := (s1.trans (sameNew (o := .lst (vIs ((ixs rows).take n))) nt))
    exact q o H2 (s12.free no) ho (s12.trans s2)
theorem ok_clear {f : Addr} {fd : FuncData} {k : Nat}
    (F : Fun K "clear_entries" "SwapLog.clear_entries"
      s_SwapLog_clear_entries f fd)
    (T : LC K mg L)
    (Mn : CalM P w K mg base C k "names" ["self"] (spGetNames C)) :
    FnOk P w K mg base CX0 (k + 1) f fd ["self"] (spClear C L) := by
  refine F.ok sc_SwapLog_clear_entries (fun vs H Q E h => ?_)
    (fun cv A outer s H vs Q E hr h => ?_)
  · obtain ⟨g, ro, b, ls, rows, rfl, _⟩ := h
    rfl
  obtain ⟨g, ro, b, ls, rows, rfl, x, q⟩ := h
  refine ⟨_, pss_cons (ps_fld (pv 0) (pe_calM0 Mn hr (pe_fld (pv 0) rfl)) rfl)
    (pss_one (ps_fld (pv 0) (pe_lst pa_nil) rfl)), ?_⟩
  obtain ⟨dx, cu, rs, h1, h2, h3, h4⟩ := x.ob
  obtain ⟨dy, lo, d, z1, z2, z3⟩ := x.ba.ob
  refine ⟨_, rfl, g, L, dx, _, _, rfl, h1, T.cl, T.nG, lf_ground _ _ _, b, dy,
    _, rfl, z1, bf_no _ _ (by decide +kernel) (by decide +kernel), b, ls, rfl,
    x.ba, fun o H1 no ho s1 => ?_⟩
  have ngo : g ≠ o := ne_of_none h1 no
  refine ⟨_, rfl, g, L, dx, _, rfl, s1 _ _ h1, T.cl, T.nC, lf_len _ _ _, ?_⟩
  rw [lf_setc]
  have u2 : But g H (upd H1 g (.ins L dx (lf b o ro))) := (But.of s1).at
  have g2 : (upd H1 g (.ins L dx (lf b o ro))) g =
    some (.ins L dx (lf b o ro)) := upd_same
  have o2 : (upd H1 g (.ins L dx (lf b o ro))) o =
    some (.lst (ls.map vS)) := by
    rw [upd_ne ngo.symm]; exact ho
  generalize (upd H1 g (.ins L dx (lf b o ro))) = H2 at u2 g2 o2 ⊢
  refine ⟨sz (by simp), fun e ne => ?_⟩
  have nge : g ≠ e := ne_of_none g2 ne
  have noe : o ≠ e := ne_of_none o2 ne
  refine ⟨_, rfl, g, L, dx, _, rfl, by rw [upd_ne nge]; exact g2, T.cl, T.nR,
    lf_len _ _ _, ?_⟩
  rw [lf_setr]
  have u3 : But g H (upd (upd H2 e (.lst [])) g (.ins L dx (lf b o e))) :=
    (u2.put ne nge.symm).at
  refine q e _ (u2.free nge.symm ne) ?_ u3
  refine x.swapIn (H2 := H2) h1 (fun y o' h n => u3 _ _ h n) upd_same
    (cu' := o) ?_ ?_ (rs' := []) .nil trivial nofun
  · rw [upd_ne ngo.symm, upd_ne noe]
    exact o2
  · rw [upd_ne nge.symm, upd_same]
    rfl
theorem ok_lrepr {f : Addr} {fd : FuncData} {k : Nat}
    (F : Fun K "__repr__" "SwapLog.__repr__" s_SwapLog_repr f fd)
    (T : LC K mg L) :
    FnG P w K mg base CX0 (k + 1) f fd ["self"] (spLRepr C L) := by
  refine okG F sc_SwapLog_repr (fun vs H Q E h => ?_)
    (fun cv A outer s H vs Q E hr gd h => ?_)
  · obtain ⟨g, ro, b, ls, rows, rfl, _⟩ := h
    rfl
  obtain ⟨g, ro, b, ls, rows, rfl, x, q⟩ := h
  obtain ⟨dx, cu, rs, h1, h2, h3, h4⟩ := x.ob
  refine ⟨_, pss_one (ps_ret (pe_joined (.cons pe_str (.cons
    (pe_fmtD hr gd (pe_fld (pv 0) rfl)) (.cons pe_str (.cons
    (pe_fmtD hr gd (pe_fld (pv 0) rfl)) (.cons pe_str .nil))))))), ?_⟩
  have go := x.good.perm x.perm
  have m := x.many
  have b1 := shownN_le go
  have b2 := shownE_le x.sme m
  have l3 : (Str.ofString "SwapLog(").length = 8 := by decide +kernel
  have l4 : (Str.ofString ")").length = 1 := by decide +kernel
  have l5 : (Str.empty).length = 0 := by decide +kernel
  have l7 : (Str.ofString ", ").length = 2 := by decide +kernel
  have l6 : 410000 ≤ sizeLine := by decide
  refine ⟨_, rfl, ?_, _, rfl, g, L, dx, _, _, rfl, h1, T.cl, T.nC,
    lf_current _ _ _, cu, _, rfl, dp_N (SqL.of h2), showable_L _,
    Nat.le_trans (depth_L _) (by decide), Nat.le_trans b1 (by decide), _, rfl, ?_, _, rfl, ?_, _,
    rfl, g, L, dx, _, _, rfl, h1, T.cl, T.nR, lf_rows _ _ _, ro, _, rfl,
    dp_Es (SqL.of h3) h4, showable_E x.sme,
    Nat.le_trans (depth_E _) (by decide), shown_E x.sme (by omega), _, rfl, ?_,
    _, rfl, ?_, q⟩
  · rw [strLen_append]
    omega
  · rw [strLen_append, strLen_append]
    omega
  · rw [strLen_append, strLen_append, strLen_append]
    omega
  · rw [strLen_append, strLen_append, strLen_append, strLen_append]
    omega
  · rw [strLen_append, strLen_append, strLen_append, strLen_append,
      strLen_append]
    omega
end
end OM
namespace OM
open PySem PySem.Spec PyProof.Rows L2
theorem filter_one {j : Nat} {f : Nat → Bool} : ∀ n,
    (∀ k, k < n → (f k = true ↔ k = j)) →
    (List.range n).filter f = if j < n then [j] else []
  | 0, _ => rfl
  | n + 1, h => by
    have ih := filter_one (j := j) (f := f) n fun k hk => h k (by omega)
    rw [List.range_succ, List.filter_append, ih]
    by_cases e : n = j
    · subst e
      rw [if_neg (Nat.lt_irrefl _), if_pos (Nat.lt_succ_self _),
        List.filter_cons_of_pos ((h n (Nat.lt_succ_self _)).mpr rfl)]
      rfl
    · have nf : ¬ f n = true := fun z => e ((h n (Nat.lt_succ_self _)).mp z)
      rw [List.filter_cons_of_neg nf, List.filter_nil, List.append_nil]
      by_cases c : j < n
      · rw [if_pos c, if_pos (by omega)]
      · rw [if_neg c, if_neg (by omega)]
theorem filter_none {f : Nat → Bool} : ∀ n, (∀ k, k < n → f k = false) →
    (List.range n).filter f = []
  | 0, _ => rfl
  | n + 1, h => by
    have ih := filter_none (f := f) n fun k hk => h k (by omega)
    rw [List.range_succ, List.filter_append, ih,
      List.filter_cons_of_neg (by rw [h n (Nat.lt_succ_self _)]; nofun)]
    rfl
/-- is the entry there one of two items -/
def dueB (ps : List Pr) (l m : List Nat) (k : Nat) : Bool :=
  decide ((l, m) = ps.getD k ([], [])) || (decide ((m, l) = ps.getD k ([], []))
    || false)
/-- where the entries of two items are -/
def dueL (ps : List Pr) (l m : List Nat) (n : Nat) : List Nat :=
  (List.range n).filter (dueB ps l m)
def entL (ls : List (List Nat)) (rows : List En) (l m : List Nat) : List Nat :=
  if pairOf ls l m ∈ prsOf ls (ixs rows) then
    [(prsOf ls (ixs rows)).idxOf (pairOf ls l m)] else []
theorem dueB_iff {ls : List (List Nat)} {rows : List En} (x : Rw ls rows)
    {l m : List Nat} {k : Nat} (hk : k < (prsOf ls (ixs rows)).length) :
    dueB (prsOf ls (ixs rows)) l m k = true ↔
      (prsOf ls (ixs rows))[k]? = some (pairOf ls l m) := by
  have gk := List.getElem?_eq_getElem hk
  have gd : (prsOf ls (ixs rows)).getD k ([], []) =
      (prsOf ls (ixs rows))[k] := by
    rw [List.getD_eq_getElem?_getD, gk]; rfl
  have hm := (x.rep.mem _).mp (List.getElem_mem hk)
  unfold dueB
  rw [gd, gk]
  generalize (prsOf ls (ixs rows))[k] = p at hm
  obtain ⟨a, c⟩ := p
  have lt : ls.idxOf a < ls.idxOf c := hm.2.2.1
  rw [Bool.or_false, Bool.or_eq_true, decide_eq_true_eq, decide_eq_true_eq]
  unfold pairOf
  constructor
  · rintro (e | e)
    · cases e
      rw [if_pos lt]
    · cases e
      rw [if_neg (by omega)]
  · intro e
    split at e
    · cases Option.some.inj e
      exact .inl rfl
    · cases Option.some.inj e
      exact .inr rfl
theorem due_eq {ls : List (List Nat)} {rows : List En} (x : Rw ls rows)
    {l m : List Nat} : dueL (prsOf ls (ixs rows)) l m
      (prsOf ls (ixs rows)).length = entL ls rows l m := by
  unfold dueL entL
  by_cases c : pairOf ls l m ∈ prsOf ls (ixs rows)
  · have il := List.idxOf_lt_length_of_mem c
    rw [if_pos c, filter_one (j := (prsOf ls (ixs rows)).idxOf (pairOf ls l m))
      _ fun k hk => ?_, if_pos il]
    rw [dueB_iff x hk]
    constructor
    · intro h
      exact (idx_of x.rep.nd h).symm
    · rintro rfl
      rw [List.getElem?_eq_getElem hk, List.getElem_idxOf hk]
  · rw [if_neg c, filter_none _ fun k hk => ?_]
    cases e : dueB (prsOf ls (ixs rows)) l m k with
    | false => rfl
    | true =>
      have := (dueB_iff x hk).mp e
      exact absurd (List.mem_of_getElem? this) c
def entD (ls : List (List Nat)) (rows : List En) (l m : List Nat) : PyData :=
  if pairOf ls l m ∈ prsOf ls (ixs rows) then
    .int (((prsOf ls (ixs rows)).idxOf (pairOf ls l m) : Nat) : Int) else .none
theorem dp_ent {K : PySem.W.Frag} {H : Hp} {ls : List (List Nat)}
    {rows : List En} {l m : List Nat} :
    Dp K H (entV ls rows l m) (entD ls rows l m) := by
  unfold entV entD
  split
  · exact .int _
  · exact .non
theorem ent_ok {ls : List (List Nat)} {rows : List En} (x : Rw ls rows)
    {l m : List Nat} : (entD ls rows l m).showable = true ∧
    (entD ls rows l m).depth ≤ 60 ∧
    (entD ls rows l m).shown.length ≤ sizeLine := by
  unfold entD
  by_cases c : pairOf ls l m ∈ prsOf ls (ixs rows)
  · rw [if_pos c]
    have cl := List.idxOf_lt_length_of_mem c
    rw [prsOf_len, List.length_map] at cl
    have mm := x.many
    obtain ⟨a, b⟩ := int1601 ⟨(prsOf ls (ixs rows)).idxOf (pairOf ls l m), by
      omega⟩
    refine ⟨a, ?_, Nat.le_trans b (by decide)⟩
    simp only [PyData.depth]
    omega
  · rw [if_neg c]
    decide +kernel
/-- the first of them, or none -/
theorem ent_first {ls : List (List Nat)} {rows : List En} {l m : List Nat} :
    atI (vIs (entL ls rows l m) ++ [.non]) 0 = some (entV ls rows l m) := by
  unfold entL entV
  split
  · exact atI_nat (j := 0) rfl
  · exact atI_nat (j := 0) rfl
theorem ent_same {ls : List (List Nat)} {rows : List En} (x : Rw ls rows)
    (l : List Nat) : entL ls rows l l = [] := by
  unfold entL
  rw [if_neg fun z => ?_]
  have h := ((x.rep.mem _).mp z).2.2.1
  unfold pairOf at h
  rw [if_neg (Nat.lt_irrefl _)] at h
  exact Nat.lt_irrefl _ h
theorem perm_inv {ls : List (List Nat)} {rows : List En} (x : Rw ls rows) :
    (prsOf ls (ixs rows)).Perm (invAll ls (run ls (ixs rows))) :=
  (List.perm_ext_iff_of_nodup x.rep.nd (rep_inv x.good.nd).nd).mpr fun p =>
    (x.rep.mem p).trans ((rep_inv x.good.nd).mem p).symm
end OM
namespace OM
open PySem PySem.Spec PyProof.Rows L2
/-! laws that are all(_law_right(_law_rng(script, k)) for k in range(..)) -/
def spLaw (K : PySem.W.Frag) : Sp := fun vs H Q _ =>
  ∃ (a : Addr) (ns : List Int), vs = [.ref a] ∧ SqL K H a (ns.map V.int) ∧
  ns.length ≤ 63 ∧ ∀ H', Q (.bl true) H'
def spRight : Sp := fun vs H Q _ => ∃ p : Addr, vs = [.ref p] ∧ Rng H p ∧
  ∀ H', Rng H' p → But p H H' → Q (.bl true) H'
section
variable {P : Program} {w : World} {K : PySem.W.Frag}
  {mg : Str → Option Value} {base : Heap}
theorem ok_lawAll {f : Addr} {fd : FuncData} {k : Nat}
    (F : Fun K "law" "law" s_law f fd) (B : Bl mg)
    (Cr : Cal P w K mg base k "_law_rng" ["_law_script", "_law_k"] (spRng K))
    (Cx : CalG P w K mg base k "_law_right" ["_law_rng_here"] spRight) :
    FnG P w K mg base CX0 (k + 1) f fd ["_law_script"] (spLaw K) := by
  refine okG F sc_law (fun vs H Q E h => ?_)
    (fun cv A outer s H vs Q E hr gd h => ?_)
  · obtain ⟨a, ns, rfl, _⟩ := h
    rfl
  obtain ⟨a, ns, rfl, hS, hlen, q⟩ := h
  have nd := sc_law.nd
  refine ⟨_, pss_one (ps_ret (pe_callB (cr_all rfl) (by rfl) B.all bt_all
    (pa_cons (pe_lc (own := [("_law_k", 1)]) (g := gName 1) (tt := tYes) rfl nd
      (pi_range1 (by rfl) B.range (pa_cons
        (pe_callB (call_max2 rfl) (by rfl) B.max bt_max (pa_cons pe_int (pa_cons
          (pe_callB (call_min2 rfl) (by rfl) B.min bt_min (pa_cons
            (pe_callB call_len_seq (by rfl) B.len PySem.boot_len
              (pa_cons (pv 0) pa_nil)) (pa_cons pe_int pa_nil))) pa_nil)))
        pa_nil))
      (blkOk_by (N := N_law) (sc := defScope s_law) (by decide +kernel))
      (fun _ _ _ _ _ => pg_name (i := 1) nd rfl (Or.inl rfl))
      (fun _ _ _ _ _ => pts_nil)
      (fun _ _ _ _ _ => pe_calG Cx hr gd (pa_cons
        (pe_cal Cr hr (pa_cons (pv 0) (pa_cons (pv 1) pa_nil))) pa_nil)))
      pa_nil))), ?_⟩
  refine ⟨_, rfl, a, _, rfl, .inl hS, _, _, rfl, _, _, rfl, _, rfl, ?_, ?_,
    fun D nD => ?_⟩
  · rw [List.length_map]
    split <;> split <;> omega
  · rw [List.length_map]
    split <;> split <;> omega
  generalize hn : (Int.toNat _) = n
  have n4 : n ≤ 1000 := by
    rw [← hn, List.length_map]
    split <;> split <;> omega
  clear hn
  refine lc_range (lo := 0) (n := n) (fun j H' =>
    H' D = some (.lst ((List.replicate j true).map V.bl)) ∧ Same H H')
    ⟨upd_same, sameNew nD⟩ ?_ ?_
  · rintro j H1 hj ⟨hD, s1⟩
    refine ⟨rfl, yes ⟨_, rfl, _, rfl, a, ns, j, ?_, s1.seq hS, by omega,
      fun p H2 np rg2 s2 => ⟨p, rfl, rg2, fun H3 rg3 b3 => ?_⟩⟩⟩
    · rw [Int.zero_add]
      rfl
    have nDp : D ≠ p := ne_of_none hD np
    have sb : Same H1 H3 := fun y o e =>
      b3 y o (s2 y o e) (ne_of_none e np)
    refine ⟨_, sb _ _ hD, ?_, ?_, ?_⟩
    · rw [List.length_map, List.length_replicate]
      exact sz' (by omega)
    · rw [upd_same, List.replicate_succ', List.map_append]
      rfl
    · exact OM.Same.put (s1.trans sb) nD
  · rintro H1 ⟨hD, s1⟩
    refine ⟨D, _, rfl, SqL.of hD, ?_⟩
    rw [show (List.replicate n true).all id = true by
      rw [List.all_eq_true]
      intro x hx
      exact List.eq_of_mem_replicate hx]
    exact q H1
end
end OM
namespace OM
open PySem PySem.Spec PyProof.Rows L2
/-! ### entries that are right make a log -/
def spIsEnt (C : Addr) : Sp := fun vs H Q _ =>
  ∃ (b t : Addr) (ls : List (List Nat)) (e : En), vs = [.ref b, .ref t] ∧
  BaseAt C H b ls ∧ ls.length ≤ 40 ∧ H t = some (.tup (vE e)) ∧
  e.1 + 1 < ls.length ∧ Rsn e.2 ∧ ∀ H', Same H H' → Q (.bl true) H'
def spLFrom (C L : Addr) : Sp := fun vs H Q _ =>
  ∃ (b a : Addr) (ls : List (List Nat)) (rs : List Addr) (rows : List En),
  vs = [.ref b, .ref a] ∧ BaseAt C H b ls ∧ Rw ls rows ∧
  H a = some (.lst (rs.map V.ref)) ∧ EnsAt H rs rows ∧
  ∀ g ro H', H g = none → H ro = none → LogAt C L H' g ro b ls rows →
    Same H H' → Q (.ref g) H'
theorem bt_tupD : bootBuiltins "tuple" = some (.type "tuple") := by
  decide +kernel
theorem Wd.at {ls : List (List Nat)} : ∀ {ws : List Nat}
    {os : List (List Nat)} {i e : Nat}, Wd ls os ws → ws[i]? = some e →
    outB ls (run os (ws.take i)) e = true
  | [], _, _, _, _, he => by simp at he
  | _ :: _, _, 0, _, h, he => by cases he; exact h.2.1
  | _ :: _, _, i + 1, _, h, he => Wd.at (i := i) h.2.2 (by simpa using he)
/-- each entry is outward where it is performed -/
theorem Rw.outs {ls : List (List Nat)} {rows : List En} (x : Rw ls rows)
    {i : Nat} {e : En} (he : rows[i]? = some e) :
    outB ls (run ls (ixs (rows.take i))) e.1 = true := by
  have h : (ixs rows)[i]? = some e.1 := by
    rw [List.getElem?_map, he]
    rfl
  have := x.wd.at h
  rw [← List.map_take] at this
  exact this
section
variable {P : Program} {w : World} {K : PySem.W.Frag}
  {mg : Str → Option Value} {base : Heap} {C L : Addr}
theorem ok_isent {f : Addr} {fd : FuncData} {k : Nat}
    (F : Fun K "is_entry" "is_entry" s_is_entry f fd) (B : Bl mg)
    (zt : mg "tuple" = none)
    (Ci : Cal P w K mg base k "is_swap_index" ["base", "value"] (spSwapIx C))
    (Cr : Cal P w K mg base k "is_reason" ["value"] spIsRsn) :
    FnOk P w K mg base CX0 (k + 1) f fd ["base", "value"] (spIsEnt C) := by
  refine F.ok sc_is_entry (fun vs H Q E h => ?_)
    (fun cv A outer s H vs Q E hr h => ?_)
  · obtain ⟨b, t, ls, e, rfl, _⟩ := h
    rfl
  obtain ⟨b, t, ls, e, rfl, hb, hl, ht, hi, hrs, q⟩ := h
  obtain ⟨i, r⟩ := e
  have hT : SqT K H t (vE (i, r)) := .inl (.inl ht)
  refine ⟨_, pss_cons (ps_if (PW.pt (pw_or (pt_not (pt_val
      (pe_callB call_isi (by rfl) B.isi bt_isi (pa_cons (pv 1) (pa_cons
        (pe_bltn (v := .ty "tuple") (by rfl) zt bt_tupD rfl) pa_nil)))))
      (pw_or1 (pt_cmpR op_ne (pe_callB call_len_seq (by rfl) B.len
        PySem.boot_len (pa_cons (pv 1) pa_nil)) pe_int (nomark _)))))
      (pss_one ps_never) pss_nil)
    (pss_one (ps_ret (pe_and (pe_cal Ci hr (pa_cons (pv 0) (pa_cons
        (pe_ix ix_tup (pv 1) pe_int (fun _ _ => rfl)) pa_nil)))
      (pe_one (pe_cal Cr hr (pa_cons (pe_ix ix_tup (pv 1) pe_int
        (fun _ _ => rfl)) pa_nil)))))), ?_⟩
  refine ⟨_, rfl, _, _, _, _, true, rfl, .ty "tuple", .base (.tup ht),
    kit_ty (by decide +kernel), _, rfl, iteF ?_⟩
  refine ⟨_, rfl, t, _, rfl, .inr hT, rfl, _, rfl, iteF ?_⟩
  refine ⟨_, rfl, _, rfl, t, _, _, .int i, rfl, rfl, hT, atI_nat (j := 0) rfl,
    b, ls, i, rfl, hb, hl, ?_⟩
  rw [decide_eq_true (show (0 : Int) ≤ (i : Int) by omega),
    decide_eq_true (show (i : Int) ≤ (ls.length : Int) - 2 by
      have : i + 1 < ls.length := hi
      omega)]
  refine ⟨_, rfl, iteT ?_⟩
  exact ⟨_, rfl, t, _, _, vS r, rfl, rfl, hT, atI_nat (j := 1) rfl, r, rfl, hrs,
    fun H1 s1 => q H1 s1⟩
theorem ok_lfrom {f : Addr} {fd : FuncData} {k : Nat}
    (F : Fun K "log_from_entries" "log_from_entries" s_log_from_entries f fd)
    (B : Bl mg)
    (Cl : CalC P w K mg base L k "SwapLog" ["self", "base"] (spLInit C L))
    (Ce : Cal P w K mg base k "is_entry" ["base", "value"] (spIsEnt C))
    (Cg : Cal P w K mg base k "goes_outward" ["base", "order", "index"]
      (spOut C))
    (Mo : CalM P w K mg base L k "order" ["self"] (spLOrd C L))
    (Ms : CalM P w K mg base L k "swap_checked" ["self", "index", "reason"]
      (spSwapC C L)) :
    FnOk P w K mg base CX0 (k + 2) f fd ["base", "entries"]
      (spLFrom C L) := by
  refine F.ok sc_log_from_entries (fun vs H Q E h => ?_)
    (fun cv A outer s H vs Q E hr1 h => ?_)
  · obtain ⟨b, a, ls, rs, rows, rfl, _⟩ := h
    rfl
  obtain ⟨b, a, ls, rs, rows, rfl, hb, x, ha, hes, q⟩ := h
  have nd := sc_log_from_entries.nd
  have hr := hr1.mono (Nat.le_succ k)
  refine ⟨_, pss_cons (ps_if (pt_not (pt_val
      (pe_callB call_isi (by rfl) B.isi bt_isi (pa_cons (pv 1) (pa_cons
        (pe_bltn (v := .ty "list") (by rfl) B.list bt_list rfl) pa_nil)))))
      (pss_one ps_never) pss_nil)
    (C8.pss_cut (ps_set (i := 2) nd rfl (.inl rfl)
      (pe_calC Cl hr1 (pa_cons (pv 0) pa_nil)))
    (pss_cons (ps_for PassesOwn.never rfl
      (pi_enum (by rfl) B.enum (pa_cons (pv 1) pa_nil))
      (pg_tup rfl (pgs_cons (pg_name (i := 3) nd rfl (.inl rfl))
        (pgs_cons (pg_name (i := 4) nd rfl (.inl rfl)) pgs_nil)))
      (pss_cons (ps_if (PW.pt (pw_or (pt_not (pt_val
          (pe_cal Ce hr (pa_cons (pv 0) (pa_cons (pv 4) pa_nil)))))
          (pw_or1 (pt_not (pt_val (pe_cal Cg hr (pa_cons (pv 0) (pa_cons
            (pe_calM0 Mo hr (pv 2)) (pa_cons (pe_ix ix_tup (pv 4) pe_int
              (fun _ _ => rfl)) pa_nil)))))))))
        (pss_one ps_never) pss_nil)
      (pss_one (ps_expr (pe_calM Ms hr (pv 2) (pa_cons
        (pe_ix ix_tup (pv 4) pe_int (fun _ _ => rfl)) (pa_cons
        (pe_ix ix_tup (pv 4) pe_int (fun _ _ => rfl)) pa_nil)))))))
    (pss_one (ps_ret (pv 2))))), ?_⟩
  have h40 := x.good.hi
  have lrs := hes.len
  refine ⟨_, rfl, _, _, _, _, true, rfl, .ty "list", .base (.lst ha),
    kit_ty (by decide +kernel), _, rfl, iteF ?_⟩
  refine ⟨fun σ' H' => ∃ g ro, σ' = [some (.ref b), some (.ref a),
    some (.ref g), none, none] ∧ H g = none ∧ H ro = none ∧
    LogAt C L H' g ro b ls [] ∧ Same H H', ?_, ?_⟩
  · refine ⟨_, rfl, fun g dx ng nx ne => ?_⟩
    have s0 : Same H (upd (upd H dx (.own g)) g (.ins L dx [])) :=
      OM.Same.put (sameNew nx) ng
    refine ⟨g, b, dx, ls, rfl, upd_same, hb.same s0, x.good,
      fun ro H1 nro x1 b1 => ⟨rfl, g, ro, rfl, ng, s0.free nro, x1, ?_⟩⟩
    exact fun y o e => b1 y o (s0 y o e) (ne_of_none e ng)
  rintro _ H1 ⟨g, ro, rfl, ng, nro, x1, s1⟩
  have keep : ∀ {H' H'' : Hp}, Same H H' → But2 g ro H' H'' → Same H H'' :=
    fun s z y o e => z y o (s y o e) (ne_of_none e ng) (ne_of_none e nro)
  refine ⟨_, rfl, a, _, rfl, SqL.of (s1 _ _ ha), ?_⟩
  refine for_it (walk_enum (K := K) (a := a) (xs := rs.map V.ref))
    (fun i σ H' => ∃ (y z : Option V), σ = [some (.ref b), some (.ref a),
      some (.ref g), y, z] ∧ LogAt C L H' g ro b ls (rows.take i) ∧ Same H H')
    ⟨none, none, rfl, x1, s1⟩
    (fun i σ H' _ z => by obtain ⟨_, _, _, _, h⟩ := z; exact SqL.of (h _ _ ha))
    ?_ ?_
  · rintro i v σ H2 H3 hi ⟨y, z, rfl, x2, s2⟩ ⟨T, v1, v2, rfl, nT, rfl, e1, e2⟩
    cases Option.some.inj e1
    rw [List.length_map] at hi
    obtain ⟨e, he⟩ : ∃ e, rows[i]? = some e :=
      ⟨_, List.getElem?_eq_getElem (show i < rows.length by omega)⟩
    obtain ⟨t, ht, hte⟩ := hes.get he
    have e3 : (rs.map V.ref)[i]? = some v2 := e2
    rw [List.getElem?_map, ht] at e3
    cases Option.some.inj e3
    have s3 : Same H2 (upd H2 T (.tup [.int (i : Nat), .ref t])) := sameNew nT
    have k3 : (upd H2 T (.tup [.int (i : Nat), .ref t])) T =
      some (.tup [.int (i : Nat), .ref t]) := upd_same
    generalize upd H2 T (.tup [.int (i : Nat), .ref t]) = H3 at s3 k3 ⊢
    have s03 := s2.trans s3
    have x3 := x2.same s3
    have me : e ∈ rows := List.mem_of_getElem? he
    have ie : e.1 + 1 < ls.length := x.wd.ixs e.1 (List.mem_map_of_mem me)
    have re := x.rn e me
    have ob := x.outs he
    refine ⟨T, _, rfl, .inl (.inl k3), rfl, _, _, rfl, _, _, rfl, rfl, ?_⟩
    refine ⟨_, rfl, _, rfl, b, t, ls, e, rfl, hb.same s03, h40, s03 _ _ hte, ie,
      re, fun H4 s4 => ⟨_, rfl, iteF ?_⟩⟩
    have x4 := x3.same s4
    have t4 := s4 _ _ (s03 _ _ hte)
    obtain ⟨dx, cu, rs4, w1, w2, w3, w4⟩ := x4.ob
    refine ⟨_, rfl, _, rfl, g, dx, _, rfl, w1, lf_no _ _ _ (by decide +kernel)
      (by decide +kernel) (by decide +kernel), g, ro, b, ls, _, rfl, x4,
      fun o H5 no ho s5 => ?_⟩
    have x5 := x4.same s5
    have t5 := s5 _ _ t4
    have T5 : SqT K H5 t (vE e) := .inl (.inl t5)
    refine ⟨_, rfl, t, _, _, .int e.1, rfl, rfl, T5, atI_nat (j := 0) rfl, b, o,
      ls, _, e.1, rfl, ⟨x5.ba, x.good, ho, x5.perm⟩, by rw [x5.oLen]; exact ie,
      fun H6 s6 => ?_⟩
    rw [ob]
    refine ⟨_, rfl, iteF ?_⟩
    have x6 := x5.same s6
    have t6 := s6 _ _ t5
    have T6 : SqT K H6 t (vE e) := .inl (.inl t6)
    obtain ⟨dx, cu, rs6, w1, w2, w3, w4⟩ := x6.ob
    refine ⟨_, rfl, g, dx, _, rfl, w1, lf_no _ _ _ (by decide +kernel)
      (by decide +kernel) (by decide +kernel), _, rfl, t, _, _, .int e.1, rfl,
      rfl, T6, atI_nat (j := 0) rfl, _, rfl, t, _, _, vS e.2, rfl, rfl, T6,
      atI_nat (j := 1) rfl, g, ro, b, ls, _, e.1, e.2, rfl, x6, ie, re,
      fun H7 x7 b7 => ?_⟩
    refine ⟨_, _, rfl, ?_, keep (((s03.trans s4).trans s5).trans s6) b7⟩
    have er : rowsS ls (rows.take i) e.1 e.2 = rows.take (i + 1) := by
      unfold rowsS
      rw [ob, if_pos rfl, List.take_add_one, he]
      rfl
    rw [er] at x7
    exact x7
  · rintro σ H2 ⟨y, z, rfl, x2, s2⟩
    rw [List.length_map, lrs, List.take_length] at x2
    exact ⟨_, rfl, q g ro H2 ng nro x2 s2⟩
end
end OM
namespace OM
open PySem PySem.Spec PyProof.Rows L2
/-! ### == of bases and of logs, whatever stands on the other side -/
def spEqBX (K : PySem.W.Frag) (C : Addr) : Sp := fun vs H Q _ =>
  ∃ (b : Addr) (ls : List (List Nat)) (v : V), vs = [.ref b, v] ∧
  BaseAt C H b ls ∧ Good ls ∧
  ((∃ o ms, v = .ref o ∧ BaseAt C H o ms ∧ Good ms ∧
      Q (.bl (decide (ls = ms))) H) ∨
   (∃ t, TyOf K H v t ∧ PySem.W.kitOne K t (.ref C) = some false ∧
      Q (.bl false) H))
def spEqL (K : PySem.W.Frag) (C L : Addr) : Sp := fun vs H Q _ =>
  ∃ (g ro b : Addr) (ls : List (List Nat)) (rows : List En) (v : V),
  vs = [.ref g, v] ∧ LogAt C L H g ro b ls rows ∧
  ((∃ g' ro' b' ms rows', v = .ref g' ∧ LogAt C L H g' ro' b' ms rows' ∧
      Q (.bl (decide (ls = ms) && decide (rows = rows'))) H) ∨
   (∃ t, TyOf K H v t ∧ PySem.W.kitOne K t (.ref L) = some false ∧
      Q (.bl false) H))
section
variable {P : Program} {w : World} {K : PySem.W.Frag}
  {mg : Str → Option Value} {base : Heap} {C L : Addr}
theorem ty_ins {K : PySem.W.Frag} {C a dx : Addr} {H : Hp}
    {fs : List (Str × V)} (c : C8.InsC K C) (e : H a = some (.ins C dx fs)) :
    TyOf K H (.ref a) (.ref C) := .ins e c.cl c.ha c.hn c.htk c.hm
theorem ok_eqBX {f : Addr} {fd : FuncData} {k : Nat}
    (F : Fun K "__eq__" "Base.__eq__" s_Base_eq f fd) (B : Bl mg)
    (T : BC K mg C) :
    FnOk P w K mg base CX0 (k + 1) f fd ["self", "other"] (spEqBX K C) := by
  refine F.ok sc_Base_eq (fun vs H Q E h => ?_)
    (fun cv A outer s H vs Q E hr h => ?_)
  · obtain ⟨b, ls, v, rfl, _⟩ := h
    rfl
  obtain ⟨b, ls, v, rfl, hb, gl, h⟩ := h
  obtain ⟨dx, lo, d, h1, h2, h3⟩ := hb.ob
  refine ⟨_, pss_one (ps_ret (pe_and
    (pe_callB call_isi (by rfl) B.isi bt_isi (pa_cons (pv 1)
      (pa_cons (pe_glob (v := .ref C) (by rfl) T.mgC rfl) pa_nil)))
    (pe_one (pe_cmpR (op_eqD hr.units) (pe_fld (pv 0) rfl) (pe_fld (pv 1) rfl)
      (nomark _))))), ?_⟩
  rcases h with ⟨o, ms, rfl, ho, gm, q⟩ | ⟨t, ty, kt, q⟩
  · obtain ⟨dy, mo, e, g1, g2, g3⟩ := ho.ob
    refine ⟨_, rfl, _, _, _, _, true, rfl, .own C, .base (ty_ins T.ic g1),
      T.ic.me, _, rfl, iteT ?_⟩
    refine ⟨_, rfl, b, C, dx, _, _, rfl, h1, T.cl, T.nL, bf_listed _ _, _, rfl,
      o, C, dy, _, _, rfl, g1, T.cl, T.nL, bf_listed _ _, _, _,
      dp_N (SqL.of h2), dp_N (SqL.of g2), shaped_L gl.uni, shaped_L gm.uni, ?_⟩
    rw [eqv_L]
    exact q
  · exact ⟨_, rfl, _, _, _, _, false, rfl, .own C, .base ty, kt, _, rfl, iteF q⟩
theorem ok_eqL {f fb : Addr} {fd fdb : FuncData} {k n : Nat}
    (F : Fun K "__eq__" "SwapLog.__eq__" s_SwapLog_eq f fd) (B : Bl mg)
    (T : LC K mg L) (Sb : Spec1 K C "__eq__" fb fdb ["self", "other"])
    (Gb : FnOk P w K mg base CX0 n fb fdb ["self", "other"] (spEqBX K C))
    (hn : n + 1 ≤ k) :
    FnOk P w K mg base CX0 (k + 1) f fd ["self", "other"] (spEqL K C L) := by
  refine F.ok sc_SwapLog_eq (fun vs H Q E h => ?_)
    (fun cv A outer s H vs Q E hr h => ?_)
  · obtain ⟨g, ro, b, ls, rows, v, rfl, _⟩ := h
    rfl
  obtain ⟨g, ro, b, ls, rows, v, rfl, x, h⟩ := h
  obtain ⟨dx, cu, rs, h1, h2, h3, h4⟩ := x.ob
  have hrn := hr.mono (Nat.le_of_succ_le hn)
  refine ⟨_, pss_one (ps_ret (pe_and
    (pe_callB call_isi (by rfl) B.isi bt_isi (pa_cons (pv 1)
      (pa_cons (pe_glob (v := .ref L) (by rfl) T.mgL rfl) pa_nil)))
    (pe_and (pe_cmpR (op_eqOwn Sb Gb hrn) (pe_fld (pv 0) rfl)
      (pe_fld (pv 1) rfl) (nomark _))
    (pe_one (pe_cmpR (op_eqD hr.units) (pe_fld (pv 0) rfl) (pe_fld (pv 1) rfl)
      (nomark _)))))), ?_⟩
  rcases h with ⟨g', ro', b', ms, rows', rfl, y, q⟩ | ⟨t, ty, kt, q⟩
  · obtain ⟨dy, cv, rt, g1, g2, g3, g4⟩ := y.ob
    obtain ⟨bx, _, _, b1, _, _⟩ := x.ba.ob
    obtain ⟨by', _, _, b2, _, _⟩ := y.ba.ob
    refine ⟨_, rfl, _, _, _, _, true, rfl, .own L, .base (ty_ins T.ic g1),
      T.ic.me, _, rfl, iteT ?_⟩
    refine ⟨_, rfl, g, L, dx, _, _, rfl, h1, T.cl, T.nG, lf_ground _ _ _, _,
      rfl, g', L, dy, _, _, rfl, g1, T.cl, T.nG, lf_ground _ _ _, b, b', bx, by',
      _, _, rfl, rfl, b1, b2, b, ls, _, rfl, x.ba, x.good, .inl ⟨b', ms, rfl,
      y.ba, y.good, _, rfl, _, rfl, ite2 (fun c => ?_) (fun c => ?_)⟩⟩
    · have e : ls = ms := of_decide_eq_true c
      refine ⟨_, rfl, g, L, dx, _, _, rfl, h1, T.cl, T.nR, lf_rows _ _ _, _,
        rfl, g', L, dy, _, _, rfl, g1, T.cl, T.nR, lf_rows _ _ _, _, _,
        dp_Es (SqL.of h3) h4, dp_Es (SqL.of g3) g4, shaped_E x.sme,
        shaped_E y.sme, ?_⟩
      rw [eqv_E]
      rw [decide_eq_true e, Bool.true_and] at q
      exact q
    · have e : ¬ ls = ms := fun z => c (decide_eq_true z)
      rw [decide_eq_false e, Bool.false_and] at q
      exact q
  · exact ⟨_, rfl, _, _, _, _, false, rfl, .own L, .base ty, kt, _, rfl, iteF q⟩
end
end OM
namespace OM
open PySem PySem.Spec PyProof.Rows L2
/-! ### what changes, and what it leaves alone -/
/-- an object that may change: a list of objects, a rng, a log, a state -/
def Loud (H : Hp) (q : Addr) : Prop :=
  (∃ rs : List Addr, H q = some (.lst (rs.map V.ref))) ∨ Rng H q ∨
  (∃ L dx b cu ro, H q = some (.ins L dx (lf b cu ro))) ∨
  (∃ it od en, H q = some (.dK (st3 it od en)))
theorem Loud.tup {H : Hp} {q a : Addr} {xs : List V} (l : Loud H q)
    (h : H a = some (.tup xs)) : a ≠ q := by
  rcases l with ⟨rs, e⟩ | ⟨i, j, e, _⟩ | ⟨L, dx, b, cu, ro, e⟩ | ⟨it, od, en, e⟩
  all_goals exact ne_of h e nofun
theorem Loud.nms {H : Hp} {q a : Addr} {ms : List (List Nat)} (l : Loud H q)
    (ne : ms ≠ []) (h : H a = some (.lst (ms.map vS))) : a ≠ q := by
  rcases l with ⟨rs, e⟩ | r | ⟨L, dx, b, cu, ro, e⟩ | ⟨it, od, en, e⟩
  · refine ne_of h e fun z => ?_
    have z' := HO.lst.inj z
    cases ms with
    | nil => exact ne rfl
    | cons m r =>
      cases rs with
      | nil => cases z'
      | cons a r => cases (List.cons.inj z').1
  · exact neRng r h
  · exact ne_of h e nofun
  · exact ne_of h e nofun
theorem Loud.ins {H : Hp} {q a C dx lo d : Addr} (l : Loud H q)
    (h : H a = some (.ins C dx (bf lo d))) : a ≠ q := by
  rcases l with ⟨rs, e⟩ | ⟨i, j, e, _⟩ | ⟨L, dx, b, cu, ro, e⟩ | ⟨it, od, en, e⟩
  · exact ne_of h e nofun
  · exact ne_of h e nofun
  · exact ne_of h e bf_ne_lf
  · exact ne_of h e nofun
theorem Loud.prs {H : Hp} {q a : Addr} {ms : List (List Nat)} (l : Loud H q)
    (ne : ms ≠ []) (h : H a = some (.dK (prs 0 ms))) : a ≠ q := by
  rcases l with ⟨rs, e⟩ | ⟨i, j, e, _⟩ | ⟨L, dx, b, cu, ro, e⟩ | ⟨it, od, en, e⟩
  · exact ne_of h e nofun
  · exact ne_of h e nofun
  · exact ne_of h e nofun
  · refine ne_of h e fun w => ?_
    have w' := HO.dK.inj w
    cases ms with
    | nil => exact ne rfl
    | cons l r =>
      have w2 : (Sum.inr (SX.S l), V.int ((0 : Nat) : Int)) =
          ((kI : Key), V.ref it) := (List.cons.inj w').1
      exact absurd (congrArg Prod.snd w2) nofun
/-- what is never changed stays: tuples, lists of names, bases -/
structure Quiet (C : Addr) (H H' : Hp) : Prop where
  tup : ∀ a xs, H a = some (.tup xs) → H' a = some (.tup xs)
  nms : ∀ a (ms : List (List Nat)), ms ≠ [] → H a = some (.lst (ms.map vS)) →
    H' a = some (.lst (ms.map vS))
  bas : ∀ c ms, Good ms → BaseAt C H c ms → BaseAt C H' c ms
theorem Quiet.trans {C : Addr} {H H1 H2 : Hp} (a : Quiet C H H1)
    (b : Quiet C H1 H2) : Quiet C H H2 :=
  ⟨fun x y h => b.tup _ _ (a.tup _ _ h), fun x y n h => b.nms _ _ n
    (a.nms _ _ n h), fun x y g h => b.bas _ _ g (a.bas _ _ g h)⟩
theorem Quiet.of {C : Addr} {H H' : Hp} {S : Addr → Prop}
    (l : ∀ q, S q → Loud H q)
    (fr : ∀ a o, H a = some o → ¬ S a → H' a = some o) : Quiet C H H' := by
  refine ⟨fun a xs h => fr _ _ h fun z => (l _ z).tup h rfl,
    fun a ms n h => fr _ _ h fun z => (l _ z).nms n h rfl, fun c ms g h => ?_⟩
  obtain ⟨dy, lo, d, k1, k2, k3⟩ := h.ob
  exact ⟨dy, lo, d, fr _ _ k1 fun z => (l _ z).ins k1 rfl,
    fr _ _ k2 fun z => (l _ z).nms g.ne k2 rfl,
    fr _ _ k3 fun z => (l _ z).prs g.ne k3 rfl⟩
section
variable {C L g ro b s it en : Addr} {H H' : Hp} {ls : List (List Nat)}
  {rows : List En}
theorem LogAt.stays (x : LogAt C L H g ro b ls rows) (q : Quiet C H H')
    (kg : ∀ o, H g = some o → H' g = some o)
    (kr : ∀ o, H ro = some o → H' ro = some o) :
    LogAt C L H' g ro b ls rows := by
  obtain ⟨dx, cu, rs, h1, h2, h3, h4⟩ := x.ob
  exact ⟨⟨dx, cu, rs, kg _ h1, q.nms _ _ (run_ne _ x.good.ne) h2, kr _ h3,
    h4.keep q.tup⟩, q.bas _ _ x.good x.ba, x.good, x.wd, x.rn⟩
theorem StAt.stays (x : StAt H s it en ls rows) (ne : ls ≠ [])
    (q : Quiet C H H') (ks : ∀ o, H s = some o → H' s = some o)
    (ke : ∀ o, H en = some o → H' en = some o) : StAt H' s it en ls rows := by
  obtain ⟨od, rs, h1, h2, h3, h4, h5⟩ := x.ob
  exact ⟨od, rs, ks _ h1, q.nms _ _ ne h2, q.nms _ _ (run_ne _ ne) h3, ke _ h4,
    h5.keep q.tup⟩
theorem LogAt.loudG (x : LogAt C L H g ro b ls rows) : Loud H g := by
  obtain ⟨dx, cu, rs, h1, h2, h3, h4⟩ := x.ob
  exact .inr (.inr (.inl ⟨_, _, _, _, _, h1⟩))
theorem LogAt.loudR (x : LogAt C L H g ro b ls rows) : Loud H ro := by
  obtain ⟨dx, cu, rs, h1, h2, h3, h4⟩ := x.ob
  exact .inl ⟨_, h3⟩
theorem StAt.loud (x : StAt H s it en ls rows) : Loud H s := by
  obtain ⟨od, rs, h1, h2, h3, h4, h5⟩ := x.ob
  exact .inr (.inr (.inr ⟨_, _, _, h1⟩))
theorem StAt.hasE (x : StAt H s it en ls rows) :
    ∃ rs : List Addr, H en = some (.lst (rs.map V.ref)) := by
  obtain ⟨od, rs, h1, h2, h3, h4, h5⟩ := x.ob
  exact ⟨_, h4⟩
theorem LogAt.hasR (x : LogAt C L H g ro b ls rows) :
    ∃ rs : List Addr, H ro = some (.lst (rs.map V.ref)) := by
  obtain ⟨dx, cu, rs, h1, h2, h3, h4⟩ := x.ob
  exact ⟨_, h3⟩
theorem LogAt.hasG (x : LogAt C L H g ro b ls rows) :
    ∃ dx cu, H g = some (.ins L dx (lf b cu ro)) := by
  obtain ⟨dx, cu, rs, h1, h2, h3, h4⟩ := x.ob
  exact ⟨_, _, h1⟩
theorem StAt.hasS (x : StAt H s it en ls rows) :
    ∃ od, H s = some (.dK (st3 it od en)) := by
  obtain ⟨od, rs, h1, h2, h3, h4, h5⟩ := x.ob
  exact ⟨_, h1⟩
end
/-! ### four logs and their states -/
abbrev atK {α : Type} (f : Nat → α) (k : Nat) (v : α) : Nat → α :=
  fun j => if j = k then v else f j
abbrev lst4 (g : Nat → Addr) : List V := (List.range 4).map fun j => V.ref (g j)
theorem lst4_get {g : Nat → Addr} {k : Nat} (hk : k < 4) :
    (lst4 g)[k]? = some (V.ref (g k)) := by
  unfold lst4
  rw [List.getElem?_map, List.getElem?_range hk]
  rfl
theorem lst4_set {g : Nat → Addr} {k : Nat} (hk : k < 4) (v : Addr) :
    (lst4 g).set k (V.ref v) = lst4 (atK g k v) := by
  match k, hk with
  | 0, _ => rfl
  | 1, _ => rfl
  | 2, _ => rfl
  | 3, _ => rfl
theorem lst4_refs (g : Nat → Addr) :
    ∃ rs : List Addr, lst4 g = rs.map V.ref :=
  ⟨(List.range 4).map g, by unfold lst4; rw [List.map_map]; rfl⟩
structure Four (C L : Addr) (H : Hp) (ll sl : Addr) (ls : List (List Nat))
    (g ro b s it en : Nat → Addr) (rw : Nat → List En) : Prop where
  hl : H ll = some (.lst (lst4 g))
  hs : H sl = some (.lst (lst4 s))
  lg : ∀ k, k < 4 → LogAt C L H (g k) (ro k) (b k) ls (rw k)
  st : ∀ k, k < 4 → StAt H (s k) (it k) (en k) ls (rw k)
  gg : ∀ j k, j < 4 → k < 4 → j ≠ k → g j ≠ g k
  rr : ∀ j k, j < 4 → k < 4 → j ≠ k → ro j ≠ ro k
  ss : ∀ j k, j < 4 → k < 4 → j ≠ k → s j ≠ s k
  er : ∀ j k, j < 4 → k < 4 → en j ≠ ro k
  lr : ∀ k, k < 4 → ll ≠ ro k
  le : ∀ k, k < 4 → ll ≠ en k
  sr : ∀ k, k < 4 → sl ≠ ro k
  se : ∀ k, k < 4 → sl ≠ en k
  ne : ll ≠ sl
section
variable {C L ll sl : Addr} {H H' : Hp} {ls : List (List Nat)}
  {g ro b s it en : Nat → Addr} {rw : Nat → List En}
theorem Four.good (F : Four C L H ll sl ls g ro b s it en rw) : Good ls :=
  (F.lg 0 (by decide)).good
theorem Four.same (F : Four C L H ll sl ls g ro b s it en rw)
    (z : Same H H') : Four C L H' ll sl ls g ro b s it en rw :=
  ⟨z _ _ F.hl, z _ _ F.hs, fun k h => (F.lg k h).same z,
    fun k h => (F.st k h).same z, F.gg, F.rr, F.ss, F.er, F.lr, F.le, F.sr, F.se,
    F.ne⟩
theorem Four.but (F : Four C L H ll sl ls g ro b s it en rw) {p : Addr}
    (r : Rng H p) (z : But p H H') :
    Four C L H' ll sl ls g ro b s it en rw := by
  obtain ⟨rs, e1⟩ := lst4_refs g
  obtain ⟨rt, e2⟩ := lst4_refs s
  exact ⟨z _ _ F.hl (neRngR' r (e1 ▸ F.hl)), z _ _ F.hs (neRngR' r (e2 ▸ F.hs)),
    fun k h => (F.lg k h).but r z, fun k h => (F.st k h).but r z, F.gg, F.rr,
    F.ss, F.er, F.lr, F.le, F.sr, F.se, F.ne⟩
/-- one of the four is changed or replaced -/
theorem Four.next (F : Four C L H ll sl ls g ro b s it en rw) {k : Nat}
    (hk : k < 4) {S : Addr → Prop} (q : Quiet C H H')
    (fr : ∀ a o, H a = some o → ¬ S a → H' a = some o)
    (off : ∀ j, j < 4 → j ≠ k →
      ¬ S (g j) ∧ ¬ S (ro j) ∧ ¬ S (s j) ∧ ¬ S (en j))
    {g1 ro1 b1 s1 it1 en1 : Addr} {rows1 : List En}
    (lg : LogAt C L H' g1 ro1 b1 ls rows1)
    (st : StAt H' s1 it1 en1 ls rows1)
    (og : g1 = g k ∨ H g1 = none) (or : ro1 = ro k ∨ H ro1 = none)
    (os : s1 = s k ∨ H s1 = none) (oe : en1 = en k ∨ H en1 = none)
    (ne : en1 ≠ ro1) (hl : H' ll = some (.lst (lst4 (atK g k g1))))
    (hs : H' sl = some (.lst (lst4 (atK s k s1)))) :
    Four C L H' ll sl ls (atK g k g1) (atK ro k ro1) (atK b k b1)
      (atK s k s1) (atK it k it1) (atK en k en1) (atK rw k rows1) := by
  have ng : ∀ j, j < 4 → j ≠ k → g j ≠ g1 := fun j hj n => by
    obtain ⟨_, _, e⟩ := (F.lg j hj).hasG
    rcases og with z | z
    · rw [z]; exact F.gg j k hj hk n
    · exact ne_of_none e z
  have nr : ∀ j, j < 4 → j ≠ k → ro j ≠ ro1 := fun j hj n => by
    obtain ⟨_, e⟩ := (F.lg j hj).hasR
    rcases or with z | z
    · rw [z]; exact F.rr j k hj hk n
    · exact ne_of_none e z
  have ns : ∀ j, j < 4 → j ≠ k → s j ≠ s1 := fun j hj n => by
    obtain ⟨_, e⟩ := (F.st j hj).hasS
    rcases os with z | z
    · rw [z]; exact F.ss j k hj hk n
    · exact ne_of_none e z
  have e1 : ∀ j, j < 4 → j ≠ k → en j ≠ ro1 := fun j hj n => by
    obtain ⟨_, e⟩ := (F.st j hj).hasE
    rcases or with z | z
    · rw [z]; exact F.er j k hj hk
    · exact ne_of_none e z
  have e2 : ∀ j, j < 4 → j ≠ k → en1 ≠ ro j := fun j hj n => by
    obtain ⟨_, e⟩ := (F.lg j hj).hasR
    rcases oe with z | z
    · rw [z]; exact F.er k j hk hj
    · exact (ne_of_none e z).symm
  have l1 : ∀ {q : Addr} {o : HO} {x : Addr} {f : Nat → Addr},
      H q = some o → (∀ k, k < 4 → q ≠ f k) → (x = f k ∨ H x = none) →
      ∀ j, j < 4 → q ≠ atK f k x j := fun {q o x f} e h z j hj => by
    by_cases c : j = k
    · rw [show atK f k x j = x from if_pos c]
      rcases z with z | z
      · rw [z]; exact h k hk
      · exact ne_of_none e z
    · rw [show atK f k x j = f j from if_neg c]
      exact h j hj
  have two : ∀ {f : Nat → Addr} {x : Addr},
      (∀ i j, i < 4 → j < 4 → i ≠ j → f i ≠ f j) →
      (∀ j, j < 4 → j ≠ k → f j ≠ x) → ∀ i j, i < 4 → j < 4 → i ≠ j →
      atK f k x i ≠ atK f k x j := fun {f x} h z i j hi hj n => by
    by_cases c : i = k
    · by_cases d : j = k
      · exact absurd (c.trans d.symm) n
      · rw [show atK f k x i = x from if_pos c,
          show atK f k x j = f j from if_neg d]
        exact (z j hj d).symm
    · rw [show atK f k x i = f i from if_neg c]
      by_cases d : j = k
      · rw [show atK f k x j = x from if_pos d]
        exact z i hi c
      · rw [show atK f k x j = f j from if_neg d]
        exact h i j hi hj n
  refine ⟨hl, hs, fun j hj => ?_, fun j hj => ?_, two F.gg ng, two F.rr nr,
    two F.ss ns, fun i j hi hj => ?_, l1 F.hl F.lr or, l1 F.hl F.le oe,
    l1 F.hs F.sr or, l1 F.hs F.se oe, F.ne⟩
  · by_cases c : j = k
    · subst c
      simp only [atK, if_true]
      exact lg
    · simp only [atK, if_neg c]
      obtain ⟨o1, o2, o3, o4⟩ := off j hj c
      exact (F.lg j hj).stays q (fun o e => fr _ _ e o1) fun o e => fr _ _ e o2
  · by_cases c : j = k
    · subst c
      simp only [atK, if_true]
      exact st
    · simp only [atK, if_neg c]
      obtain ⟨o1, o2, o3, o4⟩ := off j hj c
      exact (F.st j hj).stays F.good.ne q (fun o e => fr _ _ e o3)
        fun o e => fr _ _ e o4
  · by_cases c : i = k
    · rw [show atK en k en1 i = en1 from if_pos c]
      by_cases d : j = k
      · rw [show atK ro k ro1 j = ro1 from if_pos d]
        exact ne
      · rw [show atK ro k ro1 j = ro j from if_neg d]
        exact e2 j hj d
    · rw [show atK en k en1 i = en i from if_neg c]
      by_cases d : j = k
      · rw [show atK ro k ro1 j = ro1 from if_pos d]
        exact e1 i hi c
      · rw [show atK ro k ro1 j = ro j from if_neg d]
        exact F.er i j hi hj
end
end OM
namespace OM
open PySem PySem.Spec PyProof.Rows L2
theorem dg_I {H : Hp} {sa it od en : Addr}
    (e : H sa = some (.dK (st3 it od en))) :
    DGet H sa (.str (Str.ofString "items")) (some (.ref it)) := by
  have := DGet.k (k := kI) e
  rw [st3_I] at this
  exact this
theorem dg_O {H : Hp} {sa it od en : Addr}
    (e : H sa = some (.dK (st3 it od en))) :
    DGet H sa (.str (Str.ofString "order")) (some (.ref od)) := by
  have := DGet.k (k := kO) e
  rw [st3_O] at this
  exact this
theorem dg_E {H : Hp} {sa it od en : Addr}
    (e : H sa = some (.dK (st3 it od en))) :
    DGet H sa (.str (Str.ofString "entries")) (some (.ref en)) := by
  have := DGet.k (k := kE) e
  rw [st3_E] at this
  exact this
def spCopied : Sp := fun vs H Q _ =>
  ∃ (s it en : Addr) (ls : List (List Nat)) (rows : List En), vs = [.ref s] ∧
  StAt H s it en ls rows ∧ ∀ s' it' en' H', H s' = none → H en' = none →
    StAt H' s' it' en' ls rows → Same H H' → Q (.ref s') H'
/-- the last entry is removed: the others stay as they are -/
theorem replN_all {ls : List (List Nat)} {rows : List En} (x : Rw ls rows) :
    ∀ n, n + 1 ≤ rows.length →
      (replN ls rows (rows.length - 1) n).1 = rows.take n
  | 0, _ => rfl
  | n + 1, h => by
    have ih := replN_all x n (by omega)
    have he : rows[n]? = some rows[n] :=
      List.getElem?_eq_getElem (show n < rows.length by omega)
    have hd : rows.getD n (0, []) = rows[n] := by
      rw [List.getD_eq_getElem?_getD, he]
      rfl
    unfold replN
    rw [if_neg (by omega)]
    show rowsS ls (replN ls rows (rows.length - 1) n).1 _ _ = _
    rw [ih, hd]
    unfold rowsS
    rw [x.outs he, if_pos rfl, List.take_add_one, he]
    rfl
theorem replN_last {ls : List (List Nat)} {rows : List En} (x : Rw ls rows)
    (h : 0 < rows.length) :
    (replN ls rows (rows.length - 1) rows.length).1 =
      rows.take (rows.length - 1) := by
  have := replN_all x (rows.length - 1) (by omega)
  have e : rows.length = (rows.length - 1) + 1 := by omega
  rw [← this]
  generalize hn : rows.length - 1 = n at *
  rw [e]
  show (if n = n then replN ls rows n n else _).1 = _
  rw [if_pos rfl]
section
variable {P : Program} {w : World} {K : PySem.W.Frag}
  {mg : Str → Option Value} {base : Heap} {C L : Addr}
theorem ok_copied {f : Addr} {fd : FuncData} {k : Nat}
    (F : Fun K "_law_copied" "_law_copied" s_Lcopied f fd) (B : Bl mg) :
    FnOk P w K mg base CX0 (k + 1) f fd ["_law_state"] spCopied := by
  refine F.ok sc_Lcopied (fun vs H Q E h => ?_)
    (fun cv A outer s H vs Q E hr h => ?_)
  · obtain ⟨s, it, en, ls, rows, rfl, _⟩ := h
    rfl
  obtain ⟨sa, it, en, ls, rows, rfl, x, q⟩ := h
  have hu := hu_of hr
  refine ⟨_, pss_one (ps_ret (pe_disp (pps_cons pe_str
      (pe_callTy call_list_of (by rfl) B.list bt_list (pa_cons
        (pe_dget hu (pv 0) pe_str (fun _ _ => rfl)) pa_nil))
    (pps_cons pe_str
      (pe_callTy call_list_of (by rfl) B.list bt_list (pa_cons
        (pe_dget hu (pv 0) pe_str (fun _ _ => rfl)) pa_nil))
    (pps_cons pe_str
      (pe_callTy call_list_of (by rfl) B.list bt_list (pa_cons
        (pe_dget hu (pv 0) pe_str (fun _ _ => rfl)) pa_nil)) pps_nil)))
    (by rfl) (by rfl) (fun z => by cases z) (by decide))), ?_⟩
  obtain ⟨od, rs, h1, h2, h3, h4, h5⟩ := x.ob
  intro p np
  have s1 : Same H (upd H p (.dK [])) := sameNew np
  have g1 : (upd H p (.dK [])) p = some (.dK []) := upd_same
  generalize upd H p (.dK []) = H1 at s1 g1 ⊢
  refine ⟨_, rfl, sa, _, rfl, dg_I (s1 _ _ h1), it, _, rfl,
    .inl (SqL.of (s1 _ _ h2)), fun a na => ?_⟩
  have s2 : Same H1 (upd H1 a (.lst (ls.map vS))) := sameNew na
  have g2 : (upd H1 a (.lst (ls.map vS))) a = some (.lst (ls.map vS)) := upd_same
  generalize upd H1 a (.lst (ls.map vS)) = H2 at s2 g2 ⊢
  have s12 := s1.trans s2
  refine ⟨_, rfl, sa, _, rfl, dg_O (s12 _ _ h1), od, _, rfl,
    .inl (SqL.of (s12 _ _ h3)), fun c nc => ?_⟩
  have s3 : Same H2 (upd H2 c (.lst ((run ls (ixs rows)).map vS))) := sameNew nc
  have g3 : (upd H2 c (.lst ((run ls (ixs rows)).map vS))) c =
    some (.lst ((run ls (ixs rows)).map vS)) := upd_same
  generalize upd H2 c (.lst ((run ls (ixs rows)).map vS)) = H3 at s3 g3 ⊢
  have s13 := s12.trans s3
  refine ⟨_, rfl, sa, _, rfl, dg_E (s13 _ _ h1), en, _, rfl,
    .inl (SqL.of (s13 _ _ h4)), fun e ne => ?_⟩
  have s4 : Same H3 (upd H3 e (.lst (rs.map V.ref))) := sameNew ne
  have g4 : (upd H3 e (.lst (rs.map V.ref))) e = some (.lst (rs.map V.ref)) :=
    upd_same
  generalize upd H3 e (.lst (rs.map V.ref)) = H4 at s4 g4 ⊢
  have hp4 := s4 _ _ (s3 _ _ (s2 _ _ g1))
  refine ⟨hp4, [(kI, .ref a), (kO, .ref c), (kE, .ref e)], rfl,
    by show 3 ≤ 15; decide, ?_⟩
  rw [merge3]
  have s14 := s13.trans s4
  have bp : But p H4 (upd H4 p (.dK (st3 a c e))) := (But.refl H4).at
  refine q p a e _ np (s13.free ne) ⟨c, rs, upd_same, ?_, ?_, ?_, ?_⟩
    (OM.Same.put s14 np)
  · have z := s4 _ _ (s3 _ _ g2)
    exact bp _ _ z (ne_of z hp4 nofun)
  · have z := s4 _ _ g3
    exact bp _ _ z (ne_of z hp4 nofun)
  · exact bp _ _ g4 (ne_of g4 hp4 nofun)
  · exact (h5.same s14).keep fun a xs z => bp _ _ z (ne_of z hp4 nofun)
end
end OM
namespace OM
open PySem PySem.Spec PyProof.Rows L2
/-- a swap of a log and of its state; the entries' list is a new one -/
def spSwapd2 (C L : Addr) : Sp := fun vs H Q _ =>
  ∃ (p g ro b s it en : Addr) (ls : List (List Nat)) (rows : List En),
  vs = [.ref p, .ref g, .ref s] ∧ Rng H p ∧ Bth C L H g ro b s it en ls rows ∧
  2 ≤ ls.length ∧ ∀ rows' en' H', H en' = none →
    Bth C L H' g ro b s it en' ls rows' → Rng H' p → But4 p g ro s H H' →
    Q (.bl true) H'
section
variable {P : Program} {w : World} {K : PySem.W.Frag}
  {mg : Str → Option Value} {base : Heap} {C L : Addr}
theorem ok_swapd2 {f : Addr} {fd : FuncData} {k : Nat}
    (F : Fun K "_law_swapped" "_law_swapped" s_Lswapped f fd) (B : Bl mg)
    (Cd : CalDraw P w K mg base k)
    (Cl : Cal P w K mg base k "_law_label" ["_law_rng_here"] spLabel)
    (Cs : Cal P w K mg base k "_law_swap_done" ["_law_state", "_law_at",
      "_law_label_here"] spDone)
    (Md : CalMD P w K mg base L k "swap" ["self", "index", "reason"] [vS []]
      (spSwapC C L))
    (Ms : CalMK P w K mg base L k "swap" "reason" 2
      ["self", "index", "reason"] (spSwapC C L)) :
    FnG P w K mg base CX0 (k + 1) f fd ["_law_rng_here", "_law_log",
      "_law_state"] (spSwapd2 C L) := by
  refine okG F sc_Lswapped (fun vs H Q E h => ?_)
    (fun cv A outer s H vs Q E hr gd h => ?_)
  · obtain ⟨p, g, ro, b, sa, it, en, ls, rows, rfl, _⟩ := h
    rfl
  obtain ⟨p, g, ro, b, sa, it, en, ls, rows, rfl, rg, x, l2, q⟩ := h
  have nd := sc_Lswapped.nd
  have hu := hu_of hr
  refine ⟨_, C8.pss_cut (ps_par (i := 3) (j := 4) (by rfl) nd rfl rfl
      (by decide) rfl rfl
      (pa_cons (pe_cal Cd hr (pa_cons (pv 0) (pa_cons (pe_op op_sub
          (pe_callB call_len_seq (by rfl) B.len PySem.boot_len (pa_cons
            (pe_dget hu (pv 2) pe_str (fun _ _ => rfl)) pa_nil)) pe_int)
          pa_nil)))
        (pa_cons (pe_cal Cl hr (pa_cons (pv 0) pa_nil)) pa_nil)) (by rfl))
    (C8.pss_cut (ps_set (i := 5) nd rfl (.inl rfl)
      (pe_cal Cs hr (pa_cons (pv 2) (pa_cons (pv 3) (pa_cons (pv 4) pa_nil)))))
    (C8.pss_cut (ps_set (i := 6) nd rfl (.inl rfl)
      (pe_ifExp (PW.pt (pw_and (pt_cmpR op_eq (pv 4) pe_str (nomark _))
          (pw_and1 (pt_cmpR op_eq (pe_cal Cd hr (pa_cons (pv 0)
            (pa_cons pe_int pa_nil))) pe_int (nomark _)))))
        (pe_calMD Md hr (pv 1) (pa_cons (pv 3) pa_nil))
        (pe_calMK Ms hr (pv 1) (pa_cons (pv 3) pa_nil)
          (pk_cons (pv 4) pk_nil))))
    (pss_one (ps_ret (pe_cmpR op_eq
      (pe_callB (call_reprD hr gd) (by rfl) B.repr bt_repr
        (pa_cons (pv 6) pa_nil))
      (pe_callB (call_reprD hr gd) (by rfl) B.repr bt_repr
        (pa_cons (pv 5) pa_nil)) (nomark _)))))), ?_⟩
  obtain ⟨od, rs, h1, h2, h3, h4, h5⟩ := x.st.ob
  have h40 := x.lg.good.hi
  -- where, and why
  refine ⟨fun σ' H' => ∃ (i : Nat) (r : List Nat), σ' = [some (.ref p),
    some (.ref g), some (.ref sa), some (.int i), some (vS r), none, none] ∧
    i + 1 < ls.length ∧ Rsn r ∧ Rng H' p ∧ But p H H', ?_, ?_⟩
  · refine ⟨_, rfl, _, rfl, sa, _, rfl, (by
        have := DGet.k (k := kO) h1
        rw [st3_O] at this
        exact this), od, _, rfl, .inl (SqL.of h3), _, _, rfl, rfl, p,
      (ls.length : Int) - 1, ?_, rg, by omega, by omega,
      fun d H1 d0 d1 rg1 b1 => ?_⟩
    · rw [List.length_map, run_len]
      rfl
    refine ⟨_, rfl, p, rfl, rg1, fun r H2 hrs rg2 b2 => ?_⟩
    refine ⟨_, _, rfl, d.toNat, r, ?_, by omega, hrs, rg2, b1.trans b2⟩
    rw [Int.toNat_of_nonneg d0]
    rfl
  rintro _ H1 ⟨i, r, rfl, hi, hrs, rg1, b1⟩
  have x1 := x.but rg b1
  -- the law's own
  refine ⟨fun σ' H' => ∃ en', σ' = [some (.ref p), some (.ref g), some (.ref sa),
    some (.int i), some (vS r), some (ansS ls rows i), none] ∧
    LogAt C L H' g ro b ls rows ∧ StAt H' sa it en' ls (rowsS ls rows i r) ∧
    en' ≠ ro ∧ Rng H' p ∧ But sa H1 H' ∧ H en' = none, ?_, ?_⟩
  · refine ⟨_, rfl, _, rfl, _, rfl, sa, it, en, ls, rows, i, r, rfl, x.lg.rw,
      x1.st, hi, hrs, fun en' H2 nen st2 b2 => ?_⟩
    obtain ⟨od1, rs1, k1, _⟩ := x1.st.ob
    obtain ⟨_, _, _, _, _, w3, _⟩ := x1.lg.ob
    exact ⟨en', rfl, x1.lg.butS k1 b2, st2, (ne_of_none w3 nen).symm,
      rg1.butS k1 b2, b2, b1.free (rg1.ne nen).symm nen⟩
  rintro _ H2 ⟨en', rfl, lg2, st2, ne2, rg2, b2, nen⟩
  -- the log's
  refine ⟨fun σ' H' => σ' = [some (.ref p), some (.ref g),
    some (.ref sa), some (.int i), some (vS r), some (ansS ls rows i),
    some (ansS ls rows i)] ∧
    Bth C L H' g ro b sa it en' ls (rowsS ls rows i r) ∧ Rng H' p ∧
    But4 p g ro sa H H', ?_, ?_⟩
  · -- both ways of calling do the same
    have key : ∀ {H3 H4 : Hp}, But p H2 H3 → Rng H3 p →
        LogAt C L H4 g ro b ls (rowsS ls rows i r) → But2 g ro H3 H4 →
        Bth C L H4 g ro b sa it en' ls (rowsS ls rows i r) ∧ Rng H4 p ∧
          But4 p g ro sa H H4 := by
      intro H3 H4 b3 rg3 x4 u4
      have lg3 := lg2.but rg2 b3
      have st3' := st2.but rg2 b3
      refine ⟨⟨x4, st3'.but2 lg3 x.lg.good.ne ne2 u4, ne2⟩,
        rg3.but2 (lg3.rng rg3) u4, ?_⟩
      intro y o e n1 n2 n3 n4
      exact u4 _ _ (b3 _ _ (b2 _ _ (b1 _ _ e n1) n4) n1) n2 n3
    have other : ∀ {H3 : Hp}, But p H2 H3 → Rng H3 p →
        tMethK L "swap" (spSwapC C L) (kwG 2) E0 (tVar 1)
          (tCons (tVar 3) tNil) (tCons (tVar 4) tNil)
          [some (.ref p), some (.ref g), some (.ref sa), some (.int i),
            some (vS r), some (ansS ls rows i), none] H3
          (fun v H' => gName 6 v [some (.ref p), some (.ref g), some (.ref sa),
            some (.int i), some (vS r), some (ansS ls rows i), none] H'
            fun σ' H' => σ' = [some (.ref p), some (.ref g),
              some (.ref sa), some (.int i), some (vS r),
              some (ansS ls rows i), some (ansS ls rows i)] ∧
              Bth C L H' g ro b sa it en' ls (rowsS ls rows i r) ∧ Rng H' p ∧
              But4 p g ro sa H H') := by
      intro H3 b3 rg3
      have lg3 := lg2.but rg2 b3
      obtain ⟨dx, cu, rs3, w1, w2, w3, w4⟩ := lg3.ob
      exact ⟨_, rfl, g, dx, _, rfl, w1, lf_no _ _ _ (by decide +kernel)
        (by decide +kernel) (by decide +kernel), _, rfl, _, rfl, g, ro, b, ls,
        rows, i, r, rfl, lg3, hi, hrs, fun H4 x4 u4 =>
          ⟨rfl, key b3 rg3 x4 u4⟩⟩
    refine ⟨_, rfl, rfl, _, rfl, ?_⟩
    by_cases c : V.str (SX.S r) = V.str (Str.ofString "")
    · have er : r = [] := SX.S_inj (V.str.inj c)
      rw [decide_eq_true c]
      refine iteT ⟨_, rfl, p, 2, rfl, rg2, by decide, by decide,
        fun d H3 d0 d1 rg3 b3 => ⟨rfl, _, rfl, ite2 (fun _ => ?_)
          (fun _ => other b3 rg3)⟩⟩
      have lg3 := lg2.but rg2 b3
      obtain ⟨dx, cu, rs3, w1, w2, w3, w4⟩ := lg3.ob
      subst er
      exact ⟨_, rfl, g, dx, _, rfl, w1, lf_no _ _ _ (by decide +kernel)
        (by decide +kernel) (by decide +kernel), _, rfl, g, ro, b, ls,
        rows, i, [], rfl, lg3, hi, .inl rfl, fun H4 x4 u4 =>
          ⟨rfl, key b3 rg3 x4 u4⟩⟩
    · rw [decide_eq_false c]
      exact iteF (other (But.refl H2) rg2)
  rintro _ H3 ⟨rfl, x3, rg3, b3⟩
  obtain ⟨a1, a2, a3⟩ := ans_ok x.lg.rw hi
  refine ⟨_, rfl, _, _, rfl, dp_ans, a1, a2, a3, _, rfl, _, _, rfl, dp_ans, a1,
    a2, a3, rfl, ?_⟩
  rw [decide_eq_true rfl]
  exact q _ _ H3 nen x3 rg3 b3
end
end OM
namespace OM
open PySem PySem.Spec PyProof.Rows L2
section
variable {C L ll sl p : Addr} {H H' : Hp} {ls : List (List Nat)}
  {g ro b s it en : Nat → Addr} {rw : Nat → List En}
theorem Four.loudL (F : Four C L H ll sl ls g ro b s it en rw) : Loud H ll := by
  obtain ⟨rs, e⟩ := lst4_refs g
  exact .inl ⟨rs, e ▸ F.hl⟩
theorem Four.loudS (F : Four C L H ll sl ls g ro b s it en rw) : Loud H sl := by
  obtain ⟨rs, e⟩ := lst4_refs s
  exact .inl ⟨rs, e ▸ F.hs⟩
/-- whatever a turn may touch, the other three stay -/
theorem Four.turn (F : Four C L H ll sl ls g ro b s it en rw) (r : Rng H p)
    {k : Nat} (hk : k < 4)
    (fr : ∀ a o, H a = some o → a ≠ ll → a ≠ sl → a ≠ p → a ≠ g k →
      a ≠ ro k → a ≠ s k → H' a = some o)
    {g1 ro1 b1 s1 it1 en1 : Addr} {rows1 : List En}
    (lg : LogAt C L H' g1 ro1 b1 ls rows1)
    (st : StAt H' s1 it1 en1 ls rows1)
    (og : g1 = g k ∨ H g1 = none) (or : ro1 = ro k ∨ H ro1 = none)
    (os : s1 = s k ∨ H s1 = none) (oe : en1 = en k ∨ H en1 = none)
    (ne : en1 ≠ ro1) (hl : H' ll = some (.lst (lst4 (atK g k g1))))
    (hs : H' sl = some (.lst (lst4 (atK s k s1)))) :
    Four C L H' ll sl ls (atK g k g1) (atK ro k ro1) (atK b k b1)
      (atK s k s1) (atK it k it1) (atK en k en1) (atK rw k rows1) ∧
    Quiet C H H' := by
  have fr' : ∀ a o, H a = some o → ¬ (a = ll ∨ a = sl ∨ a = p ∨ a = g k ∨
      a = ro k ∨ a = s k) → H' a = some o := fun a o e n =>
    fr a o e (fun z => n (.inl z)) (fun z => n (.inr (.inl z)))
      (fun z => n (.inr (.inr (.inl z))))
      (fun z => n (.inr (.inr (.inr (.inl z)))))
      (fun z => n (.inr (.inr (.inr (.inr (.inl z))))))
      (fun z => n (.inr (.inr (.inr (.inr (.inr z))))))
  have q : Quiet C H H' := Quiet.of (fun a z => by
    rcases z with z | z | z | z | z | z
    · rw [z]; exact F.loudL
    · rw [z]; exact F.loudS
    · rw [z]; exact .inr (.inl r)
    · rw [z]; exact (F.lg k hk).loudG
    · rw [z]; exact (F.lg k hk).loudR
    · rw [z]; exact (F.st k hk).loud) fr'
  refine ⟨F.next hk q fr' (fun j hj n => ?_) lg st og or os oe ne hl hs, q⟩
  obtain ⟨dk, ck, ek⟩ := (F.lg k hk).hasG
  obtain ⟨xk, fk⟩ := (F.lg k hk).hasR
  obtain ⟨ok, hk'⟩ := (F.st k hk).hasS
  obtain ⟨dj, cj, ej⟩ := (F.lg j hj).hasG
  obtain ⟨xj, fj⟩ := (F.lg j hj).hasR
  obtain ⟨oj, hj'⟩ := (F.st j hj).hasS
  obtain ⟨yj, nj⟩ := (F.st j hj).hasE
  refine ⟨?_, ?_, ?_, ?_⟩
  · rintro (z | z | z | z | z | z)
    · exact ne_of ej F.hl nofun z
    · exact ne_of ej F.hs nofun z
    · obtain ⟨_, _, e, _⟩ := r
      exact ne_of ej e nofun z
    · exact F.gg j k hj hk n z
    · exact ne_of ej fk nofun z
    · exact ne_of ej hk' nofun z
  · rintro (z | z | z | z | z | z)
    · exact F.lr j hj z.symm
    · exact F.sr j hj z.symm
    · exact neRngR' r fj z
    · exact ne_of fj ek nofun z
    · exact F.rr j k hj hk n z
    · exact ne_of fj hk' nofun z
  · rintro (z | z | z | z | z | z)
    · exact ne_of hj' F.hl nofun z
    · exact ne_of hj' F.hs nofun z
    · obtain ⟨_, _, e, _⟩ := r
      exact ne_of hj' e nofun z
    · exact ne_of hj' ek nofun z
    · exact ne_of hj' fk nofun z
    · exact F.ss j k hj hk n z
  · rintro (z | z | z | z | z | z)
    · exact F.le j hj z.symm
    · exact F.se j hj z.symm
    · exact neRngR' r nj z
    · exact ne_of nj ek nofun z
    · exact F.er j k hj hk z
    · exact ne_of nj hk' nofun z
end
/-- four logs and their states, all of them newer than what was there before -/
structure FourF (C L : Addr) (H0 : Hp) (p : Addr) (H : Hp) (ll sl : Addr)
    (ls : List (List Nat)) (g ro b s it en : Nat → Addr) (rw : Nat → List En) :
    Prop extends Four C L H ll sl ls g ro b s it en rw where
  fr0 : But p H0 H
  nl : H0 ll = none
  ns : H0 sl = none
  fg : ∀ k, k < 4 → H0 (g k) = none
  fro : ∀ k, k < 4 → H0 (ro k) = none
  fs : ∀ k, k < 4 → H0 (s k) = none
section
variable {C L ll sl p : Addr} {H0 H H' : Hp} {ls : List (List Nat)}
  {g ro b s it en : Nat → Addr} {rw : Nat → List En}
theorem FourF.but (F : FourF C L H0 p H ll sl ls g ro b s it en rw)
    (r : Rng H p) (z : But p H H') :
    FourF C L H0 p H' ll sl ls g ro b s it en rw :=
  ⟨F.toFour.but r z, F.fr0.trans z, F.nl, F.ns, F.fg, F.fro, F.fs⟩
theorem FourF.free (F : FourF C L H0 p H ll sl ls g ro b s it en rw)
    (r : Rng H p) {a : Addr} (n : H a = none) : H0 a = none :=
  F.fr0.free (r.ne n).symm n
theorem FourF.turn (F : FourF C L H0 p H ll sl ls g ro b s it en rw)
    (r : Rng H p) {k : Nat} (hk : k < 4)
    (fr : ∀ a o, H a = some o → a ≠ ll → a ≠ sl → a ≠ p → a ≠ g k →
      a ≠ ro k → a ≠ s k → H' a = some o)
    {g1 ro1 b1 s1 it1 en1 : Addr} {rows1 : List En}
    (lg : LogAt C L H' g1 ro1 b1 ls rows1)
    (st : StAt H' s1 it1 en1 ls rows1)
    (og : g1 = g k ∨ H g1 = none) (or : ro1 = ro k ∨ H ro1 = none)
    (os : s1 = s k ∨ H s1 = none) (oe : en1 = en k ∨ H en1 = none)
    (ne : en1 ≠ ro1) (hl : H' ll = some (.lst (lst4 (atK g k g1))))
    (hs : H' sl = some (.lst (lst4 (atK s k s1)))) :
    FourF C L H0 p H' ll sl ls (atK g k g1) (atK ro k ro1) (atK b k b1)
      (atK s k s1) (atK it k it1) (atK en k en1) (atK rw k rows1) ∧
    Quiet C H H' := by
  obtain ⟨FF, Qt⟩ := F.toFour.turn r hk fr lg st og or os oe ne hl hs
  have up : ∀ {f : Nat → Addr} {x : Addr}, (∀ k, k < 4 → H0 (f k) = none) →
      (x = f k ∨ H x = none) → ∀ j, j < 4 → H0 (atK f k x j) = none :=
    fun {f x} h z j hj => by
      by_cases c : j = k
      · rw [show atK f k x j = x from if_pos c]
        rcases z with z | z
        · rw [z]; exact h k hk
        · exact F.free r z
      · rw [show atK f k x j = f j from if_neg c]
        exact h j hj
  refine ⟨⟨FF, fun a o e n => ?_, F.nl, F.ns, up F.fg og, up F.fro or,
    up F.fs os⟩, Qt⟩
  exact fr a o (F.fr0 a o e n) (ne_of_none e F.nl) (ne_of_none e F.ns) n
    (ne_of_none e (F.fg k hk)) (ne_of_none e (F.fro k hk))
    (ne_of_none e (F.fs k hk))
end
def spTurned (C L : Addr) : Sp := fun vs H Q _ =>
  ∃ (p ll sl : Addr) (ls : List (List Nat)) (g ro b s it en : Nat → Addr)
    (rw : Nat → List En) (H0 : Hp), vs = [.ref p, .ref ll, .ref sl] ∧ Rng H p ∧
  FourF C L H0 p H ll sl ls g ro b s it en rw ∧ 2 ≤ ls.length ∧
  ∀ (g' ro' b' s' it' en' : Nat → Addr) (rw' : Nat → List En) (H' : Hp),
    FourF C L H0 p H' ll sl ls g' ro' b' s' it' en' rw' → Rng H' p → Quiet C H H' →
    Q (.bl true) H'
theorem ixN_at {n j : Nat} (h : j < n) : ixN n (j : Int) = some j := by
  unfold ixN
  rw [if_pos (by omega), if_pos (by omega)]
  rfl
theorem cut_last (xs : List V) (v : V) :
    cutV (xs ++ [v]) none (some (-1)) = xs := by
  unfold cutV
  simp only [HT.sIx_none]
  have e : HT.sIx (xs ++ [v]).length (xs ++ [v]).length (some (-1)) =
      xs.length := by
    show (if (-1 : Int) < 0 then (-1 + ((xs ++ [v]).length : Int)).toNat else
      min (-1 : Int).toNat (xs ++ [v]).length) = xs.length
    rw [if_pos (by decide), List.length_append]
    show (-1 + ((xs.length + 1 : Nat) : Int)).toNat = xs.length
    omega
  rw [e, Nat.sub_zero, List.drop_zero]
  exact List.take_left' rfl
theorem atK_self {α : Type} (f : Nat → α) (k : Nat) : atK f k (f k) = f := by
  funext j
  by_cases c : j = k
  · rw [c]; exact if_pos rfl
  · exact if_neg c
theorem EnsAt.last {H : Hp} {rs : List Addr} {rows : List En} {e : En}
    (h : EnsAt H rs (rows ++ [e])) : ∃ rs' r, rs = rs' ++ [r] ∧
      EnsAt H rs' rows ∧ H r = some (.tup (vE e)) := by
  have h1 := h.take rows.length
  have h2 := h.drop rows.length
  rw [List.take_left' rfl] at h1
  rw [List.drop_left' rfl] at h2
  have e0 := List.take_append_drop rows.length rs
  generalize rs.take rows.length = a at h1 e0
  generalize rs.drop rows.length = c at h2 e0
  cases h2 with
  | cons hr t =>
    cases t
    exact ⟨a, _, e0.symm, h1, hr⟩
section
variable {P : Program} {w : World} {K : PySem.W.Frag}
  {mg : Str → Option Value} {base : Heap} {C L : Addr}
theorem ok_turned {f fl : Addr} {fd fdl : FuncData} {k n : Nat}
    (F : Fun K "_law_turned" "_law_turned" s_Lturned f fd) (B : Bl mg)
    (Sl : Spec1 K L "__len__" fl fdl ["self"])
    (Gl : FnOk P w K mg base CX0 n fl fdl ["self"] (spLLen C L))
    (hn : n + 1 ≤ k)
    (Cd : CalDraw P w K mg base k)
    (Cb : CalC P w K mg base C k "Base" ["self", "items"] (spInitOk C))
    (Cf : Cal P w K mg base k "log_from_entries" ["base", "entries"]
      (spLFrom C L))
    (Cc : Cal P w K mg base k "_law_copied" ["_law_state"] spCopied)
    (Cg : Cal P w K mg base k "_law_begun" ["_law_items"] spBegun)
    (Cs : CalG P w K mg base k "_law_swapped" ["_law_rng_here", "_law_log",
      "_law_state"] (spSwapd2 C L))
    (Mc : CalM P w K mg base L k "clone" ["self"] (spClone C L))
    (Ml : CalM P w K mg base L k "clear_entries" ["self"] (spClear C L))
    (Mr : CalM P w K mg base L k "remove_entry" ["self", "position"]
      (spRemove C L)) :
    FnG P w K mg base CX0 (k + 2) f fd ["_law_rng_here", "_law_logs",
      "_law_states"] (spTurned C L) := by
  refine okG F sc_Lturned (fun vs H Q E h => ?_)
    (fun cv A outer s H vs Q E hr1 gd h => ?_)
  · obtain ⟨p, ll, sl, ls, g, ro, b, s, it, en, rw, H0, rfl, _⟩ := h
    rfl
  obtain ⟨p, ll, sl, ls, g, ro, b, s, it, en, rw, H0, rfl, rg, x, l2, q⟩ := h
  have nd := sc_Lturned.nd
  have hr := hr1.mono (Nat.le_succ k)
  have hu := hu_of hr
  have hrn := hr.mono hn
  refine ⟨_, C8.pss_cut (ps_par (i := 3) (j := 4) (by rfl) nd rfl rfl
      (by decide) rfl rfl
      (pa_cons (pe_cal Cd hr (pa_cons (pv 0) (pa_cons pe_int pa_nil)))
        (pa_cons (pe_cal Cd hr (pa_cons (pv 0) (pa_cons pe_int pa_nil)))
          pa_nil)) (by rfl))
    (C8.pss_cut (ps_set (i := 5) nd rfl (.inl rfl) (pe_op op_mod
      (pe_op op_add (pe_op op_add (pv 3) pe_int)
        (pe_cal Cd hr (pa_cons (pv 0) (pa_cons pe_int pa_nil)))) pe_int))
    (C8.pss_cut (ps_if (pt_cmpR op_eq (pv 4) pe_int (nomark _))
      (pss_one (ps_asg (pe_tup (pa_cons (pe_calM0 Mc hr
          (pe_ix ix_list (pv 1) (pv 5) (fun _ _ => rfl))) (pa_cons
          (pe_cal Cc hr (pa_cons (pe_ix ix_list (pv 2) (pv 5) (fun _ _ => rfl))
            pa_nil)) pa_nil)))
        (pg_tup rfl (pgs_cons (pg_sub (pv 1) (pv 3) set_list)
          (pgs_cons (pg_sub (pv 2) (pv 3) set_list) pgs_nil)))))
      (pss_one (ps_if (pt_cmpR op_eq (pv 4) pe_int (nomark _))
        (pss_cons (ps_set (i := 6) nd rfl (.inl rfl)
          (pe_callTy call_list_of (by rfl) B.list bt_list (pa_cons
            (pe_dget hu (pe_ix ix_list (pv 2) (pv 5) (fun _ _ => rfl)) pe_str
              (fun _ _ => rfl)) pa_nil)))
        (pss_cons (ps_asg (pe_cal Cf hr (pa_cons (pe_calC Cb hr1 (pa_cons
            (pe_callTy call_list_of (by rfl) B.list bt_list (pa_cons
              (pe_dget hu (pe_ix ix_list (pv 2) (pv 3) (fun _ _ => rfl)) pe_str
                (fun _ _ => rfl)) pa_nil)) pa_nil)) (pa_cons (pv 6) pa_nil)))
          (pg_sub (pv 1) (pv 3) set_list))
        (pss_cons (ps_asg (pe_cal Cc hr (pa_cons (pe_ix ix_list (pv 2) (pv 5)
            (fun _ _ => rfl)) pa_nil)) (pg_sub (pv 2) (pv 3) set_list))
        (pss_cons (ps_if (pt_cmpR (op_neD hr.units) (pv 6)
            (pe_dget hu (pe_ix ix_list (pv 2) (pv 5) (fun _ _ => rfl)) pe_str
              (fun _ _ => rfl)) (nomark _))
          (pss_one ps_never) pss_nil)
        (pss_cons (ps_expr (pe_bm PySem.F.plainAttrs_list
          PySem.F.slot_list_append PySem.F.type_list_append mt_append (pv 6)
          (pa_cons pe_non pa_nil)))
        (pss_one (ps_expr (pe_bm0 PySem.F.plainAttrs_list
          PySem.F.slot_list_reverse PySem.F.type_list_reverse mt_reverse
          (pv 6)))))))))
        (pss_one (ps_if (pt_cmpR op_eq (pv 4) pe_int (nomark _))
          (pss_cons (ps_asg (pe_cal Cg hr (pa_cons (pe_dget hu
              (pe_ix ix_list (pv 2) (pv 3) (fun _ _ => rfl)) pe_str
              (fun _ _ => rfl)) pa_nil)) (pg_sub (pv 2) (pv 3) set_list))
          (pss_one (ps_ret (pe_cmpR op_isN (pe_calM0 Ml hr
            (pe_ix ix_list (pv 1) (pv 3) (fun _ _ => rfl))) pe_non
            (nomark _)))))
          (pss_one (ps_if (PW.pt (pw_and (pt_cmpR op_eq (pv 4) pe_int
              (nomark _)) (pw_and1 (pt_cmpR op_gt
              (pe_callB (call_lenOwn Sl Gl hrn) (by rfl) B.len PySem.boot_len
                (pa_cons (pe_ix ix_list (pv 1) (pv 3) (fun _ _ => rfl))
                  pa_nil)) pe_int (nomark _)))))
            (pss_cons (ps_expr (pe_calM Mr hr
              (pe_ix ix_list (pv 1) (pv 3) (fun _ _ => rfl)) (pa_cons
              (pe_op op_sub (pe_callB (call_lenOwn Sl Gl hrn) (by rfl) B.len
                PySem.boot_len (pa_cons (pe_ix ix_list (pv 1) (pv 3)
                  (fun _ _ => rfl)) pa_nil)) pe_int) pa_nil)))
            (pss_cons (ps_asg (pe_ix ix_list (pe_dget hu
                (pe_ix ix_list (pv 2) (pv 3) (fun _ _ => rfl)) pe_str
                (fun _ _ => rfl)) (pe_un un_neg pe_int) (fun _ _ => rfl))
              (pg_tup rfl (pgs_cons (pg_name (i := 7) nd rfl (.inl rfl))
                (pgs_cons (pg_name (i := 8) nd rfl (.inl rfl)) pgs_nil))))
            (pss_cons (ps_dput hu (pe_ix ix_list (pv 2) (pv 3)
                (fun _ _ => rfl)) pe_str (pe_slice sl_list (pe_dget hu
                (pe_ix ix_list (pv 2) (pv 3) (fun _ _ => rfl)) pe_str
                (fun _ _ => rfl)) po_none (po_some (pe_un un_neg pe_int))) rfl)
            (pss_cons (ps_set (i := 9) nd rfl (.inl rfl) (pe_dget hu
                (pe_ix ix_list (pv 2) (pv 3) (fun _ _ => rfl)) pe_str
                (fun _ _ => rfl)))
            (pss_one (ps_dput hu (pe_ix ix_list (pv 2) (pv 3)
                (fun _ _ => rfl)) pe_str (pe_op op_cat (pe_op op_cat
                (pe_slice sl_list (pv 9) po_none (po_some (pv 7)))
                (pe_lst (pa_cons (pe_ix ix_list (pv 9) (pe_op op_add (pv 7)
                    pe_int) (fun _ _ => rfl))
                  (pa_cons (pe_ix ix_list (pv 9) (pv 7) (fun _ _ => rfl))
                    pa_nil))))
                (pe_slice sl_list (pv 9) (po_some (pe_op op_add (pv 7) pe_int))
                  po_none)) rfl))))))
            (pss_one (ps_ret (pe_calG Cs hr gd (pa_cons (pv 0) (pa_cons
              (pe_ix ix_list (pv 1) (pv 3) (fun _ _ => rfl)) (pa_cons
              (pe_ix ix_list (pv 2) (pv 3) (fun _ _ => rfl))
              pa_nil)))))))))))))
    (pss_one (ps_ret pe_bl)))), ?_⟩
  have g40 := x.good.hi
  -- which, and what
  refine ⟨fun σ' H' => ∃ (j : Nat) (wy : Int), σ' = [some (.ref p),
    some (.ref ll), some (.ref sl), some (.int j), some (.int wy), none, none,
    none, none, none] ∧ j < 4 ∧ Rng H' p ∧ But p H H', ?_, ?_⟩
  · refine ⟨_, rfl, p, 4, rfl, rg, by decide, by decide,
      fun d H1 d0 d1 rg1 b1 => ?_⟩
    refine ⟨_, rfl, p, 8, rfl, rg1, by decide, by decide,
      fun e H2 e0 e1 rg2 b2 => ?_⟩
    refine ⟨_, _, rfl, d.toNat, e, ?_, by omega, rg2, b1.trans b2⟩
    rw [Int.toNat_of_nonneg d0]
    rfl
  rintro _ H1 ⟨j, wy, rfl, hj, rg1, b1⟩
  refine ⟨fun σ' H' => ∃ o : Nat, σ' = [some (.ref p),
    some (.ref ll), some (.ref sl), some (.int j), some (.int wy),
    some (.int o), none, none, none, none] ∧ o < 4 ∧ o ≠ j ∧ Rng H' p ∧
    But p H H', ?_, ?_⟩
  · refine ⟨_, rfl, _, _, rfl, rfl, _, rfl, p, 3, rfl, rg1, by decide,
      by decide, fun d H2 d0 d1 rg2 b2 => ?_⟩
    refine ⟨_, _, rfl, rfl, _, _, rfl, rfl, (by show (0 : Int) < 4; decide),
      (((j : Int) + 1 + d) % 4).toNat, ?_, by omega, by omega, rg2,
      b1.trans b2⟩
    rw [Int.toNat_of_nonneg (by omega)]
    rfl
  rintro _ H2 ⟨o, rfl, ho, noj, rg2, b2⟩
  have x2 := x.but rg b2
  have lgo := x2.lg o ho
  have sto := x2.st o ho
  have lgj := x2.lg j hj
  have stj := x2.st j hj
  have gO : atI (lst4 g) (o : Int) = some (.ref (g o)) := atI_nat (lst4_get ho)
  have sO : atI (lst4 s) (o : Int) = some (.ref (s o)) := atI_nat (lst4_get ho)
  have gJ : atI (lst4 g) (j : Int) = some (.ref (g j)) := atI_nat (lst4_get hj)
  have sJ : atI (lst4 s) (j : Int) = some (.ref (s j)) := atI_nat (lst4_get hj)
  have l4 : ∀ f : Nat → Addr, (lst4 f).length = 4 := fun f => by
    unfold lst4; rw [List.length_map, List.length_range]
  have q2 : Quiet C H H2 := Quiet.of (S := fun a => a = p)
    (fun a z => by rw [z]; exact .inr (.inl rg)) fun a o e n => b2 _ _ e n
  -- both lists get a new one at j
  have fin : ∀ (g1 ro1 b1 s1 it1 en1 : Addr) (rows1 : List En) (H5 : Hp),
      Same H2 H5 → LogAt C L H5 g1 ro1 b1 ls rows1 →
      StAt H5 s1 it1 en1 ls rows1 → H2 g1 = none → H2 ro1 = none →
      H2 s1 = none → H2 en1 = none → en1 ≠ ro1 →
      ∃ (g' ro' b' s' it' en' : Nat → Addr) (rw' : Nat → List En),
        FourF C L H0 p (upd (upd H5 ll (.lst (lst4 (atK g j g1)))) sl
          (.lst (lst4 (atK s j s1)))) ll sl ls g' ro' b' s' it' en' rw' ∧
        Rng (upd (upd H5 ll (.lst (lst4 (atK g j g1)))) sl
          (.lst (lst4 (atK s j s1)))) p ∧
        Quiet C H2 (upd (upd H5 ll (.lst (lst4 (atK g j g1)))) sl
          (.lst (lst4 (atK s j s1)))) := by
    intro g1 ro1 b1 s1 it1 en1 rows1 H5 s5 lg5 st5 ng nro ns nen ne
    have F5 := x2.same s5
    have fr5 : ∀ a o, H5 a = some o → ¬ (a = ll ∨ a = sl) →
        (upd (upd H5 ll (.lst (lst4 (atK g j g1)))) sl
          (.lst (lst4 (atK s j s1)))) a = some o := fun a o e n => by
      rw [upd_ne fun z => n (.inr z), upd_ne fun z => n (.inl z)]
      exact e
    have q5 : Quiet C H5 (upd (upd H5 ll (.lst (lst4 (atK g j g1)))) sl
        (.lst (lst4 (atK s j s1)))) := Quiet.of (fun a z => by
      rcases z with z | z
      · rw [z]; exact F5.loudL
      · rw [z]; exact F5.loudS) fr5
    have new : ∀ a, H2 a = none → ¬ (a = ll ∨ a = sl) := fun a n z => by
      rcases z with z | z
      · rw [z, x2.hl] at n; cases n
      · rw [z, x2.hs] at n; cases n
    obtain ⟨F, Qt⟩ := x2.turn rg2 hj (H' := upd (upd H5 ll
      (.lst (lst4 (atK g j g1)))) sl (.lst (lst4 (atK s j s1))))
      (fun a o e n1 n2 _ _ _ _ => fr5 _ _ (s5 _ _ e) fun z =>
        z.elim n1 n2)
      (lg5.stays q5 (fun o e => fr5 _ _ e (new _ ng))
        fun o e => fr5 _ _ e (new _ nro))
      (st5.stays x.good.ne q5 (fun o e => fr5 _ _ e (new _ ns))
        fun o e => fr5 _ _ e (new _ nen))
      (.inr ng) (.inr nro) (.inr ns) (.inr nen) ne
      (by rw [upd_ne x2.ne, upd_same]) upd_same
    refine ⟨_, _, _, _, _, _, _, F, ?_, Qt⟩
    obtain ⟨i1, i2, e, z⟩ := rg2.same s5
    refine ⟨i1, i2, fr5 _ _ e fun w => ?_, z⟩
    obtain ⟨rs, e1⟩ := lst4_refs g
    obtain ⟨rt, e2⟩ := lst4_refs s
    rcases w with w | w
    · exact neRngR' rg2 (e1 ▸ x2.hl) w.symm
    · exact neRngR' rg2 (e2 ▸ x2.hs) w.symm
  refine ⟨fun σ' H' => ∃ (g' ro' b' s' it' en' : Nat → Addr)
    (rw' : Nat → List En), FourF C L H0 p H' ll sl ls g' ro' b' s' it' en' rw' ∧
    Rng H' p ∧ Quiet C H2 H', ?_, ?_⟩
  rotate_left
  · rintro σ' H3 ⟨g', ro', b', s', it', en', rw', F3, rg3, q3⟩
    exact q _ _ _ _ _ _ _ H3 F3 rg3 (q2.trans q3)
  refine ⟨_, rfl, rfl, _, rfl, ite2 (fun _ => ?_) (fun _ => ?_)⟩
  · -- a clone of another one
    obtain ⟨dO, cO, eo⟩ := lgo.hasG
    refine ⟨_, rfl, _, rfl, ll, _, _, _, rfl, rfl, SqL.of x2.hl, gO, g o, dO, _,
      rfl, eo, lf_no _ _ _ (by decide +kernel) (by decide +kernel)
      (by decide +kernel), g o, ro o, b o, ls, rw o, rfl, lgo,
      fun g1 ro1 H3 ng nro lg3 s3 => ?_⟩
    refine ⟨_, rfl, _, rfl, sl, _, _, _, rfl, rfl, SqL.of (s3 _ _ x2.hs), sO,
      s o, it o, en o, ls, rw o, rfl, sto.same s3,
      fun s1 it1 en1 H4 ns nen st4 s4 => ?_⟩
    refine ⟨sz (by simp), fun T nT => ?_⟩
    have s5 : Same H4 (upd H4 T (.tup [.ref g1, .ref s1])) := sameNew nT
    have h5 : (upd H4 T (.tup [.ref g1, .ref s1])) T =
      some (.tup [.ref g1, .ref s1]) := upd_same
    generalize upd H4 T (.tup [.ref g1, .ref s1]) = H5 at s5 h5 ⊢
    have s25 := (s3.trans s4).trans s5
    refine ⟨T, _, rfl, .inl (.inl h5), rfl, _, _, rfl, _, rfl, _, rfl, ll,
      lst4 g, j, j, rfl, rfl, s25 _ _ x2.hl, ixN_at (by rw [l4]; exact hj), _,
      _, rfl, _, rfl, _, rfl, sl, lst4 s, j, j, rfl, rfl, ?_,
      ixN_at (by rw [l4]; exact hj), rfl, ?_⟩
    · rw [upd_ne x2.ne.symm]
      exact s25 _ _ x2.hs
    rw [lst4_set hj, lst4_set hj]
    exact fin _ _ _ _ _ _ _ _ s25 (lg3.same (s4.trans s5)) (st4.same s5) ng nro
      (s3.free ns) (s3.free nen) (by
        obtain ⟨_, e⟩ := lg3.hasR
        exact (ne_of_none e nen).symm)
  refine ⟨_, rfl, rfl, _, rfl, ite2 (fun _ => ?_) (fun _ => ?_)⟩
  · -- made from another one's entries
    obtain ⟨od, rs, k1, k2, k3, k4, k5⟩ := sto.ob
    obtain ⟨oe, re, m1, m2, m3, m4, m5⟩ := stj.ob
    have rwo := lgo.rw
    have lrs := k5.len
    have many := rwo.many
    refine ⟨_, rfl, _, rfl, sl, _, _, _, rfl, rfl, SqL.of x2.hs, sO, s o, _, rfl,
      dg_E k1, en o, _, rfl, .inl (SqL.of k4), fun gv ngv => ?_⟩
    have s3 : Same H2 (upd H2 gv (.lst (rs.map V.ref))) := sameNew ngv
    have v3 : (upd H2 gv (.lst (rs.map V.ref))) gv =
      some (.lst (rs.map V.ref)) := upd_same
    generalize upd H2 gv (.lst (rs.map V.ref)) = H3 at s3 v3 ⊢
    refine ⟨_, rfl, _, rfl, sl, _, _, _, rfl, rfl, SqL.of (s3 _ _ x2.hs), sJ,
      s j, _, rfl, dg_I (s3 _ _ m1), it j, _, rfl, .inl (SqL.of (s3 _ _ m2)),
      fun iv niv => ?_⟩
    have s4 : Same H3 (upd H3 iv (.lst (ls.map vS))) := sameNew niv
    have v4 : (upd H3 iv (.lst (ls.map vS))) iv = some (.lst (ls.map vS)) :=
      upd_same
    generalize upd H3 iv (.lst (ls.map vS)) = H4 at s4 v4 ⊢
    refine fun bb dx nb nx ne => ?_
    have s5 : Same H4 (upd (upd H4 dx (.own bb)) bb (.ins C dx [])) :=
      OM.Same.put (sameNew nx) nb
    refine ⟨bb, iv, dx, ls, rfl, upd_same, s5 _ _ v4, x.good,
      fun H6 ba6 b6 => ⟨rfl, _, rfl, ?_⟩⟩
    have s46 : Same H4 H6 := fun y o e => b6 y o (s5 y o e) (ne_of_none e nb)
    have s26 := (s3.trans s4).trans s46
    have v6 := s46 _ _ (s4 _ _ v3)
    refine ⟨bb, gv, ls, rs, rw o, rfl, ba6, rwo, v6, k5.same s26,
      fun g1 ro1 H7 ng nro lg7 s7 => ?_⟩
    have s27 := s26.trans s7
    have v7 := s7 _ _ v6
    have F7 := x2.same s27
    have ng2 := s26.free ng
    have nr2 := s26.free nro
    have lv : ll ≠ gv := ne_of_none x2.hl ngv
    have sv : sl ≠ gv := ne_of_none x2.hs ngv
    refine ⟨_, rfl, _, rfl, ll, lst4 g, j, j, rfl, rfl, F7.hl,
      ixN_at (by rw [l4]; exact hj), ?_⟩
    rw [lst4_set hj]
    have fr8 : ∀ a o, H7 a = some o → a ≠ ll →
        (upd H7 ll (.lst (lst4 (atK g j g1)))) a = some o := fun a o e n => by
      rw [upd_ne n]; exact e
    have l8 : (upd H7 ll (.lst (lst4 (atK g j g1)))) ll =
      some (.lst (lst4 (atK g j g1))) := upd_same
    generalize upd H7 ll (.lst (lst4 (atK g j g1))) = H8 at fr8 l8 ⊢
    have q8 : Quiet C H7 H8 := Quiet.of (S := fun a => a = ll)
      (fun a z => by rw [z]; exact F7.loudL) fun a o e n => fr8 _ _ e n
    have hs8 := fr8 _ _ F7.hs x2.ne.symm
    have sto8 := (F7.st o ho).stays x.good.ne q8
      (fun y e => fr8 _ _ e (by
        obtain ⟨_, z⟩ := (F7.st o ho).hasS
        exact ne_of z F7.hl nofun))
      (fun y e => fr8 _ _ e (x2.le o ho).symm)
    have free8 : ∀ a, H8 a = none → H2 a = none := fun a n => by
      cases e : H2 a with
      | none => rfl
      | some y =>
        by_cases c : a = ll
        · rw [c, l8] at n; cases n
        · rw [fr8 _ _ (s27 _ _ e) c] at n; cases n
    refine ⟨_, rfl, _, rfl, sl, _, _, _, rfl, rfl, SqL.of hs8, sO, s o, it o,
      en o, ls, rw o, rfl, sto8, fun s1 it1 en1 H9 ns nen st9 s9 => ?_⟩
    have hs9 := s9 _ _ hs8
    have v9 := s9 _ _ (fr8 _ _ v7 lv.symm)
    refine ⟨_, rfl, _, rfl, sl, lst4 s, j, j, rfl, rfl, hs9,
      ixN_at (by rw [l4]; exact hj), ?_⟩
    rw [lst4_set hj]
    have fr10 : ∀ a o, H9 a = some o → a ≠ sl →
        (upd H9 sl (.lst (lst4 (atK s j s1)))) a = some o := fun a o e n => by
      rw [upd_ne n]; exact e
    have h10 : (upd H9 sl (.lst (lst4 (atK s j s1)))) sl =
      some (.lst (lst4 (atK s j s1))) := upd_same
    generalize upd H9 sl (.lst (lst4 (atK s j s1))) = H10 at fr10 h10 ⊢
    have v10 := fr10 _ _ v9 sv.symm
    have sO' : atI (lst4 (atK s j s1)) (o : Int) = some (.ref (s o)) := by
      rw [atI_nat (lst4_get ho)]
      simp only [atK, if_neg noj]
    obtain ⟨od8, rs8, w1, w2, w3, w4, w5⟩ := sto8.ob
    have w1' := fr10 _ _ (s9 _ _ w1) (ne_of w1 hs8 nofun)
    have w4' := fr10 _ _ (s9 _ _ w4) (fun z => x2.se o ho z.symm)
    have tup10 : ∀ a xs, H8 a = some (.tup xs) → H10 a = some (.tup xs) :=
      fun a xs e => fr10 _ _ (s9 _ _ e) (ne_of e hs8 nofun)
    have k5' : EnsAt H10 rs (rw o) := (((k5.same s27).keep q8.tup).keep tup10)
    refine ⟨_, rfl, _, rfl, _, rfl, sl, _, _, _, rfl, rfl, SqL.of h10, sO', s o,
      _, rfl, dg_E w1', _, _, dp_Es (SqL.of v10) k5', dp_Es (SqL.of w4')
      (w5.keep tup10), shaped_E rwo.sme, shaped_E rwo.sme, _, rfl, ?_⟩
    rw [eqv_E, decide_eq_true rfl]
    refine iteF ?_
    refine ⟨_, rfl, .inl ⟨rfl, _, SqL.of v10⟩, gv, _, _, rfl, rfl, v10, ?_, ?_⟩
    · rw [List.length_map]
      exact sz' (by omega)
    refine ⟨_, rfl, .inl ⟨rfl, _, SqL.of upd_same⟩, gv, _, rfl, rfl, upd_same,
      ?_⟩
    have frF : ∀ {y z : HO} a o, H10 a = some o → a ≠ gv →
        (upd (upd H10 gv y) gv z) a = some o := fun a o e n => by
      rw [upd_ne n, upd_ne n]; exact e
    generalize hF : upd (upd H10 gv (.lst (rs.map V.ref ++ [V.non]))) gv
      (.lst (rs.map V.ref ++ [V.non]).reverse) = HF
    have frF' : ∀ a o, H10 a = some o → a ≠ gv → HF a = some o :=
      fun a o e n => by rw [← hF]; exact frF a o e n
    have fr7 : ∀ a o, H7 a = some o → ¬ (a = ll ∨ a = sl ∨ a = gv) →
        HF a = some o := fun a o e n => frF' _ _ (fr10 _ _ (s9 _ _ (fr8 _ _ e
      fun z => n (.inl z))) fun z => n (.inr (.inl z)))
      fun z => n (.inr (.inr z))
    have fr9 : ∀ a o, H9 a = some o → ¬ (a = sl ∨ a = gv) → HF a = some o :=
      fun a o e n => frF' _ _ (fr10 _ _ e fun z => n (.inl z))
        fun z => n (.inr z)
    have q7 : Quiet C H7 HF := Quiet.of (fun a z => by
      rcases z with z | z | z
      · rw [z]; exact F7.loudL
      · rw [z]; exact F7.loudS
      · rw [z]; exact .inl ⟨_, v7⟩) fr7
    have q9 : Quiet C H9 HF := Quiet.of (fun a z => by
      rcases z with z | z
      · rw [z]
        obtain ⟨rt, e⟩ := lst4_refs s
        exact .inl ⟨rt, e ▸ hs9⟩
      · rw [z]; exact .inl ⟨_, v9⟩) fr9
    have v8 := fr8 _ _ v7 lv.symm
    have new2 : ∀ a, H2 a = none → H7 a ≠ none → ¬ (a = ll ∨ a = sl) :=
      fun a n _ z => by
      rcases z with z | z
      · rw [z, x2.hl] at n; cases n
      · rw [z, x2.hs] at n; cases n
    obtain ⟨_, _, hg7⟩ := lg7.hasG
    obtain ⟨_, hr7⟩ := lg7.hasR
    have gnv : g1 ≠ gv := ne_of hg7 v7 nofun
    have rnv : ro1 ≠ gv := (ne_of_none v6 nro).symm
    have n9 : ∀ a, H8 a = none → ¬ (a = sl ∨ a = gv) := fun a n z => by
      rcases z with z | z
      · rw [z, hs8] at n; cases n
      · rw [z, v8] at n; cases n
    obtain ⟨FF, Qt⟩ := x2.turn rg2 hj (H' := HF)
      (fun a o e n1 n2 _ _ _ _ => fr7 _ _ (s27 _ _ e) fun z => by
        rcases z with z | z | z
        · exact n1 z
        · exact n2 z
        · rw [z, ngv] at e; cases e)
      (lg7.stays q7 (fun o e => fr7 _ _ e fun z => by
          rcases z with z | z | z
          · exact ne_of_none x2.hl ng2 z.symm
          · exact ne_of_none x2.hs ng2 z.symm
          · exact gnv z)
        fun o e => fr7 _ _ e fun z => by
          rcases z with z | z | z
          · exact ne_of_none x2.hl nr2 z.symm
          · exact ne_of_none x2.hs nr2 z.symm
          · exact rnv z)
      (st9.stays x.good.ne q9 (fun o e => fr9 _ _ e (n9 _ ns))
        fun o e => fr9 _ _ e (n9 _ nen))
      (.inr ng2) (.inr nr2) (.inr (free8 _ ns)) (.inr (free8 _ nen))
      (fun z => by
        rw [z, fr8 _ _ hr7 (ne_of_none x2.hl nr2).symm] at nen
        cases nen)
      (frF' _ _ (fr10 _ _ (s9 _ _ l8) x2.ne) lv)
      (frF' _ _ h10 sv)
    refine ⟨_, _, _, _, _, _, _, FF, ?_, Qt⟩
    obtain ⟨i1, i2, e, z⟩ := rg2
    refine ⟨i1, i2, fr7 _ _ (s27 _ _ e) fun w => ?_, z⟩
    obtain ⟨ra, e1⟩ := lst4_refs g
    obtain ⟨rt, e2⟩ := lst4_refs s
    rcases w with w | w | w
    · exact neRngR' ⟨i1, i2, e, z⟩ (e1 ▸ x2.hl) w.symm
    · exact neRngR' ⟨i1, i2, e, z⟩ (e2 ▸ x2.hs) w.symm
    · rw [w, ngv] at e; cases e
  refine ⟨_, rfl, rfl, _, rfl, ite2 (fun _ => ?_) (fun _ => ?_)⟩
  · -- cleared
    obtain ⟨oe, re, m1, m2, m3, m4, m5⟩ := stj.ob
    obtain ⟨dj, cj, ej⟩ := lgj.hasG
    refine ⟨_, rfl, _, rfl, sl, _, _, _, rfl, rfl, SqL.of x2.hs, sJ, s j, _, rfl,
      dg_I m1, it j, ls, rfl, m2, by omega, fun s1 en1 H3 ns nen st3 s3 => ?_⟩
    have F3 := x2.same s3
    refine ⟨_, rfl, _, rfl, sl, lst4 s, j, j, rfl, rfl, F3.hs,
      ixN_at (by rw [l4]; exact hj), ?_⟩
    rw [lst4_set hj]
    have fr4 : ∀ a o, H3 a = some o → a ≠ sl →
        (upd H3 sl (.lst (lst4 (atK s j s1)))) a = some o := fun a o e n => by
      rw [upd_ne n]; exact e
    have h4 : (upd H3 sl (.lst (lst4 (atK s j s1)))) sl =
      some (.lst (lst4 (atK s j s1))) := upd_same
    generalize upd H3 sl (.lst (lst4 (atK s j s1))) = H4 at fr4 h4 ⊢
    have q4 : Quiet C H3 H4 := Quiet.of (S := fun a => a = sl)
      (fun a z => by rw [z]; exact F3.loudS) fun a o e n => fr4 _ _ e n
    have ej4 := fr4 _ _ (s3 _ _ ej) (ne_of ej x2.hs nofun)
    have lg4 := (F3.lg j hj).stays q4
      (fun o e => fr4 _ _ e (ne_of ej x2.hs nofun))
      (fun o e => fr4 _ _ e (x2.sr j hj).symm)
    have hl4 := fr4 _ _ F3.hl x2.ne
    refine ⟨_, rfl, _, rfl, ll, _, _, _, rfl, rfl, SqL.of hl4, gJ, g j, dj, _,
      rfl, ej4, lf_no _ _ _ (by decide +kernel) (by decide +kernel)
      (by decide +kernel), g j, ro j, b j, ls, rw j, rfl, lg4,
      fun ro1 H5 nro lg5 b5 => ⟨rfl, ?_⟩⟩
    have fr5 : ∀ a o, H2 a = some o → a ≠ sl → a ≠ g j → H5 a = some o :=
      fun a o e n1 n2 => b5 _ _ (fr4 _ _ (s3 _ _ e) n1) n2
    have nsl : ∀ a, H2 a = none → a ≠ sl := fun a n z => by
      rw [z, x2.hs] at n; cases n
    have ngj : ∀ a, H2 a = none → a ≠ g j := fun a n z => by
      rw [z, ej] at n; cases n
    have q5 : Quiet C H3 H5 := q4.trans (Quiet.of (S := fun a => a = g j)
      (fun a z => by rw [z]; exact lg4.loudG) fun a o e n => b5 _ _ e n)
    have nr2 : H2 ro1 = none := by
      cases e : H2 ro1 with
      | none => rfl
      | some y =>
        by_cases c : ro1 = sl
        · rw [c, h4] at nro; cases nro
        · rw [fr4 _ _ (s3 _ _ e) c] at nro; cases nro
    have st5 := st3.stays x.good.ne q5
      (fun o e => b5 _ _ (fr4 _ _ e (nsl _ ns)) (ngj _ ns))
      (fun o e => b5 _ _ (fr4 _ _ e (nsl _ nen)) (ngj _ nen))
    obtain ⟨FF, Qt⟩ := x2.turn rg2 hj (H' := H5)
      (fun a o e _ n2 _ n4 _ _ => fr5 _ _ e n2 n4) lg5 st5 (.inl rfl) (.inr nr2)
      (.inr ns) (.inr nen) (fun z => by
        obtain ⟨_, e⟩ := st3.hasE
        rw [← z, fr4 _ _ e (nsl _ nen)] at nro
        cases nro)
      (by rw [atK_self]; exact fr5 _ _ x2.hl x2.ne (ne_of x2.hl ej nofun))
      (b5 _ _ h4 (ne_of h4 ej4 nofun))
    refine q _ _ _ _ _ _ _ H5 FF ?_ (q2.trans Qt)
    obtain ⟨i1, i2, e, z⟩ := rg2
    obtain ⟨rt, e2⟩ := lst4_refs s
    exact ⟨i1, i2, fr5 _ _ e (fun w => neRngR' ⟨i1, i2, e, z⟩ (e2 ▸ x2.hs)
      w.symm) (ne_of e ej nofun), z⟩
  obtain ⟨dj, cj, ej⟩ := lgj.hasG
  obtain ⟨oj, hj'⟩ := stj.hasS
  -- a swap
  have swd : ∀ rows' en' H3, H2 en' = none →
      Bth C L H3 (g j) (ro j) (b j) (s j) (it j) en' ls rows' → Rng H3 p →
      But4 p (g j) (ro j) (s j) H2 H3 → Q (.bl true) H3 := by
    intro rows' en' H3 nen B3 rg3 b3
    obtain ⟨ra, e1⟩ := lst4_refs g
    obtain ⟨rt, e2⟩ := lst4_refs s
    obtain ⟨FF, Qt⟩ := x2.turn rg2 hj (H' := H3)
      (fun a o e _ _ n3 n4 n5 n6 => b3 _ _ e n3 n4 n5 n6) B3.lg B3.st (.inl rfl)
      (.inl rfl) (.inl rfl) (.inr nen) B3.ne
      (by
        rw [atK_self]
        exact b3 _ _ x2.hl (neRngR' rg2 (e1 ▸ x2.hl)) (ne_of x2.hl ej nofun)
          (x2.lr j hj) (ne_of x2.hl hj' nofun))
      (by
        rw [atK_self]
        exact b3 _ _ x2.hs (neRngR' rg2 (e2 ▸ x2.hs)) (ne_of x2.hs ej nofun)
          (x2.sr j hj) (ne_of x2.hs hj' nofun))
    exact q _ _ _ _ _ _ _ H3 FF rg3 (q2.trans Qt)
  refine ⟨_, rfl, rfl, _, rfl, ite2 (fun _ => ⟨_, rfl, _, rfl, ll, _, _, _, rfl,
    rfl, SqL.of x2.hl, gJ, g j, dj, _, rfl, ej, g j, ro j, b j, ls, rw j, rfl,
    lgj, (rw j).length, rfl, ?_, _, _, rfl, rfl, _, rfl, ite2 (fun c => ?_)
    (fun _ => ?_)⟩) (fun _ => ?_)⟩
  · have := lgj.many
    omega
  rotate_left
  · exact ⟨_, rfl, _, rfl, _, rfl, ll, _, _, _, rfl, rfl, SqL.of x2.hl, gJ, _, rfl, _,
      rfl, sl, _, _, _, rfl, rfl, SqL.of x2.hs, sJ, p, g j, ro j, b j, s j, it j,
      en j, ls, rw j, rfl, rg2, ⟨lgj, stj, x2.er j j hj hj⟩, l2,
      fun rows' en' H3 nen B3 rg3 b3 => swd rows' en' H3 nen B3 rg3 b3⟩
  · exact ⟨_, rfl, _, rfl, _, rfl, ll, _, _, _, rfl, rfl, SqL.of x2.hl, gJ, _, rfl, _,
      rfl, sl, _, _, _, rfl, rfl, SqL.of x2.hs, sJ, p, g j, ro j, b j, s j, it j,
      en j, ls, rw j, rfl, rg2, ⟨lgj, stj, x2.er j j hj hj⟩, l2,
      fun rows' en' H3 nen B3 rg3 b3 => swd rows' en' H3 nen B3 rg3 b3⟩
  -- the last entry is removed
  have n0 : 0 < (rw j).length := by
    have : (0 : Int) < ((rw j).length : Int) := of_decide_eq_true c
    omega
  have many := lgj.many
  rcases List.eq_nil_or_concat (rw j) with h0 | ⟨rows0, e, h0⟩
  · rw [h0] at n0
    exact absurd n0 (by simp)
  rw [List.concat_eq_append] at h0
  have hlen : (rw j).length = rows0.length + 1 := by rw [h0]; simp
  refine ⟨_, rfl, _, rfl, ll, _, _, _, rfl, rfl, SqL.of x2.hl, gJ, g j, dj, _,
    rfl, ej, lf_no _ _ _ (by decide +kernel) (by decide +kernel)
    (by decide +kernel), _, rfl, _, rfl, ll, _, _, _, rfl, rfl, SqL.of x2.hl,
    gJ, g j, dj, _, rfl, ej, g j, ro j, b j, ls, rw j, rfl, lgj,
    (rw j).length, rfl, by omega, _, _, rfl, rfl, g j, ro j, b j, ls, rw j,
    rows0.length, ?_, lgj, by omega, fun qv ro1 H3 nq nro nqr lg3 hq b3 => ?_⟩
  · rw [hlen]
    show [V.ref (g j), V.int (((rows0.length + 1 : Nat) : Int) - 1)] = _
    rw [show ((rows0.length + 1 : Nat) : Int) - 1 = (rows0.length : Int) by
      omega]
  have t0 : (replN ls (rw j) rows0.length (rw j).length).1 = rows0 := by
    have := replN_last lgj.rw n0
    rw [show (rw j).length - 1 = rows0.length by omega] at this
    rw [this, h0]
    exact List.take_left' rfl
  rw [t0] at lg3
  have q3 : Quiet C H2 H3 := Quiet.of (S := fun a => a = g j)
    (fun a z => by rw [z]; exact lgj.loudG) fun a o e n => b3 _ _ e n
  have nsg : s j ≠ g j := ne_of hj' ej nofun
  obtain ⟨_, he2⟩ := stj.hasE
  have st3' := stj.stays x.good.ne q3 (fun o e => b3 _ _ e nsg)
    (fun o e => b3 _ _ e (ne_of he2 ej nofun))
  obtain ⟨od, rs, k1, k2, k3, k4, k5⟩ := st3'.ob
  rw [h0] at k3 k5
  obtain ⟨rs0, r, ers, e0, hr'⟩ := k5.last
  have hs3 := b3 _ _ x2.hs (ne_of x2.hs ej nofun)
  have ie : e.1 + 1 < ls.length := lgj.wd.ixs e.1 (List.mem_map_of_mem (by
    rw [h0]; exact List.mem_append_right _ List.mem_cons_self))
  refine ⟨_, rfl, _, rfl, sl, _, _, _, rfl, rfl, SqL.of hs3, sJ, s j, _, rfl,
    dg_E k1, _, rfl, en j, _, _, .ref r, rfl, rfl, SqL.of k4, ?_, r, _, rfl,
    .inl (.inl hr'), rfl, _, _, rfl, _, _, rfl, rfl, ?_⟩
  · rw [ers, List.map_append]
    exact atI_last _ _
  refine ⟨_, rfl, _, rfl, sl, _, _, _, rfl, rfl, SqL.of hs3, sJ, s j, _, rfl,
    dg_E k1, _, rfl, -1, rfl, en j, _, rfl, SqL.of k4, fun en1 nen => ?_⟩
  rw [ers, List.map_append]
  rw [show List.map V.ref [r] = [V.ref r] from rfl, cut_last]
  have s4 : Same H3 (upd H3 en1 (.lst (rs0.map V.ref))) := sameNew nen
  have v4 : (upd H3 en1 (.lst (rs0.map V.ref))) en1 =
    some (.lst (rs0.map V.ref)) := upd_same
  generalize upd H3 en1 (.lst (rs0.map V.ref)) = H4 at s4 v4 ⊢
  have k14 := s4 _ _ k1
  refine ⟨_, rfl, _, rfl, sl, _, _, _, rfl, rfl, SqL.of (s4 _ _ hs3), sJ, s j, _,
    rfl, DPut.k (k := kE) k14 (by show 3 < sizeLine; decide), ?_⟩
  rw [put_E]
  have b5 : But (s j) H4 (upd H4 (s j) (.dK (st3 (it j) od en1))) :=
    (But.refl H4).at
  have g5 : (upd H4 (s j) (.dK (st3 (it j) od en1))) (s j) =
    some (.dK (st3 (it j) od en1)) := upd_same
  generalize upd H4 (s j) (.dK (st3 (it j) od en1)) = H5 at b5 g5 ⊢
  have hs5 := b5 _ _ (s4 _ _ hs3) (ne_of hs3 k1 nofun)
  refine ⟨_, rfl, _, rfl, sl, _, _, _, rfl, rfl, SqL.of hs5, sJ, s j, _, rfl,
    dg_O g5, ?_⟩
  have er : run ls (ixs (rows0 ++ [e])) = exch (run ls (ixs rows0)) e.1 := by
    rw [show ixs (rows0 ++ [e]) = ixs rows0 ++ [e.1] from List.map_append,
      run_snoc]
  have ol : (run ls (ixs (rows0 ++ [e]))).length = ls.length := run_len _ _
  have ex : exch (run ls (ixs (rows0 ++ [e]))) e.1 = run ls (ixs rows0) := by
    rw [er, exch_exch]
  generalize run ls (ixs (rows0 ++ [e])) = os at k3 ol ex
  generalize e.1 = i at ie ex ⊢
  have o5 : H5 od = some (.lst (os.map vS)) :=
    b5 _ _ (s4 _ _ k3) (ne_of k3 k1 nofun)
  have hS : SqL K H5 od (os.map vS) := SqL.of o5
  have hil : i + 1 < (os.map vS).length := by rw [List.length_map]; omega
  refine ⟨_, rfl, _, rfl, i, rfl, od, _, rfl, hS, fun p1 n1 => ?_⟩
  rw [cut_to _ (by omega)]
  have s6 : Same H5 (upd H5 p1 (.lst ((os.map vS).take i))) := sameNew n1
  have v6 : (upd H5 p1 (.lst ((os.map vS).take i))) p1 =
    some (.lst ((os.map vS).take i)) := upd_same
  generalize upd H5 p1 (.lst ((os.map vS).take i)) = H6 at s6 v6 ⊢
  have hS6 := s6.seq hS
  refine ⟨_, rfl, _, rfl, _, _, rfl, rfl, od, _, _, (os.map vS)[i + 1], rfl, rfl,
    hS6, atI_nat (j := i + 1) (List.getElem?_eq_getElem hil), _, rfl, _, rfl,
    od, _, _, (os.map vS)[i], rfl, rfl, hS6, atI_nat (j := i)
    (List.getElem?_eq_getElem (by omega)), sz (by simp), fun p2 m2' => ?_⟩
  have s7 : Same H6 (upd H6 p2 (.lst [(os.map vS)[i + 1], (os.map vS)[i]])) :=
    sameNew m2'
  have v7 : (upd H6 p2 (.lst [(os.map vS)[i + 1], (os.map vS)[i]])) p2 =
    some (.lst [(os.map vS)[i + 1], (os.map vS)[i]]) := upd_same
  generalize upd H6 p2 (.lst [(os.map vS)[i + 1], (os.map vS)[i]]) = H7
    at s7 v7 ⊢
  refine ⟨p1, p2, _, _, rfl, rfl, s7 _ _ v6, v7, ?_, fun p3 m3' => ?_⟩
  · rw [List.length_take]
    exact sz (by simp; omega)
  have s8 : Same H7 (upd H7 p3 (.lst ((os.map vS).take i ++
    [(os.map vS)[i + 1], (os.map vS)[i]]))) := sameNew m3'
  have v8 : (upd H7 p3 (.lst ((os.map vS).take i ++
    [(os.map vS)[i + 1], (os.map vS)[i]]))) p3 =
    some (.lst ((os.map vS).take i ++
      [(os.map vS)[i + 1], (os.map vS)[i]])) := upd_same
  generalize upd H7 p3 (.lst ((os.map vS).take i ++
    [(os.map vS)[i + 1], (os.map vS)[i]])) = H8 at s8 v8 ⊢
  refine ⟨_, rfl, _, rfl, _, _, rfl, rfl, _, rfl, od, _, rfl,
    s8.seq (s7.seq hS6), fun p4 m4' => ?_⟩
  rw [show (i : Int) + 2 = ((i + 2 : Nat) : Int) by omega,
    cut_from _ (by omega)]
  have s9 : Same H8 (upd H8 p4 (.lst ((os.map vS).drop (i + 2)))) := sameNew m4'
  have v9 : (upd H8 p4 (.lst ((os.map vS).drop (i + 2)))) p4 =
    some (.lst ((os.map vS).drop (i + 2))) := upd_same
  generalize upd H8 p4 (.lst ((os.map vS).drop (i + 2))) = H9 at s9 v9 ⊢
  refine ⟨p3, p4, _, _, rfl, rfl, s9 _ _ v8, v9, ?_, fun p5 m5' => ?_⟩
  · rw [List.length_append, List.length_take, List.length_drop]
    exact sz (by simp; omega)
  rw [← exch_eq hil, exch_map, ex]
  have s10 : Same H9 (upd H9 p5 (.lst ((run ls (ixs rows0)).map vS))) :=
    sameNew m5'
  have v10 : (upd H9 p5 (.lst ((run ls (ixs rows0)).map vS))) p5 =
    some (.lst ((run ls (ixs rows0)).map vS)) := upd_same
  generalize upd H9 p5 (.lst ((run ls (ixs rows0)).map vS)) = H10 at s10 v10 ⊢
  have s510 := ((((s6.trans s7).trans s8).trans s9).trans s10)
  have g10 := s510 _ _ g5
  refine ⟨_, rfl, _, rfl, sl, _, _, _, rfl, rfl, SqL.of (s510 _ _ hs5), sJ, s j,
    _, rfl, DPut.k (k := kO) g10 (by show 3 < sizeLine; decide), ?_⟩
  rw [put_O]
  have bF : But (s j) H10 (upd H10 (s j) (.dK (st3 (it j) p5 en1))) :=
    (But.refl H10).at
  have gF : (upd H10 (s j) (.dK (st3 (it j) p5 en1))) (s j) =
    some (.dK (st3 (it j) p5 en1)) := upd_same
  generalize upd H10 (s j) (.dK (st3 (it j) p5 en1)) = HF at bF gF ⊢
  have fr3 : ∀ a o, H3 a = some o → a ≠ s j → HF a = some o := fun a o e n =>
    bF _ _ (s510 _ _ (b5 _ _ (s4 _ _ e) n)) n
  have fr4 : ∀ a o, H4 a = some o → a ≠ s j → HF a = some o := fun a o e n =>
    bF _ _ (s510 _ _ (b5 _ _ e n)) n
  have qF : Quiet C H3 HF := Quiet.of (S := fun a => a = s j)
    (fun a z => by rw [z]; exact st3'.loud) fun a o e n => fr3 _ _ e n
  obtain ⟨_, _, hg3⟩ := lg3.hasG
  obtain ⟨_, hr3⟩ := lg3.hasR
  have nen2 : H2 en1 = none := by
    cases z : H2 en1 with
    | none => rfl
    | some y =>
      rw [b3 _ _ z fun w => by rw [w, hg3] at nen; cases nen] at nen
      cases nen
  have stF : StAt HF (s j) (it j) en1 ls rows0 := by
    refine ⟨p5, rs0, gF, fr3 _ _ k2 (ne_of k2 k1 nofun), ?_, ?_, ?_⟩
    · exact bF _ _ v10 (ne_of v10 g10 nofun)
    · exact fr4 _ _ v4 (ne_of v4 k14 nofun)
    · exact e0.keep qF.tup
  obtain ⟨FF, Qt⟩ := x2.turn rg2 hj (H' := HF)
    (fun a o e _ _ _ n4 _ n6 => fr3 _ _ (b3 _ _ e n4) n6)
    (lg3.stays qF (fun o e => fr3 _ _ e nsg.symm)
      fun o e => fr3 _ _ e (ne_of hr3 k1 nofun))
    stF (.inl rfl) (.inr nro) (.inl rfl) (.inr nen2)
    (fun z => by rw [z, hr3] at nen; cases nen)
    (by
      rw [atK_self]
      exact fr3 _ _ (b3 _ _ x2.hl (ne_of x2.hl ej nofun))
        (ne_of x2.hl hj' nofun))
    (by
      rw [atK_self]
      exact fr3 _ _ hs3 (ne_of hs3 k1 nofun))
  refine ⟨_, _, _, _, _, _, _, FF, ?_, Qt⟩
  obtain ⟨i1, i2, e, z⟩ := rg2
  exact ⟨i1, i2, fr3 _ _ (b3 _ _ e (ne_of e ej nofun)) (ne_of e hj' nofun), z⟩
end
end OM
namespace OM
open PySem PySem.Spec PyProof.Rows L2
/-! ### lists of orders -/
abbrev Nms := List (List Nat)
def OsAt (H : Hp) (rs : List Addr) (os : List Nms) : Prop :=
  Paired (fun r o => H r = some (.lst (o.map vS))) rs os
theorem OsAt.same {H H' : Hp} : ∀ {rs : List Addr} {os : List Nms},
    OsAt H rs os → Same H H' → OsAt H' rs os
  | _, _, .nil, _ => .nil
  | _, _, .cons h t, s => .cons (s _ _ h) (OsAt.same t s)
theorem OsAt.keep {H H' : Hp} : ∀ {rs : List Addr} {os : List Nms},
    OsAt H rs os → (∀ r o, r ∈ rs → H r = some o → H' r = some o) →
    OsAt H' rs os
  | _, _, .nil, _ => .nil
  | _, _, .cons h t, s => .cons (s _ _ List.mem_cons_self h)
    (OsAt.keep t fun r o m => s r o (List.mem_cons_of_mem _ m))
theorem OsAt.snoc {H : Hp} {r : Addr} {o : Nms}
    (h : H r = some (.lst (o.map vS))) :
    ∀ {rs : List Addr} {os : List Nms}, OsAt H rs os →
      OsAt H (rs ++ [r]) (os ++ [o])
  | _, _, .nil => .cons h .nil
  | _, _, .cons a t => .cons a (OsAt.snoc h t)
theorem OsAt.len {H : Hp} : ∀ {rs : List Addr} {os : List Nms},
    OsAt H rs os → rs.length = os.length
  | _, _, .nil => rfl
  | _, _, .cons _ t => congrArg (· + 1) (OsAt.len t)
theorem OsAt.mem {H : Hp} : ∀ {rs : List Addr} {os : List Nms},
    OsAt H rs os → ∀ r ∈ rs, ∃ o ∈ os, H r = some (.lst (o.map vS))
  | _, _, .nil, _, m => by cases m
  | _, _, .cons h t, r, m => by
    rcases List.mem_cons.mp m with z | z
    · exact ⟨_, List.mem_cons_self, z ▸ h⟩
    · obtain ⟨o, mo, e⟩ := OsAt.mem t r z
      exact ⟨o, List.mem_cons_of_mem _ mo, e⟩
abbrev dO (o : Nms) : PyData := .list (dN o)
abbrev dOs (os : List Nms) : List PyData := os.map dO
theorem dpAll_O {K : PySem.W.Frag} {H : Hp} : ∀ {rs : List Addr}
    {os : List Nms}, OsAt H rs os → DpAll K H (rs.map V.ref) (dOs os)
  | _, _, .nil => .nil
  | _, _, .cons h t => .cons (dp_N (SqL.of h)) (dpAll_O t)
theorem dp_Os {K : PySem.W.Frag} {H : Hp} {a : Addr} {rs : List Addr}
    {os : List Nms} (h : SqL K H a (rs.map V.ref)) (p : OsAt H rs os) :
    Dp K H (.ref a) (.list (dOs os)) := .lst h (dpAll_O p)
theorem eqv_OA : ∀ os ps : List Nms,
    PyData.eqvAll (dOs os) (dOs ps) = decide (os = ps)
  | [], [] => by simp [PyData.eqvAll]
  | [], m :: ms => by simp [PyData.eqvAll]
  | l :: ls, [] => by simp [PyData.eqvAll]
  | l :: ls, m :: ms => by
    have ih := eqv_OA ls ms
    show (PyData.eqv (dO l) (dO m) && PyData.eqvAll (dOs ls) (dOs ms)) = _
    rw [ih, eqv_L]
    by_cases e : l = m
    · subst e
      simp
    · have : ¬ (l :: ls = m :: ms) := fun z => e (List.cons.inj z).1
      rw [decide_eq_false e, decide_eq_false this]
      rfl
theorem eqv_O (os ps : List Nms) :
    PyData.eqv (.list (dOs os)) (.list (dOs ps)) = decide (os = ps) := by
  rw [show PyData.eqv (.list (dOs os)) (.list (dOs ps)) =
    PyData.eqvAll (dOs os) (dOs ps) by simp only [PyData.eqv]]
  exact eqv_OA os ps
theorem lay_Os : ∀ os : List Nms, (∀ o ∈ os, Uni o) →
    PyData.canLayAll0 (dOs os) = true
  | [], _ => by simp [PyData.canLayAll0]
  | o :: os, h => by
    have ih := lay_Os os fun x hx => h x (List.mem_cons_of_mem _ hx)
    have hp := lay_N o (h o List.mem_cons_self)
    show PyData.canLayAll0 (dO o :: dOs os) = true
    rw [show PyData.canLayAll0 (dO o :: dOs os) =
      (PyData.canLay0 (dO o) && PyData.canLayAll0 (dOs os)) by
        simp only [PyData.canLayAll0], ih,
      show PyData.canLay0 (dO o) = PyData.canLayAll0 (dN o) by
        simp only [PyData.canLay0], hp]
    rfl
theorem depth_OA : ∀ os : List Nms, PyData.depthAll (dOs os) ≤ 2
  | [] => by simp [PyData.depthAll]
  | o :: os => by
    have ih := depth_OA os
    have h : (dO o).depth ≤ 2 := depth_L o
    show PyData.depthAll (dO o :: dOs os) ≤ 2
    rw [show PyData.depthAll (dO o :: dOs os) =
      max (dO o).depth (PyData.depthAll (dOs os)) by
        simp only [PyData.depthAll]]
    omega
theorem shaped_O {os : List Nms} (h : ∀ o ∈ os, Uni o) :
    SeqAt.shaped (.list (dOs os)) = true := by
  unfold SeqAt.shaped
  rw [show PyData.canLay0 (.list (dOs os)) = PyData.canLayAll0 (dOs os) by
    simp only [PyData.canLay0], lay_Os os h]
  have d : (PyData.list (dOs os)).depth = PyData.depthAll (dOs os) + 1 := by
    simp only [PyData.depth]
  have := depth_OA os
  exact decide_eq_true (by omega)
end OM
namespace OM
open PySem PySem.Spec PyProof.Rows L2
/-! ### lists of numbers, once more -/
theorem eqv_K : ∀ ks : List Nat, PyData.eqvAll (dIs ks) (dIs ks) = true
  | [] => by simp [PyData.eqvAll]
  | k :: ks => by
    have ih := eqv_K ks
    show (PyData.eqv (.int (k : Int)) (.int (k : Int)) &&
      PyData.eqvAll (dIs ks) (dIs ks)) = true
    rw [ih]
    simp [PyData.eqv]
theorem eqv_KL (ks : List Nat) :
    PyData.eqv (.list (dIs ks)) (.list (dIs ks)) = true := by
  rw [show PyData.eqv (.list (dIs ks)) (.list (dIs ks)) =
    PyData.eqvAll (dIs ks) (dIs ks) by simp only [PyData.eqv]]
  exact eqv_K ks
theorem shaped_K {ks : List Nat} : SeqAt.shaped (.list (dIs ks)) = true := by
  have lay : ∀ ks : List Nat, PyData.canLayAll0 (dIs ks) = true := by
    intro ks
    induction ks with
    | nil => simp [PyData.canLayAll0]
    | cons k r ih =>
      show PyData.canLayAll0 (.int (k : Int) :: dIs r) = true
      rw [show PyData.canLayAll0 (.int (k : Int) :: dIs r) =
        (PyData.canLay0 (.int (k : Int)) && PyData.canLayAll0 (dIs r)) by
          simp only [PyData.canLayAll0], ih]
      simp [PyData.canLay0]
  unfold SeqAt.shaped
  rw [show PyData.canLay0 (.list (dIs ks)) = PyData.canLayAll0 (dIs ks) by
    simp only [PyData.canLay0], lay ks]
  have d : (PyData.list (dIs ks)).depth = PyData.depthAll (dIs ks) + 1 := by
    simp only [PyData.depth]
  have := depth_IA ks
  exact decide_eq_true (by omega)
/-- where the entry of a pair is -/
def dueK (ps : List Pr) (p : Pr) (n : Nat) : List Nat :=
  (List.range n).filter fun k => decide (ps.getD k ([], []) = p)
theorem dueK_succ (ps : List Pr) (p : Pr) (n : Nat) : dueK ps p (n + 1) =
    dueK ps p n ++ (if ps.getD n ([], []) = p then [n] else []) := by
  unfold dueK
  rw [List.range_succ, List.filter_append]
  congr 1
  by_cases c : ps.getD n ([], []) = p
  · rw [if_pos c]
    simp only [List.filter, c, decide_true]
  · rw [if_neg c]
    simp only [List.filter, c, decide_false]
theorem dueK_len (ps : List Pr) (p : Pr) (n : Nat) :
    (dueK ps p n).length ≤ n := by
  refine Nat.le_trans (List.length_filter_le _ _) ?_
  rw [List.length_range]
  exact Nat.le_refl _
theorem getD_at {α : Type} {d : α} {xs : List α} {k : Nat} (h : k < xs.length) :
    xs.getD k d = xs[k] := by
  rw [List.getD_eq_getElem?_getD, List.getElem?_eq_getElem h]
  rfl
end OM
namespace OM
open PySem PySem.Spec PyProof.Rows L2
def spAsk29 (C L : Addr) : Sp := fun vs H Q _ =>
  ∃ (g ro b s it en : Addr) (ls : List (List Nat)) (rows : List En),
  vs = [.ref g, .ref s] ∧ LogAt C L H g ro b ls rows ∧
  StAt H s it en ls rows ∧ 2 ≤ ls.length ∧ ∀ H', Same H H' → Q (.bl true) H'
theorem ixN_at' {n j : Nat} (h : j < n) : ixN n (j : Int) = some j := by
  unfold ixN
  rw [if_pos (by omega), if_pos (by omega)]
  rfl
theorem idx_at {α : Type} [BEq α] [LawfulBEq α] {xs : List α} {k : Nat}
    (nd : xs.Nodup) (h : k < xs.length) : xs.idxOf xs[k] = k := by
  have hj := List.idxOf_lt_length_of_mem (List.getElem_mem h)
  exact (List.getElem_inj nd).mp (List.getElem_idxOf hj)
theorem due_all {ls : List (List Nat)} {rows : List En} (x : Rw ls rows)
    {l m : List Nat} (h : ls.idxOf m < ls.idxOf l) :
    dueK (prsOf ls (ixs rows)) (m, l) rows.length = entL ls rows l m := by
  have pe : pairOf ls l m = (m, l) := by
    unfold pairOf
    rw [if_neg (by omega)]
  unfold entL
  rw [pe]
  have ln : rows.length = (prsOf ls (ixs rows)).length := by
    rw [prsOf_len, List.length_map]
  rw [ln]
  have nd := x.rep.nd
  generalize prsOf ls (ixs rows) = ps at nd ⊢
  unfold dueK
  by_cases c : (m, l) ∈ ps
  · rw [if_pos c]
    have hj := List.idxOf_lt_length_of_mem c
    rw [filter_one (j := ps.idxOf (m, l)) ps.length fun k hk => ?_, if_pos hj]
    rw [decide_eq_true_eq, getD_at hk]
    constructor
    · intro z
      rw [← z]
      exact (idx_at nd hk).symm
    · intro z
      subst z
      exact List.getElem_idxOf hj
  · rw [if_neg c]
    refine filter_none ps.length fun k hk => decide_eq_false fun z => c ?_
    rw [getD_at hk] at z
    rw [← z]
    exact List.getElem_mem hk
section
variable {P : Program} {w : World} {K : PySem.W.Frag}
  {mg : Str → Option Value} {base : Heap} {C L : Addr}
theorem ok_ask29 {f : Addr} {fd : FuncData} {k : Nat}
    (F : Fun K "_law_asked_right" "_law_asked_right" s_Lasked_right f fd)
    (B : Bl mg)
    (Ma : CalM P w K mg base L k "order_after" ["self", "count"]
      (spLAfter C L))
    (Mp : CalM P w K mg base L k "pair_at" ["self", "position"]
      (spLPair C L))
    (Mf : CalM P w K mg base L k "entry_for" ["self", "first", "second"]
      (spLFor C L)) :
    FnG P w K mg base CX0 (k + 1) f fd ["_law_log", "_law_state"]
      (spAsk29 C L) := by
  refine okG F sc_Lasked_right (fun vs H Q E h => ?_)
    (fun cv A outer s H vs Q E hr gd h => ?_)
  · obtain ⟨g, ro, b, sa, it, en, ls, rows, rfl, _⟩ := h
    rfl
  obtain ⟨g, ro, b, sa, it, en, ls, rows, rfl, x, st, l2, q⟩ := h
  have nd := sc_Lasked_right.nd
  have hu := hu_of hr
  refine ⟨_, C8.pss_cut (ps_asg (pe_tup (pa_cons (pe_callTy call_list_of
        (by rfl) B.list bt_list (pa_cons (pe_dget hu (pv 1) pe_str
          (fun _ _ => rfl)) pa_nil))
        (pa_cons (pe_lst pa_nil) (pa_cons (pe_lst pa_nil) pa_nil))))
      (pg_tup rfl (pgs_cons (pg_name (i := 2) nd rfl (.inl rfl))
        (pgs_cons (pg_name (i := 3) nd rfl (.inr rfl))
        (pgs_cons (pg_name (i := 4) nd rfl (.inl rfl)) pgs_nil)))))
    (C8.pss_cut (ps_for PassesOwn.never rfl
      (pi_list (pe_dget hu (pv 1) pe_str (fun _ _ => rfl)))
      (pg_tup rfl (pgs_cons (pg_name (i := 5) nd rfl (.inl rfl))
        (pgs_cons (pg_name (i := 6) nd rfl (.inl rfl)) pgs_nil)))
      (pss_cons (ps_expr (pe_bm PySem.F.plainAttrs_list
        PySem.F.slot_list_append PySem.F.type_list_append mt_append (pv 4)
        (pa_cons (pe_callTy call_list_of (by rfl) B.list bt_list
          (pa_cons (pv 2) pa_nil)) pa_nil)))
      (pss_cons (ps_expr (pe_bm PySem.F.plainAttrs_list
        PySem.F.slot_list_append PySem.F.type_list_append mt_append (pv 3)
        (pa_cons (pe_tup (pa_cons
          (pe_ix ix_list (pv 2) (pv 5) (fun _ _ => rfl)) (pa_cons
          (pe_ix ix_list (pv 2) (pe_op op_add (pv 5) pe_int)
            (fun _ _ => rfl)) pa_nil))) pa_nil)))
      (pss_one (ps_asg (pe_tup (pa_cons
          (pe_ix ix_list (pv 2) (pe_op op_add (pv 5) pe_int) (fun _ _ => rfl))
          (pa_cons (pe_ix ix_list (pv 2) (pv 5) (fun _ _ => rfl)) pa_nil)))
        (pg_tup rfl (pgs_cons (pg_sub (pv 2) (pv 5) set_list)
          (pgs_cons (pg_sub (pv 2) (pe_op op_add (pv 5) pe_int) set_list)
            pgs_nil))))))))
    (pss_cons (ps_set (i := 7) nd rfl (.inl rfl)
      (pe_callB call_len_seq (by rfl) B.len PySem.boot_len
        (pa_cons (pv 3) pa_nil)))
    (C8.pss_cut (ps_if (PW.pt (pw_or (pt_cmpR (op_neD hr.units)
          (pe_lc (own := [("_law_k", 8)]) (g := gName 8) (tt := tYes) rfl nd
            (pi_range1 (by rfl) B.range (pa_cons (pv 7) pa_nil))
            (blkOk_by (N := N_Lasked_right) (sc := defScope s_Lasked_right)
              (by decide +kernel))
            (fun _ _ _ _ _ => pg_name (i := 8) nd rfl (Or.inl rfl))
            (fun _ _ _ _ _ => pts_nil)
            (fun _ _ _ _ _ => pe_calM Mp hr (pv 0) (pa_cons (pv 8) pa_nil)))
          (pv 3) (nomark _))
        (pw_or1 (pt_cmpR (op_neD hr.units)
          (pe_lc (own := [("_law_k", 8)]) (g := gName 8) (tt := tYes) rfl nd
            (pi_range1 (by rfl) B.range (pa_cons (pv 7) pa_nil))
            (blkOk_by (N := N_Lasked_right) (sc := defScope s_Lasked_right)
              (by decide +kernel))
            (fun _ _ _ _ _ => pg_name (i := 8) nd rfl (Or.inl rfl))
            (fun _ _ _ _ _ => pts_nil)
            (fun _ _ _ _ _ => pe_calM Ma hr (pv 0) (pa_cons (pv 8) pa_nil)))
          (pv 4) (nomark _)))))
        (pss_one ps_never) pss_nil)
    (C8.pss_cut (ps_asg (pe_tup (pa_cons (pe_ix ix_list (pe_dget hu (pv 1)
          pe_str (fun _ _ => rfl)) pe_int (fun _ _ => rfl)) (pa_cons
          (pe_ix ix_list (pe_dget hu (pv 1) pe_str (fun _ _ => rfl))
            (pe_un un_neg pe_int) (fun _ _ => rfl)) pa_nil)))
      (pg_tup rfl (pgs_cons (pg_name (i := 9) nd rfl (.inr rfl))
        (pgs_cons (pg_name (i := 10) nd rfl (.inr rfl)) pgs_nil))))
    (C8.pss_cut (ps_set (i := 11) nd rfl (.inl rfl) (pe_op op_cat
      (pe_lc (own := [("_law_k", 8)]) (g := gName 8) rfl nd
        (pi_range1 (by rfl) B.range (pa_cons (pv 7) pa_nil))
        (blkOk_by (N := N_Lasked_right) (sc := defScope s_Lasked_right)
          (by decide +kernel))
        (fun _ _ _ _ _ => pg_name (i := 8) nd rfl (Or.inl rfl))
        (fun _ _ _ _ _ => pts_one (pt_cmpR (r := rEqD K) (op_eqD hr.units)
          (pe_ix (r := rIxL K) ix_list (pv 3) (pv 8) (fun _ _ => rfl))
          (pe_tup (pa_cons (pv 9) (pa_cons (pv 10) pa_nil))) (nomark _)))
        (fun _ _ _ _ _ => pv 8)) (pe_lst (pa_cons pe_non pa_nil))))
    (C8.pss_cut (ps_if (pt_cmpR op_ne
        (pe_callB (call_reprD hr gd) (by rfl) B.repr bt_repr (pa_cons
          (pe_calM Mf hr (pv 0) (pa_cons (pv 10) (pa_cons (pv 9) pa_nil)))
          pa_nil))
        (pe_callB (call_reprD hr gd) (by rfl) B.repr bt_repr (pa_cons
          (pe_ix ix_list (pv 11) pe_int (fun _ _ => rfl)) pa_nil)) (nomark _))
        (pss_one ps_never) pss_nil)
    (pss_one (ps_ret (pe_cmpR (op_eqD hr.units)
      (pe_lc (own := [("_law_lower", 13), ("_law_upper", 12)])
        (g := gTup K 2 (gCons (gName 13) (gCons (gName 12) gNil)))
        (tt := tYes) rfl nd (pi_list (pv 3))
        (blkOk_by (N := N_Lasked_right) (sc := defScope s_Lasked_right)
          (by decide +kernel))
        (fun _ _ _ _ _ => pg_tup rfl (pgs_cons (pg_name (i := 13) nd rfl
          (Or.inl rfl)) (pgs_cons (pg_name (i := 12) nd rfl (Or.inl rfl))
          pgs_nil)))
        (fun _ _ _ _ _ => pts_nil)
        (fun _ _ _ _ _ => pe_calM Mf hr (pv 0) (pa_cons (pv 12)
          (pa_cons (pv 13) pa_nil))))
      (pe_listRg (by rfl) (by rfl) B.list (prg_1 (by rfl) B.range (pv 7)))
      (nomark _)))))))))), ?_⟩
  have lno : ∀ {b cu ro : Addr} {m : Str}, ¬ m = "ground" → ¬ m = "current" →
    ¬ m = "rows" → (lf b cu ro).lookup m = none := fun a b c => lf_no _ _ _ a b c
  have rwx := x.rw
  have many := x.many
  have good := x.good
  have h40 := good.hi
  have up := UniP_prs good x.wd
  obtain ⟨dx, cu, rsl, w1, w2, w3, w4⟩ := x.ob
  obtain ⟨so, rs, h1, h2, h3, h4, h5⟩ := st.ob
  have lrs := h5.len
  -- the three lists
  refine ⟨fun σ' H' => ∃ od pr ol, σ' = [some (.ref g), some (.ref sa),
    some (.ref od), some (.ref pr), some (.ref ol), none, none, none, none, none,
    none, none, none, none] ∧ H od = none ∧ H pr = none ∧ H ol = none ∧
    pr ≠ ol ∧ H' od = some (.lst (ls.map vS)) ∧ H' pr = some (.lst []) ∧
    H' ol = some (.lst []) ∧ Same H H', ?_, ?_⟩
  · refine ⟨_, rfl, sa, _, rfl, dg_I h1, it, _, rfl, .inl (SqL.of h2),
      fun od nod => ?_⟩
    have s1 : Same H (upd H od (.lst (ls.map vS))) := sameNew nod
    have k1 : (upd H od (.lst (ls.map vS))) od = some (.lst (ls.map vS)) :=
      upd_same
    generalize upd H od (.lst (ls.map vS)) = H1 at s1 k1 ⊢
    refine ⟨sz (by simp), fun pr npr => ?_⟩
    have s2 : Same H1 (upd H1 pr (.lst [])) := sameNew npr
    have k2 : (upd H1 pr (.lst [])) pr = some (.lst []) := upd_same
    generalize upd H1 pr (.lst []) = H2 at s2 k2 ⊢
    refine ⟨sz (by simp), fun ol nol => ?_⟩
    have s3 : Same H2 (upd H2 ol (.lst [])) := sameNew nol
    have k3 : (upd H2 ol (.lst [])) ol = some (.lst []) := upd_same
    generalize upd H2 ol (.lst []) = H3 at s3 k3 ⊢
    refine ⟨sz (by simp), fun t nt => ?_⟩
    have s13 := (s1.trans s2).trans s3
    exact ⟨t, _, rfl, .inl (.inl upd_same), rfl, _, _, rfl, _, _, rfl, _, _, rfl,
      rfl, od, pr, ol, rfl, nod, s1.free npr, (s1.trans s2).free nol,
      ne_of_none k2 nol, sameNew nt _ _ (s3 _ _ (s2 _ _ k1)),
      sameNew nt _ _ (s3 _ _ k2), sameNew nt _ _ k3,
      s13.trans (sameNew nt)⟩
  rintro _ H1 ⟨od, pr, ol, rfl, nod, npr, nol, npo, ho1, hp1, hq1, s1⟩
  -- entry by entry
  refine ⟨fun σ' H' => ∃ y5 y6 rp qs, σ' = [some (.ref g), some (.ref sa),
    some (.ref od), some (.ref pr), some (.ref ol), y5, y6, none, none, none,
    none, none, none, none] ∧ H' pr = some (.lst (rp.map V.ref)) ∧
    PrsAt H' rp (prsOf ls (ixs rows)) ∧ H' ol = some (.lst (qs.map V.ref)) ∧
    OsAt H' qs ((List.range rows.length).map fun m =>
      run ls (ixs (rows.take m))) ∧ Same H H', ?_, ?_⟩
  · refine ⟨_, rfl, sa, _, rfl, dg_E (s1 _ _ h1), en, rfl,
      ⟨_, SqL.of (s1 _ _ h4)⟩, ?_⟩
    refine for_list (K := K) (a := en) (xs := rs.map V.ref)
      (fun i σ H' => ∃ y5 y6 rp qs, σ = [some (.ref g), some (.ref sa),
        some (.ref od), some (.ref pr), some (.ref ol), y5, y6, none, none, none,
        none, none, none, none] ∧
        H' od = some (.lst ((run ls (ixs (rows.take i))).map vS)) ∧
        H' pr = some (.lst (rp.map V.ref)) ∧
        PrsAt H' rp (prsOf ls (ixs (rows.take i))) ∧
        H' ol = some (.lst (qs.map V.ref)) ∧
        OsAt H' qs ((List.range i).map fun m => run ls (ixs (rows.take m))) ∧
        (∀ r ∈ qs, r ≠ od) ∧ Same H H')
      ⟨none, none, [], [], rfl, ho1, hp1, .nil, hq1, .nil, nofun, s1⟩
      (fun i σ H' _ z => by
        obtain ⟨_, _, _, _, _, _, _, _, _, _, _, z⟩ := z
        exact SqL.of (z _ _ h4)) ?_ ?_
    · rintro i v σ H4 hv ⟨y5, y6, rp, qs, rfl, o4, p4, r4, q4, t4, n4, s4⟩
      rw [List.getElem?_map] at hv
      obtain ⟨r, hr', rfl⟩ := Option.map_eq_some_iff.mp hv
      have hi' : i < rows.length := by
        have := (List.getElem?_eq_some_iff.mp hr').1
        omega
      have gi : rows[i]? = some rows[i] := List.getElem?_eq_getElem hi'
      obtain ⟨r2, er, ht⟩ := (h5.same s4).get gi
      rw [er] at hr'
      cases Option.some.inj hr'
      have hx := x.wd.ixs _ (List.mem_map_of_mem (f := (·.1))
        (List.getElem_mem hi'))
      have tk : ixs (rows.take (i + 1)) = ixs (rows.take i) ++ [rows[i].1] := by
        rw [List.take_add_one, gi]
        exact List.map_append
      have ols : (run ls (ixs (rows.take i))).length = ls.length := run_len _ _
      have gos : Good (run ls (ixs (rows.take i))) := good.perm
        (Of.run (ixs (rows.take i)) ⟨good.nd, List.Perm.refl _⟩).pm
      have r1 : run ls (ixs (rows.take (i + 1))) =
          exch (run ls (ixs (rows.take i))) rows[i].1 := by
        rw [tk, run_snoc]
      have pp : prsOf ls (ixs (rows.take (i + 1))) =
          prsOf ls (ixs (rows.take i)) ++
            [nbr (run ls (ixs (rows.take i))) rows[i].1] := by
        rw [tk, prsOf_snoc]
      have osr : (List.range (i + 1)).map (fun m => run ls (ixs (rows.take m))) =
          (List.range i).map (fun m => run ls (ixs (rows.take m))) ++
            [run ls (ixs (rows.take i))] := by
        rw [List.range_succ, List.map_append]
        rfl
      have lr := r4.len
      rw [prsOf_len, List.length_map, List.length_take] at lr
      have lq := t4.len
      rw [List.length_map, List.length_range] at lq
      have nes : ∀ o ∈ (List.range i).map (fun m => run ls (ixs (rows.take m))) ++
          [run ls (ixs (rows.take i))], o ≠ [] := fun o ho => by
        rcases List.mem_append.mp ho with z | z
        · obtain ⟨m, _, rfl⟩ := List.mem_map.mp z
          exact run_ne _ good.ne
        · rw [List.mem_singleton.mp z]
          exact run_ne _ good.ne
      rw [r1, pp, osr]
      have ht : H4 r = some (.tup [.int (rows[i].1 : Int), vS rows[i].2]) := ht
      generalize (List.range i).map (fun m => run ls (ixs (rows.take m))) = oss
        at t4 nes ⊢
      generalize hp : rows[i].1 = a at hx ht ⊢
      generalize run ls (ixs (rows.take i)) = os at o4 ols gos nes ⊢
      refine ⟨r, _, rfl, .inl (.inl ht), rfl, _, _, rfl, _, _, rfl, rfl, ?_⟩
      have nopr : od ≠ pr := ne_nr o4 gos.ne p4
      have noql : od ≠ ol := ne_nr o4 gos.ne q4
      -- the order so far
      refine ⟨_, rfl, .inl ⟨rfl, _, SqL.of q4⟩, _, rfl, od, _, rfl,
        .inl (SqL.of o4), fun c nc => ?_⟩
      have s5 : Same H4 (upd H4 c (.lst (os.map vS))) := sameNew nc
      have c5 : (upd H4 c (.lst (os.map vS))) c = some (.lst (os.map vS)) :=
        upd_same
      generalize upd H4 c (.lst (os.map vS)) = H5 at s5 c5 ⊢
      refine ⟨ol, _, _, rfl, rfl, s5 _ _ q4, ?_, ?_⟩
      · rw [List.length_map]
        exact sz' (by omega)
      have b6 : But ol H5 (upd H5 ol (.lst (qs.map V.ref ++ [.ref c]))) :=
        (But.refl H5).at
      have q6 : (upd H5 ol (.lst (qs.map V.ref ++ [.ref c]))) ol =
        some (.lst (qs.map V.ref ++ [.ref c])) := upd_same
      have t5 : OsAt H5 (qs ++ [c]) (oss ++ [os]) := (t4.same s5).snoc c5
      have m5 : ∀ r ∈ qs ++ [c], ∃ o : Nms, o ≠ [] ∧
          H5 r = some (.lst (o.map vS)) := fun r hr => by
        obtain ⟨o, ho, e⟩ := t5.mem r hr
        exact ⟨o, nes o ho, e⟩
      have q5 := s5 _ _ q4
      have t6 : OsAt (upd H5 ol (.lst (qs.map V.ref ++ [.ref c]))) (qs ++ [c])
          (oss ++ [os]) := t5.keep fun r o hr e => b6 _ _ e (by
        obtain ⟨o', no, e'⟩ := m5 r hr
        exact ne_nr e' no q5)
      have r6 : PrsAt (upd H5 ol (.lst (qs.map V.ref ++ [.ref c]))) rp
          (prsOf ls (ixs (rows.take i))) := (r4.same s5).put q5
      generalize upd H5 ol (.lst (qs.map V.ref ++ [.ref c])) = H6
        at b6 q6 t6 r6 ⊢
      have o6 := b6 _ _ (s5 _ _ o4) noql
      have p6 := b6 _ _ (s5 _ _ p4) npo
      have n6 : ∀ r ∈ qs ++ [c], r ≠ od := fun r hr => by
        rcases List.mem_append.mp hr with z | z
        · exact n4 r z
        · rw [List.mem_singleton.mp z]
          exact (ne_of_none o4 nc).symm
      have hS := SqL.of (K := K) o6
      -- the pair
      refine ⟨_, rfl, .inl ⟨rfl, _, SqL.of p6⟩, _, rfl, _, rfl, od, _, _, _,
        rfl, rfl, hS, atI_nat (j := a) (getD_map vS [] (by omega)), _, rfl, _,
        rfl, _, _, rfl, rfl, od, _, _, _, rfl, rfl, hS,
        atI_nat (j := a + 1) (getD_map vS [] (by omega)), sz (by simp),
        fun t nt => ?_⟩
      have s8 : Same H6 (upd H6 t (.tup [vS (os.getD a []),
        vS (os.getD (a + 1) [])])) := sameNew nt
      have t8 : (upd H6 t (.tup [vS (os.getD a []),
        vS (os.getD (a + 1) [])])) t = some (.tup [vS (os.getD a []),
        vS (os.getD (a + 1) [])]) := upd_same
      generalize (upd H6 t (.tup [vS (os.getD a []),
        vS (os.getD (a + 1) [])])) = H8 at s8 t8 ⊢
      have p8 := s8 _ _ p6
      have o8 := s8 _ _ o6
      refine ⟨pr, _, _, rfl, rfl, p8, ?_, ?_⟩
      · rw [List.length_map]
        exact sz' (by omega)
      have b9 : But pr H8 (upd H8 pr (.lst (rp.map V.ref ++ [.ref t]))) :=
        (But.refl H8).at
      have p9 : (upd H8 pr (.lst (rp.map V.ref ++ [.ref t]))) pr =
        some (.lst (rp.map V.ref ++ [.ref t])) := upd_same
      have r9 : PrsAt (upd H8 pr (.lst (rp.map V.ref ++ [.ref t]))) (rp ++ [t])
          (prsOf ls (ixs (rows.take i)) ++ [nbr os a]) :=
        ((r6.same s8).snoc (p := nbr os a) t8).put p8
      have t68 := t6.same s8
      have m8 : ∀ r ∈ qs ++ [c], ∃ o : Nms, o ≠ [] ∧
          H8 r = some (.lst (o.map vS)) := fun r hr => by
        obtain ⟨o, ho, e⟩ := t68.mem r hr
        exact ⟨o, nes o ho, e⟩
      have t9 : OsAt (upd H8 pr (.lst (rp.map V.ref ++ [.ref t]))) (qs ++ [c])
          (oss ++ [os]) := t68.keep fun r o hr e => b9 _ _ e (by
        obtain ⟨o', no, e'⟩ := m8 r hr
        exact ne_nr e' no p8)
      generalize (upd H8 pr (.lst (rp.map V.ref ++ [.ref t]))) = H9
        at b9 p9 r9 t9 ⊢
      have o9 := b9 _ _ o8 nopr
      have q9 := b9 _ _ (s8 _ _ q6) npo.symm
      have hS9 := SqL.of (K := K) o9
      have ha1 : a + 1 < (os.map vS).length := by rw [List.length_map]; omega
      -- the next order
      refine ⟨_, rfl, _, rfl, _, _, rfl, rfl, od, _, _, (os.map vS)[a + 1],
        rfl, rfl, hS9, atI_nat (j := a + 1) (List.getElem?_eq_getElem ha1), _,
        rfl, _, rfl, od, _, _, (os.map vS)[a], rfl, rfl, hS9,
        atI_nat (j := a) (List.getElem?_eq_getElem (by omega)), sz (by simp),
        fun t3 n3 => ?_⟩
      have ntr : od ≠ t3 := ne_of_none o9 n3
      have h10 : (upd H9 t3 (.tup [(os.map vS)[a + 1], (os.map vS)[a]])) od =
          some (.lst (os.map vS)) := by
        rw [upd_ne ntr]; exact o9
      refine ⟨t3, _, rfl, .inl (.inl upd_same), rfl, _, _, rfl, _, rfl, _,
        rfl, od, _, a, a, rfl, rfl, h10, ixN_at' (by omega), _, _, rfl, _, rfl, _,
        rfl, _, _, rfl, rfl, od, _, a + 1, a + 1, rfl, rfl, upd_same,
        ixN_at' (by rw [List.length_set]; omega), rfl, ?_⟩
      have s34 : Same H9 (upd H9 t3 (.tup [(os.map vS)[a + 1],
        (os.map vS)[a]])) := sameNew n3
      generalize (upd H9 t3 (.tup [(os.map vS)[a + 1], (os.map vS)[a]])) = H10
        at s34 h10 ⊢
      have b11 : But od H10 (upd (upd H10 od (.lst ((os.map vS).set a
        (os.map vS)[a + 1]))) od (.lst (((os.map vS).set a
        (os.map vS)[a + 1]).set (a + 1) (os.map vS)[a]))) :=
        ((But.refl H10).at).at
      have s4H : ∀ y o, H y = some o → H10 y = some o := fun y o z =>
        s34 _ _ (b9 _ _ (s8 _ _ (b6 _ _ (s5 _ _ (s4 _ _ z))
          (ne_of_none z nol))) (ne_of_none z npr))
      refine ⟨_, _, rp ++ [t], qs ++ [c], rfl, ?_, ?_, ?_, ?_, ?_, n6, ?_⟩
      · rw [upd_same, set_exch _ _ ha1, exch_map]
      · rw [List.map_append]
        exact b11 _ _ (s34 _ _ p9) nopr.symm
      · exact PrsAt.put (xs := (os.map vS).set a (os.map vS)[a + 1])
          (PrsAt.put (xs := os.map vS) (r9.same s34) h10) upd_same
      · rw [List.map_append]
        exact b11 _ _ (s34 _ _ q9) noql.symm
      · exact (t9.same s34).keep fun r o hr e => b11 _ _ e (n6 r hr)
      · exact fun y o z => b11 _ _ (s4H y o z) (ne_of_none z nod)
    · rintro σ H4 ⟨y5, y6, rp, qs, rfl, o4, p4, r4, q4, t4, n4, s4⟩
      rw [List.length_map, lrs, List.take_length] at r4
      rw [List.length_map, lrs] at t4
      exact ⟨_, _, rp, qs, rfl, p4, r4, q4, t4, s4⟩
  clear ho1 hp1 hq1 s1
  rintro _ H2 ⟨y5, y6, rp, qs, rfl, p2, r2, q2, t2, s2⟩
  have lrp := r2.len
  rw [prsOf_len, List.length_map] at lrp
  refine ⟨_, rfl, pr, _, rfl, .inl (SqL.of p2), ?_⟩
  rw [List.length_map, lrp]
  have uos : ∀ o ∈ (List.range rows.length).map fun m =>
      run ls (ixs (rows.take m)), Uni o := fun o ho => by
    obtain ⟨m, _, rfl⟩ := List.mem_map.mp ho
    exact (good.perm (Of.run (ixs (rows.take m))
      ⟨good.nd, List.Perm.refl _⟩).pm).uni
  -- each pair, and each order
  refine ⟨fun σ' H' => σ' = [some (.ref g), some (.ref sa),
    some (.ref od), some (.ref pr), some (.ref ol), y5, y6,
    some (.int (rows.length : Nat)), none, none, none, none, none, none] ∧
    Same H2 H', ?_, ?_⟩
  · refine ⟨_, rfl, _, rfl, by omega, by omega, fun D nD => ?_⟩
    rw [Int.toNat_natCast]
    refine lc_range (lo := 0) (n := rows.length) (fun i H' => ∃ rsD,
      H' D = some (.lst (rsD.map V.ref)) ∧
      PrsAt H' rsD ((prsOf ls (ixs rows)).take i) ∧ Same H2 H')
      ⟨[], upd_same, .nil, sameNew nD⟩ ?_ ?_
    · rintro i H4 hi ⟨rsD, hD, pD, s4⟩
      have s04 := s2.trans s4
      have ld := pD.len
      rw [List.length_take, prsOf_len, List.length_map] at ld
      have hp : i < (prsOf ls (ixs rows)).length := by
        rw [prsOf_len, List.length_map]; exact hi
      refine ⟨rfl, yes ⟨_, rfl, g, dx, _, rfl, s04 _ _ w1,
        lno (by decide +kernel) (by decide +kernel) (by decide +kernel), _, rfl,
        g, ro, b, ls, rows, i, ?_, x.same s04, hi, fun t H5 ht s5 =>
        ⟨_, s5 _ _ hD, ?_, rsD ++ [t], ?_, ?_, OM.Same.put (s4.trans s5) nD⟩⟩⟩
      · rw [Int.zero_add]
        rfl
      · rw [List.length_map]
        exact sz' (by omega)
      · rw [upd_same, List.map_append]
        rfl
      · have e : (prsOf ls (ixs rows)).take (i + 1) =
            (prsOf ls (ixs rows)).take i ++
              [(prsOf ls (ixs rows)).getD i ([], [])] := by
          rw [List.take_add_one, List.getElem?_eq_getElem hp, getD_at hp]
          rfl
        rw [e]
        exact ((pD.same s5).snoc ht).put (s5 _ _ hD)
    · rintro H4 ⟨rsD, hD, pD, s4⟩
      rw [List.take_of_length_le (by
        rw [prsOf_len, List.length_map]; exact Nat.le_refl _)] at pD
      refine ⟨_, rfl, _, _, dp_P (SqL.of hD) pD, dp_P (SqL.of (s4 _ _ p2))
        (r2.same s4), shaped_P up, shaped_P up, _, rfl, ?_⟩
      rw [eqv_P, decide_eq_true rfl]
      refine iteF ?_
      refine ⟨_, rfl, _, rfl, by omega, by omega, fun E2 nE => ?_⟩
      rw [Int.toNat_natCast]
      refine lc_range (lo := 0) (n := rows.length) (fun i H' => ∃ qD,
        H' E2 = some (.lst (qD.map V.ref)) ∧
        OsAt H' qD ((List.range i).map fun m => run ls (ixs (rows.take m))) ∧
        Same H4 H') ⟨[], upd_same, .nil, sameNew nE⟩ ?_ ?_
      · rintro i H5 hi ⟨qD, hE, tD, s5⟩
        have s05 := (s2.trans s4).trans s5
        have ld := tD.len
        rw [List.length_map, List.length_range] at ld
        have osr : (List.range (i + 1)).map
            (fun m => run ls (ixs (rows.take m))) =
            (List.range i).map (fun m => run ls (ixs (rows.take m))) ++
              [run ls (ixs (rows.take i))] := by
          rw [List.range_succ, List.map_append]
          rfl
        refine ⟨rfl, yes ⟨_, rfl, g, dx, _, rfl, s05 _ _ w1,
          lno (by decide +kernel) (by decide +kernel) (by decide +kernel), _,
          rfl, g, ro, b, ls, rows, i, ?_, x.same s05, by omega,
          fun t H6 nt ht s6 => ⟨_, s6 _ _ hE, ?_, qD ++ [t], ?_, ?_,
          OM.Same.put (s5.trans s6) nE⟩⟩⟩
        · rw [Int.zero_add]
          rfl
        · rw [List.length_map]
          exact sz' (by omega)
        · rw [upd_same, List.map_append]
          rfl
        · rw [osr]
          rw [show (ixs rows).take i = ixs (rows.take i) from
            List.map_take.symm] at ht
          have t6 := (tD.same s6).snoc ht
          refine t6.keep fun r o hr e => ?_
          rw [upd_ne]
          · exact e
          obtain ⟨o', ho', e'⟩ := t6.mem r hr
          refine ne_nr e' ?_ (s6 _ _ hE)
          rcases List.mem_append.mp ho' with z | z
          · obtain ⟨m, _, rfl⟩ := List.mem_map.mp z
            exact run_ne _ good.ne
          · rw [List.mem_singleton.mp z]
            exact run_ne _ good.ne
      · rintro H5 ⟨qD, hE, tD, s5⟩
        have s45 := s4.trans s5
        refine ⟨_, rfl, _, _, dp_Os (SqL.of hE) tD, dp_Os (SqL.of (s45 _ _ q2))
          (t2.same s45), shaped_O uos, shaped_O uos, _, rfl, ?_⟩
        rw [eqv_O, decide_eq_true rfl]
        exact iteF ⟨rfl, s45⟩
  rintro _ H3 ⟨rfl, s3⟩
  -- the first and the last
  obtain ⟨fi, lt, efi⟩ : ∃ fi lt, ls = fi :: lt := by
    cases ls with
    | nil => exact absurd l2 (by simp)
    | cons a r => exact ⟨a, r, rfl⟩
  obtain ⟨lh, la, ela⟩ : ∃ lh la, ls = lh ++ [la] := by
    rcases List.eq_nil_or_concat ls with z | ⟨lh, la, z⟩
    · rw [z] at l2
      exact absurd l2 (by simp)
    · exact ⟨lh, la, by rw [z, List.concat_eq_append]⟩
  have mfi : fi ∈ ls := by rw [efi]; exact List.mem_cons_self
  have mla : la ∈ ls := by
    rw [ela]; exact List.mem_append_right _ List.mem_cons_self
  have ilt : ls.idxOf fi < ls.idxOf la := by
    have z0 : ls.idxOf fi = 0 := by rw [efi]; exact List.idxOf_cons_self
    have z1 : ls.idxOf la = ls.length - 1 := by
      have hl : ls.length - 1 < ls.length := by omega
      have e : ls[ls.length - 1] = la := by
        have : ls[ls.length - 1]? = some la := by
          rw [ela, List.length_append]
          simp
        exact (List.getElem?_eq_some_iff.mp this).2
      rw [← e]
      exact idx_at good.nd hl
    omega
  have s03 := s2.trans s3
  refine ⟨fun σ' H' => σ' = [some (.ref g), some (.ref sa),
    some (.ref od), some (.ref pr), some (.ref ol), y5, y6,
    some (.int (rows.length : Nat)), none, some (vS fi), some (vS la), none,
    none, none] ∧ Same H2 H', ?_, ?_⟩
  · have i3 := s03 _ _ h2
    refine ⟨_, rfl, sa, _, rfl, dg_I (s03 _ _ h1), it, _, _, vS fi, rfl, rfl,
      SqL.of i3, ?_, _, rfl, sa, _, rfl, dg_I (s03 _ _ h1), _, rfl, it, _, _,
      vS la, rfl, rfl, SqL.of i3, ?_, sz (by simp), fun T nT => ?_⟩
    · rw [efi]
      exact atI_nat (j := 0) rfl
    · rw [ela, List.map_append]
      exact atI_last _ _
    exact ⟨T, _, rfl, .inl (.inl upd_same), rfl, _, _, rfl, _, _, rfl, rfl, rfl,
      s3.trans (sameNew nT)⟩
  clear s03 s3
  rintro _ H3 ⟨rfl, s3⟩
  have ufi := (good.nm fi mfi).uni
  have ula := (good.nm la mla).uni
  -- where the two are
  refine ⟨fun σ' H' => ∃ c, σ' = [some (.ref g), some (.ref sa),
    some (.ref od), some (.ref pr), some (.ref ol), y5, y6,
    some (.int (rows.length : Nat)), none, some (vS fi), some (vS la),
    some (.ref c), none, none] ∧
    H' c = some (.lst (vIs (entL ls rows la fi) ++ [.non])) ∧ Same H2 H', ?_,
    ?_⟩
  · refine ⟨_, rfl, _, rfl, by omega, by omega, fun D nD => ?_⟩
    rw [Int.toNat_natCast]
    refine lc_range (lo := 0) (n := rows.length) (fun i H' =>
      H' D = some (.lst (vIs (dueK (prsOf ls (ixs rows)) (fi, la) i))) ∧
      Same H3 H') ⟨upd_same, sameNew nD⟩ ?_ ?_
    · rintro j H5 hj ⟨hD, s5⟩
      have s35 := s3.trans s5
      have hp : j < (prsOf ls (ixs rows)).length := by
        rw [prsOf_len, List.length_map]; exact hj
      have gp := List.getElem?_eq_getElem hp
      obtain ⟨r, er, hr5⟩ := (r2.same s35).get gp
      have pu := up _ (List.getElem_mem hp)
      have ds := dueK_succ (prsOf ls (ixs rows)) (fi, la) j
      rw [getD_at hp] at ds
      have dl := dueK_len (prsOf ls (ixs rows)) (fi, la) j
      refine ⟨rfl, _, rfl, _, rfl, pr, _, _, .ref r, rfl, rfl,
        SqL.of (s35 _ _ p2), ?_, _, rfl, _, rfl, sz (by simp), fun t1 n1 => ?_⟩
      · have := atI_nat (show (rp.map V.ref)[j]? = some (.ref r) by
          rw [List.getElem?_map, er]; rfl)
        rw [Int.zero_add]
        exact this
      have s6 : Same H5 (upd H5 t1 (.tup (vT (fi, la)))) := sameNew n1
      have h6 : (upd H5 t1 (.tup (vT (fi, la)))) t1 =
        some (.tup (vT (fi, la))) := upd_same
      generalize (upd H5 t1 (.tup (vT (fi, la)))) = H6 at s6 h6 ⊢
      refine ⟨_, _, dp_T (s6 _ _ hr5), dp_T h6, shaped_T pu.1.2 pu.2.2,
        shaped_T (p := (fi, la)) ufi ula, _, rfl, ?_⟩
      rw [eqv_T]
      have hD6 := s6 _ _ hD
      by_cases c : (prsOf ls (ixs rows))[j] = (fi, la)
      · rw [decide_eq_true c]
        rw [if_pos c] at ds
        refine iteT ⟨_, rfl, _, hD6, ?_, ?_, OM.Same.put (s5.trans s6) nD⟩
        · rw [List.length_map]
          exact sz' (by omega)
        · rw [upd_same, ds, Int.zero_add]
          unfold vIs
          rw [List.map_append]
          rfl
      · rw [decide_eq_false c]
        rw [if_neg c, List.append_nil] at ds
        refine iteF ⟨?_, s5.trans s6⟩
        rw [ds]
        exact hD6
    · rintro H5 ⟨hD, s5⟩
      rw [due_all rwx ilt] at hD
      refine ⟨sz (by simp), fun u nu => ?_⟩
      have s6 : Same H5 (upd H5 u (.lst [.non])) := sameNew nu
      have h6 : (upd H5 u (.lst [.non])) u = some (.lst [.non]) := upd_same
      generalize (upd H5 u (.lst [.non])) = H6 at s6 h6 ⊢
      have el : (entL ls rows la fi).length ≤ 1 := by
        unfold entL
        split <;> simp
      refine ⟨D, u, _, _, rfl, rfl, s6 _ _ hD, h6, ?_, fun c nc => ?_⟩
      · rw [List.length_map]
        exact sz (by simp; omega)
      exact ⟨c, rfl, upd_same, ((s3.trans s5).trans s6).trans (sameNew nc)⟩
  clear s3
  rintro _ H3 ⟨c, rfl, hc, s3⟩
  obtain ⟨a1, a2, a3⟩ := ent_ok rwx (l := la) (m := fi)
  refine ⟨fun σ' H' => σ' = [some (.ref g), some (.ref sa),
    some (.ref od), some (.ref pr), some (.ref ol), y5, y6,
    some (.int (rows.length : Nat)), none, some (vS fi), some (vS la),
    some (.ref c), none, none] ∧ Same H2 H', ?_, ?_⟩
  · have s03 := s2.trans s3
    refine ⟨_, rfl, g, dx, _, rfl, s03 _ _ w1, lno (by decide +kernel)
      (by decide +kernel) (by decide +kernel), _, rfl, _, rfl, g, ro, b, ls,
      rows, la, fi, rfl, x.same s03, mla, mfi, fun H4 s4 => ?_⟩
    refine ⟨_, _, rfl, dp_ent, a1, a2, a3, ?_⟩
    refine ⟨_, rfl, c, _, 0, _, rfl, rfl, SqL.of (s4 _ _ hc), ent_first, _, _,
      rfl, dp_ent, a1, a2, a3, rfl, _, rfl, iteNS rfl ⟨rfl, s3.trans s4⟩⟩
  clear hc s3
  rintro _ H3 ⟨rfl, s3⟩
  -- each pair's entry
  have s03 := s2.trans s3
  have p3 := s3 _ _ p2
  refine ⟨_, rfl, pr, rfl, ⟨_, SqL.of p3⟩, fun D nD => ?_⟩
  refine lc_list (K := K) (a := pr) (xs := rp.map V.ref) (fun j H' =>
    H' D = some (.lst (vIs (List.range j))) ∧ Same H3 H')
    ⟨upd_same, sameNew nD⟩ (fun j H' _ z => SqL.of (z.2 _ _ p3)) ?_ ?_
  · rintro j y H4 hy ⟨hD, s4⟩
    rw [List.getElem?_map] at hy
    obtain ⟨r, hr', rfl⟩ := Option.map_eq_some_iff.mp hy
    have hj : j < rows.length := by
      have := (List.getElem?_eq_some_iff.mp hr').1
      omega
    have hp : j < (prsOf ls (ixs rows)).length := by
      rw [prsOf_len, List.length_map]; exact hj
    have s34 := s3.trans s4
    obtain ⟨r', e', ht⟩ := (r2.same s34).get (List.getElem?_eq_getElem hp)
    rw [e'] at hr'
    cases Option.some.inj hr'
    have mp := List.getElem_mem hp
    obtain ⟨m1, m2, lt12, _⟩ := (rwx.rep.mem _).mp mp
    have ev : entV ls rows (prsOf ls (ixs rows))[j].2
        (prsOf ls (ixs rows))[j].1 = .int (j : Int) := by
      have pe : pairOf ls (prsOf ls (ixs rows))[j].2
          (prsOf ls (ixs rows))[j].1 = (prsOf ls (ixs rows))[j] := by
        unfold pairOf
        rw [if_neg (by omega)]
      unfold entV
      rw [pe, if_pos mp, idx_at rwx.rep.nd hp]
    have s04 := s2.trans s34
    refine ⟨r, _, rfl, .inl (.inl ht), rfl, _, _, rfl, _, _, rfl, rfl, rfl,
      yes ⟨_, rfl, g, dx, _, rfl, s04 _ _ w1, lno (by decide +kernel)
      (by decide +kernel) (by decide +kernel), _, rfl, _, rfl, g, ro, b, ls,
      rows, (prsOf ls (ixs rows))[j].2, (prsOf ls (ixs rows))[j].1, rfl,
      x.same s04, m2, m1, fun H5 s5 => ⟨_, s5 _ _ hD, ?_, ?_,
      OM.Same.put (s4.trans s5) nD⟩⟩⟩
    · rw [List.length_map, List.length_range]
      exact sz' (by omega)
    · rw [upd_same, ev, List.range_succ]
      unfold vIs
      rw [List.map_append]
      rfl
  · rintro H4 ⟨hD, s4⟩
    rw [List.length_map, lrp] at hD
    refine ⟨_, rfl, _, rfl, RgOk.of_le (by omega) (by omega) (by omega)
      (by omega), fun e ne => ?_⟩
    have er : rgV 0 ((rows.length : Nat) : Int) =
        vIs (List.range rows.length) := by
      unfold rgV vIs
      rw [Int.sub_zero, Int.toNat_natCast]
      refine List.map_congr_left fun i _ => ?_
      rw [Int.zero_add]
    rw [er]
    refine ⟨_, _, dp_I (SqL.of (sameNew ne _ _ hD)), dp_I (SqL.of upd_same),
      shaped_K, shaped_K, ?_⟩
    rw [eqv_KL]
    exact q _ ((s03.trans s4).trans (sameNew ne))
end
end OM
namespace OM
open PySem PySem.Spec PyProof.Rows L2
def spAllR (C L : Addr) : Sp := fun vs H Q _ =>
  ∃ (ll sl : Addr) (ls : List (List Nat)) (g ro b s it en : Nat → Addr)
    (rw : Nat → List En), vs = [.ref ll, .ref sl] ∧
  Four C L H ll sl ls g ro b s it en rw ∧ 2 ≤ ls.length ∧
  ∀ H', Same H H' → Q (.bl true) H'
theorem logText_eq (a b : Str) : Str.ofString "SwapLog(" ++
    Txt.join (Str.ofString ", ") [a, b] ++ Str.ofString ")" =
    Str.empty ++ Str.ofString "SwapLog(" ++ a ++ Str.ofString ", " ++ b ++
      Str.ofString ")" := by
  have as : ∀ u v w : Str, u ++ v ++ w = u ++ (v ++ w) := fun u v w =>
    congrArg Str.mk (Array.append_assoc (xs := u.cps) (ys := v.cps)
      (zs := w.cps))
  have em : ∀ u : Str, Str.empty ++ u = u := fun u =>
    congrArg Str.mk (Array.empty_append (xs := u.cps))
  have jn : Txt.join (Str.ofString ", ") [a, b] = a ++ Str.ofString ", " ++ b :=
    by rfl
  rw [jn, em]
  simp only [as]
theorem len_cat (a b : Str) : (a ++ b).length = a.length + b.length :=
  Array.size_append
section
variable {P : Program} {w : World} {K : PySem.W.Frag}
  {mg : Str → Option Value} {base : Heap} {C L : Addr}
theorem ok_allr {f fr fe : Addr} {fd fdr fde : FuncData} {k n m : Nat}
    (F : Fun K "_law_all_right" "_law_all_right" s_Lall_right f fd) (B : Bl mg)
    (ap : Apart K L)
    (top : PySem.W.subIn K (.ref L) (.type "object") = some true)
    (no : PySem.W.findIn K (.ref L) "__ne__" =
      some (some (.builtin "object.__ne__")))
    (Sr : Spec1 K L "__repr__" fr fdr ["self"])
    (Gr : FnG P w K mg base CX0 n fr fdr ["self"] (spLRepr C L))
    (hn : n + 1 ≤ k)
    (Se : Spec1 K L "__eq__" fe fde ["self", "other"])
    (Ge : FnOk P w K mg base CX0 m fe fde ["self", "other"] (spEqL K C L))
    (hm : m + 1 ≤ k)
    (Ci : CalG P w K mg base k "_law_is" ["_law_log", "_law_state"] (spIs C L))
    (Ca : CalG P w K mg base k "_law_asked_right" ["_law_log", "_law_state"]
      (spAsk29 C L))
    (Mo : CalM P w K mg base L k "order" ["self"] (spLOrd C L))
    (Me : CalM P w K mg base L k "entries" ["self"] (spLEnt C L)) :
    FnG P w K mg base CX0 (k + 1) f fd ["_law_logs", "_law_states"]
      (spAllR C L) := by
  refine okG F sc_Lall_right (fun vs H Q E h => ?_)
    (fun cv A outer s H vs Q E hr gd h => ?_)
  · obtain ⟨ll, sl, ls, g, ro, b, s, it, en, rw, rfl, _⟩ := h
    rfl
  obtain ⟨ll, sl, ls, g, ro, b, s, it, en, rw, rfl, x, l2, q⟩ := h
  have nd := sc_Lall_right.nd
  have hu := hu_of hr
  have hrn := hr.mono hn
  have hrm := hr.mono hm
  have hrm0 := hr.mono (Nat.le_of_succ_le hm)
  refine ⟨_, pss_cons (ps_for PassesOwn.never rfl
      (pi_range1 (by rfl) B.range (pa_cons pe_int pa_nil))
      (pg_name (i := 2) nd rfl (.inl rfl))
      (pss_cons (ps_if (PW.pt (pw_or (pt_not (pt_val (pe_calG Ci hr gd (pa_cons
            (pe_ix ix_list (pv 0) (pv 2) (fun _ _ => rfl)) (pa_cons
            (pe_ix ix_list (pv 1) (pv 2) (fun _ _ => rfl)) pa_nil)))))
          (pw_or1 (pt_not (pt_val (pe_calG Ca hr gd (pa_cons
            (pe_ix ix_list (pv 0) (pv 2) (fun _ _ => rfl)) (pa_cons
            (pe_ix ix_list (pv 1) (pv 2) (fun _ _ => rfl)) pa_nil))))))))
        (pss_one ps_never) pss_nil)
      (pss_cons (ps_set (i := 3) nd rfl (.inl rfl) (pe_lst (pa_cons
        (pe_callB (call_reprD hr gd) (by rfl) B.repr bt_repr (pa_cons
          (pe_dget hu (pe_ix ix_list (pv 1) (pv 2) (fun _ _ => rfl)) pe_str
            (fun _ _ => rfl)) pa_nil)) (pa_cons
        (pe_callB (call_reprD hr gd) (by rfl) B.repr bt_repr (pa_cons
          (pe_dget hu (pe_ix ix_list (pv 1) (pv 2) (fun _ _ => rfl)) pe_str
            (fun _ _ => rfl)) pa_nil)) pa_nil))))
      (pss_cons (ps_if (pt_cmpR op_ne
          (pe_callB (call_reprOwn Sr Gr hrn gd) (by rfl) B.repr bt_repr
            (pa_cons (pe_ix ix_list (pv 0) (pv 2) (fun _ _ => rfl)) pa_nil))
          (pe_op op_add_str (pe_op op_add_str pe_str (pe_join pe_str (pv 3)))
            pe_str) (nomark _))
        (pss_one ps_never) pss_nil)
      (pss_cons (ps_expr (pe_bm0 PySem.F.plainAttrs_list
        PySem.F.slot_list_clear PySem.F.type_list_clear mt_clear
        (pe_calM0 Mo hr (pe_ix ix_list (pv 0) (pv 2) (fun _ _ => rfl)))))
      (C8.pss_cut (ps_expr (pe_bm PySem.F.plainAttrs_list
        PySem.F.slot_list_append PySem.F.type_list_append mt_append
        (pe_calM0 Me hr (pe_ix ix_list (pv 0) (pv 2) (fun _ _ => rfl)))
        (pa_cons (pe_tup (pa_cons pe_int (pa_cons pe_str pa_nil))) pa_nil)))
      (pss_one (ps_for PassesOwn.never rfl
        (pi_range1 (by rfl) B.range (pa_cons pe_int pa_nil))
        (pg_name (i := 4) nd rfl (.inl rfl))
        (pss_cons (ps_set (i := 5) nd rfl (.inl rfl) (pe_cmpR
          (op_eqD hr.units)
          (pe_dget hu (pe_ix ix_list (pv 1) (pv 2) (fun _ _ => rfl)) pe_str
            (fun _ _ => rfl))
          (pe_dget hu (pe_ix ix_list (pv 1) (pv 4) (fun _ _ => rfl)) pe_str
            (fun _ _ => rfl)) (nomark _)))
        (pss_one (ps_if (pt_cmpR (op_neD hr.units)
            (pe_lst (pa_cons (pe_cmpR (op_eqOwn Se Ge hrm0)
              (pe_ix ix_list (pv 0) (pv 2) (fun _ _ => rfl))
              (pe_ix ix_list (pv 0) (pv 4) (fun _ _ => rfl)) (nomark _))
            (pa_cons (pe_not (pe_cmpR (op_neA Se ap top no Ge hrm)
              (pe_ix ix_list (pv 0) (pv 2) (fun _ _ => rfl))
              (pe_ix ix_list (pv 0) (pv 4) (fun _ _ => rfl)) (nomark _)))
              pa_nil)))
            (pe_lst (pa_cons (pv 5) (pa_cons (pv 5) pa_nil))) (nomark _))
          (pss_one ps_never) pss_nil)))))))))))
    (pss_one (ps_ret pe_bl)), ?_⟩
  have good := x.good
  have h40 := good.hi
  have gK : ∀ {j : Nat}, j < 4 →
      atI (lst4 g) (0 + (j : Int)) = some (.ref (g j)) := fun hj => by
    rw [Int.zero_add]; exact atI_nat (lst4_get hj)
  have sK : ∀ {j : Nat}, j < 4 →
      atI (lst4 s) (0 + (j : Int)) = some (.ref (s j)) := fun hj => by
    rw [Int.zero_add]; exact atI_nat (lst4_get hj)
  have nf : PySem.W.notFirst K L (.ref L) = true := by
    unfold PySem.W.notFirst
    simp
  refine ⟨_, rfl, by decide, by decide, ?_⟩
  refine for_range (lo := 0) (n := 4) (fun j σ H' => ∃ y2 y3 y4 y5,
    σ = [some (.ref ll), some (.ref sl), y2, y3, y4, y5] ∧ Same H H')
    ⟨none, none, none, none, rfl, Same.refl H⟩ ?_
    (fun σ H' z => by
      obtain ⟨_, _, _, _, rfl, s1⟩ := z
      exact q _ s1)
  rintro j σ H1 hj ⟨y2, y3, y4, y5, rfl, s1⟩
  have F1 := x.same s1
  refine ⟨_, rfl, _, rfl, ll, _, _, _, rfl, rfl, SqL.of F1.hl, gK hj, _, rfl, _,
    rfl, sl, _, _, _, rfl, rfl, SqL.of F1.hs, sK hj, g j, ro j, b j, s j, it j,
    en j, ls, rw j, rfl, ⟨F1.lg j hj, F1.st j hj, x.er j j hj hj⟩,
    fun H2 s2 => ⟨_, rfl, iteF ?_⟩⟩
  have F2 := F1.same s2
  refine ⟨_, rfl, _, rfl, ll, _, _, _, rfl, rfl, SqL.of F2.hl, gK hj, _, rfl, _,
    rfl, sl, _, _, _, rfl, rfl, SqL.of F2.hs, sK hj, g j, ro j, b j, s j, it j,
    en j, ls, rw j, rfl, F2.lg j hj, F2.st j hj, l2,
    fun H3 s3 => ⟨_, rfl, iteF ?_⟩⟩
  have F3 := F2.same s3
  have lj := F3.lg j hj
  have go := good.perm lj.perm
  have sme := lj.sme
  have many := lj.many
  have sA := shownN_le go
  have sB := shownE_le sme many
  obtain ⟨od, rs, h1, h2, h3, h4, h5⟩ := (F3.st j hj).ob
  refine ⟨_, rfl, _, rfl, sl, _, _, _, rfl, rfl, SqL.of F3.hs, sK hj, s j, _, rfl,
    dg_O h1, _, _, rfl, dp_N (SqL.of h3), showable_L _,
    Nat.le_trans (depth_L _) (by decide), go.shown, _, rfl, _, rfl, sl, _, _, _,
    rfl, rfl, SqL.of F3.hs, sK hj, s j, _, rfl, dg_E h1, _, _, rfl,
    dp_Es (SqL.of h4) h5, showable_E sme, Nat.le_trans (depth_E _) (by decide),
    Nat.le_trans sB (by decide), sz (by simp), fun sh nsh => ?_⟩
  obtain ⟨dj, cj, ej⟩ := lj.hasG
  have lt : logText (run ls (ixs (rw j))) (rw j) = Str.ofString "SwapLog(" ++
      Txt.join (Str.ofString ", ") [(PyData.list (dN (run ls
        (ixs (rw j))))).shown, (PyData.list (dEs (rw j))).shown] ++
      Str.ofString ")" := (logText_eq _ _).symm
  generalize (PyData.list (dN (run ls (ixs (rw j))))).shown = tA at sA lt ⊢
  generalize (PyData.list (dEs (rw j))).shown = tB at sB lt ⊢
  have s4 : Same H3 (upd H3 sh (.lst [.str tA, .str tB])) := sameNew nsh
  have v4 : (upd H3 sh (.lst [.str tA, .str tB])) sh =
    some (.lst [.str tA, .str tB]) := upd_same
  generalize upd H3 sh (.lst [.str tA, .str tB]) = H4 at s4 v4 ⊢
  have F4 := F3.same s4
  have c1 : (Str.ofString "SwapLog(").length = 8 := by decide +kernel
  have c2 : (Str.ofString ")").length = 1 := by decide +kernel
  have c3 : (Str.ofString ", ").length = 2 := by decide +kernel
  have jl : (Txt.join (Str.ofString ", ") [tA, tB]).length ≤ 500000 := by
    rw [show Txt.join (Str.ofString ", ") [tA, tB] =
      tA ++ Str.ofString ", " ++ tB from rfl, len_cat, len_cat]
    omega
  have szl : 500020 ≤ sizeLine := by decide
  refine ⟨_, rfl, _, rfl, ll, _, _, _, rfl, rfl, SqL.of F4.hl, gK hj, g j, dj, _,
    rfl, s4 _ _ ej, g j, ro j, b j, ls, rw j, rfl, F4.lg j hj, _, rfl, ⟨_, rfl⟩,
    _, rfl, _, sh, [tA, tB], rfl, rfl, .inl (SqL.of v4), ?_, _, _, rfl, rfl, ?_,
    _, _, rfl, rfl, ?_, rfl, _, rfl, ?_⟩
  · show tA.length + (tB.length + 0) + 2 * (Str.ofString ", ").length ≤ 16777216
    omega
  · omega
  · rw [len_cat]
    omega
  refine iteNS (congrArg V.str lt) ?_
  refine ⟨_, rfl, _, rfl, ll, _, _, _, rfl, rfl, SqL.of F4.hl, gK hj, g j, dj, _,
    rfl, s4 _ _ ej, lf_no _ _ _ (by decide +kernel) (by decide +kernel)
    (by decide +kernel), g j, ro j, b j, ls, rw j, rfl, F4.lg j hj,
    fun o H5 no' ho s5 => ⟨.inl ⟨rfl, _, SqL.of ho⟩, o, _, rfl, rfl, ho, ?_⟩⟩
  have s6 : Same H4 (upd H5 o (.lst [])) := OM.Same.put s5 no'
  generalize upd H5 o (.lst []) = H6 at s6 ⊢
  have F6 := F4.same s6
  have s16 : Same H H6 := (((s1.trans s2).trans s3).trans s4).trans s6
  refine ⟨fun σ' H' => σ' = [some (.ref ll), some (.ref sl),
    some (.int (0 + (j : Int))), some (.ref sh), y4, y5] ∧ Same H H', ?_, ?_⟩
  · refine ⟨_, rfl, _, rfl, ll, _, _, _, rfl, rfl, SqL.of F6.hl, gK hj, g j, dj, _,
      rfl, s6 _ _ (s4 _ _ ej), lf_no _ _ _ (by decide +kernel)
      (by decide +kernel) (by decide +kernel), g j, ro j, b j, ls, rw j, rfl,
      F6.lg j hj, fun e re H7 ne he hes s7 => ⟨.inl ⟨rfl, _, SqL.of he⟩,
      sz (by simp), fun t nt => ⟨e, _, _, rfl, rfl, sameNew nt _ _ he, ?_, rfl,
      ?_⟩⟩⟩
    · have := hes.len
      rw [List.length_map]
      exact sz' (by omega)
    · exact s16.trans (OM.Same.put (s7.trans (sameNew nt)) ne)
  clear s16 F6
  rintro _ H7 ⟨rfl, s7⟩
  refine ⟨_, rfl, by decide, by decide, ?_⟩
  refine for_range (lo := 0) (n := 4) (fun i σ H' => ∃ y4 y5,
    σ = [some (.ref ll), some (.ref sl), some (.int (0 + (j : Int))),
      some (.ref sh), y4, y5] ∧ Same H H') ⟨_, _, rfl, s7⟩ ?_
    (fun σ H' z => by
      obtain ⟨_, _, rfl, s8⟩ := z
      exact ⟨_, _, _, _, rfl, s8⟩)
  rintro i σ H8 hi ⟨z4, z5, rfl, s8⟩
  have F8 := x.same s8
  have li := F8.lg i hi
  have lj8 := F8.lg j hj
  obtain ⟨od1, rs1, k1, k2, k3, k4, k5⟩ := (F8.st j hj).ob
  obtain ⟨od2, rs2, m1, m2, m3, m4, m5⟩ := (F8.st i hi).ob
  obtain ⟨di, ci, ei⟩ := li.hasG
  obtain ⟨dj8, cj8, ej8⟩ := lj8.hasG
  refine ⟨_, rfl, _, rfl, sl, _, _, _, rfl, rfl, SqL.of F8.hs, sK hj, s j, _, rfl,
    dg_E k1, _, rfl, _, rfl, sl, _, _, _, rfl, rfl, SqL.of F8.hs, sK hi, s i, _,
    rfl, dg_E m1, _, _, dp_Es (SqL.of k4) k5, dp_Es (SqL.of m4) m5,
    shaped_E lj8.sme, shaped_E li.sme, ?_⟩
  rw [eqv_E]
  have eb : (decide (ls = ls) && decide (rw j = rw i)) = decide (rw j = rw i) := by
    rw [decide_eq_true rfl, Bool.true_and]
  refine ⟨_, rfl, _, rfl, ll, _, _, _, rfl, rfl, SqL.of F8.hl, gK hj, _, rfl, _,
    rfl, ll, _, _, _, rfl, rfl, SqL.of F8.hl, gK hi, g j, g i, dj8, di, _, _, rfl,
    rfl, ej8, ei, g j, ro j, b j, ls, rw j, .ref (g i), rfl, lj8, .inl ⟨g i, ro i,
    b i, ls, rw i, rfl, li, _, rfl, ?_⟩⟩
  refine ⟨_, rfl, _, rfl, ll, _, _, _, rfl, rfl, SqL.of F8.hl, gK hj, _, rfl, _,
    rfl, ll, _, _, _, rfl, rfl, SqL.of F8.hl, gK hi, g j, dj8, _, rfl, ej8,
    .inr ⟨g i, L, di, _, rfl, ei, nf⟩, g j, ro j, b j, ls, rw j, .ref (g i), rfl,
    lj8, .inl ⟨g i, ro i, b i, ls, rw i, rfl, li, _, rfl, _, rfl, sz (by simp),
    fun u nu => ?_⟩⟩
  rw [eb, Bool.not_not]
  generalize decide (rw j = rw i) = r
  refine ⟨_, rfl, _, rfl, sz (by simp), fun v nv => ?_⟩
  refine ⟨_, _, .lst (SqL.of (sameNew nv _ _ upd_same)) (.cons (.bl r) (.cons
    (.bl r) .nil)), .lst (SqL.of upd_same) (.cons (.bl r) (.cons (.bl r) .nil)),
    by cases r <;> decide +kernel, by cases r <;> decide +kernel, _, rfl, ?_⟩
  rw [show PyData.eqv (.list [.bool r, .bool r]) (.list [.bool r, .bool r]) =
    true by cases r <;> decide +kernel]
  exact iteF ⟨_, _, rfl, (s8.trans (sameNew nu)).trans (sameNew nv)⟩
end
end OM
namespace OM
open PySem PySem.Spec PyProof.Rows L2
/-! ### a log beside other values -/
structure Kin (K : PySem.W.Frag) (C L : Addr) : Prop where
  apL : Apart K L
  apC : Apart K C
  kt : ∀ T ∈ ["NoneType", "bool", "int", "str", "list", "tuple", "dict"],
    PySem.W.kitOne K (.type T) (.ref L) = some false
  kCL : PySem.W.kitOne K (.ref C) (.ref L) = some false
  kLC : PySem.W.kitOne K (.ref L) (.ref C) = some false
  sCL : PySem.W.subIn K (.ref C) (.ref L) = some false
  sLC : PySem.W.subIn K (.ref L) (.ref C) = some false
  top : PySem.W.subIn K (.ref L) (.type "object") = some true
  no : PySem.W.findIn K (.ref L) "__ne__" =
    some (some (.builtin "object.__ne__"))
theorem Pl.ty {K : PySem.W.Frag} {H : Hp} {v : V} {T : String} (p : Pl H v T) :
    TyOf K H v (.type T) := by
  cases p with
  | non => exact .non
  | bl b => exact .bl b
  | int i => exact .int i
  | str y => exact .str y
  | lst e => exact .lst e
  | tup e => exact .tup e
  | dK e => exact .dK e
/-- what the log is compared with -/
def Ot (C L : Addr) (H : Hp) (b : Addr) (ls : List (List Nat)) (v : V) : Prop :=
  (∃ T, Pl H v T) ∨ (v = .ref b ∧ BaseAt C H b ls) ∨
  ∃ g' ro' b' ms rows', v = .ref g' ∧ LogAt C L H g' ro' b' ms rows' ∧ ls ≠ ms
theorem Ot.same {C L b : Addr} {H H' : Hp} {ls : List (List Nat)} {v : V}
    (h : Ot C L H b ls v) (z : Same H H') : Ot C L H' b ls v := by
  rcases h with ⟨T, p⟩ | ⟨e, x⟩ | ⟨g', ro', b', ms, rows', e, x, n⟩
  · exact .inl ⟨T, p.same z⟩
  · exact .inr (.inl ⟨e, x.same z⟩)
  · exact .inr (.inr ⟨g', ro', b', ms, rows', e, x.same z, n⟩)
theorem exch_app {α : Type} : ∀ (xs ys : List α) (i : Nat), i + 1 < xs.length →
    exch (xs ++ ys) i = exch xs i ++ ys
  | [], _, i, h => absurd h (by simp)
  | [x], _, i, h => absurd h (by simp)
  | x :: y :: r, ys, 0, h => rfl
  | x :: y :: r, ys, i + 1, h => by
    have ih := exch_app (y :: r) ys i (by simpa using h)
    rw [exch_succ, List.cons_append, List.cons_append, exch_succ,
      ← List.cons_append, ih]
    rfl
theorem wd_ext {ls : List (List Nat)} {z : List Nat} (nz : z ∉ ls) :
    ∀ (ws : List Nat) (os : List (List Nat)), os.Perm ls → Wd ls os ws →
      Wd (ls ++ [z]) (os ++ [z]) ws
  | [], _, _, _ => trivial
  | i :: r, os, pm, h => by
    obtain ⟨h1, h2, h3⟩ := h
    have e1 : (os ++ [z]).getD i [] = os.getD i [] := by
      rw [List.getD_eq_getElem?_getD, List.getD_eq_getElem?_getD,
        List.getElem?_append_left (by omega)]
    have e2 : (os ++ [z]).getD (i + 1) [] = os.getD (i + 1) [] := by
      rw [List.getD_eq_getElem?_getD, List.getD_eq_getElem?_getD,
        List.getElem?_append_left h1]
    have m1 : os.getD i [] ∈ ls := pm.mem_iff.mp (getD_mem [] (by omega))
    have m2 : os.getD (i + 1) [] ∈ ls := pm.mem_iff.mp (getD_mem [] h1)
    refine ⟨by rw [List.length_append]; omega, ?_, ?_⟩
    · unfold outB at h2 ⊢
      rw [e1, e2, List.idxOf_append, if_pos m1, List.idxOf_append, if_pos m2]
      exact h2
    · rw [exch_app os [z] i h1]
      exact wd_ext nz r _ ((exch_perm os i).trans pm) h3
theorem Rw.ext {ls : List (List Nat)} {rows : List En} (x : Rw ls rows)
    {z : List Nat} (nz : z ∉ ls) (hz : Nm z) (h39 : ls.length ≤ 39) :
    Rw (ls ++ [z]) rows := by
  refine ⟨⟨fun l hl => ?_, ?_, ?_, ?_⟩, wd_ext nz _ _ (List.Perm.refl _) x.wd,
    x.rn⟩
  · rcases List.mem_append.mp hl with h | h
    · exact x.good.nm l h
    · rw [List.mem_singleton.mp h]; exact hz
  · exact List.nodup_append.mpr ⟨x.good.nd, by simp, fun a ha c hc => by
      rw [List.mem_singleton.mp hc]
      exact fun e => nz (e ▸ ha)⟩
  · rw [List.length_append]; have := x.good.lo; omega
  · rw [List.length_append]
    show ls.length + 1 ≤ 40
    omega
def spUnlike (C L : Addr) : Sp := fun vs H Q _ =>
  ∃ (g ro b i : Addr) (ls : List (List Nat)) (rows : List En),
  vs = [.ref g, .ref i] ∧ LogAt C L H g ro b ls rows ∧
  H i = some (.lst (ls.map vS)) ∧ ls.length ≤ 39 ∧
  (∀ l ∈ ls, vS l ≠ .str (Str.ofString "zzzzzzzz")) ∧
  ∀ H', Same H H' → Q (.bl true) H'
/-- a list that begins with None is none of ours -/
theorem ne_odd {H : Hp} {a t : Addr} {rs : List Addr} {ys : List V}
    (h : H a = some (.lst (rs.map V.ref))) (e : H t = some (.lst (.non :: ys))) :
    a ≠ t := ne_of h e fun z => by
  have z' := HO.lst.inj z
  cases rs with
  | nil => cases z'
  | cons r rs => cases (List.cons.inj z').1
theorem Quiet.odd {C t : Addr} {H H' : Hp} {ys : List V}
    (e : H t = some (.lst (.non :: ys))) (fr : But t H H') : Quiet C H H' := by
  have nn : ∀ a (ms : List (List Nat)), ms ≠ [] →
      H a = some (.lst (ms.map vS)) → a ≠ t := fun a ms n h =>
    ne_of h e fun z => by
      have z' := HO.lst.inj z
      cases ms with
      | nil => exact n rfl
      | cons r rs => cases (List.cons.inj z').1
  refine ⟨fun a xs h => fr _ _ h (ne_of h e nofun),
    fun a ms n h => fr _ _ h (nn a ms n h), fun c ms g h => ?_⟩
  obtain ⟨dy, lo, d, k1, k2, k3⟩ := h.ob
  exact ⟨dy, lo, d, fr _ _ k1 (ne_of k1 e nofun), fr _ _ k2 (nn _ _ g.ne k2),
    fr _ _ k3 (ne_of k3 e nofun)⟩
theorem Pl.put {H : Hp} {t : Addr} {xs ys : List V} {v : V} {T : String}
    (p : Pl H v T) (e : H t = some (.lst xs)) : Pl (upd H t (.lst ys)) v T := by
  cases p with
  | non => exact .non
  | bl b => exact .bl b
  | int i => exact .int i
  | str y => exact .str y
  | @lst a zs h =>
    by_cases c : a = t
    · rw [c]; exact .lst upd_same
    · exact .lst (by rw [upd_ne c]; exact h)
  | tup h => exact .tup (by rw [upd_ne (ne_of h e nofun)]; exact h)
  | dK h => exact .dK (by rw [upd_ne (ne_of h e nofun)]; exact h)
theorem bt_any : bootBuiltins "any" = some (.builtin "any") := by
  decide +kernel
section
variable {P : Program} {w : World} {K : PySem.W.Frag}
  {mg : Str → Option Value} {base : Heap} {C L : Addr}
theorem ok_unlike {f fr fe fb fl : Addr} {fd fdr fde fdb fdl : FuncData}
    {k n m o u : Nat}
    (F : Fun K "_law_unlike" "_law_unlike" s_Lunlike f fd) (B : Bl mg)
    (za : mg "any" = none) (kn : Kin K C L) (TC : BC K mg C) (TL : LC K mg L)
    (Sr : Spec1 K L "__repr__" fr fdr ["self"])
    (Gr : FnG P w K mg base CX0 n fr fdr ["self"] (spLRepr C L))
    (hn : n + 1 ≤ k)
    (Se : Spec1 K L "__eq__" fe fde ["self", "other"])
    (Ge : FnOk P w K mg base CX0 m fe fde ["self", "other"] (spEqL K C L))
    (hm : m + 1 ≤ k)
    (Sb : Spec1 K C "__eq__" fb fdb ["self", "other"])
    (Gb : FnOk P w K mg base CX0 o fb fdb ["self", "other"] (spEqBX K C))
    (ho : o ≤ k)
    (Sl : Spec1 K L "__len__" fl fdl ["self"])
    (Gl : FnOk P w K mg base CX0 u fl fdl ["self"] (spLLen C L))
    (hu' : u + 1 ≤ k)
    (Cb : CalC P w K mg base C k "Base" ["self", "items"] (spInitOk C))
    (Cf : Cal P w K mg base k "log_from_entries" ["base", "entries"]
      (spLFrom C L))
    (Mo : CalM P w K mg base L k "order" ["self"] (spLOrd C L))
    (Me : CalM P w K mg base L k "entries" ["self"] (spLEnt C L))
    (Mb : CalM P w K mg base L k "base" ["self"] (spLBase C L)) :
    FnG P w K mg base CX0 (k + 2) f fd ["_law_log", "_law_items"]
      (spUnlike C L) := by
  refine okG F sc_Lunlike (fun vs H Q E h => ?_)
    (fun cv A outer s H vs Q E hr1 gd h => ?_)
  · obtain ⟨g, ro, b, i, ls, rows, rfl, _⟩ := h
    rfl
  obtain ⟨g, ro, b, i, ls, rows, rfl, x, hi, l39, nzz, q⟩ := h
  have nd := sc_Lunlike.nd
  have hr := hr1.mono (Nat.le_succ k)
  have hrn := hr.mono hn
  have hrm := hr.mono hm
  have hrm0 := hr.mono (Nat.le_of_succ_le hm)
  have hro := hr.mono ho
  have hru := hr.mono hu'
  refine ⟨_, C8.pss_cut (ps_set (i := 2) nd rfl (.inl rfl) (pe_lst (pa_cons
      pe_non (pa_cons pe_int (pa_cons pe_bl (pa_cons pe_str (pa_cons
      (pe_lst pa_nil) (pa_cons pe_dnewK (pa_cons (pe_tup pa_nil) (pa_cons
      (pe_callB (call_reprOwn Sr Gr hrn gd) (by rfl) B.repr bt_repr
        (pa_cons (pv 0) pa_nil)) (pa_cons (pe_calM0 Mo hr (pv 0)) (pa_cons
      (pe_calM0 Me hr (pv 0)) (pa_cons (pe_calM0 Mb hr (pv 0)) (pa_cons
      (pe_callB (call_lenOwn Sl Gl hru) (by rfl) B.len PySem.boot_len
        (pa_cons (pv 0) pa_nil)) pa_nil))))))))))))))
    (C8.pss_cut (ps_expr (pe_bm PySem.F.plainAttrs_list
      PySem.F.slot_list_append PySem.F.type_list_append mt_append (pv 2)
      (pa_cons (pe_cal Cf hr (pa_cons (pe_calC Cb hr1 (pa_cons
        (pe_op op_cat (pv 1) (pe_lst (pa_cons pe_str pa_nil))) pa_nil))
        (pa_cons (pe_calM0 Me hr (pv 0)) pa_nil))) pa_nil)))
    (C8.pss_cut (ps_if (pt_val (pe_callB (cr_any rfl) (by rfl) za bt_any (pa_cons
        (pe_lc (own := [("_law_other", 3)]) (g := gName 3) (tt := tYes) rfl nd
          (pi_list (pv 2))
          (blkOk_by (N := N_Lunlike) (sc := defScope s_Lunlike)
            (by decide +kernel))
          (fun _ _ _ _ _ => pg_name (i := 3) nd rfl (Or.inl rfl))
          (fun _ _ _ _ _ => pts_nil)
          (fun _ _ _ _ _ => pe_or
            (pe_cmpR (r := rEqA K L (spEqL K C L)) (op_eqA Se kn.apL Ge hrm0)
              (pv 0) (pv 3) (nomark _)) (pe_or
            (pe_cmpR (r := fun x y H Q => rEqR L (spEqL K C L) x y H Q ∨
                (rEqA K C (spEqBX K C) x y H Q ∨
                  rEqA K L (spEqL K C L) x y H Q))
              (op_or (op_eqR Se kn.apL Ge hrm0) (op_or
                (op_eqA Sb kn.apC Gb hro) (op_eqA Se kn.apL Ge hrm0)))
              (pv 3) (pv 0) (nomark _)) (pe_one
            (pe_not (pe_cmpR (r := rNeA K L (spEqL K C L))
              (op_neA Se kn.apL kn.top kn.no Ge hrm) (pv 0) (pv 3)
              (nomark _))))))) pa_nil)))
      (pss_one ps_never) pss_nil)
    (pss_one (ps_ret (pe_cmpR (op_eqOwn Se Ge hrm0) (pv 0)
      (pe_cal Cf hr (pa_cons (pe_calC Cb hr1 (pa_cons (pv 1) pa_nil))
        (pa_cons (pe_calM0 Me hr (pv 0)) pa_nil))) (nomark _)))))), ?_⟩
  have lno : ∀ {b cu ro : Addr} {m : Str}, ¬ m = "ground" → ¬ m = "current" →
    ¬ m = "rows" → (lf b cu ro).lookup m = none := fun a b c => lf_no _ _ _ a b c
  have rwx := x.rw
  have many := x.many
  have good := x.good
  obtain ⟨dx, cu, rs, w1, w2, w3, w4⟩ := x.ob
  obtain ⟨zz, ez, nmz⟩ := nm_of "zzzzzzzz" (by decide +kernel)
  have nz : zz ∉ ls := fun h => nzz zz h ez.symm
  have gz := (rwx.ext nz nmz l39)
  -- the others
  refine ⟨fun σ' H' => ∃ ot xs, σ' = [some (.ref g), some (.ref i),
    some (.ref ot), none] ∧ H' ot = some (.lst (.non :: xs)) ∧ xs.length = 11 ∧
    (∀ v ∈ .non :: xs, (∃ T, Pl H' v T) ∨ v = .ref b) ∧ H ot = none ∧
    Same H H', ?_, ?_⟩
  · refine ⟨sz (by simp), fun a1 n1 => ?_⟩
    have s1 : Same H (upd H a1 (.lst [])) := sameNew n1
    have v1 : (upd H a1 (.lst [])) a1 = some (.lst []) := upd_same
    generalize upd H a1 (.lst []) = H1 at s1 v1 ⊢
    intro a2 n2
    have s2 : Same H1 (upd H1 a2 (.dK [])) := sameNew n2
    have v2 : (upd H1 a2 (.dK [])) a2 = some (.dK []) := upd_same
    generalize upd H1 a2 (.dK []) = H2 at s2 v2 ⊢
    refine ⟨sz (by simp), fun a3 n3 => ?_⟩
    have s3 : Same H2 (upd H2 a3 (.tup [])) := sameNew n3
    have v3 : (upd H2 a3 (.tup [])) a3 = some (.tup []) := upd_same
    generalize upd H2 a3 (.tup []) = H3 at s3 v3 ⊢
    have s13 := (s1.trans s2).trans s3
    refine ⟨_, rfl, g, dx, _, rfl, s13 _ _ w1, g, ro, b, ls, rows, rfl,
      x.same s13, _, rfl, _, rfl, g, dx, _, rfl, s13 _ _ w1,
      lno (by decide +kernel) (by decide +kernel) (by decide +kernel), g, ro, b,
      ls, rows, rfl, x.same s13, fun o4 H4 n4 v4 s4 => ?_⟩
    have s14 := s13.trans s4
    refine ⟨_, rfl, g, dx, _, rfl, s14 _ _ w1, lno (by decide +kernel)
      (by decide +kernel) (by decide +kernel), g, ro, b, ls, rows, rfl,
      x.same s14, fun e5 re H5 n5 v5 es5 s5 => ?_⟩
    have s15 := s14.trans s5
    refine ⟨_, rfl, g, dx, _, rfl, s15 _ _ w1, lno (by decide +kernel)
      (by decide +kernel) (by decide +kernel), g, ro, b, ls, rows, rfl,
      x.same s15, _, rfl, g, dx, _, rfl, s15 _ _ w1, g, ro, b, ls, rows, rfl,
      x.same s15, rows.length, rfl, by omega, sz (by simp), fun ot nt => ?_⟩
    refine ⟨ot, _, rfl, upd_same, rfl, ?_, s15.free nt,
      s15.trans (sameNew nt)⟩
    have s56 : Same H5 (upd H5 ot (.lst [.non, .int 0, .bl false,
      .str (Str.ofString ""), .ref a1, .ref a2, .ref a3,
      .str (logText (run ls (ixs rows)) rows), .ref o4, .ref e5, .ref b,
      .int (rows.length : Nat)])) := sameNew nt
    intro v hv
    have up : (∃ T, Pl H5 v T) ∨ v = .ref b → (∃ T, Pl (upd H5 ot (.lst [.non,
        .int 0, .bl false, .str (Str.ofString ""), .ref a1, .ref a2, .ref a3,
        .str (logText (run ls (ixs rows)) rows), .ref o4, .ref e5, .ref b,
        .int (rows.length : Nat)])) v T) ∨ v = .ref b := fun h => by
      rcases h with ⟨T, p⟩ | h
      · exact .inl ⟨T, p.same s56⟩
      · exact .inr h
    refine up ?_
    simp only [List.mem_cons, List.mem_nil_iff, or_false] at hv
    rcases hv with rfl | rfl | rfl | rfl | rfl | rfl | rfl | rfl | rfl | rfl |
      rfl | rfl
    · exact .inl ⟨_, .non⟩
    · exact .inl ⟨_, .int _⟩
    · exact .inl ⟨_, .bl _⟩
    · exact .inl ⟨_, .str _⟩
    · exact .inl ⟨_, .lst (s5 _ _ (s4 _ _ (s3 _ _ (s2 _ _ v1))))⟩
    · exact .inl ⟨_, .dK (s5 _ _ (s4 _ _ (s3 _ _ v2)))⟩
    · exact .inl ⟨_, .tup (s5 _ _ (s4 _ _ v3))⟩
    · exact .inl ⟨_, .str _⟩
    · exact .inl ⟨_, .lst (s5 _ _ v4)⟩
    · exact .inl ⟨_, .lst v5⟩
    · exact .inr rfl
    · exact .inl ⟨_, .int _⟩
  rintro _ H1 ⟨ot, xs, rfl, hot, lxs, oxs, not, s1⟩
  -- one more, of another base
  refine ⟨fun σ' H' => ∃ xs, σ' = [some (.ref g), some (.ref i),
    some (.ref ot), none] ∧ H' ot = some (.lst xs) ∧ xs.length = 13 ∧
    (∀ v ∈ xs, Ot C L H' b ls v) ∧ Same H H', ?_, ?_⟩
  · refine ⟨_, rfl, .inl ⟨rfl, _, SqL.of hot⟩, _, rfl, sz (by simp),
      fun z nz' => ?_⟩
    have s2 : Same H1 (upd H1 z (.lst [.str (Str.ofString "zzzzzzzz")])) :=
      sameNew nz'
    have v2 : (upd H1 z (.lst [.str (Str.ofString "zzzzzzzz")])) z =
      some (.lst [.str (Str.ofString "zzzzzzzz")]) := upd_same
    generalize upd H1 z (.lst [.str (Str.ofString "zzzzzzzz")]) = H2 at s2 v2 ⊢
    refine ⟨i, z, _, _, rfl, rfl, s2 _ _ (s1 _ _ hi), v2, ?_, fun c nc => ?_⟩
    · rw [List.length_map]
      exact sz (by simp; omega)
    have ec : ls.map vS ++ [V.str (Str.ofString "zzzzzzzz")] =
        (ls ++ [zz]).map vS := by
      rw [List.map_append, ez]
      rfl
    rw [ec]
    have s3 : Same H2 (upd H2 c (.lst ((ls ++ [zz]).map vS))) := sameNew nc
    have v3 : (upd H2 c (.lst ((ls ++ [zz]).map vS))) c =
      some (.lst ((ls ++ [zz]).map vS)) := upd_same
    generalize upd H2 c (.lst ((ls ++ [zz]).map vS)) = H3 at s3 v3 ⊢
    refine fun bb dy nb ny ne => ?_
    have s4 : Same H3 (upd (upd H3 dy (.own bb)) bb (.ins C dy [])) :=
      OM.Same.put (sameNew ny) nb
    refine ⟨bb, c, dy, ls ++ [zz], rfl, upd_same, s4 _ _ v3, gz.good,
      fun H5 ba5 b5 => ⟨rfl, ?_⟩⟩
    have s35 : Same H3 H5 := fun y o e => b5 y o (s4 y o e) (ne_of_none e nb)
    have s15 := (s2.trans s3).trans s35
    have s05 := s1.trans s15
    refine ⟨_, rfl, g, dx, _, rfl, s05 _ _ w1, lno (by decide +kernel)
      (by decide +kernel) (by decide +kernel), g, ro, b, ls, rows, rfl,
      x.same s05, fun e6 re H6 n6 v6 es6 s6 => ?_⟩
    refine ⟨bb, e6, ls ++ [zz], re, rows, rfl, ba5.same s6, gz, v6, es6,
      fun g7 ro7 H7 n7 nr7 lg7 s7 => ?_⟩
    have s17 := (s15.trans s6).trans s7
    have hot7 := s17 _ _ hot
    have sF := OM.Same.put (o := .lst (.non :: xs ++ [.ref g7])) (s1.trans s17)
      not
    refine ⟨ot, _, _, rfl, rfl, hot7, ?_, .non :: xs ++ [.ref g7], rfl, upd_same,
      ?_, ?_, sF⟩
    · rw [List.length_cons, lxs]
      decide
    · rw [List.length_append, List.length_cons, lxs]
      rfl
    intro v hv
    have bt : But ot H7 (upd H7 ot (.lst (.non :: xs ++ [.ref g7]))) :=
      (But.refl H7).at
    rcases List.mem_append.mp hv with h | h
    · rcases oxs v h with ⟨T, p⟩ | h
      · exact .inl ⟨T, (p.same s17).put hot7⟩
      · exact .inr (.inl ⟨h, (x.same sF).ba⟩)
    · refine .inr (.inr ⟨g7, ro7, bb, ls ++ [zz], rows, List.mem_singleton.mp h,
        lg7.stays (Quiet.odd hot7 bt) (fun o e => bt _ _ e ?_)
          (fun o e => bt _ _ e ?_), fun z => ?_⟩)
      · obtain ⟨_, _, e'⟩ := lg7.hasG
        exact ne_of e' hot7 nofun
      · obtain ⟨_, e'⟩ := lg7.hasR
        exact ne_odd e' hot7
      · have := congrArg List.length z
        rw [List.length_append] at this
        simp at this
  rintro _ H2 ⟨xs2, rfl, hot2, lx2, ox2, s2⟩
  -- nothing is alike
  refine ⟨fun σ' H' => σ' = [some (.ref g), some (.ref i),
    some (.ref ot), none] ∧ Same H H', ?_, ?_⟩
  · refine ⟨_, rfl, ot, rfl, ⟨_, SqL.of hot2⟩, fun D nD => ?_⟩
    refine lc_list (K := K) (a := ot) (xs := xs2) (fun j H' =>
      H' D = some (.lst ((List.replicate j false).map V.bl)) ∧ Same H2 H')
      ⟨upd_same, sameNew nD⟩ (fun j H' _ z => SqL.of (z.2 _ _ hot2)) ?_ ?_
    · rintro j v H3 hv ⟨hD, s3⟩
      have hj : j < 13 := by
        have := (List.getElem?_eq_some_iff.mp hv).1
        omega
      have o3 := (ox2 v (List.mem_of_getElem? hv)).same s3
      have s03 := s2.trans s3
      have x3 := x.same s03
      have g3 := s03 _ _ w1
      have nfC : PySem.W.notFirst K L (.ref C) = true := by
        unfold PySem.W.notFirst; rw [kn.sCL]; simp
      have nfL : PySem.W.notFirst K L (.ref L) = true := by
        unfold PySem.W.notFirst; simp
      have nfB : PySem.W.notFirst K C (.ref L) = true := by
        unfold PySem.W.notFirst; rw [kn.sLC]; simp
      have ty : Typd K L H3 v := by
        rcases o3 with ⟨T, p⟩ | ⟨e, y⟩ | ⟨g', ro', b', ms, rows', e, y, n⟩
        · exact .inl ⟨T, p⟩
        · obtain ⟨dy, lo, d, k1, _⟩ := y.ob
          exact .inr ⟨b, C, dy, _, e, k1, nfC⟩
        · obtain ⟨dy, cy, k1⟩ := y.hasG
          exact .inr ⟨g', L, dy, _, e, k1, nfL⟩
      have ask : ∀ {R : V → Hp → Prop}, R (.bl false) H3 →
          spEqL K C L [.ref g, v] H3 R E0 := fun {R} hR => by
        refine ⟨g, ro, b, ls, rows, v, rfl, x3, ?_⟩
        rcases o3 with ⟨T, p⟩ | ⟨e, y⟩ | ⟨g', ro', b', ms, rows', e, y, n⟩
        · exact .inr ⟨_, p.ty, kn.kt T p.kind, hR⟩
        · obtain ⟨dy, lo, d, k1, _⟩ := y.ob
          exact .inr ⟨_, e ▸ ty_ins TC.ic k1, kn.kCL, hR⟩
        · refine .inl ⟨g', ro', b', ms, rows', e, y, ?_⟩
          rw [decide_eq_false n, Bool.false_and]
          exact hR
      have back : ∀ {R : V → Hp → Prop}, R (.bl false) H3 →
          (rEqR L (spEqL K C L) v (.ref g) H3 R ∨
            (rEqA K C (spEqBX K C) v (.ref g) H3 R ∨
              rEqA K L (spEqL K C L) v (.ref g) H3 R)) := fun {R} hR => by
        rcases o3 with ⟨T, p⟩ | ⟨e, y⟩ | ⟨g', ro', b', ms, rows', e, y, n⟩
        · exact .inl ⟨g, dx, _, T, rfl, g3, p, ask ⟨_, rfl, hR⟩⟩
        · obtain ⟨dy, lo, d, k1, _⟩ := y.ob
          exact .inr (.inl ⟨b, dy, _, e, k1, .inr ⟨g, L, dx, _, rfl, g3, nfB⟩,
            b, ls, .ref g, rfl, y, good, .inr ⟨_, ty_ins TL.ic g3, kn.kLC,
            _, rfl, hR⟩⟩)
        · obtain ⟨dy, cy, k1⟩ := y.hasG
          refine .inr (.inr ⟨g', dy, _, e, k1, .inr ⟨g, L, dx, _, rfl, g3, nfL⟩,
            g', ro', b', ms, rows', .ref g, rfl, y, .inl ⟨g, ro, b, ls, rows,
            rfl, x3, _, rfl, ?_⟩⟩)
          rw [decide_eq_false (fun z => n z.symm), Bool.false_and]
          exact hR
      refine ⟨rfl, yes ⟨_, rfl, _, rfl, g, dx, _, rfl, g3, ty, ask ⟨_, rfl, _,
        rfl, iteF ⟨_, rfl, _, rfl, back ⟨_, rfl, iteF ⟨_, rfl, _, rfl, g, dx, _,
        rfl, g3, ty, ask ⟨_, rfl, _, rfl, _, hD, ?_, ?_, OM.Same.put s3 nD⟩⟩⟩⟩⟩⟩⟩
      · rw [List.length_map, List.length_replicate]
        exact sz' (by omega)
      · rw [upd_same, List.replicate_succ', List.map_append]
        rfl
    · rintro H3 ⟨hD, s3⟩
      rw [lx2] at hD
      refine ⟨D, _, rfl, SqL.of hD, _, rfl, ?_⟩
      exact iteF ⟨rfl, s2.trans s3⟩
  clear ox2 hot2 lx2
  rintro _ H3 ⟨rfl, s3⟩
  -- but a log with the same entries is
  have i3 := s3 _ _ hi
  refine ⟨_, rfl, _, rfl, fun bb dy nb ny ne => ?_⟩
  have s4 : Same H3 (upd (upd H3 dy (.own bb)) bb (.ins C dy [])) :=
    OM.Same.put (sameNew ny) nb
  refine ⟨bb, i, dy, ls, rfl, upd_same, s4 _ _ i3, good,
    fun H5 ba5 b5 => ⟨rfl, ?_⟩⟩
  have s35 : Same H3 H5 := fun y o e => b5 y o (s4 y o e) (ne_of_none e nb)
  have s05 := s3.trans s35
  refine ⟨_, rfl, g, dx, _, rfl, s05 _ _ w1, lno (by decide +kernel)
    (by decide +kernel) (by decide +kernel), g, ro, b, ls, rows, rfl,
    x.same s05, fun e6 re H6 n6 v6 es6 s6 => ?_⟩
  refine ⟨bb, e6, ls, re, rows, rfl, ba5.same s6, rwx, v6, es6,
    fun g7 ro7 H7 n7 nr7 lg7 s7 => ?_⟩
  have s07 := (s05.trans s6).trans s7
  obtain ⟨d7, c7, h7⟩ := lg7.hasG
  refine ⟨g, g7, dx, d7, _, _, rfl, rfl, s07 _ _ w1, h7, g, ro, b, ls, rows,
    .ref g7, rfl, x.same s07, .inl ⟨g7, ro7, bb, ls, rows, rfl, lg7, _, rfl, ?_⟩⟩
  rw [decide_eq_true rfl, decide_eq_true rfl]
  exact q _ s07
end
end OM
namespace OM
open PySem PySem.Spec PyProof.Rows L2
/-! ### a new base and a new log: their parts are new -/
def spInitF (C : Addr) : Sp := fun vs H Q _ =>
  ∃ (b a dx : Addr) (ls : List (List Nat)), vs = [.ref b, .ref a] ∧
  H b = some (.ins C dx []) ∧ H a = some (.lst (ls.map vS)) ∧ Good ls ∧
  ∀ H', (∃ dx lo d, H' b = some (.ins C dx (bf lo d)) ∧
    H' lo = some (.lst (ls.map vS)) ∧ H' d = some (.dK (prs 0 ls)) ∧
    H lo = none ∧ H d = none) → But b H H' → Q .non H'
def spLInitF (C L : Addr) : Sp := fun vs H Q _ =>
  ∃ (g b dx : Addr) (ls : List (List Nat)), vs = [.ref g, .ref b] ∧
  H g = some (.ins L dx []) ∧ BaseAt C H b ls ∧ Good ls ∧
  ∀ ro H', (∃ dx cu, H' g = some (.ins L dx (lf b cu ro)) ∧
    H' cu = some (.lst (ls.map vS)) ∧ H' ro = some (.lst []) ∧ H cu = none ∧
    H ro = none) → LogAt C L H' g ro b ls [] → But g H H' → Q .non H'
section
variable {P : Program} {w : World} {K : PySem.W.Frag}
  {mg : Str → Option Value} {base : Heap} {C L : Addr}
theorem ok_initF {f : Addr} {fd : FuncData} {k : Nat}
    (F : Fun K "__init__" "Base.__init__" s_Base_init f fd) (B : Bl mg)
    (T : BC K mg C)
    (Ck : Cal P w K mg base k "check_items" ["items"] spCheckOk) :
    FnOk P w K mg base CX0 (k + 1) f fd ["self", "items"] (spInitF C) := by
  refine F.ok sc_Base_init (fun vs H Q E h => ?_)
    (fun cv A outer s H vs Q E hr h => ?_)
  · obtain ⟨b, a, dx, ls, rfl, _⟩ := h
    rfl
  obtain ⟨b, a, dx, ls, rfl, hb, ha, gd, q⟩ := h
  have nd := sc_Base_init.nd
  refine ⟨_, pss_cons (ps_expr (pe_cal Ck hr (pa_cons (pv 1) pa_nil)))
    (pss_cons (ps_fld (pv 0) (pe_callTy call_list_of (by rfl) B.list bt_list
      (pa_cons (pv 1) pa_nil)) rfl)
    (pss_one (ps_fld (pv 0)
      (pe_dc (own := [("name", 2), ("at", 3)])
        (g := gTup K 2 (gCons (gName 3) (gCons (gName 2) gNil)))
        (tt := tYes) rfl nd
        (pi_enum (by rfl) B.enum (pa_cons (pv 1) pa_nil))
        (blkOk_by (N := N_Base_init) (sc := defScope s_Base_init)
          (by decide +kernel))
        (fun _ _ _ _ _ => pg_tup rfl (pgs_cons (pg_name (i := 3) nd rfl
          (Or.inl rfl)) (pgs_cons (pg_name (i := 2) nd rfl (Or.inl rfl))
          pgs_nil)))
        (fun _ _ _ _ _ => pts_nil) (fun _ _ _ _ _ => pv 2)
        (fun _ _ _ _ _ => pv 3)) rfl))), ?_⟩
  refine ⟨_, rfl, a, ls, rfl, ha, gd, fun H1 s1 => ?_⟩
  have nba : b ≠ a := ne_of hb ha nofun
  have hb1 := s1 _ _ hb
  have ha1 := s1 _ _ ha
  refine ⟨_, rfl, a, _, rfl, .inl (SqL.of ha1), fun lo nlo => ?_⟩
  have nbl : b ≠ lo := ne_of_none hb1 nlo
  have nal : a ≠ lo := ne_of_none ha1 nlo
  refine ⟨_, rfl, b, C, dx, [], rfl, by rw [upd_ne nbl]; exact hb1, T.cl, T.nL,
    by decide, ?_⟩
  generalize eH2 : upd (upd H1 lo (.lst (ls.map vS))) b
    (.ins C dx (putF "listed" (.ref lo) [])) = H2
  have hb2 : H2 b = some (.ins C dx (putF "listed" (.ref lo) [])) := by
    rw [← eH2]; exact upd_same
  have ha2 : H2 a = some (.lst (ls.map vS)) := by
    rw [← eH2, upd_ne nba.symm, upd_ne nal]; exact ha1
  have hl2 : H2 lo = some (.lst (ls.map vS)) := by
    rw [← eH2, upd_ne nbl.symm, upd_same]
  have b2 : But b H H2 := by
    rw [← eH2]
    exact ((But.of s1).new (s1.free nlo)).at
  refine ⟨_, rfl, a, _, rfl, SqL.of ha2, fun d nd' => ?_⟩
  have ndb : b ≠ d := ne_of_none hb2 nd'
  have nda : a ≠ d := ne_of_none ha2 nd'
  have ndl : lo ≠ d := ne_of_none hl2 nd'
  refine dc_walk (walk_enum (K := K) (a := a) (xs := ls.map vS))
    (fun i H' => H' d = some (.dK (prs 0 (ls.take i))) ∧
      H' b = some (.ins C dx (putF "listed" (.ref lo) [])) ∧
      H' a = some (.lst (ls.map vS)) ∧ H' lo = some (.lst (ls.map vS)) ∧
      But b H H')
    ⟨upd_same, by rw [upd_ne ndb]; exact hb2, by rw [upd_ne nda]; exact ha2,
      by rw [upd_ne ndl]; exact hl2, b2.put nd' ndb.symm⟩
    (fun i H' _ z => SqL.of z.2.2.1) ?_ ?_
  · rintro i v H3 H4 hi ⟨hd, h1, h2, h3, b3⟩ ⟨T', x1, x2, rfl, nT, rfl, e1, e2⟩
    obtain ⟨l, hl, rfl⟩ := get_map e2
    cases Option.some.inj e1
    rw [List.length_map] at hi
    have hhi := gd.hi
    refine ⟨T', _, rfl, .inl (.inl upd_same), rfl, _, _, rfl, _, _, rfl, rfl,
      rfl, yes ⟨_, rfl, _, rfl, prs 0 (ls.take i), Sum.inr (SX.S l), rfl, ?_, ?_,
      ?_, ?_, ?_, ?_, ?_⟩⟩
    · rw [upd_ne (ne_of_none hd nT)]
      exact hd
    · rw [prs_len, List.length_take]
      exact sz' (by omega)
    · rw [upd_same, putK_new _ (by
        rw [val_prs, if_neg (nodup_take gd.nd hl)]),
        List.take_add_one, hl]
      show _ = some (HO.dK (prs 0 (ls.take i ++ [l])))
      rw [prs_snoc, List.length_take, Nat.min_eq_left (by omega),
        Nat.zero_add]
    · rw [upd_ne ndb, upd_ne (ne_of_none h1 nT)]
      exact h1
    · rw [upd_ne nda, upd_ne (ne_of_none h2 nT)]
      exact h2
    · rw [upd_ne ndl, upd_ne (ne_of_none h3 nT)]
      exact h3
    · exact (b3.put nT (ne_of_none h1 nT).symm).new (b2.free ndb.symm nd')
  · rintro H3 ⟨hd, h1, h2, h3, b3⟩
    rw [List.take_of_length_le (by rw [List.length_map]; exact Nat.le_refl _)]
      at hd
    refine ⟨_, rfl, b, C, dx, _, rfl, h1, T.cl, T.nP,
      by show 1 < 1000; decide, ?_⟩
    refine q _ ⟨dx, lo, d, upd_same, ?_, ?_, s1.free nlo, b2.free ndb.symm nd'⟩
      b3.at
    · rw [upd_ne nbl.symm]
      exact h3
    · rw [upd_ne ndb.symm]
      exact hd
theorem ok_linitF {f : Addr} {fd : FuncData} {k : Nat}
    (F : Fun K "__init__" "SwapLog.__init__" s_SwapLog_init f fd)
    (T : LC K mg L)
    (Mn : CalM P w K mg base C k "names" ["self"] (spGetNames C)) :
    FnOk P w K mg base CX0 (k + 1) f fd ["self", "base"] (spLInitF C L) := by
  refine F.ok sc_SwapLog_init (fun vs H Q E h => ?_)
    (fun cv A outer s H vs Q E hr h => ?_)
  · obtain ⟨g, b, dx, ls, rfl, _⟩ := h
    rfl
  obtain ⟨g, b, dx, ls, rfl, hg, hb, gd, q⟩ := h
  refine ⟨_, pss_cons (ps_fld (pv 0) (pv 1) rfl)
    (pss_cons (ps_fld (pv 0) (pe_calM0 Mn hr (pv 1)) rfl)
    (pss_one (ps_fld (pv 0) (pe_lst pa_nil) rfl))), ?_⟩
  refine ⟨_, rfl, _, rfl, g, L, dx, [], rfl, hg, T.cl, T.nG, by decide, ?_⟩
  have b1 : But g H (upd H g (.ins L dx (putF "ground" (.ref b) []))) :=
    (But.refl H).at
  have g1 : (upd H g (.ins L dx (putF "ground" (.ref b) []))) g =
    some (.ins L dx (putF "ground" (.ref b) [])) := upd_same
  generalize upd H g (.ins L dx (putF "ground" (.ref b) [])) = H1 at b1 g1 ⊢
  have hb1 : BaseAt C H1 b ls := by
    obtain ⟨dy, lo, d, k1, k2, k3⟩ := hb.ob
    refine ⟨dy, lo, d, b1 _ _ k1 (ne_of k1 hg fun z => ?_),
      b1 _ _ k2 (ne_of k2 hg nofun), b1 _ _ k3 (ne_of k3 hg nofun)⟩
    have z' : bf lo d = [] := by injection z
    have := congrArg (List.lookup ("listed" : Str)) z'
    rw [bf_listed] at this
    cases this
  obtain ⟨dy, lo, d, k1, k2, k3⟩ := hb1.ob
  refine ⟨_, rfl, b, dy, _, rfl, k1, bf_no _ _ (by decide +kernel)
    (by decide +kernel), b, ls, rfl, hb1, fun cu H2 ncu hcu s2 => ?_⟩
  refine ⟨_, rfl, g, L, dx, _, rfl, s2 _ _ g1, T.cl, T.nC,
    by show 1 < 1000; decide, ?_⟩
  have ngc : g ≠ cu := ne_of_none g1 ncu
  have b3 : But g H (upd H2 g (.ins L dx (putF "current" (.ref cu)
    (putF "ground" (.ref b) [])))) := (b1.trans (But.of s2)).at
  have c3 : (upd H2 g (.ins L dx (putF "current" (.ref cu)
    (putF "ground" (.ref b) [])))) cu = some (.lst (ls.map vS)) := by
    rw [upd_ne ngc.symm]; exact hcu
  have g3 : (upd H2 g (.ins L dx (putF "current" (.ref cu)
    (putF "ground" (.ref b) [])))) g = some (.ins L dx (putF "current"
    (.ref cu) (putF "ground" (.ref b) []))) := upd_same
  have hb3 : BaseAt C (upd H2 g (.ins L dx (putF "current" (.ref cu)
      (putF "ground" (.ref b) [])))) b ls := by
    refine ⟨dy, lo, d, ?_, ?_, ?_⟩
    · rw [upd_ne (ne_of k1 g1 fun z => ?_)]
      · exact s2 _ _ k1
      · have z' : bf lo d = putF "ground" (.ref b) [] := by injection z
        have := congrArg (List.lookup ("listed" : Str)) z'
        rw [bf_listed, lookup_putF, if_neg (by decide +kernel)] at this
        cases this
    · rw [upd_ne (ne_of k2 g1 nofun)]
      exact s2 _ _ k2
    · rw [upd_ne (ne_of k3 g1 nofun)]
      exact s2 _ _ k3
  generalize (upd H2 g (.ins L dx (putF "current" (.ref cu)
      (putF "ground" (.ref b) [])))) = H3 at b3 c3 g3 hb3 ⊢
  refine ⟨sz (by simp), fun ro nro => ?_⟩
  have ngo : g ≠ ro := ne_of_none g3 nro
  have nco : cu ≠ ro := ne_of_none c3 nro
  refine ⟨_, rfl, g, L, dx, _, rfl, by rw [upd_ne ngo]; exact g3, T.cl, T.nR,
    ?_, ?_⟩
  · show (putF "current" (.ref cu) [(("ground" : Str), V.ref b)]).length < 1000
    show (if ("ground" : Str) = "current" then _ else _ : List _).length < 1000
    rw [if_neg ne_gc]
    show 2 < 1000
    decide
  have fro : H ro = none := by
    cases e : H ro with
    | none => rfl
    | some o => rw [b3 _ _ e ngo.symm] at nro; cases nro
  have fcu : H cu = none := b1.free ngc.symm ncu
  refine q ro _ ⟨dx, cu, upd_same, ?_, ?_, fcu, fro⟩ ⟨⟨dx, cu, [], upd_same, ?_,
    ?_, .nil⟩, ?_, gd, trivial, nofun⟩ ?_
  · rw [upd_ne ngc.symm, upd_ne nco]
    exact c3
  · rw [upd_ne ngo.symm, upd_same]
  · rw [upd_ne ngc.symm, upd_ne nco]
    exact c3
  · rw [upd_ne ngo.symm, upd_same]
    rfl
  · have hb4 := hb3.same (sameNew (o := .lst []) nro)
    obtain ⟨dz, l2, d2, z1, z2, z3⟩ := hb4.ob
    have gz : (upd H3 ro (.lst [])) g = _ := (upd_ne ngo).trans g3
    refine ⟨dz, l2, d2, ?_, ?_, ?_⟩
    · rw [upd_ne (ne_of z1 gz fun z => ?_)]
      · exact z1
      · have z' : bf l2 d2 = putF "current" (.ref cu)
          (putF "ground" (.ref b) []) := by injection z
        have := congrArg (List.lookup ("listed" : Str)) z'
        rw [bf_listed, lookup_putF, if_neg (by decide +kernel), lookup_putF,
          if_neg (by decide +kernel)] at this
        cases this
    · rw [upd_ne (ne_of z2 gz nofun)]
      exact z2
    · rw [upd_ne (ne_of z3 gz nofun)]
      exact z3
  · exact (b3.put nro ngo.symm).at
end
end OM
namespace OM
open PySem PySem.Spec PyProof.Rows L2
/-- three logs and four states, on the way -/
structure Thr (C L : Addr) (H0 : Hp) (p : Addr) (H : Hp) (ll sl im : Addr)
    (ls : List (List Nat)) (g ro b s en : Nat → Addr) : Prop where
  hl : H ll = some (.lst [.ref (g 0), .ref (g 1), .ref (g 2)])
  hs : H sl = some (.lst (lst4 s))
  lg : ∀ k, k < 3 → LogAt C L H (g k) (ro k) (b k) ls []
  st : ∀ k, k < 4 → StAt H (s k) im (en k) ls []
  gg : ∀ j k, j < 3 → k < 3 → j ≠ k → g j ≠ g k
  rr : ∀ j k, j < 3 → k < 3 → j ≠ k → ro j ≠ ro k
  ss : ∀ j k, j < 4 → k < 4 → j ≠ k → s j ≠ s k
  er : ∀ j k, j < 4 → k < 3 → en j ≠ ro k
  lr : ∀ k, k < 3 → ll ≠ ro k
  le : ∀ k, k < 4 → ll ≠ en k
  sr : ∀ k, k < 3 → sl ≠ ro k
  se : ∀ k, k < 4 → sl ≠ en k
  ne : ll ≠ sl
  fr0 : But p H0 H
  nl : H0 ll = none
  ns : H0 sl = none
  fg : ∀ k, k < 3 → H0 (g k) = none
  fro : ∀ k, k < 3 → H0 (ro k) = none
  fs : ∀ k, k < 4 → H0 (s k) = none
abbrev f3 (a b c : Addr) : Nat → Addr := fun j =>
  if j = 0 then a else if j = 1 then b else c
theorem f3_all {a b c : Addr} {R : Addr → Prop} (h0 : R a) (h1 : R b)
    (h2 : R c) : ∀ k, k < 3 → R (f3 a b c k) := fun k hk => by
  match k, hk with
  | 0, _ => exact h0
  | 1, _ => exact h1
  | 2, _ => exact h2
theorem f3_ne {a b c : Addr} (h0 : a ≠ b) (h1 : a ≠ c) (h2 : b ≠ c) :
    ∀ j k, j < 3 → k < 3 → j ≠ k → f3 a b c j ≠ f3 a b c k :=
  fun j k hj hk n => by
  match j, hj, k, hk with
  | 0, _, 0, _ => exact absurd rfl n
  | 0, _, 1, _ => exact h0
  | 0, _, 2, _ => exact h1
  | 1, _, 0, _ => exact h0.symm
  | 1, _, 1, _ => exact absurd rfl n
  | 1, _, 2, _ => exact h2
  | 2, _, 0, _ => exact h1.symm
  | 2, _, 1, _ => exact h2.symm
  | 2, _, 2, _ => exact absurd rfl n
/-- the fourth log -/
theorem Thr.four {C L p ll sl im : Addr} {H0 H H1 : Hp} {ls : List (List Nat)}
    {g ro b s en : Nat → Addr} (T : Thr C L H0 p H ll sl im ls g ro b s en)
    (r : Rng H p) {g3 ro3 b3 : Addr} (ng : H g3 = none) (nr : H ro3 = none)
    (lg3 : LogAt C L H1 g3 ro3 b3 ls []) (z : Same H H1) (good : Good ls) :
    FourF C L H0 p (upd H1 ll (.lst ([.ref (g 0), .ref (g 1), .ref (g 2)] ++
      [.ref g3]))) ll sl ls (atK g 3 g3) (atK ro 3 ro3) (atK b 3 b3) s
      (fun _ => im) en (fun _ => []) ∧
    Quiet C H (upd H1 ll (.lst ([.ref (g 0), .ref (g 1), .ref (g 2)] ++
      [.ref g3]))) ∧ Rng (upd H1 ll (.lst ([.ref (g 0), .ref (g 1),
      .ref (g 2)] ++ [.ref g3]))) p := by
  have hl1 := z _ _ T.hl
  have fr : ∀ a o, H1 a = some o → a ≠ ll → (upd H1 ll (.lst ([.ref (g 0),
      .ref (g 1), .ref (g 2)] ++ [.ref g3]))) a = some o := fun a o e n => by
    rw [upd_ne n]; exact e
  have hF : (upd H1 ll (.lst ([.ref (g 0), .ref (g 1), .ref (g 2)] ++
      [.ref g3]))) ll = some (.lst (lst4 (atK g 3 g3))) := upd_same
  generalize upd H1 ll (.lst ([.ref (g 0), .ref (g 1), .ref (g 2)] ++
    [.ref g3])) = HF at fr hF ⊢
  have loud : Loud H1 ll := .inl ⟨[g 0, g 1, g 2], hl1⟩
  have q1 : Quiet C H1 HF := Quiet.of (S := fun a => a = ll)
    (fun a e => by rw [e]; exact loud) fun a o e n => fr _ _ e n
  have q0 : Quiet C H HF := Quiet.of (S := fun a => a = ll)
    (fun a e => by rw [e]; exact .inl ⟨[g 0, g 1, g 2], T.hl⟩)
    fun a o e n => fr _ _ (z _ _ e) n
  have free : ∀ {a}, H a = none → H0 a = none := fun {a} n =>
    T.fr0.free (r.ne n).symm n
  have lt3 : ∀ k, k < 4 → k ≠ 3 → k < 3 := fun k h n => by omega
  obtain ⟨_, _, e3⟩ := lg3.hasG
  obtain ⟨_, r3⟩ := lg3.hasR
  have nlr : ll ≠ ro3 := ne_of_none T.hl nr
  have nsr : sl ≠ ro3 := ne_of_none T.hs nr
  refine ⟨⟨⟨hF, fr _ _ (z _ _ T.hs) T.ne.symm, ?_, ?_, ?_, ?_, T.ss, ?_, ?_, T.le,
    ?_, T.se, T.ne⟩, ?_, T.nl, T.ns, ?_, ?_, T.fs⟩, q0, ?_⟩
  · intro k hk
    by_cases c : k = 3
    · subst c
      exact lg3.stays q1 (fun o e => fr _ _ e (ne_of e3 hl1 nofun))
        fun o e => fr _ _ e nlr.symm
    · simp only [atK, if_neg c]
      have lk := (T.lg k (lt3 k hk c)).same z
      obtain ⟨_, _, ek⟩ := lk.hasG
      exact lk.stays q1 (fun o e => fr _ _ e (ne_of ek hl1 nofun))
        fun o e => fr _ _ e (T.lr k (lt3 k hk c)).symm
  · intro k hk
    have sk := (T.st k hk).same z
    obtain ⟨_, ek⟩ := sk.hasS
    exact sk.stays good.ne q1 (fun o e => fr _ _ e (ne_of ek hl1 nofun))
      fun o e => fr _ _ e (T.le k hk).symm
  · intro j k hj hk n
    by_cases c : j = 3
    · subst c
      have c2 : ¬ k = 3 := fun h => n h.symm
      obtain ⟨_, _, ek⟩ := (T.lg k (lt3 k hk c2)).hasG
      simp only [atK, if_true, if_neg c2]
      exact (ne_of_none ek ng).symm
    · simp only [atK, if_neg c]
      by_cases d : k = 3
      · subst d
        obtain ⟨_, _, ej⟩ := (T.lg j (lt3 j hj c)).hasG
        simp only [if_true]
        exact ne_of_none ej ng
      · simp only [if_neg d]
        exact T.gg j k (lt3 j hj c) (lt3 k hk d) n
  · intro j k hj hk n
    by_cases c : j = 3
    · subst c
      have c2 : ¬ k = 3 := fun h => n h.symm
      obtain ⟨_, ek⟩ := (T.lg k (lt3 k hk c2)).hasR
      simp only [atK, if_true, if_neg c2]
      exact (ne_of_none ek nr).symm
    · simp only [atK, if_neg c]
      by_cases d : k = 3
      · subst d
        obtain ⟨_, ej⟩ := (T.lg j (lt3 j hj c)).hasR
        simp only [if_true]
        exact ne_of_none ej nr
      · simp only [if_neg d]
        exact T.rr j k (lt3 j hj c) (lt3 k hk d) n
  · intro j k hj hk
    by_cases d : k = 3
    · subst d
      obtain ⟨_, ej⟩ := (T.st j hj).hasE
      simp only [atK, if_true]
      exact ne_of_none ej nr
    · simp only [atK, if_neg d]
      exact T.er j k hj (lt3 k hk d)
  · intro k hk
    by_cases d : k = 3
    · subst d
      simp only [atK, if_true]
      exact nlr
    · simp only [atK, if_neg d]
      exact T.lr k (lt3 k hk d)
  · intro k hk
    by_cases d : k = 3
    · subst d
      simp only [atK, if_true]
      exact nsr
    · simp only [atK, if_neg d]
      exact T.sr k (lt3 k hk d)
  · exact fun a o e n => fr _ _ (z _ _ (T.fr0 _ _ e n)) (ne_of_none e T.nl)
  · intro k hk
    by_cases d : k = 3
    · subst d
      simp only [atK, if_true]
      exact free ng
    · simp only [atK, if_neg d]
      exact T.fg k (lt3 k hk d)
  · intro k hk
    by_cases d : k = 3
    · subst d
      simp only [atK, if_true]
      exact free nr
    · simp only [atK, if_neg d]
      exact T.fro k (lt3 k hk d)
  · obtain ⟨i1, i2, e, w⟩ := r
    exact ⟨i1, i2, fr _ _ (z _ _ e) (fun h => neRngR' (rs := [g 0, g 1, g 2])
      ⟨i1, i2, e, w⟩ T.hl h.symm), w⟩
section
variable {P : Program} {w : World} {K : PySem.W.Frag}
  {mg : Str → Option Value} {base : Heap} {C L : Addr}
theorem ok_right29 {f : Addr} {fd : FuncData} {k : Nat}
    (F : Fun K "_law_right" "_law_right" s_Lright f fd) (B : Bl mg)
    (Cd : CalDraw P w K mg base k)
    (Cn : Cal P w K mg base k "_law_names"
      ["_law_rng_here", "_law_many", "_law_used"] spNames)
    (Cb : CalC P w K mg base C k "Base" ["self", "items"] (spInitF C))
    (Cl : CalC P w K mg base L k "SwapLog" ["self", "base"] (spLInitF C L))
    (Cg : Cal P w K mg base k "_law_begun" ["_law_items"] spBegun)
    (Mc : CalM P w K mg base L k "clone" ["self"] (spClone C L))
    (Ct : CalG P w K mg base k "_law_turned" ["_law_rng_here", "_law_logs",
      "_law_states"] (spTurned C L))
    (Ca : CalG P w K mg base k "_law_all_right" ["_law_logs", "_law_states"]
      (spAllR C L))
    (Cu : CalG P w K mg base k "_law_unlike" ["_law_log", "_law_items"]
      (spUnlike C L)) :
    FnG P w K mg base CX0 (k + 2) f fd ["_law_rng_here"] spRight := by
  refine okG F sc_Lright (fun vs H Q E h => ?_)
    (fun cv A outer s H vs Q E hr1 gd h => ?_)
  · obtain ⟨p, rfl, _⟩ := h
    rfl
  obtain ⟨p, rfl, rg, q⟩ := h
  have nd := sc_Lright.nd
  have hr := hr1.mono (Nat.le_succ k)
  refine ⟨_, C8.pss_cut (ps_set (i := 1) nd rfl (.inr rfl)
      (pe_cal Cn hr (pa_cons (pv 0) (pa_cons (pe_op op_add pe_int (pe_cal Cd hr
        (pa_cons (pv 0) (pa_cons pe_int pa_nil)))) (pa_cons (pe_lst (pa_cons
        pe_str (pa_cons pe_str pa_nil))) pa_nil)))))
    (C8.pss_cut (ps_set (i := 2) nd rfl (.inl rfl)
      (pe_callTy call_list_of (by rfl) B.list bt_list (pa_cons (pv 1) pa_nil)))
    (C8.pss_cut (ps_set (i := 3) nd rfl (.inl rfl)
      (pe_calC Cl hr1 (pa_cons (pe_calC Cb hr1 (pa_cons (pv 2) pa_nil))
        pa_nil)))
    (C8.pss_cut (ps_expr (pe_bm0 PySem.F.plainAttrs_list
      PySem.F.slot_list_reverse PySem.F.type_list_reverse mt_reverse (pv 2)))
    (C8.pss_cut (ps_par (i := 4) (j := 5) (by rfl) nd rfl rfl (by decide) rfl rfl
      (pa_cons (pe_lst (pa_cons (pv 3) (pa_cons (pe_calC Cl hr1 (pa_cons
          (pe_calC Cb hr1 (pa_cons (pe_callTy call_list_of (by rfl) B.list
            bt_list (pa_cons (pv 1) pa_nil)) pa_nil)) pa_nil)) (pa_cons
          (pe_calM0 Mc hr (pv 3)) pa_nil)))) (pa_cons
        (pe_lc (own := [("_law_k", 6)]) (g := gName 6) (tt := tYes) rfl nd
          (pi_range1 (by rfl) B.range (pa_cons pe_int pa_nil))
          (blkOk_by (N := N_Lright) (sc := defScope s_Lright)
            (by decide +kernel))
          (fun _ _ _ _ _ => pg_name (i := 6) nd rfl (Or.inl rfl))
          (fun _ _ _ _ _ => pts_nil)
          (fun _ _ _ _ _ => pe_cal Cg hr (pa_cons (pv 1) pa_nil))) pa_nil))
      (by rfl))
    (C8.pss_cut (ps_expr (pe_bm PySem.F.plainAttrs_list
      PySem.F.slot_list_append PySem.F.type_list_append mt_append (pv 4)
      (pa_cons (pe_calM0 Mc hr (pe_ix ix_list (pv 4) pe_int (fun _ _ => rfl)))
        pa_nil)))
    (C8.pss_cut (ps_for PassesOwn.never rfl
      (pi_range1 (by rfl) B.range (pa_cons (pe_cal Cd hr (pa_cons (pv 0)
        (pa_cons pe_int pa_nil))) pa_nil))
      (pg_name (i := 7) nd rfl (.inl rfl))
      (pss_one (ps_if (PW.pt (pw_or (pt_not (pt_val (pe_calG Ct hr gd
          (pa_cons (pv 0) (pa_cons (pv 4) (pa_cons (pv 5) pa_nil))))))
          (pw_or1 (pt_not (pt_val (pe_calG Ca hr gd (pa_cons (pv 4)
            (pa_cons (pv 5) pa_nil))))))))
        (pss_one ps_never) pss_nil)))
    (pss_one (ps_ret (pe_and (pe_calG Ca hr gd (pa_cons (pv 4) (pa_cons (pv 5)
        pa_nil))) (pe_one (pe_callB (cr_all rfl) (by rfl) B.all bt_all (pa_cons
        (pe_lc (own := [("_law_log", 8)]) (g := gName 8) (tt := tYes) rfl nd
          (pi_list (pv 4))
          (blkOk_by (N := N_Lright) (sc := defScope s_Lright)
            (by decide +kernel))
          (fun _ _ _ _ _ => pg_name (i := 8) nd rfl (Or.inl rfl))
          (fun _ _ _ _ _ => pts_nil)
          (fun _ _ _ _ _ => pe_calG Cu hr gd (pa_cons (pv 8)
            (pa_cons (pv 1) pa_nil)))) pa_nil)))))))))))), ?_⟩
  have lno : ∀ {b cu ro : Addr} {m : Str}, ¬ m = "ground" → ¬ m = "current" →
    ¬ m = "rows" → (lf b cu ro).lookup m = none := fun a b c => lf_no _ _ _ a b c
  obtain ⟨zz, ez, nmz⟩ := nm_of "zzzzzzzz" (by decide +kernel)
  obtain ⟨yy, ey, nmy⟩ := nm_of "y" (by decide +kernel)
  -- items
  refine ⟨fun σ' H' => ∃ im ls, σ' = [some (.ref p), some (.ref im), none, none,
    none, none, none, none, none] ∧ Good ls ∧ 2 ≤ ls.length ∧ ls.length ≤ 39 ∧
    (∀ l ∈ ls, vS l ≠ .str (Str.ofString "zzzzzzzz")) ∧
    H' im = some (.lst (ls.map vS)) ∧ H im = none ∧ Rng H' p ∧ But p H H', ?_,
    ?_⟩
  · refine ⟨_, rfl, _, rfl, p, 5, rfl, rg, by decide, by decide,
      fun d H1 d0 d1 rg1 b1 => ⟨_, _, rfl, rfl, sz (by simp), fun u nu => ?_⟩⟩
    have s2 : Same H1 (upd H1 u (.lst [.str (Str.ofString "zzzzzzzz"),
      .str (Str.ofString "y")])) := sameNew nu
    have v2 : (upd H1 u (.lst [.str (Str.ofString "zzzzzzzz"),
      .str (Str.ofString "y")])) u = some (.lst ([zz, yy].map vS)) := by
      rw [upd_same, ez, ey]
      rfl
    generalize upd H1 u (.lst [.str (Str.ofString "zzzzzzzz"),
      .str (Str.ofString "y")]) = H2 at s2 v2 ⊢
    have rg2 := rg1.same s2
    refine ⟨p, u, (2 + d).toNat, [zz, yy], ?_, rg2, v2, (rg1.ne nu).symm,
      by omega, by simp, fun im ls H3 nim len nm nd' nin him rg3 b3 => ?_⟩
    · rw [Int.toNat_of_nonneg (by omega)]
      rfl
    have b03 : But p H H3 := (b1.trans (But.of s2)).trans b3
    refine ⟨im, ls, rfl, ⟨nm, nd', by omega, by omega⟩, by omega, by omega, ?_,
      him, ?_, rg3, b03⟩
    · intro l hl e
      have : l = zz := vS_inj (e.trans ez)
      exact nin l hl (this ▸ List.mem_cons_self)
    · exact (b1.trans (But.of s2)).free (rg2.ne nim).symm nim
  rintro _ H1 ⟨im, ls, rfl, good, l2, l39, nzz, him1, nim, rg1, b1⟩
  have h40 := good.hi
  -- given
  refine ⟨fun σ' H' => ∃ gv, σ' = [some (.ref p), some (.ref im),
    some (.ref gv), none, none, none, none, none, none] ∧
    H' gv = some (.lst (ls.map vS)) ∧ H' im = some (.lst (ls.map vS)) ∧
    H gv = none ∧ im ≠ gv ∧ Rng H' p ∧ But p H H', ?_, ?_⟩
  · refine ⟨_, rfl, im, _, rfl, .inl (SqL.of him1), fun gv ngv => ?_⟩
    exact ⟨gv, rfl, upd_same, sameNew ngv _ _ him1, b1.free (rg1.ne ngv).symm ngv,
      ne_of_none him1 ngv, rg1.same (sameNew ngv), b1.trans (But.of (sameNew ngv))⟩
  clear him1 rg1 b1
  rintro _ H1 ⟨gv, rfl, hgv1, him1, ngv, nig, rg1, b1⟩
  -- the first log
  refine ⟨fun σ' H' => ∃ g0 ro0 b0 dx cu db lo d, σ' = [some (.ref p),
    some (.ref im), some (.ref gv), some (.ref g0), none, none, none, none,
    none] ∧ H' g0 = some (.ins L dx (lf b0 cu ro0)) ∧
    H' cu = some (.lst (ls.map vS)) ∧ H' ro0 = some (.lst []) ∧
    H' b0 = some (.ins C db (bf lo d)) ∧ H' lo = some (.lst (ls.map vS)) ∧
    H' d = some (.dK (prs 0 ls)) ∧ lo ≠ gv ∧ cu ≠ gv ∧
    H' gv = some (.lst (ls.map vS)) ∧ H' im = some (.lst (ls.map vS)) ∧
    H g0 = none ∧ H ro0 = none ∧ Rng H' p ∧ But p H H', ?_, ?_⟩
  · refine ⟨_, rfl, fun b0 dy nb ny ne => ?_⟩
    have s2 : Same H1 (upd (upd H1 dy (.own b0)) b0 (.ins C dy [])) :=
      OM.Same.put (sameNew ny) nb
    refine ⟨b0, gv, dy, ls, rfl, upd_same, s2 _ _ hgv1, good, fun H3 hb b3 => ?_⟩
    obtain ⟨db, lo, d, k1, k2, k3, nlo, nd2⟩ := hb
    have s13 : Same H1 H3 := fun y o e => b3 y o (s2 y o e) (ne_of_none e nb)
    refine ⟨rfl, fun g0 dx ng nx ne' => ?_⟩
    have s4 : Same H3 (upd (upd H3 dx (.own g0)) g0 (.ins L dx [])) :=
      OM.Same.put (sameNew nx) ng
    refine ⟨g0, b0, dx, ls, rfl, upd_same, ⟨db, lo, d, s4 _ _ k1, s4 _ _ k2,
      s4 _ _ k3⟩, good, fun ro0 H5 hg lg5 b5 => ?_⟩
    obtain ⟨dx', cu, m1, m2, m3, ncu, nro⟩ := hg
    have s35 : Same H3 H5 := fun y o e => b5 y o (s4 y o e) (ne_of_none e ng)
    have s15 := s13.trans s35
    have fr : ∀ {a}, H1 a = none → H a = none := fun {a} n =>
      b1.free (rg1.ne n).symm n
    refine ⟨rfl, g0, ro0, b0, dx', cu, db, lo, d, rfl, m1, m2, m3, s35 _ _ k1,
      s35 _ _ k2, s35 _ _ k3, ?_, ?_, s15 _ _ hgv1, s15 _ _ him1,
      fr (s13.free ng), fr (s13.free (s4.free nro)), rg1.same s15,
      b1.trans (But.of s15)⟩
    · exact (ne_of_none (s2 _ _ hgv1) nlo).symm
    · exact (ne_of_none (s4 _ _ (s13 _ _ hgv1)) ncu).symm
  clear hgv1 him1 rg1 b1
  rintro _ H1 ⟨g0, ro0, b0, dx, cu, db, lo, d, rfl, w1, w2, w3, w4, w5, w6, nlo,
    ncu, hgv1, him1, ng0, nr0, rg1, b1⟩
  -- the list that was given is turned round
  refine ⟨fun σ' H' => σ' = [some (.ref p),
    some (.ref im), some (.ref gv), some (.ref g0), none, none, none, none,
    none] ∧ LogAt C L H' g0 ro0 b0 ls [] ∧ H' im = some (.lst (ls.map vS)) ∧
    Rng H' p ∧ But p H H', ?_, ?_⟩
  · refine ⟨_, rfl, .inl ⟨rfl, _, SqL.of hgv1⟩, gv, _, rfl, rfl, hgv1, rfl, ?_, ?_,
      ?_, ?_⟩
    · have fr : ∀ a o, H1 a = some o → a ≠ gv →
          (upd H1 gv (.lst (ls.map vS).reverse)) a = some o := fun a o e n => by
        rw [upd_ne n]; exact e
      refine ⟨⟨dx, cu, [], fr _ _ w1 (ne_of w1 hgv1 nofun), fr _ _ w2 ncu,
        fr _ _ w3 (fun z => ?_), .nil⟩, ⟨db, lo, d,
        fr _ _ w4 (ne_of w4 hgv1 nofun), fr _ _ w5 nlo,
        fr _ _ w6 (ne_of w6 hgv1 nofun)⟩, good, trivial, nofun⟩
      rw [z, hgv1] at w3
      have z' := HO.lst.inj (Option.some.inj w3)
      cases ls with
      | nil => exact absurd l2 (by simp)
      | cons a r => cases z'
    · rw [upd_ne nig]; exact him1
    · obtain ⟨i1, i2, e, z⟩ := rg1
      exact ⟨i1, i2, by rw [upd_ne (neRng ⟨i1, i2, e, z⟩ hgv1).symm]; exact e, z⟩
    · exact (b1.new ngv)
  clear w1 w2 w3 w4 w5 w6 hgv1 him1 rg1 b1
  rintro _ H1 ⟨rfl, lg1, him1, rg1, b1⟩
  have fr : ∀ {a}, H1 a = none → H a = none := fun {a} n =>
    b1.free (rg1.ne n).symm n
  -- three logs, four states
  refine ⟨fun σ' H' => ∃ ll sl g ro b s en, σ' = [some (.ref p),
    some (.ref im), some (.ref gv), some (.ref g0), some (.ref ll),
    some (.ref sl), none, none, none] ∧
    Thr C L H p H' ll sl im ls g ro b s en ∧ Rng H' p ∧
    H' im = some (.lst (ls.map vS)), ?_, ?_⟩
  · refine ⟨_, rfl, _, rfl, im, _, rfl, .inl (SqL.of him1), fun iv niv => ?_⟩
    have s2 : Same H1 (upd H1 iv (.lst (ls.map vS))) := sameNew niv
    have v2 : (upd H1 iv (.lst (ls.map vS))) iv = some (.lst (ls.map vS)) :=
      upd_same
    generalize upd H1 iv (.lst (ls.map vS)) = H2 at s2 v2 ⊢
    refine fun b2 dy nb ny ne => ?_
    have s3 : Same H2 (upd (upd H2 dy (.own b2)) b2 (.ins C dy [])) :=
      OM.Same.put (sameNew ny) nb
    refine ⟨b2, iv, dy, ls, rfl, upd_same, s3 _ _ v2, good, fun H4 hb b4 => ?_⟩
    obtain ⟨db, lo, d, k1, k2, k3, nlo, nd2⟩ := hb
    have s24 : Same H2 H4 := fun y o e => b4 y o (s3 y o e) (ne_of_none e nb)
    refine ⟨rfl, fun g1 dx1 ng nx ne' => ?_⟩
    have s5 : Same H4 (upd (upd H4 dx1 (.own g1)) g1 (.ins L dx1 [])) :=
      OM.Same.put (sameNew nx) ng
    refine ⟨g1, b2, dx1, ls, rfl, upd_same, ⟨db, lo, d, s5 _ _ k1, s5 _ _ k2,
      s5 _ _ k3⟩, good, fun ro1 H6 hg lg6 b6 => ?_⟩
    obtain ⟨dx', cu', m1, m2, m3, ncu', nro1⟩ := hg
    have s46 : Same H4 H6 := fun y o e => b6 y o (s5 y o e) (ne_of_none e ng)
    have s14 := s2.trans s24
    have s16 := s14.trans s46
    have nr1 : H4 ro1 = none := s5.free nro1
    obtain ⟨dx0, cu0, e0⟩ := lg1.hasG
    obtain ⟨_, r0⟩ := lg1.hasR
    obtain ⟨_, _, e1⟩ := lg6.hasG
    obtain ⟨_, r1⟩ := lg6.hasR
    refine ⟨rfl, _, rfl, g0, dx0, _, rfl, s16 _ _ e0, lno (by decide +kernel)
      (by decide +kernel) (by decide +kernel), g0, ro0, b0, ls, [], rfl,
      lg1.same s16, fun g2 ro2 H7 n2 nr2 lg7 s7 => ⟨sz (by simp),
      fun ll nll => ?_⟩⟩
    obtain ⟨_, _, e2⟩ := lg7.hasG
    obtain ⟨_, r2⟩ := lg7.hasR
    have s17 := s16.trans s7
    have s8 : Same H7 (upd H7 ll (.lst [.ref g0, .ref g1, .ref g2])) :=
      sameNew nll
    have hl8 : (upd H7 ll (.lst [.ref g0, .ref g1, .ref g2])) ll =
      some (.lst [.ref g0, .ref g1, .ref g2]) := upd_same
    generalize upd H7 ll (.lst [.ref g0, .ref g1, .ref g2]) = H8 at s8 hl8 ⊢
    have s18 := s17.trans s8
    refine ⟨_, rfl, by decide, by decide, fun D nD => ?_⟩
    refine lc_range (lo := 0) (n := 4) (fun m H' => ∃ s en : Nat → Addr,
      H' D = some (.lst ((List.range m).map fun j => V.ref (s j))) ∧
      (∀ j, j < m → StAt H' (s j) im (en j) ls []) ∧
      (∀ i j, i < m → j < m → i ≠ j → s i ≠ s j) ∧
      (∀ j, j < m → H8 (s j) = none ∧ H8 (en j) = none ∧ D ≠ en j) ∧
      Same H8 H')
      ⟨fun _ => D, fun _ => D, upd_same, fun j h => absurd h (by omega),
        fun i j h => absurd h (by omega), fun j h => absurd h (by omega),
        sameNew nD⟩ ?_ ?_
    · rintro m H9 hm ⟨s, en, hD, st9, ss9, fr9, s9⟩
      refine ⟨rfl, yes ⟨_, rfl, im, ls, rfl, s9 _ _ (s18 _ _ him1), by omega,
        fun s1 en1 H10 ns nen st10 s10 => ?_⟩⟩
      have hD10 := s10 _ _ hD
      have frD : ∀ {z : HO} a o, H10 a = some o → a ≠ D →
          (upd H10 D z) a = some o := fun a o e n => by
        rw [upd_ne n]; exact e
      have qD : ∀ {z : HO}, Quiet C H10 (upd H10 D z) := fun {z} =>
        Quiet.of (S := fun a => a = D) (fun a e => by
          rw [e]
          exact .inl ⟨(List.range m).map s, by rw [hD10, List.map_map]; rfl⟩)
          fun a o e n => frD _ _ e n
      refine ⟨_, hD10, ?_, atK s m s1, atK en m en1, ?_, ?_, ?_, ?_,
        OM.Same.put (s9.trans s10) nD⟩
      · rw [List.length_map, List.length_range]
        exact sz' (by omega)
      · rw [upd_same, List.range_succ, List.map_append]
        congr 3
        · refine List.map_congr_left fun j hj => ?_
          have : ¬ j = m := by
            have := List.mem_range.mp hj
            omega
          simp only [atK, if_neg this]
        · simp only [List.map_cons, List.map_nil, atK, if_true]
      · intro j hj
        by_cases c : j = m
        · subst c
          simp only [atK, if_true]
          obtain ⟨_, es⟩ := st10.hasS
          refine st10.stays good.ne qD (fun o e => frD _ _ e
            (ne_of es hD10 nofun)) fun o e => frD _ _ e fun z => ?_
          rw [z, hD] at nen
          cases nen
        · simp only [atK, if_neg c]
          have sj := (st9 j (by omega)).same s10
          obtain ⟨_, es⟩ := sj.hasS
          exact sj.stays good.ne qD (fun o e => frD _ _ e
            (ne_of es hD10 nofun)) fun o e => frD _ _ e
            (fr9 j (by omega)).2.2.symm
      · intro i j hi hj n
        by_cases c : i = m
        · have c2 : ¬ j = m := fun h => n (c.trans h.symm)
          obtain ⟨_, es⟩ := (st9 j (by omega)).hasS
          simp only [atK, if_pos c, if_neg c2]
          exact (ne_of_none es ns).symm
        · by_cases c2 : j = m
          · obtain ⟨_, es⟩ := (st9 i (by omega)).hasS
            simp only [atK, if_neg c, if_pos c2]
            exact ne_of_none es ns
          · simp only [atK, if_neg c, if_neg c2]
            exact ss9 i j (by omega) (by omega) n
      · intro j hj
        by_cases c : j = m
        · simp only [atK, if_pos c]
          exact ⟨s9.free ns, s9.free nen, ne_of_none hD nen⟩
        · simp only [atK, if_neg c]
          exact fr9 j (by omega)
    · rintro H9 ⟨s, en, hD, st9, ss9, fr9, s9⟩
      have s19 := s18.trans s9
      have r08 := s18 _ _ r0
      have r18 := s8 _ _ (s7 _ _ r1)
      have r28 := s8 _ _ r2
      refine ⟨_, _, rfl, ll, D, f3 g0 g1 g2, f3 ro0 ro1 ro2, f3 b0 b2 b0, s, en,
        rfl, ?_, rg1.same s19, s19 _ _ him1⟩
      refine ⟨s9 _ _ hl8, hD, ?_, st9, ?_, ?_, ss9, ?_, ?_, ?_, ?_,
        fun k hk => (fr9 k hk).2.2, ne_of_none hl8 nD, b1.trans (But.of s19),
        fr (s17.free nll), fr (s18.free nD), ?_, ?_,
        fun k hk => fr (s18.free (fr9 k hk).1)⟩
      · intro k hk
        match k, hk with
        | 0, _ => exact lg1.same s19
        | 1, _ => exact lg6.same ((s7.trans s8).trans s9)
        | 2, _ => exact lg7.same (s8.trans s9)
      · exact f3_ne (ne_of_none (s14 _ _ e0) ng) (ne_of_none (s16 _ _ e0) n2)
          (ne_of_none e1 n2)
      · exact f3_ne (ne_of_none (s14 _ _ r0) nr1) (ne_of_none (s16 _ _ r0) nr2)
          (ne_of_none r1 nr2)
      · intro j k hj hk
        exact f3_all (R := fun a => en j ≠ a)
          (ne_of_none r08 (fr9 j hj).2.1).symm
          (ne_of_none r18 (fr9 j hj).2.1).symm
          (ne_of_none r28 (fr9 j hj).2.1).symm k hk
      · exact f3_all (R := fun a => ll ≠ a) (ne_of_none (s17 _ _ r0) nll).symm
          (ne_of_none (s7 _ _ r1) nll).symm (ne_of_none r2 nll).symm
      · intro k hk
        exact ne_of_none hl8 (fr9 k hk).2.1
      · exact f3_all (R := fun a => D ≠ a) (ne_of_none r08 nD).symm
          (ne_of_none r18 nD).symm (ne_of_none r28 nD).symm
      · exact f3_all (R := fun a => H a = none) ng0 (fr (s14.free ng))
          (fr (s16.free n2))
      · exact f3_all (R := fun a => H a = none) nr0 (fr (s14.free nr1))
          (fr (s16.free nr2))
  clear lg1 him1 rg1 b1 fr
  rintro _ H1 ⟨ll, sl, g, ro, b, s, en, rfl, T1, rg1, him1⟩
  -- the fourth log
  refine ⟨fun σ' H' => ∃ g ro b s it en rw, σ' = [some (.ref p),
    some (.ref im), some (.ref gv), some (.ref g0), some (.ref ll),
    some (.ref sl), none, none, none] ∧
    FourF C L H p H' ll sl ls g ro b s it en rw ∧ Rng H' p ∧
    H' im = some (.lst (ls.map vS)), ?_, ?_⟩
  · obtain ⟨d2, c2, e2⟩ := (T1.lg 2 (by decide)).hasG
    refine ⟨_, rfl, .inl ⟨rfl, _, SqL.of T1.hl⟩, _, rfl, ll, _, 2, _, rfl, rfl,
      SqL.of T1.hl, atI_nat (j := 2) rfl, g 2, d2, _, rfl, e2,
      lno (by decide +kernel) (by decide +kernel) (by decide +kernel), g 2, ro 2,
      b 2, ls, [], rfl, T1.lg 2 (by decide), fun g3 ro3 H2 n3 nr3 lg3 s3 => ?_⟩
    obtain ⟨FF, Qt, rgF⟩ := T1.four rg1 n3 nr3 lg3 s3 good
    refine ⟨ll, _, _, rfl, rfl, s3 _ _ T1.hl, (by
      show 3 < sizeLine; decide), _, _, _, _, _, _, _, rfl,
      FF, rgF, Qt.nms _ _ good.ne him1⟩
  clear T1 rg1 him1 g ro b s en
  rintro _ H1 ⟨g, ro, b, s, it, en, rw, rfl, F1, rg1, him1⟩
  -- turn by turn
  refine ⟨fun σ' H' => ∃ g ro b s it en rw y7, σ' = [some (.ref p),
    some (.ref im), some (.ref gv), some (.ref g0), some (.ref ll),
    some (.ref sl), none, y7, none] ∧
    FourF C L H p H' ll sl ls g ro b s it en rw ∧ Rng H' p ∧
    H' im = some (.lst (ls.map vS)), ?_, ?_⟩
  · refine ⟨_, rfl, p, 25, rfl, rg1, by decide, by decide,
      fun d4 H4 d0 d1 rg4 b4 => ⟨_, rfl, by omega, by omega, ?_⟩⟩
    refine for_range (lo := 0) (n := d4.toNat) (fun j σ H' =>
      ∃ g ro b s it en rw y7, σ = [some (.ref p),
        some (.ref im), some (.ref gv), some (.ref g0), some (.ref ll),
        some (.ref sl), none, y7, none] ∧
        FourF C L H p H' ll sl ls g ro b s it en rw ∧ Rng H' p ∧
        H' im = some (.lst (ls.map vS)))
      ⟨g, ro, b, s, it, en, rw, none, rfl, F1.but rg1 b4, rg4,
        b4 _ _ him1 (neRng rg1 him1)⟩ ?_
      (fun σ H' z => z)
    rintro j σ H5 hj ⟨g, ro, b, s, it, en, rw, y7, rfl, F5, rg5, him5⟩
    refine ⟨_, rfl, _, rfl, _, rfl, p, ll, sl, ls, g, ro, b, s, it, en, rw, H,
      rfl, rg5, F5, l2, fun g' ro' b' s' it' en' rw' H6 F6 rg6 q6 => ?_⟩
    refine ⟨_, rfl, iteF ?_⟩
    refine ⟨_, rfl, _, rfl, ll, sl, ls, g', ro', b', s', it', en', rw', rfl,
      F6.toFour, l2, fun H7 s7 => ⟨_, rfl, iteF ?_⟩⟩
    exact ⟨g', ro', b', s', it', en', rw', _, rfl, ⟨F6.toFour.same s7,
      F6.fr0.trans (But.of s7), F6.nl, F6.ns, F6.fg, F6.fro, F6.fs⟩,
      rg6.same s7, s7 _ _ (q6.nms _ _ good.ne him5)⟩
  clear F1 rg1 him1 g ro b s it en rw
  rintro _ H1 ⟨g, ro, b, s, it, en, rw, y7, rfl, F1, rg1, him1⟩
  -- at the end
  refine ⟨_, rfl, _, rfl, ll, sl, ls, g, ro, b, s, it, en, rw, rfl, F1.toFour, l2,
    fun H2 s2 => ⟨_, rfl, iteT ?_⟩⟩
  have F2 := F1.toFour.same s2
  refine ⟨_, rfl, ll, rfl, ⟨_, SqL.of F2.hl⟩, fun D nD => ?_⟩
  refine lc_list (K := K) (a := ll) (xs := lst4 g) (fun j H' =>
    H' D = some (.lst ((List.replicate j true).map V.bl)) ∧ Same H2 H')
    ⟨upd_same, sameNew nD⟩ (fun j H' _ z => SqL.of (z.2 _ _ F2.hl)) ?_ ?_
  · rintro j v H3 hv ⟨hD, s3⟩
    have l4 : (lst4 g).length = 4 := by
      unfold lst4; rw [List.length_map, List.length_range]
    have hj : j < 4 := by
      have := (List.getElem?_eq_some_iff.mp hv).1
      omega
    rw [lst4_get hj] at hv
    cases Option.some.inj hv
    have s13 := s2.trans s3
    refine ⟨rfl, yes ⟨_, rfl, _, rfl, g j, ro j, b j, im, ls, rw j, rfl,
      (F1.lg j hj).same s13, s13 _ _ him1, l39, nzz, fun H4 s4 => ⟨_, s4 _ _ hD, ?_,
      ?_, OM.Same.put (s3.trans s4) nD⟩⟩⟩
    · rw [List.length_map, List.length_replicate]
      exact sz' (by omega)
    · rw [upd_same, List.replicate_succ', List.map_append]
      rfl
  · rintro H3 ⟨hD, s3⟩
    refine ⟨D, _, rfl, SqL.of hD, ?_⟩
    have s13 := s2.trans s3
    rw [show ((List.replicate (lst4 g).length true).all id) = true by
      rw [List.all_eq_true]
      intro x hx
      exact (List.mem_replicate.mp hx).2]
    exact q _ (rg1.same s13) (F1.fr0.trans (But.of s13))
end
end OM
namespace OM
open PySem PySem.Spec PyProof.Rows L2
/-- the same with isinstance -/
theorem kit2 {K : PySem.W.Frag} {S T : Addr} (ne : (S == T) = false)
    (h2 : PySem.W.isClsIn K T = true)
    (h3 : PySem.W.typeIn K (.ref T) = some (.type "type")) {b : Bool}
    (h4 : PySem.W.subIn K (.ref S) (.ref T) = some b) :
    PySem.W.kitOne K (.ref S) (.ref T) = some b := by
  have e2 : ((PySem.W.clsIn K T).isSome &&
      PySem.W.typeIn K (.ref T) == some (.type "type")) = true := by
    have h2' : (PySem.W.clsIn K T).isSome = true := h2
    rw [h2', h3] <;> rfl
  have n : ¬ ((Value.ref S == Value.ref T) = true) := fun z => by
    have z' := eq_of_beq z
    injection z' with z'
    rw [z'] at ne
    simp at ne
  unfold PySem.W.kitOne
  rw [if_neg n]
  show (if ((PySem.W.clsIn K T).isSome &&
      PySem.W.typeIn K (.ref T) == some (.type "type")) = true then
      PySem.W.subIn K (.ref S) (.ref T) else none) = some b
  rw [if_pos e2]
  exact h4
/-- a built-in type is none of the class's -/
theorem kitB {K : PySem.W.Frag} {T : Addr} {S : String}
    (h2 : PySem.W.isClsIn K T = true)
    (h3 : PySem.W.typeIn K (.ref T) = some (.type "type")) {b : Bool}
    (h4 : PySem.W.subIn K (.type S) (.ref T) = some b) :
    PySem.W.kitOne K (.type S) (.ref T) = some b := by
  have e2 : ((PySem.W.clsIn K T).isSome &&
      PySem.W.typeIn K (.ref T) == some (.type "type")) = true := by
    have h2' : (PySem.W.clsIn K T).isSome = true := h2
    rw [h2', h3] <;> rfl
  have n : ¬ ((Value.type S == Value.ref T) = true) := fun z => by
    cases eq_of_beq z
  unfold PySem.W.kitOne
  rw [if_neg n]
  show (if ((PySem.W.clsIn K T).isSome &&
      PySem.W.typeIn K (.ref T) == some (.type "type")) = true then
      PySem.W.subIn K (.type S) (.ref T) else none) = some b
  rw [if_pos e2]
  exact h4
end OM
namespace OM
open PySem PySem.Spec PyProof.Rows L2
section
variable {P : Program} {w : World} {K : PySem.W.Frag}
  {mg : Str → Option Value} {base : Heap} {C L : Addr}
/-- the law, by what the top has left -/
theorem all29
    {f1 f2 f3 f4 f5 f6 f7 f8 f9 f10 f11 f12 f13 f14 f15 f16 f17 f18 f19 f20 f21 f22 f23 f24 f25 f26 f27 f28 f29 f30 f31 f32 f33 f34 : Addr}
    {d1 d2 d3 d4 d5 d6 d7 d8 d9 d10 d11 d12 d13 d14 d15 d16 d17 d18 d19 d20 d21 d22 d23 d24 d25 d26 d27 d28 d29 d30 d31 d32 d33 d34 : FuncData}
    {m1 m2 m3 m4 m5 m6 m7 m8 m9 m10 m11 m12 m13 m14 m15 m16 m17 m18 m19 m20 m21 m22 m23 m24 : Addr}
    {e1 e2 e3 e4 e5 e6 e7 e8 e9 e10 e11 e12 e13 e14 e15 e16 e17 e18 e19 e20 e21 e22 e23 e24 : FuncData}
    {t40 t8 tN : Tok}
    (B : Bl mg)
    (BI : BlI mg)
    (z_any : mg "any" = none)
    (z_tuple : mg "tuple" = none)
    (TC : BC K mg C) (mkC : PySem.W.makesIn K C = true)
    (TL : LC K mg L) (mkL : PySem.W.makesIn K L = true)
    (kn : Kin K C L)
    (c40 : mg "MAX_ITEMS" = some (.int 40 t40))
    (c8 : mg "MAX_NAME_LENGTH" = some (.int 8 t8))
    (cN : mg "NO_REASON" = some (.str (Str.ofString "") tN))
    (D1 : DefAt K mg "is_name" s_is_name ["value"] f1 d1)
    (D2 : DefAt K mg "check_items" s_check_items ["items"] f2 d2)
    (D3 : DefAt K mg "pair_of" s_pair_of ["base", "first", "second"] f3 d3)
    (D4 : DefAt K mg "is_integer_from" s_is_integer_from ["value", "low", "high"] f4 d4)
    (D5 : DefAt K mg "is_swap_index" s_is_swap_index ["base", "value"] f5 d5)
    (D6 : DefAt K mg "check_swap_index" s_check_swap_index ["base", "index"] f6 d6)
    (D7 : DefAt K mg "exchanged" s_exchanged ["order", "index"] f7 d7)
    (D8 : DefAt K mg "goes_outward" s_goes_outward ["base", "order", "index"] f8 d8)
    (D9 : DefAt K mg "pairs_of_swaps" s_pairs_of_swaps ["base", "indexes"] f9 d9)
    (D10 : DefAt K mg "is_reason" s_is_reason ["value"] f10 d10)
    (D11 : DefAt K mg "check_reason" s_check_reason ["reason"] f11 d11)
    (D12 : DefAt K mg "_law_rng" s_Lrng ["_law_script", "_law_k"] f12 d12)
    (D13 : DefAt K mg "_law_draw" s_Ldraw ["_law_rng_here", "_law_many"] f13 d13)
    (D14 : DefAt K mg "_law_choice" s_Lchoice ["_law_rng_here", "_law_options"] f14 d14)
    (D15 : DefAt K mg "_law_name" s_Lname ["_law_rng_here", "_law_used"] f15 d15)
    (D16 : DefAt K mg "_law_names" s_Lnames ["_law_rng_here", "_law_many", "_law_used"] f16 d16)
    (D17 : DefAt K mg "_law_swapped_entries" s_Lswapped_entries ["_law_items", "_law_entries", "_law_order", "_law_index", "_law_label_here"] f17 d17)
    (D18 : DefAt K mg "_law_begun" s_Lbegun ["_law_items"] f18 d18)
    (D19 : DefAt K mg "_law_swap_done" s_Lswap_done ["_law_state", "_law_at", "_law_label_here"] f19 d19)
    (D20 : DefAt K mg "_law_label" s_Llabel ["_law_rng_here"] f20 d20)
    (D21 : DefAt K mg "_law_swapped" s_Lswapped ["_law_rng_here", "_law_log", "_law_state"] f21 d21)
    (D22 : DefAt K mg "_law_is" s_Lis ["_law_log", "_law_state"] f22 d22)
    (D23 : DefAt K mg "_law_right" s_Lright ["_law_rng_here"] f23 d23)
    (D24 : DefAt K mg "law" s_law ["_law_script"] f24 d24)
    (D25 : DefAt K mg "order_after_swaps" s_order_after_swaps ["base", "indexes"] f25 d25)
    (D26 : DefAt K mg "is_entry" s_is_entry ["base", "value"] f26 d26)
    (D27 : DefAt K mg "log_from_entries" s_log_from_entries ["base", "entries"] f27 d27)
    (D28 : DefAt K mg "_law_copied" s_Lcopied ["_law_state"] f28 d28)
    (D29 : DefAt K mg "_law_turned" s_Lturned ["_law_rng_here", "_law_logs", "_law_states"] f29 d29)
    (D30 : DefAt K mg "_law_asked_right" s_Lasked_right ["_law_log", "_law_state"] f30 d30)
    (D31 : DefAt K mg "_law_all_right" s_Lall_right ["_law_logs", "_law_states"] f31 d31)
    (D32 : DefAt K mg "_law_unlike" s_Lunlike ["_law_log", "_law_items"] f32 d32)
    (D33 : DefAt K mg "names_fault" s_names_fault ["value", "most"] f33 d33)
    (D34 : DefAt K mg "is_integer" s_is_integer ["value"] f34 d34)
    (M1 : MethAt K C "__init__" "Base.__init__" s_Base_init ["self", "items"] m1 e1)
    (M2 : MethAt K C "__len__" "Base.__len__" s_Base_len ["self"] m2 e2)
    (M3 : MethAt K C "names" "Base.names" s_Base_names ["self"] m3 e3)
    (M4 : MethAt K C "has_item" "Base.has_item" s_Base_has_item ["self", "value"] m4 e4)
    (M5 : MethAt K C "position_of" "Base.position_of" s_Base_position_of ["self", "item"] m5 e5)
    (M6 : MethAt K C "precedes" "Base.precedes" s_Base_precedes ["self", "first", "second"] m6 e6)
    (M7 : MethAt K L "__init__" "SwapLog.__init__" s_SwapLog_init ["self", "base"] m7 e7)
    (M8 : MethAt K L "__len__" "SwapLog.__len__" s_SwapLog_len ["self"] m8 e8)
    (M9 : MethAt K L "base" "SwapLog.base" s_SwapLog_base ["self"] m9 e9)
    (M10 : MethAt K L "order" "SwapLog.order" s_SwapLog_order ["self"] m10 e10)
    (M11 : MethAt K L "entries" "SwapLog.entries" s_SwapLog_entries ["self"] m11 e11)
    (M12 : MethAt K L "indexes" "SwapLog.indexes" s_SwapLog_indexes ["self"] m12 e12)
    (M13 : MethKDAt K L "swap" "SwapLog.swap" "reason" 2 s_SwapLog_swap ["self", "index", "reason"] m13 e13)
    (M14 : MethAt K L "swap_checked" "SwapLog.swap_checked" s_SwapLog_swap_checked ["self", "index", "reason"] m14 e14)
    (M15 : MethAt K L "check_position" "SwapLog.check_position" s_SwapLog_check_position ["self", "position"] m15 e15)
    (M16 : MethAt K L "remove_entry" "SwapLog.remove_entry" s_SwapLog_remove_entry ["self", "position"] m16 e16)
    (M17 : MethAt K L "entry_for" "SwapLog.entry_for" s_SwapLog_entry_for ["self", "first", "second"] m17 e17)
    (M18 : MethAt K L "clone" "SwapLog.clone" s_SwapLog_clone ["self"] m18 e18)
    (M19 : MethAt K C "__eq__" "Base.__eq__" s_Base_eq ["self", "other"] m19 e19)
    (M20 : MethAt K L "__eq__" "SwapLog.__eq__" s_SwapLog_eq ["self", "other"] m20 e20)
    (M21 : MethAt K L "__repr__" "SwapLog.__repr__" s_SwapLog_repr ["self"] m21 e21)
    (M22 : MethAt K L "clear_entries" "SwapLog.clear_entries" s_SwapLog_clear_entries ["self"] m22 e22)
    (M23 : MethAt K L "order_after" "SwapLog.order_after" s_SwapLog_order_after ["self", "count"] m23 e23)
    (M24 : MethAt K L "pair_at" "SwapLog.pair_at" s_SwapLog_pair_at ["self", "position"] m24 e24)
    : FnG P w K mg base CX0 15 f24 d24 ["_law_script"] (spLaw K) := by
  have gDraw := ok_draw (P := P) (w := w) (base := base) (k := 0) D13.fn B
  have gRng := ok_rng (P := P) (w := w) (base := base) (k := 0) D12.fn B
  have gIsn := ok_isname (P := P) (w := w) (base := base) (k := 0) D1.fn B c8
  have gNms := ok_getnames (P := P) (w := w) (base := base) (k := 0) M3.fn B TC
  have gLen := ok_lenB (P := P) (w := w) (base := base) (k := 0) M2.fn B TC
  have gName := ok_name (k := 1) D15.fn B (D13.cal gDraw (by decide))
  have gNames := ok_names (k := 2) D16.fn B (D15.cal gName (by decide))
  have gNfa := ok_nfault (k := 1) D33.fn B (D1.cal gIsn (by decide))
  have gChk := ok_check (k := 2) D2.fn (D33.cal gNfa (by decide)) c40
  have gInit := ok_init (k := 3) M1.fn B TC (D2.cal gChk (by decide))
  have gHas := ok_has (k := 1) M4.fn B TC (D1.cal gIsn (by decide))
  have gPos := ok_pos (k := 2) M5.fn TC (M4.calM TC.cl gHas (by decide))
  have gPrec := ok_prec (k := 3) M6.fn (M5.calM TC.cl gPos (by decide))
  have gInt := ok_isint (P := P) (w := w) (base := base) (k := 0) D34.fn B BI
  have gIntf := ok_intfrom (k := 1) D4.fn (D34.cal gInt (by decide))
  have gSix := ok_swapix (k := 2) (n := 1) D5.fn B (D4.cal gIntf (by decide))
    M2.spec gLen (by decide)
  have gCix := ok_chkix (k := 3) D6.fn (D5.cal gSix (by decide))
  have gExch := ok_exch (P := P) (w := w) (mg := mg) (base := base) (k := 0) D7.fn
  have gGoes := ok_goes (k := 4) D8.fn (M6.calM TC.cl gPrec (by decide))
  have gPof := ok_pairof (k := 4) D3.fn (M6.calM TC.cl gPrec (by decide))
  have gPrs := ok_prsof (k := 1) D9.fn (M3.calM TC.cl gNms (by decide))
    (D7.cal gExch (by decide))
  have gIsr := ok_isrsn (k := 1) D10.fn B cN (D1.cal gIsn (by decide))
  have gCkr := ok_chkrsn (k := 2) D11.fn (D10.cal gIsr (by decide))
  have gLin := ok_linit (L := L) (k := 1) M7.fn TL (M3.calM TC.cl gNms (by decide))
  have gLle := ok_llen (P := P) (w := w) (base := base) (C := C) (k := 0) M8.fn B TL
  have gLor := ok_lord (P := P) (w := w) (base := base) (C := C) (k := 0) M10.fn B TL
  have gLen' := ok_lent (P := P) (w := w) (base := base) (C := C) (k := 0) M11.fn B TL
  have gLix := ok_lixs (P := P) (w := w) (base := base) (C := C) (k := 0) M12.fn TL
  have gLfo := ok_lfor (k := 5) M17.fn TL (D3.cal gPof (by decide))
    (D9.cal gPrs (by decide)) (M12.calM TL.cl gLix (by decide))
  have gLck := ok_lchk (C := C) (k := 2) M15.fn B TL (D4.cal gIntf (by decide))
  have gLsc := ok_swapc (k := 6) M14.fn TL (D8.cal gGoes (by decide))
    (D7.cal gExch (by decide)) (M17.calM TL.cl gLfo (by decide))
  have gLsw := ok_lswap (k := 7) M13.k.fn TL (D6.cal gCix (by decide))
    (D11.cal gCkr (by decide)) (M14.calM TL.cl gLsc (by decide))
  have mkB : Mk K C m1 := ⟨mkC, M1.me.at_, M1.me.fn, TC.kC⟩
  have mkG : Mk K L m7 := ⟨mkL, M7.me.at_, M7.me.fn, TL.kL⟩
  have clL : ∀ {n : Nat}, 2 ≤ n → CalC P w K mg base L n "SwapLog" ["self", "base"] (spLInit C L) := fun h =>
    ⟨TL.mgL, m7, e7, gLin.mono h, mkG, M7.bd⟩
  have gCho := ok_choice (k := 1) D14.fn B (D13.cal gDraw (by decide))
  have gLba := ok_lbase (P := P) (w := w) (base := base) (C := C) (k := 0) M9.fn TL
  have gLcl := ok_clone (k := 2) M18.fn TL (clL (by decide))
    (M10.calM TL.cl gLor (by decide)) (M11.calM TL.cl gLen' (by decide))
  have gLre := ok_remove (k := 7) M16.fn B TL (clL (by decide))
    (M15.calM TL.cl gLck (by decide)) (M10.calM TL.cl gLor (by decide))
    (M11.calM TL.cl gLen' (by decide)) (M14.calM TL.cl gLsc (by decide))
  have gSwe := ok_swent (P := P) (w := w) (base := base) (k := 0) D17.fn B
  have gBeg := ok_begun (P := P) (w := w) (base := base) (k := 0) D18.fn B
  have gDon := ok_done (k := 1) D19.fn (D17.cal gSwe (by decide))
  have gLab := ok_label (k := 2) D20.fn (D15.cal gName (by decide))
    (D14.cal gCho (by decide))
  have gOas := ok_oas (k := 1) D25.fn (M3.calM TC.cl gNms (by decide))
    (D7.cal gExch (by decide))
  have gLaf := ok_lafter (k := 2) M23.fn B TL (D4.cal gIntf (by decide))
    (D25.cal gOas (by decide)) (M12.calM TL.cl gLix (by decide))
  have gLce := ok_clear (k := 1) M22.fn TL (M3.calM TC.cl gNms (by decide))
  have gLrp := ok_lrepr (P := P) (w := w) (base := base) (C := C) (k := 0) M21.fn TL
  have gLpa := ok_lpair (k := 3) M24.fn TL (M15.calM TL.cl gLck (by decide))
    (D9.cal gPrs (by decide)) (M12.calM TL.cl gLix (by decide))
  have gEqB := ok_eqBX (P := P) (w := w) (base := base) (k := 0) M19.fn B TC
  have gEqL := ok_eqL (k := 2) (n := 1) M20.fn B TL M19.spec gEqB (by decide)
  have gIse := ok_isent (k := 3) D26.fn B z_tuple (D5.cal gSix (by decide))
    (D10.cal gIsr (by decide))
  have gLfe := ok_lfrom (k := 7) D27.fn B (clL (by decide)) (D26.cal gIse (by decide))
    (D8.cal gGoes (by decide)) (M10.calM TL.cl gLor (by decide))
    (M14.calM TL.cl gLsc (by decide))
  have gInF := ok_initF (k := 3) M1.fn B TC (D2.cal gChk (by decide))
  have gLiF := ok_linitF (L := L) (k := 1) M7.fn TL (M3.calM TC.cl gNms (by decide))
  have clB : ∀ {n : Nat}, 4 ≤ n → CalC P w K mg base C n "Base" ["self", "items"] (spInitOk C) := fun h =>
    ⟨TC.mgC, m1, e1, gInit.mono h, mkB, M1.bd⟩
  have gSwd := ok_swapd2 (k := 8) D21.fn B (D13.cal gDraw (by decide))
    (D20.cal gLab (by decide)) (D19.cal gDon (by decide))
    (M13.calMD TL.cl gLsw (by decide)) (M13.k.calMK TL.cl gLsw (by decide))
  have gIs := ok_is (k := 2) (n := 1) D22.fn B M8.spec gLle (by decide)
    (M10.calM TL.cl gLor (by decide)) (M11.calM TL.cl gLen' (by decide))
    (M9.calM TL.cl gLba (by decide)) (M3.calM TC.cl gNms (by decide))
  have gCpy := ok_copied (P := P) (w := w) (base := base) (k := 0) D28.fn B
  have gTur := ok_turned (k := 10) (n := 1) D29.fn B M8.spec gLle (by decide)
    (D13.cal gDraw (by decide)) (clB (by decide)) (D27.cal gLfe (by decide))
    (D28.cal gCpy (by decide)) (D18.cal gBeg (by decide)) (D21.calG gSwd (by decide))
    (M18.calM TL.cl gLcl (by decide)) (M22.calM TL.cl gLce (by decide))
    (M16.calM TL.cl gLre (by decide))
  have gAsk := ok_ask29 (k := 6) D30.fn B (M23.calM TL.cl gLaf (by decide))
    (M24.calM TL.cl gLpa (by decide)) (M17.calM TL.cl gLfo (by decide))
  have gAll := ok_allr (k := 8) (n := 1) (m := 3) D31.fn B kn.apL kn.top kn.no
    M21.spec gLrp (by decide) M20.spec gEqL (by decide)
    (D22.calG gIs (by decide)) (D30.calG gAsk (by decide))
    (M10.calM TL.cl gLor (by decide)) (M11.calM TL.cl gLen' (by decide))
  have gUnl := ok_unlike (k := 9) (n := 1) (m := 3) (o := 1) (u := 1) D32.fn B z_any kn TC TL
    M21.spec gLrp (by decide) M20.spec gEqL (by decide)
    M19.spec gEqB (by decide) M8.spec gLle (by decide)
    (clB (by decide)) (D27.cal gLfe (by decide))
    (M10.calM TL.cl gLor (by decide)) (M11.calM TL.cl gLen' (by decide))
    (M9.calM TL.cl gLba (by decide))
  have gRig := ok_right29 (k := 12) D23.fn B (D13.cal gDraw (by decide))
    (D16.cal gNames (by decide))
    ⟨TC.mgC, m1, e1, gInF.mono (by decide), mkB, M1.bd⟩
    ⟨TL.mgL, m7, e7, gLiF.mono (by decide), mkG, M7.bd⟩
    (D18.cal gBeg (by decide)) (M18.calM TL.cl gLcl (by decide))
    (D29.calG gTur (by decide)) (D31.calG gAll (by decide))
    (D32.calG gUnl (by decide))
  exact ok_lawAll (k := 14) D24.fn B (D12.cal gRng (by decide))
    (D23.calG gRig (by decide))
end
end OM
namespace OM
open PySem PySem.Spec PyProof.Rows L2
theorem fin29 {l : PySem.W.OpenLaw} {w : World} {K : PySem.W.Frag} {h : Heap}
    {mg : Str → Option Value} {fa C L : Addr} (X : K.In h)
    (G : h.Ns mainGlobals mg) (hfa : mg "law" = some (.ref fa))
    {f1 f2 f3 f4 f5 f6 f7 f8 f9 f10 f11 f12 f13 f14 f15 f16 f17 f18 f19 f20 f21 f22 f23 f24 f25 f26 f27 f28 f29 f30 f31 f32 f33 f34 m1 m2 m3 m4 m5 m6 m7 m8 m9 m10 m11 m12 m13 m14 m15 m16 m17 m18 m19 m20 m21 m22 m23 m24 : Addr}
    {odf1 anf1 odf2 anf2 odf3 anf3 odf4 anf4 odf5 anf5 odf6 anf6 odf7 anf7 odf8 anf8 odf9 anf9 odf10 anf10 odf11 anf11 odf12 anf12 odf13 anf13 odf14 anf14 odf15 anf15 odf16 anf16 odf17 anf17 odf18 anf18 odf19 anf19 odf20 anf20 odf21 anf21 odf22 anf22 odf23 anf23 odf24 anf24 odf25 anf25 odf26 anf26 odf27 anf27 odf28 anf28 odf29 anf29 odf30 anf30 odf31 anf31 odf32 anf32 odf33 anf33 odf34 anf34 odm1 anm1 odm2 anm2 odm3 anm3 odm4 anm4 odm5 anm5 odm6 anm6 odm7 anm7 odm8 anm8 odm9 anm9 odm10 anm10 odm11 anm11 odm12 anm12 odm13 anm13 odm14 anm14 odm15 anm15 odm16 anm16 odm17 anm17 odm18 anm18 odm19 anm19 odm20 anm20 odm21 anm21 odm22 anm22 odm23 anm23 odm24 anm24 : Option Addr}
    {slf1 slf2 slf3 slf4 slf5 slf6 slf7 slf8 slf9 slf10 slf11 slf12 slf13 slf14 slf15 slf16 slf17 slf18 slf19 slf20 slf21 slf22 slf23 slf24 slf25 slf26 slf27 slf28 slf29 slf30 slf31 slf32 slf33 slf34 slm1 slm2 slm3 slm4 slm5 slm6 slm7 slm8 slm9 slm10 slm11 slm12 slm13 slm14 slm15 slm16 slm17 slm18 slm19 slm20 slm21 slm22 slm23 slm24 : Array (Option Value)}
    {ocf1 kVf1 dcf1 pmf1 cdf1 ctf1 : Value}
    {ocf2 kVf2 dcf2 pmf2 cdf2 ctf2 : Value}
    {ocf3 kVf3 dcf3 pmf3 cdf3 ctf3 : Value}
    {ocf4 kVf4 dcf4 pmf4 cdf4 ctf4 : Value}
    {ocf5 kVf5 dcf5 pmf5 cdf5 ctf5 : Value}
    {ocf6 kVf6 dcf6 pmf6 cdf6 ctf6 : Value}
    {ocf7 kVf7 dcf7 pmf7 cdf7 ctf7 : Value}
    {ocf8 kVf8 dcf8 pmf8 cdf8 ctf8 : Value}
    {ocf9 kVf9 dcf9 pmf9 cdf9 ctf9 : Value}
    {ocf10 kVf10 dcf10 pmf10 cdf10 ctf10 : Value}
    {ocf11 kVf11 dcf11 pmf11 cdf11 ctf11 : Value}
    {ocf12 kVf12 dcf12 pmf12 cdf12 ctf12 : Value}
    {ocf13 kVf13 dcf13 pmf13 cdf13 ctf13 : Value}
    {ocf14 kVf14 dcf14 pmf14 cdf14 ctf14 : Value}
    {ocf15 kVf15 dcf15 pmf15 cdf15 ctf15 : Value}
    {ocf16 kVf16 dcf16 pmf16 cdf16 ctf16 : Value}
    {ocf17 kVf17 dcf17 pmf17 cdf17 ctf17 : Value}
    {ocf18 kVf18 dcf18 pmf18 cdf18 ctf18 : Value}
    {ocf19 kVf19 dcf19 pmf19 cdf19 ctf19 : Value}
    {ocf20 kVf20 dcf20 pmf20 cdf20 ctf20 : Value}
    {ocf21 kVf21 dcf21 pmf21 cdf21 ctf21 : Value}
    {ocf22 kVf22 dcf22 pmf22 cdf22 ctf22 : Value}
    {ocf23 kVf23 dcf23 pmf23 cdf23 ctf23 : Value}
    {ocf24 kVf24 dcf24 pmf24 cdf24 ctf24 : Value}
    {ocf25 kVf25 dcf25 pmf25 cdf25 ctf25 : Value}
    {ocf26 kVf26 dcf26 pmf26 cdf26 ctf26 : Value}
    {ocf27 kVf27 dcf27 pmf27 cdf27 ctf27 : Value}
    {ocf28 kVf28 dcf28 pmf28 cdf28 ctf28 : Value}
    {ocf29 kVf29 dcf29 pmf29 cdf29 ctf29 : Value}
    {ocf30 kVf30 dcf30 pmf30 cdf30 ctf30 : Value}
    {ocf31 kVf31 dcf31 pmf31 cdf31 ctf31 : Value}
    {ocf32 kVf32 dcf32 pmf32 cdf32 ctf32 : Value}
    {ocf33 kVf33 dcf33 pmf33 cdf33 ctf33 : Value}
    {ocf34 kVf34 dcf34 pmf34 cdf34 ctf34 : Value}
    {ocm1 kVm1 dcm1 pmm1 cdm1 ctm1 : Value}
    {ocm2 kVm2 dcm2 pmm2 cdm2 ctm2 : Value}
    {ocm3 kVm3 dcm3 pmm3 cdm3 ctm3 : Value}
    {ocm4 kVm4 dcm4 pmm4 cdm4 ctm4 : Value}
    {ocm5 kVm5 dcm5 pmm5 cdm5 ctm5 : Value}
    {ocm6 kVm6 dcm6 pmm6 cdm6 ctm6 : Value}
    {ocm7 kVm7 dcm7 pmm7 cdm7 ctm7 : Value}
    {ocm8 kVm8 dcm8 pmm8 cdm8 ctm8 : Value}
    {ocm9 kVm9 dcm9 pmm9 cdm9 ctm9 : Value}
    {ocm10 kVm10 dcm10 pmm10 cdm10 ctm10 : Value}
    {ocm11 kVm11 dcm11 pmm11 cdm11 ctm11 : Value}
    {ocm12 kVm12 dcm12 pmm12 cdm12 ctm12 : Value}
    {ocm13 dcm13 pmm13 cdm13 ctm13 : Value}
    {ocm14 kVm14 dcm14 pmm14 cdm14 ctm14 : Value}
    {ocm15 kVm15 dcm15 pmm15 cdm15 ctm15 : Value}
    {ocm16 kVm16 dcm16 pmm16 cdm16 ctm16 : Value}
    {ocm17 kVm17 dcm17 pmm17 cdm17 ctm17 : Value}
    {ocm18 kVm18 dcm18 pmm18 cdm18 ctm18 : Value}
    {ocm19 kVm19 dcm19 pmm19 cdm19 ctm19 : Value}
    {ocm20 kVm20 dcm20 pmm20 cdm20 ctm20 : Value}
    {ocm21 kVm21 dcm21 pmm21 cdm21 ctm21 : Value}
    {ocm22 kVm22 dcm22 pmm22 cdm22 ctm22 : Value}
    {ocm23 kVm23 dcm23 pmm23 cdm23 ctm23 : Value}
    {ocm24 kVm24 dcm24 pmm24 cdm24 ctm24 : Value}
    {t40 t8 tN : Tok}
    {Dm13 : Addr} {tDm13 : Tok}
    (af1 : PySem.W.nsIn K mainGlobals "is_name" = some (some (.ref f1)))
    (lf1 : K.lookup f1 = some ⟨ocf1, odf1, .func (PySem.W.fnOf "is_name" "is_name"
      (defArgs s_is_name) (defBody s_is_name) (defScope s_is_name) .none kVf1 dcf1 pmf1 anf1 cdf1
      ctf1), slf1⟩)
    (cf1 : PySem.W.codeIn K cdf1 "is_name" = true)
    (kf1 : PySem.W.keepIn K (.ref f1) = true)
    (af2 : PySem.W.nsIn K mainGlobals "check_items" = some (some (.ref f2)))
    (lf2 : K.lookup f2 = some ⟨ocf2, odf2, .func (PySem.W.fnOf "check_items" "check_items"
      (defArgs s_check_items) (defBody s_check_items) (defScope s_check_items) .none kVf2 dcf2 pmf2 anf2 cdf2
      ctf2), slf2⟩)
    (cf2 : PySem.W.codeIn K cdf2 "check_items" = true)
    (kf2 : PySem.W.keepIn K (.ref f2) = true)
    (af3 : PySem.W.nsIn K mainGlobals "pair_of" = some (some (.ref f3)))
    (lf3 : K.lookup f3 = some ⟨ocf3, odf3, .func (PySem.W.fnOf "pair_of" "pair_of"
      (defArgs s_pair_of) (defBody s_pair_of) (defScope s_pair_of) .none kVf3 dcf3 pmf3 anf3 cdf3
      ctf3), slf3⟩)
    (cf3 : PySem.W.codeIn K cdf3 "pair_of" = true)
    (kf3 : PySem.W.keepIn K (.ref f3) = true)
    (af4 : PySem.W.nsIn K mainGlobals "is_integer_from" = some (some (.ref f4)))
    (lf4 : K.lookup f4 = some ⟨ocf4, odf4, .func (PySem.W.fnOf "is_integer_from" "is_integer_from"
      (defArgs s_is_integer_from) (defBody s_is_integer_from) (defScope s_is_integer_from) .none kVf4 dcf4 pmf4 anf4 cdf4
      ctf4), slf4⟩)
    (cf4 : PySem.W.codeIn K cdf4 "is_integer_from" = true)
    (kf4 : PySem.W.keepIn K (.ref f4) = true)
    (af5 : PySem.W.nsIn K mainGlobals "is_swap_index" = some (some (.ref f5)))
    (lf5 : K.lookup f5 = some ⟨ocf5, odf5, .func (PySem.W.fnOf "is_swap_index" "is_swap_index"
      (defArgs s_is_swap_index) (defBody s_is_swap_index) (defScope s_is_swap_index) .none kVf5 dcf5 pmf5 anf5 cdf5
      ctf5), slf5⟩)
    (cf5 : PySem.W.codeIn K cdf5 "is_swap_index" = true)
    (kf5 : PySem.W.keepIn K (.ref f5) = true)
    (af6 : PySem.W.nsIn K mainGlobals "check_swap_index" = some (some (.ref f6)))
    (lf6 : K.lookup f6 = some ⟨ocf6, odf6, .func (PySem.W.fnOf "check_swap_index" "check_swap_index"
      (defArgs s_check_swap_index) (defBody s_check_swap_index) (defScope s_check_swap_index) .none kVf6 dcf6 pmf6 anf6 cdf6
      ctf6), slf6⟩)
    (cf6 : PySem.W.codeIn K cdf6 "check_swap_index" = true)
    (kf6 : PySem.W.keepIn K (.ref f6) = true)
    (af7 : PySem.W.nsIn K mainGlobals "exchanged" = some (some (.ref f7)))
    (lf7 : K.lookup f7 = some ⟨ocf7, odf7, .func (PySem.W.fnOf "exchanged" "exchanged"
      (defArgs s_exchanged) (defBody s_exchanged) (defScope s_exchanged) .none kVf7 dcf7 pmf7 anf7 cdf7
      ctf7), slf7⟩)
    (cf7 : PySem.W.codeIn K cdf7 "exchanged" = true)
    (kf7 : PySem.W.keepIn K (.ref f7) = true)
    (af8 : PySem.W.nsIn K mainGlobals "goes_outward" = some (some (.ref f8)))
    (lf8 : K.lookup f8 = some ⟨ocf8, odf8, .func (PySem.W.fnOf "goes_outward" "goes_outward"
      (defArgs s_goes_outward) (defBody s_goes_outward) (defScope s_goes_outward) .none kVf8 dcf8 pmf8 anf8 cdf8
      ctf8), slf8⟩)
    (cf8 : PySem.W.codeIn K cdf8 "goes_outward" = true)
    (kf8 : PySem.W.keepIn K (.ref f8) = true)
    (af9 : PySem.W.nsIn K mainGlobals "pairs_of_swaps" = some (some (.ref f9)))
    (lf9 : K.lookup f9 = some ⟨ocf9, odf9, .func (PySem.W.fnOf "pairs_of_swaps" "pairs_of_swaps"
      (defArgs s_pairs_of_swaps) (defBody s_pairs_of_swaps) (defScope s_pairs_of_swaps) .none kVf9 dcf9 pmf9 anf9 cdf9
      ctf9), slf9⟩)
    (cf9 : PySem.W.codeIn K cdf9 "pairs_of_swaps" = true)
    (kf9 : PySem.W.keepIn K (.ref f9) = true)
    (af10 : PySem.W.nsIn K mainGlobals "is_reason" = some (some (.ref f10)))
    (lf10 : K.lookup f10 = some ⟨ocf10, odf10, .func (PySem.W.fnOf "is_reason" "is_reason"
      (defArgs s_is_reason) (defBody s_is_reason) (defScope s_is_reason) .none kVf10 dcf10 pmf10 anf10 cdf10
      ctf10), slf10⟩)
    (cf10 : PySem.W.codeIn K cdf10 "is_reason" = true)
    (kf10 : PySem.W.keepIn K (.ref f10) = true)
    (af11 : PySem.W.nsIn K mainGlobals "check_reason" = some (some (.ref f11)))
    (lf11 : K.lookup f11 = some ⟨ocf11, odf11, .func (PySem.W.fnOf "check_reason" "check_reason"
      (defArgs s_check_reason) (defBody s_check_reason) (defScope s_check_reason) .none kVf11 dcf11 pmf11 anf11 cdf11
      ctf11), slf11⟩)
    (cf11 : PySem.W.codeIn K cdf11 "check_reason" = true)
    (kf11 : PySem.W.keepIn K (.ref f11) = true)
    (af12 : PySem.W.nsIn K mainGlobals "_law_rng" = some (some (.ref f12)))
    (lf12 : K.lookup f12 = some ⟨ocf12, odf12, .func (PySem.W.fnOf "_law_rng" "_law_rng"
      (defArgs s_Lrng) (defBody s_Lrng) (defScope s_Lrng) .none kVf12 dcf12 pmf12 anf12 cdf12
      ctf12), slf12⟩)
    (cf12 : PySem.W.codeIn K cdf12 "_law_rng" = true)
    (kf12 : PySem.W.keepIn K (.ref f12) = true)
    (af13 : PySem.W.nsIn K mainGlobals "_law_draw" = some (some (.ref f13)))
    (lf13 : K.lookup f13 = some ⟨ocf13, odf13, .func (PySem.W.fnOf "_law_draw" "_law_draw"
      (defArgs s_Ldraw) (defBody s_Ldraw) (defScope s_Ldraw) .none kVf13 dcf13 pmf13 anf13 cdf13
      ctf13), slf13⟩)
    (cf13 : PySem.W.codeIn K cdf13 "_law_draw" = true)
    (kf13 : PySem.W.keepIn K (.ref f13) = true)
    (af14 : PySem.W.nsIn K mainGlobals "_law_choice" = some (some (.ref f14)))
    (lf14 : K.lookup f14 = some ⟨ocf14, odf14, .func (PySem.W.fnOf "_law_choice" "_law_choice"
      (defArgs s_Lchoice) (defBody s_Lchoice) (defScope s_Lchoice) .none kVf14 dcf14 pmf14 anf14 cdf14
      ctf14), slf14⟩)
    (cf14 : PySem.W.codeIn K cdf14 "_law_choice" = true)
    (kf14 : PySem.W.keepIn K (.ref f14) = true)
    (af15 : PySem.W.nsIn K mainGlobals "_law_name" = some (some (.ref f15)))
    (lf15 : K.lookup f15 = some ⟨ocf15, odf15, .func (PySem.W.fnOf "_law_name" "_law_name"
      (defArgs s_Lname) (defBody s_Lname) (defScope s_Lname) .none kVf15 dcf15 pmf15 anf15 cdf15
      ctf15), slf15⟩)
    (cf15 : PySem.W.codeIn K cdf15 "_law_name" = true)
    (kf15 : PySem.W.keepIn K (.ref f15) = true)
    (af16 : PySem.W.nsIn K mainGlobals "_law_names" = some (some (.ref f16)))
    (lf16 : K.lookup f16 = some ⟨ocf16, odf16, .func (PySem.W.fnOf "_law_names" "_law_names"
      (defArgs s_Lnames) (defBody s_Lnames) (defScope s_Lnames) .none kVf16 dcf16 pmf16 anf16 cdf16
      ctf16), slf16⟩)
    (cf16 : PySem.W.codeIn K cdf16 "_law_names" = true)
    (kf16 : PySem.W.keepIn K (.ref f16) = true)
    (af17 : PySem.W.nsIn K mainGlobals "_law_swapped_entries" = some (some (.ref f17)))
    (lf17 : K.lookup f17 = some ⟨ocf17, odf17, .func (PySem.W.fnOf "_law_swapped_entries" "_law_swapped_entries"
      (defArgs s_Lswapped_entries) (defBody s_Lswapped_entries) (defScope s_Lswapped_entries) .none kVf17 dcf17 pmf17 anf17 cdf17
      ctf17), slf17⟩)
    (cf17 : PySem.W.codeIn K cdf17 "_law_swapped_entries" = true)
    (kf17 : PySem.W.keepIn K (.ref f17) = true)
    (af18 : PySem.W.nsIn K mainGlobals "_law_begun" = some (some (.ref f18)))
    (lf18 : K.lookup f18 = some ⟨ocf18, odf18, .func (PySem.W.fnOf "_law_begun" "_law_begun"
      (defArgs s_Lbegun) (defBody s_Lbegun) (defScope s_Lbegun) .none kVf18 dcf18 pmf18 anf18 cdf18
      ctf18), slf18⟩)
    (cf18 : PySem.W.codeIn K cdf18 "_law_begun" = true)
    (kf18 : PySem.W.keepIn K (.ref f18) = true)
    (af19 : PySem.W.nsIn K mainGlobals "_law_swap_done" = some (some (.ref f19)))
    (lf19 : K.lookup f19 = some ⟨ocf19, odf19, .func (PySem.W.fnOf "_law_swap_done" "_law_swap_done"
      (defArgs s_Lswap_done) (defBody s_Lswap_done) (defScope s_Lswap_done) .none kVf19 dcf19 pmf19 anf19 cdf19
      ctf19), slf19⟩)
    (cf19 : PySem.W.codeIn K cdf19 "_law_swap_done" = true)
    (kf19 : PySem.W.keepIn K (.ref f19) = true)
    (af20 : PySem.W.nsIn K mainGlobals "_law_label" = some (some (.ref f20)))
    (lf20 : K.lookup f20 = some ⟨ocf20, odf20, .func (PySem.W.fnOf "_law_label" "_law_label"
      (defArgs s_Llabel) (defBody s_Llabel) (defScope s_Llabel) .none kVf20 dcf20 pmf20 anf20 cdf20
      ctf20), slf20⟩)
    (cf20 : PySem.W.codeIn K cdf20 "_law_label" = true)
    (kf20 : PySem.W.keepIn K (.ref f20) = true)
    (af21 : PySem.W.nsIn K mainGlobals "_law_swapped" = some (some (.ref f21)))
    (lf21 : K.lookup f21 = some ⟨ocf21, odf21, .func (PySem.W.fnOf "_law_swapped" "_law_swapped"
      (defArgs s_Lswapped) (defBody s_Lswapped) (defScope s_Lswapped) .none kVf21 dcf21 pmf21 anf21 cdf21
      ctf21), slf21⟩)
    (cf21 : PySem.W.codeIn K cdf21 "_law_swapped" = true)
    (kf21 : PySem.W.keepIn K (.ref f21) = true)
    (af22 : PySem.W.nsIn K mainGlobals "_law_is" = some (some (.ref f22)))
    (lf22 : K.lookup f22 = some ⟨ocf22, odf22, .func (PySem.W.fnOf "_law_is" "_law_is"
      (defArgs s_Lis) (defBody s_Lis) (defScope s_Lis) .none kVf22 dcf22 pmf22 anf22 cdf22
      ctf22), slf22⟩)
    (cf22 : PySem.W.codeIn K cdf22 "_law_is" = true)
    (kf22 : PySem.W.keepIn K (.ref f22) = true)
    (af23 : PySem.W.nsIn K mainGlobals "_law_right" = some (some (.ref f23)))
    (lf23 : K.lookup f23 = some ⟨ocf23, odf23, .func (PySem.W.fnOf "_law_right" "_law_right"
      (defArgs s_Lright) (defBody s_Lright) (defScope s_Lright) .none kVf23 dcf23 pmf23 anf23 cdf23
      ctf23), slf23⟩)
    (cf23 : PySem.W.codeIn K cdf23 "_law_right" = true)
    (kf23 : PySem.W.keepIn K (.ref f23) = true)
    (af24 : PySem.W.nsIn K mainGlobals "law" = some (some (.ref f24)))
    (lf24 : K.lookup f24 = some ⟨ocf24, odf24, .func (PySem.W.fnOf "law" "law"
      (defArgs s_law) (defBody s_law) (defScope s_law) .none kVf24 dcf24 pmf24 anf24 cdf24
      ctf24), slf24⟩)
    (cf24 : PySem.W.codeIn K cdf24 "law" = true)
    (kf24 : PySem.W.keepIn K (.ref f24) = true)
    (af25 : PySem.W.nsIn K mainGlobals "order_after_swaps" = some (some (.ref f25)))
    (lf25 : K.lookup f25 = some ⟨ocf25, odf25, .func (PySem.W.fnOf "order_after_swaps" "order_after_swaps"
      (defArgs s_order_after_swaps) (defBody s_order_after_swaps) (defScope s_order_after_swaps) .none kVf25 dcf25 pmf25 anf25 cdf25
      ctf25), slf25⟩)
    (cf25 : PySem.W.codeIn K cdf25 "order_after_swaps" = true)
    (kf25 : PySem.W.keepIn K (.ref f25) = true)
    (af26 : PySem.W.nsIn K mainGlobals "is_entry" = some (some (.ref f26)))
    (lf26 : K.lookup f26 = some ⟨ocf26, odf26, .func (PySem.W.fnOf "is_entry" "is_entry"
      (defArgs s_is_entry) (defBody s_is_entry) (defScope s_is_entry) .none kVf26 dcf26 pmf26 anf26 cdf26
      ctf26), slf26⟩)
    (cf26 : PySem.W.codeIn K cdf26 "is_entry" = true)
    (kf26 : PySem.W.keepIn K (.ref f26) = true)
    (af27 : PySem.W.nsIn K mainGlobals "log_from_entries" = some (some (.ref f27)))
    (lf27 : K.lookup f27 = some ⟨ocf27, odf27, .func (PySem.W.fnOf "log_from_entries" "log_from_entries"
      (defArgs s_log_from_entries) (defBody s_log_from_entries) (defScope s_log_from_entries) .none kVf27 dcf27 pmf27 anf27 cdf27
      ctf27), slf27⟩)
    (cf27 : PySem.W.codeIn K cdf27 "log_from_entries" = true)
    (kf27 : PySem.W.keepIn K (.ref f27) = true)
    (af28 : PySem.W.nsIn K mainGlobals "_law_copied" = some (some (.ref f28)))
    (lf28 : K.lookup f28 = some ⟨ocf28, odf28, .func (PySem.W.fnOf "_law_copied" "_law_copied"
      (defArgs s_Lcopied) (defBody s_Lcopied) (defScope s_Lcopied) .none kVf28 dcf28 pmf28 anf28 cdf28
      ctf28), slf28⟩)
    (cf28 : PySem.W.codeIn K cdf28 "_law_copied" = true)
    (kf28 : PySem.W.keepIn K (.ref f28) = true)
    (af29 : PySem.W.nsIn K mainGlobals "_law_turned" = some (some (.ref f29)))
    (lf29 : K.lookup f29 = some ⟨ocf29, odf29, .func (PySem.W.fnOf "_law_turned" "_law_turned"
      (defArgs s_Lturned) (defBody s_Lturned) (defScope s_Lturned) .none kVf29 dcf29 pmf29 anf29 cdf29
      ctf29), slf29⟩)
    (cf29 : PySem.W.codeIn K cdf29 "_law_turned" = true)
    (kf29 : PySem.W.keepIn K (.ref f29) = true)
    (af30 : PySem.W.nsIn K mainGlobals "_law_asked_right" = some (some (.ref f30)))
    (lf30 : K.lookup f30 = some ⟨ocf30, odf30, .func (PySem.W.fnOf "_law_asked_right" "_law_asked_right"
      (defArgs s_Lasked_right) (defBody s_Lasked_right) (defScope s_Lasked_right) .none kVf30 dcf30 pmf30 anf30 cdf30
      ctf30), slf30⟩)
    (cf30 : PySem.W.codeIn K cdf30 "_law_asked_right" = true)
    (kf30 : PySem.W.keepIn K (.ref f30) = true)
    (af31 : PySem.W.nsIn K mainGlobals "_law_all_right" = some (some (.ref f31)))
    (lf31 : K.lookup f31 = some ⟨ocf31, odf31, .func (PySem.W.fnOf "_law_all_right" "_law_all_right"
      (defArgs s_Lall_right) (defBody s_Lall_right) (defScope s_Lall_right) .none kVf31 dcf31 pmf31 anf31 cdf31
      ctf31), slf31⟩)
    (cf31 : PySem.W.codeIn K cdf31 "_law_all_right" = true)
    (kf31 : PySem.W.keepIn K (.ref f31) = true)
    (af32 : PySem.W.nsIn K mainGlobals "_law_unlike" = some (some (.ref f32)))
    (lf32 : K.lookup f32 = some ⟨ocf32, odf32, .func (PySem.W.fnOf "_law_unlike" "_law_unlike"
      (defArgs s_Lunlike) (defBody s_Lunlike) (defScope s_Lunlike) .none kVf32 dcf32 pmf32 anf32 cdf32
      ctf32), slf32⟩)
    (cf32 : PySem.W.codeIn K cdf32 "_law_unlike" = true)
    (kf32 : PySem.W.keepIn K (.ref f32) = true)
    (af33 : PySem.W.nsIn K mainGlobals "names_fault" = some (some (.ref f33)))
    (lf33 : K.lookup f33 = some ⟨ocf33, odf33, .func (PySem.W.fnOf "names_fault" "names_fault"
      (defArgs s_names_fault) (defBody s_names_fault) (defScope s_names_fault) .none kVf33 dcf33 pmf33 anf33 cdf33
      ctf33), slf33⟩)
    (cf33 : PySem.W.codeIn K cdf33 "names_fault" = true)
    (kf33 : PySem.W.keepIn K (.ref f33) = true)
    (af34 : PySem.W.nsIn K mainGlobals "is_integer" = some (some (.ref f34)))
    (lf34 : K.lookup f34 = some ⟨ocf34, odf34, .func (PySem.W.fnOf "is_integer" "is_integer"
      (defArgs s_is_integer) (defBody s_is_integer) (defScope s_is_integer) .none kVf34 dcf34 pmf34 anf34 cdf34
      ctf34), slf34⟩)
    (cf34 : PySem.W.codeIn K cdf34 "is_integer" = true)
    (kf34 : PySem.W.keepIn K (.ref f34) = true)
    (aC : PySem.W.nsIn K mainGlobals "Base" = some (some (.ref C)))
    (aL : PySem.W.nsIn K mainGlobals "SwapLog" = some (some (.ref L)))
    (am1 : PySem.W.findIn K (.ref C) "__init__" = some (some (.ref m1)))
    (im1 : PySem.W.isFn K (.ref m1) = true)
    (lm1 : K.lookup m1 = some ⟨ocm1, odm1, .func (PySem.W.fnOf "__init__" "Base.__init__"
      (defArgs s_Base_init) (defBody s_Base_init) (defScope s_Base_init) .none kVm1 dcm1 pmm1 anm1 cdm1
      ctm1), slm1⟩)
    (cm1 : PySem.W.codeIn K cdm1 "Base.__init__" = true)
    (km1 : PySem.W.keepIn K (.ref m1) = true)
    (am2 : PySem.W.findIn K (.ref C) "__len__" = some (some (.ref m2)))
    (im2 : PySem.W.isFn K (.ref m2) = true)
    (lm2 : K.lookup m2 = some ⟨ocm2, odm2, .func (PySem.W.fnOf "__len__" "Base.__len__"
      (defArgs s_Base_len) (defBody s_Base_len) (defScope s_Base_len) .none kVm2 dcm2 pmm2 anm2 cdm2
      ctm2), slm2⟩)
    (cm2 : PySem.W.codeIn K cdm2 "Base.__len__" = true)
    (km2 : PySem.W.keepIn K (.ref m2) = true)
    (am3 : PySem.W.findIn K (.ref C) "names" = some (some (.ref m3)))
    (im3 : PySem.W.isFn K (.ref m3) = true)
    (lm3 : K.lookup m3 = some ⟨ocm3, odm3, .func (PySem.W.fnOf "names" "Base.names"
      (defArgs s_Base_names) (defBody s_Base_names) (defScope s_Base_names) .none kVm3 dcm3 pmm3 anm3 cdm3
      ctm3), slm3⟩)
    (cm3 : PySem.W.codeIn K cdm3 "Base.names" = true)
    (km3 : PySem.W.keepIn K (.ref m3) = true)
    (am4 : PySem.W.findIn K (.ref C) "has_item" = some (some (.ref m4)))
    (im4 : PySem.W.isFn K (.ref m4) = true)
    (lm4 : K.lookup m4 = some ⟨ocm4, odm4, .func (PySem.W.fnOf "has_item" "Base.has_item"
      (defArgs s_Base_has_item) (defBody s_Base_has_item) (defScope s_Base_has_item) .none kVm4 dcm4 pmm4 anm4 cdm4
      ctm4), slm4⟩)
    (cm4 : PySem.W.codeIn K cdm4 "Base.has_item" = true)
    (km4 : PySem.W.keepIn K (.ref m4) = true)
    (am5 : PySem.W.findIn K (.ref C) "position_of" = some (some (.ref m5)))
    (im5 : PySem.W.isFn K (.ref m5) = true)
    (lm5 : K.lookup m5 = some ⟨ocm5, odm5, .func (PySem.W.fnOf "position_of" "Base.position_of"
      (defArgs s_Base_position_of) (defBody s_Base_position_of) (defScope s_Base_position_of) .none kVm5 dcm5 pmm5 anm5 cdm5
      ctm5), slm5⟩)
    (cm5 : PySem.W.codeIn K cdm5 "Base.position_of" = true)
    (km5 : PySem.W.keepIn K (.ref m5) = true)
    (am6 : PySem.W.findIn K (.ref C) "precedes" = some (some (.ref m6)))
    (im6 : PySem.W.isFn K (.ref m6) = true)
    (lm6 : K.lookup m6 = some ⟨ocm6, odm6, .func (PySem.W.fnOf "precedes" "Base.precedes"
      (defArgs s_Base_precedes) (defBody s_Base_precedes) (defScope s_Base_precedes) .none kVm6 dcm6 pmm6 anm6 cdm6
      ctm6), slm6⟩)
    (cm6 : PySem.W.codeIn K cdm6 "Base.precedes" = true)
    (km6 : PySem.W.keepIn K (.ref m6) = true)
    (am7 : PySem.W.findIn K (.ref L) "__init__" = some (some (.ref m7)))
    (im7 : PySem.W.isFn K (.ref m7) = true)
    (lm7 : K.lookup m7 = some ⟨ocm7, odm7, .func (PySem.W.fnOf "__init__" "SwapLog.__init__"
      (defArgs s_SwapLog_init) (defBody s_SwapLog_init) (defScope s_SwapLog_init) .none kVm7 dcm7 pmm7 anm7 cdm7
      ctm7), slm7⟩)
    (cm7 : PySem.W.codeIn K cdm7 "SwapLog.__init__" = true)
    (km7 : PySem.W.keepIn K (.ref m7) = true)
    (am8 : PySem.W.findIn K (.ref L) "__len__" = some (some (.ref m8)))
    (im8 : PySem.W.isFn K (.ref m8) = true)
    (lm8 : K.lookup m8 = some ⟨ocm8, odm8, .func (PySem.W.fnOf "__len__" "SwapLog.__len__"
      (defArgs s_SwapLog_len) (defBody s_SwapLog_len) (defScope s_SwapLog_len) .none kVm8 dcm8 pmm8 anm8 cdm8
      ctm8), slm8⟩)
    (cm8 : PySem.W.codeIn K cdm8 "SwapLog.__len__" = true)
    (km8 : PySem.W.keepIn K (.ref m8) = true)
    (am9 : PySem.W.findIn K (.ref L) "base" = some (some (.ref m9)))
    (im9 : PySem.W.isFn K (.ref m9) = true)
    (lm9 : K.lookup m9 = some ⟨ocm9, odm9, .func (PySem.W.fnOf "base" "SwapLog.base"
      (defArgs s_SwapLog_base) (defBody s_SwapLog_base) (defScope s_SwapLog_base) .none kVm9 dcm9 pmm9 anm9 cdm9
      ctm9), slm9⟩)
    (cm9 : PySem.W.codeIn K cdm9 "SwapLog.base" = true)
    (km9 : PySem.W.keepIn K (.ref m9) = true)
    (am10 : PySem.W.findIn K (.ref L) "order" = some (some (.ref m10)))
    (im10 : PySem.W.isFn K (.ref m10) = true)
    (lm10 : K.lookup m10 = some ⟨ocm10, odm10, .func (PySem.W.fnOf "order" "SwapLog.order"
      (defArgs s_SwapLog_order) (defBody s_SwapLog_order) (defScope s_SwapLog_order) .none kVm10 dcm10 pmm10 anm10 cdm10
      ctm10), slm10⟩)
    (cm10 : PySem.W.codeIn K cdm10 "SwapLog.order" = true)
    (km10 : PySem.W.keepIn K (.ref m10) = true)
    (am11 : PySem.W.findIn K (.ref L) "entries" = some (some (.ref m11)))
    (im11 : PySem.W.isFn K (.ref m11) = true)
    (lm11 : K.lookup m11 = some ⟨ocm11, odm11, .func (PySem.W.fnOf "entries" "SwapLog.entries"
      (defArgs s_SwapLog_entries) (defBody s_SwapLog_entries) (defScope s_SwapLog_entries) .none kVm11 dcm11 pmm11 anm11 cdm11
      ctm11), slm11⟩)
    (cm11 : PySem.W.codeIn K cdm11 "SwapLog.entries" = true)
    (km11 : PySem.W.keepIn K (.ref m11) = true)
    (am12 : PySem.W.findIn K (.ref L) "indexes" = some (some (.ref m12)))
    (im12 : PySem.W.isFn K (.ref m12) = true)
    (lm12 : K.lookup m12 = some ⟨ocm12, odm12, .func (PySem.W.fnOf "indexes" "SwapLog.indexes"
      (defArgs s_SwapLog_indexes) (defBody s_SwapLog_indexes) (defScope s_SwapLog_indexes) .none kVm12 dcm12 pmm12 anm12 cdm12
      ctm12), slm12⟩)
    (cm12 : PySem.W.codeIn K cdm12 "SwapLog.indexes" = true)
    (km12 : PySem.W.keepIn K (.ref m12) = true)
    (am13 : PySem.W.findIn K (.ref L) "swap" = some (some (.ref m13)))
    (im13 : PySem.W.isFn K (.ref m13) = true)
    (lm13 : K.lookup m13 = some ⟨ocm13, odm13, .func (PySem.W.fnOf "swap" "SwapLog.swap"
      (defArgs s_SwapLog_swap) (defBody s_SwapLog_swap) (defScope s_SwapLog_swap) .none (.ref Dm13) dcm13 pmm13 anm13 cdm13
      ctm13), slm13⟩)
    (wm13 : PySem.W.nsIn K Dm13 "reason" = some (some (.str (Str.ofString "") tDm13)))
    (cm13 : PySem.W.codeIn K cdm13 "SwapLog.swap" = true)
    (km13 : PySem.W.keepIn K (.ref m13) = true)
    (am14 : PySem.W.findIn K (.ref L) "swap_checked" = some (some (.ref m14)))
    (im14 : PySem.W.isFn K (.ref m14) = true)
    (lm14 : K.lookup m14 = some ⟨ocm14, odm14, .func (PySem.W.fnOf "swap_checked" "SwapLog.swap_checked"
      (defArgs s_SwapLog_swap_checked) (defBody s_SwapLog_swap_checked) (defScope s_SwapLog_swap_checked) .none kVm14 dcm14 pmm14 anm14 cdm14
      ctm14), slm14⟩)
    (cm14 : PySem.W.codeIn K cdm14 "SwapLog.swap_checked" = true)
    (km14 : PySem.W.keepIn K (.ref m14) = true)
    (am15 : PySem.W.findIn K (.ref L) "check_position" = some (some (.ref m15)))
    (im15 : PySem.W.isFn K (.ref m15) = true)
    (lm15 : K.lookup m15 = some ⟨ocm15, odm15, .func (PySem.W.fnOf "check_position" "SwapLog.check_position"
      (defArgs s_SwapLog_check_position) (defBody s_SwapLog_check_position) (defScope s_SwapLog_check_position) .none kVm15 dcm15 pmm15 anm15 cdm15
      ctm15), slm15⟩)
    (cm15 : PySem.W.codeIn K cdm15 "SwapLog.check_position" = true)
    (km15 : PySem.W.keepIn K (.ref m15) = true)
    (am16 : PySem.W.findIn K (.ref L) "remove_entry" = some (some (.ref m16)))
    (im16 : PySem.W.isFn K (.ref m16) = true)
    (lm16 : K.lookup m16 = some ⟨ocm16, odm16, .func (PySem.W.fnOf "remove_entry" "SwapLog.remove_entry"
      (defArgs s_SwapLog_remove_entry) (defBody s_SwapLog_remove_entry) (defScope s_SwapLog_remove_entry) .none kVm16 dcm16 pmm16 anm16 cdm16
      ctm16), slm16⟩)
    (cm16 : PySem.W.codeIn K cdm16 "SwapLog.remove_entry" = true)
    (km16 : PySem.W.keepIn K (.ref m16) = true)
    (am17 : PySem.W.findIn K (.ref L) "entry_for" = some (some (.ref m17)))
    (im17 : PySem.W.isFn K (.ref m17) = true)
    (lm17 : K.lookup m17 = some ⟨ocm17, odm17, .func (PySem.W.fnOf "entry_for" "SwapLog.entry_for"
      (defArgs s_SwapLog_entry_for) (defBody s_SwapLog_entry_for) (defScope s_SwapLog_entry_for) .none kVm17 dcm17 pmm17 anm17 cdm17
      ctm17), slm17⟩)
    (cm17 : PySem.W.codeIn K cdm17 "SwapLog.entry_for" = true)
    (km17 : PySem.W.keepIn K (.ref m17) = true)
    (am18 : PySem.W.findIn K (.ref L) "clone" = some (some (.ref m18)))
    (im18 : PySem.W.isFn K (.ref m18) = true)
    (lm18 : K.lookup m18 = some ⟨ocm18, odm18, .func (PySem.W.fnOf "clone" "SwapLog.clone"
      (defArgs s_SwapLog_clone) (defBody s_SwapLog_clone) (defScope s_SwapLog_clone) .none kVm18 dcm18 pmm18 anm18 cdm18
      ctm18), slm18⟩)
    (cm18 : PySem.W.codeIn K cdm18 "SwapLog.clone" = true)
    (km18 : PySem.W.keepIn K (.ref m18) = true)
    (am19 : PySem.W.findIn K (.ref C) "__eq__" = some (some (.ref m19)))
    (im19 : PySem.W.isFn K (.ref m19) = true)
    (lm19 : K.lookup m19 = some ⟨ocm19, odm19, .func (PySem.W.fnOf "__eq__" "Base.__eq__"
      (defArgs s_Base_eq) (defBody s_Base_eq) (defScope s_Base_eq) .none kVm19 dcm19 pmm19 anm19 cdm19
      ctm19), slm19⟩)
    (cm19 : PySem.W.codeIn K cdm19 "Base.__eq__" = true)
    (km19 : PySem.W.keepIn K (.ref m19) = true)
    (am20 : PySem.W.findIn K (.ref L) "__eq__" = some (some (.ref m20)))
    (im20 : PySem.W.isFn K (.ref m20) = true)
    (lm20 : K.lookup m20 = some ⟨ocm20, odm20, .func (PySem.W.fnOf "__eq__" "SwapLog.__eq__"
      (defArgs s_SwapLog_eq) (defBody s_SwapLog_eq) (defScope s_SwapLog_eq) .none kVm20 dcm20 pmm20 anm20 cdm20
      ctm20), slm20⟩)
    (cm20 : PySem.W.codeIn K cdm20 "SwapLog.__eq__" = true)
    (km20 : PySem.W.keepIn K (.ref m20) = true)
    (am21 : PySem.W.findIn K (.ref L) "__repr__" = some (some (.ref m21)))
    (im21 : PySem.W.isFn K (.ref m21) = true)
    (lm21 : K.lookup m21 = some ⟨ocm21, odm21, .func (PySem.W.fnOf "__repr__" "SwapLog.__repr__"
      (defArgs s_SwapLog_repr) (defBody s_SwapLog_repr) (defScope s_SwapLog_repr) .none kVm21 dcm21 pmm21 anm21 cdm21
      ctm21), slm21⟩)
    (cm21 : PySem.W.codeIn K cdm21 "SwapLog.__repr__" = true)
    (km21 : PySem.W.keepIn K (.ref m21) = true)
    (am22 : PySem.W.findIn K (.ref L) "clear_entries" = some (some (.ref m22)))
    (im22 : PySem.W.isFn K (.ref m22) = true)
    (lm22 : K.lookup m22 = some ⟨ocm22, odm22, .func (PySem.W.fnOf "clear_entries" "SwapLog.clear_entries"
      (defArgs s_SwapLog_clear_entries) (defBody s_SwapLog_clear_entries) (defScope s_SwapLog_clear_entries) .none kVm22 dcm22 pmm22 anm22 cdm22
      ctm22), slm22⟩)
    (cm22 : PySem.W.codeIn K cdm22 "SwapLog.clear_entries" = true)
    (km22 : PySem.W.keepIn K (.ref m22) = true)
    (am23 : PySem.W.findIn K (.ref L) "order_after" = some (some (.ref m23)))
    (im23 : PySem.W.isFn K (.ref m23) = true)
    (lm23 : K.lookup m23 = some ⟨ocm23, odm23, .func (PySem.W.fnOf "order_after" "SwapLog.order_after"
      (defArgs s_SwapLog_order_after) (defBody s_SwapLog_order_after) (defScope s_SwapLog_order_after) .none kVm23 dcm23 pmm23 anm23 cdm23
      ctm23), slm23⟩)
    (cm23 : PySem.W.codeIn K cdm23 "SwapLog.order_after" = true)
    (km23 : PySem.W.keepIn K (.ref m23) = true)
    (am24 : PySem.W.findIn K (.ref L) "pair_at" = some (some (.ref m24)))
    (im24 : PySem.W.isFn K (.ref m24) = true)
    (lm24 : K.lookup m24 = some ⟨ocm24, odm24, .func (PySem.W.fnOf "pair_at" "SwapLog.pair_at"
      (defArgs s_SwapLog_pair_at) (defBody s_SwapLog_pair_at) (defScope s_SwapLog_pair_at) .none kVm24 dcm24 pmm24 anm24 cdm24
      ctm24), slm24⟩)
    (cm24 : PySem.W.codeIn K cdm24 "SwapLog.pair_at" = true)
    (km24 : PySem.W.keepIn K (.ref m24) = true)
    (hn : PySem.W.specialIn K (.builtin "object.__class__") "__get__" =
      some (some (.builtin "getset_descriptor.__get__")))
    (htk : PySem.W.takesIn K (.builtin "object.__class__") = some true)
    (pgC : PySem.W.plainGet K C Str.empty = true)
    (hdC : PySem.W.hasDictIn K C = true)
    (poC : PySem.W.plainOver K C = true)
    (saC : PySem.W.findIn K (.ref C) "__setattr__" =
      some (some (.builtin "object.__setattr__")))
    (haC : PySem.W.findIn K (.ref C) "__class__" =
      some (some (.builtin "object.__class__")))
    (hmC : PySem.W.mroIn K C (.type "object") = some true)
    (mkC : PySem.W.makesIn K C = true)
    (kcC : PySem.W.keepIn K (.ref C) = true)
    (n0C : PySem.W.findIn K (.ref C) "listed" = some none)
    (n1C : PySem.W.findIn K (.ref C) "places" = some none)
    (pgL : PySem.W.plainGet K L Str.empty = true)
    (hdL : PySem.W.hasDictIn K L = true)
    (poL : PySem.W.plainOver K L = true)
    (saL : PySem.W.findIn K (.ref L) "__setattr__" =
      some (some (.builtin "object.__setattr__")))
    (haL : PySem.W.findIn K (.ref L) "__class__" =
      some (some (.builtin "object.__class__")))
    (hmL : PySem.W.mroIn K L (.type "object") = some true)
    (mkL : PySem.W.makesIn K L = true)
    (kcL : PySem.W.keepIn K (.ref L) = true)
    (n0L : PySem.W.findIn K (.ref L) "ground" = some none)
    (n1L : PySem.W.findIn K (.ref L) "current" = some none)
    (n2L : PySem.W.findIn K (.ref L) "rows" = some none)
    (u0C : PySem.W.subIn K (.type "NoneType") (.ref C) = some false)
    (v0C : PySem.W.subIn K (.ref C) (.type "NoneType") = some false)
    (u1C : PySem.W.subIn K (.type "bool") (.ref C) = some false)
    (v1C : PySem.W.subIn K (.ref C) (.type "bool") = some false)
    (u2C : PySem.W.subIn K (.type "int") (.ref C) = some false)
    (v2C : PySem.W.subIn K (.ref C) (.type "int") = some false)
    (u3C : PySem.W.subIn K (.type "str") (.ref C) = some false)
    (v3C : PySem.W.subIn K (.ref C) (.type "str") = some false)
    (u4C : PySem.W.subIn K (.type "list") (.ref C) = some false)
    (v4C : PySem.W.subIn K (.ref C) (.type "list") = some false)
    (u5C : PySem.W.subIn K (.type "tuple") (.ref C) = some false)
    (v5C : PySem.W.subIn K (.ref C) (.type "tuple") = some false)
    (u6C : PySem.W.subIn K (.type "dict") (.ref C) = some false)
    (v6C : PySem.W.subIn K (.ref C) (.type "dict") = some false)
    (icC : PySem.W.isClsIn K C = true)
    (tcC : PySem.W.typeIn K (.ref C) = some (.type "type"))
    (u0L : PySem.W.subIn K (.type "NoneType") (.ref L) = some false)
    (v0L : PySem.W.subIn K (.ref L) (.type "NoneType") = some false)
    (u1L : PySem.W.subIn K (.type "bool") (.ref L) = some false)
    (v1L : PySem.W.subIn K (.ref L) (.type "bool") = some false)
    (u2L : PySem.W.subIn K (.type "int") (.ref L) = some false)
    (v2L : PySem.W.subIn K (.ref L) (.type "int") = some false)
    (u3L : PySem.W.subIn K (.type "str") (.ref L) = some false)
    (v3L : PySem.W.subIn K (.ref L) (.type "str") = some false)
    (u4L : PySem.W.subIn K (.type "list") (.ref L) = some false)
    (v4L : PySem.W.subIn K (.ref L) (.type "list") = some false)
    (u5L : PySem.W.subIn K (.type "tuple") (.ref L) = some false)
    (v5L : PySem.W.subIn K (.ref L) (.type "tuple") = some false)
    (u6L : PySem.W.subIn K (.type "dict") (.ref L) = some false)
    (v6L : PySem.W.subIn K (.ref L) (.type "dict") = some false)
    (icL : PySem.W.isClsIn K L = true)
    (tcL : PySem.W.typeIn K (.ref L) = some (.type "type"))
    (sCL : PySem.W.subIn K (.ref C) (.ref L) = some false)
    (sLC : PySem.W.subIn K (.ref L) (.ref C) = some false)
    (topL : PySem.W.subIn K (.ref L) (.type "object") = some true)
    (noL : PySem.W.findIn K (.ref L) "__ne__" = some (some (.builtin "object.__ne__")))
    (neCL : (C == L) = false)
    (neLC : (L == C) = false)
    (c40 : PySem.W.nsIn K mainGlobals "MAX_ITEMS" = some (some (.int 40 t40)))
    (c8 : PySem.W.nsIn K mainGlobals "MAX_NAME_LENGTH" = some (some (.int 8 t8)))
    (cN : PySem.W.nsIn K mainGlobals "NO_REASON" = some (some (.str (Str.ofString "") tN)))
    (zlen : PySem.W.nsIn K mainGlobals "len" = some none)
    (zdivmod : PySem.W.nsIn K mainGlobals "divmod" = some none)
    (zabs : PySem.W.nsIn K mainGlobals "abs" = some none)
    (zmax : PySem.W.nsIn K mainGlobals "max" = some none)
    (zmin : PySem.W.nsIn K mainGlobals "min" = some none)
    (zrange : PySem.W.nsIn K mainGlobals "range" = some none)
    (zenumerate : PySem.W.nsIn K mainGlobals "enumerate" = some none)
    (zisinstance : PySem.W.nsIn K mainGlobals "isinstance" = some none)
    (zstr : PySem.W.nsIn K mainGlobals "str" = some none)
    (zlist : PySem.W.nsIn K mainGlobals "list" = some none)
    (zset : PySem.W.nsIn K mainGlobals "set" = some none)
    (zall : PySem.W.nsIn K mainGlobals "all" = some none)
    (zrepr : PySem.W.nsIn K mainGlobals "repr" = some none)
    (zint : PySem.W.nsIn K mainGlobals "int" = some none)
    (zbool : PySem.W.nsIn K mainGlobals "bool" = some none)
    (zany : PySem.W.nsIn K mainGlobals "any" = some none)
    (ztuple : PySem.W.nsIn K mainGlobals "tuple" = some none)
    : ∃ fd : FuncData, (∀ (s : Shared) (v : Value),
        BindsTo s fd ⟨[v], []⟩ [("_law_script", v)]) ∧
      ∀ base : Heap, K.In base → base.Ns mainGlobals mg →
        FnG l.prog w K mg base CX0 15 fa fd ["_law_script"] (spLaw K) := by
  cases hfa.symm.trans (PySem.W.mg_of X G af24)
  have B : Bl mg := ⟨PySem.W.mg_none_of X G zlen, PySem.W.mg_none_of X G zdivmod, PySem.W.mg_none_of X G zabs, PySem.W.mg_none_of X G zmax, PySem.W.mg_none_of X G zmin, PySem.W.mg_none_of X G zrange, PySem.W.mg_none_of X G zenumerate, PySem.W.mg_none_of X G zisinstance, PySem.W.mg_none_of X G zstr, PySem.W.mg_none_of X G zlist, PySem.W.mg_none_of X G zset, PySem.W.mg_none_of X G zall, PySem.W.mg_none_of X G zrepr⟩
  have BI : BlI mg := ⟨PySem.W.mg_none_of X G zint, PySem.W.mg_none_of X G zbool⟩
  have TC : BC K mg C := ⟨⟨⟨pgC, hdC, poC, saC⟩, haC, hn, htk, hmC,
    if_pos (beq_self_eq_true _)⟩, n0C, n1C,
    PySem.W.mg_of X G aC, kcC⟩
  have TL : LC K mg L := ⟨⟨⟨pgL, hdL, poL, saL⟩, haL, hn, htk, hmL,
    if_pos (beq_self_eq_true _)⟩, n0L, n1L, n2L,
    PySem.W.mg_of X G aL, kcL⟩
  have kuL : ∀ T ∈ ["NoneType", "bool", "int", "str", "list", "tuple", "dict"],
      PySem.W.subIn K (.type T) (.ref L) = some false := by
    intro T hT
    simp only [List.mem_cons, List.mem_nil_iff, or_false] at hT
    rcases hT with rfl | rfl | rfl | rfl | rfl | rfl | rfl
    · exact u0L
    · exact u1L
    · exact u2L
    · exact u3L
    · exact u4L
    · exact u5L
    · exact u6L
  have kvL : ∀ T ∈ ["NoneType", "bool", "int", "str", "list", "tuple", "dict"],
      PySem.W.subIn K (.ref L) (.type T) = some false := by
    intro T hT
    simp only [List.mem_cons, List.mem_nil_iff, or_false] at hT
    rcases hT with rfl | rfl | rfl | rfl | rfl | rfl | rfl
    · exact v0L
    · exact v1L
    · exact v2L
    · exact v3L
    · exact v4L
    · exact v5L
    · exact v6L
  have kuC : ∀ T ∈ ["NoneType", "bool", "int", "str", "list", "tuple", "dict"],
      PySem.W.subIn K (.type T) (.ref C) = some false := by
    intro T hT
    simp only [List.mem_cons, List.mem_nil_iff, or_false] at hT
    rcases hT with rfl | rfl | rfl | rfl | rfl | rfl | rfl
    · exact u0C
    · exact u1C
    · exact u2C
    · exact u3C
    · exact u4C
    · exact u5C
    · exact u6C
  have kvC : ∀ T ∈ ["NoneType", "bool", "int", "str", "list", "tuple", "dict"],
      PySem.W.subIn K (.ref C) (.type T) = some false := by
    intro T hT
    simp only [List.mem_cons, List.mem_nil_iff, or_false] at hT
    rcases hT with rfl | rfl | rfl | rfl | rfl | rfl | rfl
    · exact v0C
    · exact v1C
    · exact v2C
    · exact v3C
    · exact v4C
    · exact v5C
    · exact v6C
  have KN : Kin K C L := ⟨⟨kuL, kvL⟩, ⟨kuC, kvC⟩, fun T hT => kitB icL tcL (kuL T hT),
    kit2 neCL icL tcL sCL, kit2 neLC icC tcC sLC, sCL, sLC, topL, noL⟩
  obtain ⟨d1, D1⟩ := defAt (st := s_is_name) (ps := ["value"]) X G af1 lf1 cf1 kf1
    fun _ _ _ _ _ _ us hl => match us, hl with | [_], _ => rfl
  obtain ⟨d2, D2⟩ := defAt (st := s_check_items) (ps := ["items"]) X G af2 lf2 cf2 kf2
    fun _ _ _ _ _ _ us hl => match us, hl with | [_], _ => rfl
  obtain ⟨d3, D3⟩ := defAt (st := s_pair_of) (ps := ["base", "first", "second"]) X G af3 lf3 cf3 kf3
    fun _ _ _ _ _ _ us hl => match us, hl with | [_, _, _], _ => rfl
  obtain ⟨d4, D4⟩ := defAt (st := s_is_integer_from) (ps := ["value", "low", "high"]) X G af4 lf4 cf4 kf4
    fun _ _ _ _ _ _ us hl => match us, hl with | [_, _, _], _ => rfl
  obtain ⟨d5, D5⟩ := defAt (st := s_is_swap_index) (ps := ["base", "value"]) X G af5 lf5 cf5 kf5
    fun _ _ _ _ _ _ us hl => match us, hl with | [_, _], _ => rfl
  obtain ⟨d6, D6⟩ := defAt (st := s_check_swap_index) (ps := ["base", "index"]) X G af6 lf6 cf6 kf6
    fun _ _ _ _ _ _ us hl => match us, hl with | [_, _], _ => rfl
  obtain ⟨d7, D7⟩ := defAt (st := s_exchanged) (ps := ["order", "index"]) X G af7 lf7 cf7 kf7
    fun _ _ _ _ _ _ us hl => match us, hl with | [_, _], _ => rfl
  obtain ⟨d8, D8⟩ := defAt (st := s_goes_outward) (ps := ["base", "order", "index"]) X G af8 lf8 cf8 kf8
    fun _ _ _ _ _ _ us hl => match us, hl with | [_, _, _], _ => rfl
  obtain ⟨d9, D9⟩ := defAt (st := s_pairs_of_swaps) (ps := ["base", "indexes"]) X G af9 lf9 cf9 kf9
    fun _ _ _ _ _ _ us hl => match us, hl with | [_, _], _ => rfl
  obtain ⟨d10, D10⟩ := defAt (st := s_is_reason) (ps := ["value"]) X G af10 lf10 cf10 kf10
    fun _ _ _ _ _ _ us hl => match us, hl with | [_], _ => rfl
  obtain ⟨d11, D11⟩ := defAt (st := s_check_reason) (ps := ["reason"]) X G af11 lf11 cf11 kf11
    fun _ _ _ _ _ _ us hl => match us, hl with | [_], _ => rfl
  obtain ⟨d12, D12⟩ := defAt (st := s_Lrng) (ps := ["_law_script", "_law_k"]) X G af12 lf12 cf12 kf12
    fun _ _ _ _ _ _ us hl => match us, hl with | [_, _], _ => rfl
  obtain ⟨d13, D13⟩ := defAt (st := s_Ldraw) (ps := ["_law_rng_here", "_law_many"]) X G af13 lf13 cf13 kf13
    fun _ _ _ _ _ _ us hl => match us, hl with | [_, _], _ => rfl
  obtain ⟨d14, D14⟩ := defAt (st := s_Lchoice) (ps := ["_law_rng_here", "_law_options"]) X G af14 lf14 cf14 kf14
    fun _ _ _ _ _ _ us hl => match us, hl with | [_, _], _ => rfl
  obtain ⟨d15, D15⟩ := defAt (st := s_Lname) (ps := ["_law_rng_here", "_law_used"]) X G af15 lf15 cf15 kf15
    fun _ _ _ _ _ _ us hl => match us, hl with | [_, _], _ => rfl
  obtain ⟨d16, D16⟩ := defAt (st := s_Lnames) (ps := ["_law_rng_here", "_law_many", "_law_used"]) X G af16 lf16 cf16 kf16
    fun _ _ _ _ _ _ us hl => match us, hl with | [_, _, _], _ => rfl
  obtain ⟨d17, D17⟩ := defAt (st := s_Lswapped_entries) (ps := ["_law_items", "_law_entries", "_law_order", "_law_index", "_law_label_here"]) X G af17 lf17 cf17 kf17
    fun _ _ _ _ _ _ us hl => match us, hl with | [_, _, _, _, _], _ => rfl
  obtain ⟨d18, D18⟩ := defAt (st := s_Lbegun) (ps := ["_law_items"]) X G af18 lf18 cf18 kf18
    fun _ _ _ _ _ _ us hl => match us, hl with | [_], _ => rfl
  obtain ⟨d19, D19⟩ := defAt (st := s_Lswap_done) (ps := ["_law_state", "_law_at", "_law_label_here"]) X G af19 lf19 cf19 kf19
    fun _ _ _ _ _ _ us hl => match us, hl with | [_, _, _], _ => rfl
  obtain ⟨d20, D20⟩ := defAt (st := s_Llabel) (ps := ["_law_rng_here"]) X G af20 lf20 cf20 kf20
    fun _ _ _ _ _ _ us hl => match us, hl with | [_], _ => rfl
  obtain ⟨d21, D21⟩ := defAt (st := s_Lswapped) (ps := ["_law_rng_here", "_law_log", "_law_state"]) X G af21 lf21 cf21 kf21
    fun _ _ _ _ _ _ us hl => match us, hl with | [_, _, _], _ => rfl
  obtain ⟨d22, D22⟩ := defAt (st := s_Lis) (ps := ["_law_log", "_law_state"]) X G af22 lf22 cf22 kf22
    fun _ _ _ _ _ _ us hl => match us, hl with | [_, _], _ => rfl
  obtain ⟨d23, D23⟩ := defAt (st := s_Lright) (ps := ["_law_rng_here"]) X G af23 lf23 cf23 kf23
    fun _ _ _ _ _ _ us hl => match us, hl with | [_], _ => rfl
  obtain ⟨d24, D24⟩ := defAt (st := s_law) (ps := ["_law_script"]) X G af24 lf24 cf24 kf24
    fun _ _ _ _ _ _ us hl => match us, hl with | [_], _ => rfl
  obtain ⟨d25, D25⟩ := defAt (st := s_order_after_swaps) (ps := ["base", "indexes"]) X G af25 lf25 cf25 kf25
    fun _ _ _ _ _ _ us hl => match us, hl with | [_, _], _ => rfl
  obtain ⟨d26, D26⟩ := defAt (st := s_is_entry) (ps := ["base", "value"]) X G af26 lf26 cf26 kf26
    fun _ _ _ _ _ _ us hl => match us, hl with | [_, _], _ => rfl
  obtain ⟨d27, D27⟩ := defAt (st := s_log_from_entries) (ps := ["base", "entries"]) X G af27 lf27 cf27 kf27
    fun _ _ _ _ _ _ us hl => match us, hl with | [_, _], _ => rfl
  obtain ⟨d28, D28⟩ := defAt (st := s_Lcopied) (ps := ["_law_state"]) X G af28 lf28 cf28 kf28
    fun _ _ _ _ _ _ us hl => match us, hl with | [_], _ => rfl
  obtain ⟨d29, D29⟩ := defAt (st := s_Lturned) (ps := ["_law_rng_here", "_law_logs", "_law_states"]) X G af29 lf29 cf29 kf29
    fun _ _ _ _ _ _ us hl => match us, hl with | [_, _, _], _ => rfl
  obtain ⟨d30, D30⟩ := defAt (st := s_Lasked_right) (ps := ["_law_log", "_law_state"]) X G af30 lf30 cf30 kf30
    fun _ _ _ _ _ _ us hl => match us, hl with | [_, _], _ => rfl
  obtain ⟨d31, D31⟩ := defAt (st := s_Lall_right) (ps := ["_law_logs", "_law_states"]) X G af31 lf31 cf31 kf31
    fun _ _ _ _ _ _ us hl => match us, hl with | [_, _], _ => rfl
  obtain ⟨d32, D32⟩ := defAt (st := s_Lunlike) (ps := ["_law_log", "_law_items"]) X G af32 lf32 cf32 kf32
    fun _ _ _ _ _ _ us hl => match us, hl with | [_, _], _ => rfl
  obtain ⟨d33, D33⟩ := defAt (st := s_names_fault) (ps := ["value", "most"]) X G af33 lf33 cf33 kf33
    fun _ _ _ _ _ _ us hl => match us, hl with | [_, _], _ => rfl
  obtain ⟨d34, D34⟩ := defAt (st := s_is_integer) (ps := ["value"]) X G af34 lf34 cf34 kf34
    fun _ _ _ _ _ _ us hl => match us, hl with | [_], _ => rfl
  obtain ⟨e1, M1⟩ := methAt (st := s_Base_init) (ps := ["self", "items"]) am1 im1 lm1 cm1 km1
    fun _ _ _ _ _ _ us hl => match us, hl with | [_, _], _ => rfl
  obtain ⟨e2, M2⟩ := methAt (st := s_Base_len) (ps := ["self"]) am2 im2 lm2 cm2 km2
    fun _ _ _ _ _ _ us hl => match us, hl with | [_], _ => rfl
  obtain ⟨e3, M3⟩ := methAt (st := s_Base_names) (ps := ["self"]) am3 im3 lm3 cm3 km3
    fun _ _ _ _ _ _ us hl => match us, hl with | [_], _ => rfl
  obtain ⟨e4, M4⟩ := methAt (st := s_Base_has_item) (ps := ["self", "value"]) am4 im4 lm4 cm4 km4
    fun _ _ _ _ _ _ us hl => match us, hl with | [_, _], _ => rfl
  obtain ⟨e5, M5⟩ := methAt (st := s_Base_position_of) (ps := ["self", "item"]) am5 im5 lm5 cm5 km5
    fun _ _ _ _ _ _ us hl => match us, hl with | [_, _], _ => rfl
  obtain ⟨e6, M6⟩ := methAt (st := s_Base_precedes) (ps := ["self", "first", "second"]) am6 im6 lm6 cm6 km6
    fun _ _ _ _ _ _ us hl => match us, hl with | [_, _, _], _ => rfl
  obtain ⟨e7, M7⟩ := methAt (st := s_SwapLog_init) (ps := ["self", "base"]) am7 im7 lm7 cm7 km7
    fun _ _ _ _ _ _ us hl => match us, hl with | [_, _], _ => rfl
  obtain ⟨e8, M8⟩ := methAt (st := s_SwapLog_len) (ps := ["self"]) am8 im8 lm8 cm8 km8
    fun _ _ _ _ _ _ us hl => match us, hl with | [_], _ => rfl
  obtain ⟨e9, M9⟩ := methAt (st := s_SwapLog_base) (ps := ["self"]) am9 im9 lm9 cm9 km9
    fun _ _ _ _ _ _ us hl => match us, hl with | [_], _ => rfl
  obtain ⟨e10, M10⟩ := methAt (st := s_SwapLog_order) (ps := ["self"]) am10 im10 lm10 cm10 km10
    fun _ _ _ _ _ _ us hl => match us, hl with | [_], _ => rfl
  obtain ⟨e11, M11⟩ := methAt (st := s_SwapLog_entries) (ps := ["self"]) am11 im11 lm11 cm11 km11
    fun _ _ _ _ _ _ us hl => match us, hl with | [_], _ => rfl
  obtain ⟨e12, M12⟩ := methAt (st := s_SwapLog_indexes) (ps := ["self"]) am12 im12 lm12 cm12 km12
    fun _ _ _ _ _ _ us hl => match us, hl with | [_], _ => rfl
  obtain ⟨e13, M13⟩ := methKDAt (st := s_SwapLog_swap) (ps := ["self", "index", "reason"]) (kw := "reason") (n := 2) am13 im13 lm13 cm13 km13 rfl wm13
    (fun us _ hl => match us, hl with | [_, _], _ => rfl)
    (fun us _ hl => match us, hl with | [_, _], _ => ⟨_, _, _, _, _, _, rfl, rfl, rfl⟩)
  obtain ⟨e14, M14⟩ := methAt (st := s_SwapLog_swap_checked) (ps := ["self", "index", "reason"]) am14 im14 lm14 cm14 km14
    fun _ _ _ _ _ _ us hl => match us, hl with | [_, _, _], _ => rfl
  obtain ⟨e15, M15⟩ := methAt (st := s_SwapLog_check_position) (ps := ["self", "position"]) am15 im15 lm15 cm15 km15
    fun _ _ _ _ _ _ us hl => match us, hl with | [_, _], _ => rfl
  obtain ⟨e16, M16⟩ := methAt (st := s_SwapLog_remove_entry) (ps := ["self", "position"]) am16 im16 lm16 cm16 km16
    fun _ _ _ _ _ _ us hl => match us, hl with | [_, _], _ => rfl
  obtain ⟨e17, M17⟩ := methAt (st := s_SwapLog_entry_for) (ps := ["self", "first", "second"]) am17 im17 lm17 cm17 km17
    fun _ _ _ _ _ _ us hl => match us, hl with | [_, _, _], _ => rfl
  obtain ⟨e18, M18⟩ := methAt (st := s_SwapLog_clone) (ps := ["self"]) am18 im18 lm18 cm18 km18
    fun _ _ _ _ _ _ us hl => match us, hl with | [_], _ => rfl
  obtain ⟨e19, M19⟩ := methAt (st := s_Base_eq) (ps := ["self", "other"]) am19 im19 lm19 cm19 km19
    fun _ _ _ _ _ _ us hl => match us, hl with | [_, _], _ => rfl
  obtain ⟨e20, M20⟩ := methAt (st := s_SwapLog_eq) (ps := ["self", "other"]) am20 im20 lm20 cm20 km20
    fun _ _ _ _ _ _ us hl => match us, hl with | [_, _], _ => rfl
  obtain ⟨e21, M21⟩ := methAt (st := s_SwapLog_repr) (ps := ["self"]) am21 im21 lm21 cm21 km21
    fun _ _ _ _ _ _ us hl => match us, hl with | [_], _ => rfl
  obtain ⟨e22, M22⟩ := methAt (st := s_SwapLog_clear_entries) (ps := ["self"]) am22 im22 lm22 cm22 km22
    fun _ _ _ _ _ _ us hl => match us, hl with | [_], _ => rfl
  obtain ⟨e23, M23⟩ := methAt (st := s_SwapLog_order_after) (ps := ["self", "count"]) am23 im23 lm23 cm23 km23
    fun _ _ _ _ _ _ us hl => match us, hl with | [_, _], _ => rfl
  obtain ⟨e24, M24⟩ := methAt (st := s_SwapLog_pair_at) (ps := ["self", "position"]) am24 im24 lm24 cm24 km24
    fun _ _ _ _ _ _ us hl => match us, hl with | [_, _], _ => rfl
  refine ⟨d24, fun s v => D24.bt s [v] rfl, fun base _ _ => ?_⟩
  exact all29 B BI (PySem.W.mg_none_of X G zany) (PySem.W.mg_none_of X G ztuple) TC mkC TL mkL KN (PySem.W.mg_of X G c40) (PySem.W.mg_of X G c8) (PySem.W.mg_of X G cN)
    D1 D2 D3 D4 D5 D6 D7 D8 D9 D10 D11 D12 D13 D14 D15 D16 D17 D18 D19 D20 D21 D22 D23 D24 D25 D26 D27 D28 D29 D30 D31 D32 D33 D34 M1 M2 M3 M4 M5 M6 M7 M8 M9 M10 M11 M12 M13 M14 M15 M16 M17 M18 M19 M20 M21 M22 M23 M24
end OM
open PySem PySem.W PyProof.Rows
set_option maxRecDepth 100000 in
set_option maxHeartbeats 0 in
theorem PySem.Challenge.cw_ordermerge_k29_logs_equal_and_cloned_holds : PySem.Challenge.rw_ordermerge_k29_logs_equal_and_cloned.Holds := by
  w_on; o_law; k_head; (case hw => w_witness2)
  k_fill
  refine OM.walkG (l := PySem.Challenge.rw_ordermerge_k29_logs_equal_and_cloned) (n := 63) (k := 15)
    (x := "_law_script") (sp := OM.spLaw) rfl (by decide) rfl
    ⟨rfl, by decide, by decide⟩ (fun w h Y => PySem.W.kIn_of Y) ?F
    (fun K H a ns hl _ hS => ⟨a, ns, rfl, hS, hl, fun _ => rfl⟩)
  case F =>
    intro w mg fa h KX G hmg
    refine' OM.fin29 KX G hmg ?af1
      ?lf1
      ?cf1
      ?kf1
      ?af2
      ?lf2
      ?cf2
      ?kf2
      ?af3
      ?lf3
      ?cf3
      ?kf3
      ?af4
      ?lf4
      ?cf4
      ?kf4
      ?af5
      ?lf5
      ?cf5
      ?kf5
      ?af6
      ?lf6
      ?cf6
      ?kf6
      ?af7
      ?lf7
      ?cf7
      ?kf7
      ?af8
      ?lf8
      ?cf8
      ?kf8
      ?af9
      ?lf9
      ?cf9
      ?kf9
      ?af10
      ?lf10
      ?cf10
      ?kf10
      ?af11
      ?lf11
      ?cf11
      ?kf11
      ?af12
      ?lf12
      ?cf12
      ?kf12
      ?af13
      ?lf13
      ?cf13
      ?kf13
      ?af14
      ?lf14
      ?cf14
      ?kf14
      ?af15
      ?lf15
      ?cf15
      ?kf15
      ?af16
      ?lf16
      ?cf16
      ?kf16
      ?af17
      ?lf17
      ?cf17
      ?kf17
      ?af18
      ?lf18
      ?cf18
      ?kf18
      ?af19
      ?lf19
      ?cf19
      ?kf19
      ?af20
      ?lf20
      ?cf20
      ?kf20
      ?af21
      ?lf21
      ?cf21
      ?kf21
      ?af22
      ?lf22
      ?cf22
      ?kf22
      ?af23
      ?lf23
      ?cf23
      ?kf23
      ?af24
      ?lf24
      ?cf24
      ?kf24
      ?af25
      ?lf25
      ?cf25
      ?kf25
      ?af26
      ?lf26
      ?cf26
      ?kf26
      ?af27
      ?lf27
      ?cf27
      ?kf27
      ?af28
      ?lf28
      ?cf28
      ?kf28
      ?af29
      ?lf29
      ?cf29
      ?kf29
      ?af30
      ?lf30
      ?cf30
      ?kf30
      ?af31
      ?lf31
      ?cf31
      ?kf31
      ?af32
      ?lf32
      ?cf32
      ?kf32
      ?af33
      ?lf33
      ?cf33
      ?kf33
      ?af34
      ?lf34
      ?cf34
      ?kf34
      ?aC
      ?aL
      ?am1
      ?im1
      ?lm1
      ?cm1
      ?km1
      ?am2
      ?im2
      ?lm2
      ?cm2
      ?km2
      ?am3
      ?im3
      ?lm3
      ?cm3
      ?km3
      ?am4
      ?im4
      ?lm4
      ?cm4
      ?km4
      ?am5
      ?im5
      ?lm5
      ?cm5
      ?km5
      ?am6
      ?im6
      ?lm6
      ?cm6
      ?km6
      ?am7
      ?im7
      ?lm7
      ?cm7
      ?km7
      ?am8
      ?im8
      ?lm8
      ?cm8
      ?km8
      ?am9
      ?im9
      ?lm9
      ?cm9
      ?km9
      ?am10
      ?im10
      ?lm10
      ?cm10
      ?km10
      ?am11
      ?im11
      ?lm11
      ?cm11
      ?km11
      ?am12
      ?im12
      ?lm12
      ?cm12
      ?km12
      ?am13
      ?im13
      ?lm13
      ?wm13
      ?cm13
      ?km13
      ?am14
      ?im14
      ?lm14
      ?cm14
      ?km14
      ?am15
      ?im15
      ?lm15
      ?cm15
      ?km15
      ?am16
      ?im16
      ?lm16
      ?cm16
      ?km16
      ?am17
      ?im17
      ?lm17
      ?cm17
      ?km17
      ?am18
      ?im18
      ?lm18
      ?cm18
      ?km18
      ?am19
      ?im19
      ?lm19
      ?cm19
      ?km19
      ?am20
      ?im20
      ?lm20
      ?cm20
      ?km20
      ?am21
      ?im21
      ?lm21
      ?cm21
      ?km21
      ?am22
      ?im22
      ?lm22
      ?cm22
      ?km22
      ?am23
      ?im23
      ?lm23
      ?cm23
      ?km23
      ?am24
      ?im24
      ?lm24
      ?cm24
      ?km24
      ?hn
      ?htk
      ?pgC
      ?hdC
      ?poC
      ?saC
      ?haC
      ?hmC
      ?mkC
      ?kcC
      ?n0C
      ?n1C
      ?pgL
      ?hdL
      ?poL
      ?saL
      ?haL
      ?hmL
      ?mkL
      ?kcL
      ?n0L
      ?n1L
      ?n2L
      ?u0C
      ?v0C
      ?u1C
      ?v1C
      ?u2C
      ?v2C
      ?u3C
      ?v3C
      ?u4C
      ?v4C
      ?u5C
      ?v5C
      ?u6C
      ?v6C
      ?icC
      ?tcC
      ?u0L
      ?v0L
      ?u1L
      ?v1L
      ?u2L
      ?v2L
      ?u3L
      ?v3L
      ?u4L
      ?v4L
      ?u5L
      ?v5L
      ?u6L
      ?v6L
      ?icL
      ?tcL
      ?sCL
      ?sLC
      ?topL
      ?noL
      ?neCL
      ?neLC
      ?c40
      ?c8
      ?cN
      ?zlen
      ?zdivmod
      ?zabs
      ?zmax
      ?zmin
      ?zrange
      ?zenumerate
      ?zisinstance
      ?zstr
      ?zlist
      ?zset
      ?zall
      ?zrepr
      ?zint
      ?zbool
      ?zany
      ?ztuple
    (case af1 => k_is)
    (case lf1 => k_is)
    (case cf1 => k_is)
    (case kf1 => k_is)
    (case af2 => k_is)
    (case lf2 => k_is)
    (case cf2 => k_is)
    (case kf2 => k_is)
    (case af3 => k_is)
    (case lf3 => k_is)
    (case cf3 => k_is)
    (case kf3 => k_is)
    (case af4 => k_is)
    (case lf4 => k_is)
    (case cf4 => k_is)
    (case kf4 => k_is)
    (case af5 => k_is)
    (case lf5 => k_is)
    (case cf5 => k_is)
    (case kf5 => k_is)
    (case af6 => k_is)
    (case lf6 => k_is)
    (case cf6 => k_is)
    (case kf6 => k_is)
    (case af7 => k_is)
    (case lf7 => k_is)
    (case cf7 => k_is)
    (case kf7 => k_is)
    (case af8 => k_is)
    (case lf8 => k_is)
    (case cf8 => k_is)
    (case kf8 => k_is)
    (case af9 => k_is)
    (case lf9 => k_is)
    (case cf9 => k_is)
    (case kf9 => k_is)
    (case af10 => k_is)
    (case lf10 => k_is)
    (case cf10 => k_is)
    (case kf10 => k_is)
    (case af11 => k_is)
    (case lf11 => k_is)
    (case cf11 => k_is)
    (case kf11 => k_is)
    (case af12 => k_is)
    (case lf12 => k_is)
    (case cf12 => k_is)
    (case kf12 => k_is)
    (case af13 => k_is)
    (case lf13 => k_is)
    (case cf13 => k_is)
    (case kf13 => k_is)
    (case af14 => k_is)
    (case lf14 => k_is)
    (case cf14 => k_is)
    (case kf14 => k_is)
    (case af15 => k_is)
    (case lf15 => k_is)
    (case cf15 => k_is)
    (case kf15 => k_is)
    (case af16 => k_is)
    (case lf16 => k_is)
    (case cf16 => k_is)
    (case kf16 => k_is)
    (case af17 => k_is)
    (case lf17 => k_is)
    (case cf17 => k_is)
    (case kf17 => k_is)
    (case af18 => k_is)
    (case lf18 => k_is)
    (case cf18 => k_is)
    (case kf18 => k_is)
    (case af19 => k_is)
    (case lf19 => k_is)
    (case cf19 => k_is)
    (case kf19 => k_is)
    (case af20 => k_is)
    (case lf20 => k_is)
    (case cf20 => k_is)
    (case kf20 => k_is)
    (case af21 => k_is)
    (case lf21 => k_is)
    (case cf21 => k_is)
    (case kf21 => k_is)
    (case af22 => k_is)
    (case lf22 => k_is)
    (case cf22 => k_is)
    (case kf22 => k_is)
    (case af23 => k_is)
    (case lf23 => k_is)
    (case cf23 => k_is)
    (case kf23 => k_is)
    (case af24 => k_is)
    (case lf24 => k_is)
    (case cf24 => k_is)
    (case kf24 => k_is)
    (case af25 => k_is)
    (case lf25 => k_is)
    (case cf25 => k_is)
    (case kf25 => k_is)
    (case af26 => k_is)
    (case lf26 => k_is)
    (case cf26 => k_is)
    (case kf26 => k_is)
    (case af27 => k_is)
    (case lf27 => k_is)
    (case cf27 => k_is)
    (case kf27 => k_is)
    (case af28 => k_is)
    (case lf28 => k_is)
    (case cf28 => k_is)
    (case kf28 => k_is)
    (case af29 => k_is)
    (case lf29 => k_is)
    (case cf29 => k_is)
    (case kf29 => k_is)
    (case af30 => k_is)
    (case lf30 => k_is)
    (case cf30 => k_is)
    (case kf30 => k_is)
    (case af31 => k_is)
    (case lf31 => k_is)
    (case cf31 => k_is)
    (case kf31 => k_is)
    (case af32 => k_is)
    (case lf32 => k_is)
    (case cf32 => k_is)
    (case kf32 => k_is)
    (case af33 => k_is)
    (case lf33 => k_is)
    (case cf33 => k_is)
    (case kf33 => k_is)
    (case af34 => k_is)
    (case lf34 => k_is)
    (case cf34 => k_is)
    (case kf34 => k_is)
    (case aC => k_is)
    (case aL => k_is)
    (case am1 => k_is)
    (case im1 => k_is)
    (case lm1 => k_is)
    (case cm1 => k_is)
    (case km1 => k_is)
    (case am2 => k_is)
    (case im2 => k_is)
    (case lm2 => k_is)
    (case cm2 => k_is)
    (case km2 => k_is)
    (case am3 => k_is)
    (case im3 => k_is)
    (case lm3 => k_is)
    (case cm3 => k_is)
    (case km3 => k_is)
    (case am4 => k_is)
    (case im4 => k_is)
    (case lm4 => k_is)
    (case cm4 => k_is)
    (case km4 => k_is)
    (case am5 => k_is)
    (case im5 => k_is)
    (case lm5 => k_is)
    (case cm5 => k_is)
    (case km5 => k_is)
    (case am6 => k_is)
    (case im6 => k_is)
    (case lm6 => k_is)
    (case cm6 => k_is)
    (case km6 => k_is)
    (case am7 => k_is)
    (case im7 => k_is)
    (case lm7 => k_is)
    (case cm7 => k_is)
    (case km7 => k_is)
    (case am8 => k_is)
    (case im8 => k_is)
    (case lm8 => k_is)
    (case cm8 => k_is)
    (case km8 => k_is)
    (case am9 => k_is)
    (case im9 => k_is)
    (case lm9 => k_is)
    (case cm9 => k_is)
    (case km9 => k_is)
    (case am10 => k_is)
    (case im10 => k_is)
    (case lm10 => k_is)
    (case cm10 => k_is)
    (case km10 => k_is)
    (case am11 => k_is)
    (case im11 => k_is)
    (case lm11 => k_is)
    (case cm11 => k_is)
    (case km11 => k_is)
    (case am12 => k_is)
    (case im12 => k_is)
    (case lm12 => k_is)
    (case cm12 => k_is)
    (case km12 => k_is)
    (case am13 => k_is)
    (case im13 => k_is)
    (case lm13 => k_is)
    (case wm13 => k_is)
    (case cm13 => k_is)
    (case km13 => k_is)
    (case am14 => k_is)
    (case im14 => k_is)
    (case lm14 => k_is)
    (case cm14 => k_is)
    (case km14 => k_is)
    (case am15 => k_is)
    (case im15 => k_is)
    (case lm15 => k_is)
    (case cm15 => k_is)
    (case km15 => k_is)
    (case am16 => k_is)
    (case im16 => k_is)
    (case lm16 => k_is)
    (case cm16 => k_is)
    (case km16 => k_is)
    (case am17 => k_is)
    (case im17 => k_is)
    (case lm17 => k_is)
    (case cm17 => k_is)
    (case km17 => k_is)
    (case am18 => k_is)
    (case im18 => k_is)
    (case lm18 => k_is)
    (case cm18 => k_is)
    (case km18 => k_is)
    (case am19 => k_is)
    (case im19 => k_is)
    (case lm19 => k_is)
    (case cm19 => k_is)
    (case km19 => k_is)
    (case am20 => k_is)
    (case im20 => k_is)
    (case lm20 => k_is)
    (case cm20 => k_is)
    (case km20 => k_is)
    (case am21 => k_is)
    (case im21 => k_is)
    (case lm21 => k_is)
    (case cm21 => k_is)
    (case km21 => k_is)
    (case am22 => k_is)
    (case im22 => k_is)
    (case lm22 => k_is)
    (case cm22 => k_is)
    (case km22 => k_is)
    (case am23 => k_is)
    (case im23 => k_is)
    (case lm23 => k_is)
    (case cm23 => k_is)
    (case km23 => k_is)
    (case am24 => k_is)
    (case im24 => k_is)
    (case lm24 => k_is)
    (case cm24 => k_is)
    (case km24 => k_is)
    (case hn => k_is)
    (case htk => k_is)
    (case pgC => k_is)
    (case hdC => k_is)
    (case poC => k_is)
    (case saC => k_is)
    (case haC => k_is)
    (case hmC => k_is)
    (case mkC => k_is)
    (case kcC => k_is)
    (case n0C => k_is)
    (case n1C => k_is)
    (case pgL => k_is)
    (case hdL => k_is)
    (case poL => k_is)
    (case saL => k_is)
    (case haL => k_is)
    (case hmL => k_is)
    (case mkL => k_is)
    (case kcL => k_is)
    (case n0L => k_is)
    (case n1L => k_is)
    (case n2L => k_is)
    (case u0C => k_is)
    (case v0C => k_is)
    (case u1C => k_is)
    (case v1C => k_is)
    (case u2C => k_is)
    (case v2C => k_is)
    (case u3C => k_is)
    (case v3C => k_is)
    (case u4C => k_is)
    (case v4C => k_is)
    (case u5C => k_is)
    (case v5C => k_is)
    (case u6C => k_is)
    (case v6C => k_is)
    (case icC => k_is)
    (case tcC => k_is)
    (case u0L => k_is)
    (case v0L => k_is)
    (case u1L => k_is)
    (case v1L => k_is)
    (case u2L => k_is)
    (case v2L => k_is)
    (case u3L => k_is)
    (case v3L => k_is)
    (case u4L => k_is)
    (case v4L => k_is)
    (case u5L => k_is)
    (case v5L => k_is)
    (case u6L => k_is)
    (case v6L => k_is)
    (case icL => k_is)
    (case tcL => k_is)
    (case sCL => k_is)
    (case sLC => k_is)
    (case topL => k_is)
    (case noL => k_is)
    (case neCL => first | rfl | decide | k_is)
    (case neLC => first | rfl | decide | k_is)
    (case c40 => k_is)
    (case c8 => k_is)
    (case cN => k_is)
    (case zlen => k_is)
    (case zdivmod => k_is)
    (case zabs => k_is)
    (case zmax => k_is)
    (case zmin => k_is)
    (case zrange => k_is)
    (case zenumerate => k_is)
    (case zisinstance => k_is)
    (case zstr => k_is)
    (case zlist => k_is)
    (case zset => k_is)
    (case zall => k_is)
    (case zrepr => k_is)
    (case zint => k_is)
    (case zbool => k_is)
    (case zany => k_is)
    (case ztuple => k_is)
