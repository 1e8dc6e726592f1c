import PyProof.Rows.All
import Wide.All
import OpenK.AllK
import Wide.FinOn
import HandS.ForMost
import HandS.Codes
import HandS.FStr
import HandS.Walk
import HandS.FStrTup
import HandS.DictComp
import KE.KDictPairs
import HandS.IsInst
import HandS.SetKeys
import HandS.Exc
import HandS.Style
import HandS.Deep
import HandS.Star
import HandS.Conv
import PySem.Challenge.RW_ordermerge_k56_arcs_within
set_option Elab.async false
set_option linter.all false
set_option maxRecDepth 100000
set_option maxHeartbeats 8000000
/-! a def's promise where no repr is under way -/
namespace OM
open PySem PySem.Spec PyProof.Rows L2

/-- FnOk, for callers around whom nothing is being shown -/
structure FnG (P : Program) (w : World) (K : PySem.W.Frag)
    (mg : Str → Option Value) (base : Heap) (CX : CXT)
    (k : Nat) (f : Addr) (fd : FuncData) (ps : List Str) (sp : Sp) : Prop where
  len : ∀ vs H Q E, sp vs H Q E → vs.length = ps.length
  run : ∀ (A : Around) (outer : List Env) (s : Shared) (H : Hp)
      (args : Args) (us : List Value) (vs : List V) (Q : VK) (E : XK),
    Room k A → A.guards = some [] →
    Env0 P w K mg base A outer s H →
    BindsTo s fd args (ps.zip us) → Vals vs us → sp vs H Q E →
    codeAny (model P w) A (.call (.ref f) args)
      (CR CX outer P w H s Q E) s

section
variable {P : Program} {w : World} {K : PySem.W.Frag}
  {mg : Str → Option Value} {base : Heap} {CX : CXT}
theorem FnG.ofOk {k : Nat} {f : Addr} {fd : FuncData} {ps : List Str} {sp : Sp}
    (F : FnOk P w K mg base CX k f fd ps sp) :
    FnG P w K mg base CX k f fd ps sp :=
  ⟨F.len, fun A o s H ar us vs Q E r _ e b v z =>
    F.run A o s H ar us vs Q E r e b v z⟩

theorem FnG.mk' {k : Nat} {f : Addr} {nm qual : Str} {pr : Arguments}
    {bd : List Stmt} {sc : Scope} {dV kV dc pm cv ct oc : Value}
    {an od : Option Addr} {sl : Array (Option Value)} {N ps : List Str} {sp : Sp}
    (lk : K.lookup f = some ⟨oc, od,
      .func (PySem.W.fnOf nm qual pr bd sc dV kV dc pm an cv ct), sl⟩)
    (hc : PySem.W.codeIn K cv qual = true) (S : FnScope N ps sc)
    (len : ∀ vs H Q E, sp vs H Q E → vs.length = ps.length)
    (body : ∀ (A : Around) (outer : List Env) (s : Shared) (H : Hp)
        (vs : List V) (Q : VK) (E : XK),
      Room k (A.deeper (envOfC qual sc s.heap.objs.size f cv)) →
      A.guards = some [] → sp vs H Q E →
      ∃ t, PSs (cxOf CX P w K mg base N qual sc f cv A outer s H E) bd t ∧
        t { nx := fun _ H' => Q .non H', rt := Q } (start N vs) H) :
    FnG P w K mg base CX (k + 1) f
      (PySem.W.fnOf nm qual pr bd sc dV kV dc pm an cv ct) ps sp := by
  refine ⟨len, ?_⟩
  intro A outer s H args us vs Q E room gd env bnd rel hsp
  have kin : K.In s.heap :=
    env.mod.kin.keeps fun b o q => (env.bs b o q).1
  have nol : s.heap.NoLimit :=
    env.mod.nolimit.keeps fun b o q => (env.bs b o q).1
  have kinds : ∀ y ∈ ps.zip us, sc.names.lookup y.1 = some .local ∨
      (sc.names.lookup y.1 = some .cell ∧
        ((cellsFrom (s.heap.objs.size + 1) sc.names []).lookup y.1).isSome
          = true) := by
    rintro ⟨n, v⟩ hy
    cases S.par n (List.of_mem_zip hy).1 with
    | inl q => exact Or.inl q
    | inr q => exact Or.inr ⟨q, PySem.W.cellsFrom_some _ _ _ (.inl q)⟩
  refine codeAny_call_function room.depth (kin _ _ lk) rfl S.co S.gen rfl
    (PySem.W.codeRec_of kin hc) (bnd _ _ _ _ ?_)
  refine wpAny_newFunctionEnv_cells S.kind kinds ?_
  intro env' he s1 x
  subst he
  refine ⟨nol.keeps x.toInCall.keep, codeAny_func ?_⟩
  obtain ⟨t, ht, hq⟩ := body A outer s H vs Q E (room.deeper _) gd hsp
  have I := inv_start (CX := CX) (E := E) S room.hd env
    (len _ _ _ _ hsp) rel x
  refine wpAny_mono (ht.run [] s1 (start N vs) H _ I hq) ?_
    (fun e s' z => z)
  intro fl s' hs
  cases fl with
  | ret u =>
    obtain ⟨v, σ', H', J, rv, q⟩ := hs
    exact ⟨v, H', J.os, J.bare, J.base, J.hok, rv, q⟩
  | next =>
    obtain ⟨σ', H', J, q⟩ := hs
    exact ⟨V.non, H', J.os, J.bare, J.base, J.hok, rfl, q⟩
  | brk => exact (hs.choose_spec.choose_spec.2 : False).elim
  | cont => exact (hs.choose_spec.choose_spec.2 : False).elim

/-- a def of the text, by its body -/
theorem okG {x qual : Str} {st : Stmt} {f : Addr} {fd : FuncData}
    {N ps : List Str} {k : Nat} {sp : Sp} (F : Fun K x qual st f fd)
    (S : FnScope N ps (defScope st))
    (len : ∀ vs H Q E, sp vs H Q E → vs.length = ps.length)
    (body : ∀ (cv : Value) (A : Around) (outer : List Env) (s : Shared)
        (H : Hp) (vs : List V) (Q : VK) (E : XK),
      Room k (A.deeper (envOfC qual (defScope st) s.heap.objs.size f cv)) →
      A.guards = some [] → sp vs H Q E →
      ∃ t, PSs (cxOf CX0 P w K mg base N qual (defScope st) f cv A
          outer s H E).nox (defBody st) t ∧
        t { nx := fun _ H' => Q .non H', rt := Q } (start N vs) H) :
    FnG P w K mg base CX0 (k + 1) f fd ps sp := by
  obtain ⟨oc, od, kV, dc, pm, an, cv, ct, sl, rfl, lk, hc⟩ := F.ex
  refine FnG.mk' lk hc S len ?_
  intro A outer s H vs Q E room gd hsp
  obtain ⟨t, h, q⟩ := body cv A outer s H vs Q E room gd hsp
  exact ⟨t, h.nox, q⟩
end

section
variable {X : Cx} {CX : CXT} {k : Nat} {f : Addr} {fd : FuncData}
  {ps : List Str} {sp : Sp} {dvs : List V} {ds : List Value} {E : XK}
theorem runG {pins : List (Addr × Obj)} {σ : L2.St} {H : Hp} {s : Shared}
    {Q : VK} {us : List Value} {vs : List V}
    (F : FnG X.prog X.w X.K X.mg X.base CX k f fd ps sp)
    (room : Room k X.A) (gd : X.A.guards = some [])
    (hb : Binds X.K fd ps ds) (hd : Vals dvs ds) (hx : Passes CX X E)
    (I : Inv X pins σ H s) (r : Vals vs us) (h : sp (vs ++ dvs) H Q E) :
    wpAny (model X.prog X.w) X.A (call (.ref f) us) (EP X pins σ Q) X.xe s := by
  have rr := r.append hd
  have hl : (us ++ ds).length = ps.length :=
    rr.length.symm.trans (F.len _ _ _ _ h)
  refine wpAny_call (codeAny_mono (F.run X.A X.stack s H ⟨us, []⟩ (us ++ ds)
    (vs ++ dvs) Q E room gd I.env0 (hb s us I.kIn hl) rr h) ?_)
  intro r s' hq
  match r, hq with
  | .error e, hq => exact hx pins σ H s e s' I hq
  | .ok (.ret u), hq => exact I.after hq
  | .ok .next, hq => exact False.elim hq
  | .ok .brk, hq => exact False.elim hq
  | .ok .cont, hq => exact False.elim hq

theorem pe_callG {x : Str} {p pos : Pos} {e : Expr} {es : List Expr} {t : TA}
    (F : FnG X.prog X.w X.K X.mg X.base CX k f fd ps sp)
    (room : Room k X.A) (gd : X.A.guards = some []) (hg : Gl X x)
    (hm : X.mg x = some (.ref f)) (hk : PySem.W.keepIn X.K (.ref f) = true)
    (hb : Binds X.K fd ps ds) (hd : Vals dvs ds) (hx : Passes CX X E)
    (ha : PA X (e :: es) t)
    (h1 : (x == ("__debug__" : Str)) = false := by decide)
    (h2 : starEach (e :: es) X.env =
      (false, eval e X.env) :: starEach es X.env := by rfl)
    (h3 : (backTo pos (starEach es X.env)).any (·.1) = false := by rfl) :
    PE X (.Call (.Name x p) (e :: es) [] pos) (tCall sp dvs E t) := by
  constructor
  intro pins s σ H Q I h
  refine wpAny_Call_Name_kw (ld_glob I hg hm ?_ h1)
  refine PySem.W.callWith_K (h₀ := X.base) I.ok.mod.kin hk
    (thn (ha.run pos pins s σ H _ I h) ?_) h2 h3
  rintro us s1 ⟨vs, H1, I1, r, q⟩
  exact ⟨I1.kIn, runG F room gd hb hd hx I1 r q⟩
end

/-! ### repr of data -/
section
variable {X : Cx}
theorem DpAll.noDict : ∀ {K : PySem.W.Frag} {H : Hp} (ds : List PyData)
    {vs : List V}, (∀ d ∈ ds, ∀ v, Dp K H v d → d.hasDict = false) →
    DpAll K H vs ds → PyData.hasDictAll ds = false
  | _, _, [], _, _, _ => by simp only [PyData.hasDictAll]
  | _, _, d :: ds, _, f, h => by
    cases h with
    | cons h1 h2 =>
      simp only [PyData.hasDictAll]
      rw [f d List.mem_cons_self _ h1,
        DpAll.noDict ds (fun e he => f e (List.mem_cons_of_mem _ he)) h2]
      rfl
mutual
theorem Dp.noDict {K : PySem.W.Frag} {H : Hp} :
    ∀ (d : PyData) {v : V}, Dp K H v d → d.hasDict = false
  | .none, _, _ => by simp only [PyData.hasDict]
  | .bool _, _, _ => by simp only [PyData.hasDict]
  | .int _, _, _ => by simp only [PyData.hasDict]
  | .str _, _, _ => by simp only [PyData.hasDict]
  | .list ds, _, h => by
    cases h with
    | lst _ h => simp only [PyData.hasDict]; exact Dp.noDicts ds h
  | .tuple ds, _, h => by
    cases h with
    | tup _ h => simp only [PyData.hasDict]; exact Dp.noDicts ds h
  | .dict _, _, h => by cases h
theorem Dp.noDicts {K : PySem.W.Frag} {H : Hp} :
    ∀ (ds : List PyData) {vs : List V}, DpAll K H vs ds →
      PyData.hasDictAll ds = false
  | [], _, _ => by simp only [PyData.hasDictAll]
  | d :: ds, _, h => by
    cases h with
    | cons h1 h2 =>
      simp only [PyData.hasDictAll]
      rw [Dp.noDict d h1, Dp.noDicts ds h2]
      rfl
end
/-- repr(x) of data without dicts -/
def rRepr (K : PySem.W.Frag) : List V → Hp → VK → Prop := fun xs H Q =>
  ∃ v d, xs = [v] ∧ Dp K H v d ∧ d.showable = true ∧ d.depth ≤ 60 ∧
    d.shown.length ≤ sizeLine ∧ Q (.str d.shown) H
theorem call_reprD {k : Nat} (room : Room k X.A)
    (gd : X.A.guards = some []) :
    CallR X (.builtin "repr") (rRepr X.K) := by
  intro pins s σ H xs us Q I r h
  obtain ⟨v, d, rfl, hd, sh, dp, sz, q⟩ := h
  cases r with
  | cons rv rn =>
    cases rn
    rename_i u
    obtain ⟨as, rd⟩ := Dp.reads I d v u hd rv
    have un := room.units
    cases hd with
    | non =>
      cases rv
      exact PySem.P.repr_of_none ⟨.str _, H, I.tok _, ⟨_, rfl⟩, q⟩
    | bl b =>
      cases rv
      exact PySem.P.repr_of_bool ⟨.str _, H, I.tok _, ⟨_, rfl⟩, q⟩
    | int i =>
      obtain ⟨t, rfl⟩ := rv
      refine PySem.P.repr_of_int ?_ ⟨.str _, H, I.tok _, ⟨_, rfl⟩, q⟩
      simpa [PyData.showable] using sh
    | str x =>
      obtain ⟨t, rfl⟩ := rv
      exact PySem.P.repr_of_str ⟨.str _, H, I.tok _, ⟨_, rfl⟩, q⟩ sz
    | lst a b =>
      cases rv
      refine repr_of_reads' rd sh (PyData.noDict_hsm
        (Dp.noDict _ (Dp.lst a b))) gd (by omega) (fun _ _ e => e)
        (fun h' u tk hk => ?_) sz
      exact ⟨.str _, H, I.kept hk, ⟨_, rfl⟩, q⟩
    | tup a b =>
      cases rv
      refine repr_of_reads' rd sh (PyData.noDict_hsm
        (Dp.noDict _ (Dp.tup a b))) gd (by omega) (fun _ _ e => e)
        (fun h' u tk hk => ?_) sz
      exact ⟨.str _, H, I.kept hk, ⟨_, rfl⟩, q⟩
end
end OM
namespace OM
open PySem PySem.Spec PyProof.Rows L2

/-- the law's call, nothing being shown around it -/
theorem lawG {P : Program} {w : World} {K : PySem.W.Frag}
    {mg mb : Str → Option Value} {k : Nat} {fa a : Addr} {fd : FuncData}
    {x : Str} {sp : Sp} {s1 : Shared} {vs : List Value} {ns : List Int}
    (kin : K.In s1.heap) (glob : s1.heap.Ns mainGlobals mg)
    (blt : s1.heap.Ns builtinsNs mb)
    (boot : ∀ x : Str, x ≠ "__name__" → mb x = bootBuiltins x)
    (nol : s1.heap.NoLimit) (gens : s1.gens = #[])
    (ha : s1.heap.get? a =
      some { cls := .type "list", data := .seq vs.toArray })
    (hints : IntsAre vs ns) (hl : ns.length ≤ sizeLine)
    (room : Room k callerA)
    (F : ∀ base : Heap, K.In base → base.Ns mainGlobals mg →
      FnG P w K mg base CX0 k fa fd [x] sp)
    (bind : ∀ (s : Shared) (u : Value), BindsTo s fd ⟨[u], []⟩ [(x, u)])
    (hsp : ∀ H : Hp, Only H → SqL K H a (ns.map V.int) →
      sp [.ref a] H (fun v _ => v = .bl true) E0) :
    codeAny (model P w) callerA (.call (.ref fa) ⟨[.ref a], []⟩)
      (fun r s' => r = .ok (.ret (.bool true)) ∧ OldK s1.heap s'.heap ∧
        s'.os = s1.os ∧ AllBare s'.gens) s1 := by
  have rel := vals_ints hints
  have lv := hints.length
  -- H tracks the script alone, or nothing
  suffices core : ∀ H : Hp, Only H → SqL K H a (ns.map V.int) →
      HOk P w H s1.heap → (∀ b, H b ≠ none → b = a) →
      (H a ≠ none → K.lookup a = none) →
      codeAny (model P w) callerA (.call (.ref fa) ⟨[.ref a], []⟩)
        (fun r s' => r = .ok (.ret (.bool true)) ∧ OldK s1.heap s'.heap ∧
          s'.os = s1.os ∧ AllBare s'.gens) s1 by
    by_cases hk : ∃ o, K.lookup a = some o
    · obtain ⟨o, hk⟩ := hk
      have e := kin a o hk
      rw [ha] at e
      cases e
      refine core (fun _ => none) (fun _ => Or.inl rfl) (Or.inr ?_)
        (fun b u z => ?_) (fun b z => absurd rfl z) (fun z => absurd rfl z)
      · exact ⟨_, vs.toArray, _, hk, rfl, rfl, rfl,
          by rw [List.size_toArray, lv]; exact hl, by simpa using rel⟩
      · cases (show (none : Option HO) = some u from z)
    · have hk : K.lookup a = none := by
        cases q : K.lookup a with
        | none => rfl
        | some o => exact absurd ⟨o, q⟩ hk
      let ob : Obj := { cls := .type "list", data := .seq vs.toArray }
      refine core (fun b => if b = a then
          some (.frz ob (.lst (ns.map V.int))) else none)
        (fun b => ?_) (Or.inl (Or.inr ⟨ob, if_pos rfl⟩))
        (fun b u z => ?_) (fun b z => ?_) (fun _ => hk)
      · by_cases hb : b = a
        · exact Or.inr ⟨_, _, if_pos hb⟩
        · exact Or.inl (if_neg hb)
      · by_cases hb : b = a
        · cases (if_pos hb).symm.trans z
          subst hb
          exact ⟨ha, by rw [List.length_map]; exact hl, vs, _, rel, ha⟩
        · cases (if_neg hb).symm.trans z
      · by_cases hb : b = a
        · exact hb
        · exact absurd (if_neg hb) z
  intro H only sq ok alone notK
  have untracked : ∀ {b : Addr} {o : Obj}, s1.heap.get? b = some o →
      (∀ z, o.data ≠ .seq z 0) → H b = none := by
    intro b o e d
    cases q : H b with
    | none => rfl
    | some u =>
      have z : b = a := alone b (by rw [q]; exact nofun)
      subst z
      rw [ha] at e
      cases e
      exact absurd rfl (d _)
  have ns' : ∀ {b : Addr} {m : Str → Option Value}, s1.heap.Ns b m →
      (hidT s1.heap H).Ns b m := by
    rintro b m ⟨o, es, ep, e, d, r⟩
    refine ⟨o, es, ep, hidT_get e (untracked e fun z y => ?_), d, r⟩
    cases d.symm.trans y
  have kin' : K.In (hidT s1.heap H) := by
    intro b o e
    refine hidT_get (kin b o e) ?_
    cases q : H b with
    | none => rfl
    | some u =>
      have z : b = a := alone b (by rw [q]; exact nofun)
      subst z
      rw [notK (by rw [q]; exact nofun)] at e
      cases e
  have md : Mod K mg (hidT s1.heap H) := by
    obtain ⟨mc, h1, h2⟩ := nol
    exact ⟨kin', ns' glob, ⟨mb, ns' blt, boot⟩, ⟨mc, ns' h1, h2⟩⟩
  have env : Env0 P w K mg (hidT s1.heap H) callerA [] s1 H :=
    ⟨rfl, md, fun b o e => of_hidT e, Nat.le_of_eq (hidT_size _ _), trivial,
      fun b hb => (nomatch (show b ∈ ([] : List Addr) from hb)), ok,
      .of_eq gens⟩
  refine codeAny_mono ((F _ kin' (ns' glob)).run callerA [] s1 H ⟨[.ref a], []⟩
    [.ref a] [.ref a] _ _ room rfl env (bind s1 (.ref a)) (.cons rfl .nil)
    (hsp H only sq)) ?_
  intro r s' h
  match r, h with
  | .error e, h => exact False.elim h
  | .ok .next, h => exact False.elim h
  | .ok .brk, h => exact False.elim h
  | .ok .cont, h => exact False.elim h
  | .ok (.ret u), h =>
    obtain ⟨v, H', os, bare, un, ok', rv, q⟩ := h
    cases (show v = .bl true from q)
    cases (show u = Value.bool true from rv)
    refine ⟨rfl, OldK.of_keep fun b o e => ?_, os, bare⟩
    cases q : H b with
    | none =>
      exact un.keep b o e q
        (fun z => nomatch (show b ∈ ([] : List Addr) from z)) (by simp)
    | some u =>
      cases only b with
      | inl z => rw [q] at z; cases z
      | inr z =>
        obtain ⟨ob, xs, z⟩ := z
        have e1 := (ok b _ z).1
        have e2 := (ok' b _ (un.frzs b ob _ z)).1
        rw [e] at e1
        cases e1
        exact e2

/-- what the head leaves, from the law's promise -/
theorem walkG {l : PySem.W.OpenLaw} {n k : Nat} {q : Program} {ls : List Str}
    {XP : (Str → Option Value) → Heap → Prop} {YP : World → Heap → Prop}
    {d : DefRec} {K : Params → PySem.W.Frag} {sp : PySem.W.Frag → Sp} {x : Str}
    (hn : l.most = some n) (hn2 : n ≤ sizeLine)
    (hdf : d.params.defaults = []) (room : Room k callerA)
    (hY : ∀ (w : World) (h : Heap), YP w h → (K w.params).In h)
    (F : ∀ (w : World) (mg : Str → Option Value) (fa : Addr) (h : Heap),
      (K w.params).In h → h.Ns mainGlobals mg → mg d.name = some (.ref fa) →
      ∃ fd : FuncData,
        (∀ (s : Shared) (u : Value), BindsTo s fd ⟨[u], []⟩ [(x, u)]) ∧
        ∀ base : Heap, (K w.params).In base → base.Ns mainGlobals mg →
          FnG l.prog w (K w.params) mg base CX0 k fa fd [x]
            (sp (K w.params)))
    (hsp : ∀ (K : PySem.W.Frag) (H : Hp) (a : Addr) (ns : List Int),
      ns.length ≤ n → Only H → SqL K H a (ns.map V.int) →
      sp K [.ref a] H (fun v _ => v = .bl true) E0) :
    PySem.W.WalkO q ls XP YP l.row.toRowW d []
      (fun f vs => PySem.call f vs) := by
  refine Att.attach_call hn hdf ?_
  intro w s₀ s1 mg mb fa o pm cd doc a vs ns G Y ho hd hcd hmg hobj hi hlen hg
  have KX := hY w _ Y
  obtain ⟨fd, hb, hF⟩ := F w mg fa _ KX G.T.g hmg
  exact lawG KX G.T.g G.T.b G.T.builtins G.T.nolimit hg hobj hi
    (Nat.le_trans hlen hn2) room hF hb
    (fun H hO hS => hsp (K w.params) H a ns hlen hO hS)
end OM
namespace OM
open PySem PySem.Spec PyProof.Rows L2

/-! ### a callee, in one word -/
structure Cal (P : Program) (w : World) (K : PySem.W.Frag)
    (mg : Str → Option Value) (base : Heap) (k : Nat) (x : Str)
    (ps : List Str) (sp : Sp) : Prop where
  ex : ∃ f fd, FnOk P w K mg base CX0 k f fd ps sp ∧
    mg x = some (.ref f) ∧ PySem.W.keepIn K (.ref f) = true ∧
    Binds K fd ps []
structure CalG (P : Program) (w : World) (K : PySem.W.Frag)
    (mg : Str → Option Value) (base : Heap) (k : Nat) (x : Str)
    (ps : List Str) (sp : Sp) : Prop where
  ex : ∃ f fd, FnG P w K mg base CX0 k f fd ps sp ∧
    mg x = some (.ref f) ∧ PySem.W.keepIn K (.ref f) = true ∧
    Binds K fd ps []
section
variable {X : Cx} {k : Nat} {ps : List Str} {sp : Sp} {x : Str}
  {p pos : Pos} {e : Expr} {es : List Expr} {t : TA}
theorem pe_cal (C : Cal X.prog X.w X.K X.mg X.base k x ps sp)
    (room : Room k X.A) (ha : PA X (e :: es) t)
    (hg : Gl X x := by rfl)
    (h1 : (x == ("__debug__" : Str)) = false := by decide)
    (h2 : starEach (e :: es) X.env =
      (false, eval e X.env) :: starEach es X.env := by rfl)
    (h3 : (backTo pos (starEach es X.env)).any (·.1) = false := by rfl) :
    PE X (.Call (.Name x p) (e :: es) [] pos) (tCall sp [] E0 t) := by
  obtain ⟨f, fd, F, m, kp, b⟩ := C.ex
  exact pe_call F room hg m kp b .nil pass0 ha h1 h2 h3
theorem pe_calG (C : CalG X.prog X.w X.K X.mg X.base k x ps sp)
    (room : Room k X.A) (gd : X.A.guards = some [])
    (ha : PA X (e :: es) t)
    (hg : Gl X x := by rfl)
    (h1 : (x == ("__debug__" : Str)) = false := by decide)
    (h2 : starEach (e :: es) X.env =
      (false, eval e X.env) :: starEach es X.env := by rfl)
    (h3 : (backTo pos (starEach es X.env)).any (·.1) = false := by rfl) :
    PE X (.Call (.Name x p) (e :: es) [] pos) (tCall sp [] E0 t) := by
  obtain ⟨f, fd, F, m, kp, b⟩ := C.ex
  exact pe_callG F room gd hg m kp b .nil pass0 ha h1 h2 h3
end

/-! ### heaps: what may have changed -/
/-- all but p is as it was -/
def But (p : Addr) (H H' : Hp) : Prop :=
  ∀ q o, H q = some o → q ≠ p → H' q = some o
theorem But.refl {p : Addr} (H : Hp) : But p H H := fun _ _ h _ => h
theorem But.trans {p : Addr} {H H1 H2 : Hp} (a : But p H H1)
    (b : But p H1 H2) : But p H H2 :=
  fun q o h n => b q o (a q o h n) n
theorem But.of {p : Addr} {H H' : Hp} (a : Same H H') : But p H H' :=
  fun q o h _ => a q o h
theorem But.new {p q : Addr} {o : HO} {H H' : Hp} (a : But p H H')
    (n : H q = none) : But p H (upd H' q o) := fun b u h nb => by
  rw [upd_ne (ne_of_none h n)]
  exact a b u h nb
theorem But.at {p : Addr} {o : HO} {H H' : Hp} (a : But p H H') :
    But p H (upd H' p o) := fun b u h nb => by
  rw [upd_ne nb]
  exact a b u h nb
theorem But.same {p : Addr} {H H' : Hp} (a : But p H H')
    (n : H p = none) : Same H H' := fun q o h =>
  a q o h (ne_of_none h n)
theorem sameNew {H : Hp} {p : Addr} {o : HO} (h : H p = none) :
    Same H (upd H p o) := fun b x e => by
  rw [upd_ne (ne_of_none e h)]
  exact e
theorem Same.put {H H' : Hp} {p : Addr} {o : HO} (a : Same H H')
    (h : H p = none) : Same H (upd H' p o) := fun b x e => by
  rw [upd_ne (ne_of_none e h)]
  exact a b x e
theorem But.free {p q : Addr} {H H' : Hp} (a : But p H H') (n : q ≠ p)
    (h : H' q = none) : H q = none := by
  cases e : H q with
  | none => rfl
  | some o => rw [a q o e n] at h; cases h
theorem But.seq {K : PySem.W.Frag} {p a : Addr} {H H' : Hp} {xs : List V}
    (b : But p H H') (h : SqL K H a xs) (n : a ≠ p) : SqL K H' a xs := by
  rcases h with (h | ⟨o, h⟩) | h
  · exact .inl (.inl (b _ _ h n))
  · exact .inl (.inr ⟨o, b _ _ h n⟩)
  · exact .inr h

/-! ### the built-ins' names -/
structure Bl (mg : Str → Option Value) : Prop where
  len : mg "len" = none
  divmod : mg "divmod" = none
  abs : mg "abs" = none
  max : mg "max" = none
  min : mg "min" = none
  range : mg "range" = none
  enum : mg "enumerate" = none
  isi : mg "isinstance" = none
  str : mg "str" = none
  list : mg "list" = none
  set : mg "set" = none
  all : mg "all" = none
  repr : mg "repr" = none
theorem bt_divmod : bootBuiltins "divmod" = some (.builtin "divmod") := by
  decide +kernel
theorem bt_abs : bootBuiltins "abs" = some (.builtin "abs") := by
  decide +kernel
theorem bt_max : bootBuiltins "max" = some (.builtin "max") := by
  decide +kernel
theorem bt_min : bootBuiltins "min" = some (.builtin "min") := by
  decide +kernel
theorem bt_isi : bootBuiltins "isinstance" = some (.builtin "isinstance") := by
  decide +kernel
theorem bt_str : bootBuiltins "str" = some (.type "str") := by
  decide +kernel
theorem bt_list : bootBuiltins "list" = some (.type "list") := by
  decide +kernel
theorem bt_set : bootBuiltins "set" = some (.type "set") := by
  decide +kernel
theorem bt_all : bootBuiltins "all" = some (.builtin "all") := by
  decide +kernel
theorem bt_repr : bootBuiltins "repr" = some (.builtin "repr") := by
  decide +kernel

/-! ### the drawing state -/
def Rng (H : Hp) (p : Addr) : Prop :=
  ∃ a b : Int, H p = some (.lst [.int a, .int b]) ∧ 0 ≤ a ∧ 0 ≤ b ∧
    b < 2147483647
theorem Rng.but {H H' : Hp} {p q : Addr} (r : Rng H p) (b : But q H H')
    (n : p ≠ q) : Rng H' p := by
  obtain ⟨x, y, e, z⟩ := r
  exact ⟨x, y, b _ _ e n, z⟩
theorem Rng.same {H H' : Hp} {p : Addr} (r : Rng H p) (b : Same H H') :
    Rng H' p := by
  obtain ⟨x, y, e, z⟩ := r
  exact ⟨x, y, b _ _ e, z⟩
theorem Rng.ne {H : Hp} {p q : Addr} (r : Rng H p) (n : H q = none) :
    p ≠ q := by
  obtain ⟨x, y, e, z⟩ := r
  exact ne_of_none e n

/-- a draw below m: some number, the state moved on -/
def spDraw : Sp := fun vs H Q _ => ∃ (p : Addr) (m : Int),
  vs = [.ref p, .int m] ∧ Rng H p ∧ 0 < m ∧ m < 1000000 ∧
  ∀ (d : Int) (H' : Hp), 0 ≤ d → d < m → Rng H' p → But p H H' →
    Q (.int d) H'
/-- a new drawing state -/
def spRng (K : PySem.W.Frag) : Sp := fun vs H Q _ =>
  ∃ (a : Addr) (ns : List Int) (k : Nat), vs = [.ref a, .int k] ∧
  SqL K H a (ns.map V.int) ∧ k ≤ 1000 ∧
  ∀ (p : Addr) (H' : Hp), H p = none → Rng H' p → Same H H' →
    Q (.ref p) H'
end OM
/-! names as lists of codes -/
namespace OM
open PySem L2

/-- one to eight letters from a to z -/
structure Nm (l : List Nat) : Prop where
  lo : 1 ≤ l.length
  hi : l.length ≤ 8
  az : ∀ c ∈ l, 97 ≤ c ∧ c ≤ 122
abbrev vS (l : List Nat) : V := .str (SX.S l)
theorem vS_inj {a b : List Nat} (h : vS a = vS b) : a = b :=
  SX.S_inj (V.str.inj h)

theorem nodup_le {α : Type} [BEq α] [LawfulBEq α] : ∀ {l m : List α},
    l.Nodup → (∀ x ∈ l, x ∈ m) → l.length ≤ m.length
  | [], _, _, _ => Nat.zero_le _
  | x :: l, m, nd, h => by
    have hx : x ∈ m := h x List.mem_cons_self
    have nd' := List.nodup_cons.mp nd
    have r : l.length ≤ (m.erase x).length := by
      refine nodup_le nd'.2 fun y hy => ?_
      have ne : y ≠ x := fun e => nd'.1 (e ▸ hy)
      exact (List.mem_erase_of_ne ne).mpr (h y (List.mem_cons_of_mem _ hy))
    rw [List.length_erase_of_mem hx] at r
    have : 0 < m.length := List.length_pos_of_mem hx
    rw [List.length_cons]
    omega

/-- the k-th name to fall back upon -/
def frs6 (l : List Nat) (k : Nat) : List Nat :=
  l.take 6 ++ [97 + k / 26, 97 + k % 26]
theorem frs6_inj {l : List Nat} {j k : Nat} (h : frs6 l j = frs6 l k) :
    j = k := by
  have e := List.append_cancel_left h
  injection e with e1 e2
  injection e2 with e2 _
  omega
theorem Nm.frs {l : List Nat} (n : Nm l) {k : Nat} (hk : k < 676) :
    Nm (frs6 l k) := by
  unfold frs6
  refine ⟨?_, ?_, ?_⟩
  · simp
  · rw [List.length_append, List.length_take]
    show min 6 l.length + 2 ≤ 8
    omega
  · intro c hc
    rcases List.mem_append.mp hc with h | h
    · exact n.az c (List.mem_of_mem_take h)
    · rcases List.mem_cons.mp h with h | h
      · omega
      · rcases List.mem_cons.mp h with h | h
        · omega
        · cases h
def fresh (l : List Nat) : List (List Nat) :=
  l :: (List.range 676).map (frs6 l)
theorem fresh_nm {l : List Nat} (n : Nm l) : ∀ x ∈ fresh l, Nm x := by
  intro x hx
  rcases List.mem_cons.mp hx with h | h
  · rw [h]; exact n
  · obtain ⟨k, hk, rfl⟩ := List.mem_map.mp h
    exact n.frs (List.mem_range.mp hk)
theorem nodup_map {α β : Type} {f : α → β} (hf : ∀ a b, f a = f b → a = b) :
    ∀ {l : List α}, l.Nodup → (l.map f).Nodup
  | [], _ => List.nodup_nil
  | x :: l, h => by
    have h' := List.nodup_cons.mp h
    rw [List.map_cons]
    refine List.nodup_cons.mpr ⟨fun m => ?_, nodup_map hf h'.2⟩
    obtain ⟨y, hy, e⟩ := List.mem_map.mp m
    exact h'.1 (hf _ _ e ▸ hy)
theorem fresh_some {l : List Nat} {us : List (List Nat)}
    (h : us.length < 676) :
    ∃ x r, (fresh l).filter (fun y => decide (y ∉ us)) = x :: r := by
  cases e : (fresh l).filter (fun y => decide (y ∉ us)) with
  | cons x r => exact ⟨x, r, rfl⟩
  | nil =>
    exfalso
    have all : ∀ x ∈ (List.range 676).map (frs6 l), x ∈ us := by
      intro x hx
      apply Classical.byContradiction
      intro nx
      have : x ∈ (fresh l).filter (fun y => decide (y ∉ us)) :=
        List.mem_filter.mpr ⟨List.mem_cons_of_mem _ hx, decide_eq_true nx⟩
      rw [e] at this
      cases this
    have le := nodup_le (nodup_map (fun a b => frs6_inj (l := l))
      List.nodup_range) all
    rw [List.length_map, List.length_range] at le
    omega
theorem inV_S (x : List Nat) : ∀ us : List (List Nat),
    inV (vS x) (us.map vS) = decide (x ∈ us)
  | [] => by simp [inV]
  | u :: us => by
    have ih := inV_S x us
    unfold inV at ih ⊢
    rw [List.map_cons, List.any_cons, ih]
    by_cases e : u = x
    · subst e
      simp [eqV]
    · have ne : ¬ x = u := fun z => e z.symm
      have : eqV (vS u) (vS x) = false := by
        unfold eqV
        simp
        intro z
        exact e z
      rw [this]
      simp [ne]
theorem flat_S (us : List (List Nat)) : (us.map vS).all flatV = true := by
  rw [List.all_eq_true]
  intro v hv
  obtain ⟨l, _, rfl⟩ := List.mem_map.mp hv
  rfl
end OM
namespace OM
open PySem PySem.Spec PyProof.Rows L2
/-- an expression, with a word behind it -/
def tMid (t : TE) : TE := fun σ H Q =>
  ∃ M : V → Hp → Prop, t σ H M ∧ ∀ v H', M v H' → Q v H'
theorem pe_mid {X : Cx} {e : Expr} {t : TE} (h : PE X e t) :
    PE X e (tMid t) := by
  constructor
  intro pins s σ H Q I q
  obtain ⟨M, m, k⟩ := q
  refine thn (h.run pins s σ H M I m) ?_
  rintro u s1 ⟨v, H1, I1, r, z⟩
  exact ⟨v, H1, I1, r, k v H1 z⟩
def tMidT (t : TT) : TT := fun σ H Q =>
  ∃ M : Bool → Hp → Prop, t σ H M ∧ ∀ v H', M v H' → Q v H'
theorem pt_mid {X : Cx} {e : Expr} {t : TT} (h : PT X e t) :
    PT X e (tMidT t) := by
  constructor
  intro pins s σ H Q I q
  obtain ⟨M, m, k⟩ := q
  refine thn (h.run pins s σ H M I m) ?_
  rintro u s1 ⟨H1, I1, z⟩
  exact ⟨H1, I1, k u H1 z⟩
theorem But.put {p t : Addr} {o : HO} {H H1 : Hp} (a : But p H H1)
    (n : H1 t = none) (ne : t ≠ p) : But p H (upd H1 t o) :=
  a.new (a.free ne n)
/-- len of a list or tuple, the written part a letter -/
def rLenK (K : PySem.W.Frag) : List V → Hp → VK → Prop := fun xs H Q =>
  ∃ p ys, xs = [.ref p] ∧ (SqL K H p ys ∨ SqT K H p ys) ∧
    Q (.int ys.length) H
theorem call_lenK {X : Cx} : CallR X (.builtin "len") (rLenK X.K) :=
  call_len_seq
theorem sz {n : Nat} (h : n ≤ 100000) : n ≤ sizeLine :=
  Nat.le_trans h (by decide)
theorem sz' {n : Nat} (h : n < 100000) : n < sizeLine :=
  Nat.lt_of_lt_of_le h (by decide)
end OM
namespace OM
open PySem PySem.Spec PyProof.Rows L2
section
variable {X : Cx} {n : Nat} {f C : Addr} {fd : FuncData} {ps : List Str}
  {sp : Sp}
/-- a def runs at another depth of the same frame -/
theorem runAt {A : Around} {pins : List (Addr × Obj)} {σ : L2.St} {H : Hp}
    {s : Shared} {Q : VK} {us : List Value} {vs : List V}
    (F : FnG X.prog X.w X.K X.mg X.base CX0 n f fd ps sp)
    (room : Room n A) (gd : A.guards = some []) (fr : A.frames = X.A.frames)
    (hb : Binds X.K fd ps []) (I : Inv X pins σ H s) (r : Vals vs us)
    (h : sp vs H Q E0) :
    wpAny (model X.prog X.w) A (call (.ref f) us) (EP X pins σ Q) X.xe s := by
  have hl : us.length = ps.length := r.length.symm.trans (F.len _ _ _ _ h)
  have e0 : Env0 X.prog X.w X.K X.mg X.base A X.stack s H := by
    have e := I.env0
    exact ⟨by rw [fr]; exact e.frames, e.mod, e.bs, e.bsz, e.funs, e.frf,
      e.hok, e.bare⟩
  have bd : BindsTo s fd ⟨us, []⟩ (ps.zip us) := by
    have := hb s us I.kIn (by rw [List.append_nil]; exact hl)
    rw [List.append_nil] at this
    exact this
  refine wpAny_call (codeAny_mono (F.run A X.stack s H ⟨us, []⟩ us vs Q E0
    room gd e0 bd r h) ?_)
  intro r s' hq
  match r, hq with
  | .error e, hq => exact False.elim hq
  | .ok (.ret u), hq => exact I.after hq
  | .ok .next, hq => exact False.elim hq
  | .ok .brk, hq => exact False.elim hq
  | .ok .cont, hq => exact False.elim hq
/-- the same of a def that asks nothing of what is shown -/
theorem runAt0 {A : Around} {pins : List (Addr × Obj)} {σ : L2.St} {H : Hp}
    {s : Shared} {Q : VK} {us : List Value} {vs : List V}
    (F : FnOk X.prog X.w X.K X.mg X.base CX0 n f fd ps sp)
    (room : Room n A) (fr : A.frames = X.A.frames)
    (hb : Binds X.K fd ps []) (I : Inv X pins σ H s) (r : Vals vs us)
    (h : sp vs H Q E0) :
    wpAny (model X.prog X.w) A (call (.ref f) us) (EP X pins σ Q) X.xe s := by
  have hl : us.length = ps.length := r.length.symm.trans (F.len _ _ _ _ h)
  have e0 : Env0 X.prog X.w X.K X.mg X.base A X.stack s H := by
    have e := I.env0
    exact ⟨by rw [fr]; exact e.frames, e.mod, e.bs, e.bsz, e.funs, e.frf,
      e.hok, e.bare⟩
  have bd : BindsTo s fd ⟨us, []⟩ (ps.zip us) := by
    have := hb s us I.kIn (by rw [List.append_nil]; exact hl)
    rw [List.append_nil] at this
    exact this
  refine wpAny_call (codeAny_mono (F.run A X.stack s H ⟨us, []⟩ us vs Q E0
    room e0 bd r h) ?_)
  intro r s' hq
  match r, hq with
  | .error e, hq => exact False.elim hq
  | .ok (.ret u), hq => exact I.after hq
  | .ok .next, hq => exact False.elim hq
  | .ok .brk, hq => exact False.elim hq
  | .ok .cont, hq => exact False.elim hq
/-- an own method that the interpreter calls by itself -/
structure Spec1 (K : PySem.W.Frag) (C : Addr) (m : Str) (f : Addr)
    (fd : FuncData) (ps : List Str) : Prop where
  at_ : PySem.W.findIn K (.ref C) m = some (some (.ref f))
  fn : PySem.W.isFn K (.ref f) = true
  bd : Binds K fd ps []
/-- x == y, both of the class at C -/
def rEqOwn (C : Addr) (sp : Sp) : R2 := fun x y H Q =>
  ∃ a b dx dy fs gs, x = .ref a ∧ y = .ref b ∧
    H a = some (.ins C dx fs) ∧ H b = some (.ins C dy gs) ∧
    sp [.ref a, .ref b] H (fun v H' => ∃ r, v = .bl r ∧ Q (.bl r) H') E0
theorem op_eqOwn (S : Spec1 X.K C "__eq__" f fd ps)
    (F : FnOk X.prog X.w X.K X.mg X.base CX0 n f fd ps sp)
    (room : Room n X.A) : OpR X (compareOp .Eq) (rEqOwn C sp) := by
  intro pins s σ H x y v u Q I rx ry h
  obtain ⟨a, b, dx, dy, fs, gs, rfl, rfl, ha, hb, q⟩ := h
  cases rx
  cases ry
  obtain ⟨mA, J, _⟩ := ins_get I.hok ha
  obtain ⟨mB, J', _⟩ := ins_get I.hok hb
  obtain ⟨od, J, _⟩ := J.look
  obtain ⟨od', J', _⟩ := J'.look
  obtain ⟨m, hF⟩ := I.fr
  show wpAny _ X.A (richCompare .Eq (.ref a) (.ref b)) _ _ s
  refine PySem.W.cmp_K (op := .Eq) (tb := .ref C) room.units0 hF
    I.ok.mod.kin J J'.type (by simp [PySem.W.notFirst]) S.at_ S.fn ?_
  refine wpAny_mono (runAt0 F room rfl S.bd I (us := [.ref a, .ref b])
    (vs := [.ref a, .ref b])
    (.cons rfl (.cons rfl .nil)) q) ?_ (fun _ _ z => z)
  rintro z s' ⟨v, H', I', rv, r, rfl, q'⟩
  cases rv
  exact ⟨.bl r, H', I', rfl, q'⟩
/-- len(x) of the class at C -/
def rLenOwn (C : Addr) (sp : Sp) : List V → Hp → VK → Prop := fun xs H Q =>
  ∃ a dx fs, xs = [.ref a] ∧ H a = some (.ins C dx fs) ∧
    sp [.ref a] H (fun v H' => ∃ n : Nat, v = .int n ∧ n < 2 ^ 60 ∧
      Q (.int n) H') E0
theorem call_lenOwn (S : Spec1 X.K C "__len__" f fd ps)
    (F : FnOk X.prog X.w X.K X.mg X.base CX0 n f fd ps sp)
    (room : Room (n + 1) X.A) :
    CallR X (.builtin "len") (rLenOwn C sp) := by
  intro pins s σ H xs us Q I r h
  obtain ⟨a, dx, fs, rfl, ha, q⟩ := h
  cases r with
  | cons rv rn =>
    cases rn
    cases rv
    obtain ⟨mA, J, _⟩ := ins_get I.hok ha
    obtain ⟨od, J, _⟩ := J.look
    obtain ⟨m, hF⟩ := I.fr
    refine PySem.W.len_K hF I.ok.mod.kin J S.at_ S.fn ?_
    refine wpAny_mono (runAt0 (A := X.A.in1) F room.in1 rfl S.bd I
      (us := [.ref a]) (vs := [.ref a]) (.cons rfl .nil) q) ?_ (fun _ _ z => z)
    rintro z s' ⟨v, H', I', rv, k, rfl, hk, q'⟩
    obtain ⟨t, rfl⟩ := rv
    exact ⟨⟨by omega, by omega⟩, .int k, H', I'.tok _, ⟨_, rfl⟩, q'⟩
/-- repr(x) of the class at C -/
def rReprOwn (C : Addr) (sp : Sp) : List V → Hp → VK → Prop := fun xs H Q =>
  ∃ a dx fs, xs = [.ref a] ∧ H a = some (.ins C dx fs) ∧
    sp [.ref a] H (fun v H' => ∃ x : Str, v = .str x ∧ Q (.str x) H') E0
theorem call_reprOwn (S : Spec1 X.K C "__repr__" f fd ps)
    (F : FnG X.prog X.w X.K X.mg X.base CX0 n f fd ps sp)
    (room : Room (n + 1) X.A) (gd : X.A.guards = some []) :
    CallR X (.builtin "repr") (rReprOwn C sp) := by
  intro pins s σ H xs us Q I r h
  obtain ⟨a, dx, fs, rfl, ha, q⟩ := h
  cases r with
  | cons rv rn =>
    cases rn
    cases rv
    obtain ⟨mA, J, _⟩ := ins_get I.hok ha
    obtain ⟨od, J, _⟩ := J.look
    obtain ⟨m, hF⟩ := I.fr
    refine PySem.W.repr_K (by have := room.units; show X.A.units + 1 < _; omega) hF I.ok.mod.kin J S.at_ S.fn ?_
    refine wpAny_mono (runAt (A := X.A.in1) F room.in1 gd rfl S.bd I
      (us := [.ref a]) (vs := [.ref a]) (.cons rfl .nil) q) ?_ (fun _ _ z => z)
    rintro z s' ⟨v, H', I', rv, x, rfl, q'⟩
    obtain ⟨t, rfl⟩ := rv
    exact ⟨.str x, H', I', ⟨_, rfl⟩, q'⟩
/-- {x!r} of data -/
def tFmtD (K : PySem.W.Frag) (te : TE) : TE := fun σ H Q =>
  te σ H fun v H1 => ∃ a d, v = .ref a ∧ Dp K H1 v d ∧ d.showable = true ∧
    d.depth ≤ 60 ∧ d.shown.length ≤ sizeLine ∧ Q (.str d.shown) H1
theorem pe_fmtD {e : Expr} {te : TE} {pos : Pos} {k : Nat}
    (room : Room k X.A) (gd : X.A.guards = some []) (he : PE X e te) :
    PE X (.FormattedValue e 114 none pos) (tFmtD X.K te) := by
  constructor
  intro pins s σ H Q I h
  refine wpAny_FormattedValue_repr (thn (he.run pins s σ H _ I h) ?_)
  rintro v s1 ⟨x, H1, I1, r1, a, d, rfl, hd, sh, dp, sz, q⟩
  cases r1
  obtain ⟨as, rd⟩ := Dp.reads I1 d _ _ hd rfl
  have un := room.units
  refine pyReprObj_of_reads rd sh (PyData.noDict_hsm (Dp.noDict _ hd)) gd
    (by omega) (fun _ _ e => e) (fun h' u tk hk => ?_) sz
  exact wpAny_formatField_str ⟨.str _, H1, I1.kept hk, ⟨_, rfl⟩, q⟩
    ⟨.str _, H1, (I1.kept (t' := tk) hk).tok _, ⟨_, rfl⟩, q⟩ sz
end
end OM
namespace OM
open PySem PySem.Spec PyProof.Rows L2
abbrev dN (ls : List (List Nat)) : List PyData := ls.map fun l => .str (SX.S l)
theorem dpAll_N {K : PySem.W.Frag} {H : Hp} : ∀ ls : List (List Nat),
    DpAll K H (ls.map vS) (dN ls)
  | [] => .nil
  | l :: r => .cons (.str _) (dpAll_N r)
theorem dp_N {K : PySem.W.Frag} {H : Hp} {a : Addr} {ls : List (List Nat)}
    (h : SqL K H a (ls.map vS)) : Dp K H (.ref a) (.list (dN ls)) :=
  .lst h (dpAll_N ls)
theorem eqv_N : ∀ ls ms : List (List Nat),
    PyData.eqvAll (dN ls) (dN ms) = decide (ls = ms)
  | [], [] => by simp [PyData.eqvAll]
  | [], m :: ms => by simp [PyData.eqvAll]
  | l :: ls, [] => by simp [PyData.eqvAll]
  | l :: ls, m :: ms => by
    have ih := eqv_N ls ms
    show (PyData.eqv (.str (SX.S l)) (.str (SX.S m)) &&
      PyData.eqvAll (dN ls) (dN ms)) = _
    rw [ih]
    unfold PyData.eqv
    rw [SX.S_beq_eq]
    by_cases e : l = m
    · subst e
      simp
    · have : ¬ (l :: ls = m :: ms) := fun z => e (List.cons.inj z).1
      rw [decide_eq_false e, decide_eq_false this]
      rfl
theorem eqv_L (ls ms : List (List Nat)) :
    PyData.eqv (.list (dN ls)) (.list (dN ms)) = decide (ls = ms) := by
  rw [show PyData.eqv (.list (dN ls)) (.list (dN ms)) =
    PyData.eqvAll (dN ls) (dN ms) by simp only [PyData.eqv]]
  exact eqv_N ls ms
/-- texts of Unicode's codes -/
def Uni (ls : List (List Nat)) : Prop := ∀ l ∈ ls, ∀ c ∈ l, c < 1114112
theorem lay_N : ∀ ls : List (List Nat), Uni ls →
    PyData.canLayAll0 (dN ls) = true
  | [], _ => by simp [PyData.canLayAll0]
  | l :: ls, h => by
    have ih := lay_N ls fun x hx => h x (List.mem_cons_of_mem _ hx)
    have ok : PyData.strOk (SX.S l) = true := by
      unfold PyData.strOk
      rw [Array.all_eq_true]
      intro i hi
      have := h l List.mem_cons_self l.toArray[i] (by simp)
      exact decide_eq_true this
    show PyData.canLayAll0 (.str (SX.S l) :: dN ls) = true
    simp only [PyData.canLayAll0, PyData.canLay0, ih, ok, Bool.and_self]
theorem depth_N : ∀ ls : List (List Nat), PyData.depthAll (dN ls) ≤ 1
  | [] => by simp [PyData.depthAll]
  | l :: ls => by
    have ih := depth_N ls
    show PyData.depthAll (.str (SX.S l) :: dN ls) ≤ 1
    simp only [PyData.depthAll, PyData.depth]
    omega
theorem depth_L (ls : List (List Nat)) : (PyData.list (dN ls)).depth ≤ 2 := by
  simp only [PyData.depth]
  have := depth_N ls
  omega
theorem shaped_L {ls : List (List Nat)} (h : Uni ls) :
    SeqAt.shaped (.list (dN ls)) = true := by
  unfold SeqAt.shaped
  rw [show PyData.canLay0 (.list (dN ls)) = PyData.canLayAll0 (dN ls) by
    simp only [PyData.canLay0], lay_N ls h]
  have := depth_L ls
  exact decide_eq_true (by omega)
theorem showable_N : ∀ ls : List (List Nat), PyData.showableAll (dN ls) = true
  | [] => by simp [PyData.showableAll]
  | l :: ls => by
    have ih := showable_N ls
    show PyData.showableAll (.str (SX.S l) :: dN ls) = true
    simp only [PyData.showableAll, PyData.showable, ih, Bool.and_self]
theorem showable_L (ls : List (List Nat)) :
    (PyData.list (dN ls)).showable = true := by
  simp only [PyData.showable]
  exact showable_N ls
/-- short lists of short texts are shown shortly -/
theorem piled_N : ∀ (ls : List (List Nat)) (m : Nat),
    (∀ l ∈ ls, l.length ≤ m ∧ ∀ c ∈ l, c < 1114112) →
    piled (PyData.shownAll (dN ls)) ≤ ls.length * (10 * m + 4)
  | [], _, _ => by
    show piled (PyData.shownAll []) ≤ _
    simp only [PyData.shownAll]
    exact Nat.zero_le _
  | l :: ls, m, h => by
    have ih := piled_N ls m fun x hx => h x (List.mem_cons_of_mem _ hx)
    obtain ⟨h1, h2⟩ := h l List.mem_cons_self
    have h3 := StrLaws.reprText_len (SX.S l) (fun c hc => Nat.lt_of_lt_of_le
      (h2 c hc) (by decide))
    have h4 : (SX.S l).length = l.length := SX.S_len l
    have h5 : (reprText (SX.S l)).length ≤ 10 * m + 2 := by
      refine Nat.le_trans h3 ?_
      rw [h4]
      omega
    show piled (PyData.shownAll (.str (SX.S l) :: dN ls)) ≤ _
    simp only [PyData.shownAll, PyData.shown]
    rw [piled_cons, List.length_cons, Nat.add_mul]
    omega
theorem shown_L {ls : List (List Nat)} {m : Nat} (hn : ls.length ≤ 1000)
    (hm : m ≤ 1000) (h : ∀ l ∈ ls, l.length ≤ m ∧ ∀ c ∈ l, c < 1114112) :
    (PyData.list (dN ls)).shown.length ≤ sizeLine := by
  have p := piled_N ls m h
  have e : (PyData.list (dN ls)).shown =
      listText (PyData.shownAll (dN ls)) := by simp only [PyData.shown]
  rw [e]
  have q := listText_len_le (PyData.shownAll (dN ls))
  have r : ((PyData.shownAll (dN ls)).map (·.length)).sum +
      2 * (PyData.shownAll (dN ls)).length =
      piled (PyData.shownAll (dN ls)) := by
    generalize PyData.shownAll (dN ls) = ts
    induction ts with
    | nil => rfl
    | cons t ts ih =>
      rw [piled_cons, List.map_cons, List.sum_cons, List.length_cons]
      omega
  have s : ls.length * (10 * m + 4) ≤ 1000 * 10004 :=
    Nat.mul_le_mul hn (by omega)
  refine Nat.le_trans (show _ ≤ 10004003 by omega) (by decide)
end OM
namespace OM
open PySem PySem.Spec PyProof.Rows L2
/-- what a comprehension walks, whatever its turn does -/
theorem walkW {J : It} {n : Nat} {G : Hp → Prop}
    {Y : Nat → Hp → V → Hp → Prop} (wk : Walk J n G Y) {H0 : Hp}
    {Qd : Hp → Prop} {body : V → Hp → (Hp → Prop) → Prop}
    (Pv : Nat → Hp → Prop) (h0 : Pv 0 H0) (hG : ∀ i H, i ≤ n → Pv i H → G H)
    (hs : ∀ i x H H', i < n → Pv i H → Y i H x H' → body x H' (Pv (i + 1)))
    (hd : ∀ H, Pv n H → Qd H) :
    ∃ W : Nat → Nat → Hp → Prop, (∃ m, W 0 m H0) ∧
      ∀ i m H, W i m H → (J.stop i H ∧ Qd H) ∨ (J.go i H ∧
        ∃ Nx : Hp → Prop, (∀ H', Nx H' → ∃ m', m' < m ∧ W (i + 1) m' H') ∧
        ∀ x H', J.yld i H x H' → body x H' Nx) := by
  refine ⟨fun i m H => m + i = n ∧ Pv i H, ⟨n, rfl, h0⟩, ?_⟩
  rintro i m H ⟨e, p⟩
  have q := hG i H (by omega) p
  rcases Nat.lt_or_ge i n with lt | ge
  · exact .inr ⟨wk.goes i H lt q, Pv (i + 1),
      fun H' p' => ⟨m - 1, by omega, by omega, p'⟩,
      fun x H' y => hs i x H H' lt p (wk.yields i H x H' lt q y)⟩
  · have e' : i = n := by omega
    subst e'
    exact .inl ⟨wk.stops H q, hd H p⟩
/-! ### pairs of names -/
abbrev Pr := List Nat × List Nat
abbrev vT (p : Pr) : List V := [vS p.1, vS p.2]
def PrsAt (H : Hp) (rs : List Addr) (ps : List Pr) : Prop :=
  Paired (fun r p => H r = some (.tup (vT p))) rs ps
theorem PrsAt.same {H H' : Hp} : ∀ {rs : List Addr} {ps : List Pr},
    PrsAt H rs ps → Same H H' → PrsAt H' rs ps
  | _, _, .nil, _ => .nil
  | _, _, .cons h t, s => .cons (s _ _ h) (PrsAt.same t s)
theorem PrsAt.snoc {H : Hp} {r : Addr} {p : Pr} (h : H r = some (.tup (vT p))) :
    ∀ {rs : List Addr} {ps : List Pr}, PrsAt H rs ps →
      PrsAt H (rs ++ [r]) (ps ++ [p])
  | _, _, .nil => .cons h .nil
  | _, _, .cons a t => .cons a (PrsAt.snoc h t)
theorem PrsAt.app {H : Hp} {qs : List Addr} {us : List Pr}
    (h : PrsAt H qs us) : ∀ {rs : List Addr} {ps : List Pr}, PrsAt H rs ps →
      PrsAt H (rs ++ qs) (ps ++ us)
  | _, _, .nil => h
  | _, _, .cons a t => .cons a (PrsAt.app h t)
theorem PrsAt.len {H : Hp} : ∀ {rs : List Addr} {ps : List Pr},
    PrsAt H rs ps → rs.length = ps.length
  | _, _, .nil => rfl
  | _, _, .cons _ t => congrArg (· + 1) (PrsAt.len t)
abbrev dT (p : Pr) : PyData := .tuple [.str (SX.S p.1), .str (SX.S p.2)]
abbrev dP (ps : List Pr) : List PyData := ps.map dT
theorem dp_T {K : PySem.W.Frag} {H : Hp} {r : Addr} {p : Pr}
    (h : H r = some (.tup (vT p))) : Dp K H (.ref r) (dT p) :=
  .tup (SqT.of h) (.cons (.str _) (.cons (.str _) .nil))
theorem dpAll_P {K : PySem.W.Frag} {H : Hp} : ∀ {rs : List Addr}
    {ps : List Pr}, PrsAt H rs ps → DpAll K H (rs.map V.ref) (dP ps)
  | _, _, .nil => .nil
  | _, _, .cons h t => .cons (dp_T h) (dpAll_P t)
theorem dp_P {K : PySem.W.Frag} {H : Hp} {a : Addr} {rs : List Addr}
    {ps : List Pr} (h : SqL K H a (rs.map V.ref)) (p : PrsAt H rs ps) :
    Dp K H (.ref a) (.list (dP ps)) := .lst h (dpAll_P p)
theorem eqv_T (p q : Pr) : PyData.eqv (dT p) (dT q) = decide (p = q) := by
  obtain ⟨a, b⟩ := p
  obtain ⟨c, d⟩ := q
  show PyData.eqv (.tuple [.str (SX.S a), .str (SX.S b)])
    (.tuple [.str (SX.S c), .str (SX.S d)]) = _
  simp only [PyData.eqv, PyData.eqvAll, SX.S_beq_eq, Bool.and_true]
  by_cases e : a = c
  · by_cases f : b = d
    · subst e; subst f; simp
    · simp [e, f]
  · simp [e]
theorem eqv_PA : ∀ ps qs : List Pr,
    PyData.eqvAll (dP ps) (dP qs) = decide (ps = qs)
  | [], [] => by simp [PyData.eqvAll]
  | [], m :: ms => by simp [PyData.eqvAll]
  | l :: ls, [] => by simp [PyData.eqvAll]
  | l :: ls, m :: ms => by
    have ih := eqv_PA ls ms
    show (PyData.eqv (dT l) (dT m) && PyData.eqvAll (dP ls) (dP ms)) = _
    rw [ih, eqv_T]
    by_cases e : l = m
    · subst e
      simp
    · have : ¬ (l :: ls = m :: ms) := fun z => e (List.cons.inj z).1
      rw [decide_eq_false e, decide_eq_false this]
      rfl
theorem eqv_P (ps qs : List Pr) :
    PyData.eqv (.list (dP ps)) (.list (dP qs)) = decide (ps = qs) := by
  rw [show PyData.eqv (.list (dP ps)) (.list (dP qs)) =
    PyData.eqvAll (dP ps) (dP qs) by simp only [PyData.eqv]]
  exact eqv_PA ps qs
theorem any_P (q : Pr) : ∀ ps : List Pr,
    ((dP ps).any fun z => PyData.eqv z (dT q)) = decide (q ∈ ps)
  | [] => by simp
  | p :: ps => by
    have ih := any_P q ps
    rw [show dP (p :: ps) = dT p :: dP ps from rfl, List.any_cons, ih, eqv_T]
    by_cases e : p = q
    · subst e
      simp
    · have ne : ¬ q = p := fun z => e z.symm
      simp [e, ne]
/-- names in pairs -/
def UniP (ps : List Pr) : Prop := ∀ p ∈ ps,
  (p.1.length ≤ 8 ∧ ∀ c ∈ p.1, c < 1114112) ∧
  (p.2.length ≤ 8 ∧ ∀ c ∈ p.2, c < 1114112)
theorem strOkS {l : List Nat} (h : ∀ c ∈ l, c < 1114112) :
    PyData.strOk (SX.S l) = true := by
  unfold PyData.strOk
  rw [Array.all_eq_true]
  intro i hi
  have := h l.toArray[i] (by simp)
  exact decide_eq_true this
theorem lay_T {p : Pr} (h1 : ∀ c ∈ p.1, c < 1114112)
    (h2 : ∀ c ∈ p.2, c < 1114112) : PyData.canLay0 (dT p) = true := by
  simp only [PyData.canLay0, PyData.canLayAll0, strOkS h1, strOkS h2,
    Bool.and_self]
theorem lay_P : ∀ ps : List Pr, UniP ps → PyData.canLayAll0 (dP ps) = true
  | [], _ => by simp [PyData.canLayAll0]
  | p :: ps, h => by
    have ih := lay_P ps fun x hx => h x (List.mem_cons_of_mem _ hx)
    have hp := h p List.mem_cons_self
    show PyData.canLayAll0 (dT p :: dP ps) = true
    rw [show PyData.canLayAll0 (dT p :: dP ps) =
      (PyData.canLay0 (dT p) && PyData.canLayAll0 (dP ps)) by
        simp only [PyData.canLayAll0], ih, lay_T hp.1.2 hp.2.2]
    rfl
theorem depth_T (p : Pr) : (dT p).depth ≤ 2 := by
  simp only [PyData.depth, PyData.depthAll]
  omega
theorem depth_PA : ∀ ps : List Pr, PyData.depthAll (dP ps) ≤ 2
  | [] => by simp [PyData.depthAll]
  | p :: ps => by
    have ih := depth_PA ps
    have h := depth_T p
    show PyData.depthAll (dT p :: dP ps) ≤ 2
    rw [show PyData.depthAll (dT p :: dP ps) =
      max (dT p).depth (PyData.depthAll (dP ps)) by
        simp only [PyData.depthAll]]
    omega
theorem depth_P (ps : List Pr) : (PyData.list (dP ps)).depth ≤ 3 := by
  rw [show (PyData.list (dP ps)).depth = PyData.depthAll (dP ps) + 1 by
    simp only [PyData.depth]]
  have := depth_PA ps
  omega
theorem shaped_T {p : Pr} (h1 : ∀ c ∈ p.1, c < 1114112)
    (h2 : ∀ c ∈ p.2, c < 1114112) : SeqAt.shaped (dT p) = true := by
  unfold SeqAt.shaped
  rw [lay_T h1 h2]
  have := depth_T p
  exact decide_eq_true (by omega)
theorem shaped_P {ps : List Pr} (h : UniP ps) :
    SeqAt.shaped (.list (dP ps)) = true := by
  unfold SeqAt.shaped
  rw [show PyData.canLay0 (.list (dP ps)) = PyData.canLayAll0 (dP ps) by
    simp only [PyData.canLay0], lay_P ps h]
  have := depth_P ps
  exact decide_eq_true (by omega)
theorem showable_P : ∀ ps : List Pr, PyData.showableAll (dP ps) = true
  | [] => by simp [PyData.showableAll]
  | p :: ps => by
    have ih := showable_P ps
    show PyData.showableAll (dT p :: dP ps) = true
    simp only [PyData.showableAll, PyData.showable, ih, Bool.and_self]
theorem showable_PL (ps : List Pr) : (PyData.list (dP ps)).showable = true := by
  rw [show (PyData.list (dP ps)).showable = PyData.showableAll (dP ps) by
    simp only [PyData.showable]]
  exact showable_P ps
theorem shown_T {p : Pr} (h1 : p.1.length ≤ 8 ∧ ∀ c ∈ p.1, c < 1114112)
    (h2 : p.2.length ≤ 8 ∧ ∀ c ∈ p.2, c < 1114112) :
    (dT p).shown.length ≤ 200 := by
  have e : (dT p).shown = tupleText [reprText (SX.S p.1),
    reprText (SX.S p.2)] := by simp only [PyData.shown, PyData.shownAll]
  rw [e]
  have t := fmt_text [reprText (SX.S p.1), reprText (SX.S p.2)]
  rw [piled_cons, piled_cons, piled_nil] at t
  have a := StrLaws.reprText_len (SX.S p.1) (fun c hc => Nat.lt_of_lt_of_le
    (h1.2 c hc) (by decide))
  have b := StrLaws.reprText_len (SX.S p.2) (fun c hc => Nat.lt_of_lt_of_le
    (h2.2 c hc) (by decide))
  have c : (SX.S p.1).length = p.1.length := SX.S_len _
  have d : (SX.S p.2).length = p.2.length := SX.S_len _
  rw [c] at a
  rw [d] at b
  omega
theorem shown_PA : ∀ (ps : List Pr), UniP ps →
    piled (PyData.shownAll (dP ps)) ≤ ps.length * 202
  | [], _ => by
    show piled (PyData.shownAll []) ≤ _
    simp only [PyData.shownAll]
    exact Nat.zero_le _
  | p :: ps, h => by
    have ih := shown_PA ps fun x hx => h x (List.mem_cons_of_mem _ hx)
    have hp := h p List.mem_cons_self
    have t := shown_T hp.1 hp.2
    show piled (PyData.shownAll (dT p :: dP ps)) ≤ _
    rw [show PyData.shownAll (dT p :: dP ps) =
      (dT p).shown :: PyData.shownAll (dP ps) by simp only [PyData.shownAll],
      piled_cons, List.length_cons, Nat.add_mul]
    omega
theorem shown_P {ps : List Pr} (h : UniP ps) (hn : ps.length ≤ 2000) :
    (PyData.list (dP ps)).shown.length ≤ sizeLine := by
  have p := shown_PA ps h
  have e : (PyData.list (dP ps)).shown =
      listText (PyData.shownAll (dP ps)) := by simp only [PyData.shown]
  rw [e]
  have q := listText_len_le (PyData.shownAll (dP ps))
  have r : ((PyData.shownAll (dP ps)).map (·.length)).sum +
      2 * (PyData.shownAll (dP ps)).length =
      piled (PyData.shownAll (dP ps)) := by
    generalize PyData.shownAll (dP ps) = ts
    induction ts with
    | nil => rfl
    | cons t ts ih =>
      rw [piled_cons, List.map_cons, List.sum_cons, List.length_cons]
      omega
  refine Nat.le_trans (show _ ≤ 404003 by omega) (by decide)
/-! ### the inverted pairs -/
def invF (os : List (List Nat)) (f : List Nat) (r : List (List Nat)) :
    List Pr :=
  (r.filter fun s => decide (os.idxOf s < os.idxOf f)).map fun s => (f, s)
def invTo (ls os : List (List Nat)) : Nat → List Pr
  | 0 => []
  | i + 1 => invTo ls os i ++ match ls[i]? with
    | some f => invF os f (ls.drop (i + 1))
    | none => []
def invAll (ls os : List (List Nat)) : List Pr := invTo ls os ls.length
theorem invF_mem {os : List (List Nat)} {f : List Nat} {r : List (List Nat)}
    {p : Pr} : p ∈ invF os f r ↔ p.1 = f ∧ p.2 ∈ r ∧
      os.idxOf p.2 < os.idxOf f := by
  unfold invF
  obtain ⟨a, b⟩ := p
  simp only [List.mem_map, List.mem_filter, decide_eq_true_eq, Prod.mk.injEq]
  constructor
  · rintro ⟨x, ⟨h1, h2⟩, rfl, rfl⟩
    exact ⟨rfl, h1, h2⟩
  · rintro ⟨rfl, h1, h2⟩
    exact ⟨b, ⟨h1, h2⟩, rfl, rfl⟩
theorem invTo_mem {ls os : List (List Nat)} {p : Pr} : ∀ {i : Nat},
    p ∈ invTo ls os i ↔ ∃ j < i, ls[j]? = some p.1 ∧ p.2 ∈ ls.drop (j + 1) ∧
      os.idxOf p.2 < os.idxOf p.1
  | 0 => by simp [invTo]
  | i + 1 => by
    have ih := invTo_mem (ls := ls) (os := os) (p := p) (i := i)
    show p ∈ invTo ls os i ++ _ ↔ _
    rw [List.mem_append, ih]
    constructor
    · rintro (⟨j, hj, h⟩ | h)
      · exact ⟨j, by omega, h⟩
      · cases e : ls[i]? with
        | none => rw [e] at h; cases h
        | some f =>
          rw [e] at h
          obtain ⟨h1, h2, h3⟩ := invF_mem.mp h
          exact ⟨i, by omega, by rw [h1]; exact e, h2, by rw [h1]; exact h3⟩
    · rintro ⟨j, hj, h1, h2, h3⟩
      by_cases e : j = i
      · subst e
        refine .inr ?_
        rw [h1]
        exact invF_mem.mpr ⟨rfl, h2, h3⟩
      · exact .inl ⟨j, by omega, h1, h2, h3⟩
theorem invF_len (os : List (List Nat)) (f : List Nat) (r : List (List Nat)) :
    (invF os f r).length ≤ r.length := by
  unfold invF
  rw [List.length_map]
  exact List.length_filter_le _ _
theorem invTo_len (ls os : List (List Nat)) : ∀ i, i ≤ ls.length →
    (invTo ls os i).length ≤ i * ls.length
  | 0, _ => Nat.zero_le _
  | i + 1, h => by
    have ih := invTo_len ls os i (by omega)
    show (invTo ls os i ++ _).length ≤ _
    rw [List.length_append, Nat.add_mul]
    have : (match ls[i]? with
      | some f => invF os f (ls.drop (i + 1))
      | none => []).length ≤ ls.length := by
      cases ls[i]? with
      | none => exact Nat.zero_le _
      | some f =>
        refine Nat.le_trans (invF_len _ _ _) ?_
        rw [List.length_drop]
        omega
    omega
end OM
/-! Dicts whose keys are tuples: made by a comprehension, made of pairs. -/
namespace OM
open PySem PySem.Spec PyProof.Rows L2
section
variable {X : Cx}
/-- d[t] = v by a comprehension, t a tuple -/
theorem d_dictSetT {pins : List (Addr × Obj)} {σ : L2.St} {H : Hp} {s : Shared}
    {E : Value → Shared → Prop} {D b : Addr} {kvs : List (List Key × V)}
    {k : List Key} {v : V} {r : Value} {Q : Unit → Shared → Prop}
    (hu : X.A.units < cLine) (I : Inv X pins σ H s)
    (hD : H D = some (.dT kvs)) (hz : kvs.length < sizeLine)
    (hb : H b = some (.tup (k.map kV))) (rv : RelV v r)
    (h : ∀ s', Inv X pins σ (upd H D (.dT (putK kvs k v))) s' → Q () s') :
    wpAny (model X.prog X.w) X.A (dictSet D (.ref b) r) Q E s := by
  obtain ⟨z, hd, xs, rel, dd⟩ := dt_of I.hok hD
  have few : xs.length ≤ sizeLine := by
    rw [← Paired.length rel]
    exact z
  have more : (putK kvs k v).length ≤ sizeLine := by
    have := length_putK kvs k v
    omega
  refine wpAny_dictSet_heap (hsz := few) ?_ (key_of I.hok hb) dd ?_
  · exact hu
  intro h' dd' hs
  refine h _ ?_
  obtain ⟨q, es, ep, hq, h2, h3, h4, _, h5⟩ := dd'
  refine d_write I (by rw [hD]; exact True.intro) hs ⟨q, hq⟩ ⟨more, hd, _,
    (rel.put k hb rv).keeps fun c ys ec => ?_, q, es, ep, hq, h2, h3, h4, h5⟩
  rw [upd_ne (ne_of ec hD (fun z => nomatch z))]
  exact ec
/-- {t: v for target in iter if ..}, t a tuple -/
def tDcT (wi : TI) (g : TG) (tt : TT) (tk tv : TE) (vs : List Nat) : TE :=
  fun σ H Q => wi σ H fun J H1 => ∀ D, H1 D = none →
    ∃ W : Nat → Nat → Hp → Prop, (∃ m, W 0 m (upd H1 D (.dT []))) ∧
      ∀ i m H, W i m H → (J.stop i H ∧ Q (.ref D) H) ∨
        (J.go i H ∧ ∃ Nx : Hp → Prop,
          (∀ H', Nx H' → ∃ m', m' < m ∧ W (i + 1) m' H') ∧
          ∀ x H', J.yld i H x H' → g x (wipe σ vs) H' fun σ2 H2 =>
            wipe σ2 vs = wipe σ vs ∧ tt σ2 H2 fun b H3 =>
              if b = true then tk σ2 H3 fun y H4 => tv σ2 H4 fun z H5 =>
                ∃ kvs k t, y = .ref t ∧ H5 t = some (.tup (k.map kV)) ∧
                  H5 D = some (.dT kvs) ∧ kvs.length < sizeLine ∧
                  Nx (upd H5 D (.dT (putK kvs k z)))
              else Nx H3)
theorem pe_dcT {kx vx tg iter : Expr} {ifs : List Expr} {scope : Scope}
    {own : List (Str × Nat)} {pos : Pos} {wi : TI} {g : TG} {tt : TT}
    {tk tv : TE} (hu : X.A.units < cLine) (hc : X.calm = true)
    (hN : X.N.Nodup) (hi : PI X tg iter wi)
    (ok : BlkOk X.N X.env.scope scope own)
    (hg : ∀ (s : Shared) (H : Hp) (C : Addr) (cl : List (Str × Addr))
      (fp : List Addr),
      PG (X.blk s H scope (compEnvC scope cl C X.env) fp) tg g)
    (ht : ∀ (s : Shared) (H : Hp) (C : Addr) (cl : List (Str × Addr))
      (fp : List Addr),
      PTs (X.blk s H scope (compEnvC scope cl C X.env) fp) ifs tt)
    (hk : ∀ (s : Shared) (H : Hp) (C : Addr) (cl : List (Str × Addr))
      (fp : List Addr),
      PE (X.blk s H scope (compEnvC scope cl C X.env) fp) kx tk)
    (he : ∀ (s : Shared) (H : Hp) (C : Addr) (cl : List (Str × Addr))
      (fp : List Addr),
      PE (X.blk s H scope (compEnvC scope cl C X.env) fp) vx tv)
    (hs : ∀ x, foldedSetIterable iter X.env x = pure x := by
      intro _; rfl) :
    PE X (.DictComp kx vx [⟨tg, iter, ifs, 0⟩] scope pos)
      (tDcT wi g tt tk tv (own.map (·.2))) := by
  constructor
  intro pins s σ H Q I h
  rw [arm_eval_DictComp]
  have closed : ∀ y ∈ scope.names, y.2 = .free →
      ∃ c, X.env.cells.lookup y.1 = some c := fun y hy e => by
    rcases ok.free y hy e with k | k
    · exact I.ok.has _ (.inl k)
    · exact I.ok.has _ (.inr k)
  refine wpAny_comprehension_free rfl hs (closure_ok closed) ok.kind
    (fun y hy e => by rw [ok.uniq y hy, e]) (thn (hi.run pins s σ H _ I h) ?_)
  intro xv s1 hx
  refine thn hx ?_
  rintro itv s2 ⟨it, fp, tn, J, H2, rfl, I2, T, st2, f2, q⟩
  refine wpAny_newObj_type (newEnv_comp ?_)
  generalize hD : s2.heap.objs.size = D
  have freeD : H2 D = none := I2.hok.fresh (Nat.le_of_eq hD)
  obtain ⟨W, ⟨m0, w0⟩, turn⟩ := q D freeD
  let new : Obj := { cls := .type "dict", data := .dict #[] }
  generalize hs3 : ({ s2 with heap := s2.heap.push new } : Shared) = s3
  have heap3 : s3.heap = s2.heap.push new := by rw [← hs3]
  have I3 : Inv X pins σ (upd H2 D (.dT [])) s3 := by
    rw [← hs3]
    refine I2.laid (t' := s2.toks) (fun b o e => Heap.get?_push_of_some _ e)
      (Nat.le_of_eq hD) ?_
    rw [← hD]
    exact dt_empty s2.heap I2.big
  have f3 : ∀ b ∈ fp, FpOk X pins (upd H2 D (.dT [])) b ∧
      b < s3.heap.objs.size := fun b hb => by
    obtain ⟨o, e, _⟩ := T.obj _ _ st2 b hb
    have low : b < s2.heap.objs.size := Heap.lt_size e
    refine ⟨⟨?_, (f2 b hb).2⟩, ?_⟩
    · rw [upd_ne (by rw [← hD]; exact Nat.ne_of_lt low)]
      exact (f2 b hb).1
    · rw [heap3, Heap.size_push]
      exact Nat.lt_succ_of_lt low
  have st3 : tn 0 s3.heap := T.keep _ _ _ st2 fun b _ o e => by
    rw [heap3]
    exact Heap.get?_push_of_some _ e
  have I4 := block_start I3 ok hN f3
  let cells := cellsFrom (s3.heap.objs.size + 1) scope.names
    (cloFrom X.env.cells scope.names [])
  have pg := hg s3 (upd H2 D (.dT [])) s3.heap.objs.size cells fp
  have pt := ht s3 (upd H2 D (.dT [])) s3.heap.objs.size cells fp
  have pk := hk s3 (upd H2 D (.dT [])) s3.heap.objs.size cells fp
  have pe := he s3 (upd H2 D (.dT [])) s3.heap.objs.size cells fp
  have nofp : ∀ b ∈ fp, (upd H2 D (.dT [])) b = none := fun b hb =>
    (f3 b hb).1.1
  show codeAny _ _ (.compStart (.DictComp kx vx [⟨tg, iter, ifs, 0⟩] scope pos)
    0 (.ref it) (.ref D) (compEnvC scope cells s3.heap.objs.size X.env))
    (compPost (model X.prog X.w) X.A X.xe none (EP X pins σ Q) (.ref D)
      s3.heap.objs.size)
    { s3 with heap := pushCells (s3.heap.push new) scope.names }
  generalize hce : compEnvC scope cells s3.heap.objs.size X.env = ce
    at I4 pg pt pk pe ⊢
  have cL : ce.locals = s3.heap.objs.size := by
    subst hce
    rfl
  generalize hH3 : upd H2 D (.dT []) = H3 at I3 I4 pg pt pk pe w0 nofp f3
  generalize hs4 : (Shared.mk (pushCells (s3.heap.push new) scope.names)
    s3.gens s3.drawn s3.toks s3.os) = s4 at I4 ⊢
  have st4 : tn 0 s4.heap := T.keep _ _ _ st3 fun b _ o e => by
    rw [← hs4]
    exact pushCells_keeps _ _ _ _ (Heap.get?_push_of_some _ e)
  have stat : ∀ {σ' : L2.St} {H' : Hp} {s' : Shared},
      Inv (X.blk s3 H3 scope ce fp) [] σ' H' s' →
      (∀ b ∈ fp, H' b = none) →
      ∀ b ∈ fp, FpOk (X.blk s3 H3 scope ce fp) [] H' b :=
    fun {σ' H' s'} I' hn b hb => by
      have z := I'.ok.exf b hb
      exact ⟨hn b hb, z.1, I'.ok.exfs b hb, .inl hb, fun x c e => z.2 x c e,
        fun p hp => nomatch
          (show p ∈ ([] : List (Addr × Obj)) from by simpa using hp)⟩
  refine codeAny_compStart_dict ?loop (T.self X.A 0 _ _ _ st4 ?loop)
  refine compLoop_anyD (fun n s' => ∃ i H',
    Inv (X.blk s3 H3 scope ce fp) [] (wipe σ (own.map (·.2))) H' s' ∧
    tn i s'.heap ∧ (∀ b ∈ fp, H' b = none) ∧ W i n H') ?_ m0
    ⟨0, H3, I4, st4, nofp, w0⟩
  rintro n s5 ⟨i, H5, I5, st5, n5, w5⟩
  rcases turn i n H5 w5 with ⟨stop, done⟩ | ⟨go, Nx, later, step⟩
  · refine thnF (T.done (X.blk s3 H3 scope ce fp) rfl rfl rfl hc i [] s5 _ H5
      (fun _ _ => False) I5 (stat I5 n5) st5 stop) ?_
    rintro r s6 ⟨rfl, I6⟩
    have I7 : Inv X pins σ H5 s6 := I3.call' (ch := fp) I6.os I6.base I6.hok
      I6.bare fun b hb => by
        have z := (f3 b hb).1.2
        exact ⟨z.2.2.1, z.1, z.2.2.2.1, z.2.2.2.2⟩
    have nC : H5 s3.heap.objs.size = none := by
      have z : H5 ce.locals = none := I6.free
      rw [cL] at z
      exact z
    obtain ⟨m, hn, _⟩ := I6.loc
    have hn : s6.heap.Ns ce.locals m := hn
    rw [cL] at hn
    obtain ⟨f0, f1, f2', f3', f4, f5⟩ := I3.fpOk (Nat.le_refl _) nC
    refine ⟨m, hn, fun h'' sb => ?_⟩
    exact ⟨.ref D, H5, I7.turned (t' := s6.toks)
      (fun b o hb e => (sb.2 b hb).trans e) f0 f1 f3' f4 f5, rfl, done⟩
  · refine thnF (T.item (X.blk s3 H3 scope ce fp) rfl rfl rfl hc i [] s5 _ H5
      (fun _ _ => False) I5 (stat I5 n5) st5 go) ?_
    rintro r s6 ⟨u, rfl, h6⟩
    refine thnF h6 ?_
    rintro _ s7 ⟨x, H7, I7, r7, y7, st7, n7⟩
    have I7' := I7.pinned (stat I7 n7) (T.obj _ _ st7)
    refine thnF (pg.run _ s7 _ H7 x u _ I7' r7 (step x H7 y7)) ?_
    rintro _ s8 ⟨σ8, H8, I8, hw8, q8⟩
    refine thnF (pt.run _ s8 σ8 H8 _ I8 q8) ?_
    rintro b s9 ⟨H9, I9, q9⟩
    have fin : ∀ {s' : Shared} {H' : Hp},
        Inv (X.blk s3 H3 scope ce fp) ([] ++ pinsAt fp s7.heap) σ8 H' s' →
        Nx H' → ∃ m, m < n ∧ ∃ i H',
          Inv (X.blk s3 H3 scope ce fp) [] (wipe σ (own.map (·.2))) H' s' ∧
          tn i s'.heap ∧ (∀ b ∈ fp, H' b = none) ∧ W i m H' := by
      intro s' H' I' nx
      obtain ⟨m', hm, w'⟩ := later H' nx
      have stays : ∀ b ∈ fp, ∀ o, s7.heap.get? b = some o →
          s'.heap.get? b = some o ∧ H' b = none := fun b hb o e => by
        have z := I'.pin (b, o) (List.mem_append_right _
          (List.mem_append_right _ (mem_pinsAt hb e)))
        exact ⟨z.1, z.2.1⟩
      have same : (wipe σ (own.map (·.2))).length = σ8.length := by
        rw [← hw8, wipe_length]
      refine ⟨m', hm, i + 1, H', (I'.unpinned (pins := [])).weak same
        (fun j v e => ?_), T.keep _ _ _ st7 fun b hb o e =>
          (stays b hb o e).1, fun b hb => ?_, w'⟩
      · rw [← hw8] at e
        exact (wipe_some e).1
      · obtain ⟨o, e, _⟩ := T.obj _ _ st7 b hb
        exact (stays b hb o e).2
    cases b with
    | false =>
      simp only [Bool.false_eq_true, if_false] at q9 ⊢
      exact fin I9 q9
    | true =>
      simp only [if_true] at q9 ⊢
      refine thnF (pk.run _ s9 σ8 H9 _ I9 q9) ?_
      rintro z s10 ⟨yk, H10, I10, r10, q10⟩
      refine thnF (pe.run _ s10 σ8 H10 _ I10 q10) ?_
      rintro z2 s11 ⟨yv, H11, I11, r11, kvs, k, t, rfl, hkt, hDD, few, nx⟩
      cases (show z = Value.ref t from r10)
      exact d_dictSetT (X := X.blk s3 H3 scope ce fp) hu I11 hDD few hkt r11
        fun s12 I12 => fin I12 nx
end
/-! ### dict(xs), xs a list of pairs whose first part is a tuple -/
abbrev En3 : Type := List Key × Addr × V
def mergeT (acc : List (List Key × V)) (es : List En3) :
    List (List Key × V) :=
  es.foldl (fun acc e => putK acc e.1 e.2.2) acc
theorem mergeT_len : ∀ (es : List En3) (acc : List (List Key × V)),
    (mergeT acc es).length ≤ acc.length + es.length
  | [], acc => Nat.le_refl _
  | e :: es, acc => by
    have ih := mergeT_len es (putK acc e.1 e.2.2)
    have := length_putK acc e.1 e.2.2
    show (mergeT (putK acc e.1 e.2.2) es).length ≤ _
    rw [List.length_cons]
    omega
def En3At (H : Hp) (p : Addr) (e : En3) : Prop :=
  H p = some (.tup [.ref e.2.1, e.2.2]) ∧ H e.2.1 = some (.tup (e.1.map kV))
def rDictT (K : PySem.W.Frag) : List V → Hp → VK → Prop := fun xs H Q =>
  ∃ (a : Addr) (ps : List Addr) (es : List En3), xs = [.ref a] ∧
    SqL K H a (ps.map V.ref) ∧ Paired (En3At H) ps es ∧
    ∀ q, H q = none → Q (.ref q) (upd H q (.dT (mergeT [] es)))
abbrev RelE (e : En3) (x : List Key × Addr × Value) : Prop :=
  e.1 = x.1 ∧ e.2.1 = x.2.1 ∧ RelV e.2.2 x.2.2
theorem ents_of {X : Cx} {pins : List (Addr × Obj)} {σ : L2.St} {H : Hp}
    {s : Shared} (I : Inv X pins σ H s) : ∀ {ps : List Addr} {es : List En3},
    Paired (En3At H) ps es → ∃ xs : List (List Key × Addr × Value),
      Paired RelE es xs ∧ xs.length = ps.length ∧
      ∀ (j : Nat) (x : List Key × Addr × Value), xs[j]? = some x →
        ∃ p, ps[j]? = some p ∧
        s.heap.IsTuple p #[.ref x.2.1, x.2.2] ∧
        H x.2.1 = some (.tup (x.1.map kV))
  | _, _, .nil => ⟨[], .nil, rfl, fun j x e => by simp at e⟩
  | p :: ps, e :: es, .cons h t => by
    obtain ⟨xs, a1, a2, a3⟩ := ents_of I t
    obtain ⟨h1, h2⟩ := h
    obtain ⟨_, its, r, o, ho, hc, n, hd⟩ := (show ObjOk X.prog X.w H s.heap p
      (.tup [.ref e.2.1, e.2.2]) from I.hok p _ h1)
    obtain ⟨u1, u2, rfl, r1, r2⟩ := vals2 r
    cases r1
    refine ⟨(e.1, e.2.1, u2) :: xs, .cons ⟨rfl, rfl, r2⟩ a1, by
      rw [List.length_cons, List.length_cons, a2], fun j x ex => ?_⟩
    cases j with
    | zero =>
      cases Option.some.inj ex
      exact ⟨p, rfl, ⟨o, ho, hc, n, hd⟩, h2⟩
    | succ j =>
      obtain ⟨p', b1, b2, b3⟩ := a3 j x (by simpa using ex)
      exact ⟨p', by simpa using b1, b2, b3⟩
theorem kt_merge {H : Hp} : ∀ {es : List En3}
    {xs : List (List Key × Addr × Value)} {kvs : List (List Key × V)}
    {ys : List (List Key × Addr × Value)}, Paired RelE es xs →
    (∀ x ∈ xs, H x.2.1 = some (.tup (x.1.map kV))) → KT H kvs ys →
    KT H (mergeT kvs es) (PySem.storedAllH ys xs)
  | _, _, _, _, .nil, _, k => k
  | e :: es, x :: xs, kvs, ys, .cons h t, al, k => by
    obtain ⟨h1, h2, h3⟩ := h
    have hx := al x List.mem_cons_self
    have k2 := k.put x.1 hx h3
    rw [← h1] at k2
    have := kt_merge t (fun y hy => al y (List.mem_cons_of_mem _ hy)) k2
    show KT H (mergeT (putK kvs e.1 e.2.2) es) _
    rw [h1] at this ⊢
    exact this
section
variable {X : Cx}
theorem call_dictT (hc : X.calm = true) (hu : X.A.units + 2 < cLine) :
    CallR X (.type "dict") (rDictT X.K) := by
  intro pins s σ H xs us Q I r h
  obtain ⟨a, ps, es, rfl, hq, pr, q⟩ := h
  obtain ⟨u, rfl, rx⟩ := vals1 r
  cases rx
  obtain ⟨its, rv, ⟨o, n, ho, hcl, hd, hdat⟩, hz⟩ := I.list hq
  have ei := refs_at rv
  subst ei
  rw [List.length_map] at hz
  obtain ⟨ys, re, hl, at_⟩ := ents_of I pr
  have keys : ∀ y ∈ ys, H y.2.1 = some (.tup (y.1.map kV)) := fun y hy => by
    obtain ⟨j, hj, e⟩ := List.getElem_of_mem hy
    obtain ⟨_, _, _, z⟩ := at_ j y (by rw [List.getElem?_eq_getElem hj, e])
    exact z
  let prs : List (Value × Value) := ys.map fun y => (.ref y.2.1, y.2.2)
  refine PySem.call_dict_pairsH (knd := tupleKind (mixKind X.prog X.w))
    (ps := ys) (PySem.PairArg.list a (ps.map Value.ref).toArray
      (fun j => ps.getD j 0) prs) (I.ok.hd hc) ?_ ⟨?_, ?_, ?_⟩ ⟨?_, ?_⟩ ?_ ?_
    ?_
  · show X.A.units + 1 + 1 < cLine
    omega
  · exact ⟨o, n, ho, hcl, hd, hdat⟩
  · simp [prs, hl]
  · intro j k v e
    have e' : (ys.map fun y => ((Value.ref y.2.1 : Value), y.2.2))[j]? =
      some (k, v) := e
    rw [List.getElem?_map] at e'
    cases hy : ys[j]? with
    | none => rw [hy] at e'; cases e'
    | some y =>
      rw [hy] at e'
      obtain ⟨p, e1, e2, _⟩ := at_ j y hy
      cases Option.some.inj e'
      have eg : ps.getD j 0 = p := by
        rw [List.getD_eq_getElem?_getD, e1]
        rfl
      refine ⟨?_, .inl ?_⟩
      · show (ps.map Value.ref).toArray[j]? = some (.ref (ps.getD j 0))
        rw [eg]
        simp [e1]
      · show s.heap.IsTuple (ps.getD j 0) _
        rw [eg]
        exact e2
  · simp [prs]
  · intro i key v e
    have e' : (ys.map fun y => ((Value.ref y.2.1 : Value), y.2.2))[i]? =
      some (key, v) := e
    rw [List.getElem?_map] at e'
    cases hy : ys[i]? with
    | none => rw [hy] at e'; cases e'
    | some y =>
      rw [hy] at e'
      cases Option.some.inj e'
      exact ⟨y.1, y.2.1, rfl, rfl⟩
  · intro h' keep y hy
    obtain ⟨o', its', n', h1, h2, h3, h4⟩ := key_of I.hok (keys y hy)
    exact ⟨o', its', n', keep _ _ (Nat.ne_of_lt (Heap.lt_size h1)) (by simp) h1,
      h2, h3, h4⟩
  · show prs.length ≤ sizeLine
    simp only [prs, List.length_map]
    omega
  · intro h' tk dd keep
    have nm : (s.heap.objs.size == sysModules) = false :=
      beq_eq_false_iff_ne.mpr (Nat.ne_of_gt I.big)
    have few : (mergeT [] es).length ≤ sizeLine := by
      have a1 := mergeT_len es []
      have a2 := Paired.length re
      rw [List.length_nil, Nat.zero_add] at a1
      omega
    obtain ⟨o', es', ep, h1, h2, h3, h4, _, h5⟩ := dd
    have fresh : H s.heap.objs.size = none := I.hok.fresh (Nat.le_refl _)
    refine ⟨.ref s.heap.objs.size, upd H s.heap.objs.size (.dT (mergeT [] es)),
      I.laid (t' := tk) (fun b o e => keep b o (by simp) e) (Nat.le_refl _) ?_,
      rfl, q _ fresh⟩
    refine ⟨few, nm, _, (kt_merge re keys .nil).keeps fun c zs ec => ?_, o',
      es', ep, h1, h2, h3, h4, h5⟩
    rw [upd_ne (ne_of_none ec fresh)]
    exact ec
end
end OM
namespace OM
open PySem PySem.Spec PyProof.Rows L2
def topS (i : Nat) : Stmt :=
  PySem.Challenge.pw_ordermerge_k56_arcs_within.main.body.getD i
    (.Pass ⟨0, 0, 0, 0⟩)
abbrev s_InvalidBase_init : Stmt := inClass (topS 2) 0
abbrev N_InvalidBase_init : List Str := ["self", "problem", "position"]
theorem sc_InvalidBase_init : FnScope N_InvalidBase_init
    ["self", "problem", "position"] (defScope s_InvalidBase_init) :=
  ⟨rfl, rfl, rfl, by decide +kernel, rfl,
    by decide +kernel, by decide +kernel⟩
abbrev s_InvalidOrder_init : Stmt := inClass (topS 3) 0
abbrev N_InvalidOrder_init : List Str := ["self", "position"]
theorem sc_InvalidOrder_init : FnScope N_InvalidOrder_init
    ["self", "position"] (defScope s_InvalidOrder_init) :=
  ⟨rfl, rfl, rfl, by decide +kernel, rfl,
    by decide +kernel, by decide +kernel⟩
abbrev s_InvalidArcs_init : Stmt := inClass (topS 4) 0
abbrev N_InvalidArcs_init : List Str := ["self", "position"]
theorem sc_InvalidArcs_init : FnScope N_InvalidArcs_init
    ["self", "position"] (defScope s_InvalidArcs_init) :=
  ⟨rfl, rfl, rfl, by decide +kernel, rfl,
    by decide +kernel, by decide +kernel⟩
abbrev s_UnknownItem_init : Stmt := inClass (topS 5) 0
abbrev N_UnknownItem_init : List Str := ["self", "value"]
theorem sc_UnknownItem_init : FnScope N_UnknownItem_init
    ["self", "value"] (defScope s_UnknownItem_init) :=
  ⟨rfl, rfl, rfl, by decide +kernel, rfl,
    by decide +kernel, by decide +kernel⟩
abbrev s_is_name : Stmt := topS 9
abbrev N_is_name : List Str := ["value", "letter"]
theorem sc_is_name : FnScope N_is_name
    ["value"] (defScope s_is_name) :=
  ⟨rfl, rfl, rfl, by decide +kernel, rfl,
    by decide +kernel, by decide +kernel⟩
abbrev s_names_fault : Stmt := topS 10
abbrev N_names_fault : List Str := ["value", "most", "seen", "at", "name"]
theorem sc_names_fault : FnScope N_names_fault
    ["value", "most"] (defScope s_names_fault) :=
  ⟨rfl, rfl, rfl, by decide +kernel, rfl,
    by decide +kernel, by decide +kernel⟩
abbrev s_check_items : Stmt := topS 11
abbrev N_check_items : List Str := ["items", "fault", "problem", "position"]
theorem sc_check_items : FnScope N_check_items
    ["items"] (defScope s_check_items) :=
  ⟨rfl, rfl, rfl, by decide +kernel, rfl,
    by decide +kernel, by decide +kernel⟩
abbrev s_Base_init : Stmt := inClass (topS 12) 0
abbrev N_Base_init : List Str := ["self", "items", "name", "at"]
theorem sc_Base_init : FnScope N_Base_init
    ["self", "items"] (defScope s_Base_init) :=
  ⟨rfl, rfl, rfl, by decide +kernel, rfl,
    by decide +kernel, by decide +kernel⟩
abbrev s_Base_eq : Stmt := inClass (topS 12) 1
abbrev N_Base_eq : List Str := ["self", "other"]
theorem sc_Base_eq : FnScope N_Base_eq
    ["self", "other"] (defScope s_Base_eq) :=
  ⟨rfl, rfl, rfl, by decide +kernel, rfl,
    by decide +kernel, by decide +kernel⟩
abbrev s_Base_len : Stmt := inClass (topS 12) 2
abbrev N_Base_len : List Str := ["self"]
theorem sc_Base_len : FnScope N_Base_len
    ["self"] (defScope s_Base_len) :=
  ⟨rfl, rfl, rfl, by decide +kernel, rfl,
    by decide +kernel, by decide +kernel⟩
abbrev s_Base_repr : Stmt := inClass (topS 12) 3
abbrev N_Base_repr : List Str := ["self"]
theorem sc_Base_repr : FnScope N_Base_repr
    ["self"] (defScope s_Base_repr) :=
  ⟨rfl, rfl, rfl, by decide +kernel, rfl,
    by decide +kernel, by decide +kernel⟩
abbrev s_Base_names : Stmt := inClass (topS 12) 4
abbrev N_Base_names : List Str := ["self"]
theorem sc_Base_names : FnScope N_Base_names
    ["self"] (defScope s_Base_names) :=
  ⟨rfl, rfl, rfl, by decide +kernel, rfl,
    by decide +kernel, by decide +kernel⟩
abbrev s_Base_has_item : Stmt := inClass (topS 12) 5
abbrev N_Base_has_item : List Str := ["self", "value"]
theorem sc_Base_has_item : FnScope N_Base_has_item
    ["self", "value"] (defScope s_Base_has_item) :=
  ⟨rfl, rfl, rfl, by decide +kernel, rfl,
    by decide +kernel, by decide +kernel⟩
abbrev s_Base_position_of : Stmt := inClass (topS 12) 6
abbrev N_Base_position_of : List Str := ["self", "item"]
theorem sc_Base_position_of : FnScope N_Base_position_of
    ["self", "item"] (defScope s_Base_position_of) :=
  ⟨rfl, rfl, rfl, by decide +kernel, rfl,
    by decide +kernel, by decide +kernel⟩
abbrev s_Base_precedes : Stmt := inClass (topS 12) 7
abbrev N_Base_precedes : List Str := ["self", "first", "second"]
theorem sc_Base_precedes : FnScope N_Base_precedes
    ["self", "first", "second"] (defScope s_Base_precedes) :=
  ⟨rfl, rfl, rfl, by decide +kernel, rfl,
    by decide +kernel, by decide +kernel⟩
abbrev s_order_fault : Stmt := topS 13
abbrev N_order_fault : List Str := ["base", "value", "at", "name"]
theorem sc_order_fault : FnScope N_order_fault
    ["base", "value"] (defScope s_order_fault) :=
  ⟨rfl, rfl, rfl, by decide +kernel, rfl,
    by decide +kernel, by decide +kernel⟩
abbrev s_check_order : Stmt := topS 14
abbrev N_check_order : List Str := ["base", "order", "fault"]
theorem sc_check_order : FnScope N_check_order
    ["base", "order"] (defScope s_check_order) :=
  ⟨rfl, rfl, rfl, by decide +kernel, rfl,
    by decide +kernel, by decide +kernel⟩
abbrev s_inverted_pairs : Stmt := topS 15
abbrev N_inverted_pairs : List Str := ["base", "order", "places", "name", "at", "names", "first", "second"]
theorem sc_inverted_pairs : FnScope N_inverted_pairs
    ["base", "order"] (defScope s_inverted_pairs) :=
  ⟨rfl, rfl, rfl, by decide +kernel, rfl,
    by decide +kernel, by decide +kernel⟩
abbrev s_is_pair : Stmt := topS 17
abbrev N_is_pair : List Str := ["base", "value"]
theorem sc_is_pair : FnScope N_is_pair
    ["base", "value"] (defScope s_is_pair) :=
  ⟨rfl, rfl, rfl, by decide +kernel, rfl,
    by decide +kernel, by decide +kernel⟩
abbrev s_is_within : Stmt := topS 19
abbrev N_is_within : List Str := ["base", "order", "other", "inner", "outer", "pair"]
theorem sc_is_within : FnScope N_is_within
    ["base", "order", "other"] (defScope s_is_within) :=
  ⟨rfl, rfl, rfl, by decide +kernel, rfl,
    by decide +kernel, by decide +kernel⟩
abbrev s_is_arc : Stmt := topS 21
abbrev N_is_arc : List Str := ["base", "value", "lower", "upper", "passed", "name", "path", "left", "right"]
theorem sc_is_arc : FnScope N_is_arc
    ["base", "value"] (defScope s_is_arc) :=
  ⟨rfl, rfl, rfl, by decide +kernel, rfl,
    by decide +kernel, by decide +kernel⟩
abbrev s_names_between : Stmt := topS 22
abbrev N_names_between : List Str := ["base", "lower", "upper"]
theorem sc_names_between : FnScope N_names_between
    ["base", "lower", "upper"] (defScope s_names_between) :=
  ⟨rfl, rfl, rfl, by decide +kernel, rfl,
    by decide +kernel, by decide +kernel⟩
abbrev s_arcs_of : Stmt := topS 23
abbrev N_arcs_of : List Str := ["base", "order", "found", "at", "upper", "lower", "passed", "name"]
theorem sc_arcs_of : FnScope N_arcs_of
    ["base", "order"] (defScope s_arcs_of) :=
  ⟨rfl, rfl, rfl, by decide +kernel, rfl,
    by decide +kernel, by decide +kernel⟩
abbrev s_order_of_arc : Stmt := topS 24
abbrev N_order_of_arc : List Str := ["base", "arc", "lower", "upper", "passed", "low", "high", "others", "name", "names"]
theorem sc_order_of_arc : FnScope N_order_of_arc
    ["base", "arc"] (defScope s_order_of_arc) :=
  ⟨rfl, rfl, rfl, by decide +kernel, rfl,
    by decide +kernel, by decide +kernel⟩
abbrev s_is_arc_within : Stmt := topS 25
abbrev N_is_arc_within : List Str := ["base", "arc", "order"]
theorem sc_is_arc_within : FnScope N_is_arc_within
    ["base", "arc", "order"] (defScope s_is_arc_within) :=
  ⟨rfl, rfl, rfl, by decide +kernel, rfl,
    by decide +kernel, by decide +kernel⟩
abbrev s_Lrng : Stmt := topS 27
abbrev N_Lrng : List Str := ["_law_script", "_law_k", "_law_cell"]
theorem sc_Lrng : FnScope N_Lrng
    ["_law_script", "_law_k"] (defScope s_Lrng) :=
  ⟨rfl, rfl, rfl, by decide +kernel, rfl,
    by decide +kernel, by decide +kernel⟩
abbrev s_Ldraw : Stmt := topS 28
abbrev N_Ldraw : List Str := ["_law_rng_here", "_law_many", "_law_digit"]
theorem sc_Ldraw : FnScope N_Ldraw
    ["_law_rng_here", "_law_many"] (defScope s_Ldraw) :=
  ⟨rfl, rfl, rfl, by decide +kernel, rfl,
    by decide +kernel, by decide +kernel⟩
abbrev s_Lname : Stmt := topS 29
abbrev N_Lname : List Str := ["_law_rng_here", "_law_used", "_law_letters", "_law_length", "_law_name_here", "_law_k", "_law_fresh", "_law_one"]
theorem sc_Lname : FnScope N_Lname
    ["_law_rng_here", "_law_used"] (defScope s_Lname) :=
  ⟨rfl, rfl, rfl, by decide +kernel, rfl,
    by decide +kernel, by decide +kernel⟩
abbrev s_Lnames : Stmt := topS 30
abbrev N_Lnames : List Str := ["_law_rng_here", "_law_many", "_law_used", "_law_result", "_law_k"]
theorem sc_Lnames : FnScope N_Lnames
    ["_law_rng_here", "_law_many", "_law_used"] (defScope s_Lnames) :=
  ⟨rfl, rfl, rfl, by decide +kernel, rfl,
    by decide +kernel, by decide +kernel⟩
abbrev s_Lshuffled : Stmt := topS 31
abbrev N_Lshuffled : List Str := ["_law_rng_here", "_law_values", "_law_pool", "_law_k"]
theorem sc_Lshuffled : FnScope N_Lshuffled
    ["_law_rng_here", "_law_values"] (defScope s_Lshuffled) :=
  ⟨rfl, rfl, rfl, by decide +kernel, rfl,
    by decide +kernel, by decide +kernel⟩
abbrev s_Lnear_order : Stmt := topS 32
abbrev N_Lnear_order : List Str := ["_law_rng_here", "_law_order", "_law_many", "_law_result", "_law_turn", "_law_k"]
theorem sc_Lnear_order : FnScope N_Lnear_order
    ["_law_rng_here", "_law_order", "_law_many"] (defScope s_Lnear_order) :=
  ⟨rfl, rfl, rfl, by decide +kernel, rfl,
    by decide +kernel, by decide +kernel⟩
abbrev s_Linverted : Stmt := topS 33
abbrev N_Linverted : List Str := ["_law_items", "_law_order", "_law_place", "_law_item", "_law_k", "_law_result", "_law_first", "_law_second"]
theorem sc_Linverted : FnScope N_Linverted
    ["_law_items", "_law_order"] (defScope s_Linverted) :=
  ⟨rfl, rfl, rfl, by decide +kernel, rfl,
    by decide +kernel, by decide +kernel⟩
abbrev s_Larcs : Stmt := topS 34
abbrev N_Larcs : List Str := ["_law_items", "_law_order", "_law_found", "_law_lower", "_law_at", "_law_upper", "_law_between", "_law_item"]
theorem sc_Larcs : FnScope N_Larcs
    ["_law_items", "_law_order"] (defScope s_Larcs) :=
  ⟨rfl, rfl, rfl, by decide +kernel, rfl,
    by decide +kernel, by decide +kernel⟩
abbrev s_Larc_order : Stmt := topS 35
abbrev N_Larc_order : List Str := ["_law_items", "_law_arc", "_law_lower", "_law_upper", "_law_passed", "_law_low", "_law_high", "_law_left", "_law_item", "_law_right"]
theorem sc_Larc_order : FnScope N_Larc_order
    ["_law_items", "_law_arc"] (defScope s_Larc_order) :=
  ⟨rfl, rfl, rfl, by decide +kernel, rfl,
    by decide +kernel, by decide +kernel⟩
abbrev s_Lsome_arc : Stmt := topS 36
abbrev N_Lsome_arc : List Str := ["_law_rng_here", "_law_items", "_law_low", "_law_high", "_law_passed", "_law_item"]
theorem sc_Lsome_arc : FnScope N_Lsome_arc
    ["_law_rng_here", "_law_items"] (defScope s_Lsome_arc) :=
  ⟨rfl, rfl, rfl, by decide +kernel, rfl,
    by decide +kernel, by decide +kernel⟩
abbrev s_Larc_right : Stmt := topS 37
abbrev N_Larc_right : List Str := ["_law_base", "_law_items", "_law_arc", "_law_order", "_law_due", "_law_kept", "_law_told", "_law_known", "_law_pair", "_law_is_inside"]
theorem sc_Larc_right : FnScope N_Larc_right
    ["_law_base", "_law_items", "_law_arc", "_law_order"] (defScope s_Larc_right) :=
  ⟨rfl, rfl, rfl, by decide +kernel, rfl,
    by decide +kernel, by decide +kernel⟩
abbrev s_law : Stmt := topS 38
abbrev N_law : List Str := ["_law_script", "_law_k", "_law_rng_here", "_law_most", "_law_size", "_law_items", "_law_base", "_law_turn", "_law_order", "_law_own", "_law_arc", "_law_other", "_law_some", "_law_turn_again"]
theorem sc_law : FnScope N_law
    ["_law_script"] (defScope s_law) :=
  ⟨rfl, rfl, rfl, by decide +kernel, rfl,
    by decide +kernel, by decide +kernel⟩
end OM
namespace OM
open PySem PySem.Spec PyProof.Rows L2
section
variable {P : Program} {w : World} {K : PySem.W.Frag}
  {mg : Str → Option Value} {base : Heap}
theorem at0 (x y : V) : atI [x, y] 0 = some x := atI_nat (j := 0) rfl
theorem at1 (x y : V) : atI [x, y] 1 = some y := atI_nat (j := 1) rfl
theorem ok_draw {f : Addr} {fd : FuncData} {k : Nat}
    (F : Fun K "_law_draw" "_law_draw" s_Ldraw f fd) (B : Bl mg) :
    FnOk P w K mg base CX0 (k + 1) f fd ["_law_rng_here", "_law_many"]
      spDraw := by
  refine F.ok sc_Ldraw (fun vs H Q E h => ?_)
    (fun cv A outer s H vs Q E hr h => ?_)
  · obtain ⟨p, m, rfl, _⟩ := h
    rfl
  obtain ⟨p, m, rfl, rg, m0, m1, q⟩ := h
  obtain ⟨a, b, hp, a0, b0, b1⟩ := rg
  have nd := sc_Ldraw.nd
  refine ⟨_, pss_cons (ps_if (pt_cmpR op_gt
      (pe_ix ix_list (pv 0) pe_int (fun _ _ => rfl)) pe_int (nomark _))
      (pss_cons (ps_asg (pe_callB call_divmod (by rfl) B.divmod bt_divmod
          (pa_cons (pe_ix ix_list (pv 0) pe_int (fun _ _ => rfl))
            (pa_cons (pv 1) pa_nil)))
        (pg_tup rfl (pgs_cons (pg_sub (pv 0) pe_int set_list)
          (pgs_cons (pg_name (i := 2) nd rfl (.inl rfl)) pgs_nil))))
        (pss_one (ps_ret (pv 2)))) pss_nil)
    (pss_cons (ps_asg (pe_op op_mod (pe_op op_add (pe_op op_mul
        (pe_ix ix_list (pv 0) pe_int (fun _ _ => rfl)) pe_int) pe_int) pe_int)
        (pg_sub (pv 0) pe_int set_list))
    (pss_one (ps_ret (pe_op op_mod (pe_op op_fdiv (pe_op op_mod (pe_op op_mul
        (pe_ix ix_list (pv 0) pe_int (fun _ _ => rfl))
        (pe_ix ix_list (pv 0) pe_int (fun _ _ => rfl))) pe_int) pe_int)
        (pv 1))))), ?_⟩
  refine ⟨_, rfl, p, _, 0, _, rfl, rfl, SqL.of hp, at0 _ _, _, _, rfl, rfl,
    _, rfl, ite2 (fun c => ?_) (fun c => ?_)⟩
  · have c' : 0 < a := of_decide_eq_true c
    refine ⟨_, rfl, p, _, 0, _, rfl, rfl, SqL.of hp, at0 _ _, _, rfl, a, m,
      rfl, ⟨m0, by omega⟩, fun t nt => ?_⟩
    have nt' : p ≠ t := ne_of_none hp nt
    have hp' : (upd H t (.tup [.int (a / m), .int (a % m)])) p =
        some (.lst [.int a, .int b]) := by rw [upd_ne nt']; exact hp
    refine ⟨t, _, rfl, .inl (.inl upd_same), rfl, _, _, rfl, _, rfl, p, _, 0,
      0, rfl, rfl, hp', rfl, _, _, rfl, rfl, _, rfl, ?_⟩
    refine q _ _ (Int.emod_nonneg _ (by omega)) (Int.emod_lt_of_pos _ m0)
      ⟨a / m, b, upd_same, Int.ediv_nonneg a0 (by omega), b0, b1⟩ ?_
    exact ((But.refl H).new nt).at
  · have b2 : 0 ≤ (b * 48271 + 10007) % 2147483587 :=
      Int.emod_nonneg _ (by decide)
    have b3 : (b * 48271 + 10007) % 2147483587 < 2147483587 :=
      Int.emod_lt_of_pos _ (by decide)
    refine ⟨_, rfl, p, _, 1, _, rfl, rfl, SqL.of hp, at1 _ _, _, _, rfl, rfl,
      .inl ⟨by omega, by omega⟩, _, _, rfl, rfl, _, _, rfl, rfl,
      (by show (0 : Int) < 2147483587; decide), _, rfl, p, _, 1, 1, rfl, rfl,
      hp, rfl, ?_⟩
    have hp' : (upd H p (.lst [.int a,
        .int ((b * 48271 + 10007) % 2147483587)])) p = _ := upd_same
    refine ⟨_, rfl, p, _, 1, _, rfl, rfl, SqL.of hp', at1 _ _, _, rfl, p, _,
      1, _, rfl, rfl, SqL.of hp', at1 _ _, _, _, rfl, rfl,
      .inl ⟨by omega, by omega⟩, _, _, rfl, rfl,
      (by show (0 : Int) < 2147483549; decide), _, _, rfl, rfl,
      ⟨by decide, by decide⟩, _, rfl, _, _, rfl, rfl, m0, ?_⟩
    refine q _ _ (Int.emod_nonneg _ (by omega)) (Int.emod_lt_of_pos _ m0)
      ⟨a, _, upd_same, a0, b2, by omega⟩ (But.refl H).at
end
end OM
namespace OM
open PySem PySem.Spec PyProof.Rows L2
section
variable {P : Program} {w : World} {K : PySem.W.Frag}
  {mg : Str → Option Value} {base : Heap}
theorem ifx_cut {tA : TT} {ta tb : TE} {σ : L2.St} {H : Hp} {R : VK}
    (v : V) (h : ∀ R : VK, R v H → tIf tA ta tb σ H R) (k : R v H) :
    tIf tA ta tb σ H R := h R k
theorem ok_rng {f : Addr} {fd : FuncData} {k : Nat}
    (F : Fun K "_law_rng" "_law_rng" s_Lrng f fd) (B : Bl mg) :
    FnOk P w K mg base CX0 (k + 1) f fd ["_law_script", "_law_k"]
      (spRng K) := by
  refine F.ok sc_Lrng (fun vs H Q E h => ?_)
    (fun cv A outer s H vs Q E hr h => ?_)
  · obtain ⟨a, ns, k, rfl, _⟩ := h
    rfl
  obtain ⟨a, ns, n, rfl, hS, hn, q⟩ := h
  have nd := sc_Lrng.nd
  refine ⟨_, pss_cons (ps_set (i := 2) nd rfl (.inl rfl) (pe_ifExp
      (pt_cmpR op_lt (pv 1) (pe_callB call_len_seq (by rfl) B.len
        PySem.boot_len (pa_cons (pv 0) pa_nil)) (nomark _))
      (pe_callB call_abs (by rfl) B.abs bt_abs
        (pa_cons (pe_ix ix_list (pv 0) (pv 1) (fun _ _ => rfl)) pa_nil))
      pe_int))
    (pss_one (ps_ret (pe_lst (pa_cons
      (pe_callB (call_max2 rfl) (by rfl) B.max bt_max
        (pa_cons pe_int (pa_cons (pe_op op_sub (pv 2)
          (pe_op op_pow pe_int pe_int)) pa_nil)))
      (pa_cons (pe_op op_add (pe_op op_mod (pe_op op_pow
        (pe_op op_add (pe_op op_add (pe_op op_mod (pv 2) pe_int)
          (pe_op op_mul pe_int (pv 1))) pe_int) pe_int) pe_int) pe_int)
        pa_nil))))), ?_⟩
  obtain ⟨c, hc⟩ : ∃ c : Int, (n < ns.length → c =
      if ns.getD n 0 < 0 then - ns.getD n 0 else ns.getD n 0) ∧
      (¬ n < ns.length → c = 0) := by
    by_cases h : n < ns.length
    · exact ⟨_, fun _ => rfl, fun z => absurd h z⟩
    · exact ⟨0, fun z => absurd z h, fun _ => rfl⟩
  refine ifx_cut (.int c) (fun R hR => ?_) ?_
  · refine ⟨_, rfl, _, rfl, a, _, rfl, .inl hS, _, _, rfl, rfl, _, rfl,
      ite2 (fun z => ?_) (fun z => ?_)⟩
    · have z' : (n : Int) < ((ns.map V.int).length : Int) :=
        of_decide_eq_true z
      rw [List.length_map] at z'
      have hn' : n < ns.length := by omega
      have g : (ns.map V.int)[n]? = some (.int (ns.getD n 0)) := by
        rw [List.getElem?_map, List.getElem?_eq_getElem hn',
          List.getD_eq_getElem?_getD, List.getElem?_eq_getElem hn']
        rfl
      refine ⟨_, rfl, _, rfl, a, _, n, _, rfl, rfl, hS, atI_nat g, _, rfl, ?_⟩
      rw [← hc.1 hn']
      exact hR
    · have z' : ¬ n < ns.length := fun y => z (decide_eq_true (by
        rw [List.length_map]; omega))
      rw [hc.2 z'] at hR
      exact hR
  · have c0 : 0 ≤ c % 2147483543 := Int.emod_nonneg _ (by decide)
    have c1 : c % 2147483543 < 2147483543 :=
      Int.emod_lt_of_pos _ (by decide)
    refine ⟨_, rfl, _, _, rfl, rfl, ⟨by decide, by decide, by decide⟩, _, _,
      rfl, rfl, _, _, rfl, _, rfl, _, _, rfl, rfl,
      (by show (0 : Int) < 2147483543; decide), _, rfl, _, _, rfl, rfl,
      .inl ⟨by decide, by decide⟩, _, _, rfl, rfl, _, _, rfl, rfl, _, _, rfl,
      rfl, ⟨by decide, by decide, by omega⟩, _, _, rfl, rfl,
      (by show (0 : Int) < 2147483497; decide), _, _, rfl, rfl,
      (by show 2 ≤ sizeLine; decide), fun p np => ?_⟩
    generalize hb : ((c % 2147483543 + 101 * (n : Int) + 7) ^
      (2 : Int).toNat) % 2147483497 = b
    have b0 : 0 ≤ b := by rw [← hb]; exact Int.emod_nonneg _ (by decide)
    have b1 : b < 2147483497 := by
      rw [← hb]; exact Int.emod_lt_of_pos _ (by decide)
    refine q p _ np ⟨_, b + 1, upd_same, ?_, by omega, by omega⟩
      (sameNew np)
    split <;> omega
end
end OM
namespace OM
open PySem PySem.Spec PyProof.Rows L2
abbrev lets : Str := "abcdefghijklmnopqrstuvwxyz"
theorem lets_tl : lets.cps.toList = List.range' 97 26 := by decide +kernel
theorem lets_at {i : Int} (h0 : 0 ≤ i) (h1 : i < 26) :
    atI lets.cps.toList i = some (97 + i.toNat) := by
  have e : i = ((i.toNat : Nat) : Int) := by omega
  rw [e, lets_tl]
  refine atI_nat ?_
  rw [Int.toNat_natCast, List.getElem?_range' (by omega)]
  simp
theorem yes {σ : L2.St} {H : Hp} {A B : Hp → Prop} (h : A H) :
    tYes σ H fun b H' => if b = true then A H' else B H' :=
  iteT (B := B H) h
theorem joinL_ones : ∀ cs : List Nat,
    TL.joinL [] (cs.map fun c => [c]) = cs
  | [] => rfl
  | [c] => rfl
  | c :: d :: r => by
    have ih := joinL_ones (d :: r)
    show [c] ++ [] ++ TL.joinL [] ((d :: r).map fun c => [c]) = _
    rw [ih]
    rfl
def nmB (l : List Nat) : Bool :=
  decide (1 ≤ l.length) && decide (l.length ≤ 8) &&
    l.all fun c => decide (97 ≤ c) && decide (c ≤ 122)
theorem nmB_iff {l : List Nat} : nmB l = true ↔ Nm l := by
  unfold nmB
  simp only [Bool.and_eq_true, decide_eq_true_eq, List.all_eq_true]
  exact ⟨fun ⟨⟨a, b⟩, c⟩ => ⟨a, b, c⟩, fun n => ⟨⟨n.lo, n.hi⟩, n.az⟩⟩
theorem nm_of (x : Str) (h : nmB x.cps.toList = true) :
    ∃ l, (.str x : V) = vS l ∧ Nm l :=
  ⟨x.cps.toList, by rw [vS, SX.S_tl], nmB_iff.mp h⟩
/-- an item of eight written ones -/
theorem at8 {α : Type} {P : α → Prop} {a b c d e f g h : α} {i : Int}
    (h0 : 0 ≤ i) (h1 : i < 8) (pa : P a) (pb : P b) (pc : P c) (pd : P d)
    (pe : P e) (pf : P f) (pg : P g) (ph : P h) :
    ∃ v, atI [a, b, c, d, e, f, g, h] i = some v ∧ P v := by
  have e : i = 0 ∨ i = 1 ∨ i = 2 ∨ i = 3 ∨ i = 4 ∨ i = 5 ∨ i = 6 ∨ i = 7 := by
    omega
  rcases e with rfl | rfl | rfl | rfl | rfl | rfl | rfl | rfl
  · exact ⟨a, rfl, pa⟩
  · exact ⟨b, rfl, pb⟩
  · exact ⟨c, rfl, pc⟩
  · exact ⟨d, rfl, pd⟩
  · exact ⟨_, rfl, pe⟩
  · exact ⟨f, rfl, pf⟩
  · exact ⟨g, rfl, pg⟩
  · exact ⟨h, rfl, ph⟩
theorem at4 {α : Type} {P : α → Prop} {a b c d : α} {i : Int}
    (h0 : 0 ≤ i) (h1 : i < 4) (pa : P a) (pb : P b) (pc : P c) (pd : P d) :
    ∃ v, atI [a, b, c, d] i = some v ∧ P v := by
  have e : i = 0 ∨ i = 1 ∨ i = 2 ∨ i = 3 := by omega
  rcases e with rfl | rfl | rfl | rfl
  · exact ⟨a, rfl, pa⟩
  · exact ⟨b, rfl, pb⟩
  · exact ⟨c, rfl, pc⟩
  · exact ⟨d, rfl, pd⟩
/-- a new name that is not among us -/
def spName (K : PySem.W.Frag) : Sp := fun vs H Q _ =>
  ∃ (p a : Addr) (us : List (List Nat)), vs = [.ref p, .ref a] ∧ Rng H p ∧
  SqL K H a (us.map vS) ∧ a ≠ p ∧ us.length ≤ 600 ∧
  ∀ (l : List Nat) (H' : Hp), Nm l → l ∉ us → Rng H' p → But p H H' →
    Q (vS l) H'
section
variable {P : Program} {w : World} {K : PySem.W.Frag}
  {mg : Str → Option Value} {base : Heap}
abbrev CalDraw (P : Program) (w : World) (K : PySem.W.Frag)
    (mg : Str → Option Value) (base : Heap) (k : Nat) : Prop :=
  Cal P w K mg base k "_law_draw" ["_law_rng_here", "_law_many"] spDraw
theorem ok_name {f : Addr} {fd : FuncData} {k : Nat}
    (F : Fun K "_law_name" "_law_name" s_Lname f fd) (B : Bl mg)
    (C : CalDraw P w K mg base k) :
    FnOk P w K mg base CX0 (k + 1) f fd ["_law_rng_here", "_law_used"]
      (spName K) := by
  refine F.ok sc_Lname (fun vs H Q E h => ?_)
    (fun cv A outer s H vs Q E hr h => ?_)
  · obtain ⟨p, a, us, rfl, _⟩ := h
    rfl
  obtain ⟨p, a, us, rfl, rg, hS, nap, hus, q⟩ := h
  have nd := sc_Lname.nd
  refine ⟨_, C8.pss_cut (ps_set (i := 2) nd rfl (.inr rfl) pe_str)
    (C8.pss_cut (ps_set (i := 3) nd rfl (.inl rfl) (pe_ix ix_list
      (pe_lst (pa_cons pe_int (pa_cons pe_int (pa_cons pe_int (pa_cons
        (pe_op op_add pe_int (pe_cal C hr (pa_cons (pv 0)
          (pa_cons pe_int pa_nil)))) pa_nil)))))
      (pe_cal C hr (pa_cons (pv 0) (pa_cons pe_int pa_nil)))
      (fun _ _ => rfl)))
    (C8.pss_cut (ps_set (i := 4) nd rfl (.inr rfl) (pe_join pe_str
      (pe_lc (own := [("_law_k", 5)]) (g := gName 5) (tt := tYes) rfl nd
        (pi_range1 (by rfl) B.range (pa_cons (pv 3) pa_nil))
        (blkOk_by (N := N_Lname) (sc := defScope s_Lname) (by decide +kernel))
        (fun _ _ _ _ _ => pg_name (i := 5) nd rfl (Or.inl rfl))
        (fun _ _ _ _ _ => pts_nil)
        (fun _ _ _ _ _ => pe_ix ix_str (pv 2)
          (pe_cal C hr (pa_cons (pv 0) (pa_cons pe_int pa_nil)))
          (fun _ _ => rfl)))))
    (C8.pss_cut (ps_if (pt_cmpR op_eq (pe_cal C hr (pa_cons (pv 0)
        (pa_cons pe_int pa_nil))) pe_int (nomark _))
      (pss_one (ps_set (i := 4) nd rfl (.inr rfl) (pe_ix ix_list
        (pe_lst (pa_cons pe_str (pa_cons pe_str (pa_cons pe_str (pa_cons
          pe_str (pa_cons pe_str (pa_cons pe_str (pa_cons pe_str (pa_cons
          pe_str pa_nil)))))))))
        (pe_cal C hr (pa_cons (pv 0) (pa_cons pe_int pa_nil)))
        (fun _ _ => rfl)))) pss_nil)
    (C8.pss_cut (ps_set (i := 6) nd rfl (.inl rfl) (pe_op op_cat
      (pe_lst (pa_cons (pv 4) pa_nil))
      (pe_lc (own := [("_law_k", 5)]) (g := gName 5) (tt := tYes) rfl nd
        (pi_range1 (by rfl) B.range (pa_cons pe_int pa_nil))
        (blkOk_by (N := N_Lname) (sc := defScope s_Lname) (by decide +kernel))
        (fun _ _ _ _ _ => pg_name (i := 5) nd rfl (Or.inl rfl))
        (fun _ _ _ _ _ => pts_nil)
        (fun _ _ _ _ _ => pe_op op_add_str (pe_op op_add_str
          (pe_slice sl_str (pv 4) po_none (po_some pe_int))
          (pe_ix ix_str (pv 2) (pe_op op_fdiv (pv 5) pe_int)
            (fun _ _ => rfl)))
          (pe_ix ix_str (pv 2) (pe_op op_mod (pv 5) pe_int)
            (fun _ _ => rfl))))))
    (pss_one (ps_ret (pe_ix ix_list
      (pe_lc (own := [("_law_one", 7)]) (g := gName 7) rfl nd
        (pi_list (pv 6))
        (blkOk_by (N := N_Lname) (sc := defScope s_Lname) (by decide +kernel))
        (fun _ _ _ _ _ => pg_name (i := 7) nd rfl (Or.inl rfl))
        (fun _ _ _ _ _ => pts_one (pt_cmpR (r := rIn K true) op_notIn_seq (pv 7) (pv 1) (by rfl)))
        (fun _ _ _ _ _ => pv 7))
      pe_int (fun _ _ => rfl)))))))), ?_⟩
  -- letters
  refine ⟨fun σ' H' => σ' = [some (.ref p), some (.ref a), some (.str lets),
    none, none, none, none, none] ∧ H = H', ⟨rfl, rfl⟩, ?_⟩
  rintro _ _ ⟨rfl, rfl⟩
  -- length
  refine ⟨fun σ' H' => ∃ n : Int, 1 ≤ n ∧ n ≤ 8 ∧ σ' = [some (.ref p),
    some (.ref a), some (.str lets), some (.int n), none, none, none, none] ∧
    Rng H' p ∧ But p H H', ?_, ?_⟩
  · refine ⟨_, rfl, p, 8, rfl, rg, by decide, by decide,
      fun d H1 d0 d1 rg1 b1 => ⟨_, _, rfl, rfl, sz (by simp), fun t nt =>
      ⟨_, rfl, p, 4, rfl, rg1.same (sameNew nt), by decide, by decide,
      fun d2 H2 e0 e1 rg2 b2 => ?_⟩⟩⟩
    have ne : t ≠ p := (rg1.ne nt).symm
    obtain ⟨v, hv, n, rfl, n0, n1⟩ := at4 (a := V.int 1) (b := V.int 1)
      (c := V.int 2) (d := V.int (1 + d))
      (P := fun v => ∃ n : Int, v = .int n ∧ 1 ≤ n ∧ n ≤ 8) e0 e1
      ⟨1, rfl, by omega, by omega⟩ ⟨1, rfl, by omega, by omega⟩
      ⟨2, rfl, by omega, by omega⟩ ⟨1 + d, rfl, by omega, by omega⟩
    exact ⟨t, _, d2, _, rfl, rfl, SqL.of (b2 t _ upd_same ne), hv, n, n0, n1,
      rfl, rg2, (b1.put nt ne).trans b2⟩
  rintro _ H1 ⟨n, n0, n1, rfl, rg1, b1⟩
  -- the letters drawn
  refine ⟨fun σ' H' => ∃ l, Nm l ∧ σ' = [some (.ref p), some (.ref a),
    some (.str lets), some (.int n), some (vS l), none, none, none] ∧
    Rng H' p ∧ But p H H', ?_, ?_⟩
  · refine ⟨⟨_, rfl⟩, _, rfl, n, rfl, by omega, by omega, fun D nD => ?_⟩
    have ne : D ≠ p := (rg1.ne nD).symm
    refine lc_range (lo := 0) (n := n.toNat) (fun i H' => ∃ cs : List Nat,
      cs.length = i ∧ (∀ c ∈ cs, 97 ≤ c ∧ c ≤ 122) ∧
      H' D = some (.lst (cs.map fun c => vS [c])) ∧ Rng H' p ∧ But p H H')
      ⟨[], rfl, nofun, upd_same, rg1.same (sameNew nD), b1.put nD ne⟩ ?_ ?_
    · rintro i H2 hi ⟨cs, hl, az, hD, rg2, b2⟩
      refine ⟨rfl, yes ⟨_, rfl, _, rfl, p, 26, rfl, rg2, by decide,
        by decide, fun d H3 d0 d1 rg3 b3 => ⟨_, d, _, rfl, rfl,
        sz (by decide), lets_at d0 d1, _, b3 D _ hD ne, ?_, cs ++
        [97 + d.toNat], ?_, ?_, ?_, ?_, ?_⟩⟩⟩
      · rw [List.length_map]
        exact sz' (by omega)
      · rw [List.length_append, hl]
        rfl
      · intro c hc
        rcases List.mem_append.mp hc with h | h
        · exact az c h
        · rcases List.mem_cons.mp h with h | h
          · omega
          · cases h
      · rw [upd_same, List.map_append]
        rfl
      · exact rg3.but (But.at (p := D) (But.refl H3)) ne.symm
      · exact (b2.trans b3).new (b1.free ne nD)
    · rintro H2 ⟨cs, hl, az, hD, rg2, b2⟩
      refine ⟨_, D, cs.map fun c => SX.S [c], rfl, rfl,
        .inl (SqL.of (by rw [List.map_map]; exact hD)), ?_, cs,
        ⟨by omega, by omega, az⟩, ?_, rg2, b2⟩
      · have e1 : ((cs.map fun c => SX.S [c]).map fun x => x.length).sum =
            cs.length := by
          rw [List.map_map]
          clear hl az hD
          induction cs with
          | nil => rfl
          | cons c cs ih =>
            rw [List.map_cons, List.sum_cons, ih, List.length_cons]
            show 1 + cs.length = cs.length + 1
            omega
        rw [e1, List.length_map, show (Str.ofString "").length = 0 from rfl]
        omega
      · have e2 : Txt.join (Str.ofString "") (cs.map fun c => SX.S [c]) =
            SX.S cs := by
          have := SX.join_S [] (cs.map fun c => [c])
          rw [List.map_map, joinL_ones] at this
          exact this
        rw [e2]
        rfl
  rintro _ H2 ⟨l, nl, rfl, rg2, b2⟩
  -- a command's name
  refine ⟨fun σ' H' => ∃ l, Nm l ∧ σ' = [some (.ref p), some (.ref a),
    some (.str lets), some (.int n), some (vS l), none, none, none] ∧
    Rng H' p ∧ But p H H', ?_, ?_⟩
  · refine ⟨_, rfl, p, 8, rfl, rg2, by decide, by decide,
      fun d H3 d0 d1 rg3 b3 => ⟨rfl, _, rfl, ite2 (fun _ => ?_)
        (fun _ => ⟨l, nl, rfl, rg3, b2.trans b3⟩)⟩⟩
    refine ⟨sz (by decide), fun t nt => ⟨_, rfl, p, 8, rfl,
      rg3.same (sameNew nt), by decide, by decide,
      fun d2 H4 e0 e1 rg4 b4 => ?_⟩⟩
    have ne : t ≠ p := (rg3.ne nt).symm
    obtain ⟨v, hv, l', rfl, nl'⟩ := at8 (P := fun v => ∃ l, v = vS l ∧ Nm l)
      e0 e1 (nm_of "swap" (by decide +kernel)) (nm_of "move" (by decide +kernel))
      (nm_of "base" (by decide +kernel)) (nm_of "users" (by decide +kernel))
      (nm_of "merged" (by decide +kernel)) (nm_of "log" (by decide +kernel))
      (nm_of "ok" (by decide +kernel)) (nm_of "undo" (by decide +kernel))
    exact ⟨t, _, d2, _, rfl, rfl, SqL.of (b4 t _ upd_same ne), hv, l', nl',
      rfl, rg4, ((b2.trans b3).put nt ne).trans b4⟩
  clear nl rg2 b2
  rintro _ H2 ⟨l, nl, rfl, rg2, b2⟩
  -- names to fall back upon
  refine ⟨fun σ' H' => ∃ fr, σ' = [some (.ref p), some (.ref a),
    some (.str lets), some (.int n), some (vS l), none, some (.ref fr), none]
    ∧ fr ≠ p ∧ H' fr = some (.lst ((fresh l).map vS)) ∧
    Rng H' p ∧ But p H H', ?_, ?_⟩
  · refine ⟨_, rfl, sz (by simp), fun t nt => ?_⟩
    have ne : t ≠ p := (rg2.ne nt).symm
    refine ⟨676, rfl, by decide, by decide, fun D nD => ?_⟩
    have rg3 : Rng (upd H2 t (.lst [vS l])) p := rg2.same (sameNew nt)
    have neD : D ≠ p := (rg3.ne nD).symm
    have net : t ≠ D := fun e => by rw [← e, upd_same] at nD; cases nD
    have b3 : But p H (upd H2 t (.lst [vS l])) := b2.put nt ne
    refine lc_range (lo := 0) (n := 676) (fun i H' =>
      H' D = some (.lst (((List.range i).map (frs6 l)).map vS)) ∧
      H' t = some (.lst [vS l]) ∧ Rng H' p ∧ But p H H')
      ⟨upd_same, by rw [upd_ne net, upd_same], rg3.same (sameNew nD),
        b3.put nD neD⟩ ?_ ?_
    · rintro i H4 hi ⟨hD, ht, rg4, b4⟩
      have f1 : 0 ≤ (0 + (i : Int)) / 26 := by omega
      have f2 : (0 + (i : Int)) / 26 < 26 := by omega
      have f3 : 0 ≤ (0 + (i : Int)) % 26 := by omega
      have f4 : (0 + (i : Int)) % 26 < 26 := by omega
      have ll := nl.hi
      have ec : cutS (SX.S l) none (some 6) = SX.S (l.take 6) := by
        rw [C8.cutS_slice, SX.slice_to (by decide)]
        rfl
      refine ⟨rfl, yes ⟨_, rfl, 6, rfl, SX.S l, rfl,
        sz (by rw [SX.S_len]; omega), _, rfl, _, rfl, _, _, rfl, rfl,
        ⟨by decide, by decide⟩, _, _, _, rfl, rfl, sz (by decide),
        lets_at f1 f2, _, _, rfl, rfl, ?_, _, rfl, _, rfl, _, _, rfl, rfl,
        (by show (0 : Int) < 26; decide), _, _, _, rfl, rfl, sz (by decide),
        lets_at f3 f4, _, _, rfl, rfl, ?_, _, hD, ?_, ?_, ?_, ?_, ?_⟩⟩
      · rw [ec, SX.S_len, List.length_take]
        show min 6 l.length + 1 ≤ _
        exact sz (by omega)
      · rw [ec, strLen_append, SX.S_len, List.length_take]
        show min 6 l.length + 1 + 1 ≤ _
        exact sz (by omega)
      · rw [List.length_map, List.length_map, List.length_range]
        exact sz' (by omega)
      · rw [upd_same, ec]
        have e5 : SX.S (l.take 6) ++ (⟨#[97 + ((0 + (i : Int)) / 26).toNat]⟩ :
            Str) ++ ⟨#[97 + ((0 + (i : Int)) % 26).toNat]⟩ =
            SX.S (frs6 l i) := by
          have e6 : ((0 + (i : Int)) / 26).toNat = i / 26 := by omega
          have e7 : ((0 + (i : Int)) % 26).toNat = i % 26 := by omega
          rw [e6, e7]
          show SX.S (l.take 6) ++ SX.S [97 + i / 26] ++ SX.S [97 + i % 26] = _
          rw [SX.S_cat, SX.S_cat]
          unfold frs6
          rw [List.append_assoc]
          rfl
        rw [e5, List.range_succ, List.map_append, List.map_append]
        rfl
      · rw [upd_ne net]
        exact ht
      · exact rg4.but (But.at (p := D) (But.refl H4)) neD.symm
      · exact b4.new (b3.free neD nD)
    · rintro H4 ⟨hD, ht, rg4, b4⟩
      refine ⟨t, D, _, _, rfl, rfl, ht, hD, ?_, fun fr nfr => ⟨fr, rfl,
        (rg4.ne nfr).symm, ?_, rg4.same (sameNew nfr),
        b4.put nfr (rg4.ne nfr).symm⟩⟩
      · rw [List.length_map, List.length_map, List.length_range]
        exact sz (by simp)
      · rw [upd_same]
        rfl
  clear rg2 b2
  rintro _ H3 ⟨fr, rfl, nfp, hfr, rg3, b3⟩
  -- the first one that is free
  refine ⟨_, rfl, fr, rfl, ⟨_, SqL.of hfr⟩, fun D nD => ?_⟩
  have neD : D ≠ p := (rg3.ne nD).symm
  have nfD : fr ≠ D := ne_of_none hfr nD
  have hS3 : SqL K H3 a (us.map vS) := b3.seq hS nap
  have naD : SqL K (upd H3 D (.lst [])) a (us.map vS) := (sameNew nD).seq hS3
  refine lc_list (K := K) (a := fr) (xs := (fresh l).map vS) (fun i H' =>
    H' D = some (.lst ((((fresh l).take i).filter
      (fun y => decide (y ∉ us))).map vS)) ∧
    H' fr = some (.lst ((fresh l).map vS)) ∧ Rng H' p ∧ But p H3 H' ∧
    SqL K H' a (us.map vS))
    ⟨upd_same, by rw [upd_ne nfD]; exact hfr, rg3.same (sameNew nD),
      (But.refl H3).put nD neD, naD⟩ (fun i H' _ z => SqL.of z.2.1) ?_ ?_
  · rintro i y H4 hy ⟨hD, hf, rg4, b4, hS4⟩
    rw [List.getElem?_map] at hy
    obtain ⟨x, hx, rfl⟩ : ∃ x, (fresh l)[i]? = some x ∧ vS x = y := by
      cases e : (fresh l)[i]? with
      | none => rw [e] at hy; cases hy
      | some x => rw [e] at hy; exact ⟨x, rfl, Option.some.inj hy⟩
    have et : (fresh l).take (i + 1) = (fresh l).take i ++ [x] := by
      rw [List.take_add_one, hx]
      rfl
    refine ⟨rfl, _, rfl, _, rfl, a, _, rfl, .inl hS4, rfl, flat_S us, _, rfl,
      ?_⟩
    rw [inV_S]
    have hlen : ((((fresh l).take i).filter
        (fun y => decide (y ∉ us))).map vS).length < sizeLine := by
      rw [List.length_map]
      refine sz' (Nat.lt_of_le_of_lt (List.length_filter_le _ _) ?_)
      rw [List.length_take]
      have : (fresh l).length = 677 := by
        unfold fresh
        rw [List.length_cons, List.length_map, List.length_range]
      omega
    by_cases hm : x ∈ us
    · rw [decide_eq_true hm]
      refine iteF ⟨?_, hf, rg4, b4, hS4⟩
      rw [hD, et, List.filter_append, List.filter_cons_of_neg (by simp [hm]),
        List.filter_nil, List.append_nil]
    · rw [decide_eq_false hm]
      refine iteT ⟨_, rfl, _, hD, hlen, ?_, ?_, ?_, ?_, ?_⟩
      · rw [upd_same, et, List.filter_append,
          List.filter_cons_of_pos (by simp [hm]), List.filter_nil,
          List.map_append]
        rfl
      · rw [upd_ne nfD]
        exact hf
      · exact rg4.but (But.at (p := D) (But.refl H4)) neD.symm
      · exact b4.new nD
      · have naD' : But D H4 (upd H4 D (.lst ((((fresh l).take i).filter
            (fun y => decide (y ∉ us))).map vS ++ [vS x]))) :=
          But.at (But.refl H4)
        by_cases had : a = D
        · subst had
          rcases hS3 with (h | ⟨o, h⟩) | h
          · rw [h] at nD; cases nD
          · rw [h] at nD; cases nD
          · exact .inr h
        · exact naD'.seq hS4 had
  · rintro H4 ⟨hD, hf, rg4, b4, hS4⟩
    obtain ⟨x, r, ex⟩ := fresh_some (l := l) (us := us) (by omega)
    rw [List.take_of_length_le (by rw [List.length_map]; exact Nat.le_refl _),
      ex] at hD
    have mx : x ∈ (fresh l).filter (fun y => decide (y ∉ us)) := by
      rw [ex]; exact List.mem_cons_self
    have mx' := List.mem_filter.mp mx
    exact ⟨D, _, 0, _, rfl, rfl, SqL.of hD, atI_nat (j := 0) rfl,
      q x H4 (fresh_nm nl x mx'.1) (of_decide_eq_true mx'.2) rg4
        (b3.trans b4)⟩
end
end OM
namespace OM
open PySem PySem.Spec PyProof.Rows L2
/-- some new names -/
def spNames : Sp := fun vs H Q _ =>
  ∃ (p u : Addr) (m : Nat) (us : List (List Nat)),
  vs = [.ref p, .int m, .ref u] ∧ Rng H p ∧ H u = some (.lst (us.map vS)) ∧
  u ≠ p ∧ m ≤ 100 ∧ us.length ≤ 400 ∧
  ∀ (q : Addr) (ls : List (List Nat)) (H' : Hp), H q = none →
    ls.length = m → (∀ l ∈ ls, Nm l) → ls.Nodup → (∀ l ∈ ls, l ∉ us) →
    H' q = some (.lst (ls.map vS)) → Rng H' p → But p H H' →
    Q (.ref q) H'
section
variable {P : Program} {w : World} {K : PySem.W.Frag}
  {mg : Str → Option Value} {base : Heap}
theorem ok_names {f : Addr} {fd : FuncData} {k : Nat}
    (F : Fun K "_law_names" "_law_names" s_Lnames f fd) (B : Bl mg)
    (C : Cal P w K mg base k "_law_name" ["_law_rng_here", "_law_used"]
      (spName K)) :
    FnOk P w K mg base CX0 (k + 1) f fd
      ["_law_rng_here", "_law_many", "_law_used"] spNames := by
  refine F.ok sc_Lnames (fun vs H Q E h => ?_)
    (fun cv A outer s H vs Q E hr h => ?_)
  · obtain ⟨p, u, m, us, rfl, _⟩ := h
    rfl
  obtain ⟨p, u, m, us, rfl, rg, hu, nup, hm, hus, q⟩ := h
  have nd := sc_Lnames.nd
  refine ⟨_, pss_cons (ps_set (i := 3) nd rfl (.inl rfl) (pe_lst pa_nil))
    (pss_cons (ps_for PassesOwn.never rfl
      (pi_range1 (by rfl) B.range (pa_cons (pv 1) pa_nil))
      (pg_name (i := 4) nd rfl (.inl rfl))
      (pss_one (ps_expr (pe_bm PySem.F.plainAttrs_list
        PySem.F.slot_list_append PySem.F.type_list_append mt_append (pv 3)
        (pa_cons (pe_cal C hr (pa_cons (pv 0) (pa_cons
          (pe_op op_cat (pv 2) (pv 3)) pa_nil))) pa_nil)))))
    (pss_one (ps_ret (pv 3)))), ?_⟩
  refine ⟨sz (by simp), fun r nr => ?_⟩
  have nrp : r ≠ p := (rg.ne nr).symm
  have nru : u ≠ r := ne_of_none hu nr
  refine ⟨_, rfl, m, rfl, by omega, by omega, ?_⟩
  refine for_range (lo := 0) (n := m) (fun i σ H' => ∃ (ls : List (List Nat))
      (v : Option V), σ = [some (.ref p), some (.int m), some (.ref u),
      some (.ref r), v] ∧ ls.length = i ∧ (∀ l ∈ ls, Nm l) ∧ ls.Nodup ∧
      (∀ l ∈ ls, l ∉ us) ∧ H' r = some (.lst (ls.map vS)) ∧ Rng H' p ∧
      But p H H')
    ⟨[], none, rfl, rfl, nofun, List.nodup_nil, nofun, upd_same,
      rg.same (sameNew nr), (But.refl H).put nr nrp⟩ ?_ ?_
  · rintro i σ H1 hi ⟨ls, v, rfl, hl, nm, nd1, no, h1, rg1, b1⟩
    refine ⟨_, rfl, .inl ⟨rfl, _, SqL.of h1⟩, _, rfl, _, rfl, _, rfl, u, r,
      _, _, rfl, rfl, b1 u _ hu nup, h1, ?_, fun t nt => ?_⟩
    · rw [List.length_map, List.length_map]
      exact sz (by omega)
    have ntp : t ≠ p := (rg1.ne nt).symm
    have ntr : r ≠ t := ne_of_none h1 nt
    refine ⟨p, t, us ++ ls, rfl, rg1.same (sameNew nt), ?_, ntp, ?_,
      fun l H2 nl ni rg2 b2 => ?_⟩
    · rw [List.map_append]
      exact SqL.of upd_same
    · rw [List.length_append]
      omega
    · have h2 : H2 r = some (.lst (ls.map vS)) :=
        b2 r _ (by rw [upd_ne ntr]; exact h1) nrp
      refine ⟨r, _, _, rfl, rfl, h2, ?_, ls ++ [l], _, rfl, ?_, ?_, ?_, ?_, ?_,
        ?_, ?_⟩
      · rw [List.length_map]
        exact sz' (by omega)
      · rw [List.length_append, hl]
        rfl
      · intro x hx
        rcases List.mem_append.mp hx with h | h
        · exact nm x h
        · rw [List.mem_singleton.mp h]
          exact nl
      · refine List.nodup_append.mpr ⟨nd1, by simp, ?_⟩
        intro x hx y hy e
        rw [List.mem_singleton.mp hy] at e
        exact ni (List.mem_append_right _ (e ▸ hx))
      · intro x hx
        rcases List.mem_append.mp hx with h | h
        · exact no x h
        · rw [List.mem_singleton.mp h]
          exact fun z => ni (List.mem_append_left _ z)
      · rw [upd_same, List.map_append]
        rfl
      · exact rg2.but (But.at (p := r) (But.refl H2)) nrp.symm
      · exact ((b1.put nt ntp).trans b2).new nr
  · rintro σ H1 ⟨ls, v, rfl, hl, nm, nd1, no, h1, rg1, b1⟩
    exact ⟨_, rfl, q r ls H1 nr hl nm nd1 no h1 rg1 b1⟩
end
end OM
namespace OM
open PySem PySem.Spec PyProof.Rows L2
theorem erase_perm {α : Type} {l : List α} {i : Nat} (h : i < l.length) :
    (l[i] :: l.eraseIdx i).Perm l := by
  rw [List.eraseIdx_eq_take_drop_succ]
  refine List.perm_middle.symm.trans ?_
  rw [← List.drop_eq_getElem_cons h, List.take_append_drop]
/-- the values in another sequence -/
def spShuf (K : PySem.W.Frag) : Sp := fun vs H Q _ =>
  ∃ (p a : Addr) (xs : List V), vs = [.ref p, .ref a] ∧ Rng H p ∧
  SqL K H a xs ∧ a ≠ p ∧ xs.length ≤ 1000 ∧
  ∀ (q : Addr) (ys : List V) (H' : Hp), H q = none → ys.Perm xs →
    H' q = some (.lst ys) → Rng H' p → But p H H' → Q (.ref q) H'
section
variable {P : Program} {w : World} {K : PySem.W.Frag}
  {mg : Str → Option Value} {base : Heap}
theorem ok_shuf {f : Addr} {fd : FuncData} {k : Nat}
    (F : Fun K "_law_shuffled" "_law_shuffled" s_Lshuffled f fd) (B : Bl mg)
    (C : CalDraw P w K mg base k) :
    FnOk P w K mg base CX0 (k + 1) f fd ["_law_rng_here", "_law_values"]
      (spShuf K) := by
  refine F.ok sc_Lshuffled (fun vs H Q E h => ?_)
    (fun cv A outer s H vs Q E hr h => ?_)
  · obtain ⟨p, a, xs, rfl, _⟩ := h
    rfl
  obtain ⟨p, a, xs, rfl, rg, hS, nap, hx, q⟩ := h
  have nd := sc_Lshuffled.nd
  refine ⟨_, pss_cons (ps_set (i := 2) nd rfl (.inr rfl)
      (pe_callTy call_list_of (by rfl) B.list bt_list (pa_cons (pv 1) pa_nil)))
    (pss_one (ps_ret
      (pe_lc (own := [("_law_k", 3)]) (g := gName 3) (tt := tYes)
        (te := tBM K "list" rPopAt (tVar 2) (tCons (tCall spDraw [] E0
          (tCons (tVar 0) (tCons (tCB (rLenK K) (tCons (tVar 2) tNil)) tNil)))
          tNil)) rfl nd
        (pi_range1 (by rfl) B.range (pa_cons
          (pe_callB call_len_seq (by rfl) B.len PySem.boot_len
            (pa_cons (pv 1) pa_nil)) pa_nil))
        (blkOk_by (N := N_Lshuffled) (sc := defScope s_Lshuffled)
          (by decide +kernel))
        (fun _ _ _ _ _ => pg_name (i := 3) nd rfl (Or.inl rfl))
        (fun _ _ _ _ _ => pts_nil)
        (fun _ _ _ _ _ => pe_bm PySem.F.plainAttrs_list
          PySem.F.slot_list_pop PySem.F.type_list_pop mt_popAt (pv 2)
          (pa_cons (pe_cal C hr (pa_cons (pv 0) (pa_cons
            (pe_callB (r := rLenK K) call_lenK (by rfl) B.len
              PySem.boot_len (pa_cons (pv 2) pa_nil)) pa_nil))) pa_nil))))),
    ?_⟩
  refine ⟨_, rfl, a, _, rfl, .inl hS, fun o no => ?_⟩
  have hS1 := (sameNew (o := .lst xs) no).seq hS
  have rg1 : Rng (upd H o (.lst xs)) p := rg.same (sameNew no)
  have nop : o ≠ p := (rg.ne no).symm
  refine ⟨_, rfl, a, _, rfl, .inl hS1, _, rfl, by omega, by omega,
    fun D nD => ?_⟩
  have nDp : D ≠ p := (rg1.ne nD).symm
  have nDo : D ≠ o := fun e => by rw [e, upd_same] at nD; cases nD
  have fD : H D = none := (upd_ne (H := H) (o := .lst xs) nDo).symm.trans nD
  refine lc_range (lo := 0) (n := xs.length) (fun i H' => ∃ ac rs : List V,
    ac.length = i ∧ (ac ++ rs).Perm xs ∧ H' D = some (.lst ac) ∧
    H' o = some (.lst rs) ∧ Rng H' p ∧ But p H H')
    ⟨[], xs, rfl, List.Perm.refl _, upd_same,
      by rw [upd_ne nDo.symm, upd_same], rg1.same (sameNew nD),
      ((But.refl H).put no nop).put nD nDp⟩ ?_ ?_
  · rintro i H1 hi ⟨ac, rs, hl, pm, hD, ho, rg2, b2⟩
    have len : ac.length + rs.length = xs.length := by
      have := pm.length_eq
      rw [List.length_append] at this
      exact this
    refine ⟨rfl, yes ⟨_, rfl, .inl ⟨rfl, _, SqL.of ho⟩, _, rfl, _, rfl, o, _,
      rfl, .inl (SqL.of ho), p, rs.length, rfl, rg2, by omega, by omega,
      fun d H2 d0 d1 rg3 b3 => ?_⟩⟩
    have hd : d.toNat < rs.length := by omega
    refine ⟨o, rs, d, d.toNat, rs[d.toNat], rfl, rfl, b3 o _ ho nop, by omega,
      by omega, ?_, List.getElem?_eq_getElem hd, ac, ?_, sz' (by omega),
      ac ++ [rs[d.toNat]], rs.eraseIdx d.toNat, ?_, ?_, ?_, ?_, ?_, ?_⟩
    · exact seqIndex_of d0 d1
    · rw [upd_ne nDo]
      exact b3 D _ hD nDp
    · rw [List.length_append, hl]
      rfl
    · refine List.Perm.trans ?_ pm
      rw [List.append_assoc]
      exact List.Perm.append_left _ (erase_perm hd)
    · exact upd_same
    · rw [upd_ne nDo.symm, upd_same]
    · exact (rg3.but (But.at (p := o) (But.refl H2)) nop.symm).but
        (But.at (p := D) (But.refl _)) nDp.symm
    · exact ((b2.trans b3).new no).new fD
  · rintro H1 ⟨ac, rs, hl, pm, hD, ho, rg2, b2⟩
    have len : ac.length + rs.length = xs.length := by
      have := pm.length_eq
      rw [List.length_append] at this
      exact this
    have e : rs = [] := List.length_eq_zero_iff.mp (by omega)
    rw [e, List.append_nil] at pm
    exact q D ac H1 fD pm hD rg2 b2
end
end OM
namespace OM
open PySem PySem.Spec PyProof.Rows L2
theorem lt1 (c d : Nat) : decide (([c] : List Nat) < [d]) = decide (c < d) := by
  by_cases h : c < d
  · rw [decide_eq_true h]
    refine decide_eq_true ?_
    rw [List.cons_lt_cons_iff]
    exact Or.inl h
  · rw [decide_eq_false h]
    refine decide_eq_false fun z => ?_
    rw [List.cons_lt_cons_iff] at z
    rcases z with z | ⟨_, z⟩
    · exact h z
    · exact absurd z (by simp)
def azB (c : Nat) : Bool := decide (97 ≤ c) && decide (c ≤ 122)
theorem all_az (l : List Nat) :
    ((l.map azB).all id) = l.all azB := by
  rw [List.all_map]
  rfl
/-- is it a name: a text, or a value of another type -/
def spIsName (K : PySem.W.Frag) : Sp := fun vs H Q _ => ∃ v, vs = [v] ∧
  ((∃ x : Str, v = .str x ∧ x.length ≤ sizeLine ∧ ∀ H', Same H H' →
      Q (.bl (nmB x.cps.toList)) H') ∨
   (∃ t, TyX K H v t ∧ PySem.W.kitOne K t (.type "str") = some false ∧
      Q (.bl false) H))
section
variable {P : Program} {w : World} {K : PySem.W.Frag}
  {mg : Str → Option Value} {base : Heap}
theorem ok_isname {f : Addr} {fd : FuncData} {k : Nat}
    (F : Fun K "is_name" "is_name" s_is_name f fd) (B : Bl mg)
    {t8 : Tok} (m8 : mg "MAX_NAME_LENGTH" = some (.int 8 t8)) :
    FnOk P w K mg base CX0 (k + 1) f fd ["value"] (spIsName K) := by
  refine F.ok sc_is_name (fun vs H Q E h => ?_)
    (fun cv A outer s H vs Q E hr h => ?_)
  · obtain ⟨v, rfl, _⟩ := h
    rfl
  obtain ⟨v, rfl, h⟩ := h
  have nd := sc_is_name.nd
  refine ⟨_, pss_cons (ps_if (pt_mid (PW.pt (pw_or (pt_not (pt_val
      (pe_callB call_isi (by rfl) B.isi bt_isi (pa_cons (pv 0) (pa_cons
        (pe_bltn (v := .ty "str") (by rfl) B.str bt_str rfl) pa_nil)))))
      (pw_or1 (pt_not (pt_chain op_le op_le pe_int
        (pe_callB call_len_str (by rfl) B.len PySem.boot_len
          (pa_cons (pv 0) pa_nil))
        (pe_glob (v := .int 8) (by rfl) m8 ⟨_, rfl⟩)))))))
      (pss_one (ps_ret pe_bl)) pss_nil)
    (pss_one (ps_ret (pe_callB (cr_all rfl) (by rfl) B.all bt_all (pa_cons
      (pe_lc (own := [("letter", 1)]) (g := gName 1) (tt := tYes) rfl nd
        (pi_str (pv 0))
        (blkOk_by (N := N_is_name) (sc := defScope s_is_name)
          (by decide +kernel))
        (fun _ _ _ _ _ => pg_name (i := 1) nd rfl (Or.inl rfl))
        (fun _ _ _ _ _ => pts_nil)
        (fun _ _ _ _ _ => pe_mid (pe_chain op_le_str op_le_str pe_str
          (pv 1) pe_str))) pa_nil)))), ?_⟩
  rcases h with ⟨x, rfl, hx, q⟩ | ⟨t, ty, kt, q⟩
  · refine ⟨fun b H' => b = !(decide (1 ≤ x.length) && decide (x.length ≤ 8)) ∧
      H = H', ?_, ?_⟩
    · refine ⟨_, rfl, _, _, _, _, true, rfl, .ty "str", .base (.str x),
        kit_ty (by decide +kernel), _, rfl, iteF ?_⟩
      refine ⟨_, rfl, x, rfl, hx, _, _, rfl, rfl, _, rfl, ite2 (fun c => ?_)
        (fun c => ?_)⟩
      · have c' : (1 : Int) ≤ x.length := of_decide_eq_true c
        refine ⟨_, _, rfl, rfl, _, rfl, ?_, rfl⟩
        rw [decide_eq_true (show 1 ≤ x.length by omega), Bool.true_and]
        congr 1
        exact decide_eq_decide.mpr ⟨fun z => by omega, fun z => by omega⟩
      · refine ⟨_, rfl, ?_, rfl⟩
        rw [decide_eq_false (show ¬ 1 ≤ x.length from fun z =>
          c (decide_eq_true (by omega)))]
        rfl
    · rintro b _ ⟨rfl, rfl⟩
      by_cases c : 1 ≤ x.length ∧ x.length ≤ 8
      · rw [decide_eq_true c.1, decide_eq_true c.2]
        refine iteF ⟨_, rfl, x, rfl, fun D nD => ?_⟩
        refine lc_it walk_str (fun i H' => H' D = some (.lst
          (((x.cps.toList.take i).map azB).map V.bl)) ∧ Same H H')
          ⟨upd_same, sameNew nD⟩ (fun _ _ _ _ => trivial) ?_ ?_
        · rintro i v _ H1 hi ⟨hD, sm⟩ ⟨rfl, c0, hc, rfl⟩
          have hc' : x.cps.toList[i]? = some c0 := by
            rw [Array.getElem?_toList]; exact hc
          refine ⟨rfl, yes ⟨fun v H' => v = .bl (azB c0) ∧ H1 = H', ?_, ?_⟩⟩
          · refine ⟨_, rfl, _, _, rfl, rfl, _, rfl, ite2 (fun z => ?_)
              (fun z => ?_)⟩
            · refine ⟨_, _, rfl, rfl, ?_, rfl⟩
              have z' : ¬ c0 < 97 := by
                rw [show (Str.ofString "a").cps.toList = [97] by
                  decide +kernel, lt1] at z
                simpa using z
              rw [show (Str.ofString "z").cps.toList = [122] by
                decide +kernel, lt1]
              unfold azB
              rw [decide_eq_true (show 97 ≤ c0 by omega), Bool.true_and]
              congr 1
              by_cases y : c0 ≤ 122
              · rw [decide_eq_true y, decide_eq_false (by omega)]
                rfl
              · rw [decide_eq_false y, decide_eq_true (by omega)]
                rfl
            · refine ⟨?_, rfl⟩
              have z' : c0 < 97 := by
                rw [show (Str.ofString "a").cps.toList = [97] by
                  decide +kernel, lt1] at z
                simpa using z
              unfold azB
              rw [decide_eq_false (show ¬ 97 ≤ c0 by omega)]
              rfl
          · rintro v _ ⟨rfl, rfl⟩
            refine ⟨_, hD, ?_, ?_, ?_⟩
            · rw [List.length_map, List.length_map, List.length_take]
              refine sz' ?_
              have : x.length = x.cps.toList.length := TL.len_tl x
              omega
            · rw [upd_same, List.take_add_one, hc', List.map_append,
                List.map_append]
              rfl
            · exact OM.Same.put sm nD
        · rintro H1 ⟨hD, sm⟩
          rw [List.take_of_length_le (by
            rw [Array.length_toList]; exact Nat.le_refl _)] at hD
          refine ⟨D, _, rfl, SqL.of hD, ?_⟩
          rw [all_az]
          have := q H1 sm
          unfold nmB at this
          rw [← TL.len_tl x] at this
          rw [decide_eq_true c.1, decide_eq_true c.2, Bool.true_and,
            Bool.true_and] at this
          exact this
      · have e : (decide (1 ≤ x.length) && decide (x.length ≤ 8)) = false := by
          by_cases c1 : 1 ≤ x.length
          · rw [decide_eq_false (show ¬ x.length ≤ 8 from fun z => c ⟨c1, z⟩)]
            exact Bool.and_false _
          · rw [decide_eq_false c1]
            exact Bool.false_and _
        rw [e]
        refine iteT ?_
        have := q H (Same.refl H)
        unfold nmB at this
        rw [← TL.len_tl x, e, Bool.false_and] at this
        exact this
  · refine ⟨fun b H' => b = true ∧ H = H', ?_, ?_⟩
    · exact ⟨_, rfl, _, _, _, _, false, rfl, .ty "str", ty, kt, _, rfl,
        iteT ⟨rfl, rfl⟩⟩
    · rintro b _ ⟨rfl, rfl⟩
      exact iteT q
end
end OM
namespace OM
open PySem PySem.Spec PyProof.Rows L2
/-- what makes a base -/
structure Good (ls : List (List Nat)) : Prop where
  nm : ∀ l ∈ ls, Nm l
  nd : ls.Nodup
  lo : 1 ≤ ls.length
  hi : ls.length ≤ 40
theorem Nm.len {l : List Nat} (n : Nm l) : (SX.S l).length ≤ sizeLine := by
  rw [SX.S_len]
  have := n.hi
  exact sz (by omega)
theorem Nm.b {l : List Nat} (n : Nm l) : nmB (SX.S l).cps.toList = true :=
  nmB_iff.mpr n
theorem get_map {ls : List (List Nat)} {i : Nat} {v : V}
    (h : (ls.map vS)[i]? = some v) : ∃ l, ls[i]? = some l ∧ v = vS l := by
  rw [List.getElem?_map] at h
  cases e : ls[i]? with
  | none => rw [e] at h; cases h
  | some l => rw [e] at h; exact ⟨l, rfl, (Option.some.inj h).symm⟩
theorem nodup_take {α : Type} {ls : List α} {i : Nat} {l : α}
    (nd : ls.Nodup) (h : ls[i]? = some l) : l ∉ ls.take i := by
  intro hm
  obtain ⟨j, hj, e⟩ := List.getElem_of_mem hm
  rw [List.length_take] at hj
  rw [List.getElem_take] at e
  obtain ⟨hi, e2⟩ := List.getElem?_eq_some_iff.mp h
  have := (List.getElem_inj nd).mp (e.trans e2.symm)
  omega
def spCheckOk : Sp := fun vs H Q _ => ∃ (a : Addr) (ls : List (List Nat)),
  vs = [.ref a] ∧ H a = some (.lst (ls.map vS)) ∧ Good ls ∧
  ∀ H', Same H H' → Q .non H'
def spNFaultOk : Sp := fun vs H Q _ => ∃ (a : Addr) (ls : List (List Nat)),
  vs = [.ref a, .int 40] ∧ H a = some (.lst (ls.map vS)) ∧ Good ls ∧
  ∀ H', Same H H' → Q .non H'
section
variable {P : Program} {w : World} {K : PySem.W.Frag}
  {mg : Str → Option Value} {base : Heap}
abbrev CalIsName (P : Program) (w : World) (K : PySem.W.Frag)
    (mg : Str → Option Value) (base : Heap) (k : Nat) : Prop :=
  Cal P w K mg base k "is_name" ["value"] (spIsName K)
theorem ok_nfault {f : Addr} {fd : FuncData} {k : Nat}
    (F : Fun K "names_fault" "names_fault" s_names_fault f fd) (B : Bl mg)
    (C : CalIsName P w K mg base k) :
    FnOk P w K mg base CX0 (k + 1) f fd ["value", "most"] spNFaultOk := by
  refine F.ok sc_names_fault (fun vs H Q E h => ?_)
    (fun cv A outer s H vs Q E hr h => ?_)
  · obtain ⟨a, ls, rfl, _⟩ := h
    rfl
  obtain ⟨a, ls, rfl, ha, gd, q⟩ := h
  have nd := sc_names_fault.nd
  refine ⟨_, pss_cons (ps_if (pt_not (pt_val
      (pe_callB call_isi (by rfl) B.isi bt_isi (pa_cons (pv 0) (pa_cons
        (pe_bltn (v := .ty "list") (by rfl) B.list bt_list rfl) pa_nil)))))
      (pss_one ps_never) pss_nil)
    (pss_cons (ps_set (i := 2) nd rfl (.inl rfl)
      (pe_callTy0 cr_set0K (by rfl) B.set bt_set))
    (pss_cons (ps_for PassesOwn.never rfl
      (pi_enum (by rfl) B.enum (pa_cons (pv 0) pa_nil))
      (pg_tup rfl (pgs_cons (pg_name (i := 3) nd rfl (.inl rfl))
        (pgs_cons (pg_name (i := 4) nd rfl (.inl rfl)) pgs_nil)))
      (pss_cons (ps_if (pt_not (pt_val (pe_cal C hr (pa_cons (pv 4) pa_nil))))
        (pss_one ps_never) pss_nil)
      (pss_cons (ps_if (pt_cmpR or_sinK (pv 4) (pv 2) (by rfl))
        (pss_one ps_never) pss_nil)
      (pss_one (ps_expr (pe_saddK (pv 2) (pa_cons (pv 4) pa_nil)))))))
    (pss_cons (ps_if (pt_not (pt_chain op_le op_le pe_int
        (pe_callB call_len_seq (by rfl) B.len PySem.boot_len
          (pa_cons (pv 0) pa_nil)) (pv 1)))
      (pss_one ps_never) pss_nil)
    (pss_one (ps_ret pe_non))))), ?_⟩
  refine ⟨_, rfl, _, _, _, _, true, rfl, .ty "list", .base (.lst ha),
    kit_ty (by decide +kernel), _, rfl, iteF ?_⟩
  refine ⟨rfl, fun sn nsn => ?_⟩
  have nas : a ≠ sn := ne_of_none ha nsn
  have ha1 : (upd H sn (SetK P w sn (fun _ => false) 0)) a =
      some (.lst (ls.map vS)) := by rw [upd_ne nas]; exact ha
  refine ⟨_, rfl, a, _, rfl, SqL.of ha1, ?_⟩
  refine for_it (walk_enum (K := K) (a := a) (xs := ls.map vS))
    (fun i σ H' => ∃ (S : Key → Bool) (n : Nat) (y z : Option V),
      σ = [some (.ref a), some (.int 40), some (.ref sn), y, z] ∧ n ≤ i ∧
      (∀ l, S (Sum.inr (SX.S l)) = decide (l ∈ ls.take i)) ∧
      H' sn = some (SetK P w sn S n) ∧ H' a = some (.lst (ls.map vS)) ∧
      Same H H')
    ⟨fun _ => false, 0, none, none, rfl, Nat.le_refl _, fun l => by simp,
      upd_same, ha1, sameNew nsn⟩
    (fun i σ H' _ z => by obtain ⟨_, _, _, _, _, _, _, _, h, _⟩ := z; exact SqL.of h)
    ?_ ?_
  · rintro i v σ H1 H2 hi ⟨S, n, y, z, rfl, hn, hS, hs, ha2, sm⟩
      ⟨T, x1, x2, rfl, nT, rfl, e1, e2⟩
    obtain ⟨l, hl, rfl⟩ := get_map e2
    cases Option.some.inj e1
    rw [List.length_map] at hi
    have nl : Nm l := gd.nm l (List.mem_of_getElem? hl)
    have nTs : sn ≠ T := ne_of_none hs nT
    have nTa : a ≠ T := ne_of_none ha2 nT
    have sm1 : Same H (upd H1 T (.tup [.int (i : Nat), vS l])) :=
      sm.trans (sameNew nT)
    have nin : l ∉ ls.take i := nodup_take gd.nd hl
    refine ⟨T, _, rfl, .inl (.inl upd_same), rfl, _, _, rfl, _, _, rfl, rfl,
      ?_⟩
    refine ⟨_, rfl, _, rfl, .inl ⟨_, rfl, nl.len, fun H3 sm3 => ?_⟩⟩
    rw [nl.b]
    have hs3 : H3 sn = some (SetK P w sn S n) :=
      sm3 _ _ (by rw [upd_ne nTs]; exact hs)
    have ha3 : H3 a = some (.lst (ls.map vS)) :=
      sm3 _ _ (by rw [upd_ne nTa]; exact ha2)
    refine ⟨_, rfl, iteF ?_⟩
    refine ⟨_, rfl, _, rfl, Sum.inr (SX.S l), sn, S, n, rfl, rfl, hs3, _, rfl,
      ?_⟩
    have sf : S (Sum.inr (SX.S l)) = false := by
      rw [hS]; exact decide_eq_false nin
    rw [sf]
    refine iteF ?_
    refine ⟨_, rfl, ⟨sn, S, n, rfl, hs3⟩, _, rfl, sn, Sum.inr (SX.S l), S, n,
      rfl, rfl, hs3, ?_, ?_⟩
    · have := gd.hi
      show n + 1 < 4096
      omega
    refine ⟨_, _, _, _, rfl, ?_, ?_, upd_same, ?_, ?_⟩
    · rw [sf]
      show n + 1 ≤ i + 1
      omega
    · intro l'
      show (S (Sum.inr (SX.S l')) || decide ((Sum.inr (SX.S l') : Key) =
        Sum.inr (SX.S l))) = _
      rw [hS, List.take_add_one, hl]
      by_cases e : l' = l
      · subst e
        simp
      · have : ¬ ((Sum.inr (SX.S l') : Key) = Sum.inr (SX.S l)) :=
          fun z => e (SX.S_inj (Sum.inr.inj z))
        rw [decide_eq_false this, Bool.or_false]
        refine decide_eq_decide.mpr ?_
        rw [List.mem_append]
        constructor
        · exact Or.inl
        · rintro (z | z)
          · exact z
          · exact absurd (by simpa using z) e
    · rw [upd_ne nas]
      exact ha3
    · exact OM.Same.put (sm1.trans sm3) nsn
  · rintro σ H1 ⟨S, n, y, z, rfl, hn, hS, hs, ha2, sm⟩
    have h1 := gd.lo
    have h2 := gd.hi
    refine ⟨_, rfl, a, _, rfl, .inl (SqL.of ha2), _, _, rfl, rfl, _, rfl, ?_⟩
    rw [List.length_map, decide_eq_true (show (1 : Int) ≤ ls.length by omega)]
    refine iteT ⟨_, rfl, _, _, rfl, rfl, _, rfl, ?_⟩
    rw [decide_eq_true (show (ls.length : Int) ≤ 40 by omega)]
    exact iteF (q H1 sm)
theorem ok_check {f : Addr} {fd : FuncData} {k : Nat}
    (F : Fun K "check_items" "check_items" s_check_items f fd)
    (Cf : Cal P w K mg base k "names_fault" ["value", "most"] spNFaultOk)
    {t40 : Tok} (m40 : mg "MAX_ITEMS" = some (.int 40 t40)) :
    FnOk P w K mg base CX0 (k + 1) f fd ["items"] spCheckOk := by
  refine F.ok sc_check_items (fun vs H Q E h => ?_)
    (fun cv A outer s H vs Q E hr h => ?_)
  · obtain ⟨a, ls, rfl, _⟩ := h
    rfl
  obtain ⟨a, ls, rfl, ha, gd, q⟩ := h
  have nd := sc_check_items.nd
  refine ⟨_, pss_cons (ps_set (i := 1) nd rfl (.inl rfl)
      (pe_cal Cf hr (pa_cons (pv 0) (pa_cons
        (pe_glob (v := .int 40) (by rfl) m40 ⟨_, rfl⟩) pa_nil))))
    (pss_one (ps_if (pt_cmpR op_notN (pv 1) pe_non (nomark _))
      (pss_cons ps_never (pss_one ps_never)) pss_nil)), ?_⟩
  exact ⟨_, rfl, a, ls, rfl, ha, gd, fun H1 s1 =>
    ⟨_, rfl, rfl, _, rfl, iteF (q H1 s1)⟩⟩
end
end OM
namespace OM
open PySem PySem.Spec PyProof.Rows L2
/-! ### what a base holds -/
def prs : Nat → List (List Nat) → List (Key × V)
  | _, [] => []
  | n, l :: r => (Sum.inr (SX.S l), .int (n : Int)) :: prs (n + 1) r
theorem prs_len : ∀ (n : Nat) (ls : List (List Nat)),
    (prs n ls).length = ls.length
  | _, [] => rfl
  | n, _ :: r => congrArg (· + 1) (prs_len (n + 1) r)
theorem prs_snoc : ∀ (n : Nat) (ls : List (List Nat)) (l : List Nat),
    prs n (ls ++ [l]) =
      prs n ls ++ [(Sum.inr (SX.S l), .int ((n + ls.length : Nat) : Int))]
  | n, [], l => rfl
  | n, x :: r, l => by
    have ih := prs_snoc (n + 1) r l
    show (Sum.inr (SX.S x), V.int (n : Int)) :: prs (n + 1) (r ++ [l]) = _
    rw [ih, List.length_cons, show n + 1 + r.length = n + (r.length + 1) by
      omega]
    rfl
theorem val_prs (l : List Nat) : ∀ (n : Nat) (ls : List (List Nat)),
    valV (prs n ls) (Sum.inr (SX.S l) : Key) =
      if l ∈ ls then some (.int ((n + ls.idxOf l : Nat) : Int)) else none
  | n, [] => rfl
  | n, x :: r => by
    have ih := val_prs l (n + 1) r
    by_cases e : x = l
    · subst e
      rw [if_pos List.mem_cons_self, List.idxOf_cons_self]
      show Option.map _ (List.find? _ ((Sum.inr (SX.S x), _) :: _)) = _
      rw [List.find?_cons_of_pos (by simp)]
      rfl
    · have ne : ¬ ((Sum.inr (SX.S x) : Key) = Sum.inr (SX.S l)) :=
        fun z => e (SX.S_inj (Sum.inr.inj z))
      have hv : valV (prs n (x :: r)) (Sum.inr (SX.S l) : Key) =
          valV (prs (n + 1) r) (Sum.inr (SX.S l)) := by
        show Option.map _ (List.find? _ ((Sum.inr (SX.S x), _) :: _)) = _
        rw [List.find?_cons_of_neg (by simpa using ne)]
        rfl
      rw [hv, ih]
      by_cases m : l ∈ r
      · rw [if_pos m, if_pos (List.mem_cons_of_mem _ m),
          List.idxOf_cons, show (x == l) = false from
            beq_eq_false_iff_ne.mpr e]
        show some (V.int ((n + 1 + r.idxOf l : Nat) : Int)) =
          some (V.int ((n + (r.idxOf l + 1) : Nat) : Int))
        rw [show n + 1 + r.idxOf l = n + (r.idxOf l + 1) by omega]
      · rw [if_neg m, if_neg fun z => ?_]
        rcases List.mem_cons.mp z with z | z
        · exact e z.symm
        · exact m z
/-- the attributes -/
def bf (lo d : Addr) : List (Str × V) :=
  putF "places" (.ref d) (putF "listed" (.ref lo) [])
theorem ne_pl : ¬ (("listed" : Str) = "places") := by decide +kernel
theorem bf_listed (lo d : Addr) :
    (bf lo d).lookup ("listed" : Str) = some (.ref lo) := by
  unfold bf
  rw [lookup_putF, if_neg ne_pl, lookup_putF, if_pos rfl]
theorem bf_places (lo d : Addr) :
    (bf lo d).lookup ("places" : Str) = some (.ref d) := by
  unfold bf
  rw [lookup_putF, if_pos rfl]
theorem bf_no (lo d : Addr) {m : Str} (h1 : ¬ m = "places")
    (h2 : ¬ m = "listed") : (bf lo d).lookup m = none := by
  unfold bf
  rw [lookup_putF, if_neg h1, lookup_putF, if_neg h2]
  rfl
structure BaseAt (C : Addr) (H : Hp) (b : Addr) (ls : List (List Nat)) :
    Prop where
  ob : ∃ dx lo d, H b = some (.ins C dx (bf lo d)) ∧
    H lo = some (.lst (ls.map vS)) ∧ H d = some (.dK (prs 0 ls))
theorem BaseAt.same {C b : Addr} {H H' : Hp} {ls : List (List Nat)}
    (x : BaseAt C H b ls) (s : Same H H') : BaseAt C H' b ls := by
  obtain ⟨dx, lo, d, h1, h2, h3⟩ := x.ob
  exact ⟨dx, lo, d, s _ _ h1, s _ _ h2, s _ _ h3⟩
theorem neRng {H : Hp} {p q : Addr} {ls : List (List Nat)} (r : Rng H p)
    (h : H q = some (.lst (ls.map vS))) : q ≠ p := by
  obtain ⟨a, b, e, _⟩ := r
  refine ne_of h e fun z => ?_
  have z' := HO.lst.inj z
  cases ls with
  | nil => cases z'
  | cons l r =>
    rw [List.map_cons] at z'
    cases (List.cons.inj z').1
theorem BaseAt.but {C b p : Addr} {H H' : Hp} {ls : List (List Nat)}
    (x : BaseAt C H b ls) (r : Rng H p) (s : But p H H') :
    BaseAt C H' b ls := by
  obtain ⟨dx, lo, d, h1, h2, h3⟩ := x.ob
  have n2 := neRng r h2
  obtain ⟨i, j, e, _⟩ := r
  exact ⟨dx, lo, d, s _ _ h1 (ne_of h1 e nofun), s _ _ h2 n2,
    s _ _ h3 (ne_of h3 e nofun)⟩
theorem BaseAt.ne {C b p : Addr} {H : Hp} {ls : List (List Nat)}
    (x : BaseAt C H b ls) (n : H p = none) : b ≠ p := by
  obtain ⟨dx, lo, d, h1, h2, h3⟩ := x.ob
  exact ne_of_none h1 n
structure BC (K : PySem.W.Frag) (mg : Str → Option Value) (C : Addr) :
    Prop where
  ic : C8.InsC K C
  nL : NoAttr K C "listed"
  nP : NoAttr K C "places"
  mgC : mg "Base" = some (.ref C)
  kC : PySem.W.keepIn K (.ref C) = true
theorem BC.cl {K : PySem.W.Frag} {mg : Str → Option Value} {C : Addr}
    (x : BC K mg C) : Cls K C := x.ic.cl
/-- Base(items), the items being right -/
def spInitOk (C : Addr) : Sp := fun vs H Q _ =>
  ∃ (b a dx : Addr) (ls : List (List Nat)), vs = [.ref b, .ref a] ∧
  H b = some (.ins C dx []) ∧ H a = some (.lst (ls.map vS)) ∧ Good ls ∧
  ∀ H', BaseAt C H' b ls → But b H H' → Q .non H'
/-- a walk of a dict comprehension -/
theorem dc_walk {J : It} {n : Nat} {G : Hp → Prop}
    {Y : Nat → Hp → V → Hp → Prop} (wk : Walk J n G Y) {g : TG} {tt : TT}
    {tk tv : TE} {vs : List Nat} {σ : L2.St} {H1 : Hp} {D : Addr}
    {Qd : Hp → Prop} (Pv : Nat → Hp → Prop)
    (h0 : Pv 0 (upd H1 D (.dK []))) (hG : ∀ i H, i ≤ n → Pv i H → G H)
    (hs : ∀ i x H H', i < n → Pv i H → Y i H x H' →
      g x (wipe σ vs) H' fun σ2 H2 => wipe σ2 vs = wipe σ vs ∧
        tt σ2 H2 fun b H3 => if b = true then tk σ2 H3 fun y H4 =>
          tv σ2 H4 fun z H5 => ∃ kvs k, y = kV k ∧ H5 D = some (.dK kvs) ∧
            kvs.length < sizeLine ∧ Pv (i + 1) (upd H5 D (.dK (putK kvs k z)))
          else Pv (i + 1) H3)
    (hd : ∀ H, Pv n H → Qd H) :
    ∃ W : Nat → Nat → Hp → Prop, (∃ m, W 0 m (upd H1 D (.dK []))) ∧
      ∀ i m H, W i m H → (J.stop i H ∧ Qd H) ∨ (J.go i H ∧
        ∃ Nx : Hp → Prop, (∀ H', Nx H' → ∃ m', m' < m ∧ W (i + 1) m' H') ∧
        ∀ x H', J.yld i H x H' → g x (wipe σ vs) H' fun σ2 H2 =>
          wipe σ2 vs = wipe σ vs ∧ tt σ2 H2 fun b H3 => if b = true then
            tk σ2 H3 fun y H4 => tv σ2 H4 fun z H5 => ∃ kvs k, y = kV k ∧
              H5 D = some (.dK kvs) ∧ kvs.length < sizeLine ∧
              Nx (upd H5 D (.dK (putK kvs k z))) else Nx H3) := by
  refine ⟨fun i m H => m + i = n ∧ Pv i H, ⟨n, rfl, h0⟩, ?_⟩
  rintro i m H ⟨e, p⟩
  have q := hG i H (by omega) p
  rcases Nat.lt_or_ge i n with lt | ge
  · exact .inr ⟨wk.goes i H lt q, Pv (i + 1),
      fun H' p' => ⟨m - 1, by omega, by omega, p'⟩,
      fun x H' y => hs i x H H' lt p (wk.yields i H x H' lt q y)⟩
  · have e' : i = n := by omega
    subst e'
    exact .inl ⟨wk.stops H q, hd H p⟩
section
variable {P : Program} {w : World} {K : PySem.W.Frag}
  {mg : Str → Option Value} {base : Heap} {C : Addr}
theorem ok_init {f : Addr} {fd : FuncData} {k : Nat}
    (F : Fun K "__init__" "Base.__init__" s_Base_init f fd) (B : Bl mg)
    (T : BC K mg C)
    (Ck : Cal P w K mg base k "check_items" ["items"] spCheckOk) :
    FnOk P w K mg base CX0 (k + 1) f fd ["self", "items"] (spInitOk C) := by
  refine F.ok sc_Base_init (fun vs H Q E h => ?_)
    (fun cv A outer s H vs Q E hr h => ?_)
  · obtain ⟨b, a, dx, ls, rfl, _⟩ := h
    rfl
  obtain ⟨b, a, dx, ls, rfl, hb, ha, gd, q⟩ := h
  have nd := sc_Base_init.nd
  refine ⟨_, pss_cons (ps_expr (pe_cal Ck hr (pa_cons (pv 1) pa_nil)))
    (pss_cons (ps_fld (pv 0) (pe_callTy call_list_of (by rfl) B.list bt_list
      (pa_cons (pv 1) pa_nil)) rfl)
    (pss_one (ps_fld (pv 0)
      (pe_dc (own := [("name", 2), ("at", 3)])
        (g := gTup K 2 (gCons (gName 3) (gCons (gName 2) gNil)))
        (tt := tYes) rfl nd
        (pi_enum (by rfl) B.enum (pa_cons (pv 1) pa_nil))
        (blkOk_by (N := N_Base_init) (sc := defScope s_Base_init)
          (by decide +kernel))
        (fun _ _ _ _ _ => pg_tup rfl (pgs_cons (pg_name (i := 3) nd rfl
          (Or.inl rfl)) (pgs_cons (pg_name (i := 2) nd rfl (Or.inl rfl))
          pgs_nil)))
        (fun _ _ _ _ _ => pts_nil) (fun _ _ _ _ _ => pv 2)
        (fun _ _ _ _ _ => pv 3)) rfl))), ?_⟩
  refine ⟨_, rfl, a, ls, rfl, ha, gd, fun H1 s1 => ?_⟩
  have nba : b ≠ a := ne_of hb ha nofun
  have hb1 := s1 _ _ hb
  have ha1 := s1 _ _ ha
  refine ⟨_, rfl, a, _, rfl, .inl (SqL.of ha1), fun lo nlo => ?_⟩
  have nbl : b ≠ lo := ne_of_none hb1 nlo
  have nal : a ≠ lo := ne_of_none ha1 nlo
  refine ⟨_, rfl, b, C, dx, [], rfl, by rw [upd_ne nbl]; exact hb1, T.cl, T.nL,
    by decide, ?_⟩
  generalize eH2 : upd (upd H1 lo (.lst (ls.map vS))) b
    (.ins C dx (putF "listed" (.ref lo) [])) = H2
  have hb2 : H2 b = some (.ins C dx (putF "listed" (.ref lo) [])) := by
    rw [← eH2]; exact upd_same
  have ha2 : H2 a = some (.lst (ls.map vS)) := by
    rw [← eH2, upd_ne nba.symm, upd_ne nal]; exact ha1
  have hl2 : H2 lo = some (.lst (ls.map vS)) := by
    rw [← eH2, upd_ne nbl.symm, upd_same]
  have b2 : But b H H2 := by
    rw [← eH2]
    exact ((But.of s1).new (s1.free nlo)).at
  refine ⟨_, rfl, a, _, rfl, SqL.of ha2, fun d nd' => ?_⟩
  have ndb : b ≠ d := ne_of_none hb2 nd'
  have nda : a ≠ d := ne_of_none ha2 nd'
  have ndl : lo ≠ d := ne_of_none hl2 nd'
  refine dc_walk (walk_enum (K := K) (a := a) (xs := ls.map vS))
    (fun i H' => H' d = some (.dK (prs 0 (ls.take i))) ∧
      H' b = some (.ins C dx (putF "listed" (.ref lo) [])) ∧
      H' a = some (.lst (ls.map vS)) ∧ H' lo = some (.lst (ls.map vS)) ∧
      But b H H')
    ⟨upd_same, by rw [upd_ne ndb]; exact hb2, by rw [upd_ne nda]; exact ha2,
      by rw [upd_ne ndl]; exact hl2, b2.put nd' ndb.symm⟩
    (fun i H' _ z => SqL.of z.2.2.1) ?_ ?_
  · rintro i v H3 H4 hi ⟨hd, h1, h2, h3, b3⟩ ⟨T', x1, x2, rfl, nT, rfl, e1, e2⟩
    obtain ⟨l, hl, rfl⟩ := get_map e2
    cases Option.some.inj e1
    rw [List.length_map] at hi
    have hhi := gd.hi
    refine ⟨T', _, rfl, .inl (.inl upd_same), rfl, _, _, rfl, _, _, rfl, rfl,
      rfl, yes ⟨_, rfl, _, rfl, prs 0 (ls.take i), Sum.inr (SX.S l), rfl, ?_, ?_,
      ?_, ?_, ?_, ?_, ?_⟩⟩
    · rw [upd_ne (ne_of_none hd nT)]
      exact hd
    · rw [prs_len, List.length_take]
      exact sz' (by omega)
    · rw [upd_same, putK_new _ (by
        rw [val_prs, if_neg (nodup_take gd.nd hl)]),
        List.take_add_one, hl]
      show _ = some (HO.dK (prs 0 (ls.take i ++ [l])))
      rw [prs_snoc, List.length_take, Nat.min_eq_left (by omega),
        Nat.zero_add]
    · rw [upd_ne ndb, upd_ne (ne_of_none h1 nT)]
      exact h1
    · rw [upd_ne nda, upd_ne (ne_of_none h2 nT)]
      exact h2
    · rw [upd_ne ndl, upd_ne (ne_of_none h3 nT)]
      exact h3
    · exact (b3.put nT (ne_of_none h1 nT).symm).new (b2.free ndb.symm nd')
  · rintro H3 ⟨hd, h1, h2, h3, b3⟩
    rw [List.take_of_length_le (by rw [List.length_map]; exact Nat.le_refl _)]
      at hd
    refine ⟨_, rfl, b, C, dx, _, rfl, h1, T.cl, T.nP,
      by show 1 < 1000; decide, ?_⟩
    refine q _ ⟨dx, lo, d, upd_same, ?_, ?_⟩ b3.at
    · rw [upd_ne nbl.symm]
      exact h3
    · rw [upd_ne ndb.symm]
      exact hd
end
end OM
namespace OM
open PySem PySem.Spec PyProof.Rows L2
/-! ### a method, in one word -/
structure CalM (P : Program) (w : World) (K : PySem.W.Frag)
    (mg : Str → Option Value) (base : Heap) (C : Addr) (k : Nat) (x : Str)
    (ps : List Str) (sp : Sp) : Prop where
  cl : Cls K C
  ex : ∃ f fd, FnOk P w K mg base CX0 k f fd ps sp ∧ Meth K C x f ∧
    Binds K fd ps []
section
variable {X : Cx} {k : Nat} {ps : List Str} {sp : Sp} {x : Str} {C : Addr}
  {p pos : Pos} {o e : Expr} {es : List Expr} {t : TA} {to : TE}
theorem pe_calM {pl : Sem Bool} (M : CalM X.prog X.w X.K X.mg X.base C k x ps sp)
    (room : Room k X.A) (ho : PE X o to) (ha : PA X (e :: es) t)
    (h1 : starEach (e :: es) X.env =
      (false, eval e X.env) :: starEach es X.env := by rfl)
    (h2 : (backTo pos (starEach es X.env)).any (·.1) = false := by rfl)
    (h3 : eval (.Call (.Attribute o x p) (e :: es) [] pos) X.env = (do
      let ov ← eval o X.env
      standAt p.atName
      let (f, first) ← holding [ov] (getMethod ov x pl)
      callWith pos f first (backTo pos (starEach (e :: es) X.env))
        (backToKw pos (keywordEach [] X.env))) := by rfl) :
    PE X (.Call (.Attribute o x p) (e :: es) [] pos)
      (tMeth C x sp [] E0 to t) := by
  obtain ⟨f, fd, F, m, b⟩ := M.ex
  exact pe_meth (pl := pl) ho M.cl m F room b .nil pass0 ha h1 h2 h3
theorem pe_calM0 {pl : Sem Bool} (M : CalM X.prog X.w X.K X.mg X.base C k x ps sp)
    (room : Room k X.A) (ho : PE X o to)
    (h3 : eval (.Call (.Attribute o x p) [] [] pos) X.env = (do
      let ov ← eval o X.env
      standAt p.atName
      let (f, first) ← holding [ov] (getMethod ov x pl)
      callWith pos f first (backTo pos (starEach [] X.env))
        (backToKw pos (keywordEach [] X.env))) := by rfl) :
    PE X (.Call (.Attribute o x p) [] [] pos)
      (tMeth C x sp [] E0 to tNil) := by
  obtain ⟨f, fd, F, m, b⟩ := M.ex
  exact pe_meth0 (pl := pl) ho M.cl m F room b .nil pass0 h3
end
def spGetNames (C : Addr) : Sp := fun vs H Q _ =>
  ∃ (b : Addr) (ls : List (List Nat)), vs = [.ref b] ∧ BaseAt C H b ls ∧
  ∀ q H', H q = none → H' q = some (.lst (ls.map vS)) → Same H H' →
    Q (.ref q) H'
def spLenB (C : Addr) : Sp := fun vs H Q _ =>
  ∃ (b : Addr) (ls : List (List Nat)), vs = [.ref b] ∧ BaseAt C H b ls ∧
  Q (.int ls.length) H
/-- == of two bases -/
def spEqB (C : Addr) : Sp := fun vs H Q _ =>
  ∃ (b o : Addr) (ls ms : List (List Nat)), vs = [.ref b, .ref o] ∧
  BaseAt C H b ls ∧ BaseAt C H o ms ∧ Uni ls ∧ Uni ms ∧
  Q (.bl (decide (ls = ms))) H
def baseText (ls : List (List Nat)) : Str :=
  Str.empty ++ Str.ofString "Base(" ++ (PyData.list (dN ls)).shown ++
    Str.ofString ")"
/-- repr of a base -/
def spReprB (C : Addr) : Sp := fun vs H Q _ =>
  ∃ (b : Addr) (ls : List (List Nat)), vs = [.ref b] ∧ BaseAt C H b ls ∧
  Good ls ∧ Q (.str (baseText ls)) H
theorem Nm.uni {l : List Nat} (n : Nm l) : ∀ c ∈ l, c < 1114112 := fun c h => by
  have := n.az c h
  omega
theorem Good.uni {ls : List (List Nat)} (g : Good ls) : Uni ls :=
  fun l h => (g.nm l h).uni
theorem Good.shown {ls : List (List Nat)} (g : Good ls) :
    (PyData.list (dN ls)).shown.length ≤ sizeLine := by
  have := g.hi
  exact shown_L (m := 8) (by omega) (by omega) fun l h =>
    ⟨(g.nm l h).hi, (g.nm l h).uni⟩
section
variable {P : Program} {w : World} {K : PySem.W.Frag}
  {mg : Str → Option Value} {base : Heap} {C : Addr}
theorem ok_getnames {f : Addr} {fd : FuncData} {k : Nat}
    (F : Fun K "names" "Base.names" s_Base_names f fd) (B : Bl mg)
    (T : BC K mg C) :
    FnOk P w K mg base CX0 (k + 1) f fd ["self"] (spGetNames C) := by
  refine F.ok sc_Base_names (fun vs H Q E h => ?_)
    (fun cv A outer s H vs Q E hr h => ?_)
  · obtain ⟨b, ls, rfl, _⟩ := h
    rfl
  obtain ⟨b, ls, rfl, hb, q⟩ := h
  obtain ⟨dx, lo, d, h1, h2, h3⟩ := hb.ob
  refine ⟨_, pss_one (ps_ret (pe_callTy call_list_of (by rfl) B.list bt_list
    (pa_cons (pe_fld (pv 0) rfl) pa_nil))), ?_⟩
  exact ⟨_, rfl, b, C, dx, _, _, rfl, h1, T.cl, T.nL, bf_listed _ _, lo, _, rfl,
    .inl (SqL.of h2), fun l nl => q l _ nl upd_same (sameNew nl)⟩
theorem ok_lenB {f : Addr} {fd : FuncData} {k : Nat}
    (F : Fun K "__len__" "Base.__len__" s_Base_len f fd) (B : Bl mg)
    (T : BC K mg C) :
    FnOk P w K mg base CX0 (k + 1) f fd ["self"] (spLenB C) := by
  refine F.ok sc_Base_len (fun vs H Q E h => ?_)
    (fun cv A outer s H vs Q E hr h => ?_)
  · obtain ⟨b, ls, rfl, _⟩ := h
    rfl
  obtain ⟨b, ls, rfl, hb, q⟩ := h
  obtain ⟨dx, lo, d, h1, h2, h3⟩ := hb.ob
  refine ⟨_, pss_one (ps_ret (pe_callB call_len_seq (by rfl) B.len
    PySem.boot_len (pa_cons (pe_fld (pv 0) rfl) pa_nil))), ?_⟩
  refine ⟨_, rfl, b, C, dx, _, _, rfl, h1, T.cl, T.nL, bf_listed _ _, lo, _,
    rfl, .inl (SqL.of h2), ?_⟩
  rw [List.length_map]
  exact q
theorem ok_eqB {f : Addr} {fd : FuncData} {k : Nat}
    (F : Fun K "__eq__" "Base.__eq__" s_Base_eq f fd) (B : Bl mg)
    (T : BC K mg C) :
    FnOk P w K mg base CX0 (k + 1) f fd ["self", "other"] (spEqB C) := by
  refine F.ok sc_Base_eq (fun vs H Q E h => ?_)
    (fun cv A outer s H vs Q E hr h => ?_)
  · obtain ⟨b, o, ls, ms, rfl, _⟩ := h
    rfl
  obtain ⟨b, o, ls, ms, rfl, hb, ho, u1, u2, q⟩ := h
  obtain ⟨dx, lo, d, h1, h2, h3⟩ := hb.ob
  obtain ⟨dy, mo, e, g1, g2, g3⟩ := ho.ob
  refine ⟨_, pss_one (ps_ret (pe_and
    (pe_callB (C8.call_isC T.ic) (by rfl) B.isi bt_isi (pa_cons (pv 1)
      (pa_cons (pe_glob (v := .ref C) (by rfl) T.mgC rfl) pa_nil)))
    (pe_one (pe_cmpR (op_eqD hr.units) (pe_fld (pv 0) rfl) (pe_fld (pv 1) rfl)
      (nomark _))))), ?_⟩
  refine ⟨_, rfl, o, dy, _, rfl, g1, _, rfl, iteT ?_⟩
  refine ⟨_, rfl, b, C, dx, _, _, rfl, h1, T.cl, T.nL, bf_listed _ _, _, rfl, o,
    C, dy, _, _, rfl, g1, T.cl, T.nL, bf_listed _ _, _, _, dp_N (SqL.of h2),
    dp_N (SqL.of g2), shaped_L u1, shaped_L u2, ?_⟩
  rw [eqv_L]
  exact q
theorem ok_reprB {f : Addr} {fd : FuncData} {k : Nat}
    (F : Fun K "__repr__" "Base.__repr__" s_Base_repr f fd)
    (T : BC K mg C) :
    FnG P w K mg base CX0 (k + 1) f fd ["self"] (spReprB C) := by
  refine okG F sc_Base_repr (fun vs H Q E h => ?_)
    (fun cv A outer s H vs Q E hr gd h => ?_)
  · obtain ⟨b, ls, rfl, _⟩ := h
    rfl
  obtain ⟨b, ls, rfl, hb, good, q⟩ := h
  obtain ⟨dx, lo, d, h1, h2, h3⟩ := hb.ob
  refine ⟨_, pss_one (ps_ret (pe_joined (.cons pe_str (.cons
    (pe_fmtD hr gd (pe_fld (pv 0) rfl)) (.cons pe_str .nil))))), ?_⟩
  have l1 := good.shown
  have l2 : (PyData.list (dN ls)).shown.length ≤ 10004003 := by
    have e : (PyData.list (dN ls)).shown =
        listText (PyData.shownAll (dN ls)) := by simp only [PyData.shown]
    have p := piled_N ls 8 fun l h => ⟨(good.nm l h).hi, (good.nm l h).uni⟩
    have q := listText_len_le (PyData.shownAll (dN ls))
    rw [e]
    have r : ((PyData.shownAll (dN ls)).map (·.length)).sum +
        2 * (PyData.shownAll (dN ls)).length =
        piled (PyData.shownAll (dN ls)) := by
      generalize PyData.shownAll (dN ls) = ts
      induction ts with
      | nil => rfl
      | cons t ts ih =>
        rw [piled_cons, List.map_cons, List.sum_cons, List.length_cons]
        omega
    have s : ls.length * (10 * 8 + 4) ≤ 40 * 84 :=
      Nat.mul_le_mul good.hi (Nat.le_refl _)
    omega
  have l3 : (Str.ofString "Base(").length = 5 := by decide +kernel
  have l4 : (Str.ofString ")").length = 1 := by decide +kernel
  have l5 : (Str.empty).length = 0 := by decide +kernel
  have l6 : 10005000 ≤ sizeLine := by decide
  refine ⟨_, rfl, ?_, _, rfl, b, C, dx, _, _, rfl, h1, T.cl, T.nL,
    bf_listed _ _, lo, _, rfl, dp_N (SqL.of h2), showable_L ls,
    Nat.le_trans (depth_L ls) (by decide), l1, _, rfl, ?_, _, rfl, ?_, q⟩
  · rw [strLen_append]
    omega
  · rw [strLen_append, strLen_append]
    omega
  · rw [strLen_append, strLen_append, strLen_append]
    omega
end
end OM
namespace OM
open PySem PySem.Spec PyProof.Rows L2
/-- is it an item -/
def spHas (K : PySem.W.Frag) (C : Addr) : Sp := fun vs H Q _ =>
  ∃ (b : Addr) (ls : List (List Nat)) (v : V), vs = [.ref b, v] ∧
  BaseAt C H b ls ∧ (∀ l ∈ ls, Nm l) ∧
  ((∃ x : Str, v = .str x ∧ x.length ≤ sizeLine ∧ ∀ H', Same H H' →
      Q (.bl (decide (x.cps.toList ∈ ls))) H') ∨
   (∃ t, TyX K H v t ∧ PySem.W.kitOne K t (.type "str") = some false ∧
      ∀ H', Same H H' → Q (.bl false) H'))
section
variable {P : Program} {w : World} {K : PySem.W.Frag}
  {mg : Str → Option Value} {base : Heap} {C : Addr}
theorem ok_has {f : Addr} {fd : FuncData} {k : Nat}
    (F : Fun K "has_item" "Base.has_item" s_Base_has_item f fd) (B : Bl mg)
    (T : BC K mg C) (Ci : CalIsName P w K mg base k) :
    FnOk P w K mg base CX0 (k + 1) f fd ["self", "value"] (spHas K C) := by
  refine F.ok sc_Base_has_item (fun vs H Q E h => ?_)
    (fun cv A outer s H vs Q E hr h => ?_)
  · obtain ⟨b, ls, v, rfl, _⟩ := h
    rfl
  obtain ⟨b, ls, v, rfl, hb, nm, h⟩ := h
  have hu := hu_of hr
  refine ⟨_, pss_one (ps_ret (pe_and (pe_cal Ci hr (pa_cons (pv 1) pa_nil))
    (pe_one (pe_cmp (pc_din hu (pv 1) (pe_fld (pv 0) rfl)) rfl)))), ?_⟩
  rcases h with ⟨x, rfl, hx, q⟩ | ⟨t, ty, kt, q⟩
  · refine ⟨_, rfl, _, rfl, .inl ⟨x, rfl, hx, fun H1 s1 => ?_⟩⟩
    obtain ⟨dx, lo, d, h1, h2, h3⟩ := (hb.same s1).ob
    refine ⟨_, rfl, ?_⟩
    by_cases hm : x.cps.toList ∈ ls
    · have e : nmB x.cps.toList = true := nmB_iff.mpr (nm _ hm)
      rw [e]
      refine iteT ⟨_, rfl, _, rfl, b, C, dx, _, _, rfl, h1, T.cl, T.nP,
        bf_places _ _, d, _, rfl, DGet.k (k := Sum.inr x) h3, ?_⟩
      have ex : x = SX.S x.cps.toList := (SX.S_tl x).symm
      rw [ex, val_prs, if_pos hm]
      have := q H1 s1
      rw [decide_eq_true hm] at this
      exact this
    · have qf := q H1 s1
      rw [decide_eq_false hm] at qf
      cases e : nmB x.cps.toList with
      | false => exact iteF qf
      | true =>
        refine iteT ⟨_, rfl, _, rfl, b, C, dx, _, _, rfl, h1, T.cl, T.nP,
          bf_places _ _, d, _, rfl, DGet.k (k := Sum.inr x) h3, ?_⟩
        have ex : x = SX.S x.cps.toList := (SX.S_tl x).symm
        rw [ex, val_prs, if_neg hm]
        exact qf
  · exact ⟨_, rfl, _, rfl, .inr ⟨t, ty, kt, _, rfl, iteF (q H (Same.refl H))⟩⟩
end
end OM
namespace OM
open PySem PySem.Spec PyProof.Rows L2
/-! ### a class that is made, in one word -/
structure CalC (P : Program) (w : World) (K : PySem.W.Frag)
    (mg : Str → Option Value) (base : Heap) (C : Addr) (k : Nat) (x : Str)
    (ps : List Str) (sp : Sp) : Prop where
  mgC : mg x = some (.ref C)
  ex : ∃ f fd, FnOk P w K mg base CX0 k f fd ps sp ∧ Mk K C f ∧
    Binds K fd ps []
section
variable {X : Cx} {k : Nat} {ps : List Str} {sp : Sp} {x : Str} {C : Addr}
  {p pos : Pos} {e : Expr} {es : List Expr} {t : TA}
theorem pe_calC (M : CalC X.prog X.w X.K X.mg X.base C k x ps sp)
    (room : Room (k + 1) X.A) (ha : PA X (e :: es) t)
    (hg : Gl X x := by rfl)
    (h1 : (x == ("__debug__" : Str)) = false := by decide)
    (h2 : starEach (e :: es) X.env =
      (false, eval e X.env) :: starEach es X.env := by rfl)
    (h3 : (backTo pos (starEach es X.env)).any (·.1) = false := by rfl) :
    PE X (.Call (.Name x p) (e :: es) [] pos) (tMake C sp [] E0 t) := by
  obtain ⟨f, fd, F, m, b⟩ := M.ex
  exact pe_make m F room hg M.mgC b .nil pass0 ha h1 h2 h3
end
theorem cut_to (xs : List V) {n : Nat} (h : n ≤ xs.length) :
    cutV xs none (some (n : Int)) = xs.take n := by
  unfold cutV
  rw [HT.sIx_nat, HT.sIx_none, Nat.min_eq_left h, Nat.sub_zero,
    List.drop_zero]
theorem cut_from (xs : List V) {n : Nat} (h : n ≤ xs.length) :
    cutV xs (some (n : Int)) none = xs.drop n := by
  unfold cutV
  rw [HT.sIx_nat, HT.sIx_none, Nat.min_eq_left h]
  exact List.take_of_length_le (by rw [List.length_drop]; exact Nat.le_refl _)
/-- os is an order of the base -/
structure Ord (C : Addr) (H : Hp) (b a : Addr) (ls os : List (List Nat)) :
    Prop where
  ba : BaseAt C H b ls
  good : Good ls
  li : H a = some (.lst (os.map vS))
  pm : os.Perm ls
theorem Ord.same {C b a : Addr} {H H' : Hp} {ls os : List (List Nat)}
    (x : Ord C H b a ls os) (s : Same H H') : Ord C H' b a ls os :=
  ⟨x.ba.same s, x.good, s _ _ x.li, x.pm⟩
theorem Good.perm {ls os : List (List Nat)} (g : Good ls)
    (p : os.Perm ls) : Good os :=
  ⟨fun l h => g.nm l (p.mem_iff.mp h), p.nodup_iff.mpr g.nd,
    by rw [p.length_eq]; exact g.lo, by rw [p.length_eq]; exact g.hi⟩
end OM
namespace OM
open PySem PySem.Spec PyProof.Rows L2
def spFaultOk (C : Addr) : Sp := fun vs H Q _ =>
  ∃ (b a : Addr) (ls os : List (List Nat)), vs = [.ref b, .ref a] ∧
  Ord C H b a ls os ∧ ∀ H', Same H H' → Q .non H'
def spIsOrderOk (C : Addr) : Sp := fun vs H Q _ =>
  ∃ (b a : Addr) (ls os : List (List Nat)), vs = [.ref b, .ref a] ∧
  Ord C H b a ls os ∧ ∀ H', Same H H' → Q (.bl true) H'
section
variable {P : Program} {w : World} {K : PySem.W.Frag}
  {mg : Str → Option Value} {base : Heap} {C : Addr}
theorem ok_fault {f fl : Addr} {fd fdl : FuncData} {k n : Nat}
    (F : Fun K "order_fault" "order_fault" s_order_fault f fd) (B : Bl mg)
    (T : BC K mg C)
    (Mh : CalM P w K mg base C k "has_item" ["self", "value"] (spHas K C))
    (Sl : Spec1 K C "__len__" fl fdl ["self"])
    (Gl : FnOk P w K mg base CX0 n fl fdl ["self"] (spLenB C))
    (hn : n + 1 ≤ k) :
    FnOk P w K mg base CX0 (k + 1) f fd ["base", "value"] (spFaultOk C) := by
  refine F.ok sc_order_fault (fun vs H Q E h => ?_)
    (fun cv A outer s H vs Q E hr h => ?_)
  · obtain ⟨b, a, ls, os, rfl, _⟩ := h
    rfl
  obtain ⟨b, a, ls, os, rfl, o, q⟩ := h
  have nd := sc_order_fault.nd
  have hrn := hr.mono hn
  refine ⟨_, pss_cons (ps_if (pt_not (pt_val
      (pe_callB call_isi (by rfl) B.isi bt_isi (pa_cons (pv 1) (pa_cons
        (pe_bltn (v := .ty "list") (by rfl) B.list bt_list rfl) pa_nil)))))
      (pss_one ps_never) pss_nil)
    (pss_cons (ps_for PassesOwn.never rfl
      (pi_enum (by rfl) B.enum (pa_cons (pv 1) pa_nil))
      (pg_tup rfl (pgs_cons (pg_name (i := 2) nd rfl (.inl rfl))
        (pgs_cons (pg_name (i := 3) nd rfl (.inl rfl)) pgs_nil)))
      (pss_one (ps_if (PW.pt (pw_or (pt_not (pt_val
          (pe_calM Mh hr (pv 0) (pa_cons (pv 3) pa_nil))))
          (pw_or1 (pt_cmpR op_in_seq (pv 3)
            (pe_slice sl_list (pv 1) po_none (po_some (pv 2))) (by rfl)))))
        (pss_one ps_never) pss_nil)))
    (pss_cons (ps_if (pt_cmpR op_lt
        (pe_callB call_len_seq (by rfl) B.len PySem.boot_len
          (pa_cons (pv 1) pa_nil))
        (pe_callB (call_lenOwn Sl Gl hrn) (by rfl) B.len PySem.boot_len
          (pa_cons (pv 0) pa_nil)) (nomark _))
      (pss_one ps_never) pss_nil)
    (pss_one (ps_ret pe_non)))), ?_⟩
  refine ⟨_, rfl, _, _, _, _, true, rfl, .ty "list", .base (.lst o.li),
    kit_ty (by decide +kernel), _, rfl, iteF ?_⟩
  refine ⟨_, rfl, a, _, rfl, SqL.of o.li, ?_⟩
  have go := o.good.perm o.pm
  refine for_it (walk_enum (K := K) (a := a) (xs := os.map vS))
    (fun i σ H' => ∃ (y z : Option V),
      σ = [some (.ref b), some (.ref a), y, z] ∧ Same H H')
    ⟨none, none, rfl, Same.refl H⟩
    (fun i σ H' _ z => by
      obtain ⟨_, _, _, sm⟩ := z
      exact SqL.of (sm _ _ o.li))
    ?_ ?_
  · rintro i v σ H1 H2 hi ⟨y, z, rfl, sm⟩ ⟨T', x1, x2, rfl, nT, rfl, e1, e2⟩
    obtain ⟨l, hl, rfl⟩ := get_map e2
    cases Option.some.inj e1
    rw [List.length_map] at hi
    have o1 := o.same sm
    have o2 := o1.same (sameNew (o := .tup [.int (i : Nat), vS l]) nT)
    obtain ⟨dx, lo, d, h1, h2, h3⟩ := o2.ba.ob
    have ml : l ∈ os := List.mem_of_getElem? hl
    have nl : Nm l := go.nm l ml
    refine ⟨T', _, rfl, .inl (.inl upd_same), rfl, _, _, rfl, _, _, rfl, rfl,
      ?_⟩
    refine ⟨_, rfl, b, dx, _, rfl, h1, bf_no _ _ (by decide +kernel)
      (by decide +kernel), _, rfl, b, ls, _, rfl, o2.ba, o.good.nm, .inl ⟨_, rfl,
      nl.len, fun H3 s3 => ?_⟩⟩
    have o3 := o2.same s3
    rw [decide_eq_true (show (SX.S l).cps.toList ∈ ls from
      o.pm.mem_iff.mp ml)]
    refine ⟨_, rfl, iteF ?_⟩
    refine ⟨_, rfl, _, rfl, _, rfl, i, rfl, a, _, rfl, SqL.of o3.li,
      fun t nt => ?_⟩
    rw [cut_to _ (by rw [List.length_map]; omega), ← List.map_take]
    refine ⟨t, _, rfl, .inl (SqL.of upd_same), rfl, flat_S _, _, rfl, ?_⟩
    rw [inV_S, decide_eq_false (nodup_take go.nd hl)]
    refine iteF ⟨_, _, rfl, ?_⟩
    exact ((sm.trans (sameNew nT)).trans s3).trans (sameNew nt)
  · rintro σ H1 ⟨y, z, rfl, sm⟩
    have o1 := o.same sm
    obtain ⟨dx, lo, d, h1, h2, h3⟩ := o1.ba.ob
    refine ⟨_, rfl, a, _, rfl, .inl (SqL.of o1.li), _, rfl, b, dx, _, rfl, h1,
      b, ls, rfl, o1.ba, ls.length, rfl, ?_, _, _, rfl, rfl, _, rfl, ?_⟩
    · have := o.good.hi
      omega
    · rw [List.length_map, o.pm.length_eq, decide_eq_false (by omega)]
      exact iteF (q H1 sm)
theorem ok_checkorder {f : Addr} {fd : FuncData} {k : Nat}
    (F : Fun K "check_order" "check_order" s_check_order f fd)
    (Cf : Cal P w K mg base k "order_fault" ["base", "value"]
      (spFaultOk C)) :
    FnOk P w K mg base CX0 (k + 1) f fd ["base", "order"] (spFaultOk C) := by
  refine F.ok sc_check_order (fun vs H Q E h => ?_)
    (fun cv A outer s H vs Q E hr h => ?_)
  · obtain ⟨b, a, ls, os, rfl, _⟩ := h
    rfl
  obtain ⟨b, a, ls, os, rfl, o, q⟩ := h
  have nd := sc_check_order.nd
  refine ⟨_, pss_cons (ps_set (i := 2) nd rfl (.inl rfl)
      (pe_cal Cf hr (pa_cons (pv 0) (pa_cons (pv 1) pa_nil))))
    (pss_one (ps_if (pt_cmpR op_notN (pv 2) pe_non (nomark _))
      (pss_one ps_never) pss_nil)), ?_⟩
  exact ⟨_, rfl, _, rfl, b, a, ls, os, rfl, o, fun H1 s1 =>
    ⟨_, rfl, rfl, _, rfl, iteF (q H1 s1)⟩⟩
end
end OM
namespace OM
open PySem PySem.Spec PyProof.Rows L2
/-- an item's place -/
def spPos (C : Addr) : Sp := fun vs H Q _ =>
  ∃ (b : Addr) (ls : List (List Nat)) (l : List Nat), vs = [.ref b, vS l] ∧
  BaseAt C H b ls ∧ (∀ l ∈ ls, Nm l) ∧ l ∈ ls ∧
  ∀ H', Same H H' → Q (.int ((ls.idxOf l : Nat) : Int)) H'
def spPrec (C : Addr) : Sp := fun vs H Q _ =>
  ∃ (b : Addr) (ls : List (List Nat)) (l m : List Nat),
  vs = [.ref b, vS l, vS m] ∧
  BaseAt C H b ls ∧ (∀ l ∈ ls, Nm l) ∧ l ∈ ls ∧ m ∈ ls ∧
  ∀ H', Same H H' → Q (.bl (decide (ls.idxOf l < ls.idxOf m))) H'
theorem idx_get {ls : List (List Nat)} {l : List Nat} (h : l ∈ ls) :
    (ls.map vS)[ls.idxOf l]? = some (vS l) := by
  have hl := List.idxOf_lt_length_of_mem h
  rw [List.getElem?_map, List.getElem?_eq_getElem hl, List.getElem_idxOf hl]
  rfl
theorem idx_first {ls : List (List Nat)} {l : List Nat} (m : Nat) (z : V)
    (hm : m < ls.idxOf l) (hz : (ls.map vS)[m]? = some z) :
    eqV z (vS l) = false := by
  rw [List.getElem?_map] at hz
  cases e : ls[m]? with
  | none => rw [e] at hz; cases hz
  | some x =>
    rw [e] at hz
    cases Option.some.inj hz
    have ne : x ≠ l := by
      rintro rfl
      obtain ⟨hl, e2⟩ := List.getElem?_eq_some_iff.mp e
      have := List.not_of_lt_findIdx hm
      simp [e2] at this
    unfold eqV
    simp
    exact ne
theorem eqV_self (l : List Nat) : eqV (vS l) (vS l) = true := by
  unfold eqV
  simp
section
variable {P : Program} {w : World} {K : PySem.W.Frag}
  {mg : Str → Option Value} {base : Heap} {C : Addr}
theorem ok_pos {f : Addr} {fd : FuncData} {k : Nat}
    (F : Fun K "position_of" "Base.position_of" s_Base_position_of f fd)
    (T : BC K mg C)
    (Mh : CalM P w K mg base C k "has_item" ["self", "value"] (spHas K C)) :
    FnOk P w K mg base CX0 (k + 1) f fd ["self", "item"] (spPos C) := by
  refine F.ok sc_Base_position_of (fun vs H Q E h => ?_)
    (fun cv A outer s H vs Q E hr h => ?_)
  · obtain ⟨b, ls, l, rfl, _⟩ := h
    rfl
  obtain ⟨b, ls, l, rfl, hb, nm, hm, q⟩ := h
  have hu := hu_of hr
  refine ⟨_, pss_cons (ps_if (pt_not (pt_val
      (pe_calM Mh hr (pv 0) (pa_cons (pv 1) pa_nil)))) (pss_one ps_never)
      pss_nil)
    (pss_one (ps_ret (pe_dget hu (pe_fld (pv 0) rfl) (pv 1)
      (fun _ _ => rfl)))), ?_⟩
  obtain ⟨dx, lo, d, h1, h2, h3⟩ := hb.ob
  refine ⟨_, rfl, b, dx, _, rfl, h1, bf_no _ _ (by decide +kernel)
    (by decide +kernel), _, rfl, b, ls, _, rfl, hb, nm, .inl ⟨_, rfl,
    (nm l hm).len, fun H1 s1 => ?_⟩⟩
  rw [decide_eq_true (show (SX.S l).cps.toList ∈ ls from hm)]
  refine ⟨_, rfl, iteF ?_⟩
  refine ⟨_, rfl, b, C, dx, _, _, rfl, s1 _ _ h1, T.cl, T.nP, bf_places _ _, _,
    rfl, d, _, rfl, ?_, q H1 s1⟩
  have g := DGet.k (k := Sum.inr (SX.S l)) (s1 _ _ h3)
  rw [val_prs, if_pos hm, Nat.zero_add] at g
  exact g
theorem ok_prec {f : Addr} {fd : FuncData} {k : Nat}
    (F : Fun K "precedes" "Base.precedes" s_Base_precedes f fd)
    (Mp : CalM P w K mg base C k "position_of" ["self", "item"] (spPos C)) :
    FnOk P w K mg base CX0 (k + 1) f fd ["self", "first", "second"]
      (spPrec C) := by
  refine F.ok sc_Base_precedes (fun vs H Q E h => ?_)
    (fun cv A outer s H vs Q E hr h => ?_)
  · obtain ⟨b, ls, l, m, rfl, _⟩ := h
    rfl
  obtain ⟨b, ls, l, m, rfl, hb, nm, hl, hm, q⟩ := h
  refine ⟨_, pss_one (ps_ret (pe_cmpR op_lt
    (pe_calM Mp hr (pv 0) (pa_cons (pv 1) pa_nil))
    (pe_calM Mp hr (pv 0) (pa_cons (pv 2) pa_nil)) (nomark _))), ?_⟩
  obtain ⟨dx, lo, d, h1, h2, h3⟩ := hb.ob
  refine ⟨_, rfl, b, dx, _, rfl, h1, bf_no _ _ (by decide +kernel)
    (by decide +kernel), _, rfl, b, ls, l, rfl, hb, nm, hl, fun H1 s1 => ?_⟩
  refine ⟨_, rfl, b, dx, _, rfl, s1 _ _ h1, bf_no _ _ (by decide +kernel)
    (by decide +kernel), _, rfl, b, ls, m, rfl, hb.same s1, nm, hm,
    fun H2 s2 => ⟨_, _, rfl, rfl, ?_⟩⟩
  have := q H2 (s1.trans s2)
  show Q (.bl (decide (((ls.idxOf l : Nat) : Int) <
    ((ls.idxOf m : Nat) : Int)))) H2
  rw [show decide (((ls.idxOf l : Nat) : Int) < ((ls.idxOf m : Nat) : Int)) =
    decide (ls.idxOf l < ls.idxOf m) from decide_eq_decide.mpr
      ⟨fun z => by omega, fun z => by omega⟩]
  exact this
end
end OM
namespace OM
open PySem PySem.Spec PyProof.Rows L2
/-- the inverted pairs, new tuples in a new list -/
def spPairs (C : Addr) : Sp := fun vs H Q _ =>
  ∃ (b a : Addr) (ls os : List (List Nat)), vs = [.ref b, .ref a] ∧
  Ord C H b a ls os ∧ ∀ (q : Addr) (rs : List Addr) (H' : Hp), H q = none →
    H' q = some (.lst (rs.map V.ref)) → PrsAt H' rs (invAll ls os) →
    Same H H' → Q (.ref q) H'
/-- the same by the law -/
def spLInv : Sp := fun vs H Q _ =>
  ∃ (it a : Addr) (ls os : List (List Nat)), vs = [.ref it, .ref a] ∧
  H it = some (.lst (ls.map vS)) ∧ H a = some (.lst (os.map vS)) ∧ Good ls ∧
  os.Perm ls ∧ ∀ (q : Addr) (rs : List Addr) (H' : Hp), H q = none →
    H' q = some (.lst (rs.map V.ref)) → PrsAt H' rs (invAll ls os) →
    Same H H' → Q (.ref q) H'
theorem invF_snoc (os : List (List Nat)) (f : List Nat) (r : List (List Nat))
    (s : List Nat) : invF os f (r ++ [s]) = invF os f r ++
      if os.idxOf s < os.idxOf f then [(f, s)] else [] := by
  unfold invF
  rw [List.filter_append, List.map_append]
  congr 1
  by_cases h : os.idxOf s < os.idxOf f
  · rw [List.filter_cons_of_pos (by simpa using h), if_pos h]
    rfl
  · rw [List.filter_cons_of_neg (by simpa using h), if_neg h]
    rfl
theorem take_snoc {α : Type} {r : List α} {j : Nat} {s : α}
    (h : r[j]? = some s) : r.take (j + 1) = r.take j ++ [s] := by
  rw [List.take_add_one, h]
  rfl
theorem Good.many {ls : List (List Nat)} (g : Good ls) (os : List (List Nat))
    {i : Nat} (hi : i ≤ ls.length) : (invTo ls os i).length ≤ 1600 := by
  have a := invTo_len ls os i hi
  have b := g.hi
  have : i * ls.length ≤ 40 * 40 := Nat.mul_le_mul (by omega) b
  omega
theorem SqL.up {K : PySem.W.Frag} {H H' : Hp} {a : Addr} {xs : List V}
    (h : H a = some (.lst xs)) (s : Same H H') : SqL K H' a xs :=
  SqL.of (s _ _ h)
theorem PrsAt.put {H : Hp} {D : Addr} {o : HO} {xs : List V} :
    ∀ {rs : List Addr} {ps : List Pr}, PrsAt H rs ps →
      H D = some (.lst xs) → PrsAt (upd H D o) rs ps
  | _, _, .nil, _ => .nil
  | _, _, .cons h t, hD => .cons (by
      rw [upd_ne (ne_of h hD nofun)]; exact h) (PrsAt.put t hD)
end OM
namespace OM
open PySem PySem.Spec PyProof.Rows L2
section
variable {P : Program} {w : World} {K : PySem.W.Frag}
  {mg : Str → Option Value} {base : Heap} {C : Addr}
theorem ok_pairs {f : Addr} {fd : FuncData} {k : Nat}
    (F : Fun K "inverted_pairs" "inverted_pairs" s_inverted_pairs f fd)
    (B : Bl mg)
    (Cc : Cal P w K mg base k "check_order" ["base", "order"] (spFaultOk C))
    (Mn : CalM P w K mg base C k "names" ["self"] (spGetNames C)) :
    FnOk P w K mg base CX0 (k + 1) f fd ["base", "order"] (spPairs C) := by
  refine F.ok sc_inverted_pairs (fun vs H Q E h => ?_)
    (fun cv A outer s H vs Q E hr h => ?_)
  · obtain ⟨b, a, ls, os, rfl, _⟩ := h
    rfl
  obtain ⟨b, a, ls, os, rfl, o, q⟩ := h
  have nd := sc_inverted_pairs.nd
  have hu := hu_of hr
  refine ⟨_, pss_cons (ps_expr (pe_cal Cc hr (pa_cons (pv 0)
      (pa_cons (pv 1) pa_nil))))
    (pss_cons (ps_set (i := 2) nd rfl (.inr rfl)
      (pe_dc (own := [("name", 3), ("at", 4)])
        (g := gTup K 2 (gCons (gName 4) (gCons (gName 3) gNil)))
        (tt := tYes) rfl nd
        (pi_enum (by rfl) B.enum (pa_cons (pv 1) pa_nil))
        (blkOk_by (N := N_inverted_pairs) (sc := defScope s_inverted_pairs)
          (by decide +kernel))
        (fun _ _ _ _ _ => pg_tup rfl (pgs_cons (pg_name (i := 4) nd rfl
          (Or.inl rfl)) (pgs_cons (pg_name (i := 3) nd rfl (Or.inl rfl))
          pgs_nil)))
        (fun _ _ _ _ _ => pts_nil) (fun _ _ _ _ _ => pv 3)
        (fun _ _ _ _ _ => pv 4)))
    (pss_cons (ps_set (i := 5) nd rfl (.inr rfl) (pe_calM0 Mn hr (pv 0)))
    (pss_one (ps_ret
      (pe_lc2 (own := [("at", 4), ("first", 6), ("second", 7)]) (vs1 := [7])
        (g := gTup K 2 (gCons (gName 4) (gCons (gName 6) gNil)))
        (tt := tYes) (g1 := gName 7)
        (wi1 := iList K (tSl (rSlL K) (tVar 5) (tPart (tOp
          (rI0 fun i j => .int (i + j)) (tVar 4) (tC (.int 1)))) tNoPart))
        rfl nd
        (pi_enum (by rfl) B.enum (pa_cons (pv 5) pa_nil))
        (blkOk_by (N := N_inverted_pairs) (sc := defScope s_inverted_pairs)
          (by decide +kernel))
        (by decide)
        (fun _ _ _ _ _ => pg_tup rfl (pgs_cons (pg_name (i := 4) nd rfl
          (Or.inl rfl)) (pgs_cons (pg_name (i := 6) nd rfl (Or.inl rfl))
          pgs_nil)))
        (fun _ _ _ _ _ => pts_nil)
        (fun _ _ _ _ _ => pi_list (pe_slice sl_list (pv 5)
          (po_some (pe_op op_add (pv 4) pe_int)) po_none))
        (fun _ _ _ _ _ => pg_name (i := 7) nd rfl (Or.inl rfl))
        (fun _ _ _ _ _ => pts_one (pt_cmpR op_lt
          (pe_dget hu (pv 2) (pv 7) (fun _ _ => rfl))
          (pe_dget hu (pv 2) (pv 6) (fun _ _ => rfl)) (nomark _)))
        (fun _ _ _ _ _ => pe_tup (pa_cons (pv 6)
          (pa_cons (pv 7) pa_nil)))))))), ?_⟩
  have go := o.good.perm o.pm
  refine ⟨_, rfl, _, rfl, b, a, ls, os, rfl, o, fun H1 s1 => ?_⟩
  have o1 := o.same s1
  -- places
  refine ⟨_, rfl, a, _, rfl, SqL.of o1.li, fun d nd' => ?_⟩
  refine walkW (walk_enum (K := K) (a := a) (xs := os.map vS))
    (fun i H' => H' d = some (.dK (prs 0 (os.take i))) ∧ Same H1 H')
    ⟨upd_same, sameNew nd'⟩ (fun i H' _ z => SqL.up o1.li z.2) ?_ ?_
  · rintro i v H3 H4 hi ⟨hd, s3⟩ ⟨T', x1, x2, rfl, nT, rfl, e1, e2⟩
    obtain ⟨l, hl, rfl⟩ := get_map e2
    cases Option.some.inj e1
    rw [List.length_map] at hi
    have hhi := go.hi
    refine ⟨T', _, rfl, .inl (.inl upd_same), rfl, _, _, rfl, _, _, rfl, rfl,
      rfl, yes ⟨_, rfl, _, rfl, prs 0 (os.take i), Sum.inr (SX.S l), rfl, ?_, ?_,
      ?_, ?_⟩⟩
    · rw [upd_ne (ne_of_none hd nT)]
      exact hd
    · rw [prs_len, List.length_take]
      exact sz' (by omega)
    · rw [upd_same, putK_new _ (by
        rw [val_prs, if_neg (nodup_take go.nd hl)]), take_snoc hl, prs_snoc,
        List.length_take, Nat.min_eq_left (by omega), Nat.zero_add]
    · exact OM.Same.put (s3.trans (sameNew nT)) nd'
  rintro H2 ⟨hd, s2⟩
  rw [List.take_of_length_le (by rw [List.length_map]; exact Nat.le_refl _)]
    at hd
  have o2 := o1.same s2
  -- names
  obtain ⟨dx, lo, e, h1, h2, h3⟩ := o2.ba.ob
  refine ⟨_, rfl, b, dx, _, rfl, h1, bf_no _ _ (by decide +kernel)
    (by decide +kernel), b, ls, rfl, o2.ba, fun nm H3 nn hn s3 => ?_⟩
  have hd3 := s3 _ _ hd
  -- the pairs
  refine ⟨_, rfl, nm, _, rfl, SqL.of hn, fun D nD => ?_⟩
  refine walkW (walk_enum (K := K) (a := nm) (xs := ls.map vS))
    (fun i H' => ∃ rs, H' D = some (.lst (rs.map V.ref)) ∧
      PrsAt H' rs (invTo ls os i) ∧ Same H3 H')
    ⟨[], upd_same, .nil, sameNew nD⟩ (fun i H' _ z => by
      obtain ⟨_, _, _, s⟩ := z; exact SqL.up hn s) ?_ ?_
  · rintro i v H4 H5 hi ⟨rs, hD, pr, s4⟩ ⟨T', x1, x2, rfl, nT, rfl, e1, e2⟩
    obtain ⟨g, hg, rfl⟩ := get_map e2
    cases Option.some.inj e1
    rw [List.length_map] at hi
    have mg' : g ∈ os := o.pm.mem_iff.mpr (List.mem_of_getElem? hg)
    have s5 : Same H3 (upd H4 T' (.tup [.int (i : Nat), vS g])) :=
      s4.trans (sameNew nT)
    have hD5 : (upd H4 T' (.tup [.int (i : Nat), vS g])) D =
        some (.lst (rs.map V.ref)) := by rw [upd_ne (ne_of_none hD nT)]; exact hD
    have pr5 := pr.same (sameNew (o := .tup [.int (i : Nat), vS g]) nT)
    refine ⟨T', _, rfl, .inl (.inl upd_same), rfl, _, _, rfl, _, _, rfl, rfl,
      rfl, yes ⟨_, rfl, _, rfl, _, _, rfl, rfl, _, rfl, nm, _, rfl,
      SqL.up hn s5, fun t nt => ?_⟩⟩
    have ec : cutV (ls.map vS) (some ((i : Int) + 1)) none =
        (ls.drop (i + 1)).map vS := by
      have := cut_from (ls.map vS) (n := i + 1) (by
        rw [List.length_map]; omega)
      rw [← List.map_drop] at this
      exact this
    rw [ec]
    refine ⟨t, rfl, ⟨_, SqL.of upd_same⟩, ?_⟩
    have ntD : D ≠ t := ne_of_none hD5 nt
    refine walkW (walk_list (K := K) (a := t)
      (xs := (ls.drop (i + 1)).map vS))
      (fun j H' => ∃ rs, H' D = some (.lst (rs.map V.ref)) ∧
        PrsAt H' rs (invTo ls os i ++ invF os g ((ls.drop (i + 1)).take j)) ∧
        Same H3 H' ∧ H' t = some (.lst ((ls.drop (i + 1)).map vS)))
      ⟨rs, by rw [upd_ne ntD]; exact hD5, ?_, s5.trans (sameNew nt), upd_same⟩
      (fun j H' _ z => by obtain ⟨_, _, _, _, h⟩ := z; exact SqL.of h) ?_ ?_
    · rw [List.take_zero, show invF os g [] = [] from rfl, List.append_nil]
      exact pr5.same (sameNew nt)
    · rintro j v H6 H7 hj ⟨rs, hD6, pr6, s6, ht⟩ ⟨rfl, ex⟩
      obtain ⟨c, hc, rfl⟩ := get_map ex
      have mc : c ∈ os := o.pm.mem_iff.mpr (List.mem_of_mem_drop
        (List.mem_of_getElem? hc))
      have g1 := DGet.k (k := Sum.inr (SX.S c)) (s6 _ _ hd3)
      have g2 := DGet.k (k := Sum.inr (SX.S g)) (s6 _ _ hd3)
      rw [val_prs, if_pos mc, Nat.zero_add] at g1
      rw [val_prs, if_pos mg', Nat.zero_add] at g2
      refine ⟨rfl, _, rfl, _, rfl, d, _, rfl, g1, _, rfl, _, rfl, d, _, rfl, g2,
        _, _, rfl, rfl, _, rfl, ?_⟩
      have m1 := o.good.many os (show i ≤ ls.length by omega)
      have m2 := invF_len os g ((ls.drop (i + 1)).take j)
      rw [List.length_take, List.length_drop] at m2
      have hhi := o.good.hi
      have lrs := pr6.len
      rw [List.length_append] at lrs
      refine ite2 (fun z => ?_) (fun z => ?_)
      · have z' : os.idxOf c < os.idxOf g := by
          have : ((os.idxOf c : Nat) : Int) < ((os.idxOf g : Nat) : Int) :=
            of_decide_eq_true z
          omega
        refine ⟨_, rfl, _, rfl, sz (by simp), fun r nr => ⟨rs.map V.ref, ?_, ?_,
          rs ++ [r], ?_, ?_, ?_, ?_⟩⟩
        · rw [upd_ne (ne_of_none hD6 nr)]
          exact hD6
        · rw [List.length_map]
          exact sz' (by omega)
        · rw [upd_same, List.map_append]
          rfl
        · rw [take_snoc hc, invF_snoc, if_pos z', ← List.append_assoc]
          refine (PrsAt.snoc (p := (g, c)) upd_same (pr6.same (sameNew nr))).put
            (xs := rs.map V.ref) ?_
          rw [upd_ne (ne_of_none hD6 nr)]
          exact hD6
        · exact OM.Same.put (s6.trans (sameNew nr)) nD
        · rw [upd_ne (ne_of ht hD6 (fun y => ?_)), upd_ne (ne_of_none ht nr)]
          · exact ht
          · exact absurd y (fun y => by
              have y' := HO.lst.inj y
              have : 0 < (ls.drop (i + 1)).length := by
                have := (List.getElem?_eq_some_iff.mp hc).1
                omega
              cases e : ls.drop (i + 1) with
              | nil => rw [e] at this; exact absurd this (by decide)
              | cons x r =>
                rw [e] at y'
                cases rs with
                | nil => cases y'
                | cons r0 rr => cases (List.cons.inj y').1)
      · have z' : ¬ os.idxOf c < os.idxOf g := fun y => z (decide_eq_true
          (show ((os.idxOf c : Nat) : Int) < ((os.idxOf g : Nat) : Int) by
            omega))
        refine ⟨rs, hD6, ?_, s6, ht⟩
        rw [take_snoc hc, invF_snoc, if_neg z', List.append_nil]
        exact pr6
    · rintro H6 ⟨rs, hD6, pr6, s6, ht⟩
      refine ⟨rs, hD6, ?_, s6⟩
      rw [List.take_of_length_le (by rw [List.length_map]; exact Nat.le_refl _)]
        at pr6
      show PrsAt H6 rs (invTo ls os i ++ _)
      rw [hg]
      exact pr6
  · rintro H4 ⟨rs, hD, pr, s4⟩
    rw [List.length_map] at pr
    refine q D rs H4 ?_ hD pr (((s1.trans s2).trans s3).trans s4)
    exact ((s1.trans s2).trans s3).free nD
end
end OM
namespace OM
open PySem PySem.Spec PyProof.Rows L2
structure Bl2 (mg : Str → Option Value) : Prop where
  dict : mg "dict" = none
  int : mg "int" = none
theorem bt_dict : bootBuiltins "dict" = some (.type "dict") := by
  decide +kernel
theorem bt_int : bootBuiltins "int" = some (.type "int") := by
  decide +kernel
theorem merge_prs {ls : List (List Nat)} (nd : ls.Nodup) : ∀ i, i ≤ ls.length →
    mergeK [] (prs 0 (ls.take i)) = prs 0 (ls.take i)
  | 0, _ => rfl
  | i + 1, h => by
    have ih := merge_prs nd i (by omega)
    have hi : ls[i]? = some ls[i] := List.getElem?_eq_getElem (by omega)
    rw [take_snoc hi, prs_snoc]
    unfold mergeK at ih ⊢
    rw [List.foldl_append, ih]
    show putK (prs 0 (ls.take i)) (Sum.inr (SX.S ls[i])) _ = _
    rw [putK_new _ (by rw [val_prs, if_neg (nodup_take nd hi)])]
/-- the tuples (item, place) -/
def KvAt (K : PySem.W.Frag) (H : Hp) (rs : List Addr)
    (kvs : List (Key × V)) : Prop :=
  Paired (fun p (kv : Key × V) => SqT K H p [kV kv.1, kv.2]) rs kvs
theorem KvAt.snoc {K : PySem.W.Frag} {H : Hp} {r : Addr} {kv : Key × V}
    (h : SqT K H r [kV kv.1, kv.2]) : ∀ {rs : List Addr}
    {kvs : List (Key × V)}, KvAt K H rs kvs → KvAt K H (rs ++ [r]) (kvs ++ [kv])
  | _, _, .nil => .cons h .nil
  | _, _, .cons a t => .cons a (KvAt.snoc h t)
theorem KvAt.len {K : PySem.W.Frag} {H : Hp} : ∀ {rs : List Addr}
    {kvs : List (Key × V)}, KvAt K H rs kvs → rs.length = kvs.length
  | _, _, .nil => rfl
  | _, _, .cons _ t => congrArg (· + 1) (KvAt.len t)
theorem SqT.put {K : PySem.W.Frag} {H : Hp} {r D : Addr} {o : HO}
    {xs ys : List V} (h : SqT K H r xs) (hD : H D = some (.lst ys)) :
    SqT K (upd H D o) r xs := by
  rcases h with (h | ⟨ob, h⟩) | h
  · exact .inl (.inl (by rw [upd_ne (ne_of h hD nofun)]; exact h))
  · exact .inl (.inr ⟨ob, by rw [upd_ne (ne_of h hD nofun)]; exact h⟩)
  · exact .inr h
theorem SqT.same {K : PySem.W.Frag} {H H' : Hp} {r : Addr} {xs : List V}
    (h : SqT K H r xs) (s : Same H H') : SqT K H' r xs := by
  rcases h with (h | ⟨ob, h⟩) | h
  · exact .inl (.inl (s _ _ h))
  · exact .inl (.inr ⟨ob, s _ _ h⟩)
  · exact .inr h
theorem KvAt.put {K : PySem.W.Frag} {H : Hp} {D : Addr} {o : HO} {ys : List V}
    (hD : H D = some (.lst ys)) : ∀ {rs : List Addr} {kvs : List (Key × V)},
    KvAt K H rs kvs → KvAt K (upd H D o) rs kvs
  | _, _, .nil => .nil
  | _, _, .cons h t => .cons (OM.SqT.put h hD) (KvAt.put hD t)
theorem KvAt.same {K : PySem.W.Frag} {H H' : Hp} (s : Same H H') :
    ∀ {rs : List Addr} {kvs : List (Key × V)},
    KvAt K H rs kvs → KvAt K H' rs kvs
  | _, _, .nil => .nil
  | _, _, .cons h t => .cons (OM.SqT.same h s) (KvAt.same s t)
end OM
namespace OM
open PySem PySem.Spec PyProof.Rows L2
section
variable {P : Program} {w : World} {K : PySem.W.Frag}
  {mg : Str → Option Value} {base : Heap} {C : Addr}
theorem ok_linv {f : Addr} {fd : FuncData} {k : Nat}
    (F : Fun K "_law_inverted" "_law_inverted" s_Linverted f fd)
    (B : Bl mg) (B2 : Bl2 mg) :
    FnOk P w K mg base CX0 (k + 1) f fd ["_law_items", "_law_order"]
      spLInv := by
  refine F.ok sc_Linverted (fun vs H Q E h => ?_)
    (fun cv A outer s H vs Q E hr h => ?_)
  · obtain ⟨it, a, ls, os, rfl, _⟩ := h
    rfl
  obtain ⟨it, a, ls, os, rfl, hit, ha, gl, pm, q⟩ := h
  have nd := sc_Linverted.nd
  have hu := hu_of hr
  refine ⟨_, pss_cons (ps_set (i := 2) nd rfl (.inr rfl)
      (pe_callTy (call_dictP rfl) (by rfl) B2.dict bt_dict (pa_cons
        (pe_lc (own := [("_law_k", 4), ("_law_item", 3)])
          (g := gTup K 2 (gCons (gName 4) (gCons (gName 3) gNil)))
          (tt := tYes) rfl nd
          (pi_enum (by rfl) B.enum (pa_cons (pv 1) pa_nil))
          (blkOk_by (N := N_Linverted) (sc := defScope s_Linverted)
            (by decide +kernel))
          (fun _ _ _ _ _ => pg_tup rfl (pgs_cons (pg_name (i := 4) nd rfl
            (Or.inl rfl)) (pgs_cons (pg_name (i := 3) nd rfl (Or.inl rfl))
            pgs_nil)))
          (fun _ _ _ _ _ => pts_nil)
          (fun _ _ _ _ _ => pe_tup (pa_cons (pv 3) (pa_cons (pv 4) pa_nil))))
        pa_nil)))
    (pss_cons (ps_set (i := 5) nd rfl (.inl rfl) (pe_lst pa_nil))
    (pss_cons (ps_for PassesOwn.never rfl
      (pi_enum (by rfl) B.enum (pa_cons (pv 0) pa_nil))
      (pg_tup rfl (pgs_cons (pg_name (i := 4) nd rfl (.inl rfl))
        (pgs_cons (pg_name (i := 6) nd rfl (.inr rfl)) pgs_nil)))
      (pss_one (ps_set (i := 5) nd rfl (.inl rfl) (pe_op op_cat (pv 5)
        (pe_lc (own := [("_law_second", 7)]) (g := gName 7) rfl nd
          (pi_list (pe_slice sl_list (pv 0)
            (po_some (pe_op op_add (pv 4) pe_int)) po_none))
          (blkOk_by (N := N_Linverted) (sc := defScope s_Linverted)
            (by decide +kernel))
          (fun _ _ _ _ _ => pg_name (i := 7) nd rfl (Or.inl rfl))
          (fun _ _ _ _ _ => pts_one (pt_cmpR op_lt
            (pe_dget hu (pv 2) (pv 7) (fun _ _ => rfl))
            (pe_dget hu (pv 2) (pv 6) (fun _ _ => rfl)) (nomark _)))
          (fun _ _ _ _ _ => pe_tup (pa_cons (pv 6)
            (pa_cons (pv 7) pa_nil))))))))
    (pss_one (ps_ret (pv 5))))), ?_⟩
  have go := gl.perm pm
  -- the places
  refine ⟨_, rfl, a, _, rfl, SqL.of ha, fun L nL => ?_⟩
  refine walkW (walk_enum (K := K) (a := a) (xs := os.map vS))
    (fun i H' => ∃ rs, H' L = some (.lst (rs.map V.ref)) ∧
      KvAt K H' rs (prs 0 (os.take i)) ∧ Same H H')
    ⟨[], upd_same, .nil, sameNew nL⟩ (fun i H' _ z => by
      obtain ⟨_, _, _, s⟩ := z; exact SqL.up ha s) ?_ ?_
  · rintro i v H3 H4 hi ⟨rs, hL, kv, s3⟩ ⟨T', x1, x2, rfl, nT, rfl, e1, e2⟩
    obtain ⟨l, hl, rfl⟩ := get_map e2
    cases Option.some.inj e1
    rw [List.length_map] at hi
    have hhi := go.hi
    have lk := kv.len
    rw [prs_len, List.length_take] at lk
    refine ⟨T', _, rfl, .inl (.inl upd_same), rfl, _, _, rfl, _, _, rfl, rfl,
      rfl, yes ⟨_, rfl, _, rfl, sz (by simp), fun r nr => ⟨rs.map V.ref, ?_, ?_,
      rs ++ [r], ?_, ?_, ?_⟩⟩⟩
    · rw [upd_ne (ne_of_none (sameNew nT _ _ hL) nr), upd_ne (ne_of_none hL nT)]
      exact hL
    · rw [List.length_map]
      exact sz' (by omega)
    · rw [upd_same, List.map_append]
      rfl
    · rw [take_snoc hl, prs_snoc, List.length_take, Nat.min_eq_left (by omega),
        Nat.zero_add]
      refine KvAt.put (ys := rs.map V.ref) ?_ (KvAt.snoc
        (kv := (Sum.inr (SX.S l), .int (i : Nat))) (.inl (.inl upd_same))
        (KvAt.same (sameNew nr) (KvAt.same (sameNew nT) kv)))
      rw [upd_ne (ne_of_none (sameNew nT _ _ hL) nr), upd_ne (ne_of_none hL nT)]
      exact hL
    · exact OM.Same.put ((s3.trans (sameNew nT)).trans (sameNew nr)) nL
  rintro H1 ⟨rs0, hL, kv, s1⟩
  rw [List.length_map] at kv
  refine ⟨L, rs0, prs 0 (os.take os.length), rfl, SqL.of hL, kv,
    fun d nd' => ?_⟩
  rw [merge_prs go.nd _ (Nat.le_refl _), List.take_length]
  have s2 : Same H (upd H1 d (.dK (prs 0 os))) := s1.trans (sameNew nd')
  have hd2 : (upd H1 d (.dK (prs 0 os))) d = some (.dK (prs 0 os)) := upd_same
  generalize upd H1 d (.dK (prs 0 os)) = H2 at s2 hd2 ⊢
  -- the pairs
  refine ⟨sz (by simp), fun r0 nr0 => ?_⟩
  have s3 : Same H2 (upd H2 r0 (.lst [])) := sameNew nr0
  refine ⟨_, rfl, it, _, rfl, SqL.up hit (s2.trans s3), ?_⟩
  refine for_it (walk_enum (K := K) (a := it) (xs := ls.map vS))
    (fun i σ H' => ∃ (rr : Addr) (rs : List Addr) (y z : Option V),
      σ = [some (.ref it), some (.ref a), some (.ref d), none, y,
        some (.ref rr), z, none] ∧ H2 rr = none ∧
      H' rr = some (.lst (rs.map V.ref)) ∧
      PrsAt H' rs (invTo ls os i) ∧ Same H2 H')
    ⟨r0, [], none, none, rfl, nr0, upd_same, .nil, s3⟩
    (fun i σ H' _ z => by
      obtain ⟨_, _, _, _, _, _, _, _, s⟩ := z
      exact SqL.up hit (s2.trans s)) ?_ ?_
  · rintro i v σ H4 H5 hi ⟨rr, rs, y, z, rfl, nrr, hrr, pr, s4⟩
      ⟨T', x1, x2, rfl, nT, rfl, e1, e2⟩
    obtain ⟨g, hg, rfl⟩ := get_map e2
    cases Option.some.inj e1
    rw [List.length_map] at hi
    have mg' : g ∈ os := pm.mem_iff.mpr (List.mem_of_getElem? hg)
    have s5 : Same H2 (upd H4 T' (.tup [.int (i : Nat), vS g])) :=
      s4.trans (sameNew nT)
    have hr5 : (upd H4 T' (.tup [.int (i : Nat), vS g])) rr =
        some (.lst (rs.map V.ref)) := by
      rw [upd_ne (ne_of_none hrr nT)]; exact hrr
    have pr5 := pr.same (sameNew (o := .tup [.int (i : Nat), vS g]) nT)
    have hT5 : (upd H4 T' (.tup [.int (i : Nat), vS g])) T' =
      some (.tup [.int (i : Nat), vS g]) := upd_same
    generalize upd H4 T' (.tup [.int (i : Nat), vS g]) = H5
      at s5 hr5 pr5 hT5 ⊢
    refine ⟨T', _, rfl, .inl (.inl hT5), rfl, _, _, rfl, _, _, rfl, rfl, ?_⟩
    refine ⟨_, rfl, _, rfl, _, rfl, _, _, rfl, rfl, _, rfl, it, _, rfl,
      SqL.up hit (s2.trans s5), fun t nt => ?_⟩
    have ec : cutV (ls.map vS) (some ((i : Int) + 1)) none =
        (ls.drop (i + 1)).map vS := by
      have := cut_from (ls.map vS) (n := i + 1) (by
        rw [List.length_map]; omega)
      rw [← List.map_drop] at this
      exact this
    rw [ec]
    refine ⟨t, rfl, ⟨_, SqL.of upd_same⟩, fun D nD => ?_⟩
    have s6 : Same H5 (upd H5 t (.lst ((ls.drop (i + 1)).map vS))) :=
      sameNew nt
    have ht6 : (upd H5 t (.lst ((ls.drop (i + 1)).map vS))) t =
      some (.lst ((ls.drop (i + 1)).map vS)) := upd_same
    generalize upd H5 t (.lst ((ls.drop (i + 1)).map vS)) = H6
      at s6 ht6 nD ⊢
    refine walkW (walk_list (K := K) (a := t)
      (xs := (ls.drop (i + 1)).map vS))
      (fun j H' => ∃ ns, H' D = some (.lst (ns.map V.ref)) ∧
        PrsAt H' ns (invF os g ((ls.drop (i + 1)).take j)) ∧ Same H6 H')
      ⟨[], upd_same, .nil, sameNew nD⟩
      (fun j H' _ z => by
        obtain ⟨_, _, _, s⟩ := z; exact SqL.up ht6 s) ?_ ?_
    · rintro j v H7 H8 hj ⟨ns, hD7, pr7, s7⟩ ⟨rfl, ex⟩
      obtain ⟨c, hc, rfl⟩ := get_map ex
      have mc : c ∈ os := pm.mem_iff.mpr (List.mem_of_mem_drop
        (List.mem_of_getElem? hc))
      have hdd := s7 _ _ (s6 _ _ (s5 _ _ hd2))
      have g1 := DGet.k (k := Sum.inr (SX.S c)) hdd
      have g2 := DGet.k (k := Sum.inr (SX.S g)) hdd
      rw [val_prs, if_pos mc, Nat.zero_add] at g1
      rw [val_prs, if_pos mg', Nat.zero_add] at g2
      refine ⟨rfl, _, rfl, _, rfl, d, _, rfl, g1, _, rfl, _, rfl, d, _, rfl, g2,
        _, _, rfl, rfl, _, rfl, ?_⟩
      have m2 := invF_len os g ((ls.drop (i + 1)).take j)
      rw [List.length_take, List.length_drop] at m2
      have hhi := gl.hi
      have lrs := pr7.len
      refine ite2 (fun z => ?_) (fun z => ?_)
      · have z' : os.idxOf c < os.idxOf g := by
          have : ((os.idxOf c : Nat) : Int) < ((os.idxOf g : Nat) : Int) :=
            of_decide_eq_true z
          omega
        refine ⟨_, rfl, _, rfl, sz (by simp), fun r nr => ⟨ns.map V.ref, ?_, ?_,
          ns ++ [r], ?_, ?_, ?_⟩⟩
        · rw [upd_ne (ne_of_none hD7 nr)]
          exact hD7
        · rw [List.length_map]
          exact sz' (by omega)
        · rw [upd_same, List.map_append]
          rfl
        · rw [take_snoc hc, invF_snoc, if_pos z']
          refine (PrsAt.snoc (p := (g, c)) upd_same
            (pr7.same (sameNew nr))).put (xs := ns.map V.ref) ?_
          rw [upd_ne (ne_of_none hD7 nr)]
          exact hD7
        · exact OM.Same.put (s7.trans (sameNew nr)) nD
      · have z' : ¬ os.idxOf c < os.idxOf g := fun y => z (decide_eq_true
          (show ((os.idxOf c : Nat) : Int) < ((os.idxOf g : Nat) : Int) by
            omega))
        refine ⟨ns, hD7, ?_, s7⟩
        rw [take_snoc hc, invF_snoc, if_neg z', List.append_nil]
        exact pr7
    · rintro H7 ⟨ns, hD7, pr7, s7⟩
      rw [List.take_of_length_le (by rw [List.length_map]; exact Nat.le_refl _)]
        at pr7
      have hr7 := s7 _ _ (s6 _ _ hr5)
      have pr8 := (pr5.same s6).same s7
      have m1 := gl.many os (show i ≤ ls.length by omega)
      have m2 := invF_len os g (ls.drop (i + 1))
      rw [List.length_drop] at m2
      have hhi := gl.hi
      have l1 := pr8.len
      have l2 := pr7.len
      refine ⟨rr, D, _, _, rfl, rfl, hr7, hD7, ?_, fun n0 nn => ?_⟩
      · rw [List.length_map, List.length_map]
        exact sz (by omega)
      refine ⟨n0, rs ++ ns, _, _, rfl, ?_, ?_, ?_, ?_⟩
      · exact ((s5.trans s6).trans s7).free nn
      · rw [upd_same, List.map_append]
      · show PrsAt _ _ (invTo ls os i ++ _)
        rw [hg]
        exact (PrsAt.app pr7 pr8).same (sameNew nn)
      · exact ((s5.trans s6).trans s7).trans (sameNew nn)
  · rintro σ H4 ⟨rr, rs, y, z, rfl, nrr, hrr, pr, s4⟩
    rw [List.length_map] at pr
    exact ⟨_, rfl, q rr rs H4 (s2.free nrr) hrr pr (s2.trans s4)⟩
end
end OM
namespace OM
open PySem PySem.Spec PyProof.Rows L2
theorem swap_perm {α : Type} : ∀ (xs : List α) (k : Nat) (h : k + 1 < xs.length),
    ((xs.set k xs[k + 1]).set (k + 1) xs[k]).Perm xs
  | [], k, h => absurd h (by simp)
  | [x], k, h => absurd h (by simp)
  | x :: y :: r, 0, h => List.Perm.swap x y r
  | x :: y :: r, k + 1, h => by
    have ih := swap_perm (y :: r) k (by simpa using h)
    exact List.Perm.cons x ih
/-- swaps of neighbours -/
def spNear (K : PySem.W.Frag) : Sp := fun vs H Q _ =>
  ∃ (p a : Addr) (m : Nat) (xs : List V), vs = [.ref p, .ref a, .int m] ∧
  Rng H p ∧ SqL K H a xs ∧ a ≠ p ∧ xs.length ≤ 1000 ∧ m ≤ 1000 ∧
  ∀ (q : Addr) (ys : List V) (H' : Hp), H q = none → ys.Perm xs →
    H' q = some (.lst ys) → Rng H' p → But p H H' → Q (.ref q) H'
theorem ixN_nat {n j : Nat} (h : j < n) : ixN n (j : Int) = some j := by
  unfold ixN
  rw [if_pos (by omega), if_pos (by omega), Int.toNat_natCast]
section
variable {P : Program} {w : World} {K : PySem.W.Frag}
  {mg : Str → Option Value} {base : Heap} {C : Addr}
theorem ok_near {f : Addr} {fd : FuncData} {k : Nat}
    (F : Fun K "_law_near_order" "_law_near_order" s_Lnear_order f fd)
    (B : Bl mg) (B2 : Bl2 mg) (Cd : CalDraw P w K mg base k) :
    FnOk P w K mg base CX0 (k + 1) f fd
      ["_law_rng_here", "_law_order", "_law_many"] (spNear K) := by
  refine F.ok sc_Lnear_order (fun vs H Q E h => ?_)
    (fun cv A outer s H vs Q E hr h => ?_)
  · obtain ⟨p, a, m, xs, rfl, _⟩ := h
    rfl
  obtain ⟨p, a, m, xs, rfl, rg, hS, nap, hx, hm, q⟩ := h
  have nd := sc_Lnear_order.nd
  refine ⟨_, pss_cons (ps_set (i := 3) nd rfl (.inl rfl)
      (pe_callTy call_list_of (by rfl) B.list bt_list (pa_cons (pv 1) pa_nil)))
    (pss_cons (ps_for PassesOwn.never rfl
      (pi_range1 (by rfl) B.range (pa_cons (pe_op op_mul
        (pe_cal Cd hr (pa_cons (pv 0) (pa_cons (pe_op op_add (pv 2) pe_int)
          pa_nil)))
        (pe_callTy call_int1 (by rfl) B2.int bt_int (pa_cons
          (pe_cmpR op_gt (pe_callB call_len_seq (by rfl) B.len PySem.boot_len
            (pa_cons (pv 3) pa_nil)) pe_int (nomark _)) pa_nil))) pa_nil))
      (pg_name (i := 4) nd rfl (.inl rfl))
      (pss_cons (ps_set (i := 5) nd rfl (.inl rfl)
        (pe_cal Cd hr (pa_cons (pv 0) (pa_cons (pe_op op_sub
          (pe_callB call_len_seq (by rfl) B.len PySem.boot_len
            (pa_cons (pv 3) pa_nil)) pe_int) pa_nil))))
      (pss_one (ps_asg (pe_tup (pa_cons
          (pe_ix ix_list (pv 3) (pe_op op_add (pv 5) pe_int) (fun _ _ => rfl))
          (pa_cons (pe_ix ix_list (pv 3) (pv 5) (fun _ _ => rfl)) pa_nil)))
        (pg_tup rfl (pgs_cons (pg_sub (pv 3) (pv 5) set_list)
          (pgs_cons (pg_sub (pv 3) (pe_op op_add (pv 5) pe_int) set_list)
            pgs_nil)))))))
    (pss_one (ps_ret (pv 3)))), ?_⟩
  refine ⟨_, rfl, a, _, rfl, .inl hS, fun r nr => ?_⟩
  have nrp : r ≠ p := (rg.ne nr).symm
  have rg1 : Rng (upd H r (.lst xs)) p := rg.same (sameNew nr)
  refine ⟨_, rfl, _, rfl, _, _, rfl, rfl, p, m + 1, rfl, rg1, by omega, by omega,
    fun d H2 d0 d1 rg2 b2 => ?_⟩
  have b2' : But p H H2 := ((But.refl H).put nr nrp).trans b2
  have hr2 := b2 r _ upd_same nrp
  refine ⟨_, rfl, r, _, rfl, .inl (SqL.of hr2), _, _, rfl, rfl,
    .inr ⟨_, rfl, d, _, rfl, rfl, .inl ⟨by omega, by omega⟩, _, rfl, ?_, ?_, ?_⟩⟩
  · show -(2 ^ 62) ≤ d * (if decide ((1 : Int) < xs.length) = true then 1 else 0)
    split <;> omega
  · show d * (if decide ((1 : Int) < xs.length) = true then 1 else 0) < 2 ^ 62
    split <;> omega
  generalize ht : (d * (if decide ((1 : Int) < (xs.length : Int)) = true then 1
    else 0)).toNat = t
  have two : 0 < t → 1 < xs.length := by
    intro h
    rw [← ht] at h
    split at h
    · rename_i z
      have := of_decide_eq_true z
      omega
    · simp at h
  refine for_range (lo := 0) (n := t) (fun i σ H' => ∃ (ys : List V)
      (y z : Option V), σ = [some (.ref p), some (.ref a), some (.int m),
      some (.ref r), y, z] ∧ ys.Perm xs ∧ H' r = some (.lst ys) ∧ Rng H' p ∧
      But p H H')
    ⟨xs, none, none, rfl, List.Perm.refl _, hr2, rg2, b2'⟩ ?_ ?_
  · rintro i σ H3 hi ⟨ys, y, z, rfl, pm, h3, rg3, b3⟩
    have l1 := two (by omega)
    have l2 := pm.length_eq
    refine ⟨_, rfl, _, rfl, r, _, rfl, .inl (SqL.of h3), _, _, rfl, rfl, p,
      ys.length - 1, rfl, rg3, by omega, by omega, fun e H4 e0 e1 rg4 b4 => ?_⟩
    have h4 := b4 r _ h3 nrp
    have he : e = ((e.toNat : Nat) : Int) := by omega
    generalize e.toNat = j at he
    subst he
    have hj : j + 1 < ys.length := by omega
    refine ⟨_, rfl, _, rfl, _, _, rfl, rfl, r, _, _, ys[j + 1], rfl, rfl,
      SqL.of h4, atI_nat (j := j + 1) (List.getElem?_eq_getElem hj), _, rfl, _,
      rfl, r, _, _, ys[j], rfl, rfl, SqL.of h4, atI_nat (j := j)
      (List.getElem?_eq_getElem (by omega)), sz (by simp), fun t2 nt => ?_⟩
    have ntp : t2 ≠ p := (rg4.ne nt).symm
    have ntr : r ≠ t2 := ne_of_none h4 nt
    have h5 : (upd H4 t2 (.tup [ys[j + 1], ys[j]])) r = some (.lst ys) := by
      rw [upd_ne ntr]; exact h4
    refine ⟨t2, _, rfl, .inl (.inl upd_same), rfl, _, _, rfl, _, rfl, _, rfl, r,
      ys, j, j, rfl, rfl, h5, ixN_nat (by omega), _, _, rfl, _, rfl, _, rfl, _,
      _, rfl, rfl, r, _, j + 1, j + 1, rfl, rfl, upd_same, ?_, rfl, ?_⟩
    · exact ixN_nat (by rw [List.length_set]; omega)
    refine ⟨_, _, _, rfl, ?_, upd_same, ?_, ?_⟩
    · exact (swap_perm ys j hj).trans pm
    · exact ((rg4.same (sameNew nt)).but (But.at (p := r) (But.refl _))
        nrp.symm).but (But.at (p := r) (But.refl _)) nrp.symm
    · exact (((b3.trans b4).put nt ntp).new nr).new nr
  · rintro σ H3 ⟨ys, y, z, rfl, pm, h3, rg3, b3⟩
    exact ⟨_, rfl, q r ys H3 nr pm h3 rg3 b3⟩
end
end OM
namespace OM
open PySem PySem.Spec PyProof.Rows L2
theorem idx_of {α : Type} [BEq α] [LawfulBEq α] {l : List α} {i : Nat} {x : α}
    (nd : l.Nodup) (h : l[i]? = some x) : l.idxOf x = i := by
  have hm := List.mem_of_getElem? h
  have hl := List.idxOf_lt_length_of_mem hm
  obtain ⟨hi, e⟩ := List.getElem?_eq_some_iff.mp h
  have e2 := List.getElem_idxOf hl
  exact (List.getElem_inj nd).mp (e2.trans e.symm)
theorem idx_inj {l : List (List Nat)} {x y : List Nat} (hx : x ∈ l)
    (h : l.idxOf x = l.idxOf y) (hy : y ∈ l) : x = y := by
  have a := List.getElem_idxOf (List.idxOf_lt_length_of_mem hx)
  have b := List.getElem_idxOf (List.idxOf_lt_length_of_mem hy)
  rw [← a, ← b]
  congr 1
theorem mem_drop_idx {l : List (List Nat)} (nd : l.Nodup) {j : Nat}
    {s : List Nat} : s ∈ l.drop j ↔ s ∈ l ∧ j ≤ l.idxOf s := by
  constructor
  · intro h
    obtain ⟨i, hi⟩ := List.mem_iff_getElem?.mp h
    rw [List.getElem?_drop] at hi
    rw [idx_of nd hi]
    exact ⟨List.mem_of_getElem? hi, by omega⟩
  · rintro ⟨h, hj⟩
    have hl := List.idxOf_lt_length_of_mem h
    refine List.mem_iff_getElem?.mpr ⟨l.idxOf s - j, ?_⟩
    rw [List.getElem?_drop, show j + (l.idxOf s - j) = l.idxOf s by omega,
      List.getElem?_eq_getElem hl, List.getElem_idxOf hl]
theorem invAll_mem {ls os : List (List Nat)} (nd : ls.Nodup) {p : Pr} :
    p ∈ invAll ls os ↔ p.1 ∈ ls ∧ p.2 ∈ ls ∧ ls.idxOf p.1 < ls.idxOf p.2 ∧
      os.idxOf p.2 < os.idxOf p.1 := by
  unfold invAll
  rw [invTo_mem]
  constructor
  · rintro ⟨j, hj, h1, h2, h3⟩
    have e := idx_of nd h1
    have d := (mem_drop_idx nd).mp h2
    exact ⟨List.mem_of_getElem? h1, d.1, by omega, h3⟩
  · rintro ⟨h1, h2, h3, h4⟩
    have hl := List.idxOf_lt_length_of_mem h1
    refine ⟨ls.idxOf p.1, hl, ?_, (mem_drop_idx nd).mpr ⟨h2, h3⟩, h4⟩
    rw [List.getElem?_eq_getElem hl, List.getElem_idxOf hl]
theorem Good.uniP {ls os : List (List Nat)} (g : Good ls) :
    UniP (invAll ls os) := fun p hp => by
  have h := (invAll_mem g.nd).mp hp
  exact ⟨⟨(g.nm _ h.1).hi, (g.nm _ h.1).uni⟩,
    ⟨(g.nm _ h.2.1).hi, (g.nm _ h.2.1).uni⟩⟩
theorem Good.ne {ls : List (List Nat)} (g : Good ls) : ls ≠ [] := fun e => by
  have := g.lo
  rw [e] at this
  exact absurd this (by decide)
theorem ne_no {x : V} {A B : Prop} (h : B) :
    if (!decide (x = x)) = true then A else B := iteNS rfl h
/-- the pair of two items, by their places -/
def pairOf (ls : List (List Nat)) (l m : List Nat) : Pr :=
  if ls.idxOf l < ls.idxOf m then (l, m) else (m, l)
end OM
namespace OM
open PySem PySem.Spec PyProof.Rows L2
/-! ### what the top has left -/
structure DefAt (K : PySem.W.Frag) (mg : Str → Option Value) (x : Str)
    (st : Stmt) (ps : List Str) (f : Addr) (fd : FuncData) : Prop where
  fn : Fun K x x st f fd
  mg : mg x = some (.ref f)
  bd : Binds K fd ps []
  bt : ∀ (s : Shared) (us : List Value), us.length = ps.length →
    BindsTo s fd ⟨us, []⟩ (ps.zip us)
theorem defAt {K : PySem.W.Frag} {mg : Str → Option Value} {h : Heap}
    {x : Str} {st : Stmt} {ps : List Str} {f : Addr} {oc : Value}
    {od an : Option Addr} {sl : Array (Option Value)}
    {kV dc pm cv ct : Value} (X : K.In h) (G : h.Ns mainGlobals mg)
    (a : PySem.W.nsIn K mainGlobals x = some (some (.ref f)))
    (l : K.lookup f = some ⟨oc, od, .func (PySem.W.fnOf x x (defArgs st)
      (defBody st) (defScope st) .none kV dc pm an cv ct), sl⟩)
    (c : PySem.W.codeIn K cv x = true)
    (k : PySem.W.keepIn K (.ref f) = true)
    (b : ∀ (kV doc pm : Value) (an : Option Addr) (cdv ct : Value)
      (us : List Value), us.length = ps.length →
      bindArgs (PySem.W.fnOf x x (defArgs st) (defBody st) (defScope st)
        .none kV doc pm an cdv ct) ⟨us, []⟩ = pure (ps.zip us)) :
    ∃ fd, DefAt K mg x st ps f fd :=
  have F := fun_mk (st := st) l c k
  ⟨_, F, PySem.W.mg_of X G a, F.binds b,
    fun _ us hl => .of_eq (b _ _ _ _ _ _ us hl)⟩
structure MethAt (K : PySem.W.Frag) (C : Addr) (m q : Str) (st : Stmt)
    (ps : List Str) (f : Addr) (fd : FuncData) : Prop where
  fn : Fun K m q st f fd
  me : Meth K C m f
  bd : Binds K fd ps []
theorem methAt {K : PySem.W.Frag} {C : Addr}
    {m q : Str} {st : Stmt} {ps : List Str} {f : Addr} {oc : Value}
    {od an : Option Addr} {sl : Array (Option Value)}
    {kV dc pm cv ct : Value}
    (a : PySem.W.findIn K (.ref C) m = some (some (.ref f)))
    (i : PySem.W.isFn K (.ref f) = true)
    (l : K.lookup f = some ⟨oc, od, .func (PySem.W.fnOf m q (defArgs st)
      (defBody st) (defScope st) .none kV dc pm an cv ct), sl⟩)
    (c : PySem.W.codeIn K cv q = true)
    (k : PySem.W.keepIn K (.ref f) = true)
    (b : ∀ (kV doc pm : Value) (an : Option Addr) (cdv ct : Value)
      (us : List Value), us.length = ps.length →
      bindArgs (PySem.W.fnOf m q (defArgs st) (defBody st) (defScope st)
        .none kV doc pm an cdv ct) ⟨us, []⟩ = pure (ps.zip us)) :
    ∃ fd, MethAt K C m q st ps f fd :=
  have F := fun_mk (st := st) l c k
  ⟨_, F, ⟨a, i, k⟩, F.binds b⟩
section
variable {P : Program} {w : World} {K : PySem.W.Frag}
  {mg : Str → Option Value} {base : Heap} {C : Addr}
theorem DefAt.cal {k j : Nat} {x : Str} {st : Stmt} {ps : List Str} {f : Addr}
    {fd : FuncData} {sp : Sp} (D : DefAt K mg x st ps f fd)
    (G : FnOk P w K mg base CX0 j f fd ps sp) (h : j ≤ k) :
    Cal P w K mg base k x ps sp :=
  ⟨f, fd, G.mono h, D.mg, D.fn.kp, D.bd⟩
theorem FnG.up {j k : Nat} {f : Addr} {fd : FuncData} {ps : List Str} {sp : Sp}
    (F : FnG P w K mg base CX0 j f fd ps sp) (h : j ≤ k) :
    FnG P w K mg base CX0 k f fd ps sp :=
  ⟨F.len, fun A o s H ar us vs Q E r g e b v z =>
    F.run A o s H ar us vs Q E (r.mono h) g e b v z⟩
theorem DefAt.calG {k j : Nat} {x : Str} {st : Stmt} {ps : List Str} {f : Addr}
    {fd : FuncData} {sp : Sp} (D : DefAt K mg x st ps f fd)
    (G : FnG P w K mg base CX0 j f fd ps sp) (h : j ≤ k) :
    CalG P w K mg base k x ps sp :=
  ⟨f, fd, G.up h, D.mg, D.fn.kp, D.bd⟩
theorem MethAt.calM {k j : Nat} {m q : Str} {st : Stmt} {ps : List Str}
    {f : Addr} {fd : FuncData} {sp : Sp} (D : MethAt K C m q st ps f fd)
    (c : Cls K C) (G : FnOk P w K mg base CX0 j f fd ps sp) (h : j ≤ k) :
    CalM P w K mg base C k m ps sp :=
  ⟨c, f, fd, G.mono h, D.me, D.bd⟩
theorem MethAt.spec {m q : Str} {st : Stmt} {ps : List Str}
    {f : Addr} {fd : FuncData} (D : MethAt K C m q st ps f fd) :
    Spec1 K C m f fd ps := ⟨D.me.at_, D.me.fn, D.bd⟩
end
end OM
/-! One arc: its order, what lies between its items, its inverted pairs. -/
namespace OM
open PySem PySem.Spec PyProof.Rows L2
abbrev Nms := List (List Nat)
def btw (ls : Nms) (l m : List Nat) : Nms :=
  (ls.drop (ls.idxOf l + 1)).take (ls.idxOf m - (ls.idxOf l + 1))
structure Arc (ls : Nms) (l m : List Nat) (ps : Nms) : Prop where
  hl : l ∈ ls
  hm : m ∈ ls
  lt : ls.idxOf l < ls.idxOf m
  sub : ps.Sublist (btw ls l m)
def oth (ls : Nms) (l m : List Nat) (ps : Nms) : Nms :=
  (btw ls l m).filter fun x => decide (x ∉ ps)
def aoL (ls : Nms) (l m : List Nat) (ps : Nms) : Nms :=
  ls.take (ls.idxOf l) ++ (ps ++ [m])
def aoR (ls : Nms) (l m : List Nat) (ps : Nms) : Nms :=
  l :: (oth ls l m ps ++ ls.drop (ls.idxOf m + 1))
def ao (ls : Nms) (l m : List Nat) (ps : Nms) : Nms :=
  aoL ls l m ps ++ aoR ls l m ps
theorem drop_idx {ls : Nms} {l : List Nat} (h : l ∈ ls) :
    ls.drop (ls.idxOf l) = l :: ls.drop (ls.idxOf l + 1) := by
  have hl := List.idxOf_lt_length_of_mem h
  rw [List.drop_eq_getElem_cons hl, List.getElem_idxOf hl]
theorem Arc.whole {ls : Nms} {l m : List Nat} {ps : Nms}
    (a : Arc ls l m ps) : ls = ls.take (ls.idxOf l) ++ (l ::
      (btw ls l m ++ (m :: ls.drop (ls.idxOf m + 1)))) := by
  have h1 := drop_idx a.hl
  have h2 := drop_idx a.hm
  have h3 : btw ls l m ++ ls.drop (ls.idxOf m) = ls.drop (ls.idxOf l + 1) := by
    have e : (ls.drop (ls.idxOf l + 1)).drop
        (ls.idxOf m - (ls.idxOf l + 1)) = ls.drop (ls.idxOf m) := by
      rw [List.drop_drop]
      congr 1
      have := a.lt
      omega
    rw [← e]
    exact List.take_append_drop _ _
  rw [← h2, h3, ← h1]
  exact (List.take_append_drop _ _).symm
/-- places grow along a part of the list -/
theorem pw_idx {ls : Nms} (nd : ls.Nodup) :
    ls.Pairwise fun x y => ls.idxOf x < ls.idxOf y := by
  rw [List.pairwise_iff_getElem]
  intro i j hi hj h
  rw [nd.idxOf_getElem, nd.idxOf_getElem]
  exact h
theorem Arc.subL {ls : Nms} {l m : List Nat} {ps : Nms}
    (a : Arc ls l m ps) : (aoL ls l m ps).Sublist ls := by
  have h : (aoL ls l m ps).Sublist (ls.take (ls.idxOf l) ++ (l ::
      (btw ls l m ++ (m :: ls.drop (ls.idxOf m + 1))))) := by
    refine List.Sublist.append (List.Sublist.refl _) ?_
    refine List.Sublist.cons _ ?_
    refine List.Sublist.append a.sub ?_
    exact List.Sublist.cons₂ _ (List.nil_sublist _)
  rw [← a.whole] at h
  exact h
theorem Arc.subR {ls : Nms} {l m : List Nat} {ps : Nms}
    (a : Arc ls l m ps) : (aoR ls l m ps).Sublist ls := by
  have h : (aoR ls l m ps).Sublist (ls.take (ls.idxOf l) ++ (l ::
      (btw ls l m ++ (m :: ls.drop (ls.idxOf m + 1))))) := by
    refine List.Sublist.trans ?_ (List.sublist_append_right _ _)
    refine List.Sublist.cons₂ _ ?_
    refine List.Sublist.append List.filter_sublist ?_
    exact List.Sublist.cons _ (List.Sublist.refl _)
  rw [← a.whole] at h
  exact h
theorem sub_filter : ∀ {bs ps : Nms}, bs.Nodup → ps.Sublist bs →
    bs.filter (fun x => decide (x ∈ ps)) = ps := by
  intro bs ps nd h
  induction h with
  | slnil => rfl
  | @cons ps bs b s ih =>
    obtain ⟨n1, n2⟩ := List.nodup_cons.mp nd
    rw [List.filter_cons_of_neg (by
      simp only [decide_eq_true_eq]
      exact fun z => n1 (s.subset z))]
    exact ih n2
  | @cons_cons ps bs b s ih =>
    obtain ⟨n1, n2⟩ := List.nodup_cons.mp nd
    rw [List.filter_cons_of_pos (by simp)]
    congr 1
    refine Eq.trans (List.filter_congr fun x hx => ?_) (ih n2)
    refine decide_eq_decide.mpr ?_
    rw [List.mem_cons]
    exact ⟨fun z => z.elim (fun e => absurd hx (by rw [e]; exact n1)) id,
      Or.inr⟩
theorem btw_sub {ls : Nms} {l m : List Nat} : (btw ls l m).Sublist ls :=
  (List.take_sublist _ _).trans (List.drop_sublist _ _)
theorem Arc.filt {ls : Nms} {l m : List Nat} {ps : Nms}
    (a : Arc ls l m ps) (nd : ls.Nodup) :
    (btw ls l m).filter (fun x => decide (x ∈ ps)) = ps :=
  sub_filter (nd.sublist btw_sub) a.sub
theorem filt_split {α : Type} (p : α → Bool) : ∀ bs : List α,
    (bs.filter p ++ bs.filter fun x => !p x).Perm bs
  | [] => .nil
  | b :: bs => by
    have ih := filt_split p bs
    cases h : p b with
    | true =>
      rw [List.filter_cons_of_pos h, List.filter_cons_of_neg (by simp [h])]
      exact ih.cons b
    | false =>
      rw [List.filter_cons_of_neg (by simp [h]),
        List.filter_cons_of_pos (by simp [h])]
      exact List.perm_middle.trans (ih.cons b)
theorem Arc.perm {ls : Nms} {l m : List Nat} {ps : Nms}
    (a : Arc ls l m ps) (nd : ls.Nodup) : (ao ls l m ps).Perm ls := by
  have h1 : (ps ++ oth ls l m ps).Perm (btw ls l m) := by
    have := filt_split (fun x => decide (x ∈ ps)) (btw ls l m)
    rw [a.filt nd] at this
    refine List.Perm.trans ?_ this
    refine List.Perm.append_left _ (List.Perm.of_eq ?_)
    unfold oth
    refine List.filter_congr fun x _ => ?_
    by_cases h : x ∈ ps <;> simp [h]
  have h2 : (ao ls l m ps).Perm (ls.take (ls.idxOf l) ++ (l ::
      (btw ls l m ++ (m :: ls.drop (ls.idxOf m + 1))))) := by
    unfold ao aoL aoR
    rw [List.append_assoc]
    refine List.Perm.append_left _ ?_
    generalize ls.drop (ls.idxOf m + 1) = Z
    have e1 : (ps ++ [m] ++ (l :: (oth ls l m ps ++ Z))).Perm
        (l :: m :: ((ps ++ oth ls l m ps) ++ Z)) := by
      rw [List.append_assoc, List.append_assoc]
      refine (List.perm_middle (l₁ := ps)).trans ?_
      refine List.Perm.trans (List.Perm.cons m List.perm_middle) ?_
      exact List.Perm.swap _ _ _
    refine e1.trans (List.Perm.cons l ?_)
    refine List.Perm.trans ?_ List.perm_middle.symm
    exact (h1.append_right Z).cons m
  rw [← a.whole] at h2
  exact h2
theorem Arc.in_btw {ls : Nms} {l m x : List Nat} (nd : ls.Nodup)
    (h : x ∈ btw ls l m) : ls.idxOf l < ls.idxOf x ∧
      ls.idxOf x < ls.idxOf m := by
  unfold btw at h
  obtain ⟨k, hk, e⟩ := List.getElem_of_mem h
  rw [List.length_take, List.length_drop] at hk
  rw [List.getElem_take, List.getElem_drop] at e
  have hi : ls.idxOf x = ls.idxOf l + 1 + k := by
    rw [← e, nd.idxOf_getElem]
  omega
theorem in_take {ls : Nms} {x : List Nat} {n : Nat} (nd : ls.Nodup)
    (h : x ∈ ls.take n) : ls.idxOf x < n := by
  obtain ⟨k, hk, e⟩ := List.getElem_of_mem h
  rw [List.length_take] at hk
  rw [List.getElem_take] at e
  have : ls.idxOf x = k := by rw [← e, nd.idxOf_getElem]
  omega
theorem in_drop {ls : Nms} {x : List Nat} {n : Nat} (nd : ls.Nodup)
    (h : x ∈ ls.drop n) : n ≤ ls.idxOf x := by
  obtain ⟨k, hk, e⟩ := List.getElem_of_mem h
  rw [List.length_drop] at hk
  rw [List.getElem_drop] at e
  have : ls.idxOf x = n + k := by rw [← e, nd.idxOf_getElem]
  omega
end OM
namespace OM
open PySem PySem.Spec PyProof.Rows L2
theorem sub_idx {ls L : Nms} {x y : List Nat} (nd : ls.Nodup)
    (s : L.Sublist ls) (hx : x ∈ L) (hy : y ∈ L)
    (h : L.idxOf y < L.idxOf x) : ls.idxOf y < ls.idxOf x := by
  have p := (pw_idx nd).sublist s
  rw [List.pairwise_iff_getElem] at p
  have a := List.idxOf_lt_length_of_mem hx
  have b := List.idxOf_lt_length_of_mem hy
  have := p _ _ b a h
  rw [List.getElem_idxOf b, List.getElem_idxOf a] at this
  exact this
theorem idx_left {A B : Nms} {x : List Nat} (h : x ∈ A) :
    (A ++ B).idxOf x = A.idxOf x := by
  rw [List.idxOf_append, if_pos h]
theorem idx_right {A B : Nms} {x : List Nat} (h : x ∉ A) :
    (A ++ B).idxOf x = B.idxOf x + A.length := by
  rw [List.idxOf_append, if_neg h]
/-- an inverted pair lies across -/
theorem across {ls A B : Nms} {x y : List Nat} (nd : ls.Nodup)
    (sA : A.Sublist ls) (sB : B.Sublist ls) (hx : x ∈ A ++ B)
    (hy : y ∈ A ++ B) (h1 : ls.idxOf x < ls.idxOf y)
    (h2 : (A ++ B).idxOf y < (A ++ B).idxOf x) : y ∈ A ∧ x ∈ B ∧ x ∉ A := by
  by_cases ax : x ∈ A
  · exfalso
    rw [idx_left ax] at h2
    have la := List.idxOf_lt_length_of_mem ax
    by_cases ay : y ∈ A
    · rw [idx_left ay] at h2
      have := sub_idx nd sA ax ay h2
      omega
    · rw [idx_right ay] at h2
      omega
  · have bx : x ∈ B := (List.mem_append.mp hx).resolve_left ax
    by_cases ay : y ∈ A
    · exact ⟨ay, bx, ax⟩
    · exfalso
      have by' : y ∈ B := (List.mem_append.mp hy).resolve_left ay
      rw [idx_right ax, idx_right ay] at h2
      have := sub_idx nd sB bx by' (by omega)
      omega
/-- an arc of the order os -/
structure OwnArc (ls os : Nms) (l m : List Nat) (ps : Nms) : Prop where
  arc : Arc ls l m ps
  at_ : ∃ t, os[t]? = some m ∧ os[t + 1]? = some l ∧
    ps = (btw ls l m).filter fun x => decide (x ∈ os.take t)
theorem idx_at {os : Nms} {x : List Nat} {t : Nat} (nd : os.Nodup)
    (h : os[t]? = some x) : os.idxOf x = t := by
  obtain ⟨hl, e⟩ := List.getElem?_eq_some_iff.mp h
  rw [← e, nd.idxOf_getElem]
theorem not_take {os : Nms} {x : List Nat} {t : Nat}
    (hx : x ∈ os) (h : x ∉ os.take t) : t ≤ os.idxOf x := by
  have hl := List.idxOf_lt_length_of_mem hx
  rcases Nat.lt_or_ge (os.idxOf x) t with c | c
  · exfalso
    refine h ?_
    rw [List.mem_iff_getElem?]
    refine ⟨os.idxOf x, ?_⟩
    rw [List.getElem?_take, if_pos c, List.getElem?_eq_getElem hl,
      List.getElem_idxOf hl]
  · exact c
theorem OwnArc.within {ls os : Nms} {l m : List Nat} {ps : Nms}
    (o : OwnArc ls os l m ps) (nd : ls.Nodup) (pm : os.Perm ls) :
    ∀ p ∈ invAll ls (ao ls l m ps), p ∈ invAll ls os := by
  rintro ⟨x, y⟩ hp
  have a := o.arc
  obtain ⟨t, t1, t2, hps⟩ := o.at_
  have no : os.Nodup := pm.nodup_iff.mpr nd
  have pa := a.perm nd
  obtain ⟨hx, hy, h1, h2⟩ := (invAll_mem nd).mp hp
  dsimp only at hx hy h1 h2
  refine (invAll_mem nd).mpr ⟨hx, hy, h1, ?_⟩
  show os.idxOf y < os.idxOf x
  obtain ⟨hyL, hxR, hxL⟩ := across nd a.subL a.subR (pa.mem_iff.mpr hx)
    (pa.mem_iff.mpr hy) h1 h2
  have im := idx_at no t1
  have il := idx_at no t2
  -- where x and y lie
  have cx : x = l ∨ x ∈ oth ls l m ps ∨ ls.idxOf m + 1 ≤ ls.idxOf x := by
    unfold aoR at hxR
    rcases List.mem_cons.mp hxR with e | e
    · exact .inl e
    · rcases List.mem_append.mp e with e | e
      · exact .inr (.inl e)
      · exact .inr (.inr (in_drop nd e))
  have cy : ls.idxOf y < ls.idxOf l ∨ y ∈ ps ∨ y = m := by
    unfold aoL at hyL
    rcases List.mem_append.mp hyL with e | e
    · exact .inl (in_take nd e)
    · rcases List.mem_append.mp e with e | e
      · exact .inr (.inl e)
      · exact .inr (.inr (List.mem_singleton.mp e))
  have lt := a.lt
  have yt : os.idxOf y ≤ t := by
    rcases cy with c | c | rfl
    · exfalso
      rcases cx with rfl | c2 | c2
      · omega
      · have := Arc.in_btw nd (List.mem_filter.mp c2).1
        omega
      · omega
    · rw [hps] at c
      have := in_take no (of_decide_eq_true (List.mem_filter.mp c).2)
      omega
    · omega
  have xt : t < os.idxOf x := by
    rcases cx with rfl | c | c
    · omega
    · obtain ⟨c1, c2⟩ := List.mem_filter.mp c
      have c2 : x ∉ ps := of_decide_eq_true c2
      have nt : x ∉ os.take t := fun z => c2 (by
        rw [hps]
        exact List.mem_filter.mpr ⟨c1, decide_eq_true z⟩)
      have ge := not_take (pm.mem_iff.mpr hx) nt
      have ne : os.idxOf x ≠ t := fun e => by
        have : x = m := by
          have hl := List.idxOf_lt_length_of_mem (pm.mem_iff.mpr hx)
          have e1 : os[os.idxOf x]? = some x := by
            rw [List.getElem?_eq_getElem hl, List.getElem_idxOf hl]
          rw [e, t1] at e1
          exact (Option.some.inj e1).symm
        have b := Arc.in_btw nd c1
        rw [this] at b
        omega
      omega
    · exfalso
      rcases cy with c2 | c2 | rfl
      · omega
      · have := Arc.in_btw nd (a.sub.subset c2)
        omega
      · omega
  omega
theorem Arc.memL {ls : Nms} {l m : List Nat} {ps : Nms}
    (a : Arc ls l m ps) : m ∈ aoL ls l m ps := by
  unfold aoL
  simp
theorem Arc.apart {ls : Nms} {l m : List Nat} {ps : Nms}
    (a : Arc ls l m ps) (nd : ls.Nodup) {x : List Nat}
    (h : x ∈ aoR ls l m ps) : x ∉ aoL ls l m ps := fun z => by
  have n : (aoL ls l m ps ++ aoR ls l m ps).Nodup :=
    (a.perm nd).nodup_iff.mpr nd
  exact (List.nodup_append.mp n).2.2 _ z _ h rfl
/-- its own pair is inverted -/
theorem Arc.pair {ls : Nms} {l m : List Nat} {ps : Nms}
    (a : Arc ls l m ps) (nd : ls.Nodup) :
    (l, m) ∈ invAll ls (ao ls l m ps) := by
  refine (invAll_mem nd).mpr ⟨a.hl, a.hm, a.lt, ?_⟩
  show (aoL ls l m ps ++ aoR ls l m ps).idxOf m <
    (aoL ls l m ps ++ aoR ls l m ps).idxOf l
  have hl : l ∉ aoL ls l m ps := a.apart nd (by unfold aoR; simp)
  rw [idx_left a.memL, idx_right hl]
  have := List.idxOf_lt_length_of_mem a.memL
  omega
/-! where its order goes down -/
def cutA (ls : Nms) (l : List Nat) (ps : Nms) : Nat := ls.idxOf l + ps.length
theorem Arc.lenL {ls : Nms} {l m : List Nat} {ps : Nms}
    (a : Arc ls l m ps) : (aoL ls l m ps).length = cutA ls l ps + 1 := by
  unfold aoL cutA
  have := List.idxOf_lt_length_of_mem a.hl
  rw [List.length_append, List.length_append, List.length_take,
    List.length_singleton]
  omega
theorem Arc.at_cut {ls : Nms} {l m : List Nat} {ps : Nms}
    (a : Arc ls l m ps) : (ao ls l m ps)[cutA ls l ps]? = some m ∧
      (ao ls l m ps)[cutA ls l ps + 1]? = some l ∧
      (ao ls l m ps).take (cutA ls l ps) = ls.take (ls.idxOf l) ++ ps := by
  have h := List.idxOf_lt_length_of_mem a.hl
  have lt : (ls.take (ls.idxOf l) ++ ps).length = cutA ls l ps := by
    unfold cutA
    rw [List.length_append, List.length_take]
    omega
  have e : ao ls l m ps = (ls.take (ls.idxOf l) ++ ps) ++
      (m :: aoR ls l m ps) := by
    unfold ao aoL
    simp only [List.append_assoc, List.cons_append, List.nil_append]
  refine ⟨?_, ?_, ?_⟩
  · rw [e, List.getElem?_append_right (by omega), lt, Nat.sub_self]
    rfl
  · rw [e, List.getElem?_append_right (by omega), lt,
      show cutA ls l ps + 1 - cutA ls l ps = 1 by omega]
    rfl
  · rw [e, List.take_append_of_le_length (by omega), ← lt, List.take_length]
theorem Arc.ups {ls : Nms} {l m : List Nat} {ps : Nms}
    (a : Arc ls l m ps) (nd : ls.Nodup) {t : Nat} {x y : List Nat}
    (hx : (ao ls l m ps)[t]? = some x) (hy : (ao ls l m ps)[t + 1]? = some y)
    (ne : t ≠ cutA ls l ps) : ls.idxOf x < ls.idxOf y := by
  have ll := a.lenL
  have pL := (pw_idx nd).sublist a.subL
  have pR := (pw_idx nd).sublist a.subR
  rw [List.pairwise_iff_getElem] at pL pR
  unfold ao at hx hy
  rcases Nat.lt_or_ge t (cutA ls l ps) with c | c
  · rw [List.getElem?_append_left (by omega)] at hx hy
    obtain ⟨h1, e1⟩ := List.getElem?_eq_some_iff.mp hx
    obtain ⟨h2, e2⟩ := List.getElem?_eq_some_iff.mp hy
    have := pL t (t + 1) h1 h2 (by omega)
    rw [e1, e2] at this
    exact this
  · rw [List.getElem?_append_right (by omega)] at hx hy
    obtain ⟨h1, e1⟩ := List.getElem?_eq_some_iff.mp hx
    obtain ⟨h2, e2⟩ := List.getElem?_eq_some_iff.mp hy
    have := pR _ _ h1 h2 (by omega)
    rw [e1, e2] at this
    exact this
theorem Arc.passed {ls : Nms} {l m : List Nat} {ps : Nms}
    (a : Arc ls l m ps) (nd : ls.Nodup) :
    (btw ls l m).filter (fun x => decide (x ∈ (ao ls l m ps).take
      (cutA ls l ps))) = ps := by
  rw [a.at_cut.2.2]
  refine Eq.trans (List.filter_congr fun x hx => ?_) (a.filt nd)
  refine decide_eq_decide.mpr ?_
  rw [List.mem_append]
  refine ⟨fun z => z.elim (fun z => ?_) id, .inr⟩
  have b := Arc.in_btw nd hx
  have := in_take nd z
  omega
/-! as the law makes it -/
theorem Arc.sect {ls : Nms} {l m : List Nat} {ps : Nms}
    (a : Arc ls l m ps) : (ls.drop (ls.idxOf l)).take
      (ls.idxOf m + 1 - ls.idxOf l) = l :: (btw ls l m ++ [m]) := by
  have lt := a.lt
  have h : ls.drop (ls.idxOf l) = (l :: (btw ls l m ++ [m])) ++
      ls.drop (ls.idxOf m + 1) := by
    have h2 := drop_idx a.hm
    have e : (ls.drop (ls.idxOf l + 1)).drop
        (ls.idxOf m - (ls.idxOf l + 1)) = ls.drop (ls.idxOf m) := by
      rw [List.drop_drop]
      congr 1
      omega
    have h3 : btw ls l m ++ ls.drop (ls.idxOf m) =
        ls.drop (ls.idxOf l + 1) := by
      rw [← e]
      exact List.take_append_drop _ _
    rw [drop_idx a.hl, ← h3, h2]
    simp only [List.cons_append, List.append_assoc, List.nil_append]
  have bl : (btw ls l m).length = ls.idxOf m - (ls.idxOf l + 1) := by
    unfold btw
    have hm := List.idxOf_lt_length_of_mem a.hm
    rw [List.length_take, List.length_drop]
    omega
  have ll : (l :: (btw ls l m ++ [m])).length =
      ls.idxOf m + 1 - ls.idxOf l := by
    rw [List.length_cons, List.length_append, List.length_singleton, bl]
    omega
  rw [h, ← ll, List.take_left]
theorem Arc.left {ls : Nms} {l m : List Nat} {ps : Nms}
    (a : Arc ls l m ps) (nd : ls.Nodup) :
    (l :: (btw ls l m ++ [m])).filter
      (fun x => decide (x ∈ ps) || decide (x = m)) = ps ++ [m] := by
  have lt := a.lt
  have nl : l ∉ ps := fun z => by
    have := Arc.in_btw nd (a.sub.subset z)
    omega
  have lm : l ≠ m := fun z => by
    rw [z] at lt
    omega
  rw [List.filter_cons_of_neg (by simp [nl, lm]), List.filter_append]
  congr 1
  · refine Eq.trans (List.filter_congr fun x hx => ?_) (a.filt nd)
    have b := Arc.in_btw nd hx
    have ne : x ≠ m := fun z => by
      rw [z] at b
      omega
    simp [ne]
  · simp
theorem Arc.right {ls : Nms} {l m : List Nat} {ps : Nms}
    (a : Arc ls l m ps) (nd : ls.Nodup) :
    (l :: (btw ls l m ++ [m])).filter
      (fun x => decide (x ∉ ps ++ [m])) = l :: oth ls l m ps := by
  have lt := a.lt
  have nl : l ∉ ps := fun z => by
    have := Arc.in_btw nd (a.sub.subset z)
    omega
  have lm : l ≠ m := fun z => by
    rw [z] at lt
    omega
  rw [List.filter_cons_of_pos (by simp [nl, lm]), List.filter_append]
  congr 1
  rw [List.filter_cons_of_neg (by simp), List.filter_nil, List.append_nil]
  unfold oth
  refine List.filter_congr fun x hx => ?_
  have b := Arc.in_btw nd hx
  have ne : x ≠ m := fun z => by
    rw [z] at b
    omega
  refine decide_eq_decide.mpr ?_
  simp [ne]
end OM
namespace OM
open PySem PySem.Spec PyProof.Rows L2
theorem bt_tup : bootBuiltins "tuple" = some (.type "tuple") := by
  decide +kernel
theorem two_l {a b : V} : [a, b].length ≤ sizeLine := by
  show 2 ≤ sizeLine
  decide
theorem three_l {a b c : V} : [a, b, c].length ≤ sizeLine := by
  show 3 ≤ sizeLine
  decide
theorem cut_mid (xs : List V) {a b : Nat} (ha : a ≤ xs.length)
    (hb : b ≤ xs.length) : cutV xs (some (a : Int)) (some (b : Int)) =
      (xs.drop a).take (b - a) := by
  unfold cutV
  rw [HT.sIx_nat, HT.sIx_nat, Nat.min_eq_left ha, Nat.min_eq_left hb]
theorem cut_mem {xs : List V} {lo hi : Option Int} {x : V}
    (h : x ∈ cutV xs lo hi) : x ∈ xs :=
  List.mem_of_mem_drop (List.mem_of_mem_take h)
/-- an arc, as a tuple -/
structure ArcAt (H : Hp) (t : Addr) (l m : List Nat) (ps : Nms) : Prop where
  ob : ∃ u, H t = some (.tup [vS l, vS m, .ref u]) ∧
    H u = some (.tup (ps.map vS))
theorem ArcAt.same {H H' : Hp} {t : Addr} {l m : List Nat} {ps : Nms}
    (a : ArcAt H t l m ps) (s : Same H H') : ArcAt H' t l m ps := by
  obtain ⟨u, h1, h2⟩ := a.ob
  exact ⟨u, s _ _ h1, s _ _ h2⟩
def spIsPair (C : Addr) : Sp := fun vs H Q _ =>
  ∃ (b t : Addr) (ls : Nms) (l m : List Nat), vs = [.ref b, .ref t] ∧
  BaseAt C H b ls ∧ (∀ l ∈ ls, Nm l) ∧ H t = some (.tup [vS l, vS m]) ∧
  l ∈ ls ∧ m ∈ ls ∧ ls.idxOf l < ls.idxOf m ∧
  ∀ H', Same H H' → Q (.bl true) H'
def spIsArc (C : Addr) : Sp := fun vs H Q _ =>
  ∃ (b t : Addr) (ls ps : Nms) (l m : List Nat), vs = [.ref b, .ref t] ∧
  BaseAt C H b ls ∧ Good ls ∧ ArcAt H t l m ps ∧ Arc ls l m ps ∧
  ∀ H', Same H H' → Q (.bl true) H'
def spBetw (C : Addr) : Sp := fun vs H Q _ =>
  ∃ (b : Addr) (ls : Nms) (l m : List Nat), vs = [.ref b, vS l, vS m] ∧
  BaseAt C H b ls ∧ Good ls ∧ l ∈ ls ∧ m ∈ ls ∧
  ∀ q H', H q = none → H' q = some (.lst ((btw ls l m).map vS)) →
    Same H H' → Q (.ref q) H'
section
variable {P : Program} {w : World} {K : PySem.W.Frag}
  {mg : Str → Option Value} {base : Heap} {C : Addr}
theorem ok_ispair {f : Addr} {fd : FuncData} {k : Nat}
    (F : Fun K "is_pair" "is_pair" s_is_pair f fd) (B : Bl mg)
    (bT : mg "tuple" = none)
    (Mh : CalM P w K mg base C k "has_item" ["self", "value"] (spHas K C))
    (Mp : CalM P w K mg base C k "precedes" ["self", "first", "second"]
      (spPrec C)) :
    FnOk P w K mg base CX0 (k + 1) f fd ["base", "value"] (spIsPair C) := by
  refine F.ok sc_is_pair (fun vs H Q E h => ?_)
    (fun cv A outer s H vs Q E hr h => ?_)
  · obtain ⟨b, t, ls, l, m, rfl, _⟩ := h
    rfl
  obtain ⟨b, t, ls, l, m, rfl, hb, nm, ht, hl, hm, lt, q⟩ := h
  refine ⟨_, pss_cons (ps_if (PW.pt (pw_or (pt_not (pt_val
      (pe_callB call_isi (by rfl) B.isi bt_isi (pa_cons (pv 1) (pa_cons
        (pe_bltn (v := .ty "tuple") (by rfl) bT bt_tup rfl) pa_nil)))))
      (pw_or1 (pt_cmpR op_ne (pe_callB call_len_seq (by rfl) B.len
        PySem.boot_len (pa_cons (pv 1) pa_nil)) pe_int (nomark _)))))
      (pss_one ps_never) pss_nil)
    (pss_one (ps_ret (pe_and
      (pe_calM Mh hr (pv 0) (pa_cons (pe_ix ix_tup (pv 1) pe_int
        (fun _ _ => rfl)) pa_nil))
      (pe_and (pe_calM Mh hr (pv 0) (pa_cons (pe_ix ix_tup (pv 1) pe_int
        (fun _ _ => rfl)) pa_nil))
      (pe_one (pe_calM Mp hr (pv 0) (pa_cons (pe_ix ix_tup (pv 1) pe_int
        (fun _ _ => rfl)) (pa_cons (pe_ix ix_tup (pv 1) pe_int
        (fun _ _ => rfl)) pa_nil)))))))), ?_⟩
  obtain ⟨dx, lo, d, h1, h2, h3⟩ := hb.ob
  refine ⟨_, rfl, _, _, _, _, true, rfl, .ty "tuple", .base (.tup ht),
    kit_ty (by decide +kernel), _, rfl, iteF ?_⟩
  refine ⟨_, rfl, t, _, rfl, .inr (SqT.of ht), rfl, _, rfl, iteF ?_⟩
  refine ⟨_, rfl, b, dx, _, rfl, h1, bf_no _ _ (by decide +kernel)
    (by decide +kernel), _, rfl, t, _, 0, _, rfl, rfl, SqT.of ht, rfl,
    b, ls, _, rfl, hb, nm, .inl ⟨_, rfl, (nm l hl).len, fun H1 s1 => ?_⟩⟩
  rw [decide_eq_true (show (SX.S l).cps.toList ∈ ls from hl)]
  refine ⟨_, rfl, iteT ?_⟩
  refine ⟨_, rfl, b, dx, _, rfl, s1 _ _ h1, bf_no _ _ (by decide +kernel)
    (by decide +kernel), _, rfl, t, _, 1, _, rfl, rfl, SqT.of (s1 _ _ ht), rfl,
    b, ls, _, rfl, hb.same s1, nm, .inl ⟨_, rfl, (nm m hm).len,
    fun H2 s2 => ?_⟩⟩
  rw [decide_eq_true (show (SX.S m).cps.toList ∈ ls from hm)]
  have s12 := s1.trans s2
  refine ⟨_, rfl, iteT ?_⟩
  refine ⟨_, rfl, b, dx, _, rfl, s12 _ _ h1, bf_no _ _ (by decide +kernel)
    (by decide +kernel), _, rfl, t, _, 0, _, rfl, rfl, SqT.of (s12 _ _ ht), rfl,
    _, rfl, t, _, 1, _, rfl, rfl, SqT.of (s12 _ _ ht), rfl,
    b, ls, l, m, rfl, hb.same s12, nm, hl, hm, fun H3 s3 => ?_⟩
  rw [decide_eq_true lt]
  exact q H3 (s12.trans s3)
theorem ok_betw {f : Addr} {fd : FuncData} {k : Nat}
    (F : Fun K "names_between" "names_between" s_names_between f fd)
    (Mn : CalM P w K mg base C k "names" ["self"] (spGetNames C))
    (Mp : CalM P w K mg base C k "position_of" ["self", "item"] (spPos C)) :
    FnOk P w K mg base CX0 (k + 1) f fd ["base", "lower", "upper"]
      (spBetw C) := by
  refine F.ok sc_names_between (fun vs H Q E h => ?_)
    (fun cv A outer s H vs Q E hr h => ?_)
  · obtain ⟨b, ls, l, m, rfl, _⟩ := h
    rfl
  obtain ⟨b, ls, l, m, rfl, hb, go, hl, hm, q⟩ := h
  refine ⟨_, pss_one (ps_ret (pe_slice sl_list (pe_calM0 Mn hr (pv 0))
    (po_some (pe_op op_add (pe_calM Mp hr (pv 0) (pa_cons (pv 1) pa_nil))
      pe_int))
    (po_some (pe_calM Mp hr (pv 0) (pa_cons (pv 2) pa_nil))))), ?_⟩
  obtain ⟨dx, lo, d, h1, h2, h3⟩ := hb.ob
  refine ⟨_, rfl, b, dx, _, rfl, h1, bf_no _ _ (by decide +kernel)
    (by decide +kernel), b, ls, rfl, hb, fun n H1 nn hn s1 => ?_⟩
  refine ⟨_, rfl, b, dx, _, rfl, s1 _ _ h1, bf_no _ _ (by decide +kernel)
    (by decide +kernel), _, rfl, b, ls, l, rfl, hb.same s1, go.nm, hl,
    fun H2 s2 => ?_⟩
  have s12 := s1.trans s2
  refine ⟨_, _, rfl, rfl, _, rfl, _, rfl, b, dx, _, rfl, s12 _ _ h1,
    bf_no _ _ (by decide +kernel) (by decide +kernel), _, rfl, b, ls, m, rfl,
    hb.same s12, go.nm, hm, fun H3 s3 => ?_⟩
  have s13 := s12.trans s3
  refine ⟨_, rfl, n, _, rfl, SqL.of (s3 _ _ (s2 _ _ hn)), fun t nt => ?_⟩
  refine q t _ (s13.free nt) ?_ (s13.trans (sameNew nt))
  rw [upd_same]
  have i1 := List.idxOf_lt_length_of_mem hl
  have i2 := List.idxOf_lt_length_of_mem hm
  have e := cut_mid (ls.map vS) (a := ls.idxOf l + 1) (b := ls.idxOf m)
    (by rw [List.length_map]; omega) (by rw [List.length_map]; omega)
  rw [← List.map_drop, ← List.map_take] at e
  exact congrArg (fun z => some (HO.lst z)) e
theorem ok_isarc {f : Addr} {fd : FuncData} {k : Nat}
    (F : Fun K "is_arc" "is_arc" s_is_arc f fd) (B : Bl mg)
    (bT : mg "tuple" = none) (bZ : mg "zip" = none)
    (Cp : Cal P w K mg base k "is_pair" ["base", "value"] (spIsPair C))
    (Mh : CalM P w K mg base C k "has_item" ["self", "value"] (spHas K C))
    (Mp : CalM P w K mg base C k "precedes" ["self", "first", "second"]
      (spPrec C)) :
    FnOk P w K mg base CX0 (k + 1) f fd ["base", "value"] (spIsArc C) := by
  refine F.ok sc_is_arc (fun vs H Q E h => ?_)
    (fun cv A outer s H vs Q E hr h => ?_)
  · obtain ⟨b, t, ls, ps, l, m, rfl, _⟩ := h
    rfl
  obtain ⟨b, t, ls, ps, l, m, rfl, hb, go, at_, ar, q⟩ := h
  have nd := sc_is_arc.nd
  refine ⟨_, pss_cons (ps_if (PW.pt (pw_or (pt_not (pt_val
      (pe_callB call_isi (by rfl) B.isi bt_isi (pa_cons (pv 1) (pa_cons
        (pe_bltn (v := .ty "tuple") (by rfl) bT bt_tup rfl) pa_nil)))))
      (pw_or1 (pt_cmpR op_ne (pe_callB call_len_seq (by rfl) B.len
        PySem.boot_len (pa_cons (pv 1) pa_nil)) pe_int (nomark _)))))
      (pss_one ps_never) pss_nil)
    (pss_cons (ps_asg (pv 1) (pg_tup rfl
      (pgs_cons (pg_name (i := 2) nd rfl (.inl rfl))
      (pgs_cons (pg_name (i := 3) nd rfl (.inl rfl))
      (pgs_cons (pg_name (i := 4) nd rfl (.inl rfl)) pgs_nil)))))
    (pss_cons (ps_if (PW.pt (pw_or (pt_not (pt_val (pe_cal Cp hr (pa_cons
        (pv 0) (pa_cons (pe_tup (pa_cons (pv 2) (pa_cons (pv 3) pa_nil)))
        pa_nil)))))
      (pw_or1 (pt_not (pt_val (pe_callB call_isi (by rfl) B.isi bt_isi
        (pa_cons (pv 4) (pa_cons (pe_bltn (v := .ty "tuple") (by rfl) bT bt_tup
          rfl) pa_nil))))))))
      (pss_one ps_never) pss_nil)
    (pss_cons (ps_if (pt_not (pt_val (pe_callB (cr_all rfl) (by rfl) B.all
        bt_all (pa_cons (pe_lc (own := [("name", 5)]) (g := gName 5)
          (tt := tYes) rfl nd (pi_tup (pv 4))
          (blkOk_by (N := N_is_arc) (sc := defScope s_is_arc)
            (by decide +kernel))
          (fun _ _ _ _ _ => pg_name (i := 5) nd rfl (Or.inl rfl))
          (fun _ _ _ _ _ => pts_nil)
          (fun _ _ _ _ _ => pe_calM Mh hr (pv 0) (pa_cons (pv 5) pa_nil)))
          pa_nil)))) (pss_one ps_never) pss_nil)
    (pss_cons (ps_set (i := 6) nd rfl (.inl rfl) (pe_lst (pa_cons (pv 2)
      (StX.pa_star (pv 4) (pa_cons (pv 3) pa_nil)))))
    (pss_one (ps_ret (pe_callB (cr_all rfl) (by rfl) B.all bt_all (pa_cons
      (pe_lc (own := [("left", 7), ("right", 8)])
        (g := gTup K 2 (gCons (gName 7) (gCons (gName 8) gNil)))
        (tt := tYes) rfl nd
        (pi_zip (by rfl) bZ (pa_cons (pv 6) (pa_cons (pe_slice sl_list (pv 6)
          (po_some pe_int) po_none) pa_nil)))
        (blkOk_by (N := N_is_arc) (sc := defScope s_is_arc)
          (by decide +kernel))
        (fun _ _ _ _ _ => pg_tup rfl (pgs_cons (pg_name (i := 7) nd rfl
          (Or.inl rfl)) (pgs_cons (pg_name (i := 8) nd rfl (Or.inl rfl))
          pgs_nil)))
        (fun _ _ _ _ _ => pts_nil)
        (fun _ _ _ _ _ => pe_calM Mp hr (pv 0) (pa_cons (pv 7)
          (pa_cons (pv 8) pa_nil)))) pa_nil)))))))), ?_⟩
  obtain ⟨u, ht, hu⟩ := at_.ob
  obtain ⟨dx, lo, d, h1, h2, h3⟩ := hb.ob
  have pin : ∀ x ∈ ps, x ∈ ls := fun x hx => btw_sub.subset (ar.sub.subset hx)
  have hhi := go.hi
  have lps : ps.length ≤ 40 := by
    have a1 := ar.sub.length_le
    have a2 := (btw_sub (ls := ls) (l := l) (m := m)).length_le
    omega
  refine ⟨_, rfl, _, _, _, _, true, rfl, .ty "tuple", .base (.tup ht),
    kit_ty (by decide +kernel), _, rfl, iteF ?_⟩
  refine ⟨_, rfl, t, _, rfl, .inr (SqT.of ht), rfl, _, rfl, iteF ?_⟩
  refine ⟨_, rfl, t, _, rfl, .inl (.inl ht), rfl, _, _, rfl, _, _, rfl, _, _,
    rfl, rfl, ?_⟩
  -- the pair
  refine ⟨_, rfl, _, rfl, _, rfl, two_l, fun t2 n2 => ?_⟩
  have s2 := sameNew (o := .tup [vS l, vS m]) n2
  refine ⟨b, t2, ls, l, m, rfl, hb.same s2, go.nm, upd_same, ar.hl, ar.hm,
    ar.lt, fun H3 s3 => ?_⟩
  have s23 := s2.trans s3
  refine ⟨_, rfl, iteF ?_⟩
  refine ⟨_, rfl, _, _, _, _, true, rfl, .ty "tuple",
    .base (.tup (s23 _ _ hu)), kit_ty (by decide +kernel), _, rfl,
    iteF ?_⟩
  -- all of them are items
  have hu3 := s23 _ _ hu
  refine ⟨_, rfl, u, rfl, ⟨_, SqT.of hu3⟩, fun D nD => ?_⟩
  refine lc_it (walk_tup (K := K) (a := u) (xs := ps.map vS))
    (fun i H' => H' D = some (.lst ((List.replicate i true).map V.bl)) ∧
      Same H3 H') ⟨upd_same, sameNew nD⟩
    (fun i H' _ z => SqT.of (z.2 _ _ hu3)) ?_ ?_
  · rintro i v H4 H5 hi ⟨hD, s5⟩ ⟨rfl, ev⟩
    obtain ⟨x, hx, rfl⟩ := get_map ev
    have mx := pin x (List.mem_of_getElem? hx)
    have sA := s23.trans s5
    rw [List.length_map] at hi
    refine ⟨rfl, yes ⟨_, rfl, b, dx, _, rfl, sA _ _ h1, bf_no _ _
      (by decide +kernel) (by decide +kernel), _, rfl, b, ls, _, rfl,
      hb.same sA, go.nm, .inl ⟨_, rfl, (go.nm x mx).len, fun H6 s6 => ?_⟩⟩⟩
    rw [decide_eq_true (show (SX.S x).cps.toList ∈ ls from mx)]
    refine ⟨_, s6 _ _ hD, ?_, ?_, ?_⟩
    · rw [List.length_map, List.length_replicate]
      exact sz' (by omega)
    · rw [upd_same, List.replicate_succ', List.map_append]
      rfl
    · exact OM.Same.put (s5.trans s6) nD
  rintro H4 ⟨hD, s4⟩
  refine ⟨D, List.replicate (ps.map vS).length true, rfl, SqL.of hD, _, rfl,
    ?_⟩
  rw [show (List.replicate (ps.map vS).length true).all id = true by simp]
  refine iteF ?_
  have sB := s23.trans s4
  -- the path
  refine ⟨_, rfl, _, rfl, u, _, rfl, .inl (SqT.of (sB _ _ hu)), _, rfl, ?_,
    fun pt npt => ?_⟩
  · rw [List.length_cons, List.length_append, List.length_map,
      List.length_singleton]
    exact sz (by omega)
  have epath : vS l :: (ps.map vS ++ [vS m]) = (l :: (ps ++ [m])).map vS := by
    rw [List.map_cons, List.map_append]
    rfl
  rw [epath]
  have sC := sB.trans (sameNew (o := .lst ((l :: (ps ++ [m])).map vS)) npt)
  have hpt : (upd H4 pt (.lst ((l :: (ps ++ [m])).map vS))) pt =
    some (.lst ((l :: (ps ++ [m])).map vS)) := upd_same
  generalize upd H4 pt (.lst ((l :: (ps ++ [m])).map vS)) = H5 at sC hpt ⊢
  have subP : (l :: (ps ++ [m])).Sublist ls := by
    have h : (l :: (ps ++ [m])).Sublist (ls.take (ls.idxOf l) ++ (l ::
        (btw ls l m ++ (m :: ls.drop (ls.idxOf m + 1))))) := by
      refine List.Sublist.trans ?_ (List.sublist_append_right _ _)
      refine List.Sublist.cons₂ _ (List.Sublist.append ar.sub ?_)
      exact List.Sublist.cons₂ _ (List.nil_sublist _)
    rw [← ar.whole] at h
    exact h
  have pw := (pw_idx go.nd).sublist subP
  rw [List.pairwise_iff_getElem] at pw
  have lL : (l :: (ps ++ [m])).length = ps.length + 2 := by simp
  generalize l :: (ps ++ [m]) = L at sC hpt subP pw lL ⊢
  refine ⟨_, rfl, _, rfl, 1, rfl, pt, _, rfl, SqL.of hpt, fun q2 nq2 => ?_⟩
  have ec : cutV (L.map vS) (some ((1 : Nat) : Int)) none =
      (L.drop 1).map vS := by
    rw [cut_from _ (by rw [List.length_map]; omega), List.map_drop]
  have ec' : cutV (L.map vS) (some 1) none = (L.drop 1).map vS := ec
  rw [ec']
  have hp6 : (upd H5 q2 (.lst ((L.drop 1).map vS))) pt =
    some (.lst (L.map vS)) := sameNew nq2 _ _ hpt
  have hq6 : (upd H5 q2 (.lst ((L.drop 1).map vS))) q2 =
    some (.lst ((L.drop 1).map vS)) := upd_same
  have sD := sC.trans (sameNew (o := .lst ((L.drop 1).map vS)) nq2)
  generalize upd H5 q2 (.lst ((L.drop 1).map vS)) = H6 at hp6 hq6 sD ⊢
  refine ⟨pt, q2, _, _, rfl, SqL.of hp6, SqL.of hq6, fun D2 nD2 => ?_⟩
  have mn : L.length - 1 = min (L.map vS).length ((L.drop 1).map vS).length := by
    rw [List.length_map, List.length_map, List.length_drop]
    omega
  refine lc_it (walk_zip (K := K) (a := pt) (b := q2) (n := L.length - 1)
    (xs := L.map vS) (ys := (L.drop 1).map vS) mn)
    (fun i H' => H' D2 = some (.lst ((List.replicate i true).map V.bl)) ∧
      Same H6 H') ⟨upd_same, sameNew nD2⟩
    (fun i H' _ z => ⟨SqL.of (z.2 _ _ hp6), SqL.of (z.2 _ _ hq6)⟩) ?_ ?_
  · rintro i v H7 H8 hi ⟨hD7, s7⟩ ⟨T', x1, x2, rfl, nT, rfl, e1, e2⟩
    obtain ⟨x, hx, rfl⟩ := get_map e1
    obtain ⟨y, hy, rfl⟩ := get_map e2
    rw [List.getElem?_drop] at hy
    obtain ⟨g1, e1'⟩ := List.getElem?_eq_some_iff.mp hx
    obtain ⟨g2, e2'⟩ := List.getElem?_eq_some_iff.mp hy
    have lt : ls.idxOf x < ls.idxOf y := by
      have := pw i (1 + i) g1 g2 (by omega)
      rw [e1', e2'] at this
      exact this
    have mx := subP.subset (List.mem_of_getElem? hx)
    have my := subP.subset (List.mem_of_getElem? hy)
    have s8 := s7.trans (sameNew (o := .tup [vS x, vS y]) nT)
    have sE := sD.trans s8
    refine ⟨T', _, rfl, .inl (.inl upd_same), rfl, _, _, rfl, _, _, rfl, rfl,
      rfl, yes ⟨_, rfl, b, dx, _, rfl, sE _ _ h1, bf_no _ _
      (by decide +kernel) (by decide +kernel), _, rfl, _, rfl, b, ls, x, y, rfl,
      hb.same sE, go.nm, mx, my, fun H9 s9 => ?_⟩⟩
    rw [decide_eq_true lt]
    have hD8 : (upd H7 T' (.tup [vS x, vS y])) D2 = some (.lst
        ((List.replicate i true).map V.bl)) := sameNew nT _ _ hD7
    refine ⟨_, s9 _ _ hD8, ?_, ?_, ?_⟩
    · rw [List.length_map, List.length_replicate]
      exact sz' (by omega)
    · rw [upd_same, List.replicate_succ', List.map_append]
      rfl
    · exact OM.Same.put (s8.trans s9) nD2
  rintro H7 ⟨hD7, s7⟩
  refine ⟨D2, List.replicate (L.length - 1) true, rfl, SqL.of hD7, ?_⟩
  rw [show (List.replicate (L.length - 1) true).all id = true by simp]
  exact q H7 (sD.trans s7)
end
end OM
namespace OM
open PySem PySem.Spec PyProof.Rows L2
def spOrdArc (C : Addr) : Sp := fun vs H Q _ =>
  ∃ (b t : Addr) (ls ps : Nms) (l m : List Nat), vs = [.ref b, .ref t] ∧
  BaseAt C H b ls ∧ Good ls ∧ ArcAt H t l m ps ∧ Arc ls l m ps ∧
  ∀ q H', H q = none → H' q = some (.lst ((ao ls l m ps).map vS)) →
    Same H H' → Q (.ref q) H'
def inB (ps qs : List Pr) : Bool := ps.all fun p => decide (p ∈ qs)
def spWithin (C : Addr) : Sp := fun vs H Q _ =>
  ∃ (b a c : Addr) (ls os us : Nms), vs = [.ref b, .ref a, .ref c] ∧
  Ord C H b a ls os ∧ Ord C H b c ls us ∧
  ∀ H', Same H H' → Q (.bl (inB (invAll ls os) (invAll ls us))) H'
def spArcIn (C : Addr) : Sp := fun vs H Q _ =>
  ∃ (b t a : Addr) (ls ps os : Nms) (l m : List Nat),
  vs = [.ref b, .ref t, .ref a] ∧ ArcAt H t l m ps ∧ Arc ls l m ps ∧
  Ord C H b a ls os ∧
  ∀ H', Same H H' →
    Q (.bl (inB (invAll ls (ao ls l m ps)) (invAll ls os))) H'
def kk (p : Pr) : List Key := [Sum.inr (SX.S p.1), Sum.inr (SX.S p.2)]
theorem kk_inj {p q : Pr} (h : kk p = kk q) : p = q := by
  unfold kk at h
  injection h with h1 h2
  injection h2 with h2
  obtain ⟨a, b⟩ := p
  obtain ⟨c, d⟩ := q
  cases SX.S_inj (Sum.inr.inj h1)
  cases SX.S_inj (Sum.inr.inj h2)
  rfl
/-- the dict knows just these pairs -/
structure Knows (kvs : List (List Key × V)) (ps : List Pr) : Prop where
  len : kvs.length ≤ ps.length
  val : ∀ q : Pr, (valV kvs (kk q)).isSome = decide (q ∈ ps)
theorem Knows.nil : Knows [] [] := ⟨Nat.le_refl _, fun _ => rfl⟩
theorem val_put {kvs : List (List Key × V)} {k k' : List Key} {v : V} :
    valV (putK kvs k v) k' = if k' = k then some v else valV kvs k' :=
  valV_put kvs k k' v
theorem Knows.put {kvs : List (List Key × V)} {ps : List Pr} (h : Knows kvs ps)
    (p : Pr) (v : V) : Knows (putK kvs (kk p) v) (ps ++ [p]) := by
  refine ⟨?_, fun q => ?_⟩
  · have := length_putK kvs (kk p) v
    have := h.len
    rw [List.length_append, List.length_singleton]
    omega
  · rw [val_put]
    by_cases e : q = p
    · subst e
      rw [if_pos rfl]
      simp
    · rw [if_neg (fun z => e (kk_inj z)), h.val q]
      refine decide_eq_decide.mpr ?_
      simp [e]
theorem ref_get {rs : List Addr} {i : Nat} {v : V}
    (h : (rs.map V.ref)[i]? = some v) : ∃ r, rs[i]? = some r ∧ V.ref r = v := by
  rw [List.getElem?_map] at h
  cases e : rs[i]? with
  | none => rw [e] at h; cases h
  | some r => rw [e] at h; exact ⟨r, rfl, Option.some.inj h⟩
theorem PrsAt.get {H : Hp} : ∀ {rs : List Addr} {ps : List Pr} {i : Nat}
    {r : Addr}, PrsAt H rs ps → rs[i]? = some r →
    ∃ p, ps[i]? = some p ∧ H r = some (.tup (vT p))
  | _, _, _, _, .nil, h => by simp at h
  | _, _, 0, _, .cons a t, h => by
    cases Option.some.inj h
    exact ⟨_, rfl, a⟩
  | _, _, i + 1, _, .cons a t, h => by
    obtain ⟨p, h1, h2⟩ := PrsAt.get t (i := i) (by simpa using h)
    exact ⟨p, by simpa using h1, h2⟩
section
variable {P : Program} {w : World} {K : PySem.W.Frag}
  {mg : Str → Option Value} {base : Heap} {C : Addr}
theorem ok_ordarc {f : Addr} {fd : FuncData} {k : Nat}
    (F : Fun K "order_of_arc" "order_of_arc" s_order_of_arc f fd) (B : Bl mg)
    (Ca : Cal P w K mg base k "is_arc" ["base", "value"] (spIsArc C))
    (Cb : Cal P w K mg base k "names_between" ["base", "lower", "upper"]
      (spBetw C))
    (Mn : CalM P w K mg base C k "names" ["self"] (spGetNames C))
    (Mp : CalM P w K mg base C k "position_of" ["self", "item"] (spPos C)) :
    FnOk P w K mg base CX0 (k + 1) f fd ["base", "arc"] (spOrdArc C) := by
  refine F.ok sc_order_of_arc (fun vs H Q E h => ?_)
    (fun cv A outer s H vs Q E hr h => ?_)
  · obtain ⟨b, t, ls, ps, l, m, rfl, _⟩ := h
    rfl
  obtain ⟨b, t, ls, ps, l, m, rfl, hb, go, at_, ar, q⟩ := h
  have nd := sc_order_of_arc.nd
  refine ⟨_, pss_cons (ps_if (pt_not (pt_val (pe_cal Ca hr (pa_cons (pv 0)
      (pa_cons (pv 1) pa_nil))))) (pss_one ps_never) pss_nil)
    (pss_cons (ps_asg (pv 1) (pg_tup rfl
      (pgs_cons (pg_name (i := 2) nd rfl (.inl rfl))
      (pgs_cons (pg_name (i := 3) nd rfl (.inl rfl))
      (pgs_cons (pg_name (i := 4) nd rfl (.inr rfl)) pgs_nil)))))
    (pss_cons (ps_par (i := 5) (j := 6) (by rfl) nd rfl rfl (by decide) rfl rfl
      (pa_cons (pe_calM Mp hr (pv 0) (pa_cons (pv 2) pa_nil))
        (pa_cons (pe_calM Mp hr (pv 0) (pa_cons (pv 3) pa_nil)) pa_nil))
      (by rfl))
    (pss_cons (ps_setLc (i := 7) (own := [("name", 8)]) (g := gName 8) rfl nd
        rfl rfl rfl
        (pi_list (pe_cal Cb hr (pa_cons (pv 0) (pa_cons (pv 2) (pa_cons (pv 3)
          pa_nil)))))
        (blkOk_by (N := N_order_of_arc) (sc := defScope s_order_of_arc)
          (by decide +kernel))
        (fun _ _ _ _ _ => pg_name (i := 8) nd rfl (Or.inl rfl))
        (fun _ _ _ _ _ => pts_one (pt_cmpR (r := rIn K true) op_notIn_seq
          (pv 8) (pv 4) (by rfl)))
        (fun _ _ _ _ _ => pv 8))
    (pss_cons (ps_set (i := 9) nd rfl (.inl rfl) (pe_calM0 Mn hr (pv 0)))
    (pss_one (ps_ret (pe_op op_cat (pe_op op_cat
      (pe_slice sl_list (pv 9) po_none (po_some (pv 5)))
      (pe_lst (StX.pa_star (pv 4) (pa_cons (pv 3) (pa_cons (pv 2)
        (StX.pa_star (pv 7) pa_nil))))))
      (pe_slice sl_list (pv 9) (po_some (pe_op op_add (pv 6) pe_int))
        po_none)))))))), ?_⟩
  obtain ⟨dx, lo, d, h1, h2, h3⟩ := hb.ob
  have hhi := go.hi
  have nm := go.nm
  refine ⟨_, rfl, _, rfl, b, t, ls, ps, l, m, rfl, hb, go, at_, ar,
    fun H1 s1 => ⟨_, rfl, iteF ?_⟩⟩
  obtain ⟨u, ht, hu⟩ := (at_.same s1).ob
  refine ⟨_, rfl, t, _, rfl, .inl (.inl ht), rfl, _, _, rfl, _, _, rfl, _, _,
    rfl, rfl, ?_⟩
  refine ⟨_, rfl, b, dx, _, rfl, s1 _ _ h1, bf_no _ _ (by decide +kernel)
    (by decide +kernel), _, rfl, b, ls, l, rfl, hb.same s1, nm, ar.hl,
    fun H2 s2 => ?_⟩
  have s12 := s1.trans s2
  refine ⟨_, rfl, b, dx, _, rfl, s12 _ _ h1, bf_no _ _ (by decide +kernel)
    (by decide +kernel), _, rfl, b, ls, m, rfl, hb.same s12, nm, ar.hm,
    fun H3 s3 => ⟨_, _, rfl, ?_⟩⟩
  have s13 := s12.trans s3
  refine ⟨_, rfl, _, rfl, _, rfl, b, ls, l, m, rfl, hb.same s13, go, ar.hl,
    ar.hm, fun q4 H4 n4 h4 s4 => ⟨q4, rfl, ⟨_, SqL.of h4⟩, fun D nD => ?_⟩⟩
  have s14 := s13.trans s4
  have hu4 := s4 _ _ (s3 _ _ (s2 _ _ hu))
  have lb : (btw ls l m).length ≤ 40 := by
    have := (btw_sub (ls := ls) (l := l) (m := m)).length_le
    omega
  have lps : ps.length ≤ 40 := by
    have := ar.sub.length_le
    omega
  refine lc_it (walk_list (K := K) (a := q4) (xs := (btw ls l m).map vS))
    (fun i H' => H' D = some (.lst ((((btw ls l m).take i).filter
      fun x => decide (x ∉ ps)).map vS)) ∧ Same H4 H')
    ⟨upd_same, sameNew nD⟩ (fun i H' _ z => SqL.of (z.2 _ _ h4)) ?_ ?_
  · rintro i v H5 H6 hi ⟨hD, s5⟩ ⟨rfl, ev⟩
    obtain ⟨x, hx, rfl⟩ := get_map ev
    rw [List.length_map] at hi
    have et := take_snoc hx
    refine ⟨rfl, _, rfl, _, rfl, u, _, rfl, .inr (SqT.of (s5 _ _ hu4)), rfl,
      flat_S _, _, rfl, ?_⟩
    rw [inV_S]
    by_cases mt : x ∈ ps
    · rw [decide_eq_true mt]
      refine iteF ⟨?_, s5⟩
      rw [et, List.filter_append, List.filter_cons_of_neg (by simp [mt]),
        List.filter_nil, List.append_nil]
      exact hD
    · rw [decide_eq_false mt]
      refine iteT ⟨_, rfl, _, hD, ?_, ?_, ?_⟩
      · rw [List.length_map]
        refine sz' (Nat.lt_of_le_of_lt (List.length_filter_le _ _) ?_)
        rw [List.length_take]
        omega
      · rw [upd_same, et, List.filter_append,
          List.filter_cons_of_pos (by simp [mt]), List.map_append]
        rfl
      · exact OM.Same.put s5 nD
  rintro H5 ⟨hD, s5⟩
  rw [List.length_map, List.take_length] at hD
  have hD : H5 D = some (.lst ((oth ls l m ps).map vS)) := hD
  have s15 := s14.trans s5
  have lo' : (oth ls l m ps).length ≤ 40 := by
    have := List.length_filter_le (fun x => decide (x ∉ ps)) (btw ls l m)
    unfold oth
    omega
  refine ⟨_, rfl, b, dx, _, rfl, s15 _ _ h1, bf_no _ _ (by decide +kernel)
    (by decide +kernel), b, ls, rfl, hb.same s15, fun n H6 nn hn s6 => ?_⟩
  have i1 := List.idxOf_lt_length_of_mem ar.hl
  have i2 := List.idxOf_lt_length_of_mem ar.hm
  refine ⟨_, rfl, _, rfl, ls.idxOf l, rfl, n, _, rfl, SqL.of hn,
    fun t1 nt1 => ?_⟩
  rw [cut_to _ (by rw [List.length_map]; omega), ← List.map_take]
  have z7 := sameNew (o := .lst ((ls.take (ls.idxOf l)).map vS)) nt1
  have g1 : (upd H6 t1 (.lst ((ls.take (ls.idxOf l)).map vS))) t1 =
    some (.lst ((ls.take (ls.idxOf l)).map vS)) := upd_same
  generalize upd H6 t1 (.lst ((ls.take (ls.idxOf l)).map vS)) = H7 at z7 g1 ⊢
  have hu7 := z7 _ _ (s6 _ _ (s5 _ _ hu4))
  have hD7 := z7 _ _ (s6 _ _ hD)
  refine ⟨_, rfl, u, _, rfl, .inl (SqT.of hu7), _, rfl, _, rfl, _, rfl, D, _,
    rfl, .inr (SqL.of hD7), ?_, fun t2 nt2 => ?_⟩
  · simp only [List.length_append, List.length_cons, List.length_map,
      List.length_nil]
    exact sz (by omega)
  have e2 : ps.map vS ++ vS m :: vS l :: ((oth ls l m ps).map vS ++ []) =
      (ps ++ m :: l :: oth ls l m ps).map vS := by
    rw [List.append_nil, List.map_append]
    rfl
  rw [e2]
  have z8 := sameNew (o := .lst ((ps ++ m :: l :: oth ls l m ps).map vS)) nt2
  replace g1 := z8 _ _ g1
  have g2 : (upd H7 t2 (.lst ((ps ++ m :: l :: oth ls l m ps).map vS))) t2 =
    some (.lst ((ps ++ m :: l :: oth ls l m ps).map vS)) := upd_same
  generalize upd H7 t2 (.lst ((ps ++ m :: l :: oth ls l m ps).map vS)) = H8
    at z8 g1 g2 ⊢
  refine ⟨t1, t2, _, _, rfl, rfl, g1, g2, ?_, fun t3 nt3 => ?_⟩
  · simp only [List.length_append, List.length_cons, List.length_map,
      List.length_take]
    exact sz (by omega)
  rw [← List.map_append]
  have z9 := sameNew (o := .lst ((ls.take (ls.idxOf l) ++
    (ps ++ m :: l :: oth ls l m ps)).map vS)) nt3
  have g3 : (upd H8 t3 (.lst ((ls.take (ls.idxOf l) ++
    (ps ++ m :: l :: oth ls l m ps)).map vS))) t3 = some (.lst
    ((ls.take (ls.idxOf l) ++ (ps ++ m :: l :: oth ls l m ps)).map vS)) :=
    upd_same
  generalize upd H8 t3 (.lst ((ls.take (ls.idxOf l) ++
    (ps ++ m :: l :: oth ls l m ps)).map vS)) = H9 at z9 g3 ⊢
  have z69 := (z7.trans z8).trans z9
  refine ⟨_, rfl, _, rfl, _, _, rfl, rfl, ((ls.idxOf m + 1 : Nat) : Int), rfl,
    n, _, rfl, SqL.of (z69 _ _ hn), fun t4 nt4 => ?_⟩
  rw [cut_from _ (by rw [List.length_map]; omega), ← List.map_drop]
  have z10 := sameNew (o := .lst ((ls.drop (ls.idxOf m + 1)).map vS)) nt4
  replace g3 := z10 _ _ g3
  have g4 : (upd H9 t4 (.lst ((ls.drop (ls.idxOf m + 1)).map vS))) t4 =
    some (.lst ((ls.drop (ls.idxOf m + 1)).map vS)) := upd_same
  generalize upd H9 t4 (.lst ((ls.drop (ls.idxOf m + 1)).map vS)) = H10
    at z10 g3 g4 ⊢
  refine ⟨t3, t4, _, _, rfl, rfl, g3, g4, ?_, fun t5 nt5 => ?_⟩
  · simp only [List.length_append, List.length_cons, List.length_map,
      List.length_take, List.length_drop]
    exact sz (by omega)
  have sAll := (s15.trans s6).trans (z69.trans z10)
  refine q t5 _ (sAll.free nt5) ?_ (sAll.trans (sameNew nt5))
  rw [upd_same, ← List.map_append]
  have e5 : ls.take (ls.idxOf l) ++ (ps ++ m :: l :: oth ls l m ps) ++
      ls.drop (ls.idxOf m + 1) = ao ls l m ps := by
    unfold ao aoL aoR
    simp only [List.append_assoc, List.cons_append, List.nil_append]
  rw [e5]
theorem ok_within {f : Addr} {fd : FuncData} {k : Nat}
    (F : Fun K "is_within" "is_within" s_is_within f fd) (B : Bl mg)
    (Ci : Cal P w K mg base k "inverted_pairs" ["base", "order"]
      (spPairs C)) :
    FnOk P w K mg base CX0 (k + 1) f fd ["base", "order", "other"]
      (spWithin C) := by
  refine F.ok sc_is_within (fun vs H Q E h => ?_)
    (fun cv A outer s H vs Q E hr h => ?_)
  · obtain ⟨b, a, c, ls, os, us, rfl, _⟩ := h
    rfl
  obtain ⟨b, a, c, ls, os, us, rfl, o1, o2, q⟩ := h
  have nd := sc_is_within.nd
  have hu := hu_of hr
  refine ⟨_, pss_cons (ps_set (i := 3) nd rfl (.inl rfl) (pe_cal Ci hr (pa_cons
      (pv 0) (pa_cons (pv 1) pa_nil))))
    (pss_cons (ps_set (i := 4) nd rfl (.inr rfl)
      (pe_dcT (own := [("pair", 5)]) (g := gName 5) (tt := tYes)
        (Nat.lt_of_succ_lt hu) rfl nd
        (pi_list (pe_cal Ci hr (pa_cons (pv 0) (pa_cons (pv 2) pa_nil))))
        (blkOk_by (N := N_is_within) (sc := defScope s_is_within)
          (by decide +kernel))
        (fun _ _ _ _ _ => pg_name (i := 5) nd rfl (Or.inl rfl))
        (fun _ _ _ _ _ => pts_nil)
        (fun _ _ _ _ _ => pv 5) (fun _ _ _ _ _ => pe_bl)))
    (pss_one (ps_ret (pe_callB (cr_all rfl) (by rfl) B.all bt_all (pa_cons
      (pe_lc (own := [("pair", 5)]) (g := gName 5) (tt := tYes) rfl nd
        (pi_list (pv 3))
        (blkOk_by (N := N_is_within) (sc := defScope s_is_within)
          (by decide +kernel))
        (fun _ _ _ _ _ => pg_name (i := 5) nd rfl (Or.inl rfl))
        (fun _ _ _ _ _ => pts_nil)
        (fun _ _ _ _ _ => pe_cmp (pc_din hu (pv 5) (pv 4)) rfl))
      pa_nil))))), ?_⟩
  have hhi := o1.good.hi
  have m1 := o1.good.many os (Nat.le_refl _)
  have m2 := o1.good.many us (Nat.le_refl _)
  refine ⟨_, rfl, _, rfl, b, a, ls, os, rfl, o1, fun D1 rs1 H1 n1 h1 p1 s1 => ?_⟩
  refine ⟨_, rfl, _, rfl, b, c, ls, us, rfl, o2.same s1,
    fun D2 rs2 H2 n2 h2 p2 s2 => ⟨D2, rfl, ⟨_, SqL.of h2⟩, fun D nD => ?_⟩⟩
  have l2 := p2.len
  refine walkW (walk_list (K := K) (a := D2) (xs := rs2.map V.ref))
    (fun i H' => ∃ kvs, H' D = some (.dT kvs) ∧
      Knows kvs ((invAll ls us).take i) ∧ Same H2 H')
    ⟨[], upd_same, Knows.nil, sameNew nD⟩ (fun i H' _ z => by
      obtain ⟨_, _, _, s⟩ := z; exact SqL.of (s _ _ h2)) ?_ ?_
  · rintro i v H3 H4 hi ⟨kvs, hD, kn, s3⟩ ⟨rfl, ev⟩
    obtain ⟨r, hr', rfl⟩ := ref_get ev
    obtain ⟨p, hp, hrp⟩ := p2.get hr'
    have ln := kn.len
    rw [List.length_take] at ln
    have bnd : (invAll ls us).length ≤ 1600 := m2
    refine ⟨rfl, yes ⟨_, rfl, kvs, kk p, r, rfl, s3 _ _ hrp, hD, sz' (by omega),
      _, upd_same, ?_, OM.Same.put s3 nD⟩⟩
    rw [take_snoc hp]
    exact kn.put p _
  rintro H3 ⟨kvs, hD, kn, s3⟩
  rw [List.length_map, l2, List.take_length] at kn
  have h13 := s3 _ _ (s2 _ _ h1)
  refine ⟨_, rfl, D1, rfl, ⟨_, SqL.of h13⟩, fun D3 nD3 => ?_⟩
  have l1 := p1.len
  refine lc_it (walk_list (K := K) (a := D1) (xs := rs1.map V.ref))
    (fun i H' => H' D3 = some (.lst ((((invAll ls os).take i).map fun p =>
      decide (p ∈ invAll ls us)).map V.bl)) ∧ Same H3 H')
    ⟨upd_same, sameNew nD3⟩ (fun i H' _ z => SqL.of (z.2 _ _ h13)) ?_ ?_
  · rintro i v H4 H5 hi ⟨hD3, s4⟩ ⟨rfl, ev⟩
    obtain ⟨r, hr', rfl⟩ := ref_get ev
    obtain ⟨p, hp, hrp⟩ := p1.get hr'
    have bnd : (invAll ls os).length ≤ 1600 := m1
    have hr4 := s4 _ _ (s3 _ _ (s2 _ _ hrp))
    refine ⟨rfl, yes ⟨_, rfl, _, rfl, D, _, rfl,
      DGet.t (k := kk p) (s4 _ _ hD) hr4, ?_⟩⟩
    rw [kn.val p]
    refine ⟨_, hD3, ?_, ?_, OM.Same.put s4 nD3⟩
    · rw [List.length_map, List.length_map, List.length_take]
      exact sz' (by omega)
    · rw [upd_same, take_snoc hp, List.map_append, List.map_append]
      rfl
  rintro H4 ⟨hD3, s4⟩
  rw [List.length_map, l1, List.take_length] at hD3
  refine ⟨D3, _, rfl, SqL.of hD3, ?_⟩
  have e : ((invAll ls os).map fun p => decide (p ∈ invAll ls us)).all id =
      inB (invAll ls os) (invAll ls us) := by
    rw [List.all_map]
    rfl
  rw [e]
  exact q H4 (((s1.trans s2).trans s3).trans s4)
theorem ok_arcin {f : Addr} {fd : FuncData} {k : Nat}
    (F : Fun K "is_arc_within" "is_arc_within" s_is_arc_within f fd)
    (Cw : Cal P w K mg base k "is_within" ["base", "order", "other"]
      (spWithin C))
    (Co : Cal P w K mg base k "order_of_arc" ["base", "arc"] (spOrdArc C)) :
    FnOk P w K mg base CX0 (k + 1) f fd ["base", "arc", "order"]
      (spArcIn C) := by
  refine F.ok sc_is_arc_within (fun vs H Q E h => ?_)
    (fun cv A outer s H vs Q E hr h => ?_)
  · obtain ⟨b, t, a, ls, ps, os, l, m, rfl, _⟩ := h
    rfl
  obtain ⟨b, t, a, ls, ps, os, l, m, rfl, at_, ar, o, q⟩ := h
  refine ⟨_, pss_one (ps_ret (pe_cal Cw hr (pa_cons (pv 0) (pa_cons
    (pe_cal Co hr (pa_cons (pv 0) (pa_cons (pv 1) pa_nil))) (pa_cons (pv 2)
    pa_nil))))), ?_⟩
  refine ⟨_, rfl, _, rfl, _, rfl, b, t, ls, ps, l, m, rfl, o.ba, o.good, at_, ar,
    fun q1 H1 n1 h1 s1 => ?_⟩
  refine ⟨_, rfl, b, q1, a, ls, _, os, rfl, ⟨o.ba.same s1, o.good, h1,
    ar.perm o.good.nd⟩, o.same s1, fun H2 s2 => q H2 (s1.trans s2)⟩
end
end OM
namespace OM
open PySem PySem.Spec PyProof.Rows L2
/-- the arcs of an arc's order: this one -/
def spArcsOf (C : Addr) : Sp := fun vs H Q _ =>
  ∃ (b a : Addr) (ls ps : Nms) (l m : List Nat), vs = [.ref b, .ref a] ∧
  BaseAt C H b ls ∧ Good ls ∧ H a = some (.lst ((ao ls l m ps).map vS)) ∧
  Arc ls l m ps ∧
  ∀ q t H', H q = none → H' q = some (.lst [.ref t]) → ArcAt H' t l m ps →
    Same H H' → Q (.ref q) H'
/-- what is found so far -/
def Fnd (H : Hp) (d : Addr) (l m : List Nat) (ps : Nms) (c i : Nat) : Prop :=
  (i ≤ c ∧ H d = some (.dK [])) ∨ (c < i ∧ ∃ t,
    H d = some (.dK [(Sum.inr (SX.S l), .ref t)]) ∧ ArcAt H t l m ps)
theorem Fnd.same {H H' : Hp} {d : Addr} {l m : List Nat} {ps : Nms} {c i : Nat}
    (f : Fnd H d l m ps c i) (s : Same H H') : Fnd H' d l m ps c i := by
  rcases f with ⟨h1, h2⟩ | ⟨h1, t, h2, h3⟩
  · exact .inl ⟨h1, s _ _ h2⟩
  · exact .inr ⟨h1, t, s _ _ h2, h3.same s⟩
section
variable {P : Program} {w : World} {K : PySem.W.Frag}
  {mg : Str → Option Value} {base : Heap} {C : Addr}
theorem ok_arcsof {f : Addr} {fd : FuncData} {k : Nat}
    (F : Fun K "arcs_of" "arcs_of" s_arcs_of f fd) (B : Bl mg)
    (bT : mg "tuple" = none)
    (Cc : Cal P w K mg base k "check_order" ["base", "order"] (spFaultOk C))
    (Cb : Cal P w K mg base k "names_between" ["base", "lower", "upper"]
      (spBetw C))
    (Mn : CalM P w K mg base C k "names" ["self"] (spGetNames C))
    (Mp : CalM P w K mg base C k "precedes" ["self", "first", "second"]
      (spPrec C)) :
    FnOk P w K mg base CX0 (k + 1) f fd ["base", "order"] (spArcsOf C) := by
  refine F.ok sc_arcs_of (fun vs H Q E h => ?_)
    (fun cv A outer s H vs Q E hr h => ?_)
  · obtain ⟨b, a, ls, ps, l, m, rfl, _⟩ := h
    rfl
  obtain ⟨b, a, ls, ps, l, m, rfl, hb, go, ha, ar, q⟩ := h
  have nd := sc_arcs_of.nd
  have hu := hu_of hr
  refine ⟨_, pss_cons (ps_expr (pe_cal Cc hr (pa_cons (pv 0)
      (pa_cons (pv 1) pa_nil))))
    (pss_cons (ps_set (i := 2) nd rfl (.inr rfl) pe_dnewK)
    (pss_cons (ps_for PassesOwn.never rfl
      (pi_range1 (by rfl) B.range (pa_cons (pe_op op_sub
        (pe_callB call_len_seq (by rfl) B.len PySem.boot_len
          (pa_cons (pv 1) pa_nil)) pe_int) pa_nil))
      (pg_name (i := 3) nd rfl (.inr rfl))
      (pss_cons (ps_par (i := 4) (j := 5) (by rfl) nd rfl rfl (by decide) rfl
          rfl
        (pa_cons (pe_ix ix_list (pv 1) (pv 3) (fun _ _ => rfl))
          (pa_cons (pe_ix ix_list (pv 1) (pe_op op_add (pv 3) pe_int)
            (fun _ _ => rfl)) pa_nil)) (by rfl))
      (pss_one (ps_if (pt_val (pe_calM Mp hr (pv 0) (pa_cons (pv 5) (pa_cons
          (pv 4) pa_nil))))
        (pss_cons (ps_setLc (i := 6) (own := [("name", 7)]) (g := gName 7) rfl
            nd rfl rfl rfl
            (pi_list (pe_cal Cb hr (pa_cons (pv 0) (pa_cons (pv 5) (pa_cons
              (pv 4) pa_nil)))))
            (blkOk_by (N := N_arcs_of) (sc := defScope s_arcs_of)
              (by decide +kernel))
            (fun _ _ _ _ _ => pg_name (i := 7) nd rfl (Or.inl rfl))
            (fun _ _ _ _ _ => pts_one (pt_cmpR (r := rIn K false) op_in_seq
              (pv 7) (pe_slice (r := rSlL K) sl_list (pv 1) po_none (po_some
                (pv 3)))
              (by rfl)))
            (fun _ _ _ _ _ => pv 7))
        (pss_one (ps_dput hu (pv 2) (pv 5) (pe_tup (pa_cons (pv 5) (pa_cons
          (pv 4) (pa_cons (pe_tupleOf (by rfl) bT (pv 6)) pa_nil)))) rfl)))
        pss_nil))))
    (pss_one (ps_ret (pe_lc (own := [("name", 7)]) (g := gName 7) rfl nd
      (pi_list (pe_calM0 Mn hr (pv 0)))
      (blkOk_by (N := N_arcs_of) (sc := defScope s_arcs_of)
        (by decide +kernel))
      (fun _ _ _ _ _ => pg_name (i := 7) nd rfl (Or.inl rfl))
      (fun _ _ _ _ _ => pts_one (pt_cmp (pc_din hu (pv 7) (pv 2))
        rfl))
      (fun _ _ _ _ _ => pe_dget hu (pv 2) (pv 7) (fun _ _ => rfl))))))), ?_⟩
  have pa := ar.perm go.nd
  have ln := pa.length_eq
  have hhi := go.hi
  have nm := go.nm
  have i1 := List.idxOf_lt_length_of_mem ar.hl
  have i2 := List.idxOf_lt_length_of_mem ar.hm
  have lt := ar.lt
  obtain ⟨dx, lo, d0, h1, h2, h3⟩ := hb.ob
  obtain ⟨c1, c2, c3⟩ := ar.at_cut
  generalize hc : cutA ls l ps = c at c1 c2 c3
  generalize hao : ao ls l m ps = os at *
  have hc2 : c + 1 < os.length := (List.getElem?_eq_some_iff.mp c2).1
  refine ⟨_, rfl, _, rfl, b, a, ls, os, rfl, ⟨hb, go, ha, pa⟩,
    fun H1 s1 d nd' => ?_⟩
  have s2 : Same H1 (upd H1 d (.dK [])) := sameNew nd'
  have g2 : (upd H1 d (.dK [])) d = some (.dK []) := upd_same
  generalize upd H1 d (.dK []) = H2 at s2 g2 ⊢
  have a2 := s2 _ _ (s1 _ _ ha)
  refine ⟨_, rfl, a, _, rfl, .inl (SqL.of a2), _, _, rfl, rfl,
    ((os.length - 1 : Nat) : Int), ?_, by omega, by omega, ?_⟩
  · rw [List.length_map]
    simp
    omega
  rw [Int.toNat_natCast]
  refine for_range (lo := 0) (n := os.length - 1) (fun i σ H' =>
      ∃ (y3 y4 y5 y6 : Option V), σ = [some (.ref b), some (.ref a),
      some (.ref d), y3, y4, y5, y6, none] ∧ Fnd H' d l m ps c i ∧ Same H1 H')
    ⟨none, none, none, none, rfl, .inl ⟨Nat.zero_le _, g2⟩, s2⟩ ?_ ?_
  · rintro i σ H3 hi ⟨y3, y4, y5, y6, rfl, fn, s3⟩
    have s03 := s1.trans s3
    have a3 := s03 _ _ ha
    obtain ⟨x, hx⟩ : ∃ x, os[i]? = some x :=
      ⟨_, List.getElem?_eq_getElem (by omega)⟩
    obtain ⟨y, hy⟩ : ∃ y, os[i + 1]? = some y :=
      ⟨_, List.getElem?_eq_getElem (by omega)⟩
    have xin : x ∈ ls := pa.mem_iff.mp (List.mem_of_getElem? hx)
    have yin : y ∈ ls := pa.mem_iff.mp (List.mem_of_getElem? hy)
    rw [Int.zero_add]
    refine ⟨_, rfl, _, rfl, a, _, _, vS x, rfl, rfl, SqL.of a3,
      atI_nat (j := i) (by rw [List.getElem?_map, hx]; rfl), _, rfl, _, rfl, _,
      _, rfl, rfl, a, _, _, vS y, rfl, rfl, SqL.of a3, atI_nat (j := i + 1)
      (by rw [List.getElem?_map, hy]; rfl), _, _, rfl, ?_⟩
    refine ⟨_, rfl, b, dx, _, rfl, s03 _ _ h1, bf_no _ _ (by decide +kernel)
      (by decide +kernel), _, rfl, _, rfl, b, ls, y, x, rfl, hb.same s03, nm,
      yin, xin, fun H4 s4 => ⟨_, rfl, ?_⟩⟩
    have s04 := s03.trans s4
    by_cases ec : i = c
    · subst ec
      cases Option.some.inj (hx.symm.trans c1)
      cases Option.some.inj (hy.symm.trans c2)
      rw [decide_eq_true lt]
      refine iteT ?_
      have g3 : H3 d = some (.dK []) := by
        rcases fn with ⟨_, f2⟩ | ⟨f1, _⟩
        · exact f2
        · exfalso
          omega
      refine ⟨_, rfl, _, rfl, _, rfl, b, ls, _, _, rfl, hb.same s04, go, ar.hl,
        ar.hm, fun q5 H5 n5 h5 s5 => ⟨q5, rfl, ⟨_, SqL.of h5⟩,
        fun D nD => ?_⟩⟩
      have s05 := s04.trans s5
      have a5 := s05 _ _ ha
      have lb : (btw ls l m).length ≤ 40 := by
        have := (btw_sub (ls := ls) (l := l) (m := m)).length_le
        omega
      refine lc_it (walk_list (K := K) (a := q5) (xs := (btw ls l m).map vS))
        (fun j H' => H' D = some (.lst ((((btw ls l m).take j).filter
          fun z => decide (z ∈ os.take i)).map vS)) ∧ Same H5 H')
        ⟨upd_same, sameNew nD⟩ (fun j H' _ z => SqL.of (z.2 _ _ h5)) ?_ ?_
      · rintro j v H7 H8 hj ⟨hD, s6⟩ ⟨rfl, ev⟩
        obtain ⟨z, hz, rfl⟩ := get_map ev
        rw [List.length_map] at hj
        have et := take_snoc hz
        refine ⟨rfl, _, rfl, _, rfl, _, rfl, i, rfl, a, _, rfl, SqL.of (s6 _ _ a5),
          fun t nt => ?_⟩
        rw [cut_to _ (by rw [List.length_map]; omega), ← List.map_take]
        refine ⟨t, _, rfl, .inl (SqL.of upd_same), rfl, flat_S _, _, rfl,
          ?_⟩
        have hD' := sameNew (o := .lst ((os.take i).map vS)) nt _ _ hD
        have s6' := s6.trans (sameNew (o := .lst ((os.take i).map vS)) nt)
        generalize upd H8 t (.lst ((os.take i).map vS)) = H6' at hD' s6' ⊢
        rw [if_neg (by decide), inV_S]
        by_cases mt : z ∈ os.take i
        · rw [decide_eq_true mt]
          refine iteT ⟨_, rfl, _, hD', ?_, ?_, ?_⟩
          · rw [List.length_map]
            refine sz' (Nat.lt_of_le_of_lt (List.length_filter_le _ _) ?_)
            rw [List.length_take]
            omega
          · rw [upd_same, et, List.filter_append,
              List.filter_cons_of_pos (by simpa using mt), List.map_append]
            rfl
          · exact OM.Same.put s6' nD
        · rw [decide_eq_false mt]
          refine iteF ⟨?_, s6'⟩
          rw [et, List.filter_append, List.filter_cons_of_neg (by
            simpa using mt), List.filter_nil, List.append_nil]
          exact hD'
      rintro H6 ⟨hD, s6⟩
      rw [List.length_map, List.take_length] at hD
      have pp := ar.passed go.nd
      rw [hao, hc] at pp
      rw [pp] at hD
      refine ⟨_, rfl, _, rfl, _, rfl, .inl ⟨D, _, rfl, SqL.of hD,
        fun u nu => ⟨three_l, fun t nt => ?_⟩⟩⟩
      have z1 := sameNew (o := .tup (ps.map vS)) nu
      have hu1 : (upd H6 u (.tup (ps.map vS))) u = some (.tup (ps.map vS)) :=
        upd_same
      generalize upd H6 u (.tup (ps.map vS)) = H7 at z1 hu1 nt ⊢
      have z2 := sameNew (o := .tup [vS l, vS m, .ref u]) nt
      have ht2 : (upd H7 t (.tup [vS l, vS m, .ref u])) t =
        some (.tup [vS l, vS m, .ref u]) := upd_same
      generalize upd H7 t (.tup [vS l, vS m, .ref u]) = H8 at z2 ht2 ⊢
      have hu2 := z2 _ _ hu1
      have s38 := (((s4.trans s5).trans s6).trans z1).trans z2
      have g8 := s38 _ _ g3
      refine ⟨_, rfl, _, rfl, d, _, rfl, DPut.k (k := Sum.inr (SX.S l)) g8
        (by decide), _, _, _, _, rfl, .inr ⟨Nat.lt_succ_self _, t, upd_same, u,
        ?_, ?_⟩, OM.Same.put (s3.trans s38) nd'⟩
      · rw [upd_ne (ne_of ht2 g8 nofun)]
        exact ht2
      · rw [upd_ne (ne_of hu2 g8 nofun)]
        exact hu2
    · have up := ar.ups go.nd (by rw [hao]; exact hx) (by rw [hao]; exact hy)
        (by rw [hc]; exact ec)
      rw [decide_eq_false (by omega)]
      refine iteF ⟨_, _, _, _, rfl, ?_, s3.trans s4⟩
      rcases fn.same s4 with ⟨f1, f2⟩ | ⟨f1, f2⟩
      · exact .inl ⟨by omega, f2⟩
      · exact .inr ⟨by omega, f2⟩
  · rintro σ H3 ⟨y3, y4, y5, y6, rfl, fn, s3⟩
    have s03 := s1.trans s3
    obtain ⟨t, g3, at3⟩ : ∃ t, H3 d = some (.dK [(Sum.inr (SX.S l), .ref t)]) ∧
        ArcAt H3 t l m ps := by
      rcases fn with ⟨f1, _⟩ | ⟨_, f2⟩
      · exfalso
        omega
      · exact f2
    refine ⟨_, rfl, b, dx, _, rfl, s03 _ _ h1, bf_no _ _ (by decide +kernel)
      (by decide +kernel), b, ls, rfl, hb.same s03, fun n H4 nn hn s4 =>
      ⟨n, rfl, ⟨_, SqL.of hn⟩, fun D nD => ?_⟩⟩
    have g4 := s4 _ _ g3
    have ep : ∀ x, valV [((Sum.inr (SX.S l) : Key), V.ref t)]
        (Sum.inr (SX.S x)) = if x = l then some (V.ref t) else none := by
      intro x
      have := valV_put (([] : List (Key × V))) (Sum.inr (SX.S l))
        (Sum.inr (SX.S x)) (V.ref t)
      refine Eq.trans this ?_
      by_cases e : x = l
      · subst e
        rw [if_pos rfl, if_pos rfl]
      · rw [if_neg e, if_neg (fun z => e (SX.S_inj (Sum.inr.inj z)))]
        rfl
    refine lc_it (walk_list (K := K) (a := n) (xs := ls.map vS))
      (fun i H' => H' D = some (.lst (if ls.idxOf l < i then [.ref t] else []))
        ∧ Same H4 H')
      ⟨upd_same, sameNew nD⟩ (fun i H' _ z => SqL.of (z.2 _ _ hn)) ?_ ?_
    · rintro i v H5 H6 hi ⟨hD, s5⟩ ⟨rfl, ev⟩
      obtain ⟨x, hx, rfl⟩ := get_map ev
      have ix := idx_at go.nd hx
      have gx := DGet.k (k := Sum.inr (SX.S x)) (s5 _ _ g4)
      rw [ep] at gx
      by_cases e : x = l
      · subst e
        rw [if_pos rfl] at gx
        rw [if_neg (by omega)] at hD
        refine ⟨rfl, _, rfl, _, rfl, d, _, rfl, gx, _, rfl, iteT ⟨_, rfl, _,
          rfl, d, _, rfl, gx, _, hD, by decide, ?_, OM.Same.put s5 nD⟩⟩
        rw [upd_same, if_pos (by omega)]
        rfl
      · rw [if_neg e] at gx
        refine ⟨rfl, _, rfl, _, rfl, d, _, rfl, gx, _, rfl, iteF ⟨?_, s5⟩⟩
        have ne : ls.idxOf l ≠ i := fun z => by
          have hl := List.getElem_idxOf i1
          have : ls[i]? = some l := by
            rw [← z, List.getElem?_eq_getElem i1, hl]
          rw [hx] at this
          exact e (Option.some.inj this)
        rw [hD]
        by_cases hlt : ls.idxOf l < i
        · rw [if_pos hlt, if_pos (by omega)]
        · rw [if_neg hlt, if_neg (by omega)]
    rintro H5 ⟨hD, s5⟩
    rw [List.length_map, if_pos i1] at hD
    refine q D t H5 ((s03.trans s4).free nD) hD (at3.same (s4.trans s5))
      ((s03.trans s4).trans s5)
end
end OM
namespace OM
open PySem PySem.Spec PyProof.Rows L2
theorem ArcAt.put {H : Hp} {t r : Addr} {l m : List Nat} {ps : Nms}
    {xs ys : List V} (a : ArcAt H t l m ps) (h : H r = some (.lst xs)) :
    ArcAt (upd H r (.lst ys)) t l m ps := by
  obtain ⟨u, h1, h2⟩ := a.ob
  refine ⟨u, ?_, ?_⟩
  · rw [upd_ne (ne_of h1 h nofun)]
    exact h1
  · rw [upd_ne (ne_of h2 h nofun)]
    exact h2
/-- all are arcs of the order -/
def Owns (H : Hp) (ls os : Nms) (rs : List Addr) : Prop :=
  ∀ r ∈ rs, ∃ l m ps, ArcAt H r l m ps ∧ OwnArc ls os l m ps
theorem Owns.same {H H' : Hp} {ls os : Nms} {rs : List Addr}
    (o : Owns H ls os rs) (s : Same H H') : Owns H' ls os rs := fun r hr => by
  obtain ⟨l, m, ps, h1, h2⟩ := o r hr
  exact ⟨l, m, ps, h1.same s, h2⟩
def spLArcs : Sp := fun vs H Q _ =>
  ∃ (p a : Addr) (ls os : Nms), vs = [.ref p, .ref a] ∧
  H p = some (.lst (ls.map vS)) ∧ H a = some (.lst (os.map vS)) ∧ Good ls ∧
  os.Perm ls ∧ ∀ q rs H', H q = none → H' q = some (.lst (rs.map V.ref)) →
    rs.length ≤ 40 → Owns H' ls os rs → Same H H' → Q (.ref q) H'
section
variable {P : Program} {w : World} {K : PySem.W.Frag}
  {mg : Str → Option Value} {base : Heap} {C : Addr}
theorem ok_larcs {f : Addr} {fd : FuncData} {k : Nat}
    (F : Fun K "_law_arcs" "_law_arcs" s_Larcs f fd) (B : Bl mg)
    (bT : mg "tuple" = none) :
    FnOk P w K mg base CX0 (k + 1) f fd ["_law_items", "_law_order"]
      spLArcs := by
  refine F.ok sc_Larcs (fun vs H Q E h => ?_)
    (fun cv A outer s H vs Q E hr h => ?_)
  · obtain ⟨p, a, ls, os, rfl, _⟩ := h
    rfl
  obtain ⟨p, a, ls, os, rfl, hp, ha, go, pm, q⟩ := h
  have nd := sc_Larcs.nd
  refine ⟨_, pss_cons (ps_set (i := 2) nd rfl (.inl rfl) (pe_lst pa_nil))
    (pss_cons (ps_for PassesOwn.never rfl (pi_list (pv 0))
      (pg_name (i := 3) nd rfl (.inl rfl))
      (pss_cons (ps_set (i := 4) nd rfl (.inr rfl)
        (pe_bm PySem.F.plainAttrs_list PySem.F.slot_list_index
          PySem.F.type_list_index mt_index (pv 1) (pa_cons (pv 3) pa_nil)))
      (pss_one (ps_if (PW.pt (pw_and (pt_cmpR op_gt (pv 4) pe_int (nomark _))
          (pw_and1 (pt_cmpR op_gt
            (pe_bm PySem.F.plainAttrs_list PySem.F.slot_list_index
              PySem.F.type_list_index mt_index (pv 0) (pa_cons
              (pe_ix ix_list (pv 1) (pe_op op_sub (pv 4) pe_int)
                (fun _ _ => rfl)) pa_nil))
            (pe_bm PySem.F.plainAttrs_list PySem.F.slot_list_index
              PySem.F.type_list_index mt_index (pv 0) (pa_cons (pv 3) pa_nil))
            (nomark _)))))
        (pss_cons (ps_set (i := 5) nd rfl (.inl rfl)
          (pe_ix ix_list (pv 1) (pe_op op_sub (pv 4) pe_int)
            (fun _ _ => rfl)))
        (pss_cons (ps_set (i := 6) nd rfl (.inl rfl)
          (pe_slice sl_list (pv 0) (po_some (pe_op op_add
            (pe_bm PySem.F.plainAttrs_list PySem.F.slot_list_index
              PySem.F.type_list_index mt_index (pv 0) (pa_cons (pv 3) pa_nil))
            pe_int)) (po_some
            (pe_bm PySem.F.plainAttrs_list PySem.F.slot_list_index
              PySem.F.type_list_index mt_index (pv 0) (pa_cons (pv 5)
                pa_nil)))))
        (pss_one (ps_expr (pe_bm PySem.F.plainAttrs_list
          PySem.F.slot_list_append PySem.F.type_list_append mt_append (pv 2)
          (pa_cons (pe_tup (pa_cons (pv 3) (pa_cons (pv 5) (pa_cons
            (pe_tupleOf (by rfl) bT
              (pe_lc (own := [("_law_item", 7)]) (g := gName 7) rfl nd
                (pi_list (pv 6))
                (blkOk_by (N := N_Larcs) (sc := defScope s_Larcs)
                  (by decide +kernel))
                (fun _ _ _ _ _ => pg_name (i := 7) nd rfl (Or.inl rfl))
                (fun _ _ _ _ _ => pts_one (pt_cmpR (r := rIn K false) op_in_seq
                  (pv 7) (pe_slice (r := rSlL K) sl_list (pv 1) po_none
                    (po_some (pe_op op_sub (pv 4) pe_int))) (by rfl)))
                (fun _ _ _ _ _ => pv 7))) pa_nil)))) pa_nil))))))
        pss_nil))))
    (pss_one (ps_ret (pv 2)))), ?_⟩
  have hhi := go.hi
  have lo := pm.length_eq
  have no : os.Nodup := pm.nodup_iff.mpr go.nd
  refine ⟨sz (by simp), fun r nr => ⟨_, rfl, p, rfl, ⟨_, SqL.of (sameNew nr _ _ hp)⟩,
    ?_⟩⟩
  refine for_list (K := K) (a := p) (xs := ls.map vS) (fun i σ H' =>
    ∃ (y3 y4 y5 y6 : Option V) (rs : List Addr), σ = [some (.ref p),
      some (.ref a), some (.ref r), y3, y4, y5, y6, none] ∧
      H' r = some (.lst (rs.map V.ref)) ∧ rs.length ≤ i ∧ Owns H' ls os rs ∧
      Same H H')
    ⟨none, none, none, none, [], rfl, upd_same, Nat.le_refl _, nofun,
      sameNew nr⟩ (fun i σ H' _ z => by
      obtain ⟨_, _, _, _, _, _, _, _, _, s⟩ := z; exact SqL.of (s _ _ hp)) ?_ ?_
  · rintro i v σ H1 hv ⟨y3, y4, y5, y6, rs, rfl, h1, lr, ow, s1⟩
    obtain ⟨l, hl, rfl⟩ := get_map hv
    have li := (List.getElem?_eq_some_iff.mp hl).1
    have inl : l ∈ ls := List.mem_of_getElem? hl
    have ino : l ∈ os := pm.mem_iff.mpr inl
    have hA := SqL.of (K := K) (s1 _ _ ha)
    have hP := SqL.of (K := K) (s1 _ _ hp)
    refine ⟨_, rfl, .inl ⟨rfl, _, hA⟩, _, rfl, a, _, _, os.idxOf l, vS l, rfl,
      rfl, hA, rfl, flat_S os, idx_get ino, eqV_self l, idx_first, _, rfl, _, _,
      rfl, rfl, _, rfl, ?_⟩
    cases ej : os.idxOf l with
    | zero =>
      refine iteF ⟨_, _, _, _, rs, rfl, h1, by omega, ow, s1⟩
    | succ j =>
      have oj : os[j + 1]? = some l := by
        have := List.idxOf_lt_length_of_mem ino
        rw [← ej, List.getElem?_eq_getElem this, List.getElem_idxOf this]
      obtain ⟨m, hm⟩ : ∃ m, os[j]? = some m :=
        ⟨_, List.getElem?_eq_getElem (by
          have := (List.getElem?_eq_some_iff.mp oj).1
          omega)⟩
      have inm : m ∈ ls := pm.mem_iff.mp (List.mem_of_getElem? hm)
      have gj : atI (os.map vS) (((j : Nat) : Int)) = some (vS m) :=
        atI_nat (by rw [List.getElem?_map, hm]; rfl)
      have je : V.int (((j + 1 : Nat) : Int) - 1) = .int ((j : Nat) : Int) :=
        congrArg V.int (by omega)
      rw [show decide ((0 : Int) < ((j + 1 : Nat) : Int)) = true from
        decide_eq_true (by omega)]
      refine iteT ⟨_, rfl, .inl ⟨rfl, _, hP⟩, _, rfl, _, rfl, _, _, rfl, rfl, a,
        _, _, vS m, rfl, je, hA, gj, p, _, _, ls.idxOf m, vS m, rfl, rfl, hP,
        rfl, flat_S ls, idx_get inm, eqV_self m, idx_first, _, rfl,
        .inl ⟨rfl, _, hP⟩, _, rfl, p, _, _, ls.idxOf l, vS l, rfl, rfl, hP,
        rfl, flat_S ls, idx_get inl, eqV_self l, idx_first, _, _, rfl, rfl, _,
        rfl, ite2 (fun z => ?_) (fun z => ⟨_, _, _, _, rs, rfl, h1, by omega,
        ow, s1⟩)⟩
      have lt : ls.idxOf l < ls.idxOf m := by
        have : ((ls.idxOf l : Nat) : Int) < ((ls.idxOf m : Nat) : Int) :=
          of_decide_eq_true z
        omega
      have x1 := List.idxOf_lt_length_of_mem inl
      have x2 := List.idxOf_lt_length_of_mem inm
      refine ⟨_, rfl, _, rfl, _, _, rfl, rfl, a, _, _, vS m, rfl, je, hA, gj, ?_⟩
      refine ⟨_, rfl, _, rfl, .inl ⟨rfl, _, hP⟩, _, rfl, p, _, _, ls.idxOf l,
        vS l, rfl, rfl, hP, rfl, flat_S ls, idx_get inl, eqV_self l, idx_first,
        _, _, rfl, rfl, _, rfl, _, rfl, .inl ⟨rfl, _, hP⟩, _, rfl, p, _, _,
        ls.idxOf m, vS m, rfl, rfl, hP, rfl, flat_S ls, idx_get inm, eqV_self m,
        idx_first, _, rfl, p, _, rfl, hP, fun b nb => ?_⟩
      have e := cut_mid (ls.map vS) (a := ls.idxOf l + 1) (b := ls.idxOf m)
        (by rw [List.length_map]; omega) (by rw [List.length_map]; omega)
      rw [← List.map_drop, ← List.map_take] at e
      rw [show cutV (ls.map vS) (some (((ls.idxOf l : Nat) : Int) + 1))
        (some ((ls.idxOf m : Nat) : Int)) = (btw ls l m).map vS from e]
      have s2 := sameNew (o := .lst ((btw ls l m).map vS)) nb
      have hb : (upd H1 b (.lst ((btw ls l m).map vS))) b =
        some (.lst ((btw ls l m).map vS)) := upd_same
      generalize upd H1 b (.lst ((btw ls l m).map vS)) = H2 at s2 hb ⊢
      have h12 := s2 _ _ h1
      have a2 := s2 _ _ (s1 _ _ ha)
      have lb : (btw ls l m).length ≤ 40 := by
        have := (btw_sub (ls := ls) (l := l) (m := m)).length_le
        omega
      refine ⟨_, rfl, .inl ⟨rfl, _, SqL.of h12⟩, _, rfl, _, rfl, _, rfl, b, rfl,
        ⟨_, SqL.of hb⟩, fun D nD => ?_⟩
      refine lc_it (walk_list (K := K) (a := b) (xs := (btw ls l m).map vS))
        (fun j' H' => H' D = some (.lst ((((btw ls l m).take j').filter
          fun z => decide (z ∈ os.take j)).map vS)) ∧ Same H2 H')
        ⟨upd_same, sameNew nD⟩ (fun j' H' _ z => SqL.of (z.2 _ _ hb)) ?_ ?_
      · rintro j' v H3 H4 hj ⟨hD, s3⟩ ⟨rfl, ev⟩
        obtain ⟨x, hx, rfl⟩ := get_map ev
        rw [List.length_map] at hj
        have et := take_snoc hx
        refine ⟨rfl, _, rfl, _, rfl, _, rfl, _, _, rfl, rfl, ((j : Nat) : Int),
          je, a, _, rfl, SqL.of (s3 _ _ a2), fun t nt => ?_⟩
        have jl := (List.getElem?_eq_some_iff.mp hm).1
        rw [cut_to _ (by rw [List.length_map]; omega), ← List.map_take]
        refine ⟨t, _, rfl, .inl (SqL.of upd_same), rfl, flat_S _, _, rfl, ?_⟩
        have hD' := sameNew (o := .lst ((os.take j).map vS)) nt _ _ hD
        have s3' := s3.trans (sameNew (o := .lst ((os.take j).map vS)) nt)
        generalize upd H4 t (.lst ((os.take j).map vS)) = H5 at hD' s3' ⊢
        rw [if_neg (by decide), inV_S]
        by_cases mt : x ∈ os.take j
        · rw [decide_eq_true mt]
          refine iteT ⟨_, rfl, _, hD', ?_, ?_, ?_⟩
          · rw [List.length_map]
            refine sz' (Nat.lt_of_le_of_lt (List.length_filter_le _ _) ?_)
            rw [List.length_take]
            omega
          · rw [upd_same, et, List.filter_append,
              List.filter_cons_of_pos (by simpa using mt), List.map_append]
            rfl
          · exact OM.Same.put s3' nD
        · rw [decide_eq_false mt]
          refine iteF ⟨?_, s3'⟩
          rw [et, List.filter_append, List.filter_cons_of_neg (by
            simpa using mt), List.filter_nil, List.append_nil]
          exact hD'
      rintro H3 ⟨hD, s3⟩
      rw [List.length_map, List.take_length] at hD
      generalize hps : (btw ls l m).filter (fun z => decide (z ∈ os.take j)) = ps
        at hD
      refine .inl ⟨D, _, rfl, SqL.of hD, fun u nu => ⟨three_l, fun t nt => ?_⟩⟩
      have z1 := sameNew (o := .tup (ps.map vS)) nu
      have hu1 : (upd H3 u (.tup (ps.map vS))) u = some (.tup (ps.map vS)) :=
        upd_same
      generalize upd H3 u (.tup (ps.map vS)) = H4 at z1 hu1 nt ⊢
      have z2 := sameNew (o := .tup [vS l, vS m, .ref u]) nt
      have ht2 : (upd H4 t (.tup [vS l, vS m, .ref u])) t =
        some (.tup [vS l, vS m, .ref u]) := upd_same
      generalize upd H4 t (.tup [vS l, vS m, .ref u]) = H5 at z2 ht2 ⊢
      have s15 := ((s2.trans s3).trans z1).trans z2
      have h5 := s15 _ _ h1
      have at5 : ArcAt H5 t l m ps := ⟨u, ht2, z2 _ _ hu1⟩
      refine ⟨r, _, _, rfl, rfl, h5, ?_, _, _, _, _, rs ++ [t], rfl, ?_, ?_, ?_,
        ?_⟩
      · rw [List.length_map]
        exact sz' (by omega)
      · rw [upd_same, List.map_append]
        rfl
      · rw [List.length_append, List.length_singleton]
        omega
      · intro x hx
        rcases List.mem_append.mp hx with y | y
        · obtain ⟨l', m', ps', b1, b2⟩ := ow x y
          exact ⟨l', m', ps', (b1.same s15).put h5, b2⟩
        · rw [List.mem_singleton.mp y]
          refine ⟨l, m, ps, at5.put h5, ⟨inl, inm, lt, ?_⟩, j, hm, oj, hps.symm⟩
          rw [← hps]
          exact List.filter_sublist
      · exact OM.Same.put (s1.trans s15) nr
  · rintro σ H1 ⟨y3, y4, y5, y6, rs, rfl, h1, lr, ow, s1⟩
    rw [List.length_map] at lr
    exact ⟨_, rfl, q r rs H1 nr h1 (by omega) ow s1⟩
end
end OM
namespace OM
open PySem PySem.Spec PyProof.Rows L2
def spLOrd : Sp := fun vs H Q _ =>
  ∃ (p t : Addr) (ls ps : Nms) (l m : List Nat), vs = [.ref p, .ref t] ∧
  H p = some (.lst (ls.map vS)) ∧ Good ls ∧ ArcAt H t l m ps ∧ Arc ls l m ps ∧
  ∀ q H', H q = none → H' q = some (.lst ((ao ls l m ps).map vS)) →
    Same H H' → Q (.ref q) H'
section
variable {P : Program} {w : World} {K : PySem.W.Frag}
  {mg : Str → Option Value} {base : Heap} {C : Addr}
theorem ok_lord {f : Addr} {fd : FuncData} {k : Nat}
    (F : Fun K "_law_arc_order" "_law_arc_order" s_Larc_order f fd)
    (B : Bl mg) :
    FnOk P w K mg base CX0 (k + 1) f fd ["_law_items", "_law_arc"]
      spLOrd := by
  refine F.ok sc_Larc_order (fun vs H Q E h => ?_)
    (fun cv A outer s H vs Q E hr h => ?_)
  · obtain ⟨p, t, ls, ps, l, m, rfl, _⟩ := h
    rfl
  obtain ⟨p, t, ls, ps, l, m, rfl, hp, go, at_, ar, q⟩ := h
  have nd := sc_Larc_order.nd
  refine ⟨_, pss_cons (ps_asg (pv 1) (pg_tup rfl
      (pgs_cons (pg_name (i := 2) nd rfl (.inl rfl))
      (pgs_cons (pg_name (i := 3) nd rfl (.inr rfl))
      (pgs_cons (pg_name (i := 4) nd rfl (.inr rfl)) pgs_nil)))))
    (pss_cons (ps_par (i := 5) (j := 6) (by rfl) nd rfl rfl (by decide) rfl rfl
      (pa_cons (pe_bm PySem.F.plainAttrs_list PySem.F.slot_list_index
          PySem.F.type_list_index mt_index (pv 0) (pa_cons (pv 2) pa_nil))
        (pa_cons (pe_bm PySem.F.plainAttrs_list PySem.F.slot_list_index
          PySem.F.type_list_index mt_index (pv 0) (pa_cons (pv 3) pa_nil))
          pa_nil)) (by rfl))
    (pss_cons (ps_set (i := 7) nd rfl (.inr rfl)
      (pe_lc (own := [("_law_item", 8)]) (g := gName 8) rfl nd
        (pi_list (pe_slice sl_list (pv 0) (po_some (pv 5)) (po_some
          (pe_op op_add (pv 6) pe_int))))
        (blkOk_by (N := N_Larc_order) (sc := defScope s_Larc_order)
          (by decide +kernel))
        (fun _ _ _ _ _ => pg_name (i := 8) nd rfl (Or.inl rfl))
        (fun _ _ _ _ _ => pts_one (PW.pt (pw_or (pt_cmpR (r := rIn K false)
          op_in_seq (pv 8) (pv 4) (by rfl))
          (pw_or1 (pt_cmpR op_eq (pv 8) (pv 3) (nomark _))))))
        (fun _ _ _ _ _ => pv 8)))
    (pss_cons (ps_setLc (i := 9) (own := [("_law_item", 8)]) (g := gName 8) rfl
        nd rfl rfl rfl
        (pi_list (pe_slice sl_list (pv 0) (po_some (pv 5)) (po_some
          (pe_op op_add (pv 6) pe_int))))
        (blkOk_by (N := N_Larc_order) (sc := defScope s_Larc_order)
          (by decide +kernel))
        (fun _ _ _ _ _ => pg_name (i := 8) nd rfl (Or.inl rfl))
        (fun _ _ _ _ _ => pts_one (pt_cmpR (r := rIn K true) op_notIn_seq
          (pv 8) (pv 7) (by rfl)))
        (fun _ _ _ _ _ => pv 8))
    (pss_one (ps_ret (pe_op op_cat (pe_op op_cat (pe_op op_cat
      (pe_slice sl_list (pv 0) po_none (po_some (pv 5))) (pv 7)) (pv 9))
      (pe_slice sl_list (pv 0) (po_some (pe_op op_add (pv 6) pe_int))
        po_none))))))), ?_⟩
  obtain ⟨u, ht, hu⟩ := at_.ob
  have hhi := go.hi
  have lt := ar.lt
  have i1 := List.idxOf_lt_length_of_mem ar.hl
  have i2 := List.idxOf_lt_length_of_mem ar.hm
  have hP := SqL.of (K := K) hp
  refine ⟨_, rfl, t, _, rfl, .inl (.inl ht), rfl, _, _, rfl, _, _, rfl, _, _,
    rfl, rfl, ?_⟩
  refine ⟨_, rfl, .inl ⟨rfl, _, hP⟩, _, rfl, p, _, _, ls.idxOf l, vS l, rfl, rfl,
    hP, rfl, flat_S ls, idx_get ar.hl, eqV_self l, idx_first, _, rfl,
    .inl ⟨rfl, _, hP⟩, _, rfl, p, _, _, ls.idxOf m, vS m, rfl, rfl, hP, rfl,
    flat_S ls, idx_get ar.hm, eqV_self m, idx_first, _, _, rfl, ?_⟩
  have es : cutV (ls.map vS) (some ((ls.idxOf l : Nat) : Int))
      (some (((ls.idxOf m : Nat) : Int) + 1)) =
      (l :: (btw ls l m ++ [m])).map vS := by
    have e := cut_mid (ls.map vS) (a := ls.idxOf l) (b := ls.idxOf m + 1)
      (by rw [List.length_map]; omega) (by rw [List.length_map]; omega)
    rw [← List.map_drop, ← List.map_take, ar.sect] at e
    exact e
  have lse : (l :: (btw ls l m ++ [m])).length ≤ 42 := by
    have := (btw_sub (ls := ls) (l := l) (m := m)).length_le
    rw [List.length_cons, List.length_append, List.length_singleton]
    omega
  have fl := ar.left go.nd
  have fr := ar.right go.nd
  generalize hse : l :: (btw ls l m ++ [m]) = se at es lse fl fr
  refine ⟨_, rfl, _, rfl, _, rfl, _, rfl, _, _, rfl, rfl, _, rfl, p, _, rfl, hP,
    fun b nb => ?_⟩
  rw [es]
  have s1 := sameNew (o := .lst (se.map vS)) nb
  have hb : (upd H b (.lst (se.map vS))) b = some (.lst (se.map vS)) := upd_same
  generalize upd H b (.lst (se.map vS)) = H1 at s1 hb ⊢
  refine ⟨b, rfl, ⟨_, SqL.of hb⟩, fun D nD => ?_⟩
  have hu1 := s1 _ _ hu
  refine lc_it (walk_list (K := K) (a := b) (xs := se.map vS))
    (fun j H' => H' D = some (.lst (((se.take j).filter fun x =>
      decide (x ∈ ps) || decide (x = m)).map vS)) ∧ Same H1 H')
    ⟨upd_same, sameNew nD⟩ (fun j H' _ z => SqL.of (z.2 _ _ hb)) ?_ ?_
  · rintro j v H2 H3 hj ⟨hD, s2⟩ ⟨rfl, ev⟩
    obtain ⟨x, hx, rfl⟩ := get_map ev
    rw [List.length_map] at hj
    have et := take_snoc hx
    have yes_ : (decide (x ∈ ps) || decide (x = m)) = true →
        (((se.take j).filter fun x => decide (x ∈ ps) ||
          decide (x = m)).map vS ++ [vS x]) = ((se.take (j + 1)).filter
          fun x => decide (x ∈ ps) || decide (x = m)).map vS := fun z => by
      rw [et, List.filter_append, List.filter_cons_of_pos (by exact z),
        List.map_append]
      rfl
    have no_ : (decide (x ∈ ps) || decide (x = m)) = false →
        (((se.take j).filter fun x => decide (x ∈ ps) ||
          decide (x = m)).map vS) = ((se.take (j + 1)).filter
          fun x => decide (x ∈ ps) || decide (x = m)).map vS := fun z => by
      rw [et, List.filter_append, List.filter_cons_of_neg (by
        rw [z]; decide),
        List.filter_nil, List.append_nil]
    have sm : (((se.take j).filter fun x => decide (x ∈ ps) ||
          decide (x = m)).map vS).length < sizeLine := by
      rw [List.length_map]
      refine sz' (Nat.lt_of_le_of_lt (List.length_filter_le _ _) ?_)
      rw [List.length_take]
      omega
    refine ⟨rfl, _, rfl, _, rfl, u, _, rfl, .inr (SqT.of (s2 _ _ hu1)), rfl,
      flat_S _, _, rfl, ?_⟩
    rw [if_neg (by decide), inV_S]
    by_cases mt : x ∈ ps
    · rw [decide_eq_true mt]
      refine iteT (iteT ⟨_, rfl, _, hD, sm, ?_, OM.Same.put s2 nD⟩)
      rw [upd_same, yes_ (by rw [decide_eq_true mt]; rfl)]
    · rw [decide_eq_false mt]
      refine iteF ⟨_, rfl, _, rfl, rfl, _, rfl, ?_⟩
      by_cases e : x = m
      · rw [decide_eq_true (show vS x = vS m by rw [e])]
        refine iteT ⟨_, rfl, _, hD, sm, ?_, OM.Same.put s2 nD⟩
        rw [upd_same, yes_ (by rw [decide_eq_true e, Bool.or_true])]
      · rw [decide_eq_false (show ¬ vS x = vS m from fun z => e (vS_inj z))]
        refine iteF ⟨?_, s2⟩
        rw [← no_ (by rw [decide_eq_false mt, decide_eq_false e]; rfl)]
        exact hD
  rintro H2 ⟨hD, s2⟩
  rw [List.length_map, List.take_length, fl] at hD
  have s12 := s1.trans s2
  have hP2 := SqL.of (K := K) (s12 _ _ hp)
  refine ⟨_, rfl, _, rfl, _, rfl, _, rfl, _, _, rfl, rfl, _, rfl, p, _, rfl, hP2,
    fun b2 nb2 => ?_⟩
  rw [es]
  have s3 := sameNew (o := .lst (se.map vS)) nb2
  have hb2 : (upd H2 b2 (.lst (se.map vS))) b2 = some (.lst (se.map vS)) :=
    upd_same
  generalize upd H2 b2 (.lst (se.map vS)) = H3 at s3 hb2 ⊢
  have hD3 := s3 _ _ hD
  refine ⟨b2, rfl, ⟨_, SqL.of hb2⟩, fun D2 nD2 => ?_⟩
  refine lc_it (walk_list (K := K) (a := b2) (xs := se.map vS))
    (fun j H' => H' D2 = some (.lst (((se.take j).filter fun x =>
      decide (x ∉ ps ++ [m])).map vS)) ∧ Same H3 H')
    ⟨upd_same, sameNew nD2⟩ (fun j H' _ z => SqL.of (z.2 _ _ hb2)) ?_ ?_
  · rintro j v H4 H5 hj ⟨hE, s4⟩ ⟨rfl, ev⟩
    obtain ⟨x, hx, rfl⟩ := get_map ev
    rw [List.length_map] at hj
    have et := take_snoc hx
    refine ⟨rfl, _, rfl, _, rfl, D, _, rfl, .inl (SqL.of (s4 _ _ hD3)), rfl,
      flat_S _, _, rfl, ?_⟩
    rw [inV_S]
    by_cases mt : x ∈ ps ++ [m]
    · rw [decide_eq_true mt]
      refine iteF ⟨?_, s4⟩
      rw [et, List.filter_append, List.filter_cons_of_neg (by
        rw [decide_eq_true_eq]; exact fun z => z mt),
        List.filter_nil, List.append_nil]
      exact hE
    · rw [decide_eq_false mt]
      refine iteT ⟨_, rfl, _, hE, ?_, ?_, OM.Same.put s4 nD2⟩
      · rw [List.length_map]
        refine sz' (Nat.lt_of_le_of_lt (List.length_filter_le _ _) ?_)
        rw [List.length_take]
        omega
      · rw [upd_same, et, List.filter_append,
          List.filter_cons_of_pos (by rw [decide_eq_true_eq]; exact mt),
          List.map_append]
        rfl
  rintro H4 ⟨hE, s4⟩
  rw [List.length_map, List.take_length, fr] at hE
  have hD4 := s4 _ _ hD3
  have s14 := (s12.trans s3).trans s4
  have hP4 := SqL.of (K := K) (s14 _ _ hp)
  have lo' : (oth ls l m ps).length ≤ 40 := by
    have h1 := List.length_filter_le (fun x => decide (x ∉ ps)) (btw ls l m)
    have h2 := (btw_sub (ls := ls) (l := l) (m := m)).length_le
    unfold oth
    omega
  have lps : ps.length ≤ 40 := by
    have h1 := ar.sub.length_le
    have h2 := (btw_sub (ls := ls) (l := l) (m := m)).length_le
    omega
  refine ⟨_, rfl, _, rfl, ls.idxOf l, rfl, p, _, rfl, hP4, fun t1 nt1 => ?_⟩
  rw [cut_to _ (by rw [List.length_map]; omega), ← List.map_take]
  have z1 := sameNew (o := .lst ((ls.take (ls.idxOf l)).map vS)) nt1
  have g1 : (upd H4 t1 (.lst ((ls.take (ls.idxOf l)).map vS))) t1 =
    some (.lst ((ls.take (ls.idxOf l)).map vS)) := upd_same
  generalize upd H4 t1 (.lst ((ls.take (ls.idxOf l)).map vS)) = H5 at z1 g1 ⊢
  refine ⟨_, rfl, t1, D, _, _, rfl, rfl, g1, z1 _ _ hD4, ?_, fun t2 nt2 => ?_⟩
  · simp only [List.length_append, List.length_cons, List.length_map,
      List.length_take]
    exact sz (by simp; omega)
  rw [← List.map_append]
  have z2 := sameNew (o := .lst ((ls.take (ls.idxOf l) ++ (ps ++ [m])).map vS))
    nt2
  have g2 : (upd H5 t2 (.lst ((ls.take (ls.idxOf l) ++ (ps ++ [m])).map vS))) t2
    = some (.lst ((ls.take (ls.idxOf l) ++ (ps ++ [m])).map vS)) := upd_same
  generalize upd H5 t2 (.lst ((ls.take (ls.idxOf l) ++ (ps ++ [m])).map vS)) = H6
    at z2 g2 ⊢
  have hE6 := z2 _ _ (z1 _ _ hE)
  refine ⟨_, rfl, t2, D2, _, _, rfl, rfl, g2, hE6, ?_, fun t3 nt3 => ?_⟩
  · simp only [List.length_append, List.length_cons, List.length_map,
      List.length_take]
    exact sz (by simp; omega)
  rw [← List.map_append]
  generalize hw : ls.take (ls.idxOf l) ++ (ps ++ [m]) ++ (l :: oth ls l m ps) = ww
  have lw : ww.length ≤ 200 := by
    rw [← hw]
    simp only [List.length_append, List.length_cons, List.length_take,
      List.length_nil]
    omega
  have z3 := sameNew (o := .lst (ww.map vS)) nt3
  have g3 : (upd H6 t3 (.lst (ww.map vS))) t3 = some (.lst (ww.map vS)) :=
    upd_same
  generalize upd H6 t3 (.lst (ww.map vS)) = H7 at z3 g3 ⊢
  have z47 := (z1.trans z2).trans z3
  have hP7 := SqL.of (K := K) (z47 _ _ (s14 _ _ hp))
  refine ⟨_, rfl, _, rfl, _, _, rfl, rfl, ((ls.idxOf m + 1 : Nat) : Int), rfl, p,
    _, rfl, hP7, fun t4 nt4 => ?_⟩
  rw [cut_from _ (by rw [List.length_map]; omega), ← List.map_drop]
  have z4 := sameNew (o := .lst ((ls.drop (ls.idxOf m + 1)).map vS)) nt4
  replace g3 := z4 _ _ g3
  have g4 : (upd H7 t4 (.lst ((ls.drop (ls.idxOf m + 1)).map vS))) t4 =
    some (.lst ((ls.drop (ls.idxOf m + 1)).map vS)) := upd_same
  generalize upd H7 t4 (.lst ((ls.drop (ls.idxOf m + 1)).map vS)) = H8
    at z4 g3 g4 ⊢
  refine ⟨t3, t4, _, _, rfl, rfl, g3, g4, ?_, fun t5 nt5 => ?_⟩
  · simp only [List.length_append, List.length_map, List.length_drop]
    exact sz (by omega)
  have sAll := s14.trans (z47.trans z4)
  refine q t5 _ (sAll.free nt5) ?_ (sAll.trans (sameNew nt5))
  rw [upd_same, ← List.map_append, ← hw]
  have e5 : ls.take (ls.idxOf l) ++ (ps ++ [m]) ++ (l :: oth ls l m ps) ++
      ls.drop (ls.idxOf m + 1) = ao ls l m ps := by
    unfold ao aoL aoR
    simp only [List.append_assoc, List.cons_append, List.nil_append]
  rw [e5]
end
end OM
namespace OM
open PySem PySem.Spec PyProof.Rows L2
def spSome : Sp := fun vs H Q _ =>
  ∃ (p a : Addr) (ls : Nms), vs = [.ref p, .ref a] ∧ Rng H p ∧
  H a = some (.lst (ls.map vS)) ∧ a ≠ p ∧ Good ls ∧ 2 ≤ ls.length ∧
  ∀ t l m ps H', H t = none → ArcAt H' t l m ps → Arc ls l m ps → Rng H' p →
    But p H H' → Q (.ref t) H'
section
variable {P : Program} {w : World} {K : PySem.W.Frag}
  {mg : Str → Option Value} {base : Heap} {C : Addr}
theorem ok_some {f : Addr} {fd : FuncData} {k : Nat}
    (F : Fun K "_law_some_arc" "_law_some_arc" s_Lsome_arc f fd)
    (B : Bl mg) (bT : mg "tuple" = none) (Cd : CalDraw P w K mg base k) :
    FnOk P w K mg base CX0 (k + 1) f fd ["_law_rng_here", "_law_items"]
      spSome := by
  refine F.ok sc_Lsome_arc (fun vs H Q E h => ?_)
    (fun cv A outer s H vs Q E hr h => ?_)
  · obtain ⟨p, a, ls, rfl, _⟩ := h
    rfl
  obtain ⟨p, a, ls, rfl, rg, ha, nap, go, two, q⟩ := h
  have nd := sc_Lsome_arc.nd
  refine ⟨_, pss_cons (ps_set (i := 2) nd rfl (.inl rfl)
      (pe_cal Cd hr (pa_cons (pv 0) (pa_cons (pe_op op_sub
        (pe_callB call_len_seq (by rfl) B.len PySem.boot_len
          (pa_cons (pv 1) pa_nil)) pe_int) pa_nil))))
    (pss_cons (ps_set (i := 3) nd rfl (.inl rfl)
      (pe_op op_add (pe_op op_add (pv 2) pe_int)
      (pe_cal Cd hr (pa_cons (pv 0) (pa_cons (pe_op op_sub (pe_op op_sub
        (pe_callB call_len_seq (by rfl) B.len PySem.boot_len
          (pa_cons (pv 1) pa_nil)) (pv 2)) pe_int) pa_nil)))))
    (pss_cons (ps_setLc (i := 4) (own := [("_law_item", 5)]) (g := gName 5) rfl
        nd rfl rfl rfl
        (pi_list (pe_slice sl_list (pv 1) (po_some (pe_op op_add (pv 2)
          pe_int)) (po_some (pv 3))))
        (blkOk_by (N := N_Lsome_arc) (sc := defScope s_Lsome_arc)
          (by decide +kernel))
        (fun _ _ _ _ _ => pg_name (i := 5) nd rfl (Or.inl rfl))
        (fun _ _ _ _ _ => pts_one (pt_cmpR op_eq (pe_cal Cd hr (pa_cons (pv 0)
          (pa_cons pe_int pa_nil))) pe_int (nomark _)))
        (fun _ _ _ _ _ => pv 5))
    (pss_one (ps_ret (pe_tup (pa_cons (pe_ix ix_list (pv 1) (pv 2)
        (fun _ _ => rfl)) (pa_cons (pe_ix ix_list (pv 1) (pv 3)
        (fun _ _ => rfl)) (pa_cons (pe_tupleOf (by rfl) bT (pv 4))
        pa_nil)))))))), ?_⟩
  have hhi := go.hi
  refine ⟨_, rfl, _, rfl, a, _, rfl, .inl (SqL.of ha), _, _, rfl, rfl, p,
    ((ls.length : Nat) : Int) - 1, ?_, rg, by omega, by omega,
    fun d H1 d0 d1 rg1 b1 => ?_⟩
  · rw [List.length_map]
    rfl
  obtain ⟨i, rfl⟩ : ∃ i : Nat, d = (i : Int) := ⟨d.toNat, by omega⟩
  have a1 := b1 _ _ ha nap
  refine ⟨_, rfl, _, _, rfl, rfl, _, rfl, _, rfl, a, _, rfl, .inl (SqL.of a1), _,
    rfl, _, _, rfl, rfl, _, _, rfl, rfl, p,
    ((ls.length : Nat) : Int) - (i : Int) - 1, ?_, rg1, by omega, by omega,
    fun e H2 e0 e1 rg2 b2 => ?_⟩
  · rw [List.length_map]
    rfl
  obtain ⟨j, rfl⟩ : ∃ j : Nat, e = (j : Int) := ⟨e.toNat, by omega⟩
  have a2 := b2 _ _ a1 nap
  have b12 := b1.trans b2
  obtain ⟨l, hl⟩ : ∃ l, ls[i]? = some l :=
    ⟨_, List.getElem?_eq_getElem (by omega)⟩
  obtain ⟨m, hm⟩ : ∃ m, ls[i + 1 + j]? = some m :=
    ⟨_, List.getElem?_eq_getElem (by omega)⟩
  have il := idx_at go.nd hl
  have im := idx_at go.nd hm
  refine ⟨_, _, rfl, rfl, ?_⟩
  refine ⟨_, rfl, _, rfl, _, _, rfl, rfl, ((i + 1 : Nat) : Int), rfl, _, rfl,
    ((i + 1 + j : Nat) : Int), rfl, a, _, rfl, SqL.of a2, fun b nb => ?_⟩
  have eb := cut_mid (ls.map vS) (a := i + 1) (b := i + 1 + j)
    (by rw [List.length_map]; omega) (by rw [List.length_map]; omega)
  rw [← List.map_drop, ← List.map_take,
    show (ls.drop (i + 1)).take (i + 1 + j - (i + 1)) = btw ls l m by
      unfold btw; rw [il, im]] at eb
  rw [eb]
  have lb : (btw ls l m).length ≤ 40 := by
    have := (btw_sub (ls := ls) (l := l) (m := m)).length_le
    omega
  have nbp : b ≠ p := (rg2.ne nb).symm
  have s3 := sameNew (o := .lst ((btw ls l m).map vS)) nb
  have hb : (upd H2 b (.lst ((btw ls l m).map vS))) b =
    some (.lst ((btw ls l m).map vS)) := upd_same
  have b3 := b12.new (o := .lst ((btw ls l m).map vS)) (b12.free nbp nb)
  have rg3 := rg2.same s3
  generalize upd H2 b (.lst ((btw ls l m).map vS)) = H3 at s3 hb b3 rg3 ⊢
  refine ⟨b, rfl, ⟨_, SqL.of hb⟩, fun D nD => ?_⟩
  have nDp : D ≠ p := (rg3.ne nD).symm
  refine lc_it (walk_list (K := K) (a := b) (xs := (btw ls l m).map vS))
    (fun x H' => ∃ ac, ac.Sublist ((btw ls l m).take x) ∧
      H' D = some (.lst (ac.map vS)) ∧ Rng H' p ∧ But p H3 H')
    ⟨[], List.nil_sublist _, upd_same, rg3.same (sameNew nD),
      (But.refl H3).new nD⟩
    (fun x H' _ z => by
      obtain ⟨_, _, _, _, z⟩ := z; exact SqL.of (z _ _ hb nbp)) ?_ ?_
  · rintro x v H4 H5 hx ⟨ac, sb, hD, rg4, b4⟩ ⟨rfl, ev⟩
    obtain ⟨y, hy, rfl⟩ := get_map ev
    rw [List.length_map] at hx
    have et := take_snoc hy
    have sl := sb.length_le
    rw [List.length_take] at sl
    refine ⟨rfl, _, rfl, p, 2, rfl, rg4, by omega, by omega,
      fun d H6 d0 d1 rg6 b6 => ⟨rfl, _, rfl, ite2 (fun z => ?_)
        (fun z => ?_)⟩⟩
    · refine ⟨_, rfl, _, b6 _ _ hD nDp, ?_, ac ++ [y], ?_, ?_, ?_, ?_⟩
      · rw [List.length_map]
        exact sz' (by omega)
      · rw [et]
        exact sb.append (List.Sublist.refl _)
      · rw [upd_same, List.map_append]
        rfl
      · exact rg6.but (But.at (p := D) (But.refl H6)) nDp.symm
      · exact (b4.trans b6).new nD
    · refine ⟨ac, ?_, b6 _ _ hD nDp, rg6, b4.trans b6⟩
      rw [et]
      exact sb.trans (List.sublist_append_left _ _)
  rintro H4 ⟨ps, sb, hD, rg4, b4⟩
  rw [List.length_map, List.take_length] at sb
  have a4 := b4 _ _ (s3 _ _ a2) nap
  refine ⟨_, rfl, _, rfl, a, _, _, vS l, rfl, rfl, SqL.of a4, atI_nat (j := i)
    (by rw [List.getElem?_map, hl]; rfl), _, rfl, _, rfl, a, _,
    ((i + 1 + j : Nat) : Int), vS m, rfl, rfl, SqL.of a4, atI_nat
    (by rw [List.getElem?_map, hm]; rfl), _, rfl, .inl ⟨D, _, rfl, SqL.of hD,
    fun u nu => ⟨three_l, fun t nt => ?_⟩⟩⟩
  have z1 := sameNew (o := .tup (ps.map vS)) nu
  have hu1 : (upd H4 u (.tup (ps.map vS))) u = some (.tup (ps.map vS)) :=
    upd_same
  generalize upd H4 u (.tup (ps.map vS)) = H5 at z1 hu1 nt ⊢
  have z2 := sameNew (o := .tup [vS l, vS m, .ref u]) nt
  have ht2 : (upd H5 t (.tup [vS l, vS m, .ref u])) t =
    some (.tup [vS l, vS m, .ref u]) := upd_same
  have rg5 := rg4.same z1
  have ntp : t ≠ p := (rg5.ne nt).symm
  have b05 := (b3.trans b4).trans (But.of (p := p) z1)
  have b06 := b05.trans (But.of (p := p) z2)
  have nt0 := b05.free ntp nt
  generalize upd H5 t (.tup [vS l, vS m, .ref u]) = H6 at z2 ht2 b06 ⊢
  exact q t l m ps H6 nt0 ⟨u, ht2, z2 _ _ hu1⟩
    ⟨List.mem_of_getElem? hl, List.mem_of_getElem? hm, by omega, sb⟩
    (rg5.same z2) b06
end
end OM
namespace OM
open PySem PySem.Spec PyProof.Rows L2
abbrev dA (l m : List Nat) (ps : Nms) : PyData :=
  .tuple [.str (SX.S l), .str (SX.S m), .tuple (dN ps)]
theorem dp_A {K : PySem.W.Frag} {H : Hp} {t : Addr} {l m : List Nat} {ps : Nms}
    (a : ArcAt H t l m ps) : Dp K H (.ref t) (dA l m ps) := by
  obtain ⟨u, h1, h2⟩ := a.ob
  exact .tup (SqT.of h1) (.cons (.str _) (.cons (.str _) (.cons
    (.tup (SqT.of h2) (dpAll_N ps)) .nil)))
theorem dp_A1 {K : PySem.W.Frag} {H : Hp} {q t : Addr} {l m : List Nat}
    {ps : Nms} (h : H q = some (.lst [.ref t])) (a : ArcAt H t l m ps) :
    Dp K H (.ref q) (.list [dA l m ps]) :=
  .lst (SqL.of h) (.cons (dp_A a) .nil)
theorem showable_A (l m : List Nat) (ps : Nms) :
    (PyData.list [dA l m ps]).showable = true := by
  simp only [PyData.showable, PyData.showableAll, showable_N, Bool.and_self]
theorem depth_A (l m : List Nat) (ps : Nms) :
    (PyData.list [dA l m ps]).depth ≤ 4 := by
  simp only [PyData.depth, PyData.depthAll]
  have := depth_N ps
  omega
theorem shown_A {ls : Nms} {l m : List Nat} {ps : Nms} (go : Good ls)
    (a : Arc ls l m ps) : (PyData.list [dA l m ps]).shown.length ≤ sizeLine := by
  have hl := go.nm l a.hl
  have hm := go.nm m a.hm
  have hhi := go.hi
  have hp : ∀ x ∈ ps, x.length ≤ 8 ∧ ∀ c ∈ x, c < 1114112 := fun x hx =>
    have := go.nm x (btw_sub.subset (a.sub.subset hx))
    ⟨this.hi, this.uni⟩
  have lps : ps.length ≤ 40 := by
    have h1 := a.sub.length_le
    have h2 := (btw_sub (ls := ls) (l := l) (m := m)).length_le
    omega
  have p := piled_N ps 8 hp
  have e : (PyData.list [dA l m ps]).shown = listText [tupleText
      [reprText (SX.S l), reprText (SX.S m),
        tupleText (PyData.shownAll (dN ps))]] := by
    simp only [PyData.shown, PyData.shownAll]
  rw [e]
  have q := listText_len_le [tupleText [reprText (SX.S l), reprText (SX.S m),
    tupleText (PyData.shownAll (dN ps))]]
  have t1 := fmt_text [reprText (SX.S l), reprText (SX.S m),
    tupleText (PyData.shownAll (dN ps))]
  have t2 := fmt_text (PyData.shownAll (dN ps))
  rw [piled_cons, piled_cons, piled_cons, piled_nil] at t1
  have a1 := StrLaws.reprText_len (SX.S l) (fun c hc => Nat.lt_of_lt_of_le
    (hl.uni c hc) (by decide))
  have b1 := StrLaws.reprText_len (SX.S m) (fun c hc => Nat.lt_of_lt_of_le
    (hm.uni c hc) (by decide))
  have c1 : (SX.S l).length = l.length := SX.S_len _
  have d1 : (SX.S m).length = m.length := SX.S_len _
  rw [c1] at a1
  rw [d1] at b1
  have l8 := hl.hi
  have m8 := hm.hi
  rw [List.map_cons, List.map_nil, List.sum_cons, List.sum_nil,
    List.length_singleton] at q
  refine Nat.le_trans (show _ ≤ 100000 by omega) (by decide)
theorem Knows.merge : ∀ {es : List En3} {qs ps : List Pr}
    {kvs : List (List Key × V)}, Knows kvs ps →
    es.map (·.1) = qs.map kk → Knows (mergeT kvs es) (ps ++ qs)
  | [], [], ps, kvs, h, _ => by
    rw [List.append_nil]
    exact h
  | [], q :: qs, _, _, _, e => by cases e
  | e :: es, [], _, _, _, h => by cases h
  | e :: es, q :: qs, ps, kvs, h, eq => by
    rw [List.map_cons, List.map_cons] at eq
    obtain ⟨e1, e2⟩ := List.cons.inj eq
    have h2 := h.put q e.2.2
    have := Knows.merge h2 e2
    rw [List.append_assoc] at this
    show Knows (mergeT (putK kvs e.1 e.2.2) es) (ps ++ q :: qs)
    rw [e1]
    exact this
theorem bool_repr (b : Bool) : (PyData.bool b).showable = true ∧
    (PyData.bool b).depth ≤ 60 ∧ (PyData.bool b).shown.length ≤ sizeLine := by
  cases b <;> refine ⟨by simp [PyData.showable], by simp [PyData.depth], ?_⟩ <;>
    (simp only [PyData.shown]; decide)
end OM
namespace OM
open PySem PySem.Spec PyProof.Rows L2
def spRight (C : Addr) : Sp := fun vs H Q _ =>
  ∃ (b it t a : Addr) (ls os ps : Nms) (l m : List Nat),
  vs = [.ref b, .ref it, .ref t, .ref a] ∧ Ord C H b a ls os ∧
  H it = some (.lst (ls.map vS)) ∧ ArcAt H t l m ps ∧ Arc ls l m ps ∧
  ∀ H', Same H H' → Q (.bl true) H'
theorem one_l {a : V} : [a].length ≤ sizeLine := by
  show 1 ≤ sizeLine
  decide
section
variable {P : Program} {w : World} {K : PySem.W.Frag}
  {mg : Str → Option Value} {base : Heap} {C : Addr}
theorem ok_right {f : Addr} {fd : FuncData} {k : Nat}
    (F : Fun K "_law_arc_right" "_law_arc_right" s_Larc_right f fd)
    (B : Bl mg) (B2 : Bl2 mg)
    (Cl : Cal P w K mg base k "_law_inverted" ["_law_items", "_law_order"]
      spLInv)
    (Co : Cal P w K mg base k "_law_arc_order" ["_law_items", "_law_arc"]
      spLOrd)
    (Cq : Cal P w K mg base k "order_of_arc" ["base", "arc"] (spOrdArc C))
    (Ca : Cal P w K mg base k "arcs_of" ["base", "order"] (spArcsOf C))
    (Cw : Cal P w K mg base k "is_arc_within" ["base", "arc", "order"]
      (spArcIn C)) :
    FnG P w K mg base CX0 (k + 1) f fd ["_law_base", "_law_items", "_law_arc",
      "_law_order"] (spRight C) := by
  refine okG F sc_Larc_right (fun vs H Q E h => ?_)
    (fun cv A outer s H vs Q E hr gd h => ?_)
  · obtain ⟨b, it, t, a, ls, os, ps, l, m, rfl, _⟩ := h
    rfl
  obtain ⟨b, it, t, a, ls, os, ps, l, m, rfl, o, hi, at_, ar, q⟩ := h
  have nd := sc_Larc_right.nd
  have hu := hu_of hr
  have hu2 := Nat.lt_of_le_of_lt (Nat.add_le_add_left (by decide : 2 ≤ 64) _)
    hr.units
  refine ⟨_, pss_cons (ps_par (i := 4) (j := 5) (by rfl) nd rfl rfl
      (by decide) rfl rfl
      (pa_cons (pe_cal Co hr (pa_cons (pv 1) (pa_cons (pv 2) pa_nil)))
        (pa_cons (pe_callTy call_list_of (by rfl) B.list bt_list
          (pa_cons (pv 3) pa_nil)) pa_nil)) (by rfl))
    (pss_cons (ps_set (i := 6) nd rfl (.inl rfl)
      (pe_cal Cq hr (pa_cons (pv 0) (pa_cons (pv 2) pa_nil))))
    (pss_cons (ps_if (PW.pt (pw_or (pt_cmpR op_ne
          (pe_callB (call_reprD hr gd) (by rfl) B.repr bt_repr
            (pa_cons (pv 6) pa_nil))
          (pe_callB (call_reprD hr gd) (by rfl) B.repr bt_repr
            (pa_cons (pv 4) pa_nil)) (nomark _))
        (pw_or1 (pt_cmpR op_ne
          (pe_callB (call_reprD hr gd) (by rfl) B.repr bt_repr
            (pa_cons (pe_cal Ca hr (pa_cons (pv 0) (pa_cons (pv 6) pa_nil)))
              pa_nil))
          (pe_callB (call_reprD hr gd) (by rfl) B.repr bt_repr
            (pa_cons (pe_lst (pa_cons (pv 2) pa_nil)) pa_nil)) (nomark _)))))
      (pss_one ps_never) pss_nil)
    (pss_cons (ps_expr (pe_bm0 PySem.F.plainAttrs_list
        PySem.F.slot_list_reverse PySem.F.type_list_reverse mt_reverse
        (pv 6)))
    (pss_cons (ps_set (i := 7) nd rfl (.inr rfl)
      (pe_callTy (call_dictT rfl hu2)
        (by rfl) B2.dict bt_dict (pa_cons
        (pe_lc (own := [("_law_pair", 8)]) (g := gName 8) (tt := tYes) rfl nd
          (pi_list (pe_cal Cl hr (pa_cons (pv 1) (pa_cons (pv 3) pa_nil))))
          (blkOk_by (N := N_Larc_right) (sc := defScope s_Larc_right)
            (by decide +kernel))
          (fun _ _ _ _ _ => pg_name (i := 8) nd rfl (Or.inl rfl))
          (fun _ _ _ _ _ => pts_nil)
          (fun _ _ _ _ _ => pe_tup (pa_cons (pv 8) (pa_cons pe_bl pa_nil))))
        pa_nil)))
    (pss_cons (ps_set (i := 9) nd rfl (.inl rfl)
      (pe_callB (cr_all rfl) (by rfl) B.all bt_all (pa_cons
        (pe_lc (own := [("_law_pair", 8)]) (g := gName 8) (tt := tYes) rfl nd
          (pi_list (pe_cal Cl hr (pa_cons (pv 1) (pa_cons (pv 4) pa_nil))))
          (blkOk_by (N := N_Larc_right) (sc := defScope s_Larc_right)
            (by decide +kernel))
          (fun _ _ _ _ _ => pg_name (i := 8) nd rfl (Or.inl rfl))
          (fun _ _ _ _ _ => pts_nil)
          (fun _ _ _ _ _ => pe_cmp (pc_din hu (pv 8) (pv 7)) rfl)) pa_nil)))
    (pss_cons (ps_if (PW.pt (pw_or (pt_cmpR op_ne
          (pe_callB (call_reprD hr gd) (by rfl) B.repr bt_repr
            (pa_cons (pe_cal Cw hr (pa_cons (pv 0) (pa_cons (pv 2) (pa_cons
              (pv 3) pa_nil)))) pa_nil))
          (pe_callB (call_reprD hr gd) (by rfl) B.repr bt_repr
            (pa_cons (pv 9) pa_nil)) (nomark _))
        (pw_or1 (pt_cmpR (op_neD hr.units) (pv 3) (pv 5) (nomark _)))))
      (pss_one ps_never) pss_nil)
    (pss_one (ps_ret (pe_and
      (pe_cmpR op_in_seq (pv 9) (pe_lst (pa_cons pe_bl (pa_cons
        (pe_cmp (pc_din hu (pe_tup (pa_cons
          (pe_ix ix_tup (pv 2) pe_int (fun _ _ => rfl))
          (pa_cons (pe_ix ix_tup (pv 2) pe_int (fun _ _ => rfl)) pa_nil)))
          (pv 7)) rfl) pa_nil))) (by rfl))
      (pe_one (pe_cmpR (op_eqD hr.units)
        (pe_cal Cq hr (pa_cons (pv 0) (pa_cons (pv 2) pa_nil))) (pv 4)
        (nomark _)))))))))))), ?_⟩
  have go := o.good
  have pa := ar.perm go.nd
  have ga : Good (ao ls l m ps) := go.perm pa
  have gos : Good os := go.perm o.pm
  have hhi := go.hi
  refine ⟨_, rfl, _, rfl, it, t, ls, ps, l, m, rfl, hi, go, at_, ar,
    fun du H1 ndu hdu s1 => ?_⟩
  refine ⟨_, rfl, a, _, rfl, .inl (SqL.of (s1 _ _ o.li)), fun kp nk =>
    ⟨_, _, rfl, ?_⟩⟩
  have s2 := s1.trans (sameNew (o := .lst (os.map vS)) nk)
  have hdu2 := sameNew (o := .lst (os.map vS)) nk _ _ hdu
  have hk : (upd H1 kp (.lst (os.map vS))) kp = some (.lst (os.map vS)) :=
    upd_same
  generalize upd H1 kp (.lst (os.map vS)) = H2 at s2 hdu2 hk ⊢
  refine ⟨_, rfl, _, rfl, b, t, ls, ps, l, m, rfl, o.ba.same s2, go,
    at_.same s2, ar, fun td H3 ntd htd s3 => ?_⟩
  have s23 := s2.trans s3
  have dN1 : ∀ {H' : Hp} {x : Addr},
      H' x = some (.lst ((ao ls l m ps).map vS)) →
      Dp K H' (.ref x) (.list (dN (ao ls l m ps))) := fun h => dp_N (SqL.of h)
  refine ⟨_, rfl, _, _, rfl, dN1 htd, showable_L _,
    Nat.le_trans (depth_L _) (by decide), ga.shown, _, rfl, _, _, rfl,
    dN1 (s3 _ _ hdu2), showable_L _, Nat.le_trans (depth_L _) (by decide),
    ga.shown, rfl, _, rfl, ne_no ?_⟩
  refine ⟨_, rfl, _, rfl, b, td, ls, ps, l, m, rfl, o.ba.same s23, go, htd, ar,
    fun q4 t4 H4 n4 h4 a4 s4 => ?_⟩
  refine ⟨_, _, rfl, dp_A1 h4 a4, showable_A _ _ _, Nat.le_trans
    (depth_A _ _ _) (by decide), shown_A go ar, _, rfl, one_l,
    fun q5 n5 => ?_⟩
  have s24 := s23.trans s4
  have htd4 := s4 _ _ htd
  have at5 := (at_.same s24).same (sameNew (o := .lst [.ref t]) n5)
  have h5 : (upd H4 q5 (.lst [.ref t])) q5 = some (.lst [.ref t]) := upd_same
  have htd5 := sameNew (o := .lst [.ref t]) n5 _ _ htd4
  have s25 := (s3.trans s4).trans (sameNew (o := .lst [.ref t]) n5)
  generalize upd H4 q5 (.lst [.ref t]) = H5 at at5 h5 htd5 s25 ⊢
  refine ⟨_, _, rfl, dp_A1 h5 at5, showable_A _ _ _, Nat.le_trans
    (depth_A _ _ _) (by decide), shown_A go ar, ?_⟩
  generalize (PyData.list [dA l m ps]).shown = tx
  refine ⟨rfl, _, rfl, ne_no ?_⟩
  refine ⟨_, rfl, .inl ⟨rfl, _, SqL.of htd5⟩, td, _, rfl, rfl, htd5, ?_⟩
  have s26 : Same H2 (upd H5 td (.lst ((ao ls l m ps).map vS).reverse)) :=
    OM.Same.put s25 ntd
  generalize upd H5 td (.lst ((ao ls l m ps).map vS).reverse) = H6 at s26 ⊢
  have s6 := s2.trans s26
  -- the known pairs
  refine ⟨_, rfl, _, rfl, it, a, ls, os, rfl, s6 _ _ hi, s6 _ _ o.li, go, o.pm,
    fun D1 rs1 H7 n7 h7 p7 s7 => ⟨D1, rfl, ⟨_, SqL.of h7⟩, fun D nD => ?_⟩⟩
  have m1 := go.many os (Nat.le_refl _)
  have m2 := go.many (ao ls l m ps) (Nat.le_refl _)
  have l7 := p7.len
  refine lc_it (walk_list (K := K) (a := D1) (xs := rs1.map V.ref))
    (fun i H' => ∃ (es : List En3) (rs : List Addr),
      H' D = some (.lst (rs.map V.ref)) ∧ Paired (En3At H') rs es ∧
      es.map (·.1) = ((invAll ls os).take i).map kk ∧ rs.length = es.length ∧
      Same H7 H')
    ⟨[], [], upd_same, .nil, rfl, rfl, sameNew nD⟩ (fun i H' _ z => by
      obtain ⟨_, _, _, _, _, _, s⟩ := z; exact SqL.of (s _ _ h7)) ?_ ?_
  · rintro i v H8 H9 hi' ⟨es, rs, hD, pr, ek, el, s8⟩ ⟨rfl, ev⟩
    obtain ⟨r, hr', rfl⟩ := ref_get ev
    obtain ⟨p, hp, hrp⟩ := p7.get hr'
    have bnd : (invAll ls os).length ≤ 1600 := m1
    have hes : es.length ≤ 1600 := by
      have := congrArg List.length ek
      rw [List.length_map, List.length_map, List.length_take] at this
      omega
    refine ⟨rfl, yes ⟨_, rfl, two_l, fun x nx => ?_⟩⟩
    have z1 := sameNew (o := .tup [.ref r, .bl true]) nx
    have hx : (upd H9 x (.tup [.ref r, .bl true])) x =
      some (.tup [.ref r, .bl true]) := upd_same
    have hD' := z1 _ _ hD
    have s8' := s8.trans z1
    have hr8 := s8' _ _ hrp
    have pr' : Paired (En3At (upd H9 x (.tup [.ref r, .bl true]))) rs es :=
      Paired.mono (fun _ _ y => ⟨z1 _ _ y.1, z1 _ _ y.2⟩) pr
    generalize upd H9 x (.tup [.ref r, .bl true]) = H10 at z1 hx hD' s8' hr8 pr' ⊢
    refine ⟨_, hD', ?_, es ++ [(kk p, r, .bl true)], rs ++ [x], ?_, ?_, ?_, ?_,
      OM.Same.put s8' nD⟩
    · rw [List.length_map]
      exact sz' (by omega)
    · rw [upd_same, List.map_append]
      rfl
    · refine Paired.snoc (Paired.mono (fun _ _ y => ?_) pr') ?_
      · exact ⟨by rw [upd_ne (ne_of y.1 hD' nofun)]; exact y.1,
          by rw [upd_ne (ne_of y.2 hD' nofun)]; exact y.2⟩
      · exact ⟨by rw [upd_ne (ne_of hx hD' nofun)]; exact hx,
          by rw [upd_ne (ne_of hr8 hD' nofun)]; exact hr8⟩
    · rw [List.map_append, ek, take_snoc hp, List.map_append]
      rfl
    · rw [List.length_append, List.length_append, el]
      rfl
  rintro H8 ⟨es, rs, hD, pr, ek, el, s8⟩
  rw [List.length_map, l7, List.take_length] at ek
  refine ⟨D, rs, es, rfl, SqL.of hD, pr, fun kn nkn => ?_⟩
  have know := Knows.merge Knows.nil ek
  rw [List.nil_append] at know
  have z9 := sameNew (o := .dT (mergeT [] es)) nkn
  have hkn : (upd H8 kn (.dT (mergeT [] es))) kn = some (.dT (mergeT [] es)) :=
    upd_same
  generalize upd H8 kn (.dT (mergeT [] es)) = H9 at z9 hkn ⊢
  generalize mergeT [] es = kvs at know hkn
  have s29 := ((s26.trans s7).trans s8).trans z9
  have s9 := s2.trans s29
  -- is it inside
  refine ⟨_, rfl, _, rfl, it, du, ls, _, rfl, s9 _ _ hi, s29 _ _ hdu2, go, pa,
    fun D2 rs2 H10 n10 h10 p10 s10 => ⟨D2, rfl, ⟨_, SqL.of h10⟩,
    fun D3 nD3 => ?_⟩⟩
  have l10 := p10.len
  have kn10 := s10 _ _ hkn
  refine lc_it (walk_list (K := K) (a := D2) (xs := rs2.map V.ref))
    (fun i H' => H' D3 = some (.lst ((((invAll ls (ao ls l m ps)).take i).map
      fun p => decide (p ∈ invAll ls os)).map V.bl)) ∧ Same H10 H')
    ⟨upd_same, sameNew nD3⟩ (fun i H' _ z => SqL.of (z.2 _ _ h10)) ?_ ?_
  · rintro i v H11 H12 hi' ⟨hD3, s11⟩ ⟨rfl, ev⟩
    obtain ⟨r, hr', rfl⟩ := ref_get ev
    obtain ⟨p, hp, hrp⟩ := p10.get hr'
    have bnd : (invAll ls (ao ls l m ps)).length ≤ 1600 := m2
    refine ⟨rfl, yes ⟨_, rfl, _, rfl, kn, _, rfl,
      DGet.t (k := kk p) (s11 _ _ kn10) (s11 _ _ hrp), ?_⟩⟩
    rw [know.val p]
    refine ⟨_, hD3, ?_, ?_, OM.Same.put s11 nD3⟩
    · rw [List.length_map, List.length_map, List.length_take]
      exact sz' (by omega)
    · rw [upd_same, take_snoc hp, List.map_append, List.map_append]
      rfl
  rintro H11 ⟨hD3, s11⟩
  rw [List.length_map, l10, List.take_length] at hD3
  refine ⟨D3, _, rfl, SqL.of hD3, ?_⟩
  have ei : ((invAll ls (ao ls l m ps)).map fun p =>
      decide (p ∈ invAll ls os)).all id =
      inB (invAll ls (ao ls l m ps)) (invAll ls os) := by
    rw [List.all_map]
    rfl
  rw [ei]
  have pin : inB (invAll ls (ao ls l m ps)) (invAll ls os) = true →
      (l, m) ∈ invAll ls os := fun z =>
    of_decide_eq_true (List.all_eq_true.mp z _ (ar.pair go.nd))
  generalize hx : inB (invAll ls (ao ls l m ps)) (invAll ls os) = x at pin ⊢
  have s12 := (s9.trans s10).trans s11
  refine ⟨_, rfl, _, rfl, _, rfl, b, t, a, ls, ps, os, l, m, rfl, at_.same s12, ar,
    o.same s12, fun H13 s13 => ?_⟩
  rw [hx]
  obtain ⟨w1, w2, w3⟩ := bool_repr x
  have s13' := s12.trans s13
  have o13 := o.same s13'
  refine ⟨_, _, rfl, .bl x, w1, w2, w3, _, rfl, _, _, rfl, .bl x, w1, w2, w3, ?_⟩
  generalize (PyData.bool x).shown = tx
  refine ⟨rfl, _, rfl, ne_no ?_⟩
  have hk13 := s13 _ _ (s11 _ _ (s10 _ _ (s29 _ _ hk)))
  refine ⟨_, rfl, _, rfl, _, _, dp_N (SqL.of o13.li), dp_N (SqL.of hk13),
    shaped_L gos.uni, shaped_L gos.uni, _, rfl, ?_⟩
  rw [eqv_L, decide_eq_true rfl]
  refine iteF ?_
  obtain ⟨u, ht, hu'⟩ := (at_.same s13').ob
  have kn13 := s13 _ _ (s11 _ _ kn10)
  refine ⟨_, rfl, _, rfl, t, _, 0, _, rfl, rfl, SqT.of ht, rfl, _, rfl, t, _, 1, _,
    rfl, rfl, SqT.of ht, rfl, two_l, fun y ny => ?_⟩
  have z14 := sameNew (o := .tup [vS l, vS m]) ny
  have hy : (upd H13 y (.tup [vS l, vS m])) y = some (.tup [vS l, vS m]) :=
    upd_same
  generalize upd H13 y (.tup [vS l, vS m]) = H14 at z14 hy ⊢
  refine ⟨_, rfl, kn, _, rfl, DGet.t (k := kk (l, m)) (z14 _ _ kn13) hy, two_l,
    fun y2 ny2 => ?_⟩
  rw [know.val (l, m)]
  refine ⟨y2, _, rfl, .inl (SqL.of upd_same), rfl, rfl, ?_⟩
  have inn : inV (V.bl x) [V.bl false, V.bl (decide ((l, m) ∈ invAll ls os))] =
      true := by
    cases x with
    | false => rfl
    | true => rw [decide_eq_true (pin rfl)]; rfl
  rw [if_neg (by decide), inn]
  have z15 := sameNew (o := .lst [V.bl false,
    V.bl (decide ((l, m) ∈ invAll ls os))]) ny2
  have s15 := (s13'.trans z14).trans z15
  have hdu15 := z15 _ _ (z14 _ _ (s13 _ _ (s11 _ _ (s10 _ _ (s29 _ _ hdu2)))))
  generalize upd H14 y2 (.lst [V.bl false,
    V.bl (decide ((l, m) ∈ invAll ls os))]) = H15 at z15 s15 hdu15 ⊢
  refine ⟨_, rfl, iteT ?_⟩
  refine ⟨_, rfl, _, rfl, b, t, ls, ps, l, m, rfl, o.ba.same s15, go,
    at_.same s15, ar, fun q16 H16 n16 h16 s16 => ?_⟩
  refine ⟨_, rfl, _, _, dN1 h16, dN1 (s16 _ _ hdu15), shaped_L ga.uni,
    shaped_L ga.uni, ?_⟩
  rw [eqv_L, decide_eq_true rfl]
  exact q H16 (s15.trans s16)
end
end OM
namespace OM
open PySem PySem.Spec PyProof.Rows L2
def spLaw (K : PySem.W.Frag) : Sp := fun vs H Q _ =>
  ∃ (a : Addr) (ns : List Int), vs = [.ref a] ∧ SqL K H a (ns.map V.int) ∧
  ns.length ≤ 63 ∧ ∀ H', Q (.bl true) H'
def unS : V → List Nat
  | .str x => x.cps.toList
  | _ => []
theorem perm_back {ys : List V} {ls : List (List Nat)}
    (h : ys.Perm (ls.map vS)) :
    ∃ os : List (List Nat), ys = os.map vS ∧ os.Perm ls := by
  refine ⟨ys.map unS, ?_, ?_⟩
  · rw [List.map_map]
    refine (List.map_id ys).symm.trans (List.map_congr_left fun y hy => ?_)
    obtain ⟨l, _, rfl⟩ := List.mem_map.mp (h.mem_iff.mp hy)
    rfl
  · have := h.map unS
    rw [List.map_map] at this
    have e : ls.map (unS ∘ vS) = ls := by
      refine (List.map_congr_left fun l _ => ?_).trans (List.map_id ls)
      rfl
    rw [e] at this
    exact this
theorem bl_no {x : Bool} {A B : Prop} (h : B) :
    if (!decide (x = x)) = true then A else B := iteNS rfl h
theorem at2 {α : Type} {P : α → Prop} {a b : α} {i : Int}
    (h0 : 0 ≤ i) (h1 : i < 2) (pa : P a) (pb : P b) :
    ∃ v, atI [a, b] i = some v ∧ P v := by
  have e : i = 0 ∨ i = 1 := by omega
  rcases e with rfl | rfl
  · exact ⟨a, rfl, pa⟩
  · exact ⟨b, rfl, pb⟩
theorem cut_len (xs : List V) (lo hi : Option Int) :
    (cutV xs lo hi).length ≤ xs.length := by
  unfold cutV
  rw [List.length_take, List.length_drop]
  omega
theorem ArcAt.but {H H' : Hp} {p t : Addr} {l m : List Nat} {ps : Nms}
    (a : ArcAt H t l m ps) (rg : Rng H p) (b : But p H H') :
    ArcAt H' t l m ps := by
  obtain ⟨u, h1, h2⟩ := a.ob
  obtain ⟨x, y, e, _⟩ := rg
  exact ⟨u, b _ _ h1 (ne_of h1 e nofun), b _ _ h2 (ne_of h2 e nofun)⟩
theorem refs_ne {H : Hp} {p a : Addr} {rs : List Addr} (rg : Rng H p)
    (h : H a = some (.lst (rs.map V.ref))) : a ≠ p := by
  obtain ⟨x, y, e, _⟩ := rg
  refine ne_of h e fun z => ?_
  have z := HO.lst.inj z
  cases rs with
  | nil => cases z
  | cons r rs => cases (List.cons.inj z).1
/-- arcs, all of them -/
def Arcs (H : Hp) (ls : Nms) (xs : List V) : Prop :=
  ∀ v ∈ xs, ∃ r l m ps, v = .ref r ∧ ArcAt H r l m ps ∧ Arc ls l m ps
theorem Arcs.same {H H' : Hp} {ls : Nms} {xs : List V} (a : Arcs H ls xs)
    (s : Same H H') : Arcs H' ls xs := fun v hv => by
  obtain ⟨r, l, m, ps, h1, h2, h3⟩ := a v hv
  exact ⟨r, l, m, ps, h1, h2.same s, h3⟩
theorem Arcs.but {H H' : Hp} {p : Addr} {ls : Nms} {xs : List V}
    (a : Arcs H ls xs) (rg : Rng H p) (b : But p H H') : Arcs H' ls xs :=
  fun v hv => by
    obtain ⟨r, l, m, ps, h1, h2, h3⟩ := a v hv
    exact ⟨r, l, m, ps, h1, h2.but rg b, h3⟩
theorem Arcs.cut {H : Hp} {ls : Nms} {xs : List V} (a : Arcs H ls xs)
    (lo hi : Option Int) : Arcs H ls (cutV xs lo hi) :=
  fun v hv => a v (cut_mem hv)
theorem Arcs.app {H : Hp} {ls : Nms} {xs ys : List V} (a : Arcs H ls xs)
    (b : Arcs H ls ys) : Arcs H ls (xs ++ ys) := fun v hv =>
  (List.mem_append.mp hv).elim (a v) (b v)
theorem Owns.arcs {H : Hp} {ls os : Nms} {rs : List Addr}
    (o : Owns H ls os rs) : Arcs H ls (rs.map V.ref) := fun v hv => by
  obtain ⟨r, hr, rfl⟩ := List.mem_map.mp hv
  obtain ⟨l, m, ps, h1, h2⟩ := o r hr
  exact ⟨r, l, m, ps, rfl, h1, h2.arc⟩
theorem Ord.but {C b a p : Addr} {H H' : Hp} {ls os : List (List Nat)}
    (x : Ord C H b a ls os) (r : Rng H p) (s : But p H H') :
    Ord C H' b a ls os :=
  ⟨x.ba.but r s, x.good, s _ _ x.li (neRng r x.li), x.pm⟩
theorem all_true (n : Nat) : (List.replicate n true).all id = true := by
  rw [List.all_eq_true]
  intro x hx
  rw [List.eq_of_mem_replicate hx]
  rfl
section
variable {P : Program} {w : World} {K : PySem.W.Frag}
  {mg : Str → Option Value} {base : Heap} {C : Addr}
theorem ok_law56 {f : Addr} {fd : FuncData} {k : Nat}
    (F : Fun K "law" "law" s_law f fd)
    (B : Bl mg) (T : BC K mg C)
    (Cr : Cal P w K mg base k "_law_rng" ["_law_script", "_law_k"] (spRng K))
    (Cd : CalDraw P w K mg base k)
    (Cn : Cal P w K mg base k "_law_names"
      ["_law_rng_here", "_law_many", "_law_used"] spNames)
    (Cs : Cal P w K mg base k "_law_shuffled"
      ["_law_rng_here", "_law_values"] (spShuf K))
    (Co : Cal P w K mg base k "_law_near_order"
      ["_law_rng_here", "_law_order", "_law_many"] (spNear K))
    (Ca : Cal P w K mg base k "_law_arcs" ["_law_items", "_law_order"] spLArcs)
    (Ce : Cal P w K mg base k "_law_some_arc"
      ["_law_rng_here", "_law_items"] spSome)
    (Cw : Cal P w K mg base k "is_arc_within" ["base", "arc", "order"]
      (spArcIn C))
    (Cq : CalG P w K mg base k "_law_arc_right" ["_law_base", "_law_items",
      "_law_arc", "_law_order"] (spRight C))
    (Cb : CalC P w K mg base C k "Base" ["self", "items"] (spInitOk C)) :
    FnG P w K mg base CX0 (k + 2) f fd ["_law_script"] (spLaw K) := by
  refine okG F sc_law (fun vs H Q E h => ?_)
    (fun cv A outer s H vs Q E hr1 gd h => ?_)
  · obtain ⟨a, ns, rfl, _⟩ := h
    rfl
  obtain ⟨a, ns, rfl, hS, hlen, q⟩ := h
  have nd := sc_law.nd
  have hr := hr1.mono (Nat.le_succ k)
  refine ⟨_, pss_cons (ps_for PassesOwn.never rfl
      (pi_range1 (by rfl) B.range (pa_cons
        (pe_callB (call_max2 rfl) (by rfl) B.max bt_max (pa_cons pe_int (pa_cons
          (pe_callB (call_min2 rfl) (by rfl) B.min bt_min (pa_cons pe_int
            (pa_cons (pe_callB call_len_seq (by rfl) B.len PySem.boot_len
              (pa_cons (pv 0) pa_nil)) pa_nil))) pa_nil)))
        pa_nil))
      (pg_name (i := 1) nd rfl (.inl rfl))
      (C8.pss_cut (ps_set (i := 2) nd rfl (.inr rfl)
        (pe_cal Cr hr (pa_cons (pv 0) (pa_cons (pv 1) pa_nil))))
      (C8.pss_cut (ps_par (i := 3) (j := 4) (by rfl) nd rfl rfl (by decide) rfl
        rfl (pa_cons (pe_ix ix_list (pe_lst (pa_cons pe_int (pa_cons pe_int
            pa_nil))) (pe_cal Cd hr (pa_cons (pv 2) (pa_cons pe_int pa_nil)))
            (fun _ _ => rfl))
          (pa_cons pe_int pa_nil)) (by rfl))
      (C8.pss_cut (ps_if (pt_cmpR op_lt (pe_cal Cd hr (pa_cons (pv 2) (pa_cons
          pe_int pa_nil))) pe_int (nomark _))
        (pss_one (ps_set (i := 4) nd rfl (.inl rfl) (pe_op op_add pe_int
          (pe_cal Cd hr (pa_cons (pv 2) (pa_cons (pv 3) pa_nil)))))) pss_nil)
      (C8.pss_cut (ps_set (i := 5) nd rfl (.inr rfl)
        (pe_cal Cn hr (pa_cons (pv 2) (pa_cons (pv 4)
          (pa_cons (pe_lst pa_nil) pa_nil)))))
      (C8.pss_cut (ps_set (i := 6) nd rfl (.inr rfl)
        (pe_calC Cb hr1 (pa_cons (pe_callTy call_list_of (by rfl) B.list bt_list
          (pa_cons (pv 5) pa_nil)) pa_nil)))
      (pss_one (ps_for PassesOwn.never rfl
        (pi_range1 (by rfl) B.range (pa_cons pe_int pa_nil))
        (pg_name (i := 7) nd rfl (.inl rfl))
        (C8.pss_cut (ps_set (i := 8) nd rfl (.inr rfl) (pe_ifExp
          (pt_cmpR op_eq (pe_cal Cd hr (pa_cons (pv 2) (pa_cons pe_int
            pa_nil))) pe_int (nomark _))
          (pe_cal Cs hr (pa_cons (pv 2) (pa_cons (pv 5) pa_nil)))
          (pe_cal Co hr (pa_cons (pv 2) (pa_cons (pv 5) (pa_cons pe_int
            pa_nil))))))
        (C8.pss_cut (ps_set (i := 9) nd rfl (.inl rfl)
          (pe_cal Ca hr (pa_cons (pv 5) (pa_cons (pv 8) pa_nil))))
        (C8.pss_cut (ps_for PassesOwn.never rfl
          (pi_list (pe_slice sl_list (pv 9) po_none (po_some pe_int)))
          (pg_name (i := 10) nd rfl (.inl rfl))
          (pss_one (ps_if (pt_cmpR op_notBl (pe_cal Cw hr (pa_cons (pv 6)
            (pa_cons (pv 10) (pa_cons (pv 8) pa_nil)))) pe_bl (nomark _))
            (pss_one ps_never) pss_nil)))
        (C8.pss_cut (ps_set (i := 11) nd rfl (.inl rfl)
          (pe_cal Ca hr (pa_cons (pv 5) (pa_cons
            (pe_cal Co hr (pa_cons (pv 2) (pa_cons (pv 8) (pa_cons pe_int
              pa_nil)))) pa_nil))))
        (C8.pss_cut (ps_set (i := 12) nd rfl (.inl rfl)
          (pe_op op_cat (pe_op op_cat
            (pe_slice sl_list (pv 9) (po_some (pe_un un_neg pe_int)) po_none)
            (pe_slice sl_list (pv 11) po_none (po_some pe_int)))
            (pe_lc (own := [("_law_turn_again", 13)]) (g := gName 13)
              (tt := tYes) rfl nd
              (pi_range1 (by rfl) B.range (pa_cons pe_int pa_nil))
              (blkOk_by (N := N_law) (sc := defScope s_law) (by decide +kernel))
              (fun _ _ _ _ _ => pg_name (i := 13) nd rfl (Or.inl rfl))
              (fun _ _ _ _ _ => pts_nil)
              (fun _ _ _ _ _ => pe_cal Ce hr (pa_cons (pv 2) (pa_cons (pv 5)
                pa_nil))))))
        (pss_one (ps_if (pt_not (pt_val (pe_callB (cr_all rfl) (by rfl) B.all
            bt_all (pa_cons (pe_lc (own := [("_law_arc", 10)]) (g := gName 10)
              (tt := tYes) rfl nd (pi_list (pv 12))
              (blkOk_by (N := N_law) (sc := defScope s_law) (by decide +kernel))
              (fun _ _ _ _ _ => pg_name (i := 10) nd rfl (Or.inl rfl))
              (fun _ _ _ _ _ => pts_nil)
              (fun _ _ _ _ _ => pe_calG Cq hr gd (pa_cons (pv 6)
                (pa_cons (pv 5) (pa_cons (pv 10) (pa_cons (pv 8) pa_nil))))))
              pa_nil)))) (pss_one ps_never) pss_nil)))))))))))))))
    (pss_one (ps_ret pe_bl)), ?_⟩
  -- how many cells
  refine ⟨_, rfl, a, _, rfl, .inl hS, _, _, rfl, _, _, rfl, _, rfl, ?_, ?_, ?_⟩
  · rw [List.length_map]
    split <;> split <;> omega
  · rw [List.length_map]
    split <;> split <;> omega
  generalize hn : (Int.toNat _) = n
  have n4 : n ≤ 1000 := by
    rw [← hn, List.length_map]
    split <;> split <;> omega
  clear hn
  refine for_range (lo := 0) (n := n) (fun i σ H' =>
      ∃ x1 x2 x3 x4 x5 x6 x7 x8 x9 y1 y2 y3 : Option V, σ = [some (.ref a), x1,
        x2, x3, x4, x5, x6, x7, x8, x9, y1, y2, y3, none] ∧ Same H H')
    ⟨none, none, none, none, none, none, none, none, none, none, none, none,
      rfl, Same.refl H⟩ ?_ (fun σ H' _ => q H')
  rintro i σ H0 hi ⟨x1, x2, x3, x4, x5, x6, x7, x8, x9, y1, y2, y3, rfl, s0⟩
  -- the drawing state
  refine ⟨fun σ' H' => ∃ p, σ' = [some (.ref a), some (.int i), some (.ref p),
    x3, x4, x5, x6, x7, x8, x9, y1, y2, y3, none] ∧ H0 p = none ∧ Rng H' p ∧
    Same H0 H', ?_, ?_⟩
  · refine ⟨_, rfl, _, rfl, a, ns, i, ?_, s0.seq hS, by omega,
      fun p H1 np rg s1 => ⟨p, ?_, np, rg, s1⟩⟩
    · rw [Int.zero_add]
      rfl
    · rw [Int.zero_add]
      rfl
  rintro _ H1 ⟨p, rfl, np, rg1, s1⟩
  have b1 : But p H0 H1 := But.of s1
  -- how many items at most
  refine ⟨fun σ' H' => ∃ mo : Nat, σ' = [some (.ref a), some (.int i),
    some (.ref p), some (.int mo), some (.int 40), x5, x6, x7, x8, x9, y1, y2,
    y3, none] ∧ 1 ≤ mo ∧ mo ≤ 14 ∧ Rng H' p ∧ But p H0 H', ?_, ?_⟩
  · refine ⟨two_l, fun t nt => ⟨_, rfl, p, 2, rfl, rg1.same (sameNew nt),
      by decide, by decide, fun d H2 d0 d1 rg2 b2 => ?_⟩⟩
    have ntp : t ≠ p := (rg1.ne nt).symm
    obtain ⟨v, hv, mo, rfl, m0, m1⟩ := at2 (a := V.int 5) (b := V.int 14)
      (P := fun v => ∃ m : Nat, v = .int m ∧ 1 ≤ m ∧ m ≤ 14) d0 d1
      ⟨5, rfl, by omega, by omega⟩ ⟨14, rfl, by omega, by omega⟩
    exact ⟨t, _, d, _, rfl, rfl, SqL.of (b2 t _ upd_same ntp), hv, _, _, rfl, mo,
      rfl, m0, m1, rg2, (b1.put nt ntp).trans b2⟩
  rintro _ H2 ⟨mo, rfl, m0, m1, rg2, b2⟩
  refine ⟨fun σ' H' => ∃ z : Nat, σ' = [some (.ref a), some (.int i),
    some (.ref p), some (.int mo), some (.int z), x5, x6, x7, x8, x9, y1, y2,
    y3, none] ∧ 2 ≤ z ∧ z ≤ 40 ∧ Rng H' p ∧ But p H0 H', ?_, ?_⟩
  · refine ⟨_, rfl, p, 8, rfl, rg2, by decide, by decide,
      fun d H3 d0 d1 rg3 b3 => ⟨_, _, rfl, rfl, _, rfl, ite2 (fun _ => ?_)
        (fun _ => ⟨40, rfl, by decide, by decide, rg3, b2.trans b3⟩)⟩⟩
    refine ⟨_, rfl, _, rfl, p, mo, rfl, rg3, by omega, by omega,
      fun e H4 e0 e1 rg4 b4 => ⟨_, _, rfl, rfl, (2 + e).toNat, ?_, by omega,
      by omega, rg4, (b2.trans b3).trans b4⟩⟩
    rw [Int.toNat_of_nonneg (by omega)]
    rfl
  clear b2 rg2
  rintro _ H3 ⟨z, rfl, z0, z1, rg3, b3⟩
  -- the items
  refine ⟨fun σ' H' => ∃ it ls, σ' = [some (.ref a), some (.int i),
    some (.ref p), some (.int mo), some (.int z), some (.ref it), x6, x7, x8, x9,
    y1, y2, y3, none] ∧ Good ls ∧ 2 ≤ ls.length ∧
    H' it = some (.lst (ls.map vS)) ∧ Rng H' p ∧ But p H0 H', ?_, ?_⟩
  · refine ⟨_, rfl, _, rfl, sz (by simp), fun u nu => ?_⟩
    have nup : u ≠ p := (rg3.ne nu).symm
    refine ⟨p, u, z, [], rfl, rg3.same (sameNew nu), upd_same, nup, by omega,
      by simp, fun it ls H5 nit hl nm ndl no hit rg5 b5 => ?_⟩
    exact ⟨it, ls, rfl, ⟨nm, ndl, by omega, by omega⟩, by omega, hit, rg5,
      (b3.put nu nup).trans b5⟩
  clear b3 rg3
  rintro _ H4 ⟨it, ls, rfl, good, two, hi4, rg4, b4⟩
  have l40 := good.hi
  -- the base
  refine ⟨fun σ' H' => ∃ b, σ' = [some (.ref a), some (.int i),
    some (.ref p), some (.int mo), some (.int z), some (.ref it), some (.ref b),
    x7, x8, x9, y1, y2, y3, none] ∧ BaseAt C H' b ls ∧ Same H4 H', ?_, ?_⟩
  · refine ⟨_, rfl, it, _, rfl, .inl (SqL.of hi4), fun c nc b dx nb nx ne => ?_⟩
    have hc : (upd H4 c (.lst (ls.map vS))) c = some (.lst (ls.map vS)) :=
      upd_same
    have s5 := sameNew (o := .lst (ls.map vS)) nc
    generalize upd H4 c (.lst (ls.map vS)) = H5 at hc s5 nb nx ne ⊢
    have nib := ne_of_none hc nb
    have nix := ne_of_none hc nx
    refine ⟨b, c, dx, ls, rfl, upd_same, ?_, good, fun H6 hB b6 =>
      ⟨rfl, b, rfl, hB, ?_⟩⟩
    · rw [upd_ne nib, upd_ne nix]
      exact hc
    · intro y o e
      have e5 := s5 _ _ e
      have ny := ne_of_none e5 nb
      refine b6 y o ?_ ny
      rw [upd_ne ny, upd_ne (ne_of_none e5 nx)]
      exact e5
  rintro _ H5 ⟨b, rfl, hB5, s5⟩
  have rg5 := rg4.same s5
  have hi5 := s5 _ _ hi4
  have b5 : But p H0 H5 := b4.trans (But.of s5)
  have nip := neRng rg5 hi5
  have hlx : (ls.map vS).length ≤ 1000 := by rw [List.length_map]; omega
  clear s5 rg4 hi4 b4
  -- the turns
  refine ⟨3, rfl, by decide, by decide, ?_⟩
  refine for_range (lo := 0) (n := 3) (fun j σ H' =>
      ∃ x7 x8 x9 y1 y2 y3 : Option V, σ = [some (.ref a), some (.int i),
        some (.ref p), some (.int mo), some (.int z), some (.ref it),
        some (.ref b), x7, x8, x9, y1, y2, y3, none] ∧ BaseAt C H' b ls ∧
        H' it = some (.lst (ls.map vS)) ∧ Rng H' p ∧ But p H0 H')
    ⟨x7, x8, x9, y1, y2, y3, rfl, hB5, hi5, rg5, b5⟩ ?_ ?_
  · clear hB5 hi5 rg5 b5
    clear x7 x8 x9 y1 y2 y3
    rintro j σ H5 hj ⟨x7, x8, x9, y1, y2, y3, rfl, hB5, hi5, rg5, b5⟩
    rw [Int.zero_add]
    -- an order
    refine ⟨fun σ' H' => ∃ od os, σ' = [some (.ref a), some (.int i),
      some (.ref p), some (.int mo), some (.int z), some (.ref it),
      some (.ref b), some (.int j), some (.ref od), x9, y1, y2, y3, none] ∧
      Ord C H' b od ls os ∧ H' it = some (.lst (ls.map vS)) ∧ Rng H' p ∧
      But p H0 H', ?_, ?_⟩
    · refine ⟨_, rfl, p, 2, rfl, rg5, by decide, by decide,
        fun d H6 d0 d1 rg6 b6 => ⟨rfl, _, rfl, ite2 (fun _ => ?_)
          (fun _ => ?_)⟩⟩
      · have hi6 := b6 _ _ hi5 nip
        refine ⟨_, rfl, _, rfl, p, it, _, rfl, rg6, SqL.of hi6, nip, hlx,
          fun o ys H7 n7 pm h7 rg7 b7 => ?_⟩
        obtain ⟨os, rfl, pn⟩ := perm_back pm
        exact ⟨o, os, rfl, ⟨(hB5.but rg5 b6).but rg6 b7, good, h7, pn⟩,
          b7 _ _ hi6 nip, rg7, (b5.trans b6).trans b7⟩
      · have hi6 := b6 _ _ hi5 nip
        refine ⟨_, rfl, _, rfl, p, it, 12, _, rfl, rg6, SqL.of hi6, nip, hlx,
          by decide, fun o ys H7 n7 pm h7 rg7 b7 => ?_⟩
        obtain ⟨os, rfl, pn⟩ := perm_back pm
        exact ⟨o, os, rfl, ⟨(hB5.but rg5 b6).but rg6 b7, good, h7, pn⟩,
          b7 _ _ hi6 nip, rg7, (b5.trans b6).trans b7⟩
    clear hB5 hi5 rg5 b5
    rintro _ H6 ⟨od, os, rfl, O6, hi6, rg6, b6⟩
    have lo := O6.pm.length_eq
    -- its own arcs
    refine ⟨fun σ' H' => ∃ (ow : Addr) (rs : List Addr), σ' = [some (.ref a), some (.int i),
      some (.ref p), some (.int mo), some (.int z), some (.ref it),
      some (.ref b), some (.int j), some (.ref od), some (.ref ow), y1, y2, y3,
      none] ∧ H' ow = some (.lst (rs.map V.ref)) ∧ rs.length ≤ 40 ∧
      Owns H' ls os rs ∧ Same H6 H', ?_, ?_⟩
    · exact ⟨_, rfl, _, rfl, it, od, ls, os, rfl, hi6, O6.li, good, O6.pm,
        fun ow rs H7 n7 h7 l7 o7 s7 => ⟨ow, rs, rfl, h7, l7, o7, s7⟩⟩
    rintro _ H7 ⟨ow, rs, rfl, h7, l7, ow7, s7⟩
    have O7 := O6.same s7
    have hi7 := s7 _ _ hi6
    have rg7 := rg6.same s7
    have b7 : But p H0 H7 := b6.trans (But.of s7)
    clear O6 hi6 rg6 b6 s7
    -- they are within it
    refine ⟨fun σ' H' => ∃ y1, σ' = [some (.ref a), some (.int i),
      some (.ref p), some (.int mo), some (.int z), some (.ref it),
      some (.ref b), some (.int j), some (.ref od), some (.ref ow), y1, y2, y3,
      none] ∧ Same H7 H', ?_, ?_⟩
    · refine ⟨_, rfl, 3, rfl, ow, _, rfl, SqL.of h7, fun c nc => ⟨c, rfl,
        ⟨_, SqL.of upd_same⟩, ?_⟩⟩
      generalize hxs : cutV (rs.map V.ref) none (some 3) = xs
      have hx : ∀ v ∈ xs, ∃ r ∈ rs, v = .ref r := fun v hv => by
        rw [← hxs] at hv
        obtain ⟨r, h1, h2⟩ := List.mem_map.mp (cut_mem hv)
        exact ⟨r, h1, h2.symm⟩
      refine for_list (K := K) (a := c) (xs := xs) (fun _ σ H' =>
        ∃ y1, σ = [some (.ref a), some (.int i), some (.ref p), some (.int mo),
        some (.int z), some (.ref it), some (.ref b), some (.int j),
        some (.ref od), some (.ref ow), y1, y2, y3, none] ∧
        H' c = some (.lst xs) ∧ Same H7 H')
        ⟨y1, rfl, upd_same, sameNew nc⟩
        (fun _ σ H' _ z => by obtain ⟨_, _, h, _⟩ := z; exact SqL.of h) ?_ ?_
      · rintro x v σ H8 hv ⟨y1, rfl, hc8, s8⟩
        obtain ⟨r, hr', rfl⟩ := hx v (List.mem_of_getElem? hv)
        obtain ⟨l, m, ps, at7, oa⟩ := ow7 r hr'
        refine ⟨_, rfl, _, rfl, _, rfl, b, r, od, ls, ps, os, l, m, rfl,
          at7.same s8, oa.arc, O7.same s8, fun H9 s9 => ?_⟩
        have ei : inB (invAll ls (ao ls l m ps)) (invAll ls os) = true := by
          unfold inB
          rw [List.all_eq_true]
          exact fun p hp => decide_eq_true (oa.within good.nd O7.pm p hp)
        rw [ei]
        exact ⟨_, true, rfl, rfl, _, rfl, bl_no ⟨_, rfl, s9 _ _ hc8,
          s8.trans s9⟩⟩
      · rintro σ H8 ⟨y1, rfl, _, s8⟩
        exact ⟨y1, rfl, s8⟩
    clear y1
    rintro _ H8 ⟨y1, rfl, s8⟩
    have O8 := O7.same s8
    have hi8 := s8 _ _ hi7
    have rg8 := rg7.same s8
    have b8 : But p H0 H8 := b7.trans (But.of s8)
    have h8 := s8 _ _ h7
    have ow8 := (ow7.same s8).arcs
    clear O7 hi7 rg7 b7 s8 h7 ow7
    have nowp := refs_ne rg8 h8
    -- another order's
    refine ⟨fun σ' H' => ∃ (ot : Addr) (rt : List Addr), σ' = [some (.ref a), some (.int i),
      some (.ref p), some (.int mo), some (.int z), some (.ref it),
      some (.ref b), some (.int j), some (.ref od), some (.ref ow), y1,
      some (.ref ot), y3, none] ∧ H' ot = some (.lst (rt.map V.ref)) ∧
      rt.length ≤ 40 ∧ Arcs H' ls (rt.map V.ref) ∧
      H' ow = some (.lst (rs.map V.ref)) ∧ Arcs H' ls (rs.map V.ref) ∧
      Ord C H' b od ls os ∧ H' it = some (.lst (ls.map vS)) ∧ Rng H' p ∧
      But p H0 H', ?_, ?_⟩
    · refine ⟨_, rfl, _, rfl, _, rfl, p, od, 4, _, rfl, rg8, SqL.of O8.li,
        neRng rg8 O8.li, by rw [List.length_map]; omega, by decide,
        fun o ys H9 n9 pm h9 rg9 b9 => ?_⟩
      obtain ⟨ot, rfl, pn⟩ := perm_back pm
      have hi9 := b9 _ _ hi8 nip
      refine ⟨it, o, ls, ot, rfl, hi9, h9, good, pn.trans O8.pm,
        fun ob rt H10 n10 h10 l10 o10 s10 => ?_⟩
      exact ⟨ob, rt, rfl, h10, l10, o10.arcs, s10 _ _ (b9 _ _ h8 nowp),
        (ow8.but rg8 b9).same s10, (O8.but rg8 b9).same s10, s10 _ _ hi9,
        rg9.same s10, (b8.trans b9).trans (But.of s10)⟩
    clear O8 hi8 rg8 b8 h8 ow8 y2 nowp
    rintro _ H9 ⟨ot, rt, rfl, h9, l9, at9, h8, ow8, O9, hi9, rg9, b9⟩
    -- some of them
    refine ⟨fun σ' H' => ∃ (sm : Addr) (xs : List V), σ' = [some (.ref a), some (.int i),
      some (.ref p), some (.int mo), some (.int z), some (.ref it),
      some (.ref b), some (.int j), some (.ref od), some (.ref ow), y1,
      some (.ref ot), some (.ref sm), none] ∧ H' sm = some (.lst xs) ∧
      xs.length ≤ 100 ∧ Arcs H' ls xs ∧
      Ord C H' b od ls os ∧ H' it = some (.lst (ls.map vS)) ∧ Rng H' p ∧
      But p H0 H', ?_, ?_⟩
    · refine ⟨_, rfl, _, rfl, -2, rfl, ow, _, rfl, SqL.of h8, fun c1 n1 => ?_⟩
      have a1 := ow8.cut (some (-2)) none
      have k1 := cut_len (rs.map V.ref) (some (-2)) none
      rw [List.length_map] at k1
      generalize cutV (rs.map V.ref) (some (-2)) none = xs1 at a1 k1 ⊢
      have e1 := sameNew (o := .lst xs1) n1
      have g1 : (upd H9 c1 (.lst xs1)) c1 = some (.lst xs1) := upd_same
      generalize upd H9 c1 (.lst xs1) = H10 at e1 g1 ⊢
      refine ⟨_, rfl, 2, rfl, ot, _, rfl, SqL.of (e1 _ _ h9), fun c2 n2 => ?_⟩
      have a2 := at9.cut none (some 2)
      have k2 := cut_len (rt.map V.ref) none (some 2)
      rw [List.length_map] at k2
      generalize cutV (rt.map V.ref) none (some 2) = xs2 at a2 k2 ⊢
      have e2 := sameNew (o := .lst xs2) n2
      have g2 : (upd H10 c2 (.lst xs2)) c2 = some (.lst xs2) := upd_same
      generalize upd H10 c2 (.lst xs2) = H11 at e2 g2 ⊢
      refine ⟨c1, c2, _, _, rfl, rfl, e2 _ _ g1, g2, ?_, fun c3 n3 => ?_⟩
      · exact sz (by omega)
      have a3 := (a1.app a2)
      have k3 : (xs1 ++ xs2).length ≤ 80 := by
        rw [List.length_append]
        omega
      generalize xs1 ++ xs2 = xs3 at a3 k3 ⊢
      have e3 := sameNew (o := .lst xs3) n3
      have g3 : (upd H11 c3 (.lst xs3)) c3 = some (.lst xs3) := upd_same
      generalize upd H11 c3 (.lst xs3) = H12 at e3 g3 ⊢
      have e93 := (e1.trans e2).trans e3
      have rg12 := rg9.same e93
      have hi12 := e93 _ _ hi9
      replace a3 := a3.same e93
      have n3p : c3 ≠ p := fun ee => by
        rw [ee] at n3
        obtain ⟨u, v, w', _⟩ := (rg9.same (e1.trans e2))
        rw [n3] at w'
        cases w'
      refine ⟨3, rfl, by decide, by decide, fun D nD => ?_⟩
      have nDp : D ≠ p := (rg12.ne nD).symm
      refine lc_range (lo := 0) (n := 3) (fun x H' => ∃ xs : List V, xs.length = x ∧
        H' D = some (.lst xs) ∧ Arcs H' ls xs ∧ Rng H' p ∧ But p H12 H')
        ⟨[], rfl, upd_same, nofun, rg12.same (sameNew nD),
          (But.refl H12).new nD⟩ ?_ ?_
      · rintro x H13 hx ⟨xs, hl, hD, ax, rg13, b13⟩
        refine ⟨rfl, yes ⟨_, rfl, _, rfl, p, it, ls, rfl, rg13,
          b13 _ _ hi12 nip, nip, good, two,
          fun t l m ps H14 n14 at14 ar14 rg14 b14 => ?_⟩⟩
        have hD14 := b14 _ _ hD nDp
        refine ⟨xs, hD14, sz' (by omega), xs ++ [.ref t], ?_, upd_same, ?_, ?_,
          (b13.trans b14).new nD⟩
        · rw [List.length_append, hl]
          rfl
        · refine Arcs.app (fun v hv => ?_) (fun v hv => ?_)
          · obtain ⟨r, l', m', ps', c1, c2, c3⟩ := ax v hv
            exact ⟨r, l', m', ps', c1, (c2.but rg13 b14).put hD14, c3⟩
          · rw [List.mem_singleton.mp hv]
            exact ⟨t, l, m, ps, rfl, at14.put hD14, ar14⟩
        · exact rg14.but (But.at (p := D) (But.refl H14)) nDp.symm
      · rintro H13 ⟨xs, hl, hD, ax, rg13, b13⟩
        refine ⟨c3, D, _, _, rfl, rfl, b13 _ _ g3 n3p, hD, ?_, fun sm nsm => ?_⟩
        · exact sz (by omega)
        have e4 := sameNew (o := .lst (xs3 ++ xs)) nsm
        refine ⟨sm, _, rfl, upd_same, ?_, ?_, ?_, ?_, rg13.same e4, ?_⟩
        · rw [List.length_append]
          omega
        · exact ((a3.but rg12 b13).app ax).same e4
        · exact ((O9.same e93).but rg12 b13).same e4
        · exact e4 _ _ (b13 _ _ hi12 nip)
        · exact ((b9.trans (But.of e93)).trans b13).trans (But.of e4)
    clear O9 hi9 rg9 b9 h8 h9 at9 ow8 y3
    rintro _ H10 ⟨sm, xs, rfl, h10, k10, a10, O10, hi10, rg10, b10⟩
    -- they are right
    refine ⟨_, rfl, sm, rfl, ⟨_, SqL.of h10⟩, fun D nD => ?_⟩
    refine lc_list (K := K) (a := sm) (xs := xs) (fun x H' =>
      H' D = some (.lst ((List.replicate x true).map V.bl)) ∧ Same H10 H')
      ⟨upd_same, sameNew nD⟩ (fun x H' _ z => SqL.of (z.2 _ _ h10)) ?_ ?_
    · rintro x y H11 hy ⟨hD, s11⟩
      have hx := (List.getElem?_eq_some_iff.mp hy).1
      obtain ⟨r, l, m, ps, rfl, at_, ar⟩ := a10 y (List.mem_of_getElem? hy)
      refine ⟨rfl, yes ⟨_, rfl, _, rfl, _, rfl, _, rfl, b, it, r, od, ls, os, ps,
        l, m, rfl, O10.same s11, s11 _ _ hi10, at_.same s11, ar,
        fun H12 s12 => ⟨_, s12 _ _ hD, ?_, ?_, OM.Same.put (s11.trans s12) nD⟩⟩⟩
      · rw [List.length_map, List.length_replicate]
        exact sz' (by omega)
      · rw [upd_same, List.replicate_succ', List.map_append]
        rfl
    · rintro H11 ⟨hD, s11⟩
      refine ⟨D, _, rfl, SqL.of hD, _, rfl, ?_⟩
      rw [all_true]
      exact iteF ⟨_, _, _, _, _, _, rfl, O10.ba.same s11, s11 _ _ hi10,
        rg10.same s11, b10.trans (But.of s11)⟩
  · rintro σ H6 ⟨x7, x8, x9, y1, y2, y3, rfl, _, _, _, b6⟩
    exact ⟨_, _, _, _, _, _, _, _, _, _, _, _, rfl, s0.trans (b6.same np)⟩
end
end OM
namespace OM
open PySem PySem.Spec PyProof.Rows L2
section
variable {P : Program} {w : World} {K : PySem.W.Frag}
  {mg : Str → Option Value} {base : Heap} {C : Addr}
/-- the law, by what the top has left -/
theorem all56
    {f1 f2 f3 f4 f5 f6 f7 f8 f9 f10 f11 f12 f13 f14 f15 f16 f17 f18 f19 f20 f21 f22 f23 f24 f25 : Addr}
    {d1 d2 d3 d4 d5 d6 d7 d8 d9 d10 d11 d12 d13 d14 d15 d16 d17 d18 d19 d20 d21 d22 d23 d24 d25 : FuncData}
    {m1 m2 m3 m4 m5 m6 : Addr} {e1 e2 e3 e4 e5 e6 : FuncData}
    {t40 t8 : Tok} (B : Bl mg) (B2 : Bl2 mg) (T : BC K mg C)
    (mk : PySem.W.makesIn K C = true)
    (c40 : mg "MAX_ITEMS" = some (.int 40 t40))
    (c8 : mg "MAX_NAME_LENGTH" = some (.int 8 t8))
    (bT : mg "tuple" = none) (bZ : mg "zip" = none)
    (D1 : DefAt K mg "is_name" s_is_name ["value"] f1 d1)
    (D2 : DefAt K mg "check_items" s_check_items ["items"] f2 d2)
    (D3 : DefAt K mg "order_fault" s_order_fault ["base", "value"] f3 d3)
    (D4 : DefAt K mg "check_order" s_check_order ["base", "order"] f4 d4)
    (D5 : DefAt K mg "inverted_pairs" s_inverted_pairs ["base", "order"] f5 d5)
    (D6 : DefAt K mg "is_pair" s_is_pair ["base", "value"] f6 d6)
    (D7 : DefAt K mg "is_within" s_is_within ["base", "order", "other"] f7 d7)
    (D8 : DefAt K mg "is_arc" s_is_arc ["base", "value"] f8 d8)
    (D9 : DefAt K mg "names_between" s_names_between ["base", "lower", "upper"] f9 d9)
    (D10 : DefAt K mg "arcs_of" s_arcs_of ["base", "order"] f10 d10)
    (D11 : DefAt K mg "order_of_arc" s_order_of_arc ["base", "arc"] f11 d11)
    (D12 : DefAt K mg "is_arc_within" s_is_arc_within ["base", "arc", "order"] f12 d12)
    (D13 : DefAt K mg "_law_rng" s_Lrng ["_law_script", "_law_k"] f13 d13)
    (D14 : DefAt K mg "_law_draw" s_Ldraw ["_law_rng_here", "_law_many"] f14 d14)
    (D15 : DefAt K mg "_law_name" s_Lname ["_law_rng_here", "_law_used"] f15 d15)
    (D16 : DefAt K mg "_law_names" s_Lnames ["_law_rng_here", "_law_many", "_law_used"] f16 d16)
    (D17 : DefAt K mg "_law_shuffled" s_Lshuffled ["_law_rng_here", "_law_values"] f17 d17)
    (D18 : DefAt K mg "_law_near_order" s_Lnear_order ["_law_rng_here", "_law_order", "_law_many"] f18 d18)
    (D19 : DefAt K mg "_law_inverted" s_Linverted ["_law_items", "_law_order"] f19 d19)
    (D20 : DefAt K mg "_law_arcs" s_Larcs ["_law_items", "_law_order"] f20 d20)
    (D21 : DefAt K mg "_law_arc_order" s_Larc_order ["_law_items", "_law_arc"] f21 d21)
    (D22 : DefAt K mg "_law_some_arc" s_Lsome_arc ["_law_rng_here", "_law_items"] f22 d22)
    (D23 : DefAt K mg "_law_arc_right" s_Larc_right ["_law_base", "_law_items", "_law_arc", "_law_order"] f23 d23)
    (D24 : DefAt K mg "law" s_law ["_law_script"] f24 d24)
    (D25 : DefAt K mg "names_fault" s_names_fault ["value", "most"] f25 d25)
    (M1 : MethAt K C "__init__" "Base.__init__" s_Base_init ["self", "items"] m1 e1)
    (M2 : MethAt K C "__len__" "Base.__len__" s_Base_len ["self"] m2 e2)
    (M3 : MethAt K C "names" "Base.names" s_Base_names ["self"] m3 e3)
    (M4 : MethAt K C "has_item" "Base.has_item" s_Base_has_item ["self", "value"] m4 e4)
    (M5 : MethAt K C "position_of" "Base.position_of" s_Base_position_of ["self", "item"] m5 e5)
    (M6 : MethAt K C "precedes" "Base.precedes" s_Base_precedes ["self", "first", "second"] m6 e6) :
    FnG P w K mg base CX0 11 f24 d24 ["_law_script"] (spLaw K) := by
  have G14 := ok_draw (P := P) (w := w) (base := base) (k := 0) D14.fn B
  have G13 := ok_rng (P := P) (w := w) (base := base) (k := 0) D13.fn B
  have G1 := ok_isname (P := P) (w := w) (base := base) (k := 0) D1.fn B c8
  have H3 := ok_getnames (P := P) (w := w) (base := base) (k := 0) M3.fn B T
  have H2 := ok_lenB (P := P) (w := w) (base := base) (k := 0) M2.fn B T
  have G19 := ok_linv (P := P) (w := w) (base := base) (k := 0) D19.fn B B2
  have G20 := ok_larcs (P := P) (w := w) (base := base) (k := 0) D20.fn B bT
  have G21 := ok_lord (P := P) (w := w) (base := base) (k := 0) D21.fn B
  have G22 := ok_some (k := 1) D22.fn B bT (D14.cal G14 (by decide))
  have G15 := ok_name (k := 1) D15.fn B (D14.cal G14 (by decide))
  have G16 := ok_names (k := 2) D16.fn B (D15.cal G15 (by decide))
  have G17 := ok_shuf (k := 1) D17.fn B (D14.cal G14 (by decide))
  have G18 := ok_near (k := 1) D18.fn B B2 (D14.cal G14 (by decide))
  have G25 := ok_nfault (k := 1) D25.fn B (D1.cal G1 (by decide))
  have G2 := ok_check (k := 2) D2.fn (D25.cal G25 (by decide)) c40
  have H1 := ok_init (k := 3) M1.fn B T (D2.cal G2 (by decide))
  have H4 := ok_has (k := 1) M4.fn B T (D1.cal G1 (by decide))
  have H5 := ok_pos (k := 2) M5.fn T (M4.calM T.cl H4 (by decide))
  have H6 := ok_prec (k := 3) M6.fn (M5.calM T.cl H5 (by decide))
  have G3 := ok_fault (k := 2) (n := 1) D3.fn B T (M4.calM T.cl H4 (by decide)) M2.spec H2 (by decide)
  have G4 := ok_checkorder (k := 3) D4.fn (D3.cal G3 (by decide))
  have G5 := ok_pairs (k := 4) D5.fn B (D4.cal G4 (by decide)) (M3.calM T.cl H3 (by decide))
  have G6 := ok_ispair (k := 4) D6.fn B bT (M4.calM T.cl H4 (by decide)) (M6.calM T.cl H6 (by decide))
  have G9 := ok_betw (k := 3) D9.fn (M3.calM T.cl H3 (by decide)) (M5.calM T.cl H5 (by decide))
  have G8 := ok_isarc (k := 5) D8.fn B bT bZ (D6.cal G6 (by decide)) (M4.calM T.cl H4 (by decide)) (M6.calM T.cl H6 (by decide))
  have G11 := ok_ordarc (k := 6) D11.fn B (D8.cal G8 (by decide)) (D9.cal G9 (by decide)) (M3.calM T.cl H3 (by decide)) (M5.calM T.cl H5 (by decide))
  have G7 := ok_within (k := 5) D7.fn B (D5.cal G5 (by decide))
  have G12 := ok_arcin (k := 7) D12.fn (D7.cal G7 (by decide)) (D11.cal G11 (by decide))
  have G10 := ok_arcsof (k := 4) D10.fn B bT (D4.cal G4 (by decide)) (D9.cal G9 (by decide)) (M3.calM T.cl H3 (by decide)) (M6.calM T.cl H6 (by decide))
  have G23 := ok_right (k := 8) D23.fn B B2 (D19.cal G19 (by decide)) (D21.cal G21 (by decide)) (D11.cal G11 (by decide)) (D10.cal G10 (by decide)) (D12.cal G12 (by decide))
  have mkB : Mk K C m1 := ⟨mk, M1.me.at_, M1.me.fn, T.kC⟩
  exact ok_law56 (k := 9) D24.fn B T (D13.cal G13 (by decide)) (D14.cal G14 (by decide)) (D16.cal G16 (by decide)) (D17.cal G17 (by decide)) (D18.cal G18 (by decide)) (D20.cal G20 (by decide)) (D22.cal G22 (by decide)) (D12.cal G12 (by decide)) (D23.calG G23 (by decide))
    ⟨T.mgC, m1, e1, H1.mono (by decide), mkB, M1.bd⟩
end
end OM
namespace OM
open PySem PySem.Spec PyProof.Rows L2
theorem fin56 {l : PySem.W.OpenLaw} {w : World} {K : PySem.W.Frag} {h : Heap}
    {mg : Str → Option Value} {fa C : Addr} (X : K.In h)
    (G : h.Ns mainGlobals mg) (hfa : mg "law" = some (.ref fa))
    {f1 f2 f3 f4 f5 f6 f7 f8 f9 f10 f11 f12 f13 f14 f15 f16 f17 f18 f19 f20 f21 f22 f23 f24 f25 m1 m2 m3 m4 m5 m6 : Addr}
    {odf1 anf1 odf2 anf2 odf3 anf3 odf4 anf4 odf5 anf5 odf6 anf6 odf7 anf7 odf8 anf8 odf9 anf9 odf10 anf10 odf11 anf11 odf12 anf12 odf13 anf13 odf14 anf14 odf15 anf15 odf16 anf16 odf17 anf17 odf18 anf18 odf19 anf19 odf20 anf20 odf21 anf21 odf22 anf22 odf23 anf23 odf24 anf24 odf25 anf25 odm1 anm1 odm2 anm2 odm3 anm3 odm4 anm4 odm5 anm5 odm6 anm6 : Option Addr}
    {slf1 slf2 slf3 slf4 slf5 slf6 slf7 slf8 slf9 slf10 slf11 slf12 slf13 slf14 slf15 slf16 slf17 slf18 slf19 slf20 slf21 slf22 slf23 slf24 slf25 slm1 slm2 slm3 slm4 slm5 slm6 : Array (Option Value)}
    {ocf1 kVf1 dcf1 pmf1 cdf1 ctf1 : Value}
    {ocf2 kVf2 dcf2 pmf2 cdf2 ctf2 : Value}
    {ocf3 kVf3 dcf3 pmf3 cdf3 ctf3 : Value}
    {ocf4 kVf4 dcf4 pmf4 cdf4 ctf4 : Value}
    {ocf5 kVf5 dcf5 pmf5 cdf5 ctf5 : Value}
    {ocf6 kVf6 dcf6 pmf6 cdf6 ctf6 : Value}
    {ocf7 kVf7 dcf7 pmf7 cdf7 ctf7 : Value}
    {ocf8 kVf8 dcf8 pmf8 cdf8 ctf8 : Value}
    {ocf9 kVf9 dcf9 pmf9 cdf9 ctf9 : Value}
    {ocf10 kVf10 dcf10 pmf10 cdf10 ctf10 : Value}
    {ocf11 kVf11 dcf11 pmf11 cdf11 ctf11 : Value}
    {ocf12 kVf12 dcf12 pmf12 cdf12 ctf12 : Value}
    {ocf13 kVf13 dcf13 pmf13 cdf13 ctf13 : Value}
    {ocf14 kVf14 dcf14 pmf14 cdf14 ctf14 : Value}
    {ocf15 kVf15 dcf15 pmf15 cdf15 ctf15 : Value}
    {ocf16 kVf16 dcf16 pmf16 cdf16 ctf16 : Value}
    {ocf17 kVf17 dcf17 pmf17 cdf17 ctf17 : Value}
    {ocf18 kVf18 dcf18 pmf18 cdf18 ctf18 : Value}
    {ocf19 kVf19 dcf19 pmf19 cdf19 ctf19 : Value}
    {ocf20 kVf20 dcf20 pmf20 cdf20 ctf20 : Value}
    {ocf21 kVf21 dcf21 pmf21 cdf21 ctf21 : Value}
    {ocf22 kVf22 dcf22 pmf22 cdf22 ctf22 : Value}
    {ocf23 kVf23 dcf23 pmf23 cdf23 ctf23 : Value}
    {ocf24 kVf24 dcf24 pmf24 cdf24 ctf24 : Value}
    {ocf25 kVf25 dcf25 pmf25 cdf25 ctf25 : Value}
    {ocm1 kVm1 dcm1 pmm1 cdm1 ctm1 : Value}
    {ocm2 kVm2 dcm2 pmm2 cdm2 ctm2 : Value}
    {ocm3 kVm3 dcm3 pmm3 cdm3 ctm3 : Value}
    {ocm4 kVm4 dcm4 pmm4 cdm4 ctm4 : Value}
    {ocm5 kVm5 dcm5 pmm5 cdm5 ctm5 : Value}
    {ocm6 kVm6 dcm6 pmm6 cdm6 ctm6 : Value}
    {t40 t8 : Tok}
    (af1 : PySem.W.nsIn K mainGlobals "is_name" = some (some (.ref f1)))
    (lf1 : K.lookup f1 = some ⟨ocf1, odf1, .func (PySem.W.fnOf "is_name" "is_name"
      (defArgs s_is_name) (defBody s_is_name) (defScope s_is_name) .none kVf1 dcf1 pmf1 anf1 cdf1
      ctf1), slf1⟩)
    (cf1 : PySem.W.codeIn K cdf1 "is_name" = true)
    (kf1 : PySem.W.keepIn K (.ref f1) = true)
    (af2 : PySem.W.nsIn K mainGlobals "check_items" = some (some (.ref f2)))
    (lf2 : K.lookup f2 = some ⟨ocf2, odf2, .func (PySem.W.fnOf "check_items" "check_items"
      (defArgs s_check_items) (defBody s_check_items) (defScope s_check_items) .none kVf2 dcf2 pmf2 anf2 cdf2
      ctf2), slf2⟩)
    (cf2 : PySem.W.codeIn K cdf2 "check_items" = true)
    (kf2 : PySem.W.keepIn K (.ref f2) = true)
    (af3 : PySem.W.nsIn K mainGlobals "order_fault" = some (some (.ref f3)))
    (lf3 : K.lookup f3 = some ⟨ocf3, odf3, .func (PySem.W.fnOf "order_fault" "order_fault"
      (defArgs s_order_fault) (defBody s_order_fault) (defScope s_order_fault) .none kVf3 dcf3 pmf3 anf3 cdf3
      ctf3), slf3⟩)
    (cf3 : PySem.W.codeIn K cdf3 "order_fault" = true)
    (kf3 : PySem.W.keepIn K (.ref f3) = true)
    (af4 : PySem.W.nsIn K mainGlobals "check_order" = some (some (.ref f4)))
    (lf4 : K.lookup f4 = some ⟨ocf4, odf4, .func (PySem.W.fnOf "check_order" "check_order"
      (defArgs s_check_order) (defBody s_check_order) (defScope s_check_order) .none kVf4 dcf4 pmf4 anf4 cdf4
      ctf4), slf4⟩)
    (cf4 : PySem.W.codeIn K cdf4 "check_order" = true)
    (kf4 : PySem.W.keepIn K (.ref f4) = true)
    (af5 : PySem.W.nsIn K mainGlobals "inverted_pairs" = some (some (.ref f5)))
    (lf5 : K.lookup f5 = some ⟨ocf5, odf5, .func (PySem.W.fnOf "inverted_pairs" "inverted_pairs"
      (defArgs s_inverted_pairs) (defBody s_inverted_pairs) (defScope s_inverted_pairs) .none kVf5 dcf5 pmf5 anf5 cdf5
      ctf5), slf5⟩)
    (cf5 : PySem.W.codeIn K cdf5 "inverted_pairs" = true)
    (kf5 : PySem.W.keepIn K (.ref f5) = true)
    (af6 : PySem.W.nsIn K mainGlobals "is_pair" = some (some (.ref f6)))
    (lf6 : K.lookup f6 = some ⟨ocf6, odf6, .func (PySem.W.fnOf "is_pair" "is_pair"
      (defArgs s_is_pair) (defBody s_is_pair) (defScope s_is_pair) .none kVf6 dcf6 pmf6 anf6 cdf6
      ctf6), slf6⟩)
    (cf6 : PySem.W.codeIn K cdf6 "is_pair" = true)
    (kf6 : PySem.W.keepIn K (.ref f6) = true)
    (af7 : PySem.W.nsIn K mainGlobals "is_within" = some (some (.ref f7)))
    (lf7 : K.lookup f7 = some ⟨ocf7, odf7, .func (PySem.W.fnOf "is_within" "is_within"
      (defArgs s_is_within) (defBody s_is_within) (defScope s_is_within) .none kVf7 dcf7 pmf7 anf7 cdf7
      ctf7), slf7⟩)
    (cf7 : PySem.W.codeIn K cdf7 "is_within" = true)
    (kf7 : PySem.W.keepIn K (.ref f7) = true)
    (af8 : PySem.W.nsIn K mainGlobals "is_arc" = some (some (.ref f8)))
    (lf8 : K.lookup f8 = some ⟨ocf8, odf8, .func (PySem.W.fnOf "is_arc" "is_arc"
      (defArgs s_is_arc) (defBody s_is_arc) (defScope s_is_arc) .none kVf8 dcf8 pmf8 anf8 cdf8
      ctf8), slf8⟩)
    (cf8 : PySem.W.codeIn K cdf8 "is_arc" = true)
    (kf8 : PySem.W.keepIn K (.ref f8) = true)
    (af9 : PySem.W.nsIn K mainGlobals "names_between" = some (some (.ref f9)))
    (lf9 : K.lookup f9 = some ⟨ocf9, odf9, .func (PySem.W.fnOf "names_between" "names_between"
      (defArgs s_names_between) (defBody s_names_between) (defScope s_names_between) .none kVf9 dcf9 pmf9 anf9 cdf9
      ctf9), slf9⟩)
    (cf9 : PySem.W.codeIn K cdf9 "names_between" = true)
    (kf9 : PySem.W.keepIn K (.ref f9) = true)
    (af10 : PySem.W.nsIn K mainGlobals "arcs_of" = some (some (.ref f10)))
    (lf10 : K.lookup f10 = some ⟨ocf10, odf10, .func (PySem.W.fnOf "arcs_of" "arcs_of"
      (defArgs s_arcs_of) (defBody s_arcs_of) (defScope s_arcs_of) .none kVf10 dcf10 pmf10 anf10 cdf10
      ctf10), slf10⟩)
    (cf10 : PySem.W.codeIn K cdf10 "arcs_of" = true)
    (kf10 : PySem.W.keepIn K (.ref f10) = true)
    (af11 : PySem.W.nsIn K mainGlobals "order_of_arc" = some (some (.ref f11)))
    (lf11 : K.lookup f11 = some ⟨ocf11, odf11, .func (PySem.W.fnOf "order_of_arc" "order_of_arc"
      (defArgs s_order_of_arc) (defBody s_order_of_arc) (defScope s_order_of_arc) .none kVf11 dcf11 pmf11 anf11 cdf11
      ctf11), slf11⟩)
    (cf11 : PySem.W.codeIn K cdf11 "order_of_arc" = true)
    (kf11 : PySem.W.keepIn K (.ref f11) = true)
    (af12 : PySem.W.nsIn K mainGlobals "is_arc_within" = some (some (.ref f12)))
    (lf12 : K.lookup f12 = some ⟨ocf12, odf12, .func (PySem.W.fnOf "is_arc_within" "is_arc_within"
      (defArgs s_is_arc_within) (defBody s_is_arc_within) (defScope s_is_arc_within) .none kVf12 dcf12 pmf12 anf12 cdf12
      ctf12), slf12⟩)
    (cf12 : PySem.W.codeIn K cdf12 "is_arc_within" = true)
    (kf12 : PySem.W.keepIn K (.ref f12) = true)
    (af13 : PySem.W.nsIn K mainGlobals "_law_rng" = some (some (.ref f13)))
    (lf13 : K.lookup f13 = some ⟨ocf13, odf13, .func (PySem.W.fnOf "_law_rng" "_law_rng"
      (defArgs s_Lrng) (defBody s_Lrng) (defScope s_Lrng) .none kVf13 dcf13 pmf13 anf13 cdf13
      ctf13), slf13⟩)
    (cf13 : PySem.W.codeIn K cdf13 "_law_rng" = true)
    (kf13 : PySem.W.keepIn K (.ref f13) = true)
    (af14 : PySem.W.nsIn K mainGlobals "_law_draw" = some (some (.ref f14)))
    (lf14 : K.lookup f14 = some ⟨ocf14, odf14, .func (PySem.W.fnOf "_law_draw" "_law_draw"
      (defArgs s_Ldraw) (defBody s_Ldraw) (defScope s_Ldraw) .none kVf14 dcf14 pmf14 anf14 cdf14
      ctf14), slf14⟩)
    (cf14 : PySem.W.codeIn K cdf14 "_law_draw" = true)
    (kf14 : PySem.W.keepIn K (.ref f14) = true)
    (af15 : PySem.W.nsIn K mainGlobals "_law_name" = some (some (.ref f15)))
    (lf15 : K.lookup f15 = some ⟨ocf15, odf15, .func (PySem.W.fnOf "_law_name" "_law_name"
      (defArgs s_Lname) (defBody s_Lname) (defScope s_Lname) .none kVf15 dcf15 pmf15 anf15 cdf15
      ctf15), slf15⟩)
    (cf15 : PySem.W.codeIn K cdf15 "_law_name" = true)
    (kf15 : PySem.W.keepIn K (.ref f15) = true)
    (af16 : PySem.W.nsIn K mainGlobals "_law_names" = some (some (.ref f16)))
    (lf16 : K.lookup f16 = some ⟨ocf16, odf16, .func (PySem.W.fnOf "_law_names" "_law_names"
      (defArgs s_Lnames) (defBody s_Lnames) (defScope s_Lnames) .none kVf16 dcf16 pmf16 anf16 cdf16
      ctf16), slf16⟩)
    (cf16 : PySem.W.codeIn K cdf16 "_law_names" = true)
    (kf16 : PySem.W.keepIn K (.ref f16) = true)
    (af17 : PySem.W.nsIn K mainGlobals "_law_shuffled" = some (some (.ref f17)))
    (lf17 : K.lookup f17 = some ⟨ocf17, odf17, .func (PySem.W.fnOf "_law_shuffled" "_law_shuffled"
      (defArgs s_Lshuffled) (defBody s_Lshuffled) (defScope s_Lshuffled) .none kVf17 dcf17 pmf17 anf17 cdf17
      ctf17), slf17⟩)
    (cf17 : PySem.W.codeIn K cdf17 "_law_shuffled" = true)
    (kf17 : PySem.W.keepIn K (.ref f17) = true)
    (af18 : PySem.W.nsIn K mainGlobals "_law_near_order" = some (some (.ref f18)))
    (lf18 : K.lookup f18 = some ⟨ocf18, odf18, .func (PySem.W.fnOf "_law_near_order" "_law_near_order"
      (defArgs s_Lnear_order) (defBody s_Lnear_order) (defScope s_Lnear_order) .none kVf18 dcf18 pmf18 anf18 cdf18
      ctf18), slf18⟩)
    (cf18 : PySem.W.codeIn K cdf18 "_law_near_order" = true)
    (kf18 : PySem.W.keepIn K (.ref f18) = true)
    (af19 : PySem.W.nsIn K mainGlobals "_law_inverted" = some (some (.ref f19)))
    (lf19 : K.lookup f19 = some ⟨ocf19, odf19, .func (PySem.W.fnOf "_law_inverted" "_law_inverted"
      (defArgs s_Linverted) (defBody s_Linverted) (defScope s_Linverted) .none kVf19 dcf19 pmf19 anf19 cdf19
      ctf19), slf19⟩)
    (cf19 : PySem.W.codeIn K cdf19 "_law_inverted" = true)
    (kf19 : PySem.W.keepIn K (.ref f19) = true)
    (af20 : PySem.W.nsIn K mainGlobals "_law_arcs" = some (some (.ref f20)))
    (lf20 : K.lookup f20 = some ⟨ocf20, odf20, .func (PySem.W.fnOf "_law_arcs" "_law_arcs"
      (defArgs s_Larcs) (defBody s_Larcs) (defScope s_Larcs) .none kVf20 dcf20 pmf20 anf20 cdf20
      ctf20), slf20⟩)
    (cf20 : PySem.W.codeIn K cdf20 "_law_arcs" = true)
    (kf20 : PySem.W.keepIn K (.ref f20) = true)
    (af21 : PySem.W.nsIn K mainGlobals "_law_arc_order" = some (some (.ref f21)))
    (lf21 : K.lookup f21 = some ⟨ocf21, odf21, .func (PySem.W.fnOf "_law_arc_order" "_law_arc_order"
      (defArgs s_Larc_order) (defBody s_Larc_order) (defScope s_Larc_order) .none kVf21 dcf21 pmf21 anf21 cdf21
      ctf21), slf21⟩)
    (cf21 : PySem.W.codeIn K cdf21 "_law_arc_order" = true)
    (kf21 : PySem.W.keepIn K (.ref f21) = true)
    (af22 : PySem.W.nsIn K mainGlobals "_law_some_arc" = some (some (.ref f22)))
    (lf22 : K.lookup f22 = some ⟨ocf22, odf22, .func (PySem.W.fnOf "_law_some_arc" "_law_some_arc"
      (defArgs s_Lsome_arc) (defBody s_Lsome_arc) (defScope s_Lsome_arc) .none kVf22 dcf22 pmf22 anf22 cdf22
      ctf22), slf22⟩)
    (cf22 : PySem.W.codeIn K cdf22 "_law_some_arc" = true)
    (kf22 : PySem.W.keepIn K (.ref f22) = true)
    (af23 : PySem.W.nsIn K mainGlobals "_law_arc_right" = some (some (.ref f23)))
    (lf23 : K.lookup f23 = some ⟨ocf23, odf23, .func (PySem.W.fnOf "_law_arc_right" "_law_arc_right"
      (defArgs s_Larc_right) (defBody s_Larc_right) (defScope s_Larc_right) .none kVf23 dcf23 pmf23 anf23 cdf23
      ctf23), slf23⟩)
    (cf23 : PySem.W.codeIn K cdf23 "_law_arc_right" = true)
    (kf23 : PySem.W.keepIn K (.ref f23) = true)
    (af24 : PySem.W.nsIn K mainGlobals "law" = some (some (.ref f24)))
    (lf24 : K.lookup f24 = some ⟨ocf24, odf24, .func (PySem.W.fnOf "law" "law"
      (defArgs s_law) (defBody s_law) (defScope s_law) .none kVf24 dcf24 pmf24 anf24 cdf24
      ctf24), slf24⟩)
    (cf24 : PySem.W.codeIn K cdf24 "law" = true)
    (kf24 : PySem.W.keepIn K (.ref f24) = true)
    (af25 : PySem.W.nsIn K mainGlobals "names_fault" = some (some (.ref f25)))
    (lf25 : K.lookup f25 = some ⟨ocf25, odf25, .func (PySem.W.fnOf "names_fault" "names_fault"
      (defArgs s_names_fault) (defBody s_names_fault) (defScope s_names_fault) .none kVf25 dcf25 pmf25 anf25 cdf25
      ctf25), slf25⟩)
    (cf25 : PySem.W.codeIn K cdf25 "names_fault" = true)
    (kf25 : PySem.W.keepIn K (.ref f25) = true)
    (aC : PySem.W.nsIn K mainGlobals "Base" = some (some (.ref C)))
    (am1 : PySem.W.findIn K (.ref C) "__init__" = some (some (.ref m1)))
    (im1 : PySem.W.isFn K (.ref m1) = true)
    (lm1 : K.lookup m1 = some ⟨ocm1, odm1, .func (PySem.W.fnOf "__init__" "Base.__init__"
      (defArgs s_Base_init) (defBody s_Base_init) (defScope s_Base_init) .none kVm1 dcm1 pmm1 anm1 cdm1
      ctm1), slm1⟩)
    (cm1 : PySem.W.codeIn K cdm1 "Base.__init__" = true)
    (km1 : PySem.W.keepIn K (.ref m1) = true)
    (am2 : PySem.W.findIn K (.ref C) "__len__" = some (some (.ref m2)))
    (im2 : PySem.W.isFn K (.ref m2) = true)
    (lm2 : K.lookup m2 = some ⟨ocm2, odm2, .func (PySem.W.fnOf "__len__" "Base.__len__"
      (defArgs s_Base_len) (defBody s_Base_len) (defScope s_Base_len) .none kVm2 dcm2 pmm2 anm2 cdm2
      ctm2), slm2⟩)
    (cm2 : PySem.W.codeIn K cdm2 "Base.__len__" = true)
    (km2 : PySem.W.keepIn K (.ref m2) = true)
    (am3 : PySem.W.findIn K (.ref C) "names" = some (some (.ref m3)))
    (im3 : PySem.W.isFn K (.ref m3) = true)
    (lm3 : K.lookup m3 = some ⟨ocm3, odm3, .func (PySem.W.fnOf "names" "Base.names"
      (defArgs s_Base_names) (defBody s_Base_names) (defScope s_Base_names) .none kVm3 dcm3 pmm3 anm3 cdm3
      ctm3), slm3⟩)
    (cm3 : PySem.W.codeIn K cdm3 "Base.names" = true)
    (km3 : PySem.W.keepIn K (.ref m3) = true)
    (am4 : PySem.W.findIn K (.ref C) "has_item" = some (some (.ref m4)))
    (im4 : PySem.W.isFn K (.ref m4) = true)
    (lm4 : K.lookup m4 = some ⟨ocm4, odm4, .func (PySem.W.fnOf "has_item" "Base.has_item"
      (defArgs s_Base_has_item) (defBody s_Base_has_item) (defScope s_Base_has_item) .none kVm4 dcm4 pmm4 anm4 cdm4
      ctm4), slm4⟩)
    (cm4 : PySem.W.codeIn K cdm4 "Base.has_item" = true)
    (km4 : PySem.W.keepIn K (.ref m4) = true)
    (am5 : PySem.W.findIn K (.ref C) "position_of" = some (some (.ref m5)))
    (im5 : PySem.W.isFn K (.ref m5) = true)
    (lm5 : K.lookup m5 = some ⟨ocm5, odm5, .func (PySem.W.fnOf "position_of" "Base.position_of"
      (defArgs s_Base_position_of) (defBody s_Base_position_of) (defScope s_Base_position_of) .none kVm5 dcm5 pmm5 anm5 cdm5
      ctm5), slm5⟩)
    (cm5 : PySem.W.codeIn K cdm5 "Base.position_of" = true)
    (km5 : PySem.W.keepIn K (.ref m5) = true)
    (am6 : PySem.W.findIn K (.ref C) "precedes" = some (some (.ref m6)))
    (im6 : PySem.W.isFn K (.ref m6) = true)
    (lm6 : K.lookup m6 = some ⟨ocm6, odm6, .func (PySem.W.fnOf "precedes" "Base.precedes"
      (defArgs s_Base_precedes) (defBody s_Base_precedes) (defScope s_Base_precedes) .none kVm6 dcm6 pmm6 anm6 cdm6
      ctm6), slm6⟩)
    (cm6 : PySem.W.codeIn K cdm6 "Base.precedes" = true)
    (km6 : PySem.W.keepIn K (.ref m6) = true)
    (pg : PySem.W.plainGet K C Str.empty = true)
    (hd : PySem.W.hasDictIn K C = true)
    (po : PySem.W.plainOver K C = true)
    (sa : PySem.W.findIn K (.ref C) "__setattr__" =
      some (some (.builtin "object.__setattr__")))
    (ha : PySem.W.findIn K (.ref C) "__class__" =
      some (some (.builtin "object.__class__")))
    (hn : PySem.W.specialIn K (.builtin "object.__class__") "__get__" =
      some (some (.builtin "getset_descriptor.__get__")))
    (htk : PySem.W.takesIn K (.builtin "object.__class__") = some true)
    (hm : PySem.W.mroIn K C (.type "object") = some true)
    (mk : PySem.W.makesIn K C = true)
    (kc : PySem.W.keepIn K (.ref C) = true)
    (nL : PySem.W.findIn K (.ref C) "listed" = some none)
    (nP : PySem.W.findIn K (.ref C) "places" = some none)
    (c40 : PySem.W.nsIn K mainGlobals "MAX_ITEMS" = some (some (.int 40 t40)))
    (c8 : PySem.W.nsIn K mainGlobals "MAX_NAME_LENGTH" =
      some (some (.int 8 t8)))
    (zlen : PySem.W.nsIn K mainGlobals "len" = some none)
    (zdivmod : PySem.W.nsIn K mainGlobals "divmod" = some none)
    (zabs : PySem.W.nsIn K mainGlobals "abs" = some none)
    (zmax : PySem.W.nsIn K mainGlobals "max" = some none)
    (zmin : PySem.W.nsIn K mainGlobals "min" = some none)
    (zrange : PySem.W.nsIn K mainGlobals "range" = some none)
    (zenumerate : PySem.W.nsIn K mainGlobals "enumerate" = some none)
    (zisinstance : PySem.W.nsIn K mainGlobals "isinstance" = some none)
    (zstr : PySem.W.nsIn K mainGlobals "str" = some none)
    (zlist : PySem.W.nsIn K mainGlobals "list" = some none)
    (zset : PySem.W.nsIn K mainGlobals "set" = some none)
    (zall : PySem.W.nsIn K mainGlobals "all" = some none)
    (zrepr : PySem.W.nsIn K mainGlobals "repr" = some none)
    (zdict : PySem.W.nsIn K mainGlobals "dict" = some none)
    (zint : PySem.W.nsIn K mainGlobals "int" = some none)
    (ztuple : PySem.W.nsIn K mainGlobals "tuple" = some none)
    (zzip : PySem.W.nsIn K mainGlobals "zip" = some none)
    : ∃ fd : FuncData, (∀ (s : Shared) (v : Value),
        BindsTo s fd ⟨[v], []⟩ [("_law_script", v)]) ∧
      ∀ base : Heap, K.In base → base.Ns mainGlobals mg →
        FnG l.prog w K mg base CX0 11 fa fd ["_law_script"] (spLaw K) := by
  cases hfa.symm.trans (PySem.W.mg_of X G af24)
  have B : Bl mg := ⟨PySem.W.mg_none_of X G zlen, PySem.W.mg_none_of X G zdivmod, PySem.W.mg_none_of X G zabs, PySem.W.mg_none_of X G zmax, PySem.W.mg_none_of X G zmin, PySem.W.mg_none_of X G zrange, PySem.W.mg_none_of X G zenumerate, PySem.W.mg_none_of X G zisinstance, PySem.W.mg_none_of X G zstr, PySem.W.mg_none_of X G zlist, PySem.W.mg_none_of X G zset, PySem.W.mg_none_of X G zall, PySem.W.mg_none_of X G zrepr⟩
  have B2 : Bl2 mg := ⟨PySem.W.mg_none_of X G zdict, PySem.W.mg_none_of X G zint⟩
  have T : BC K mg C := ⟨⟨⟨pg, hd, po, sa⟩, ha, hn, htk, hm,
    if_pos (beq_self_eq_true _)⟩, nL, nP,
    PySem.W.mg_of X G aC, kc⟩
  obtain ⟨d1, D1⟩ := defAt (st := s_is_name) (ps := ["value"]) X G af1 lf1 cf1 kf1
    fun _ _ _ _ _ _ us hl => match us, hl with | [_], _ => rfl
  obtain ⟨d2, D2⟩ := defAt (st := s_check_items) (ps := ["items"]) X G af2 lf2 cf2 kf2
    fun _ _ _ _ _ _ us hl => match us, hl with | [_], _ => rfl
  obtain ⟨d3, D3⟩ := defAt (st := s_order_fault) (ps := ["base", "value"]) X G af3 lf3 cf3 kf3
    fun _ _ _ _ _ _ us hl => match us, hl with | [_, _], _ => rfl
  obtain ⟨d4, D4⟩ := defAt (st := s_check_order) (ps := ["base", "order"]) X G af4 lf4 cf4 kf4
    fun _ _ _ _ _ _ us hl => match us, hl with | [_, _], _ => rfl
  obtain ⟨d5, D5⟩ := defAt (st := s_inverted_pairs) (ps := ["base", "order"]) X G af5 lf5 cf5 kf5
    fun _ _ _ _ _ _ us hl => match us, hl with | [_, _], _ => rfl
  obtain ⟨d6, D6⟩ := defAt (st := s_is_pair) (ps := ["base", "value"]) X G af6 lf6 cf6 kf6
    fun _ _ _ _ _ _ us hl => match us, hl with | [_, _], _ => rfl
  obtain ⟨d7, D7⟩ := defAt (st := s_is_within) (ps := ["base", "order", "other"]) X G af7 lf7 cf7 kf7
    fun _ _ _ _ _ _ us hl => match us, hl with | [_, _, _], _ => rfl
  obtain ⟨d8, D8⟩ := defAt (st := s_is_arc) (ps := ["base", "value"]) X G af8 lf8 cf8 kf8
    fun _ _ _ _ _ _ us hl => match us, hl with | [_, _], _ => rfl
  obtain ⟨d9, D9⟩ := defAt (st := s_names_between) (ps := ["base", "lower", "upper"]) X G af9 lf9 cf9 kf9
    fun _ _ _ _ _ _ us hl => match us, hl with | [_, _, _], _ => rfl
  obtain ⟨d10, D10⟩ := defAt (st := s_arcs_of) (ps := ["base", "order"]) X G af10 lf10 cf10 kf10
    fun _ _ _ _ _ _ us hl => match us, hl with | [_, _], _ => rfl
  obtain ⟨d11, D11⟩ := defAt (st := s_order_of_arc) (ps := ["base", "arc"]) X G af11 lf11 cf11 kf11
    fun _ _ _ _ _ _ us hl => match us, hl with | [_, _], _ => rfl
  obtain ⟨d12, D12⟩ := defAt (st := s_is_arc_within) (ps := ["base", "arc", "order"]) X G af12 lf12 cf12 kf12
    fun _ _ _ _ _ _ us hl => match us, hl with | [_, _, _], _ => rfl
  obtain ⟨d13, D13⟩ := defAt (st := s_Lrng) (ps := ["_law_script", "_law_k"]) X G af13 lf13 cf13 kf13
    fun _ _ _ _ _ _ us hl => match us, hl with | [_, _], _ => rfl
  obtain ⟨d14, D14⟩ := defAt (st := s_Ldraw) (ps := ["_law_rng_here", "_law_many"]) X G af14 lf14 cf14 kf14
    fun _ _ _ _ _ _ us hl => match us, hl with | [_, _], _ => rfl
  obtain ⟨d15, D15⟩ := defAt (st := s_Lname) (ps := ["_law_rng_here", "_law_used"]) X G af15 lf15 cf15 kf15
    fun _ _ _ _ _ _ us hl => match us, hl with | [_, _], _ => rfl
  obtain ⟨d16, D16⟩ := defAt (st := s_Lnames) (ps := ["_law_rng_here", "_law_many", "_law_used"]) X G af16 lf16 cf16 kf16
    fun _ _ _ _ _ _ us hl => match us, hl with | [_, _, _], _ => rfl
  obtain ⟨d17, D17⟩ := defAt (st := s_Lshuffled) (ps := ["_law_rng_here", "_law_values"]) X G af17 lf17 cf17 kf17
    fun _ _ _ _ _ _ us hl => match us, hl with | [_, _], _ => rfl
  obtain ⟨d18, D18⟩ := defAt (st := s_Lnear_order) (ps := ["_law_rng_here", "_law_order", "_law_many"]) X G af18 lf18 cf18 kf18
    fun _ _ _ _ _ _ us hl => match us, hl with | [_, _, _], _ => rfl
  obtain ⟨d19, D19⟩ := defAt (st := s_Linverted) (ps := ["_law_items", "_law_order"]) X G af19 lf19 cf19 kf19
    fun _ _ _ _ _ _ us hl => match us, hl with | [_, _], _ => rfl
  obtain ⟨d20, D20⟩ := defAt (st := s_Larcs) (ps := ["_law_items", "_law_order"]) X G af20 lf20 cf20 kf20
    fun _ _ _ _ _ _ us hl => match us, hl with | [_, _], _ => rfl
  obtain ⟨d21, D21⟩ := defAt (st := s_Larc_order) (ps := ["_law_items", "_law_arc"]) X G af21 lf21 cf21 kf21
    fun _ _ _ _ _ _ us hl => match us, hl with | [_, _], _ => rfl
  obtain ⟨d22, D22⟩ := defAt (st := s_Lsome_arc) (ps := ["_law_rng_here", "_law_items"]) X G af22 lf22 cf22 kf22
    fun _ _ _ _ _ _ us hl => match us, hl with | [_, _], _ => rfl
  obtain ⟨d23, D23⟩ := defAt (st := s_Larc_right) (ps := ["_law_base", "_law_items", "_law_arc", "_law_order"]) X G af23 lf23 cf23 kf23
    fun _ _ _ _ _ _ us hl => match us, hl with | [_, _, _, _], _ => rfl
  obtain ⟨d24, D24⟩ := defAt (st := s_law) (ps := ["_law_script"]) X G af24 lf24 cf24 kf24
    fun _ _ _ _ _ _ us hl => match us, hl with | [_], _ => rfl
  obtain ⟨d25, D25⟩ := defAt (st := s_names_fault) (ps := ["value", "most"]) X G af25 lf25 cf25 kf25
    fun _ _ _ _ _ _ us hl => match us, hl with | [_, _], _ => rfl
  obtain ⟨e1, M1⟩ := methAt (st := s_Base_init) (ps := ["self", "items"]) am1 im1 lm1 cm1 km1
    fun _ _ _ _ _ _ us hl => match us, hl with | [_, _], _ => rfl
  obtain ⟨e2, M2⟩ := methAt (st := s_Base_len) (ps := ["self"]) am2 im2 lm2 cm2 km2
    fun _ _ _ _ _ _ us hl => match us, hl with | [_], _ => rfl
  obtain ⟨e3, M3⟩ := methAt (st := s_Base_names) (ps := ["self"]) am3 im3 lm3 cm3 km3
    fun _ _ _ _ _ _ us hl => match us, hl with | [_], _ => rfl
  obtain ⟨e4, M4⟩ := methAt (st := s_Base_has_item) (ps := ["self", "value"]) am4 im4 lm4 cm4 km4
    fun _ _ _ _ _ _ us hl => match us, hl with | [_, _], _ => rfl
  obtain ⟨e5, M5⟩ := methAt (st := s_Base_position_of) (ps := ["self", "item"]) am5 im5 lm5 cm5 km5
    fun _ _ _ _ _ _ us hl => match us, hl with | [_, _], _ => rfl
  obtain ⟨e6, M6⟩ := methAt (st := s_Base_precedes) (ps := ["self", "first", "second"]) am6 im6 lm6 cm6 km6
    fun _ _ _ _ _ _ us hl => match us, hl with | [_, _, _], _ => rfl
  refine ⟨d24, fun s v => D24.bt s [v] rfl, fun base _ _ => ?_⟩
  exact all56 B B2 T mk (PySem.W.mg_of X G c40) (PySem.W.mg_of X G c8) (PySem.W.mg_none_of X G ztuple) (PySem.W.mg_none_of X G zzip)
    D1 D2 D3 D4 D5 D6 D7 D8 D9 D10 D11 D12 D13 D14 D15 D16 D17 D18 D19 D20 D21 D22 D23 D24 D25 M1 M2 M3 M4 M5 M6
end OM
open PySem PySem.W PyProof.Rows
set_option maxRecDepth 100000 in
set_option maxHeartbeats 0 in
theorem PySem.Challenge.cw_ordermerge_k56_arcs_within_holds : PySem.Challenge.rw_ordermerge_k56_arcs_within.Holds := by
  w_on; o_law; k_head; (case hw => w_witness2)
  k_fill
  refine OM.walkG (l := PySem.Challenge.rw_ordermerge_k56_arcs_within) (n := 63) (k := 11)
    (x := "_law_script") (sp := OM.spLaw) rfl (by decide) rfl
    ⟨rfl, by decide, by decide⟩ (fun w h Y => PySem.W.kIn_of Y) ?F
    (fun K H a ns hl _ hS => ⟨a, ns, rfl, hS, hl, fun _ => rfl⟩)
  case F =>
    intro w mg fa h KX G hmg
    refine' OM.fin56 KX G hmg ?af1
      ?lf1
      ?cf1
      ?kf1
      ?af2
      ?lf2
      ?cf2
      ?kf2
      ?af3
      ?lf3
      ?cf3
      ?kf3
      ?af4
      ?lf4
      ?cf4
      ?kf4
      ?af5
      ?lf5
      ?cf5
      ?kf5
      ?af6
      ?lf6
      ?cf6
      ?kf6
      ?af7
      ?lf7
      ?cf7
      ?kf7
      ?af8
      ?lf8
      ?cf8
      ?kf8
      ?af9
      ?lf9
      ?cf9
      ?kf9
      ?af10
      ?lf10
      ?cf10
      ?kf10
      ?af11
      ?lf11
      ?cf11
      ?kf11
      ?af12
      ?lf12
      ?cf12
      ?kf12
      ?af13
      ?lf13
      ?cf13
      ?kf13
      ?af14
      ?lf14
      ?cf14
      ?kf14
      ?af15
      ?lf15
      ?cf15
      ?kf15
      ?af16
      ?lf16
      ?cf16
      ?kf16
      ?af17
      ?lf17
      ?cf17
      ?kf17
      ?af18
      ?lf18
      ?cf18
      ?kf18
      ?af19
      ?lf19
      ?cf19
      ?kf19
      ?af20
      ?lf20
      ?cf20
      ?kf20
      ?af21
      ?lf21
      ?cf21
      ?kf21
      ?af22
      ?lf22
      ?cf22
      ?kf22
      ?af23
      ?lf23
      ?cf23
      ?kf23
      ?af24
      ?lf24
      ?cf24
      ?kf24
      ?af25
      ?lf25
      ?cf25
      ?kf25
      ?aC
      ?am1
      ?im1
      ?lm1
      ?cm1
      ?km1
      ?am2
      ?im2
      ?lm2
      ?cm2
      ?km2
      ?am3
      ?im3
      ?lm3
      ?cm3
      ?km3
      ?am4
      ?im4
      ?lm4
      ?cm4
      ?km4
      ?am5
      ?im5
      ?lm5
      ?cm5
      ?km5
      ?am6
      ?im6
      ?lm6
      ?cm6
      ?km6
      ?pg
      ?hd
      ?po
      ?sa
      ?ha
      ?hn
      ?htk
      ?hm
      ?mk
      ?kc
      ?nL
      ?nP
      ?c40
      ?c8
      ?zlen
      ?zdivmod
      ?zabs
      ?zmax
      ?zmin
      ?zrange
      ?zenumerate
      ?zisinstance
      ?zstr
      ?zlist
      ?zset
      ?zall
      ?zrepr
      ?zdict
      ?zint
      ?ztuple
      ?zzip
    (case af1 => k_is)
    (case lf1 => k_is)
    (case cf1 => k_is)
    (case kf1 => k_is)
    (case af2 => k_is)
    (case lf2 => k_is)
    (case cf2 => k_is)
    (case kf2 => k_is)
    (case af3 => k_is)
    (case lf3 => k_is)
    (case cf3 => k_is)
    (case kf3 => k_is)
    (case af4 => k_is)
    (case lf4 => k_is)
    (case cf4 => k_is)
    (case kf4 => k_is)
    (case af5 => k_is)
    (case lf5 => k_is)
    (case cf5 => k_is)
    (case kf5 => k_is)
    (case af6 => k_is)
    (case lf6 => k_is)
    (case cf6 => k_is)
    (case kf6 => k_is)
    (case af7 => k_is)
    (case lf7 => k_is)
    (case cf7 => k_is)
    (case kf7 => k_is)
    (case af8 => k_is)
    (case lf8 => k_is)
    (case cf8 => k_is)
    (case kf8 => k_is)
    (case af9 => k_is)
    (case lf9 => k_is)
    (case cf9 => k_is)
    (case kf9 => k_is)
    (case af10 => k_is)
    (case lf10 => k_is)
    (case cf10 => k_is)
    (case kf10 => k_is)
    (case af11 => k_is)
    (case lf11 => k_is)
    (case cf11 => k_is)
    (case kf11 => k_is)
    (case af12 => k_is)
    (case lf12 => k_is)
    (case cf12 => k_is)
    (case kf12 => k_is)
    (case af13 => k_is)
    (case lf13 => k_is)
    (case cf13 => k_is)
    (case kf13 => k_is)
    (case af14 => k_is)
    (case lf14 => k_is)
    (case cf14 => k_is)
    (case kf14 => k_is)
    (case af15 => k_is)
    (case lf15 => k_is)
    (case cf15 => k_is)
    (case kf15 => k_is)
    (case af16 => k_is)
    (case lf16 => k_is)
    (case cf16 => k_is)
    (case kf16 => k_is)
    (case af17 => k_is)
    (case lf17 => k_is)
    (case cf17 => k_is)
    (case kf17 => k_is)
    (case af18 => k_is)
    (case lf18 => k_is)
    (case cf18 => k_is)
    (case kf18 => k_is)
    (case af19 => k_is)
    (case lf19 => k_is)
    (case cf19 => k_is)
    (case kf19 => k_is)
    (case af20 => k_is)
    (case lf20 => k_is)
    (case cf20 => k_is)
    (case kf20 => k_is)
    (case af21 => k_is)
    (case lf21 => k_is)
    (case cf21 => k_is)
    (case kf21 => k_is)
    (case af22 => k_is)
    (case lf22 => k_is)
    (case cf22 => k_is)
    (case kf22 => k_is)
    (case af23 => k_is)
    (case lf23 => k_is)
    (case cf23 => k_is)
    (case kf23 => k_is)
    (case af24 => k_is)
    (case lf24 => k_is)
    (case cf24 => k_is)
    (case kf24 => k_is)
    (case af25 => k_is)
    (case lf25 => k_is)
    (case cf25 => k_is)
    (case kf25 => k_is)
    (case aC => k_is)
    (case am1 => k_is)
    (case im1 => k_is)
    (case lm1 => k_is)
    (case cm1 => k_is)
    (case km1 => k_is)
    (case am2 => k_is)
    (case im2 => k_is)
    (case lm2 => k_is)
    (case cm2 => k_is)
    (case km2 => k_is)
    (case am3 => k_is)
    (case im3 => k_is)
    (case lm3 => k_is)
    (case cm3 => k_is)
    (case km3 => k_is)
    (case am4 => k_is)
    (case im4 => k_is)
    (case lm4 => k_is)
    (case cm4 => k_is)
    (case km4 => k_is)
    (case am5 => k_is)
    (case im5 => k_is)
    (case lm5 => k_is)
    (case cm5 => k_is)
    (case km5 => k_is)
    (case am6 => k_is)
    (case im6 => k_is)
    (case lm6 => k_is)
    (case cm6 => k_is)
    (case km6 => k_is)
    (case pg => k_is)
    (case hd => k_is)
    (case po => k_is)
    (case sa => k_is)
    (case ha => k_is)
    (case hn => k_is)
    (case htk => k_is)
    (case hm => k_is)
    (case mk => k_is)
    (case kc => k_is)
    (case nL => k_is)
    (case nP => k_is)
    (case c40 => k_is)
    (case c8 => k_is)
    (case zlen => k_is)
    (case zdivmod => k_is)
    (case zabs => k_is)
    (case zmax => k_is)
    (case zmin => k_is)
    (case zrange => k_is)
    (case zenumerate => k_is)
    (case zisinstance => k_is)
    (case zstr => k_is)
    (case zlist => k_is)
    (case zset => k_is)
    (case zall => k_is)
    (case zrepr => k_is)
    (case zdict => k_is)
    (case zint => k_is)
    (case ztuple => k_is)
    (case zzip => k_is)
