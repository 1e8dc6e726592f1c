import PyProof.Rows.All
import Wide.All
import OpenK.AllK
import Wide.FinOn
import HandS.ForMost
import HandS.Codes
import HandS.Walk
import HandS.IsInst
import HandS.SetKeys
import HandS.FStr
import HandS.DictComp
import HandS.Exc
import HandS.Style
import HandS.FStrTup
import HandS.Deep
import HandS.ExcInit
import HandS.ExcField
import HandS.TryOnly
import HandS.WordsExc
import KE.KExcIs
import HandS.List
import HandS.CallSlots
import HandS.Dict
import HandS.Lambda
import HandS.ExcOwn
import HandS.Defaults
import PySem.Challenge.RW_ordermerge_k35_moves_keep_the_order
set_option Elab.async false
set_option linter.all false
set_option maxRecDepth 100000
set_option maxHeartbeats 8000000
/-! a def's promise where no repr is under way -/
namespace OM
open PySem PySem.Spec PyProof.Rows L2

/-- FnOk, for callers around whom nothing is being shown -/
structure FnG (P : Program) (w : World) (K : PySem.W.Frag)
    (mg : Str → Option Value) (base : Heap) (CX : CXT)
    (k : Nat) (f : Addr) (fd : FuncData) (ps : List Str) (sp : Sp) : Prop where
  len : ∀ vs H Q E, sp vs H Q E → vs.length = ps.length
  run : ∀ (A : Around) (outer : List Env) (s : Shared) (H : Hp)
      (args : Args) (us : List Value) (vs : List V) (Q : VK) (E : XK),
    Room k A → A.guards = some [] →
    Env0 P w K mg base A outer s H →
    BindsTo s fd args (ps.zip us) → Vals vs us → sp vs H Q E →
    codeAny (model P w) A (.call (.ref f) args)
      (CR CX outer P w H s Q E) s

section
variable {P : Program} {w : World} {K : PySem.W.Frag}
  {mg : Str → Option Value} {base : Heap} {CX : CXT}
theorem FnG.ofOk {k : Nat} {f : Addr} {fd : FuncData} {ps : List Str} {sp : Sp}
    (F : FnOk P w K mg base CX k f fd ps sp) :
    FnG P w K mg base CX k f fd ps sp :=
  ⟨F.len, fun A o s H ar us vs Q E r _ e b v z =>
    F.run A o s H ar us vs Q E r e b v z⟩

theorem FnG.mk' {k : Nat} {f : Addr} {nm qual : Str} {pr : Arguments}
    {bd : List Stmt} {sc : Scope} {dV kV dc pm cv ct oc : Value}
    {an od : Option Addr} {sl : Array (Option Value)} {N ps : List Str} {sp : Sp}
    (lk : K.lookup f = some ⟨oc, od,
      .func (PySem.W.fnOf nm qual pr bd sc dV kV dc pm an cv ct), sl⟩)
    (hc : PySem.W.codeIn K cv qual = true) (S : FnScope N ps sc)
    (len : ∀ vs H Q E, sp vs H Q E → vs.length = ps.length)
    (body : ∀ (A : Around) (outer : List Env) (s : Shared) (H : Hp)
        (vs : List V) (Q : VK) (E : XK),
      Room k (A.deeper (envOfC qual sc s.heap.objs.size f cv)) →
      A.guards = some [] → sp vs H Q E →
      ∃ t, PSs (cxOf CX P w K mg base N qual sc f cv A outer s H E) bd t ∧
        t { nx := fun _ H' => Q .non H', rt := Q } (start N vs) H) :
    FnG P w K mg base CX (k + 1) f
      (PySem.W.fnOf nm qual pr bd sc dV kV dc pm an cv ct) ps sp := by
  refine ⟨len, ?_⟩
  intro A outer s H args us vs Q E room gd env bnd rel hsp
  have kin : K.In s.heap :=
    env.mod.kin.keeps fun b o q => (env.bs b o q).1
  have nol : s.heap.NoLimit :=
    env.mod.nolimit.keeps fun b o q => (env.bs b o q).1
  have kinds : ∀ y ∈ ps.zip us, sc.names.lookup y.1 = some .local ∨
      (sc.names.lookup y.1 = some .cell ∧
        ((cellsFrom (s.heap.objs.size + 1) sc.names []).lookup y.1).isSome
          = true) := by
    rintro ⟨n, v⟩ hy
    cases S.par n (List.of_mem_zip hy).1 with
    | inl q => exact Or.inl q
    | inr q => exact Or.inr ⟨q, PySem.W.cellsFrom_some _ _ _ (.inl q)⟩
  refine codeAny_call_function room.depth (kin _ _ lk) rfl S.co S.gen rfl
    (PySem.W.codeRec_of kin hc) (bnd _ _ _ _ ?_)
  refine wpAny_newFunctionEnv_cells S.kind kinds ?_
  intro env' he s1 x
  subst he
  refine ⟨nol.keeps x.toInCall.keep, codeAny_func ?_⟩
  obtain ⟨t, ht, hq⟩ := body A outer s H vs Q E (room.deeper _) gd hsp
  have I := inv_start (CX := CX) (E := E) S room.hd env
    (len _ _ _ _ hsp) rel x
  refine wpAny_mono (ht.run [] s1 (start N vs) H _ I hq) ?_
    (fun e s' z => z)
  intro fl s' hs
  cases fl with
  | ret u =>
    obtain ⟨v, σ', H', J, rv, q⟩ := hs
    exact ⟨v, H', J.os, J.bare, J.base, J.hok, rv, q⟩
  | next =>
    obtain ⟨σ', H', J, q⟩ := hs
    exact ⟨V.non, H', J.os, J.bare, J.base, J.hok, rfl, q⟩
  | brk => exact (hs.choose_spec.choose_spec.2 : False).elim
  | cont => exact (hs.choose_spec.choose_spec.2 : False).elim

/-- a def of the text, by its body -/
theorem okG {x qual : Str} {st : Stmt} {f : Addr} {fd : FuncData}
    {N ps : List Str} {k : Nat} {sp : Sp} (F : Fun K x qual st f fd)
    (S : FnScope N ps (defScope st))
    (len : ∀ vs H Q E, sp vs H Q E → vs.length = ps.length)
    (body : ∀ (cv : Value) (A : Around) (outer : List Env) (s : Shared)
        (H : Hp) (vs : List V) (Q : VK) (E : XK),
      Room k (A.deeper (envOfC qual (defScope st) s.heap.objs.size f cv)) →
      A.guards = some [] → sp vs H Q E →
      ∃ t, PSs (cxOf CX0 P w K mg base N qual (defScope st) f cv A
          outer s H E).nox (defBody st) t ∧
        t { nx := fun _ H' => Q .non H', rt := Q } (start N vs) H) :
    FnG P w K mg base CX0 (k + 1) f fd ps sp := by
  obtain ⟨oc, od, kV, dc, pm, an, cv, ct, sl, rfl, lk, hc⟩ := F.ex
  refine FnG.mk' lk hc S len ?_
  intro A outer s H vs Q E room gd hsp
  obtain ⟨t, h, q⟩ := body cv A outer s H vs Q E room gd hsp
  exact ⟨t, h.nox, q⟩
end

section
variable {X : Cx} {CX : CXT} {k : Nat} {f : Addr} {fd : FuncData}
  {ps : List Str} {sp : Sp} {dvs : List V} {ds : List Value} {E : XK}
theorem runG {pins : List (Addr × Obj)} {σ : L2.St} {H : Hp} {s : Shared}
    {Q : VK} {us : List Value} {vs : List V}
    (F : FnG X.prog X.w X.K X.mg X.base CX k f fd ps sp)
    (room : Room k X.A) (gd : X.A.guards = some [])
    (hb : Binds X.K fd ps ds) (hd : Vals dvs ds) (hx : Passes CX X E)
    (I : Inv X pins σ H s) (r : Vals vs us) (h : sp (vs ++ dvs) H Q E) :
    wpAny (model X.prog X.w) X.A (call (.ref f) us) (EP X pins σ Q) X.xe s := by
  have rr := r.append hd
  have hl : (us ++ ds).length = ps.length :=
    rr.length.symm.trans (F.len _ _ _ _ h)
  refine wpAny_call (codeAny_mono (F.run X.A X.stack s H ⟨us, []⟩ (us ++ ds)
    (vs ++ dvs) Q E room gd I.env0 (hb s us I.kIn hl) rr h) ?_)
  intro r s' hq
  match r, hq with
  | .error e, hq => exact hx pins σ H s e s' I hq
  | .ok (.ret u), hq => exact I.after hq
  | .ok .next, hq => exact False.elim hq
  | .ok .brk, hq => exact False.elim hq
  | .ok .cont, hq => exact False.elim hq

theorem pe_callG {x : Str} {p pos : Pos} {e : Expr} {es : List Expr} {t : TA}
    (F : FnG X.prog X.w X.K X.mg X.base CX k f fd ps sp)
    (room : Room k X.A) (gd : X.A.guards = some []) (hg : Gl X x)
    (hm : X.mg x = some (.ref f)) (hk : PySem.W.keepIn X.K (.ref f) = true)
    (hb : Binds X.K fd ps ds) (hd : Vals dvs ds) (hx : Passes CX X E)
    (ha : PA X (e :: es) t)
    (h1 : (x == ("__debug__" : Str)) = false := by decide)
    (h2 : starEach (e :: es) X.env =
      (false, eval e X.env) :: starEach es X.env := by rfl)
    (h3 : (backTo pos (starEach es X.env)).any (·.1) = false := by rfl) :
    PE X (.Call (.Name x p) (e :: es) [] pos) (tCall sp dvs E t) := by
  constructor
  intro pins s σ H Q I h
  refine wpAny_Call_Name_kw (ld_glob I hg hm ?_ h1)
  refine PySem.W.callWith_K (h₀ := X.base) I.ok.mod.kin hk
    (thn (ha.run pos pins s σ H _ I h) ?_) h2 h3
  rintro us s1 ⟨vs, H1, I1, r, q⟩
  exact ⟨I1.kIn, runG F room gd hb hd hx I1 r q⟩
end

/-! ### repr of data -/
section
variable {X : Cx}
theorem DpAll.noDict : ∀ {K : PySem.W.Frag} {H : Hp} (ds : List PyData)
    {vs : List V}, (∀ d ∈ ds, ∀ v, Dp K H v d → d.hasDict = false) →
    DpAll K H vs ds → PyData.hasDictAll ds = false
  | _, _, [], _, _, _ => by simp only [PyData.hasDictAll]
  | _, _, d :: ds, _, f, h => by
    cases h with
    | cons h1 h2 =>
      simp only [PyData.hasDictAll]
      rw [f d List.mem_cons_self _ h1,
        DpAll.noDict ds (fun e he => f e (List.mem_cons_of_mem _ he)) h2]
      rfl
mutual
theorem Dp.noDict {K : PySem.W.Frag} {H : Hp} :
    ∀ (d : PyData) {v : V}, Dp K H v d → d.hasDict = false
  | .none, _, _ => by simp only [PyData.hasDict]
  | .bool _, _, _ => by simp only [PyData.hasDict]
  | .int _, _, _ => by simp only [PyData.hasDict]
  | .str _, _, _ => by simp only [PyData.hasDict]
  | .list ds, _, h => by
    cases h with
    | lst _ h => simp only [PyData.hasDict]; exact Dp.noDicts ds h
  | .tuple ds, _, h => by
    cases h with
    | tup _ h => simp only [PyData.hasDict]; exact Dp.noDicts ds h
  | .dict _, _, h => by cases h
theorem Dp.noDicts {K : PySem.W.Frag} {H : Hp} :
    ∀ (ds : List PyData) {vs : List V}, DpAll K H vs ds →
      PyData.hasDictAll ds = false
  | [], _, _ => by simp only [PyData.hasDictAll]
  | d :: ds, _, h => by
    cases h with
    | cons h1 h2 =>
      simp only [PyData.hasDictAll]
      rw [Dp.noDict d h1, Dp.noDicts ds h2]
      rfl
end
/-- repr(x) of data without dicts -/
def rRepr (K : PySem.W.Frag) : List V → Hp → VK → Prop := fun xs H Q =>
  ∃ v d, xs = [v] ∧ Dp K H v d ∧ d.showable = true ∧ d.depth ≤ 60 ∧
    d.shown.length ≤ sizeLine ∧ Q (.str d.shown) H
theorem call_reprD {k : Nat} (room : Room k X.A)
    (gd : X.A.guards = some []) :
    CallR X (.builtin "repr") (rRepr X.K) := by
  intro pins s σ H xs us Q I r h
  obtain ⟨v, d, rfl, hd, sh, dp, sz, q⟩ := h
  cases r with
  | cons rv rn =>
    cases rn
    rename_i u
    obtain ⟨as, rd⟩ := Dp.reads I d v u hd rv
    have un := room.units
    cases hd with
    | non =>
      cases rv
      exact PySem.P.repr_of_none ⟨.str _, H, I.tok _, ⟨_, rfl⟩, q⟩
    | bl b =>
      cases rv
      exact PySem.P.repr_of_bool ⟨.str _, H, I.tok _, ⟨_, rfl⟩, q⟩
    | int i =>
      obtain ⟨t, rfl⟩ := rv
      refine PySem.P.repr_of_int ?_ ⟨.str _, H, I.tok _, ⟨_, rfl⟩, q⟩
      simpa [PyData.showable] using sh
    | str x =>
      obtain ⟨t, rfl⟩ := rv
      exact PySem.P.repr_of_str ⟨.str _, H, I.tok _, ⟨_, rfl⟩, q⟩ sz
    | lst a b =>
      cases rv
      refine repr_of_reads' rd sh (PyData.noDict_hsm
        (Dp.noDict _ (Dp.lst a b))) gd (by omega) (fun _ _ e => e)
        (fun h' u tk hk => ?_) sz
      exact ⟨.str _, H, I.kept hk, ⟨_, rfl⟩, q⟩
    | tup a b =>
      cases rv
      refine repr_of_reads' rd sh (PyData.noDict_hsm
        (Dp.noDict _ (Dp.tup a b))) gd (by omega) (fun _ _ e => e)
        (fun h' u tk hk => ?_) sz
      exact ⟨.str _, H, I.kept hk, ⟨_, rfl⟩, q⟩
end
end OM
namespace OM
open PySem PySem.Spec PyProof.Rows L2

/-- the law's call, nothing being shown around it -/
theorem lawG {P : Program} {w : World} {K : PySem.W.Frag}
    {mg mb : Str → Option Value} {k : Nat} {fa a : Addr} {fd : FuncData}
    {x : Str} {sp : Sp} {s1 : Shared} {vs : List Value} {ns : List Int}
    (kin : K.In s1.heap) (glob : s1.heap.Ns mainGlobals mg)
    (blt : s1.heap.Ns builtinsNs mb)
    (boot : ∀ x : Str, x ≠ "__name__" → mb x = bootBuiltins x)
    (nol : s1.heap.NoLimit) (gens : s1.gens = #[])
    (ha : s1.heap.get? a =
      some { cls := .type "list", data := .seq vs.toArray })
    (hints : IntsAre vs ns) (hl : ns.length ≤ sizeLine)
    (room : Room k callerA)
    (F : ∀ base : Heap, K.In base → base.Ns mainGlobals mg →
      FnG P w K mg base CX0 k fa fd [x] sp)
    (bind : ∀ (s : Shared) (u : Value), BindsTo s fd ⟨[u], []⟩ [(x, u)])
    (hsp : ∀ H : Hp, Only H → SqL K H a (ns.map V.int) →
      sp [.ref a] H (fun v _ => v = .bl true) E0) :
    codeAny (model P w) callerA (.call (.ref fa) ⟨[.ref a], []⟩)
      (fun r s' => r = .ok (.ret (.bool true)) ∧ OldK s1.heap s'.heap ∧
        s'.os = s1.os ∧ AllBare s'.gens) s1 := by
  have rel := vals_ints hints
  have lv := hints.length
  -- H tracks the script alone, or nothing
  suffices core : ∀ H : Hp, Only H → SqL K H a (ns.map V.int) →
      HOk P w H s1.heap → (∀ b, H b ≠ none → b = a) →
      (H a ≠ none → K.lookup a = none) →
      codeAny (model P w) callerA (.call (.ref fa) ⟨[.ref a], []⟩)
        (fun r s' => r = .ok (.ret (.bool true)) ∧ OldK s1.heap s'.heap ∧
          s'.os = s1.os ∧ AllBare s'.gens) s1 by
    by_cases hk : ∃ o, K.lookup a = some o
    · obtain ⟨o, hk⟩ := hk
      have e := kin a o hk
      rw [ha] at e
      cases e
      refine core (fun _ => none) (fun _ => Or.inl rfl) (Or.inr ?_)
        (fun b u z => ?_) (fun b z => absurd rfl z) (fun z => absurd rfl z)
      · exact ⟨_, vs.toArray, _, hk, rfl, rfl, rfl,
          by rw [List.size_toArray, lv]; exact hl, by simpa using rel⟩
      · cases (show (none : Option HO) = some u from z)
    · have hk : K.lookup a = none := by
        cases q : K.lookup a with
        | none => rfl
        | some o => exact absurd ⟨o, q⟩ hk
      let ob : Obj := { cls := .type "list", data := .seq vs.toArray }
      refine core (fun b => if b = a then
          some (.frz ob (.lst (ns.map V.int))) else none)
        (fun b => ?_) (Or.inl (Or.inr ⟨ob, if_pos rfl⟩))
        (fun b u z => ?_) (fun b z => ?_) (fun _ => hk)
      · by_cases hb : b = a
        · exact Or.inr ⟨_, _, if_pos hb⟩
        · exact Or.inl (if_neg hb)
      · by_cases hb : b = a
        · cases (if_pos hb).symm.trans z
          subst hb
          exact ⟨ha, by rw [List.length_map]; exact hl, vs, _, rel, ha⟩
        · cases (if_neg hb).symm.trans z
      · by_cases hb : b = a
        · exact hb
        · exact absurd (if_neg hb) z
  intro H only sq ok alone notK
  have untracked : ∀ {b : Addr} {o : Obj}, s1.heap.get? b = some o →
      (∀ z, o.data ≠ .seq z 0) → H b = none := by
    intro b o e d
    cases q : H b with
    | none => rfl
    | some u =>
      have z : b = a := alone b (by rw [q]; exact nofun)
      subst z
      rw [ha] at e
      cases e
      exact absurd rfl (d _)
  have ns' : ∀ {b : Addr} {m : Str → Option Value}, s1.heap.Ns b m →
      (hidT s1.heap H).Ns b m := by
    rintro b m ⟨o, es, ep, e, d, r⟩
    refine ⟨o, es, ep, hidT_get e (untracked e fun z y => ?_), d, r⟩
    cases d.symm.trans y
  have kin' : K.In (hidT s1.heap H) := by
    intro b o e
    refine hidT_get (kin b o e) ?_
    cases q : H b with
    | none => rfl
    | some u =>
      have z : b = a := alone b (by rw [q]; exact nofun)
      subst z
      rw [notK (by rw [q]; exact nofun)] at e
      cases e
  have md : Mod K mg (hidT s1.heap H) := by
    obtain ⟨mc, h1, h2⟩ := nol
    exact ⟨kin', ns' glob, ⟨mb, ns' blt, boot⟩, ⟨mc, ns' h1, h2⟩⟩
  have env : Env0 P w K mg (hidT s1.heap H) callerA [] s1 H :=
    ⟨rfl, md, fun b o e => of_hidT e, Nat.le_of_eq (hidT_size _ _), trivial,
      fun b hb => (nomatch (show b ∈ ([] : List Addr) from hb)), ok,
      .of_eq gens⟩
  refine codeAny_mono ((F _ kin' (ns' glob)).run callerA [] s1 H ⟨[.ref a], []⟩
    [.ref a] [.ref a] _ _ room rfl env (bind s1 (.ref a)) (.cons rfl .nil)
    (hsp H only sq)) ?_
  intro r s' h
  match r, h with
  | .error e, h => exact False.elim h
  | .ok .next, h => exact False.elim h
  | .ok .brk, h => exact False.elim h
  | .ok .cont, h => exact False.elim h
  | .ok (.ret u), h =>
    obtain ⟨v, H', os, bare, un, ok', rv, q⟩ := h
    cases (show v = .bl true from q)
    cases (show u = Value.bool true from rv)
    refine ⟨rfl, OldK.of_keep fun b o e => ?_, os, bare⟩
    cases q : H b with
    | none =>
      exact un.keep b o e q
        (fun z => nomatch (show b ∈ ([] : List Addr) from z)) (by simp)
    | some u =>
      cases only b with
      | inl z => rw [q] at z; cases z
      | inr z =>
        obtain ⟨ob, xs, z⟩ := z
        have e1 := (ok b _ z).1
        have e2 := (ok' b _ (un.frzs b ob _ z)).1
        rw [e] at e1
        cases e1
        exact e2

/-- what the head leaves, from the law's promise -/
theorem walkG {l : PySem.W.OpenLaw} {n k : Nat} {q : Program} {ls : List Str}
    {XP : (Str → Option Value) → Heap → Prop} {YP : World → Heap → Prop}
    {d : DefRec} {K : Params → PySem.W.Frag} {sp : PySem.W.Frag → Sp} {x : Str}
    (hn : l.most = some n) (hn2 : n ≤ sizeLine)
    (hdf : d.params.defaults = []) (room : Room k callerA)
    (hY : ∀ (w : World) (h : Heap), YP w h → (K w.params).In h)
    (F : ∀ (w : World) (mg : Str → Option Value) (fa : Addr) (h : Heap),
      (K w.params).In h → h.Ns mainGlobals mg → mg d.name = some (.ref fa) →
      ∃ fd : FuncData,
        (∀ (s : Shared) (u : Value), BindsTo s fd ⟨[u], []⟩ [(x, u)]) ∧
        ∀ base : Heap, (K w.params).In base → base.Ns mainGlobals mg →
          FnG l.prog w (K w.params) mg base CX0 k fa fd [x]
            (sp (K w.params)))
    (hsp : ∀ (K : PySem.W.Frag) (H : Hp) (a : Addr) (ns : List Int),
      ns.length ≤ n → Only H → SqL K H a (ns.map V.int) →
      sp K [.ref a] H (fun v _ => v = .bl true) E0) :
    PySem.W.WalkO q ls XP YP l.row.toRowW d []
      (fun f vs => PySem.call f vs) := by
  refine Att.attach_call hn hdf ?_
  intro w s₀ s1 mg mb fa o pm cd doc a vs ns G Y ho hd hcd hmg hobj hi hlen hg
  have KX := hY w _ Y
  obtain ⟨fd, hb, hF⟩ := F w mg fa _ KX G.T.g hmg
  exact lawG KX G.T.g G.T.b G.T.builtins G.T.nolimit hg hobj hi
    (Nat.le_trans hlen hn2) room hF hb
    (fun H hO hS => hsp (K w.params) H a ns hlen hO hS)
end OM
namespace OM
open PySem PySem.Spec PyProof.Rows L2

/-! ### a callee, in one word -/
structure Cal (P : Program) (w : World) (K : PySem.W.Frag)
    (mg : Str → Option Value) (base : Heap) (k : Nat) (x : Str)
    (ps : List Str) (sp : Sp) : Prop where
  ex : ∃ f fd, FnOk P w K mg base CX0 k f fd ps sp ∧
    mg x = some (.ref f) ∧ PySem.W.keepIn K (.ref f) = true ∧
    Binds K fd ps []
structure CalG (P : Program) (w : World) (K : PySem.W.Frag)
    (mg : Str → Option Value) (base : Heap) (k : Nat) (x : Str)
    (ps : List Str) (sp : Sp) : Prop where
  ex : ∃ f fd, FnG P w K mg base CX0 k f fd ps sp ∧
    mg x = some (.ref f) ∧ PySem.W.keepIn K (.ref f) = true ∧
    Binds K fd ps []
section
variable {X : Cx} {k : Nat} {ps : List Str} {sp : Sp} {x : Str}
  {p pos : Pos} {e : Expr} {es : List Expr} {t : TA}
theorem pe_cal (C : Cal X.prog X.w X.K X.mg X.base k x ps sp)
    (room : Room k X.A) (ha : PA X (e :: es) t)
    (hg : Gl X x := by rfl)
    (h1 : (x == ("__debug__" : Str)) = false := by decide)
    (h2 : starEach (e :: es) X.env =
      (false, eval e X.env) :: starEach es X.env := by rfl)
    (h3 : (backTo pos (starEach es X.env)).any (·.1) = false := by rfl) :
    PE X (.Call (.Name x p) (e :: es) [] pos) (tCall sp [] E0 t) := by
  obtain ⟨f, fd, F, m, kp, b⟩ := C.ex
  exact pe_call F room hg m kp b .nil pass0 ha h1 h2 h3
theorem pe_calG (C : CalG X.prog X.w X.K X.mg X.base k x ps sp)
    (room : Room k X.A) (gd : X.A.guards = some [])
    (ha : PA X (e :: es) t)
    (hg : Gl X x := by rfl)
    (h1 : (x == ("__debug__" : Str)) = false := by decide)
    (h2 : starEach (e :: es) X.env =
      (false, eval e X.env) :: starEach es X.env := by rfl)
    (h3 : (backTo pos (starEach es X.env)).any (·.1) = false := by rfl) :
    PE X (.Call (.Name x p) (e :: es) [] pos) (tCall sp [] E0 t) := by
  obtain ⟨f, fd, F, m, kp, b⟩ := C.ex
  exact pe_callG F room gd hg m kp b .nil pass0 ha h1 h2 h3
end

/-! ### heaps: what may have changed -/
/-- all but p is as it was -/
def But (p : Addr) (H H' : Hp) : Prop :=
  ∀ q o, H q = some o → q ≠ p → H' q = some o
theorem But.refl {p : Addr} (H : Hp) : But p H H := fun _ _ h _ => h
theorem But.trans {p : Addr} {H H1 H2 : Hp} (a : But p H H1)
    (b : But p H1 H2) : But p H H2 :=
  fun q o h n => b q o (a q o h n) n
theorem But.of {p : Addr} {H H' : Hp} (a : Same H H') : But p H H' :=
  fun q o h _ => a q o h
theorem But.new {p q : Addr} {o : HO} {H H' : Hp} (a : But p H H')
    (n : H q = none) : But p H (upd H' q o) := fun b u h nb => by
  rw [upd_ne (ne_of_none h n)]
  exact a b u h nb
theorem But.at {p : Addr} {o : HO} {H H' : Hp} (a : But p H H') :
    But p H (upd H' p o) := fun b u h nb => by
  rw [upd_ne nb]
  exact a b u h nb
theorem But.same {p : Addr} {H H' : Hp} (a : But p H H')
    (n : H p = none) : Same H H' := fun q o h =>
  a q o h (ne_of_none h n)
theorem sameNew {H : Hp} {p : Addr} {o : HO} (h : H p = none) :
    Same H (upd H p o) := fun b x e => by
  rw [upd_ne (ne_of_none e h)]
  exact e
theorem Same.put {H H' : Hp} {p : Addr} {o : HO} (a : Same H H')
    (h : H p = none) : Same H (upd H' p o) := fun b x e => by
  rw [upd_ne (ne_of_none e h)]
  exact a b x e
theorem But.free {p q : Addr} {H H' : Hp} (a : But p H H') (n : q ≠ p)
    (h : H' q = none) : H q = none := by
  cases e : H q with
  | none => rfl
  | some o => rw [a q o e n] at h; cases h
theorem But.seq {K : PySem.W.Frag} {p a : Addr} {H H' : Hp} {xs : List V}
    (b : But p H H') (h : SqL K H a xs) (n : a ≠ p) : SqL K H' a xs := by
  rcases h with (h | ⟨o, h⟩) | h
  · exact .inl (.inl (b _ _ h n))
  · exact .inl (.inr ⟨o, b _ _ h n⟩)
  · exact .inr h

/-! ### the built-ins' names -/
structure Bl (mg : Str → Option Value) : Prop where
  len : mg "len" = none
  divmod : mg "divmod" = none
  abs : mg "abs" = none
  max : mg "max" = none
  min : mg "min" = none
  range : mg "range" = none
  enum : mg "enumerate" = none
  isi : mg "isinstance" = none
  str : mg "str" = none
  list : mg "list" = none
  set : mg "set" = none
  all : mg "all" = none
  repr : mg "repr" = none
theorem bt_divmod : bootBuiltins "divmod" = some (.builtin "divmod") := by
  decide +kernel
theorem bt_abs : bootBuiltins "abs" = some (.builtin "abs") := by
  decide +kernel
theorem bt_max : bootBuiltins "max" = some (.builtin "max") := by
  decide +kernel
theorem bt_min : bootBuiltins "min" = some (.builtin "min") := by
  decide +kernel
theorem bt_isi : bootBuiltins "isinstance" = some (.builtin "isinstance") := by
  decide +kernel
theorem bt_str : bootBuiltins "str" = some (.type "str") := by
  decide +kernel
theorem bt_list : bootBuiltins "list" = some (.type "list") := by
  decide +kernel
theorem bt_set : bootBuiltins "set" = some (.type "set") := by
  decide +kernel
theorem bt_all : bootBuiltins "all" = some (.builtin "all") := by
  decide +kernel
theorem bt_repr : bootBuiltins "repr" = some (.builtin "repr") := by
  decide +kernel

/-! ### the drawing state -/
def Rng (H : Hp) (p : Addr) : Prop :=
  ∃ a b : Int, H p = some (.lst [.int a, .int b]) ∧ 0 ≤ a ∧ 0 ≤ b ∧
    b < 2147483647
theorem Rng.but {H H' : Hp} {p q : Addr} (r : Rng H p) (b : But q H H')
    (n : p ≠ q) : Rng H' p := by
  obtain ⟨x, y, e, z⟩ := r
  exact ⟨x, y, b _ _ e n, z⟩
theorem Rng.same {H H' : Hp} {p : Addr} (r : Rng H p) (b : Same H H') :
    Rng H' p := by
  obtain ⟨x, y, e, z⟩ := r
  exact ⟨x, y, b _ _ e, z⟩
theorem Rng.ne {H : Hp} {p q : Addr} (r : Rng H p) (n : H q = none) :
    p ≠ q := by
  obtain ⟨x, y, e, z⟩ := r
  exact ne_of_none e n

/-- a draw below m: some number, the state moved on -/
def spDraw : Sp := fun vs H Q _ => ∃ (p : Addr) (m : Int),
  vs = [.ref p, .int m] ∧ Rng H p ∧ 0 < m ∧ m < 1000000 ∧
  ∀ (d : Int) (H' : Hp), 0 ≤ d → d < m → Rng H' p → But p H H' →
    Q (.int d) H'
/-- a new drawing state -/
def spRng (K : PySem.W.Frag) : Sp := fun vs H Q _ =>
  ∃ (a : Addr) (ns : List Int) (k : Nat), vs = [.ref a, .int k] ∧
  SqL K H a (ns.map V.int) ∧ k ≤ 1000 ∧
  ∀ (p : Addr) (H' : Hp), H p = none → Rng H' p → Same H H' →
    Q (.ref p) H'
end OM
namespace OM
open PySem PySem.Spec PyProof.Rows L2
def topS (i : Nat) : Stmt :=
  PySem.Challenge.pw_ordermerge_k35_moves_keep_the_order.main.body.getD i
    (.Pass ⟨0, 0, 0, 0⟩)
abbrev s_InvalidBase_init : Stmt := inClass (topS 3) 0
abbrev N_InvalidBase_init : List Str := ["self", "problem", "position"]
theorem sc_InvalidBase_init : FnScope N_InvalidBase_init
    ["self", "problem", "position"] (defScope s_InvalidBase_init) :=
  ⟨rfl, rfl, rfl, by decide +kernel, rfl,
    by decide +kernel, by decide +kernel⟩
abbrev s_InvalidIndex_init : Stmt := inClass (topS 4) 0
abbrev N_InvalidIndex_init : List Str := ["self", "value"]
theorem sc_InvalidIndex_init : FnScope N_InvalidIndex_init
    ["self", "value"] (defScope s_InvalidIndex_init) :=
  ⟨rfl, rfl, rfl, by decide +kernel, rfl,
    by decide +kernel, by decide +kernel⟩
abbrev s_InvalidReason_init : Stmt := inClass (topS 5) 0
abbrev N_InvalidReason_init : List Str := ["self", "value"]
theorem sc_InvalidReason_init : FnScope N_InvalidReason_init
    ["self", "value"] (defScope s_InvalidReason_init) :=
  ⟨rfl, rfl, rfl, by decide +kernel, rfl,
    by decide +kernel, by decide +kernel⟩
abbrev s_InvalidCount_init : Stmt := inClass (topS 6) 0
abbrev N_InvalidCount_init : List Str := ["self", "value"]
theorem sc_InvalidCount_init : FnScope N_InvalidCount_init
    ["self", "value"] (defScope s_InvalidCount_init) :=
  ⟨rfl, rfl, rfl, by decide +kernel, rfl,
    by decide +kernel, by decide +kernel⟩
abbrev s_InvalidWord_init : Stmt := inClass (topS 7) 0
abbrev N_InvalidWord_init : List Str := ["self", "position"]
theorem sc_InvalidWord_init : FnScope N_InvalidWord_init
    ["self", "position"] (defScope s_InvalidWord_init) :=
  ⟨rfl, rfl, rfl, by decide +kernel, rfl,
    by decide +kernel, by decide +kernel⟩
abbrev s_InvalidMove_init : Stmt := inClass (topS 8) 0
abbrev N_InvalidMove_init : List Str := ["self", "value"]
theorem sc_InvalidMove_init : FnScope N_InvalidMove_init
    ["self", "value"] (defScope s_InvalidMove_init) :=
  ⟨rfl, rfl, rfl, by decide +kernel, rfl,
    by decide +kernel, by decide +kernel⟩
abbrev s_UnknownItem_init : Stmt := inClass (topS 9) 0
abbrev N_UnknownItem_init : List Str := ["self", "value"]
theorem sc_UnknownItem_init : FnScope N_UnknownItem_init
    ["self", "value"] (defScope s_UnknownItem_init) :=
  ⟨rfl, rfl, rfl, by decide +kernel, rfl,
    by decide +kernel, by decide +kernel⟩
abbrev s_is_integer : Stmt := topS 11
abbrev N_is_integer : List Str := ["value"]
theorem sc_is_integer : FnScope N_is_integer
    ["value"] (defScope s_is_integer) :=
  ⟨rfl, rfl, rfl, by decide +kernel, rfl,
    by decide +kernel, by decide +kernel⟩
abbrev s_is_integer_from : Stmt := topS 12
abbrev N_is_integer_from : List Str := ["value", "low", "high"]
theorem sc_is_integer_from : FnScope N_is_integer_from
    ["value", "low", "high"] (defScope s_is_integer_from) :=
  ⟨rfl, rfl, rfl, by decide +kernel, rfl,
    by decide +kernel, by decide +kernel⟩
abbrev s_is_name : Stmt := topS 16
abbrev N_is_name : List Str := ["value", "letter"]
theorem sc_is_name : FnScope N_is_name
    ["value"] (defScope s_is_name) :=
  ⟨rfl, rfl, rfl, by decide +kernel, rfl,
    by decide +kernel, by decide +kernel⟩
abbrev s_names_fault : Stmt := topS 17
abbrev N_names_fault : List Str := ["value", "most", "seen", "at", "name"]
theorem sc_names_fault : FnScope N_names_fault
    ["value", "most"] (defScope s_names_fault) :=
  ⟨rfl, rfl, rfl, by decide +kernel, rfl,
    by decide +kernel, by decide +kernel⟩
abbrev s_check_items : Stmt := topS 18
abbrev N_check_items : List Str := ["items", "fault", "problem", "position"]
theorem sc_check_items : FnScope N_check_items
    ["items"] (defScope s_check_items) :=
  ⟨rfl, rfl, rfl, by decide +kernel, rfl,
    by decide +kernel, by decide +kernel⟩
abbrev s_Base_init : Stmt := inClass (topS 19) 0
abbrev N_Base_init : List Str := ["self", "items", "name", "at"]
theorem sc_Base_init : FnScope N_Base_init
    ["self", "items"] (defScope s_Base_init) :=
  ⟨rfl, rfl, rfl, by decide +kernel, rfl,
    by decide +kernel, by decide +kernel⟩
abbrev s_Base_eq : Stmt := inClass (topS 19) 1
abbrev N_Base_eq : List Str := ["self", "other"]
theorem sc_Base_eq : FnScope N_Base_eq
    ["self", "other"] (defScope s_Base_eq) :=
  ⟨rfl, rfl, rfl, by decide +kernel, rfl,
    by decide +kernel, by decide +kernel⟩
abbrev s_Base_len : Stmt := inClass (topS 19) 2
abbrev N_Base_len : List Str := ["self"]
theorem sc_Base_len : FnScope N_Base_len
    ["self"] (defScope s_Base_len) :=
  ⟨rfl, rfl, rfl, by decide +kernel, rfl,
    by decide +kernel, by decide +kernel⟩
abbrev s_Base_repr : Stmt := inClass (topS 19) 3
abbrev N_Base_repr : List Str := ["self"]
theorem sc_Base_repr : FnScope N_Base_repr
    ["self"] (defScope s_Base_repr) :=
  ⟨rfl, rfl, rfl, by decide +kernel, rfl,
    by decide +kernel, by decide +kernel⟩
abbrev s_Base_names : Stmt := inClass (topS 19) 4
abbrev N_Base_names : List Str := ["self"]
theorem sc_Base_names : FnScope N_Base_names
    ["self"] (defScope s_Base_names) :=
  ⟨rfl, rfl, rfl, by decide +kernel, rfl,
    by decide +kernel, by decide +kernel⟩
abbrev s_Base_has_item : Stmt := inClass (topS 19) 5
abbrev N_Base_has_item : List Str := ["self", "value"]
theorem sc_Base_has_item : FnScope N_Base_has_item
    ["self", "value"] (defScope s_Base_has_item) :=
  ⟨rfl, rfl, rfl, by decide +kernel, rfl,
    by decide +kernel, by decide +kernel⟩
abbrev s_Base_position_of : Stmt := inClass (topS 19) 6
abbrev N_Base_position_of : List Str := ["self", "item"]
theorem sc_Base_position_of : FnScope N_Base_position_of
    ["self", "item"] (defScope s_Base_position_of) :=
  ⟨rfl, rfl, rfl, by decide +kernel, rfl,
    by decide +kernel, by decide +kernel⟩
abbrev s_Base_precedes : Stmt := inClass (topS 19) 7
abbrev N_Base_precedes : List Str := ["self", "first", "second"]
theorem sc_Base_precedes : FnScope N_Base_precedes
    ["self", "first", "second"] (defScope s_Base_precedes) :=
  ⟨rfl, rfl, rfl, by decide +kernel, rfl,
    by decide +kernel, by decide +kernel⟩
abbrev s_check_item : Stmt := topS 20
abbrev N_check_item : List Str := ["base", "value"]
theorem sc_check_item : FnScope N_check_item
    ["base", "value"] (defScope s_check_item) :=
  ⟨rfl, rfl, rfl, by decide +kernel, rfl,
    by decide +kernel, by decide +kernel⟩
abbrev s_pair_of : Stmt := topS 21
abbrev N_pair_of : List Str := ["base", "first", "second"]
theorem sc_pair_of : FnScope N_pair_of
    ["base", "first", "second"] (defScope s_pair_of) :=
  ⟨rfl, rfl, rfl, by decide +kernel, rfl,
    by decide +kernel, by decide +kernel⟩
abbrev s_is_swap_index : Stmt := topS 23
abbrev N_is_swap_index : List Str := ["base", "value"]
theorem sc_is_swap_index : FnScope N_is_swap_index
    ["base", "value"] (defScope s_is_swap_index) :=
  ⟨rfl, rfl, rfl, by decide +kernel, rfl,
    by decide +kernel, by decide +kernel⟩
abbrev s_check_swap_index : Stmt := topS 24
abbrev N_check_swap_index : List Str := ["base", "index"]
theorem sc_check_swap_index : FnScope N_check_swap_index
    ["base", "index"] (defScope s_check_swap_index) :=
  ⟨rfl, rfl, rfl, by decide +kernel, rfl,
    by decide +kernel, by decide +kernel⟩
abbrev s_exchanged : Stmt := topS 25
abbrev N_exchanged : List Str := ["order", "index"]
theorem sc_exchanged : FnScope N_exchanged
    ["order", "index"] (defScope s_exchanged) :=
  ⟨rfl, rfl, rfl, by decide +kernel, rfl,
    by decide +kernel, by decide +kernel⟩
abbrev s_goes_outward : Stmt := topS 26
abbrev N_goes_outward : List Str := ["base", "order", "index"]
theorem sc_goes_outward : FnScope N_goes_outward
    ["base", "order", "index"] (defScope s_goes_outward) :=
  ⟨rfl, rfl, rfl, by decide +kernel, rfl,
    by decide +kernel, by decide +kernel⟩
abbrev s_order_after_swaps : Stmt := topS 27
abbrev N_order_after_swaps : List Str := ["base", "indexes", "order", "index"]
theorem sc_order_after_swaps : FnScope N_order_after_swaps
    ["base", "indexes"] (defScope s_order_after_swaps) :=
  ⟨rfl, rfl, rfl, by decide +kernel, rfl,
    by decide +kernel, by decide +kernel⟩
abbrev s_pairs_of_swaps : Stmt := topS 28
abbrev N_pairs_of_swaps : List Str := ["base", "indexes", "order", "pairs", "index"]
theorem sc_pairs_of_swaps : FnScope N_pairs_of_swaps
    ["base", "indexes"] (defScope s_pairs_of_swaps) :=
  ⟨rfl, rfl, rfl, by decide +kernel, rfl,
    by decide +kernel, by decide +kernel⟩
abbrev s_word_fault : Stmt := topS 32
abbrev N_word_fault : List Str := ["base", "value", "order", "at", "index"]
theorem sc_word_fault : FnScope N_word_fault
    ["base", "value"] (defScope s_word_fault) :=
  ⟨rfl, rfl, rfl, by decide +kernel, rfl,
    by decide +kernel, by decide +kernel⟩
abbrev s_check_word : Stmt := topS 33
abbrev N_check_word : List Str := ["base", "word", "fault"]
theorem sc_check_word : FnScope N_check_word
    ["base", "word"] (defScope s_check_word) :=
  ⟨rfl, rfl, rfl, by decide +kernel, rfl,
    by decide +kernel, by decide +kernel⟩
abbrev s_is_word : Stmt := topS 34
abbrev N_is_word : List Str := ["base", "value"]
theorem sc_is_word : FnScope N_is_word
    ["base", "value"] (defScope s_is_word) :=
  ⟨rfl, rfl, rfl, by decide +kernel, rfl,
    by decide +kernel, by decide +kernel⟩
abbrev s_word_of : Stmt := topS 35
abbrev N_word_of : List Str := ["log"]
theorem sc_word_of : FnScope N_word_of
    ["log"] (defScope s_word_of) :=
  ⟨rfl, rfl, rfl, by decide +kernel, rfl,
    by decide +kernel, by decide +kernel⟩
abbrev s_order_of_word : Stmt := topS 36
abbrev N_order_of_word : List Str := ["base", "word"]
theorem sc_order_of_word : FnScope N_order_of_word
    ["base", "word"] (defScope s_order_of_word) :=
  ⟨rfl, rfl, rfl, by decide +kernel, rfl,
    by decide +kernel, by decide +kernel⟩
abbrev s_can_commute : Stmt := topS 37
abbrev N_can_commute : List Str := ["word", "position", "part"]
theorem sc_can_commute : FnScope N_can_commute
    ["word", "position"] (defScope s_can_commute) :=
  ⟨rfl, rfl, rfl, by decide +kernel, rfl,
    by decide +kernel, by decide +kernel⟩
abbrev s_can_braid : Stmt := topS 38
abbrev N_can_braid : List Str := ["word", "position", "part"]
theorem sc_can_braid : FnScope N_can_braid
    ["word", "position"] (defScope s_can_braid) :=
  ⟨rfl, rfl, rfl, by decide +kernel, rfl,
    by decide +kernel, by decide +kernel⟩
abbrev s_is_move : Stmt := topS 39
abbrev N_is_move : List Str := ["word", "value", "kind", "position"]
theorem sc_is_move : FnScope N_is_move
    ["word", "value"] (defScope s_is_move) :=
  ⟨rfl, rfl, rfl, by decide +kernel, rfl,
    by decide +kernel, by decide +kernel⟩
abbrev s_moved : Stmt := topS 40
abbrev N_moved : List Str := ["word", "move", "kind", "position", "first", "second"]
theorem sc_moved : FnScope N_moved
    ["word", "move"] (defScope s_moved) :=
  ⟨rfl, rfl, rfl, by decide +kernel, rfl,
    by decide +kernel, by decide +kernel⟩
abbrev s_apply_move : Stmt := topS 41
abbrev N_apply_move : List Str := ["base", "word", "move"]
theorem sc_apply_move : FnScope N_apply_move
    ["base", "word", "move"] (defScope s_apply_move) :=
  ⟨rfl, rfl, rfl, by decide +kernel, rfl,
    by decide +kernel, by decide +kernel⟩
abbrev s_is_reason : Stmt := topS 44
abbrev N_is_reason : List Str := ["value"]
theorem sc_is_reason : FnScope N_is_reason
    ["value"] (defScope s_is_reason) :=
  ⟨rfl, rfl, rfl, by decide +kernel, rfl,
    by decide +kernel, by decide +kernel⟩
abbrev s_check_reason : Stmt := topS 45
abbrev N_check_reason : List Str := ["reason"]
theorem sc_check_reason : FnScope N_check_reason
    ["reason"] (defScope s_check_reason) :=
  ⟨rfl, rfl, rfl, by decide +kernel, rfl,
    by decide +kernel, by decide +kernel⟩
abbrev s_SwapLog_init : Stmt := inClass (topS 46) 0
abbrev N_SwapLog_init : List Str := ["self", "base"]
theorem sc_SwapLog_init : FnScope N_SwapLog_init
    ["self", "base"] (defScope s_SwapLog_init) :=
  ⟨rfl, rfl, rfl, by decide +kernel, rfl,
    by decide +kernel, by decide +kernel⟩
abbrev s_SwapLog_eq : Stmt := inClass (topS 46) 1
abbrev N_SwapLog_eq : List Str := ["self", "other"]
theorem sc_SwapLog_eq : FnScope N_SwapLog_eq
    ["self", "other"] (defScope s_SwapLog_eq) :=
  ⟨rfl, rfl, rfl, by decide +kernel, rfl,
    by decide +kernel, by decide +kernel⟩
abbrev s_SwapLog_len : Stmt := inClass (topS 46) 2
abbrev N_SwapLog_len : List Str := ["self"]
theorem sc_SwapLog_len : FnScope N_SwapLog_len
    ["self"] (defScope s_SwapLog_len) :=
  ⟨rfl, rfl, rfl, by decide +kernel, rfl,
    by decide +kernel, by decide +kernel⟩
abbrev s_SwapLog_repr : Stmt := inClass (topS 46) 3
abbrev N_SwapLog_repr : List Str := ["self"]
theorem sc_SwapLog_repr : FnScope N_SwapLog_repr
    ["self"] (defScope s_SwapLog_repr) :=
  ⟨rfl, rfl, rfl, by decide +kernel, rfl,
    by decide +kernel, by decide +kernel⟩
abbrev s_SwapLog_base : Stmt := inClass (topS 46) 4
abbrev N_SwapLog_base : List Str := ["self"]
theorem sc_SwapLog_base : FnScope N_SwapLog_base
    ["self"] (defScope s_SwapLog_base) :=
  ⟨rfl, rfl, rfl, by decide +kernel, rfl,
    by decide +kernel, by decide +kernel⟩
abbrev s_SwapLog_order : Stmt := inClass (topS 46) 5
abbrev N_SwapLog_order : List Str := ["self"]
theorem sc_SwapLog_order : FnScope N_SwapLog_order
    ["self"] (defScope s_SwapLog_order) :=
  ⟨rfl, rfl, rfl, by decide +kernel, rfl,
    by decide +kernel, by decide +kernel⟩
abbrev s_SwapLog_entries : Stmt := inClass (topS 46) 6
abbrev N_SwapLog_entries : List Str := ["self"]
theorem sc_SwapLog_entries : FnScope N_SwapLog_entries
    ["self"] (defScope s_SwapLog_entries) :=
  ⟨rfl, rfl, rfl, by decide +kernel, rfl,
    by decide +kernel, by decide +kernel⟩
abbrev s_SwapLog_indexes : Stmt := inClass (topS 46) 7
abbrev N_SwapLog_indexes : List Str := ["self", "index", "reason"]
theorem sc_SwapLog_indexes : FnScope N_SwapLog_indexes
    ["self"] (defScope s_SwapLog_indexes) :=
  ⟨rfl, rfl, rfl, by decide +kernel, rfl,
    by decide +kernel, by decide +kernel⟩
abbrev s_SwapLog_swap : Stmt := inClass (topS 46) 8
abbrev N_SwapLog_swap : List Str := ["self", "index", "reason"]
theorem sc_SwapLog_swap : FnScope N_SwapLog_swap
    ["self", "index", "reason"] (defScope s_SwapLog_swap) :=
  ⟨rfl, rfl, rfl, by decide +kernel, rfl,
    by decide +kernel, by decide +kernel⟩
abbrev s_SwapLog_swap_checked : Stmt := inClass (topS 46) 9
abbrev N_SwapLog_swap_checked : List Str := ["self", "index", "reason", "cancelled"]
theorem sc_SwapLog_swap_checked : FnScope N_SwapLog_swap_checked
    ["self", "index", "reason"] (defScope s_SwapLog_swap_checked) :=
  ⟨rfl, rfl, rfl, by decide +kernel, rfl,
    by decide +kernel, by decide +kernel⟩
abbrev s_SwapLog_swap_each : Stmt := inClass (topS 46) 10
abbrev N_SwapLog_swap_each : List Str := ["self", "indexes", "reason", "cancelled", "index"]
theorem sc_SwapLog_swap_each : FnScope N_SwapLog_swap_each
    ["self", "indexes", "reason"] (defScope s_SwapLog_swap_each) :=
  ⟨rfl, rfl, rfl, by decide +kernel, rfl,
    by decide +kernel, by decide +kernel⟩
abbrev s_SwapLog_move : Stmt := inClass (topS 46) 11
abbrev N_SwapLog_move : List Str := ["self", "item", "index", "reason", "start"]
theorem sc_SwapLog_move : FnScope N_SwapLog_move
    ["self", "item", "index", "reason"] (defScope s_SwapLog_move) :=
  ⟨rfl, rfl, rfl, by decide +kernel, rfl,
    by decide +kernel, by decide +kernel⟩
abbrev s_SwapLog_entry_for : Stmt := inClass (topS 46) 18
abbrev N_SwapLog_entry_for : List Str := ["self", "first", "second", "pair", "pairs"]
theorem sc_SwapLog_entry_for : FnScope N_SwapLog_entry_for
    ["self", "first", "second"] (defScope s_SwapLog_entry_for) :=
  ⟨rfl, rfl, rfl, by decide +kernel, rfl,
    by decide +kernel, by decide +kernel⟩
abbrev s_Lrng : Stmt := topS 48
abbrev N_Lrng : List Str := ["_law_script", "_law_k", "_law_cell"]
theorem sc_Lrng : FnScope N_Lrng
    ["_law_script", "_law_k"] (defScope s_Lrng) :=
  ⟨rfl, rfl, rfl, by decide +kernel, rfl,
    by decide +kernel, by decide +kernel⟩
abbrev s_Ldraw : Stmt := topS 49
abbrev N_Ldraw : List Str := ["_law_rng_here", "_law_many", "_law_digit"]
theorem sc_Ldraw : FnScope N_Ldraw
    ["_law_rng_here", "_law_many"] (defScope s_Ldraw) :=
  ⟨rfl, rfl, rfl, by decide +kernel, rfl,
    by decide +kernel, by decide +kernel⟩
abbrev s_Lchoice : Stmt := topS 50
abbrev N_Lchoice : List Str := ["_law_rng_here", "_law_options"]
theorem sc_Lchoice : FnScope N_Lchoice
    ["_law_rng_here", "_law_options"] (defScope s_Lchoice) :=
  ⟨rfl, rfl, rfl, by decide +kernel, rfl,
    by decide +kernel, by decide +kernel⟩
abbrev s_Lname : Stmt := topS 51
abbrev N_Lname : List Str := ["_law_rng_here", "_law_used", "_law_letters", "_law_length", "_law_name_here", "_law_k", "_law_fresh", "_law_one"]
theorem sc_Lname : FnScope N_Lname
    ["_law_rng_here", "_law_used"] (defScope s_Lname) :=
  ⟨rfl, rfl, rfl, by decide +kernel, rfl,
    by decide +kernel, by decide +kernel⟩
abbrev s_Lnames : Stmt := topS 52
abbrev N_Lnames : List Str := ["_law_rng_here", "_law_many", "_law_used", "_law_result", "_law_k"]
theorem sc_Lnames : FnScope N_Lnames
    ["_law_rng_here", "_law_many", "_law_used"] (defScope s_Lnames) :=
  ⟨rfl, rfl, rfl, by decide +kernel, rfl,
    by decide +kernel, by decide +kernel⟩
abbrev s_Lmoves : Stmt := topS 53
abbrev N_Lmoves : List Str := ["_law_word", "_law_found", "_law_k"]
theorem sc_Lmoves : FnScope N_Lmoves
    ["_law_word"] (defScope s_Lmoves) :=
  ⟨rfl, rfl, rfl, by decide +kernel, rfl,
    by decide +kernel, by decide +kernel⟩
abbrev s_Lmoved : Stmt := topS 54
abbrev N_Lmoved : List Str := ["_law_word", "_law_move", "_law_found", "_law_k"]
theorem sc_Lmoved : FnScope N_Lmoved
    ["_law_word", "_law_move"] (defScope s_Lmoved) :=
  ⟨rfl, rfl, rfl, by decide +kernel, rfl,
    by decide +kernel, by decide +kernel⟩
abbrev s_Lodd_moves : Stmt := topS 55
abbrev N_Lodd_moves : List Str := ["_law_rng_here", "_law_word", "_law_k", "_law_some", "_law_one", "_law_move"]
theorem sc_Lodd_moves : FnScope N_Lodd_moves
    ["_law_rng_here", "_law_word"] (defScope s_Lodd_moves) :=
  ⟨rfl, rfl, rfl, by decide +kernel, rfl,
    by decide +kernel, by decide +kernel⟩
abbrev s_Ltold : Stmt := topS 56
abbrev N_Ltold : List Str := ["_law_base", "_law_word", "_law_move", "_law_told_here", "e", "_law_others"]
theorem sc_Ltold : FnScope N_Ltold
    ["_law_base", "_law_word", "_law_move"] (defScope s_Ltold) :=
  ⟨rfl, rfl, rfl, by decide +kernel, rfl,
    by decide +kernel, by decide +kernel⟩
abbrev s_Lword_right : Stmt := topS 57
abbrev N_Lword_right : List Str := ["_law_rng_here", "_law_base", "_law_word", "_law_order", "_law_kept", "_law_odd", "_law_move", "_law_told_here"]
theorem sc_Lword_right : FnScope N_Lword_right
    ["_law_rng_here", "_law_base", "_law_word", "_law_order"] (defScope s_Lword_right) :=
  ⟨rfl, rfl, rfl, by decide +kernel, rfl,
    by decide +kernel, by decide +kernel⟩
abbrev s_Llists_right : Stmt := topS 58
abbrev N_Llists_right : List Str := ["_law_base", "_law_items", "_law_log", "_law_word", "_law_shown", "_law_handed", "_law_indexes", "_law_entry", "_law_now", "_law_held", "_law_k"]
theorem sc_Llists_right : FnScope N_Llists_right
    ["_law_base", "_law_items", "_law_log", "_law_word"] (defScope s_Llists_right) :=
  ⟨rfl, rfl, rfl, by decide +kernel, rfl,
    by decide +kernel, by decide +kernel⟩
abbrev s_law : Stmt := topS 59
abbrev N_law : List Str := ["_law_script", "_law_k", "_law_rng_here", "_law_size", "_law_items", "_law_base", "_law_log", "_law_turn", "_law_word", "_law_entry", "_law_moves_here"]
theorem sc_law : FnScope N_law
    ["_law_script"] (defScope s_law) :=
  ⟨rfl, rfl, rfl, by decide +kernel, rfl,
    by decide +kernel, by decide +kernel⟩
end OM
namespace OM
open PySem PySem.Spec PyProof.Rows L2
section
variable {P : Program} {w : World} {K : PySem.W.Frag}
  {mg : Str → Option Value} {base : Heap}
theorem at0 (x y : V) : atI [x, y] 0 = some x := atI_nat (j := 0) rfl
theorem at1 (x y : V) : atI [x, y] 1 = some y := atI_nat (j := 1) rfl
theorem ok_draw {f : Addr} {fd : FuncData} {k : Nat}
    (F : Fun K "_law_draw" "_law_draw" s_Ldraw f fd) (B : Bl mg) :
    FnOk P w K mg base CX0 (k + 1) f fd ["_law_rng_here", "_law_many"]
      spDraw := by
  refine F.ok sc_Ldraw (fun vs H Q E h => ?_)
    (fun cv A outer s H vs Q E hr h => ?_)
  · obtain ⟨p, m, rfl, _⟩ := h
    rfl
  obtain ⟨p, m, rfl, rg, m0, m1, q⟩ := h
  obtain ⟨a, b, hp, a0, b0, b1⟩ := rg
  have nd := sc_Ldraw.nd
  refine ⟨_, pss_cons (ps_if (pt_cmpR op_gt
      (pe_ix ix_list (pv 0) pe_int (fun _ _ => rfl)) pe_int (nomark _))
      (pss_cons (ps_asg (pe_callB call_divmod (by rfl) B.divmod bt_divmod
          (pa_cons (pe_ix ix_list (pv 0) pe_int (fun _ _ => rfl))
            (pa_cons (pv 1) pa_nil)))
        (pg_tup rfl (pgs_cons (pg_sub (pv 0) pe_int set_list)
          (pgs_cons (pg_name (i := 2) nd rfl (.inl rfl)) pgs_nil))))
        (pss_one (ps_ret (pv 2)))) pss_nil)
    (pss_cons (ps_asg (pe_op op_mod (pe_op op_add (pe_op op_mul
        (pe_ix ix_list (pv 0) pe_int (fun _ _ => rfl)) pe_int) pe_int) pe_int)
        (pg_sub (pv 0) pe_int set_list))
    (pss_one (ps_ret (pe_op op_mod (pe_op op_fdiv (pe_op op_mod (pe_op op_mul
        (pe_ix ix_list (pv 0) pe_int (fun _ _ => rfl))
        (pe_ix ix_list (pv 0) pe_int (fun _ _ => rfl))) pe_int) pe_int)
        (pv 1))))), ?_⟩
  refine ⟨_, rfl, p, _, 0, _, rfl, rfl, SqL.of hp, at0 _ _, _, _, rfl, rfl,
    _, rfl, ite2 (fun c => ?_) (fun c => ?_)⟩
  · have c' : 0 < a := of_decide_eq_true c
    refine ⟨_, rfl, p, _, 0, _, rfl, rfl, SqL.of hp, at0 _ _, _, rfl, a, m,
      rfl, ⟨m0, by omega⟩, fun t nt => ?_⟩
    have nt' : p ≠ t := ne_of_none hp nt
    have hp' : (upd H t (.tup [.int (a / m), .int (a % m)])) p =
        some (.lst [.int a, .int b]) := by rw [upd_ne nt']; exact hp
    refine ⟨t, _, rfl, .inl (.inl upd_same), rfl, _, _, rfl, _, rfl, p, _, 0,
      0, rfl, rfl, hp', rfl, _, _, rfl, rfl, _, rfl, ?_⟩
    refine q _ _ (Int.emod_nonneg _ (by omega)) (Int.emod_lt_of_pos _ m0)
      ⟨a / m, b, upd_same, Int.ediv_nonneg a0 (by omega), b0, b1⟩ ?_
    exact ((But.refl H).new nt).at
  · have b2 : 0 ≤ (b * 48271 + 10007) % 2147483587 :=
      Int.emod_nonneg _ (by decide)
    have b3 : (b * 48271 + 10007) % 2147483587 < 2147483587 :=
      Int.emod_lt_of_pos _ (by decide)
    refine ⟨_, rfl, p, _, 1, _, rfl, rfl, SqL.of hp, at1 _ _, _, _, rfl, rfl,
      .inl ⟨by omega, by omega⟩, _, _, rfl, rfl, _, _, rfl, rfl,
      (by show (0 : Int) < 2147483587; decide), _, rfl, p, _, 1, 1, rfl, rfl,
      hp, rfl, ?_⟩
    have hp' : (upd H p (.lst [.int a,
        .int ((b * 48271 + 10007) % 2147483587)])) p = _ := upd_same
    refine ⟨_, rfl, p, _, 1, _, rfl, rfl, SqL.of hp', at1 _ _, _, rfl, p, _,
      1, _, rfl, rfl, SqL.of hp', at1 _ _, _, _, rfl, rfl,
      .inl ⟨by omega, by omega⟩, _, _, rfl, rfl,
      (by show (0 : Int) < 2147483549; decide), _, _, rfl, rfl,
      ⟨by decide, by decide⟩, _, rfl, _, _, rfl, rfl, m0, ?_⟩
    refine q _ _ (Int.emod_nonneg _ (by omega)) (Int.emod_lt_of_pos _ m0)
      ⟨a, _, upd_same, a0, b2, by omega⟩ (But.refl H).at
end
end OM
namespace OM
open PySem PySem.Spec PyProof.Rows L2
section
variable {P : Program} {w : World} {K : PySem.W.Frag}
  {mg : Str → Option Value} {base : Heap}
theorem ifx_cut {tA : TT} {ta tb : TE} {σ : L2.St} {H : Hp} {R : VK}
    (v : V) (h : ∀ R : VK, R v H → tIf tA ta tb σ H R) (k : R v H) :
    tIf tA ta tb σ H R := h R k
theorem ok_rng {f : Addr} {fd : FuncData} {k : Nat}
    (F : Fun K "_law_rng" "_law_rng" s_Lrng f fd) (B : Bl mg) :
    FnOk P w K mg base CX0 (k + 1) f fd ["_law_script", "_law_k"]
      (spRng K) := by
  refine F.ok sc_Lrng (fun vs H Q E h => ?_)
    (fun cv A outer s H vs Q E hr h => ?_)
  · obtain ⟨a, ns, k, rfl, _⟩ := h
    rfl
  obtain ⟨a, ns, n, rfl, hS, hn, q⟩ := h
  have nd := sc_Lrng.nd
  refine ⟨_, pss_cons (ps_set (i := 2) nd rfl (.inl rfl) (pe_ifExp
      (pt_cmpR op_lt (pv 1) (pe_callB call_len_seq (by rfl) B.len
        PySem.boot_len (pa_cons (pv 0) pa_nil)) (nomark _))
      (pe_callB call_abs (by rfl) B.abs bt_abs
        (pa_cons (pe_ix ix_list (pv 0) (pv 1) (fun _ _ => rfl)) pa_nil))
      pe_int))
    (pss_one (ps_ret (pe_lst (pa_cons
      (pe_callB (call_max2 rfl) (by rfl) B.max bt_max
        (pa_cons pe_int (pa_cons (pe_op op_sub (pv 2)
          (pe_op op_pow pe_int pe_int)) pa_nil)))
      (pa_cons (pe_op op_add (pe_op op_mod (pe_op op_pow
        (pe_op op_add (pe_op op_add (pe_op op_mod (pv 2) pe_int)
          (pe_op op_mul pe_int (pv 1))) pe_int) pe_int) pe_int) pe_int)
        pa_nil))))), ?_⟩
  obtain ⟨c, hc⟩ : ∃ c : Int, (n < ns.length → c =
      if ns.getD n 0 < 0 then - ns.getD n 0 else ns.getD n 0) ∧
      (¬ n < ns.length → c = 0) := by
    by_cases h : n < ns.length
    · exact ⟨_, fun _ => rfl, fun z => absurd h z⟩
    · exact ⟨0, fun z => absurd z h, fun _ => rfl⟩
  refine ifx_cut (.int c) (fun R hR => ?_) ?_
  · refine ⟨_, rfl, _, rfl, a, _, rfl, .inl hS, _, _, rfl, rfl, _, rfl,
      ite2 (fun z => ?_) (fun z => ?_)⟩
    · have z' : (n : Int) < ((ns.map V.int).length : Int) :=
        of_decide_eq_true z
      rw [List.length_map] at z'
      have hn' : n < ns.length := by omega
      have g : (ns.map V.int)[n]? = some (.int (ns.getD n 0)) := by
        rw [List.getElem?_map, List.getElem?_eq_getElem hn',
          List.getD_eq_getElem?_getD, List.getElem?_eq_getElem hn']
        rfl
      refine ⟨_, rfl, _, rfl, a, _, n, _, rfl, rfl, hS, atI_nat g, _, rfl, ?_⟩
      rw [← hc.1 hn']
      exact hR
    · have z' : ¬ n < ns.length := fun y => z (decide_eq_true (by
        rw [List.length_map]; omega))
      rw [hc.2 z'] at hR
      exact hR
  · have c0 : 0 ≤ c % 2147483543 := Int.emod_nonneg _ (by decide)
    have c1 : c % 2147483543 < 2147483543 :=
      Int.emod_lt_of_pos _ (by decide)
    refine ⟨_, rfl, _, _, rfl, rfl, ⟨by decide, by decide, by decide⟩, _, _,
      rfl, rfl, _, _, rfl, _, rfl, _, _, rfl, rfl,
      (by show (0 : Int) < 2147483543; decide), _, rfl, _, _, rfl, rfl,
      .inl ⟨by decide, by decide⟩, _, _, rfl, rfl, _, _, rfl, rfl, _, _, rfl,
      rfl, ⟨by decide, by decide, by omega⟩, _, _, rfl, rfl,
      (by show (0 : Int) < 2147483497; decide), _, _, rfl, rfl,
      (by show 2 ≤ sizeLine; decide), fun p np => ?_⟩
    generalize hb : ((c % 2147483543 + 101 * (n : Int) + 7) ^
      (2 : Int).toNat) % 2147483497 = b
    have b0 : 0 ≤ b := by rw [← hb]; exact Int.emod_nonneg _ (by decide)
    have b1 : b < 2147483497 := by
      rw [← hb]; exact Int.emod_lt_of_pos _ (by decide)
    refine q p _ np ⟨_, b + 1, upd_same, ?_, by omega, by omega⟩
      (sameNew np)
    split <;> omega
end
end OM
/-! names as lists of codes -/
namespace OM
open PySem L2

/-- one to eight letters from a to z -/
structure Nm (l : List Nat) : Prop where
  lo : 1 ≤ l.length
  hi : l.length ≤ 8
  az : ∀ c ∈ l, 97 ≤ c ∧ c ≤ 122
abbrev vS (l : List Nat) : V := .str (SX.S l)
theorem vS_inj {a b : List Nat} (h : vS a = vS b) : a = b :=
  SX.S_inj (V.str.inj h)

theorem nodup_le {α : Type} [BEq α] [LawfulBEq α] : ∀ {l m : List α},
    l.Nodup → (∀ x ∈ l, x ∈ m) → l.length ≤ m.length
  | [], _, _, _ => Nat.zero_le _
  | x :: l, m, nd, h => by
    have hx : x ∈ m := h x List.mem_cons_self
    have nd' := List.nodup_cons.mp nd
    have r : l.length ≤ (m.erase x).length := by
      refine nodup_le nd'.2 fun y hy => ?_
      have ne : y ≠ x := fun e => nd'.1 (e ▸ hy)
      exact (List.mem_erase_of_ne ne).mpr (h y (List.mem_cons_of_mem _ hy))
    rw [List.length_erase_of_mem hx] at r
    have : 0 < m.length := List.length_pos_of_mem hx
    rw [List.length_cons]
    omega

/-- the k-th name to fall back upon -/
def frs6 (l : List Nat) (k : Nat) : List Nat :=
  l.take 6 ++ [97 + k / 26, 97 + k % 26]
theorem frs6_inj {l : List Nat} {j k : Nat} (h : frs6 l j = frs6 l k) :
    j = k := by
  have e := List.append_cancel_left h
  injection e with e1 e2
  injection e2 with e2 _
  omega
theorem Nm.frs {l : List Nat} (n : Nm l) {k : Nat} (hk : k < 676) :
    Nm (frs6 l k) := by
  unfold frs6
  refine ⟨?_, ?_, ?_⟩
  · simp
  · rw [List.length_append, List.length_take]
    show min 6 l.length + 2 ≤ 8
    omega
  · intro c hc
    rcases List.mem_append.mp hc with h | h
    · exact n.az c (List.mem_of_mem_take h)
    · rcases List.mem_cons.mp h with h | h
      · omega
      · rcases List.mem_cons.mp h with h | h
        · omega
        · cases h
def fresh (l : List Nat) : List (List Nat) :=
  l :: (List.range 676).map (frs6 l)
theorem fresh_nm {l : List Nat} (n : Nm l) : ∀ x ∈ fresh l, Nm x := by
  intro x hx
  rcases List.mem_cons.mp hx with h | h
  · rw [h]; exact n
  · obtain ⟨k, hk, rfl⟩ := List.mem_map.mp h
    exact n.frs (List.mem_range.mp hk)
theorem nodup_map {α β : Type} {f : α → β} (hf : ∀ a b, f a = f b → a = b) :
    ∀ {l : List α}, l.Nodup → (l.map f).Nodup
  | [], _ => List.nodup_nil
  | x :: l, h => by
    have h' := List.nodup_cons.mp h
    rw [List.map_cons]
    refine List.nodup_cons.mpr ⟨fun m => ?_, nodup_map hf h'.2⟩
    obtain ⟨y, hy, e⟩ := List.mem_map.mp m
    exact h'.1 (hf _ _ e ▸ hy)
theorem fresh_some {l : List Nat} {us : List (List Nat)}
    (h : us.length < 676) :
    ∃ x r, (fresh l).filter (fun y => decide (y ∉ us)) = x :: r := by
  cases e : (fresh l).filter (fun y => decide (y ∉ us)) with
  | cons x r => exact ⟨x, r, rfl⟩
  | nil =>
    exfalso
    have all : ∀ x ∈ (List.range 676).map (frs6 l), x ∈ us := by
      intro x hx
      apply Classical.byContradiction
      intro nx
      have : x ∈ (fresh l).filter (fun y => decide (y ∉ us)) :=
        List.mem_filter.mpr ⟨List.mem_cons_of_mem _ hx, decide_eq_true nx⟩
      rw [e] at this
      cases this
    have le := nodup_le (nodup_map (fun a b => frs6_inj (l := l))
      List.nodup_range) all
    rw [List.length_map, List.length_range] at le
    omega
theorem inV_S (x : List Nat) : ∀ us : List (List Nat),
    inV (vS x) (us.map vS) = decide (x ∈ us)
  | [] => by simp [inV]
  | u :: us => by
    have ih := inV_S x us
    unfold inV at ih ⊢
    rw [List.map_cons, List.any_cons, ih]
    by_cases e : u = x
    · subst e
      simp [eqV]
    · have ne : ¬ x = u := fun z => e z.symm
      have : eqV (vS u) (vS x) = false := by
        unfold eqV
        simp
        intro z
        exact e z
      rw [this]
      simp [ne]
theorem flat_S (us : List (List Nat)) : (us.map vS).all flatV = true := by
  rw [List.all_eq_true]
  intro v hv
  obtain ⟨l, _, rfl⟩ := List.mem_map.mp hv
  rfl
end OM
namespace OM
open PySem PySem.Spec PyProof.Rows L2
/-- an expression, with a word behind it -/
def tMid (t : TE) : TE := fun σ H Q =>
  ∃ M : V → Hp → Prop, t σ H M ∧ ∀ v H', M v H' → Q v H'
theorem pe_mid {X : Cx} {e : Expr} {t : TE} (h : PE X e t) :
    PE X e (tMid t) := by
  constructor
  intro pins s σ H Q I q
  obtain ⟨M, m, k⟩ := q
  refine thn (h.run pins s σ H M I m) ?_
  rintro u s1 ⟨v, H1, I1, r, z⟩
  exact ⟨v, H1, I1, r, k v H1 z⟩
def tMidT (t : TT) : TT := fun σ H Q =>
  ∃ M : Bool → Hp → Prop, t σ H M ∧ ∀ v H', M v H' → Q v H'
theorem pt_mid {X : Cx} {e : Expr} {t : TT} (h : PT X e t) :
    PT X e (tMidT t) := by
  constructor
  intro pins s σ H Q I q
  obtain ⟨M, m, k⟩ := q
  refine thn (h.run pins s σ H M I m) ?_
  rintro u s1 ⟨H1, I1, z⟩
  exact ⟨H1, I1, k u H1 z⟩
theorem But.put {p t : Addr} {o : HO} {H H1 : Hp} (a : But p H H1)
    (n : H1 t = none) (ne : t ≠ p) : But p H (upd H1 t o) :=
  a.new (a.free ne n)
/-- len of a list or tuple, the written part a letter -/
def rLenK (K : PySem.W.Frag) : List V → Hp → VK → Prop := fun xs H Q =>
  ∃ p ys, xs = [.ref p] ∧ (SqL K H p ys ∨ SqT K H p ys) ∧
    Q (.int ys.length) H
theorem call_lenK {X : Cx} : CallR X (.builtin "len") (rLenK X.K) :=
  call_len_seq
theorem sz {n : Nat} (h : n ≤ 100000) : n ≤ sizeLine :=
  Nat.le_trans h (by decide)
theorem sz' {n : Nat} (h : n < 100000) : n < sizeLine :=
  Nat.lt_of_lt_of_le h (by decide)
end OM
namespace OM
open PySem PySem.Spec PyProof.Rows L2
abbrev lets : Str := "abcdefghijklmnopqrstuvwxyz"
theorem lets_tl : lets.cps.toList = List.range' 97 26 := by decide +kernel
theorem lets_at {i : Int} (h0 : 0 ≤ i) (h1 : i < 26) :
    atI lets.cps.toList i = some (97 + i.toNat) := by
  have e : i = ((i.toNat : Nat) : Int) := by omega
  rw [e, lets_tl]
  refine atI_nat ?_
  rw [Int.toNat_natCast, List.getElem?_range' (by omega)]
  simp
theorem yes {σ : L2.St} {H : Hp} {A B : Hp → Prop} (h : A H) :
    tYes σ H fun b H' => if b = true then A H' else B H' :=
  iteT (B := B H) h
theorem joinL_ones : ∀ cs : List Nat,
    TL.joinL [] (cs.map fun c => [c]) = cs
  | [] => rfl
  | [c] => rfl
  | c :: d :: r => by
    have ih := joinL_ones (d :: r)
    show [c] ++ [] ++ TL.joinL [] ((d :: r).map fun c => [c]) = _
    rw [ih]
    rfl
def nmB (l : List Nat) : Bool :=
  decide (1 ≤ l.length) && decide (l.length ≤ 8) &&
    l.all fun c => decide (97 ≤ c) && decide (c ≤ 122)
theorem nmB_iff {l : List Nat} : nmB l = true ↔ Nm l := by
  unfold nmB
  simp only [Bool.and_eq_true, decide_eq_true_eq, List.all_eq_true]
  exact ⟨fun ⟨⟨a, b⟩, c⟩ => ⟨a, b, c⟩, fun n => ⟨⟨n.lo, n.hi⟩, n.az⟩⟩
theorem nm_of (x : Str) (h : nmB x.cps.toList = true) :
    ∃ l, (.str x : V) = vS l ∧ Nm l :=
  ⟨x.cps.toList, by rw [vS, SX.S_tl], nmB_iff.mp h⟩
/-- an item of eight written ones -/
theorem at8 {α : Type} {P : α → Prop} {a b c d e f g h : α} {i : Int}
    (h0 : 0 ≤ i) (h1 : i < 8) (pa : P a) (pb : P b) (pc : P c) (pd : P d)
    (pe : P e) (pf : P f) (pg : P g) (ph : P h) :
    ∃ v, atI [a, b, c, d, e, f, g, h] i = some v ∧ P v := by
  have e : i = 0 ∨ i = 1 ∨ i = 2 ∨ i = 3 ∨ i = 4 ∨ i = 5 ∨ i = 6 ∨ i = 7 := by
    omega
  rcases e with rfl | rfl | rfl | rfl | rfl | rfl | rfl | rfl
  · exact ⟨a, rfl, pa⟩
  · exact ⟨b, rfl, pb⟩
  · exact ⟨c, rfl, pc⟩
  · exact ⟨d, rfl, pd⟩
  · exact ⟨_, rfl, pe⟩
  · exact ⟨f, rfl, pf⟩
  · exact ⟨g, rfl, pg⟩
  · exact ⟨h, rfl, ph⟩
theorem at4 {α : Type} {P : α → Prop} {a b c d : α} {i : Int}
    (h0 : 0 ≤ i) (h1 : i < 4) (pa : P a) (pb : P b) (pc : P c) (pd : P d) :
    ∃ v, atI [a, b, c, d] i = some v ∧ P v := by
  have e : i = 0 ∨ i = 1 ∨ i = 2 ∨ i = 3 := by omega
  rcases e with rfl | rfl | rfl | rfl
  · exact ⟨a, rfl, pa⟩
  · exact ⟨b, rfl, pb⟩
  · exact ⟨c, rfl, pc⟩
  · exact ⟨d, rfl, pd⟩
/-- a new name that is not among us -/
def spName (K : PySem.W.Frag) : Sp := fun vs H Q _ =>
  ∃ (p a : Addr) (us : List (List Nat)), vs = [.ref p, .ref a] ∧ Rng H p ∧
  SqL K H a (us.map vS) ∧ a ≠ p ∧ us.length ≤ 600 ∧
  ∀ (l : List Nat) (H' : Hp), Nm l → l ∉ us → Rng H' p → But p H H' →
    Q (vS l) H'
section
variable {P : Program} {w : World} {K : PySem.W.Frag}
  {mg : Str → Option Value} {base : Heap}
abbrev CalDraw (P : Program) (w : World) (K : PySem.W.Frag)
    (mg : Str → Option Value) (base : Heap) (k : Nat) : Prop :=
  Cal P w K mg base k "_law_draw" ["_law_rng_here", "_law_many"] spDraw
theorem ok_name {f : Addr} {fd : FuncData} {k : Nat}
    (F : Fun K "_law_name" "_law_name" s_Lname f fd) (B : Bl mg)
    (C : CalDraw P w K mg base k) :
    FnOk P w K mg base CX0 (k + 1) f fd ["_law_rng_here", "_law_used"]
      (spName K) := by
  refine F.ok sc_Lname (fun vs H Q E h => ?_)
    (fun cv A outer s H vs Q E hr h => ?_)
  · obtain ⟨p, a, us, rfl, _⟩ := h
    rfl
  obtain ⟨p, a, us, rfl, rg, hS, nap, hus, q⟩ := h
  have nd := sc_Lname.nd
  refine ⟨_, C8.pss_cut (ps_set (i := 2) nd rfl (.inr rfl) pe_str)
    (C8.pss_cut (ps_set (i := 3) nd rfl (.inl rfl) (pe_ix ix_list
      (pe_lst (pa_cons pe_int (pa_cons pe_int (pa_cons pe_int (pa_cons
        (pe_op op_add pe_int (pe_cal C hr (pa_cons (pv 0)
          (pa_cons pe_int pa_nil)))) pa_nil)))))
      (pe_cal C hr (pa_cons (pv 0) (pa_cons pe_int pa_nil)))
      (fun _ _ => rfl)))
    (C8.pss_cut (ps_set (i := 4) nd rfl (.inr rfl) (pe_join pe_str
      (pe_lc (own := [("_law_k", 5)]) (g := gName 5) (tt := tYes) rfl nd
        (pi_range1 (by rfl) B.range (pa_cons (pv 3) pa_nil))
        (blkOk_by (N := N_Lname) (sc := defScope s_Lname) (by decide +kernel))
        (fun _ _ _ _ _ => pg_name (i := 5) nd rfl (Or.inl rfl))
        (fun _ _ _ _ _ => pts_nil)
        (fun _ _ _ _ _ => pe_ix ix_str (pv 2)
          (pe_cal C hr (pa_cons (pv 0) (pa_cons pe_int pa_nil)))
          (fun _ _ => rfl)))))
    (C8.pss_cut (ps_if (pt_cmpR op_eq (pe_cal C hr (pa_cons (pv 0)
        (pa_cons pe_int pa_nil))) pe_int (nomark _))
      (pss_one (ps_set (i := 4) nd rfl (.inr rfl) (pe_ix ix_list
        (pe_lst (pa_cons pe_str (pa_cons pe_str (pa_cons pe_str (pa_cons
          pe_str (pa_cons pe_str (pa_cons pe_str (pa_cons pe_str (pa_cons
          pe_str pa_nil)))))))))
        (pe_cal C hr (pa_cons (pv 0) (pa_cons pe_int pa_nil)))
        (fun _ _ => rfl)))) pss_nil)
    (C8.pss_cut (ps_set (i := 6) nd rfl (.inl rfl) (pe_op op_cat
      (pe_lst (pa_cons (pv 4) pa_nil))
      (pe_lc (own := [("_law_k", 5)]) (g := gName 5) (tt := tYes) rfl nd
        (pi_range1 (by rfl) B.range (pa_cons pe_int pa_nil))
        (blkOk_by (N := N_Lname) (sc := defScope s_Lname) (by decide +kernel))
        (fun _ _ _ _ _ => pg_name (i := 5) nd rfl (Or.inl rfl))
        (fun _ _ _ _ _ => pts_nil)
        (fun _ _ _ _ _ => pe_op op_add_str (pe_op op_add_str
          (pe_slice sl_str (pv 4) po_none (po_some pe_int))
          (pe_ix ix_str (pv 2) (pe_op op_fdiv (pv 5) pe_int)
            (fun _ _ => rfl)))
          (pe_ix ix_str (pv 2) (pe_op op_mod (pv 5) pe_int)
            (fun _ _ => rfl))))))
    (pss_one (ps_ret (pe_ix ix_list
      (pe_lc (own := [("_law_one", 7)]) (g := gName 7) rfl nd
        (pi_list (pv 6))
        (blkOk_by (N := N_Lname) (sc := defScope s_Lname) (by decide +kernel))
        (fun _ _ _ _ _ => pg_name (i := 7) nd rfl (Or.inl rfl))
        (fun _ _ _ _ _ => pts_one (pt_cmpR (r := rIn K true) op_notIn_seq (pv 7) (pv 1) (by rfl)))
        (fun _ _ _ _ _ => pv 7))
      pe_int (fun _ _ => rfl)))))))), ?_⟩
  -- letters
  refine ⟨fun σ' H' => σ' = [some (.ref p), some (.ref a), some (.str lets),
    none, none, none, none, none] ∧ H = H', ⟨rfl, rfl⟩, ?_⟩
  rintro _ _ ⟨rfl, rfl⟩
  -- length
  refine ⟨fun σ' H' => ∃ n : Int, 1 ≤ n ∧ n ≤ 8 ∧ σ' = [some (.ref p),
    some (.ref a), some (.str lets), some (.int n), none, none, none, none] ∧
    Rng H' p ∧ But p H H', ?_, ?_⟩
  · refine ⟨_, rfl, p, 8, rfl, rg, by decide, by decide,
      fun d H1 d0 d1 rg1 b1 => ⟨_, _, rfl, rfl, sz (by simp), fun t nt =>
      ⟨_, rfl, p, 4, rfl, rg1.same (sameNew nt), by decide, by decide,
      fun d2 H2 e0 e1 rg2 b2 => ?_⟩⟩⟩
    have ne : t ≠ p := (rg1.ne nt).symm
    obtain ⟨v, hv, n, rfl, n0, n1⟩ := at4 (a := V.int 1) (b := V.int 1)
      (c := V.int 2) (d := V.int (1 + d))
      (P := fun v => ∃ n : Int, v = .int n ∧ 1 ≤ n ∧ n ≤ 8) e0 e1
      ⟨1, rfl, by omega, by omega⟩ ⟨1, rfl, by omega, by omega⟩
      ⟨2, rfl, by omega, by omega⟩ ⟨1 + d, rfl, by omega, by omega⟩
    exact ⟨t, _, d2, _, rfl, rfl, SqL.of (b2 t _ upd_same ne), hv, n, n0, n1,
      rfl, rg2, (b1.put nt ne).trans b2⟩
  rintro _ H1 ⟨n, n0, n1, rfl, rg1, b1⟩
  -- the letters drawn
  refine ⟨fun σ' H' => ∃ l, Nm l ∧ σ' = [some (.ref p), some (.ref a),
    some (.str lets), some (.int n), some (vS l), none, none, none] ∧
    Rng H' p ∧ But p H H', ?_, ?_⟩
  · refine ⟨⟨_, rfl⟩, _, rfl, n, rfl, by omega, by omega, fun D nD => ?_⟩
    have ne : D ≠ p := (rg1.ne nD).symm
    refine lc_range (lo := 0) (n := n.toNat) (fun i H' => ∃ cs : List Nat,
      cs.length = i ∧ (∀ c ∈ cs, 97 ≤ c ∧ c ≤ 122) ∧
      H' D = some (.lst (cs.map fun c => vS [c])) ∧ Rng H' p ∧ But p H H')
      ⟨[], rfl, nofun, upd_same, rg1.same (sameNew nD), b1.put nD ne⟩ ?_ ?_
    · rintro i H2 hi ⟨cs, hl, az, hD, rg2, b2⟩
      refine ⟨rfl, yes ⟨_, rfl, _, rfl, p, 26, rfl, rg2, by decide,
        by decide, fun d H3 d0 d1 rg3 b3 => ⟨_, d, _, rfl, rfl,
        sz (by decide), lets_at d0 d1, _, b3 D _ hD ne, ?_, cs ++
        [97 + d.toNat], ?_, ?_, ?_, ?_, ?_⟩⟩⟩
      · rw [List.length_map]
        exact sz' (by omega)
      · rw [List.length_append, hl]
        rfl
      · intro c hc
        rcases List.mem_append.mp hc with h | h
        · exact az c h
        · rcases List.mem_cons.mp h with h | h
          · omega
          · cases h
      · rw [upd_same, List.map_append]
        rfl
      · exact rg3.but (But.at (p := D) (But.refl H3)) ne.symm
      · exact (b2.trans b3).new (b1.free ne nD)
    · rintro H2 ⟨cs, hl, az, hD, rg2, b2⟩
      refine ⟨_, D, cs.map fun c => SX.S [c], rfl, rfl,
        .inl (SqL.of (by rw [List.map_map]; exact hD)), ?_, cs,
        ⟨by omega, by omega, az⟩, ?_, rg2, b2⟩
      · have e1 : ((cs.map fun c => SX.S [c]).map fun x => x.length).sum =
            cs.length := by
          rw [List.map_map]
          clear hl az hD
          induction cs with
          | nil => rfl
          | cons c cs ih =>
            rw [List.map_cons, List.sum_cons, ih, List.length_cons]
            show 1 + cs.length = cs.length + 1
            omega
        rw [e1, List.length_map, show (Str.ofString "").length = 0 from rfl]
        omega
      · have e2 : Txt.join (Str.ofString "") (cs.map fun c => SX.S [c]) =
            SX.S cs := by
          have := SX.join_S [] (cs.map fun c => [c])
          rw [List.map_map, joinL_ones] at this
          exact this
        rw [e2]
        rfl
  rintro _ H2 ⟨l, nl, rfl, rg2, b2⟩
  -- a command's name
  refine ⟨fun σ' H' => ∃ l, Nm l ∧ σ' = [some (.ref p), some (.ref a),
    some (.str lets), some (.int n), some (vS l), none, none, none] ∧
    Rng H' p ∧ But p H H', ?_, ?_⟩
  · refine ⟨_, rfl, p, 8, rfl, rg2, by decide, by decide,
      fun d H3 d0 d1 rg3 b3 => ⟨rfl, _, rfl, ite2 (fun _ => ?_)
        (fun _ => ⟨l, nl, rfl, rg3, b2.trans b3⟩)⟩⟩
    refine ⟨sz (by decide), fun t nt => ⟨_, rfl, p, 8, rfl,
      rg3.same (sameNew nt), by decide, by decide,
      fun d2 H4 e0 e1 rg4 b4 => ?_⟩⟩
    have ne : t ≠ p := (rg3.ne nt).symm
    obtain ⟨v, hv, l', rfl, nl'⟩ := at8 (P := fun v => ∃ l, v = vS l ∧ Nm l)
      e0 e1 (nm_of "swap" (by decide +kernel)) (nm_of "move" (by decide +kernel))
      (nm_of "base" (by decide +kernel)) (nm_of "users" (by decide +kernel))
      (nm_of "merged" (by decide +kernel)) (nm_of "log" (by decide +kernel))
      (nm_of "ok" (by decide +kernel)) (nm_of "undo" (by decide +kernel))
    exact ⟨t, _, d2, _, rfl, rfl, SqL.of (b4 t _ upd_same ne), hv, l', nl',
      rfl, rg4, ((b2.trans b3).put nt ne).trans b4⟩
  clear nl rg2 b2
  rintro _ H2 ⟨l, nl, rfl, rg2, b2⟩
  -- names to fall back upon
  refine ⟨fun σ' H' => ∃ fr, σ' = [some (.ref p), some (.ref a),
    some (.str lets), some (.int n), some (vS l), none, some (.ref fr), none]
    ∧ fr ≠ p ∧ H' fr = some (.lst ((fresh l).map vS)) ∧
    Rng H' p ∧ But p H H', ?_, ?_⟩
  · refine ⟨_, rfl, sz (by simp), fun t nt => ?_⟩
    have ne : t ≠ p := (rg2.ne nt).symm
    refine ⟨676, rfl, by decide, by decide, fun D nD => ?_⟩
    have rg3 : Rng (upd H2 t (.lst [vS l])) p := rg2.same (sameNew nt)
    have neD : D ≠ p := (rg3.ne nD).symm
    have net : t ≠ D := fun e => by rw [← e, upd_same] at nD; cases nD
    have b3 : But p H (upd H2 t (.lst [vS l])) := b2.put nt ne
    refine lc_range (lo := 0) (n := 676) (fun i H' =>
      H' D = some (.lst (((List.range i).map (frs6 l)).map vS)) ∧
      H' t = some (.lst [vS l]) ∧ Rng H' p ∧ But p H H')
      ⟨upd_same, by rw [upd_ne net, upd_same], rg3.same (sameNew nD),
        b3.put nD neD⟩ ?_ ?_
    · rintro i H4 hi ⟨hD, ht, rg4, b4⟩
      have f1 : 0 ≤ (0 + (i : Int)) / 26 := by omega
      have f2 : (0 + (i : Int)) / 26 < 26 := by omega
      have f3 : 0 ≤ (0 + (i : Int)) % 26 := by omega
      have f4 : (0 + (i : Int)) % 26 < 26 := by omega
      have ll := nl.hi
      have ec : cutS (SX.S l) none (some 6) = SX.S (l.take 6) := by
        rw [C8.cutS_slice, SX.slice_to (by decide)]
        rfl
      refine ⟨rfl, yes ⟨_, rfl, 6, rfl, SX.S l, rfl,
        sz (by rw [SX.S_len]; omega), _, rfl, _, rfl, _, _, rfl, rfl,
        ⟨by decide, by decide⟩, _, _, _, rfl, rfl, sz (by decide),
        lets_at f1 f2, _, _, rfl, rfl, ?_, _, rfl, _, rfl, _, _, rfl, rfl,
        (by show (0 : Int) < 26; decide), _, _, _, rfl, rfl, sz (by decide),
        lets_at f3 f4, _, _, rfl, rfl, ?_, _, hD, ?_, ?_, ?_, ?_, ?_⟩⟩
      · rw [ec, SX.S_len, List.length_take]
        show min 6 l.length + 1 ≤ _
        exact sz (by omega)
      · rw [ec, strLen_append, SX.S_len, List.length_take]
        show min 6 l.length + 1 + 1 ≤ _
        exact sz (by omega)
      · rw [List.length_map, List.length_map, List.length_range]
        exact sz' (by omega)
      · rw [upd_same, ec]
        have e5 : SX.S (l.take 6) ++ (⟨#[97 + ((0 + (i : Int)) / 26).toNat]⟩ :
            Str) ++ ⟨#[97 + ((0 + (i : Int)) % 26).toNat]⟩ =
            SX.S (frs6 l i) := by
          have e6 : ((0 + (i : Int)) / 26).toNat = i / 26 := by omega
          have e7 : ((0 + (i : Int)) % 26).toNat = i % 26 := by omega
          rw [e6, e7]
          show SX.S (l.take 6) ++ SX.S [97 + i / 26] ++ SX.S [97 + i % 26] = _
          rw [SX.S_cat, SX.S_cat]
          unfold frs6
          rw [List.append_assoc]
          rfl
        rw [e5, List.range_succ, List.map_append, List.map_append]
        rfl
      · rw [upd_ne net]
        exact ht
      · exact rg4.but (But.at (p := D) (But.refl H4)) neD.symm
      · exact b4.new (b3.free neD nD)
    · rintro H4 ⟨hD, ht, rg4, b4⟩
      refine ⟨t, D, _, _, rfl, rfl, ht, hD, ?_, fun fr nfr => ⟨fr, rfl,
        (rg4.ne nfr).symm, ?_, rg4.same (sameNew nfr),
        b4.put nfr (rg4.ne nfr).symm⟩⟩
      · rw [List.length_map, List.length_map, List.length_range]
        exact sz (by simp)
      · rw [upd_same]
        rfl
  clear rg2 b2
  rintro _ H3 ⟨fr, rfl, nfp, hfr, rg3, b3⟩
  -- the first one that is free
  refine ⟨_, rfl, fr, rfl, ⟨_, SqL.of hfr⟩, fun D nD => ?_⟩
  have neD : D ≠ p := (rg3.ne nD).symm
  have nfD : fr ≠ D := ne_of_none hfr nD
  have hS3 : SqL K H3 a (us.map vS) := b3.seq hS nap
  have naD : SqL K (upd H3 D (.lst [])) a (us.map vS) := (sameNew nD).seq hS3
  refine lc_list (K := K) (a := fr) (xs := (fresh l).map vS) (fun i H' =>
    H' D = some (.lst ((((fresh l).take i).filter
      (fun y => decide (y ∉ us))).map vS)) ∧
    H' fr = some (.lst ((fresh l).map vS)) ∧ Rng H' p ∧ But p H3 H' ∧
    SqL K H' a (us.map vS))
    ⟨upd_same, by rw [upd_ne nfD]; exact hfr, rg3.same (sameNew nD),
      (But.refl H3).put nD neD, naD⟩ (fun i H' _ z => SqL.of z.2.1) ?_ ?_
  · rintro i y H4 hy ⟨hD, hf, rg4, b4, hS4⟩
    rw [List.getElem?_map] at hy
    obtain ⟨x, hx, rfl⟩ : ∃ x, (fresh l)[i]? = some x ∧ vS x = y := by
      cases e : (fresh l)[i]? with
      | none => rw [e] at hy; cases hy
      | some x => rw [e] at hy; exact ⟨x, rfl, Option.some.inj hy⟩
    have et : (fresh l).take (i + 1) = (fresh l).take i ++ [x] := by
      rw [List.take_add_one, hx]
      rfl
    refine ⟨rfl, _, rfl, _, rfl, a, _, rfl, .inl hS4, rfl, flat_S us, _, rfl,
      ?_⟩
    rw [inV_S]
    have hlen : ((((fresh l).take i).filter
        (fun y => decide (y ∉ us))).map vS).length < sizeLine := by
      rw [List.length_map]
      refine sz' (Nat.lt_of_le_of_lt (List.length_filter_le _ _) ?_)
      rw [List.length_take]
      have : (fresh l).length = 677 := by
        unfold fresh
        rw [List.length_cons, List.length_map, List.length_range]
      omega
    by_cases hm : x ∈ us
    · rw [decide_eq_true hm]
      refine iteF ⟨?_, hf, rg4, b4, hS4⟩
      rw [hD, et, List.filter_append, List.filter_cons_of_neg (by simp [hm]),
        List.filter_nil, List.append_nil]
    · rw [decide_eq_false hm]
      refine iteT ⟨_, rfl, _, hD, hlen, ?_, ?_, ?_, ?_, ?_⟩
      · rw [upd_same, et, List.filter_append,
          List.filter_cons_of_pos (by simp [hm]), List.filter_nil,
          List.map_append]
        rfl
      · rw [upd_ne nfD]
        exact hf
      · exact rg4.but (But.at (p := D) (But.refl H4)) neD.symm
      · exact b4.new nD
      · have naD' : But D H4 (upd H4 D (.lst ((((fresh l).take i).filter
            (fun y => decide (y ∉ us))).map vS ++ [vS x]))) :=
          But.at (But.refl H4)
        by_cases had : a = D
        · subst had
          rcases hS3 with (h | ⟨o, h⟩) | h
          · rw [h] at nD; cases nD
          · rw [h] at nD; cases nD
          · exact .inr h
        · exact naD'.seq hS4 had
  · rintro H4 ⟨hD, hf, rg4, b4, hS4⟩
    obtain ⟨x, r, ex⟩ := fresh_some (l := l) (us := us) (by omega)
    rw [List.take_of_length_le (by rw [List.length_map]; exact Nat.le_refl _),
      ex] at hD
    have mx : x ∈ (fresh l).filter (fun y => decide (y ∉ us)) := by
      rw [ex]; exact List.mem_cons_self
    have mx' := List.mem_filter.mp mx
    exact ⟨D, _, 0, _, rfl, rfl, SqL.of hD, atI_nat (j := 0) rfl,
      q x H4 (fresh_nm nl x mx'.1) (of_decide_eq_true mx'.2) rg4
        (b3.trans b4)⟩
end
end OM
namespace OM
open PySem PySem.Spec PyProof.Rows L2
/-- some new names -/
def spNames : Sp := fun vs H Q _ =>
  ∃ (p u : Addr) (m : Nat) (us : List (List Nat)),
  vs = [.ref p, .int m, .ref u] ∧ Rng H p ∧ H u = some (.lst (us.map vS)) ∧
  u ≠ p ∧ m ≤ 100 ∧ us.length ≤ 400 ∧
  ∀ (q : Addr) (ls : List (List Nat)) (H' : Hp), H q = none →
    ls.length = m → (∀ l ∈ ls, Nm l) → ls.Nodup → (∀ l ∈ ls, l ∉ us) →
    H' q = some (.lst (ls.map vS)) → Rng H' p → But p H H' →
    Q (.ref q) H'
section
variable {P : Program} {w : World} {K : PySem.W.Frag}
  {mg : Str → Option Value} {base : Heap}
theorem ok_names {f : Addr} {fd : FuncData} {k : Nat}
    (F : Fun K "_law_names" "_law_names" s_Lnames f fd) (B : Bl mg)
    (C : Cal P w K mg base k "_law_name" ["_law_rng_here", "_law_used"]
      (spName K)) :
    FnOk P w K mg base CX0 (k + 1) f fd
      ["_law_rng_here", "_law_many", "_law_used"] spNames := by
  refine F.ok sc_Lnames (fun vs H Q E h => ?_)
    (fun cv A outer s H vs Q E hr h => ?_)
  · obtain ⟨p, u, m, us, rfl, _⟩ := h
    rfl
  obtain ⟨p, u, m, us, rfl, rg, hu, nup, hm, hus, q⟩ := h
  have nd := sc_Lnames.nd
  refine ⟨_, pss_cons (ps_set (i := 3) nd rfl (.inl rfl) (pe_lst pa_nil))
    (pss_cons (ps_for PassesOwn.never rfl
      (pi_range1 (by rfl) B.range (pa_cons (pv 1) pa_nil))
      (pg_name (i := 4) nd rfl (.inl rfl))
      (pss_one (ps_expr (pe_bm PySem.F.plainAttrs_list
        PySem.F.slot_list_append PySem.F.type_list_append mt_append (pv 3)
        (pa_cons (pe_cal C hr (pa_cons (pv 0) (pa_cons
          (pe_op op_cat (pv 2) (pv 3)) pa_nil))) pa_nil)))))
    (pss_one (ps_ret (pv 3)))), ?_⟩
  refine ⟨sz (by simp), fun r nr => ?_⟩
  have nrp : r ≠ p := (rg.ne nr).symm
  have nru : u ≠ r := ne_of_none hu nr
  refine ⟨_, rfl, m, rfl, by omega, by omega, ?_⟩
  refine for_range (lo := 0) (n := m) (fun i σ H' => ∃ (ls : List (List Nat))
      (v : Option V), σ = [some (.ref p), some (.int m), some (.ref u),
      some (.ref r), v] ∧ ls.length = i ∧ (∀ l ∈ ls, Nm l) ∧ ls.Nodup ∧
      (∀ l ∈ ls, l ∉ us) ∧ H' r = some (.lst (ls.map vS)) ∧ Rng H' p ∧
      But p H H')
    ⟨[], none, rfl, rfl, nofun, List.nodup_nil, nofun, upd_same,
      rg.same (sameNew nr), (But.refl H).put nr nrp⟩ ?_ ?_
  · rintro i σ H1 hi ⟨ls, v, rfl, hl, nm, nd1, no, h1, rg1, b1⟩
    refine ⟨_, rfl, .inl ⟨rfl, _, SqL.of h1⟩, _, rfl, _, rfl, _, rfl, u, r,
      _, _, rfl, rfl, b1 u _ hu nup, h1, ?_, fun t nt => ?_⟩
    · rw [List.length_map, List.length_map]
      exact sz (by omega)
    have ntp : t ≠ p := (rg1.ne nt).symm
    have ntr : r ≠ t := ne_of_none h1 nt
    refine ⟨p, t, us ++ ls, rfl, rg1.same (sameNew nt), ?_, ntp, ?_,
      fun l H2 nl ni rg2 b2 => ?_⟩
    · rw [List.map_append]
      exact SqL.of upd_same
    · rw [List.length_append]
      omega
    · have h2 : H2 r = some (.lst (ls.map vS)) :=
        b2 r _ (by rw [upd_ne ntr]; exact h1) nrp
      refine ⟨r, _, _, rfl, rfl, h2, ?_, ls ++ [l], _, rfl, ?_, ?_, ?_, ?_, ?_,
        ?_, ?_⟩
      · rw [List.length_map]
        exact sz' (by omega)
      · rw [List.length_append, hl]
        rfl
      · intro x hx
        rcases List.mem_append.mp hx with h | h
        · exact nm x h
        · rw [List.mem_singleton.mp h]
          exact nl
      · refine List.nodup_append.mpr ⟨nd1, by simp, ?_⟩
        intro x hx y hy e
        rw [List.mem_singleton.mp hy] at e
        exact ni (List.mem_append_right _ (e ▸ hx))
      · intro x hx
        rcases List.mem_append.mp hx with h | h
        · exact no x h
        · rw [List.mem_singleton.mp h]
          exact fun z => ni (List.mem_append_left _ z)
      · rw [upd_same, List.map_append]
        rfl
      · exact rg2.but (But.at (p := r) (But.refl H2)) nrp.symm
      · exact ((b1.put nt ntp).trans b2).new nr
  · rintro σ H1 ⟨ls, v, rfl, hl, nm, nd1, no, h1, rg1, b1⟩
    exact ⟨_, rfl, q r ls H1 nr hl nm nd1 no h1 rg1 b1⟩
end
end OM
namespace OM
open PySem PySem.Spec PyProof.Rows L2
theorem lt1 (c d : Nat) : decide (([c] : List Nat) < [d]) = decide (c < d) := by
  by_cases h : c < d
  · rw [decide_eq_true h]
    refine decide_eq_true ?_
    rw [List.cons_lt_cons_iff]
    exact Or.inl h
  · rw [decide_eq_false h]
    refine decide_eq_false fun z => ?_
    rw [List.cons_lt_cons_iff] at z
    rcases z with z | ⟨_, z⟩
    · exact h z
    · exact absurd z (by simp)
def azB (c : Nat) : Bool := decide (97 ≤ c) && decide (c ≤ 122)
theorem all_az (l : List Nat) :
    ((l.map azB).all id) = l.all azB := by
  rw [List.all_map]
  rfl
/-- is it a name: a text, or a value of another type -/
def spIsName (K : PySem.W.Frag) : Sp := fun vs H Q _ => ∃ v, vs = [v] ∧
  ((∃ x : Str, v = .str x ∧ x.length ≤ sizeLine ∧ ∀ H', Same H H' →
      Q (.bl (nmB x.cps.toList)) H') ∨
   (∃ t, TyX K H v t ∧ PySem.W.kitOne K t (.type "str") = some false ∧
      Q (.bl false) H))
section
variable {P : Program} {w : World} {K : PySem.W.Frag}
  {mg : Str → Option Value} {base : Heap}
theorem ok_isname {f : Addr} {fd : FuncData} {k : Nat}
    (F : Fun K "is_name" "is_name" s_is_name f fd) (B : Bl mg)
    {t8 : Tok} (m8 : mg "MAX_NAME_LENGTH" = some (.int 8 t8)) :
    FnOk P w K mg base CX0 (k + 1) f fd ["value"] (spIsName K) := by
  refine F.ok sc_is_name (fun vs H Q E h => ?_)
    (fun cv A outer s H vs Q E hr h => ?_)
  · obtain ⟨v, rfl, _⟩ := h
    rfl
  obtain ⟨v, rfl, h⟩ := h
  have nd := sc_is_name.nd
  refine ⟨_, pss_cons (ps_if (pt_mid (PW.pt (pw_or (pt_not (pt_val
      (pe_callB call_isi (by rfl) B.isi bt_isi (pa_cons (pv 0) (pa_cons
        (pe_bltn (v := .ty "str") (by rfl) B.str bt_str rfl) pa_nil)))))
      (pw_or1 (pt_not (pt_chain op_le op_le pe_int
        (pe_callB call_len_str (by rfl) B.len PySem.boot_len
          (pa_cons (pv 0) pa_nil))
        (pe_glob (v := .int 8) (by rfl) m8 ⟨_, rfl⟩)))))))
      (pss_one (ps_ret pe_bl)) pss_nil)
    (pss_one (ps_ret (pe_callB (cr_all rfl) (by rfl) B.all bt_all (pa_cons
      (pe_lc (own := [("letter", 1)]) (g := gName 1) (tt := tYes) rfl nd
        (pi_str (pv 0))
        (blkOk_by (N := N_is_name) (sc := defScope s_is_name)
          (by decide +kernel))
        (fun _ _ _ _ _ => pg_name (i := 1) nd rfl (Or.inl rfl))
        (fun _ _ _ _ _ => pts_nil)
        (fun _ _ _ _ _ => pe_mid (pe_chain op_le_str op_le_str pe_str
          (pv 1) pe_str))) pa_nil)))), ?_⟩
  rcases h with ⟨x, rfl, hx, q⟩ | ⟨t, ty, kt, q⟩
  · refine ⟨fun b H' => b = !(decide (1 ≤ x.length) && decide (x.length ≤ 8)) ∧
      H = H', ?_, ?_⟩
    · refine ⟨_, rfl, _, _, _, _, true, rfl, .ty "str", .base (.str x),
        kit_ty (by decide +kernel), _, rfl, iteF ?_⟩
      refine ⟨_, rfl, x, rfl, hx, _, _, rfl, rfl, _, rfl, ite2 (fun c => ?_)
        (fun c => ?_)⟩
      · have c' : (1 : Int) ≤ x.length := of_decide_eq_true c
        refine ⟨_, _, rfl, rfl, _, rfl, ?_, rfl⟩
        rw [decide_eq_true (show 1 ≤ x.length by omega), Bool.true_and]
        congr 1
        exact decide_eq_decide.mpr ⟨fun z => by omega, fun z => by omega⟩
      · refine ⟨_, rfl, ?_, rfl⟩
        rw [decide_eq_false (show ¬ 1 ≤ x.length from fun z =>
          c (decide_eq_true (by omega)))]
        rfl
    · rintro b _ ⟨rfl, rfl⟩
      by_cases c : 1 ≤ x.length ∧ x.length ≤ 8
      · rw [decide_eq_true c.1, decide_eq_true c.2]
        refine iteF ⟨_, rfl, x, rfl, fun D nD => ?_⟩
        refine lc_it walk_str (fun i H' => H' D = some (.lst
          (((x.cps.toList.take i).map azB).map V.bl)) ∧ Same H H')
          ⟨upd_same, sameNew nD⟩ (fun _ _ _ _ => trivial) ?_ ?_
        · rintro i v _ H1 hi ⟨hD, sm⟩ ⟨rfl, c0, hc, rfl⟩
          have hc' : x.cps.toList[i]? = some c0 := by
            rw [Array.getElem?_toList]; exact hc
          refine ⟨rfl, yes ⟨fun v H' => v = .bl (azB c0) ∧ H1 = H', ?_, ?_⟩⟩
          · refine ⟨_, rfl, _, _, rfl, rfl, _, rfl, ite2 (fun z => ?_)
              (fun z => ?_)⟩
            · refine ⟨_, _, rfl, rfl, ?_, rfl⟩
              have z' : ¬ c0 < 97 := by
                rw [show (Str.ofString "a").cps.toList = [97] by
                  decide +kernel, lt1] at z
                simpa using z
              rw [show (Str.ofString "z").cps.toList = [122] by
                decide +kernel, lt1]
              unfold azB
              rw [decide_eq_true (show 97 ≤ c0 by omega), Bool.true_and]
              congr 1
              by_cases y : c0 ≤ 122
              · rw [decide_eq_true y, decide_eq_false (by omega)]
                rfl
              · rw [decide_eq_false y, decide_eq_true (by omega)]
                rfl
            · refine ⟨?_, rfl⟩
              have z' : c0 < 97 := by
                rw [show (Str.ofString "a").cps.toList = [97] by
                  decide +kernel, lt1] at z
                simpa using z
              unfold azB
              rw [decide_eq_false (show ¬ 97 ≤ c0 by omega)]
              rfl
          · rintro v _ ⟨rfl, rfl⟩
            refine ⟨_, hD, ?_, ?_, ?_⟩
            · rw [List.length_map, List.length_map, List.length_take]
              refine sz' ?_
              have : x.length = x.cps.toList.length := TL.len_tl x
              omega
            · rw [upd_same, List.take_add_one, hc', List.map_append,
                List.map_append]
              rfl
            · exact OM.Same.put sm nD
        · rintro H1 ⟨hD, sm⟩
          rw [List.take_of_length_le (by
            rw [Array.length_toList]; exact Nat.le_refl _)] at hD
          refine ⟨D, _, rfl, SqL.of hD, ?_⟩
          rw [all_az]
          have := q H1 sm
          unfold nmB at this
          rw [← TL.len_tl x] at this
          rw [decide_eq_true c.1, decide_eq_true c.2, Bool.true_and,
            Bool.true_and] at this
          exact this
      · have e : (decide (1 ≤ x.length) && decide (x.length ≤ 8)) = false := by
          by_cases c1 : 1 ≤ x.length
          · rw [decide_eq_false (show ¬ x.length ≤ 8 from fun z => c ⟨c1, z⟩)]
            exact Bool.and_false _
          · rw [decide_eq_false c1]
            exact Bool.false_and _
        rw [e]
        refine iteT ?_
        have := q H (Same.refl H)
        unfold nmB at this
        rw [← TL.len_tl x, e, Bool.false_and] at this
        exact this
  · refine ⟨fun b H' => b = true ∧ H = H', ?_, ?_⟩
    · exact ⟨_, rfl, _, _, _, _, false, rfl, .ty "str", ty, kt, _, rfl,
        iteT ⟨rfl, rfl⟩⟩
    · rintro b _ ⟨rfl, rfl⟩
      exact iteT q
end
end OM
namespace OM
open PySem PySem.Spec PyProof.Rows L2
/-- what makes a base -/
structure Good (ls : List (List Nat)) : Prop where
  nm : ∀ l ∈ ls, Nm l
  nd : ls.Nodup
  lo : 1 ≤ ls.length
  hi : ls.length ≤ 40
theorem Nm.len {l : List Nat} (n : Nm l) : (SX.S l).length ≤ sizeLine := by
  rw [SX.S_len]
  have := n.hi
  exact sz (by omega)
theorem Nm.b {l : List Nat} (n : Nm l) : nmB (SX.S l).cps.toList = true :=
  nmB_iff.mpr n
theorem get_map {ls : List (List Nat)} {i : Nat} {v : V}
    (h : (ls.map vS)[i]? = some v) : ∃ l, ls[i]? = some l ∧ v = vS l := by
  rw [List.getElem?_map] at h
  cases e : ls[i]? with
  | none => rw [e] at h; cases h
  | some l => rw [e] at h; exact ⟨l, rfl, (Option.some.inj h).symm⟩
theorem nodup_take {α : Type} {ls : List α} {i : Nat} {l : α}
    (nd : ls.Nodup) (h : ls[i]? = some l) : l ∉ ls.take i := by
  intro hm
  obtain ⟨j, hj, e⟩ := List.getElem_of_mem hm
  rw [List.length_take] at hj
  rw [List.getElem_take] at e
  obtain ⟨hi, e2⟩ := List.getElem?_eq_some_iff.mp h
  have := (List.getElem_inj nd).mp (e.trans e2.symm)
  omega
def spCheckOk : Sp := fun vs H Q _ => ∃ (a : Addr) (ls : List (List Nat)),
  vs = [.ref a] ∧ H a = some (.lst (ls.map vS)) ∧ Good ls ∧
  ∀ H', Same H H' → Q .non H'
def spNFaultOk : Sp := fun vs H Q _ => ∃ (a : Addr) (ls : List (List Nat)),
  vs = [.ref a, .int 40] ∧ H a = some (.lst (ls.map vS)) ∧ Good ls ∧
  ∀ H', Same H H' → Q .non H'
section
variable {P : Program} {w : World} {K : PySem.W.Frag}
  {mg : Str → Option Value} {base : Heap}
abbrev CalIsName (P : Program) (w : World) (K : PySem.W.Frag)
    (mg : Str → Option Value) (base : Heap) (k : Nat) : Prop :=
  Cal P w K mg base k "is_name" ["value"] (spIsName K)
theorem ok_nfault {f : Addr} {fd : FuncData} {k : Nat}
    (F : Fun K "names_fault" "names_fault" s_names_fault f fd) (B : Bl mg)
    (C : CalIsName P w K mg base k) :
    FnOk P w K mg base CX0 (k + 1) f fd ["value", "most"] spNFaultOk := by
  refine F.ok sc_names_fault (fun vs H Q E h => ?_)
    (fun cv A outer s H vs Q E hr h => ?_)
  · obtain ⟨a, ls, rfl, _⟩ := h
    rfl
  obtain ⟨a, ls, rfl, ha, gd, q⟩ := h
  have nd := sc_names_fault.nd
  refine ⟨_, pss_cons (ps_if (pt_not (pt_val
      (pe_callB call_isi (by rfl) B.isi bt_isi (pa_cons (pv 0) (pa_cons
        (pe_bltn (v := .ty "list") (by rfl) B.list bt_list rfl) pa_nil)))))
      (pss_one ps_never) pss_nil)
    (pss_cons (ps_set (i := 2) nd rfl (.inl rfl)
      (pe_callTy0 cr_set0K (by rfl) B.set bt_set))
    (pss_cons (ps_for PassesOwn.never rfl
      (pi_enum (by rfl) B.enum (pa_cons (pv 0) pa_nil))
      (pg_tup rfl (pgs_cons (pg_name (i := 3) nd rfl (.inl rfl))
        (pgs_cons (pg_name (i := 4) nd rfl (.inl rfl)) pgs_nil)))
      (pss_cons (ps_if (pt_not (pt_val (pe_cal C hr (pa_cons (pv 4) pa_nil))))
        (pss_one ps_never) pss_nil)
      (pss_cons (ps_if (pt_cmpR or_sinK (pv 4) (pv 2) (by rfl))
        (pss_one ps_never) pss_nil)
      (pss_one (ps_expr (pe_saddK (pv 2) (pa_cons (pv 4) pa_nil)))))))
    (pss_cons (ps_if (pt_not (pt_chain op_le op_le pe_int
        (pe_callB call_len_seq (by rfl) B.len PySem.boot_len
          (pa_cons (pv 0) pa_nil)) (pv 1)))
      (pss_one ps_never) pss_nil)
    (pss_one (ps_ret pe_non))))), ?_⟩
  refine ⟨_, rfl, _, _, _, _, true, rfl, .ty "list", .base (.lst ha),
    kit_ty (by decide +kernel), _, rfl, iteF ?_⟩
  refine ⟨rfl, fun sn nsn => ?_⟩
  have nas : a ≠ sn := ne_of_none ha nsn
  have ha1 : (upd H sn (SetK P w sn (fun _ => false) 0)) a =
      some (.lst (ls.map vS)) := by rw [upd_ne nas]; exact ha
  refine ⟨_, rfl, a, _, rfl, SqL.of ha1, ?_⟩
  refine for_it (walk_enum (K := K) (a := a) (xs := ls.map vS))
    (fun i σ H' => ∃ (S : Key → Bool) (n : Nat) (y z : Option V),
      σ = [some (.ref a), some (.int 40), some (.ref sn), y, z] ∧ n ≤ i ∧
      (∀ l, S (Sum.inr (SX.S l)) = decide (l ∈ ls.take i)) ∧
      H' sn = some (SetK P w sn S n) ∧ H' a = some (.lst (ls.map vS)) ∧
      Same H H')
    ⟨fun _ => false, 0, none, none, rfl, Nat.le_refl _, fun l => by simp,
      upd_same, ha1, sameNew nsn⟩
    (fun i σ H' _ z => by obtain ⟨_, _, _, _, _, _, _, _, h, _⟩ := z; exact SqL.of h)
    ?_ ?_
  · rintro i v σ H1 H2 hi ⟨S, n, y, z, rfl, hn, hS, hs, ha2, sm⟩
      ⟨T, x1, x2, rfl, nT, rfl, e1, e2⟩
    obtain ⟨l, hl, rfl⟩ := get_map e2
    cases Option.some.inj e1
    rw [List.length_map] at hi
    have nl : Nm l := gd.nm l (List.mem_of_getElem? hl)
    have nTs : sn ≠ T := ne_of_none hs nT
    have nTa : a ≠ T := ne_of_none ha2 nT
    have sm1 : Same H (upd H1 T (.tup [.int (i : Nat), vS l])) :=
      sm.trans (sameNew nT)
    have nin : l ∉ ls.take i := nodup_take gd.nd hl
    refine ⟨T, _, rfl, .inl (.inl upd_same), rfl, _, _, rfl, _, _, rfl, rfl,
      ?_⟩
    refine ⟨_, rfl, _, rfl, .inl ⟨_, rfl, nl.len, fun H3 sm3 => ?_⟩⟩
    rw [nl.b]
    have hs3 : H3 sn = some (SetK P w sn S n) :=
      sm3 _ _ (by rw [upd_ne nTs]; exact hs)
    have ha3 : H3 a = some (.lst (ls.map vS)) :=
      sm3 _ _ (by rw [upd_ne nTa]; exact ha2)
    refine ⟨_, rfl, iteF ?_⟩
    refine ⟨_, rfl, _, rfl, Sum.inr (SX.S l), sn, S, n, rfl, rfl, hs3, _, rfl,
      ?_⟩
    have sf : S (Sum.inr (SX.S l)) = false := by
      rw [hS]; exact decide_eq_false nin
    rw [sf]
    refine iteF ?_
    refine ⟨_, rfl, ⟨sn, S, n, rfl, hs3⟩, _, rfl, sn, Sum.inr (SX.S l), S, n,
      rfl, rfl, hs3, ?_, ?_⟩
    · have := gd.hi
      show n + 1 < 4096
      omega
    refine ⟨_, _, _, _, rfl, ?_, ?_, upd_same, ?_, ?_⟩
    · rw [sf]
      show n + 1 ≤ i + 1
      omega
    · intro l'
      show (S (Sum.inr (SX.S l')) || decide ((Sum.inr (SX.S l') : Key) =
        Sum.inr (SX.S l))) = _
      rw [hS, List.take_add_one, hl]
      by_cases e : l' = l
      · subst e
        simp
      · have : ¬ ((Sum.inr (SX.S l') : Key) = Sum.inr (SX.S l)) :=
          fun z => e (SX.S_inj (Sum.inr.inj z))
        rw [decide_eq_false this, Bool.or_false]
        refine decide_eq_decide.mpr ?_
        rw [List.mem_append]
        constructor
        · exact Or.inl
        · rintro (z | z)
          · exact z
          · exact absurd (by simpa using z) e
    · rw [upd_ne nas]
      exact ha3
    · exact OM.Same.put (sm1.trans sm3) nsn
  · rintro σ H1 ⟨S, n, y, z, rfl, hn, hS, hs, ha2, sm⟩
    have h1 := gd.lo
    have h2 := gd.hi
    refine ⟨_, rfl, a, _, rfl, .inl (SqL.of ha2), _, _, rfl, rfl, _, rfl, ?_⟩
    rw [List.length_map, decide_eq_true (show (1 : Int) ≤ ls.length by omega)]
    refine iteT ⟨_, rfl, _, _, rfl, rfl, _, rfl, ?_⟩
    rw [decide_eq_true (show (ls.length : Int) ≤ 40 by omega)]
    exact iteF (q H1 sm)
theorem ok_check {f : Addr} {fd : FuncData} {k : Nat}
    (F : Fun K "check_items" "check_items" s_check_items f fd)
    (Cf : Cal P w K mg base k "names_fault" ["value", "most"] spNFaultOk)
    {t40 : Tok} (m40 : mg "MAX_ITEMS" = some (.int 40 t40)) :
    FnOk P w K mg base CX0 (k + 1) f fd ["items"] spCheckOk := by
  refine F.ok sc_check_items (fun vs H Q E h => ?_)
    (fun cv A outer s H vs Q E hr h => ?_)
  · obtain ⟨a, ls, rfl, _⟩ := h
    rfl
  obtain ⟨a, ls, rfl, ha, gd, q⟩ := h
  have nd := sc_check_items.nd
  refine ⟨_, pss_cons (ps_set (i := 1) nd rfl (.inl rfl)
      (pe_cal Cf hr (pa_cons (pv 0) (pa_cons
        (pe_glob (v := .int 40) (by rfl) m40 ⟨_, rfl⟩) pa_nil))))
    (pss_one (ps_if (pt_cmpR op_notN (pv 1) pe_non (nomark _))
      (pss_cons ps_never (pss_one ps_never)) pss_nil)), ?_⟩
  exact ⟨_, rfl, a, ls, rfl, ha, gd, fun H1 s1 =>
    ⟨_, rfl, rfl, _, rfl, iteF (q H1 s1)⟩⟩
end
end OM
namespace OM
open PySem PySem.Spec PyProof.Rows L2
section
variable {X : Cx} {n : Nat} {f C : Addr} {fd : FuncData} {ps : List Str}
  {sp : Sp}
/-- a def runs at another depth of the same frame -/
theorem runAt {A : Around} {pins : List (Addr × Obj)} {σ : L2.St} {H : Hp}
    {s : Shared} {Q : VK} {us : List Value} {vs : List V}
    (F : FnG X.prog X.w X.K X.mg X.base CX0 n f fd ps sp)
    (room : Room n A) (gd : A.guards = some []) (fr : A.frames = X.A.frames)
    (hb : Binds X.K fd ps []) (I : Inv X pins σ H s) (r : Vals vs us)
    (h : sp vs H Q E0) :
    wpAny (model X.prog X.w) A (call (.ref f) us) (EP X pins σ Q) X.xe s := by
  have hl : us.length = ps.length := r.length.symm.trans (F.len _ _ _ _ h)
  have e0 : Env0 X.prog X.w X.K X.mg X.base A X.stack s H := by
    have e := I.env0
    exact ⟨by rw [fr]; exact e.frames, e.mod, e.bs, e.bsz, e.funs, e.frf,
      e.hok, e.bare⟩
  have bd : BindsTo s fd ⟨us, []⟩ (ps.zip us) := by
    have := hb s us I.kIn (by rw [List.append_nil]; exact hl)
    rw [List.append_nil] at this
    exact this
  refine wpAny_call (codeAny_mono (F.run A X.stack s H ⟨us, []⟩ us vs Q E0
    room gd e0 bd r h) ?_)
  intro r s' hq
  match r, hq with
  | .error e, hq => exact False.elim hq
  | .ok (.ret u), hq => exact I.after hq
  | .ok .next, hq => exact False.elim hq
  | .ok .brk, hq => exact False.elim hq
  | .ok .cont, hq => exact False.elim hq
/-- the same of a def that asks nothing of what is shown -/
theorem runAt0 {A : Around} {pins : List (Addr × Obj)} {σ : L2.St} {H : Hp}
    {s : Shared} {Q : VK} {us : List Value} {vs : List V}
    (F : FnOk X.prog X.w X.K X.mg X.base CX0 n f fd ps sp)
    (room : Room n A) (fr : A.frames = X.A.frames)
    (hb : Binds X.K fd ps []) (I : Inv X pins σ H s) (r : Vals vs us)
    (h : sp vs H Q E0) :
    wpAny (model X.prog X.w) A (call (.ref f) us) (EP X pins σ Q) X.xe s := by
  have hl : us.length = ps.length := r.length.symm.trans (F.len _ _ _ _ h)
  have e0 : Env0 X.prog X.w X.K X.mg X.base A X.stack s H := by
    have e := I.env0
    exact ⟨by rw [fr]; exact e.frames, e.mod, e.bs, e.bsz, e.funs, e.frf,
      e.hok, e.bare⟩
  have bd : BindsTo s fd ⟨us, []⟩ (ps.zip us) := by
    have := hb s us I.kIn (by rw [List.append_nil]; exact hl)
    rw [List.append_nil] at this
    exact this
  refine wpAny_call (codeAny_mono (F.run A X.stack s H ⟨us, []⟩ us vs Q E0
    room e0 bd r h) ?_)
  intro r s' hq
  match r, hq with
  | .error e, hq => exact False.elim hq
  | .ok (.ret u), hq => exact I.after hq
  | .ok .next, hq => exact False.elim hq
  | .ok .brk, hq => exact False.elim hq
  | .ok .cont, hq => exact False.elim hq
/-- an own method that the interpreter calls by itself -/
structure Spec1 (K : PySem.W.Frag) (C : Addr) (m : Str) (f : Addr)
    (fd : FuncData) (ps : List Str) : Prop where
  at_ : PySem.W.findIn K (.ref C) m = some (some (.ref f))
  fn : PySem.W.isFn K (.ref f) = true
  bd : Binds K fd ps []
/-- x == y, both of the class at C -/
def rEqOwn (C : Addr) (sp : Sp) : R2 := fun x y H Q =>
  ∃ a b dx dy fs gs, x = .ref a ∧ y = .ref b ∧
    H a = some (.ins C dx fs) ∧ H b = some (.ins C dy gs) ∧
    sp [.ref a, .ref b] H (fun v H' => ∃ r, v = .bl r ∧ Q (.bl r) H') E0
theorem op_eqOwn (S : Spec1 X.K C "__eq__" f fd ps)
    (F : FnOk X.prog X.w X.K X.mg X.base CX0 n f fd ps sp)
    (room : Room n X.A) : OpR X (compareOp .Eq) (rEqOwn C sp) := by
  intro pins s σ H x y v u Q I rx ry h
  obtain ⟨a, b, dx, dy, fs, gs, rfl, rfl, ha, hb, q⟩ := h
  cases rx
  cases ry
  obtain ⟨mA, J, _⟩ := ins_get I.hok ha
  obtain ⟨mB, J', _⟩ := ins_get I.hok hb
  obtain ⟨od, J, _⟩ := J.look
  obtain ⟨od', J', _⟩ := J'.look
  obtain ⟨m, hF⟩ := I.fr
  show wpAny _ X.A (richCompare .Eq (.ref a) (.ref b)) _ _ s
  refine PySem.W.cmp_K (op := .Eq) (tb := .ref C) room.units0 hF
    I.ok.mod.kin J J'.type (by simp [PySem.W.notFirst]) S.at_ S.fn ?_
  refine wpAny_mono (runAt0 F room rfl S.bd I (us := [.ref a, .ref b])
    (vs := [.ref a, .ref b])
    (.cons rfl (.cons rfl .nil)) q) ?_ (fun _ _ z => z)
  rintro z s' ⟨v, H', I', rv, r, rfl, q'⟩
  cases rv
  exact ⟨.bl r, H', I', rfl, q'⟩
/-- len(x) of the class at C -/
def rLenOwn (C : Addr) (sp : Sp) : List V → Hp → VK → Prop := fun xs H Q =>
  ∃ a dx fs, xs = [.ref a] ∧ H a = some (.ins C dx fs) ∧
    sp [.ref a] H (fun v H' => ∃ n : Nat, v = .int n ∧ n < 2 ^ 60 ∧
      Q (.int n) H') E0
theorem call_lenOwn (S : Spec1 X.K C "__len__" f fd ps)
    (F : FnOk X.prog X.w X.K X.mg X.base CX0 n f fd ps sp)
    (room : Room (n + 1) X.A) :
    CallR X (.builtin "len") (rLenOwn C sp) := by
  intro pins s σ H xs us Q I r h
  obtain ⟨a, dx, fs, rfl, ha, q⟩ := h
  cases r with
  | cons rv rn =>
    cases rn
    cases rv
    obtain ⟨mA, J, _⟩ := ins_get I.hok ha
    obtain ⟨od, J, _⟩ := J.look
    obtain ⟨m, hF⟩ := I.fr
    refine PySem.W.len_K hF I.ok.mod.kin J S.at_ S.fn ?_
    refine wpAny_mono (runAt0 (A := X.A.in1) F room.in1 rfl S.bd I
      (us := [.ref a]) (vs := [.ref a]) (.cons rfl .nil) q) ?_ (fun _ _ z => z)
    rintro z s' ⟨v, H', I', rv, k, rfl, hk, q'⟩
    obtain ⟨t, rfl⟩ := rv
    exact ⟨⟨by omega, by omega⟩, .int k, H', I'.tok _, ⟨_, rfl⟩, q'⟩
/-- repr(x) of the class at C -/
def rReprOwn (C : Addr) (sp : Sp) : List V → Hp → VK → Prop := fun xs H Q =>
  ∃ a dx fs, xs = [.ref a] ∧ H a = some (.ins C dx fs) ∧
    sp [.ref a] H (fun v H' => ∃ x : Str, v = .str x ∧ Q (.str x) H') E0
theorem call_reprOwn (S : Spec1 X.K C "__repr__" f fd ps)
    (F : FnG X.prog X.w X.K X.mg X.base CX0 n f fd ps sp)
    (room : Room (n + 1) X.A) (gd : X.A.guards = some []) :
    CallR X (.builtin "repr") (rReprOwn C sp) := by
  intro pins s σ H xs us Q I r h
  obtain ⟨a, dx, fs, rfl, ha, q⟩ := h
  cases r with
  | cons rv rn =>
    cases rn
    cases rv
    obtain ⟨mA, J, _⟩ := ins_get I.hok ha
    obtain ⟨od, J, _⟩ := J.look
    obtain ⟨m, hF⟩ := I.fr
    refine PySem.W.repr_K (by have := room.units; show X.A.units + 1 < _; omega) hF I.ok.mod.kin J S.at_ S.fn ?_
    refine wpAny_mono (runAt (A := X.A.in1) F room.in1 gd rfl S.bd I
      (us := [.ref a]) (vs := [.ref a]) (.cons rfl .nil) q) ?_ (fun _ _ z => z)
    rintro z s' ⟨v, H', I', rv, x, rfl, q'⟩
    obtain ⟨t, rfl⟩ := rv
    exact ⟨.str x, H', I', ⟨_, rfl⟩, q'⟩
/-- {x!r} of data -/
def tFmtD (K : PySem.W.Frag) (te : TE) : TE := fun σ H Q =>
  te σ H fun v H1 => ∃ a d, v = .ref a ∧ Dp K H1 v d ∧ d.showable = true ∧
    d.depth ≤ 60 ∧ d.shown.length ≤ sizeLine ∧ Q (.str d.shown) H1
theorem pe_fmtD {e : Expr} {te : TE} {pos : Pos} {k : Nat}
    (room : Room k X.A) (gd : X.A.guards = some []) (he : PE X e te) :
    PE X (.FormattedValue e 114 none pos) (tFmtD X.K te) := by
  constructor
  intro pins s σ H Q I h
  refine wpAny_FormattedValue_repr (thn (he.run pins s σ H _ I h) ?_)
  rintro v s1 ⟨x, H1, I1, r1, a, d, rfl, hd, sh, dp, sz, q⟩
  cases r1
  obtain ⟨as, rd⟩ := Dp.reads I1 d _ _ hd rfl
  have un := room.units
  refine pyReprObj_of_reads rd sh (PyData.noDict_hsm (Dp.noDict _ hd)) gd
    (by omega) (fun _ _ e => e) (fun h' u tk hk => ?_) sz
  exact wpAny_formatField_str ⟨.str _, H1, I1.kept hk, ⟨_, rfl⟩, q⟩
    ⟨.str _, H1, (I1.kept (t' := tk) hk).tok _, ⟨_, rfl⟩, q⟩ sz
end
end OM
namespace OM
open PySem PySem.Spec PyProof.Rows L2
abbrev dN (ls : List (List Nat)) : List PyData := ls.map fun l => .str (SX.S l)
theorem dpAll_N {K : PySem.W.Frag} {H : Hp} : ∀ ls : List (List Nat),
    DpAll K H (ls.map vS) (dN ls)
  | [] => .nil
  | l :: r => .cons (.str _) (dpAll_N r)
theorem dp_N {K : PySem.W.Frag} {H : Hp} {a : Addr} {ls : List (List Nat)}
    (h : SqL K H a (ls.map vS)) : Dp K H (.ref a) (.list (dN ls)) :=
  .lst h (dpAll_N ls)
theorem eqv_N : ∀ ls ms : List (List Nat),
    PyData.eqvAll (dN ls) (dN ms) = decide (ls = ms)
  | [], [] => by simp [PyData.eqvAll]
  | [], m :: ms => by simp [PyData.eqvAll]
  | l :: ls, [] => by simp [PyData.eqvAll]
  | l :: ls, m :: ms => by
    have ih := eqv_N ls ms
    show (PyData.eqv (.str (SX.S l)) (.str (SX.S m)) &&
      PyData.eqvAll (dN ls) (dN ms)) = _
    rw [ih]
    unfold PyData.eqv
    rw [SX.S_beq_eq]
    by_cases e : l = m
    · subst e
      simp
    · have : ¬ (l :: ls = m :: ms) := fun z => e (List.cons.inj z).1
      rw [decide_eq_false e, decide_eq_false this]
      rfl
theorem eqv_L (ls ms : List (List Nat)) :
    PyData.eqv (.list (dN ls)) (.list (dN ms)) = decide (ls = ms) := by
  rw [show PyData.eqv (.list (dN ls)) (.list (dN ms)) =
    PyData.eqvAll (dN ls) (dN ms) by simp only [PyData.eqv]]
  exact eqv_N ls ms
/-- texts of Unicode's codes -/
def Uni (ls : List (List Nat)) : Prop := ∀ l ∈ ls, ∀ c ∈ l, c < 1114112
theorem lay_N : ∀ ls : List (List Nat), Uni ls →
    PyData.canLayAll0 (dN ls) = true
  | [], _ => by simp [PyData.canLayAll0]
  | l :: ls, h => by
    have ih := lay_N ls fun x hx => h x (List.mem_cons_of_mem _ hx)
    have ok : PyData.strOk (SX.S l) = true := by
      unfold PyData.strOk
      rw [Array.all_eq_true]
      intro i hi
      have := h l List.mem_cons_self l.toArray[i] (by simp)
      exact decide_eq_true this
    show PyData.canLayAll0 (.str (SX.S l) :: dN ls) = true
    simp only [PyData.canLayAll0, PyData.canLay0, ih, ok, Bool.and_self]
theorem depth_N : ∀ ls : List (List Nat), PyData.depthAll (dN ls) ≤ 1
  | [] => by simp [PyData.depthAll]
  | l :: ls => by
    have ih := depth_N ls
    show PyData.depthAll (.str (SX.S l) :: dN ls) ≤ 1
    simp only [PyData.depthAll, PyData.depth]
    omega
theorem depth_L (ls : List (List Nat)) : (PyData.list (dN ls)).depth ≤ 2 := by
  simp only [PyData.depth]
  have := depth_N ls
  omega
theorem shaped_L {ls : List (List Nat)} (h : Uni ls) :
    SeqAt.shaped (.list (dN ls)) = true := by
  unfold SeqAt.shaped
  rw [show PyData.canLay0 (.list (dN ls)) = PyData.canLayAll0 (dN ls) by
    simp only [PyData.canLay0], lay_N ls h]
  have := depth_L ls
  exact decide_eq_true (by omega)
theorem showable_N : ∀ ls : List (List Nat), PyData.showableAll (dN ls) = true
  | [] => by simp [PyData.showableAll]
  | l :: ls => by
    have ih := showable_N ls
    show PyData.showableAll (.str (SX.S l) :: dN ls) = true
    simp only [PyData.showableAll, PyData.showable, ih, Bool.and_self]
theorem showable_L (ls : List (List Nat)) :
    (PyData.list (dN ls)).showable = true := by
  simp only [PyData.showable]
  exact showable_N ls
/-- short lists of short texts are shown shortly -/
theorem piled_N : ∀ (ls : List (List Nat)) (m : Nat),
    (∀ l ∈ ls, l.length ≤ m ∧ ∀ c ∈ l, c < 1114112) →
    piled (PyData.shownAll (dN ls)) ≤ ls.length * (10 * m + 4)
  | [], _, _ => by
    show piled (PyData.shownAll []) ≤ _
    simp only [PyData.shownAll]
    exact Nat.zero_le _
  | l :: ls, m, h => by
    have ih := piled_N ls m fun x hx => h x (List.mem_cons_of_mem _ hx)
    obtain ⟨h1, h2⟩ := h l List.mem_cons_self
    have h3 := StrLaws.reprText_len (SX.S l) (fun c hc => Nat.lt_of_lt_of_le
      (h2 c hc) (by decide))
    have h4 : (SX.S l).length = l.length := SX.S_len l
    have h5 : (reprText (SX.S l)).length ≤ 10 * m + 2 := by
      refine Nat.le_trans h3 ?_
      rw [h4]
      omega
    show piled (PyData.shownAll (.str (SX.S l) :: dN ls)) ≤ _
    simp only [PyData.shownAll, PyData.shown]
    rw [piled_cons, List.length_cons, Nat.add_mul]
    omega
theorem shown_L {ls : List (List Nat)} {m : Nat} (hn : ls.length ≤ 1000)
    (hm : m ≤ 1000) (h : ∀ l ∈ ls, l.length ≤ m ∧ ∀ c ∈ l, c < 1114112) :
    (PyData.list (dN ls)).shown.length ≤ sizeLine := by
  have p := piled_N ls m h
  have e : (PyData.list (dN ls)).shown =
      listText (PyData.shownAll (dN ls)) := by simp only [PyData.shown]
  rw [e]
  have q := listText_len_le (PyData.shownAll (dN ls))
  have r : ((PyData.shownAll (dN ls)).map (·.length)).sum +
      2 * (PyData.shownAll (dN ls)).length =
      piled (PyData.shownAll (dN ls)) := by
    generalize PyData.shownAll (dN ls) = ts
    induction ts with
    | nil => rfl
    | cons t ts ih =>
      rw [piled_cons, List.map_cons, List.sum_cons, List.length_cons]
      omega
  have s : ls.length * (10 * m + 4) ≤ 1000 * 10004 :=
    Nat.mul_le_mul hn (by omega)
  refine Nat.le_trans (show _ ≤ 10004003 by omega) (by decide)
end OM
namespace OM
open PySem PySem.Spec PyProof.Rows L2
/-! ### what a base holds -/
def prs : Nat → List (List Nat) → List (Key × V)
  | _, [] => []
  | n, l :: r => (Sum.inr (SX.S l), .int (n : Int)) :: prs (n + 1) r
theorem prs_len : ∀ (n : Nat) (ls : List (List Nat)),
    (prs n ls).length = ls.length
  | _, [] => rfl
  | n, _ :: r => congrArg (· + 1) (prs_len (n + 1) r)
theorem prs_snoc : ∀ (n : Nat) (ls : List (List Nat)) (l : List Nat),
    prs n (ls ++ [l]) =
      prs n ls ++ [(Sum.inr (SX.S l), .int ((n + ls.length : Nat) : Int))]
  | n, [], l => rfl
  | n, x :: r, l => by
    have ih := prs_snoc (n + 1) r l
    show (Sum.inr (SX.S x), V.int (n : Int)) :: prs (n + 1) (r ++ [l]) = _
    rw [ih, List.length_cons, show n + 1 + r.length = n + (r.length + 1) by
      omega]
    rfl
theorem val_prs (l : List Nat) : ∀ (n : Nat) (ls : List (List Nat)),
    valV (prs n ls) (Sum.inr (SX.S l) : Key) =
      if l ∈ ls then some (.int ((n + ls.idxOf l : Nat) : Int)) else none
  | n, [] => rfl
  | n, x :: r => by
    have ih := val_prs l (n + 1) r
    by_cases e : x = l
    · subst e
      rw [if_pos List.mem_cons_self, List.idxOf_cons_self]
      show Option.map _ (List.find? _ ((Sum.inr (SX.S x), _) :: _)) = _
      rw [List.find?_cons_of_pos (by simp)]
      rfl
    · have ne : ¬ ((Sum.inr (SX.S x) : Key) = Sum.inr (SX.S l)) :=
        fun z => e (SX.S_inj (Sum.inr.inj z))
      have hv : valV (prs n (x :: r)) (Sum.inr (SX.S l) : Key) =
          valV (prs (n + 1) r) (Sum.inr (SX.S l)) := by
        show Option.map _ (List.find? _ ((Sum.inr (SX.S x), _) :: _)) = _
        rw [List.find?_cons_of_neg (by simpa using ne)]
        rfl
      rw [hv, ih]
      by_cases m : l ∈ r
      · rw [if_pos m, if_pos (List.mem_cons_of_mem _ m),
          List.idxOf_cons, show (x == l) = false from
            beq_eq_false_iff_ne.mpr e]
        show some (V.int ((n + 1 + r.idxOf l : Nat) : Int)) =
          some (V.int ((n + (r.idxOf l + 1) : Nat) : Int))
        rw [show n + 1 + r.idxOf l = n + (r.idxOf l + 1) by omega]
      · rw [if_neg m, if_neg fun z => ?_]
        rcases List.mem_cons.mp z with z | z
        · exact e z.symm
        · exact m z
/-- the attributes -/
def bf (lo d : Addr) : List (Str × V) :=
  putF "places" (.ref d) (putF "listed" (.ref lo) [])
theorem ne_pl : ¬ (("listed" : Str) = "places") := by decide +kernel
theorem bf_listed (lo d : Addr) :
    (bf lo d).lookup ("listed" : Str) = some (.ref lo) := by
  unfold bf
  rw [lookup_putF, if_neg ne_pl, lookup_putF, if_pos rfl]
theorem bf_places (lo d : Addr) :
    (bf lo d).lookup ("places" : Str) = some (.ref d) := by
  unfold bf
  rw [lookup_putF, if_pos rfl]
theorem bf_no (lo d : Addr) {m : Str} (h1 : ¬ m = "places")
    (h2 : ¬ m = "listed") : (bf lo d).lookup m = none := by
  unfold bf
  rw [lookup_putF, if_neg h1, lookup_putF, if_neg h2]
  rfl
structure BaseAt (C : Addr) (H : Hp) (b : Addr) (ls : List (List Nat)) :
    Prop where
  ob : ∃ dx lo d, H b = some (.ins C dx (bf lo d)) ∧
    H lo = some (.lst (ls.map vS)) ∧ H d = some (.dK (prs 0 ls))
theorem BaseAt.same {C b : Addr} {H H' : Hp} {ls : List (List Nat)}
    (x : BaseAt C H b ls) (s : Same H H') : BaseAt C H' b ls := by
  obtain ⟨dx, lo, d, h1, h2, h3⟩ := x.ob
  exact ⟨dx, lo, d, s _ _ h1, s _ _ h2, s _ _ h3⟩
theorem neRng {H : Hp} {p q : Addr} {ls : List (List Nat)} (r : Rng H p)
    (h : H q = some (.lst (ls.map vS))) : q ≠ p := by
  obtain ⟨a, b, e, _⟩ := r
  refine ne_of h e fun z => ?_
  have z' := HO.lst.inj z
  cases ls with
  | nil => cases z'
  | cons l r =>
    rw [List.map_cons] at z'
    cases (List.cons.inj z').1
theorem BaseAt.but {C b p : Addr} {H H' : Hp} {ls : List (List Nat)}
    (x : BaseAt C H b ls) (r : Rng H p) (s : But p H H') :
    BaseAt C H' b ls := by
  obtain ⟨dx, lo, d, h1, h2, h3⟩ := x.ob
  have n2 := neRng r h2
  obtain ⟨i, j, e, _⟩ := r
  exact ⟨dx, lo, d, s _ _ h1 (ne_of h1 e nofun), s _ _ h2 n2,
    s _ _ h3 (ne_of h3 e nofun)⟩
theorem BaseAt.ne {C b p : Addr} {H : Hp} {ls : List (List Nat)}
    (x : BaseAt C H b ls) (n : H p = none) : b ≠ p := by
  obtain ⟨dx, lo, d, h1, h2, h3⟩ := x.ob
  exact ne_of_none h1 n
structure BC (K : PySem.W.Frag) (mg : Str → Option Value) (C : Addr) :
    Prop where
  ic : C8.InsC K C
  nL : NoAttr K C "listed"
  nP : NoAttr K C "places"
  mgC : mg "Base" = some (.ref C)
  kC : PySem.W.keepIn K (.ref C) = true
theorem BC.cl {K : PySem.W.Frag} {mg : Str → Option Value} {C : Addr}
    (x : BC K mg C) : Cls K C := x.ic.cl
/-- Base(items), the items being right -/
def spInitOk (C : Addr) : Sp := fun vs H Q _ =>
  ∃ (b a dx : Addr) (ls : List (List Nat)), vs = [.ref b, .ref a] ∧
  H b = some (.ins C dx []) ∧ H a = some (.lst (ls.map vS)) ∧ Good ls ∧
  ∀ H', BaseAt C H' b ls → But b H H' → Q .non H'
/-- a walk of a dict comprehension -/
theorem dc_walk {J : It} {n : Nat} {G : Hp → Prop}
    {Y : Nat → Hp → V → Hp → Prop} (wk : Walk J n G Y) {g : TG} {tt : TT}
    {tk tv : TE} {vs : List Nat} {σ : L2.St} {H1 : Hp} {D : Addr}
    {Qd : Hp → Prop} (Pv : Nat → Hp → Prop)
    (h0 : Pv 0 (upd H1 D (.dK []))) (hG : ∀ i H, i ≤ n → Pv i H → G H)
    (hs : ∀ i x H H', i < n → Pv i H → Y i H x H' →
      g x (wipe σ vs) H' fun σ2 H2 => wipe σ2 vs = wipe σ vs ∧
        tt σ2 H2 fun b H3 => if b = true then tk σ2 H3 fun y H4 =>
          tv σ2 H4 fun z H5 => ∃ kvs k, y = kV k ∧ H5 D = some (.dK kvs) ∧
            kvs.length < sizeLine ∧ Pv (i + 1) (upd H5 D (.dK (putK kvs k z)))
          else Pv (i + 1) H3)
    (hd : ∀ H, Pv n H → Qd H) :
    ∃ W : Nat → Nat → Hp → Prop, (∃ m, W 0 m (upd H1 D (.dK []))) ∧
      ∀ i m H, W i m H → (J.stop i H ∧ Qd H) ∨ (J.go i H ∧
        ∃ Nx : Hp → Prop, (∀ H', Nx H' → ∃ m', m' < m ∧ W (i + 1) m' H') ∧
        ∀ x H', J.yld i H x H' → g x (wipe σ vs) H' fun σ2 H2 =>
          wipe σ2 vs = wipe σ vs ∧ tt σ2 H2 fun b H3 => if b = true then
            tk σ2 H3 fun y H4 => tv σ2 H4 fun z H5 => ∃ kvs k, y = kV k ∧
              H5 D = some (.dK kvs) ∧ kvs.length < sizeLine ∧
              Nx (upd H5 D (.dK (putK kvs k z))) else Nx H3) := by
  refine ⟨fun i m H => m + i = n ∧ Pv i H, ⟨n, rfl, h0⟩, ?_⟩
  rintro i m H ⟨e, p⟩
  have q := hG i H (by omega) p
  rcases Nat.lt_or_ge i n with lt | ge
  · exact .inr ⟨wk.goes i H lt q, Pv (i + 1),
      fun H' p' => ⟨m - 1, by omega, by omega, p'⟩,
      fun x H' y => hs i x H H' lt p (wk.yields i H x H' lt q y)⟩
  · have e' : i = n := by omega
    subst e'
    exact .inl ⟨wk.stops H q, hd H p⟩
section
variable {P : Program} {w : World} {K : PySem.W.Frag}
  {mg : Str → Option Value} {base : Heap} {C : Addr}
theorem ok_init {f : Addr} {fd : FuncData} {k : Nat}
    (F : Fun K "__init__" "Base.__init__" s_Base_init f fd) (B : Bl mg)
    (T : BC K mg C)
    (Ck : Cal P w K mg base k "check_items" ["items"] spCheckOk) :
    FnOk P w K mg base CX0 (k + 1) f fd ["self", "items"] (spInitOk C) := by
  refine F.ok sc_Base_init (fun vs H Q E h => ?_)
    (fun cv A outer s H vs Q E hr h => ?_)
  · obtain ⟨b, a, dx, ls, rfl, _⟩ := h
    rfl
  obtain ⟨b, a, dx, ls, rfl, hb, ha, gd, q⟩ := h
  have nd := sc_Base_init.nd
  refine ⟨_, pss_cons (ps_expr (pe_cal Ck hr (pa_cons (pv 1) pa_nil)))
    (pss_cons (ps_fld (pv 0) (pe_callTy call_list_of (by rfl) B.list bt_list
      (pa_cons (pv 1) pa_nil)) rfl)
    (pss_one (ps_fld (pv 0)
      (pe_dc (own := [("name", 2), ("at", 3)])
        (g := gTup K 2 (gCons (gName 3) (gCons (gName 2) gNil)))
        (tt := tYes) rfl nd
        (pi_enum (by rfl) B.enum (pa_cons (pv 1) pa_nil))
        (blkOk_by (N := N_Base_init) (sc := defScope s_Base_init)
          (by decide +kernel))
        (fun _ _ _ _ _ => pg_tup rfl (pgs_cons (pg_name (i := 3) nd rfl
          (Or.inl rfl)) (pgs_cons (pg_name (i := 2) nd rfl (Or.inl rfl))
          pgs_nil)))
        (fun _ _ _ _ _ => pts_nil) (fun _ _ _ _ _ => pv 2)
        (fun _ _ _ _ _ => pv 3)) rfl))), ?_⟩
  refine ⟨_, rfl, a, ls, rfl, ha, gd, fun H1 s1 => ?_⟩
  have nba : b ≠ a := ne_of hb ha nofun
  have hb1 := s1 _ _ hb
  have ha1 := s1 _ _ ha
  refine ⟨_, rfl, a, _, rfl, .inl (SqL.of ha1), fun lo nlo => ?_⟩
  have nbl : b ≠ lo := ne_of_none hb1 nlo
  have nal : a ≠ lo := ne_of_none ha1 nlo
  refine ⟨_, rfl, b, C, dx, [], rfl, by rw [upd_ne nbl]; exact hb1, T.cl, T.nL,
    by decide, ?_⟩
  generalize eH2 : upd (upd H1 lo (.lst (ls.map vS))) b
    (.ins C dx (putF "listed" (.ref lo) [])) = H2
  have hb2 : H2 b = some (.ins C dx (putF "listed" (.ref lo) [])) := by
    rw [← eH2]; exact upd_same
  have ha2 : H2 a = some (.lst (ls.map vS)) := by
    rw [← eH2, upd_ne nba.symm, upd_ne nal]; exact ha1
  have hl2 : H2 lo = some (.lst (ls.map vS)) := by
    rw [← eH2, upd_ne nbl.symm, upd_same]
  have b2 : But b H H2 := by
    rw [← eH2]
    exact ((But.of s1).new (s1.free nlo)).at
  refine ⟨_, rfl, a, _, rfl, SqL.of ha2, fun d nd' => ?_⟩
  have ndb : b ≠ d := ne_of_none hb2 nd'
  have nda : a ≠ d := ne_of_none ha2 nd'
  have ndl : lo ≠ d := ne_of_none hl2 nd'
  refine dc_walk (walk_enum (K := K) (a := a) (xs := ls.map vS))
    (fun i H' => H' d = some (.dK (prs 0 (ls.take i))) ∧
      H' b = some (.ins C dx (putF "listed" (.ref lo) [])) ∧
      H' a = some (.lst (ls.map vS)) ∧ H' lo = some (.lst (ls.map vS)) ∧
      But b H H')
    ⟨upd_same, by rw [upd_ne ndb]; exact hb2, by rw [upd_ne nda]; exact ha2,
      by rw [upd_ne ndl]; exact hl2, b2.put nd' ndb.symm⟩
    (fun i H' _ z => SqL.of z.2.2.1) ?_ ?_
  · rintro i v H3 H4 hi ⟨hd, h1, h2, h3, b3⟩ ⟨T', x1, x2, rfl, nT, rfl, e1, e2⟩
    obtain ⟨l, hl, rfl⟩ := get_map e2
    cases Option.some.inj e1
    rw [List.length_map] at hi
    have hhi := gd.hi
    refine ⟨T', _, rfl, .inl (.inl upd_same), rfl, _, _, rfl, _, _, rfl, rfl,
      rfl, yes ⟨_, rfl, _, rfl, prs 0 (ls.take i), Sum.inr (SX.S l), rfl, ?_, ?_,
      ?_, ?_, ?_, ?_, ?_⟩⟩
    · rw [upd_ne (ne_of_none hd nT)]
      exact hd
    · rw [prs_len, List.length_take]
      exact sz' (by omega)
    · rw [upd_same, putK_new _ (by
        rw [val_prs, if_neg (nodup_take gd.nd hl)]),
        List.take_add_one, hl]
      show _ = some (HO.dK (prs 0 (ls.take i ++ [l])))
      rw [prs_snoc, List.length_take, Nat.min_eq_left (by omega),
        Nat.zero_add]
    · rw [upd_ne ndb, upd_ne (ne_of_none h1 nT)]
      exact h1
    · rw [upd_ne nda, upd_ne (ne_of_none h2 nT)]
      exact h2
    · rw [upd_ne ndl, upd_ne (ne_of_none h3 nT)]
      exact h3
    · exact (b3.put nT (ne_of_none h1 nT).symm).new (b2.free ndb.symm nd')
  · rintro H3 ⟨hd, h1, h2, h3, b3⟩
    rw [List.take_of_length_le (by rw [List.length_map]; exact Nat.le_refl _)]
      at hd
    refine ⟨_, rfl, b, C, dx, _, rfl, h1, T.cl, T.nP,
      by show 1 < 1000; decide, ?_⟩
    refine q _ ⟨dx, lo, d, upd_same, ?_, ?_⟩ b3.at
    · rw [upd_ne nbl.symm]
      exact h3
    · rw [upd_ne ndb.symm]
      exact hd
end
end OM
namespace OM
open PySem PySem.Spec PyProof.Rows L2
/-! ### a method, in one word -/
structure CalM (P : Program) (w : World) (K : PySem.W.Frag)
    (mg : Str → Option Value) (base : Heap) (C : Addr) (k : Nat) (x : Str)
    (ps : List Str) (sp : Sp) : Prop where
  cl : Cls K C
  ex : ∃ f fd, FnOk P w K mg base CX0 k f fd ps sp ∧ Meth K C x f ∧
    Binds K fd ps []
section
variable {X : Cx} {k : Nat} {ps : List Str} {sp : Sp} {x : Str} {C : Addr}
  {p pos : Pos} {o e : Expr} {es : List Expr} {t : TA} {to : TE}
theorem pe_calM {pl : Sem Bool} (M : CalM X.prog X.w X.K X.mg X.base C k x ps sp)
    (room : Room k X.A) (ho : PE X o to) (ha : PA X (e :: es) t)
    (h1 : starEach (e :: es) X.env =
      (false, eval e X.env) :: starEach es X.env := by rfl)
    (h2 : (backTo pos (starEach es X.env)).any (·.1) = false := by rfl)
    (h3 : eval (.Call (.Attribute o x p) (e :: es) [] pos) X.env = (do
      let ov ← eval o X.env
      standAt p.atName
      let (f, first) ← holding [ov] (getMethod ov x pl)
      callWith pos f first (backTo pos (starEach (e :: es) X.env))
        (backToKw pos (keywordEach [] X.env))) := by rfl) :
    PE X (.Call (.Attribute o x p) (e :: es) [] pos)
      (tMeth C x sp [] E0 to t) := by
  obtain ⟨f, fd, F, m, b⟩ := M.ex
  exact pe_meth (pl := pl) ho M.cl m F room b .nil pass0 ha h1 h2 h3
theorem pe_calM0 {pl : Sem Bool} (M : CalM X.prog X.w X.K X.mg X.base C k x ps sp)
    (room : Room k X.A) (ho : PE X o to)
    (h3 : eval (.Call (.Attribute o x p) [] [] pos) X.env = (do
      let ov ← eval o X.env
      standAt p.atName
      let (f, first) ← holding [ov] (getMethod ov x pl)
      callWith pos f first (backTo pos (starEach [] X.env))
        (backToKw pos (keywordEach [] X.env))) := by rfl) :
    PE X (.Call (.Attribute o x p) [] [] pos)
      (tMeth C x sp [] E0 to tNil) := by
  obtain ⟨f, fd, F, m, b⟩ := M.ex
  exact pe_meth0 (pl := pl) ho M.cl m F room b .nil pass0 h3
end
def spGetNames (C : Addr) : Sp := fun vs H Q _ =>
  ∃ (b : Addr) (ls : List (List Nat)), vs = [.ref b] ∧ BaseAt C H b ls ∧
  ∀ q H', H q = none → H' q = some (.lst (ls.map vS)) → Same H H' →
    Q (.ref q) H'
def spLenB (C : Addr) : Sp := fun vs H Q _ =>
  ∃ (b : Addr) (ls : List (List Nat)), vs = [.ref b] ∧ BaseAt C H b ls ∧
  Q (.int ls.length) H
/-- == of two bases -/
def spEqB (C : Addr) : Sp := fun vs H Q _ =>
  ∃ (b o : Addr) (ls ms : List (List Nat)), vs = [.ref b, .ref o] ∧
  BaseAt C H b ls ∧ BaseAt C H o ms ∧ Uni ls ∧ Uni ms ∧
  Q (.bl (decide (ls = ms))) H
def baseText (ls : List (List Nat)) : Str :=
  Str.empty ++ Str.ofString "Base(" ++ (PyData.list (dN ls)).shown ++
    Str.ofString ")"
/-- repr of a base -/
def spReprB (C : Addr) : Sp := fun vs H Q _ =>
  ∃ (b : Addr) (ls : List (List Nat)), vs = [.ref b] ∧ BaseAt C H b ls ∧
  Good ls ∧ Q (.str (baseText ls)) H
theorem Nm.uni {l : List Nat} (n : Nm l) : ∀ c ∈ l, c < 1114112 := fun c h => by
  have := n.az c h
  omega
theorem Good.uni {ls : List (List Nat)} (g : Good ls) : Uni ls :=
  fun l h => (g.nm l h).uni
theorem Good.shown {ls : List (List Nat)} (g : Good ls) :
    (PyData.list (dN ls)).shown.length ≤ sizeLine := by
  have := g.hi
  exact shown_L (m := 8) (by omega) (by omega) fun l h =>
    ⟨(g.nm l h).hi, (g.nm l h).uni⟩
section
variable {P : Program} {w : World} {K : PySem.W.Frag}
  {mg : Str → Option Value} {base : Heap} {C : Addr}
theorem ok_getnames {f : Addr} {fd : FuncData} {k : Nat}
    (F : Fun K "names" "Base.names" s_Base_names f fd) (B : Bl mg)
    (T : BC K mg C) :
    FnOk P w K mg base CX0 (k + 1) f fd ["self"] (spGetNames C) := by
  refine F.ok sc_Base_names (fun vs H Q E h => ?_)
    (fun cv A outer s H vs Q E hr h => ?_)
  · obtain ⟨b, ls, rfl, _⟩ := h
    rfl
  obtain ⟨b, ls, rfl, hb, q⟩ := h
  obtain ⟨dx, lo, d, h1, h2, h3⟩ := hb.ob
  refine ⟨_, pss_one (ps_ret (pe_callTy call_list_of (by rfl) B.list bt_list
    (pa_cons (pe_fld (pv 0) rfl) pa_nil))), ?_⟩
  exact ⟨_, rfl, b, C, dx, _, _, rfl, h1, T.cl, T.nL, bf_listed _ _, lo, _, rfl,
    .inl (SqL.of h2), fun l nl => q l _ nl upd_same (sameNew nl)⟩
theorem ok_lenB {f : Addr} {fd : FuncData} {k : Nat}
    (F : Fun K "__len__" "Base.__len__" s_Base_len f fd) (B : Bl mg)
    (T : BC K mg C) :
    FnOk P w K mg base CX0 (k + 1) f fd ["self"] (spLenB C) := by
  refine F.ok sc_Base_len (fun vs H Q E h => ?_)
    (fun cv A outer s H vs Q E hr h => ?_)
  · obtain ⟨b, ls, rfl, _⟩ := h
    rfl
  obtain ⟨b, ls, rfl, hb, q⟩ := h
  obtain ⟨dx, lo, d, h1, h2, h3⟩ := hb.ob
  refine ⟨_, pss_one (ps_ret (pe_callB call_len_seq (by rfl) B.len
    PySem.boot_len (pa_cons (pe_fld (pv 0) rfl) pa_nil))), ?_⟩
  refine ⟨_, rfl, b, C, dx, _, _, rfl, h1, T.cl, T.nL, bf_listed _ _, lo, _,
    rfl, .inl (SqL.of h2), ?_⟩
  rw [List.length_map]
  exact q
theorem ok_eqB {f : Addr} {fd : FuncData} {k : Nat}
    (F : Fun K "__eq__" "Base.__eq__" s_Base_eq f fd) (B : Bl mg)
    (T : BC K mg C) :
    FnOk P w K mg base CX0 (k + 1) f fd ["self", "other"] (spEqB C) := by
  refine F.ok sc_Base_eq (fun vs H Q E h => ?_)
    (fun cv A outer s H vs Q E hr h => ?_)
  · obtain ⟨b, o, ls, ms, rfl, _⟩ := h
    rfl
  obtain ⟨b, o, ls, ms, rfl, hb, ho, u1, u2, q⟩ := h
  obtain ⟨dx, lo, d, h1, h2, h3⟩ := hb.ob
  obtain ⟨dy, mo, e, g1, g2, g3⟩ := ho.ob
  refine ⟨_, pss_one (ps_ret (pe_and
    (pe_callB (C8.call_isC T.ic) (by rfl) B.isi bt_isi (pa_cons (pv 1)
      (pa_cons (pe_glob (v := .ref C) (by rfl) T.mgC rfl) pa_nil)))
    (pe_one (pe_cmpR (op_eqD hr.units) (pe_fld (pv 0) rfl) (pe_fld (pv 1) rfl)
      (nomark _))))), ?_⟩
  refine ⟨_, rfl, o, dy, _, rfl, g1, _, rfl, iteT ?_⟩
  refine ⟨_, rfl, b, C, dx, _, _, rfl, h1, T.cl, T.nL, bf_listed _ _, _, rfl, o,
    C, dy, _, _, rfl, g1, T.cl, T.nL, bf_listed _ _, _, _, dp_N (SqL.of h2),
    dp_N (SqL.of g2), shaped_L u1, shaped_L u2, ?_⟩
  rw [eqv_L]
  exact q
theorem ok_reprB {f : Addr} {fd : FuncData} {k : Nat}
    (F : Fun K "__repr__" "Base.__repr__" s_Base_repr f fd)
    (T : BC K mg C) :
    FnG P w K mg base CX0 (k + 1) f fd ["self"] (spReprB C) := by
  refine okG F sc_Base_repr (fun vs H Q E h => ?_)
    (fun cv A outer s H vs Q E hr gd h => ?_)
  · obtain ⟨b, ls, rfl, _⟩ := h
    rfl
  obtain ⟨b, ls, rfl, hb, good, q⟩ := h
  obtain ⟨dx, lo, d, h1, h2, h3⟩ := hb.ob
  refine ⟨_, pss_one (ps_ret (pe_joined (.cons pe_str (.cons
    (pe_fmtD hr gd (pe_fld (pv 0) rfl)) (.cons pe_str .nil))))), ?_⟩
  have l1 := good.shown
  have l2 : (PyData.list (dN ls)).shown.length ≤ 10004003 := by
    have e : (PyData.list (dN ls)).shown =
        listText (PyData.shownAll (dN ls)) := by simp only [PyData.shown]
    have p := piled_N ls 8 fun l h => ⟨(good.nm l h).hi, (good.nm l h).uni⟩
    have q := listText_len_le (PyData.shownAll (dN ls))
    rw [e]
    have r : ((PyData.shownAll (dN ls)).map (·.length)).sum +
        2 * (PyData.shownAll (dN ls)).length =
        piled (PyData.shownAll (dN ls)) := by
      generalize PyData.shownAll (dN ls) = ts
      induction ts with
      | nil => rfl
      | cons t ts ih =>
        rw [piled_cons, List.map_cons, List.sum_cons, List.length_cons]
        omega
    have s : ls.length * (10 * 8 + 4) ≤ 40 * 84 :=
      Nat.mul_le_mul good.hi (Nat.le_refl _)
    omega
  have l3 : (Str.ofString "Base(").length = 5 := by decide +kernel
  have l4 : (Str.ofString ")").length = 1 := by decide +kernel
  have l5 : (Str.empty).length = 0 := by decide +kernel
  have l6 : 10005000 ≤ sizeLine := by decide
  refine ⟨_, rfl, ?_, _, rfl, b, C, dx, _, _, rfl, h1, T.cl, T.nL,
    bf_listed _ _, lo, _, rfl, dp_N (SqL.of h2), showable_L ls,
    Nat.le_trans (depth_L ls) (by decide), l1, _, rfl, ?_, _, rfl, ?_, q⟩
  · rw [strLen_append]
    omega
  · rw [strLen_append, strLen_append]
    omega
  · rw [strLen_append, strLen_append, strLen_append]
    omega
end
end OM
namespace OM
open PySem PySem.Spec PyProof.Rows L2
/-! ### a class that is made, in one word -/
structure CalC (P : Program) (w : World) (K : PySem.W.Frag)
    (mg : Str → Option Value) (base : Heap) (C : Addr) (k : Nat) (x : Str)
    (ps : List Str) (sp : Sp) : Prop where
  mgC : mg x = some (.ref C)
  ex : ∃ f fd, FnOk P w K mg base CX0 k f fd ps sp ∧ Mk K C f ∧
    Binds K fd ps []
section
variable {X : Cx} {k : Nat} {ps : List Str} {sp : Sp} {x : Str} {C : Addr}
  {p pos : Pos} {e : Expr} {es : List Expr} {t : TA}
theorem pe_calC (M : CalC X.prog X.w X.K X.mg X.base C k x ps sp)
    (room : Room (k + 1) X.A) (ha : PA X (e :: es) t)
    (hg : Gl X x := by rfl)
    (h1 : (x == ("__debug__" : Str)) = false := by decide)
    (h2 : starEach (e :: es) X.env =
      (false, eval e X.env) :: starEach es X.env := by rfl)
    (h3 : (backTo pos (starEach es X.env)).any (·.1) = false := by rfl) :
    PE X (.Call (.Name x p) (e :: es) [] pos) (tMake C sp [] E0 t) := by
  obtain ⟨f, fd, F, m, b⟩ := M.ex
  exact pe_make m F room hg M.mgC b .nil pass0 ha h1 h2 h3
end
theorem cut_to (xs : List V) {n : Nat} (h : n ≤ xs.length) :
    cutV xs none (some (n : Int)) = xs.take n := by
  unfold cutV
  rw [HT.sIx_nat, HT.sIx_none, Nat.min_eq_left h, Nat.sub_zero,
    List.drop_zero]
theorem cut_from (xs : List V) {n : Nat} (h : n ≤ xs.length) :
    cutV xs (some (n : Int)) none = xs.drop n := by
  unfold cutV
  rw [HT.sIx_nat, HT.sIx_none, Nat.min_eq_left h]
  exact List.take_of_length_le (by rw [List.length_drop]; exact Nat.le_refl _)
/-- os is an order of the base -/
structure Ord (C : Addr) (H : Hp) (b a : Addr) (ls os : List (List Nat)) :
    Prop where
  ba : BaseAt C H b ls
  good : Good ls
  li : H a = some (.lst (os.map vS))
  pm : os.Perm ls
theorem Ord.same {C b a : Addr} {H H' : Hp} {ls os : List (List Nat)}
    (x : Ord C H b a ls os) (s : Same H H') : Ord C H' b a ls os :=
  ⟨x.ba.same s, x.good, s _ _ x.li, x.pm⟩
theorem Good.perm {ls os : List (List Nat)} (g : Good ls)
    (p : os.Perm ls) : Good os :=
  ⟨fun l h => g.nm l (p.mem_iff.mp h), p.nodup_iff.mpr g.nd,
    by rw [p.length_eq]; exact g.lo, by rw [p.length_eq]; exact g.hi⟩
end OM
namespace OM
open PySem PySem.Spec PyProof.Rows L2
/-- is it an item -/
def spHas (K : PySem.W.Frag) (C : Addr) : Sp := fun vs H Q _ =>
  ∃ (b : Addr) (ls : List (List Nat)) (v : V), vs = [.ref b, v] ∧
  BaseAt C H b ls ∧ (∀ l ∈ ls, Nm l) ∧
  ((∃ x : Str, v = .str x ∧ x.length ≤ sizeLine ∧ ∀ H', Same H H' →
      Q (.bl (decide (x.cps.toList ∈ ls))) H') ∨
   (∃ t, TyX K H v t ∧ PySem.W.kitOne K t (.type "str") = some false ∧
      ∀ H', Same H H' → Q (.bl false) H'))
section
variable {P : Program} {w : World} {K : PySem.W.Frag}
  {mg : Str → Option Value} {base : Heap} {C : Addr}
theorem ok_has {f : Addr} {fd : FuncData} {k : Nat}
    (F : Fun K "has_item" "Base.has_item" s_Base_has_item f fd) (B : Bl mg)
    (T : BC K mg C) (Ci : CalIsName P w K mg base k) :
    FnOk P w K mg base CX0 (k + 1) f fd ["self", "value"] (spHas K C) := by
  refine F.ok sc_Base_has_item (fun vs H Q E h => ?_)
    (fun cv A outer s H vs Q E hr h => ?_)
  · obtain ⟨b, ls, v, rfl, _⟩ := h
    rfl
  obtain ⟨b, ls, v, rfl, hb, nm, h⟩ := h
  have hu := hu_of hr
  refine ⟨_, pss_one (ps_ret (pe_and (pe_cal Ci hr (pa_cons (pv 1) pa_nil))
    (pe_one (pe_cmp (pc_din hu (pv 1) (pe_fld (pv 0) rfl)) rfl)))), ?_⟩
  rcases h with ⟨x, rfl, hx, q⟩ | ⟨t, ty, kt, q⟩
  · refine ⟨_, rfl, _, rfl, .inl ⟨x, rfl, hx, fun H1 s1 => ?_⟩⟩
    obtain ⟨dx, lo, d, h1, h2, h3⟩ := (hb.same s1).ob
    refine ⟨_, rfl, ?_⟩
    by_cases hm : x.cps.toList ∈ ls
    · have e : nmB x.cps.toList = true := nmB_iff.mpr (nm _ hm)
      rw [e]
      refine iteT ⟨_, rfl, _, rfl, b, C, dx, _, _, rfl, h1, T.cl, T.nP,
        bf_places _ _, d, _, rfl, DGet.k (k := Sum.inr x) h3, ?_⟩
      have ex : x = SX.S x.cps.toList := (SX.S_tl x).symm
      rw [ex, val_prs, if_pos hm]
      have := q H1 s1
      rw [decide_eq_true hm] at this
      exact this
    · have qf := q H1 s1
      rw [decide_eq_false hm] at qf
      cases e : nmB x.cps.toList with
      | false => exact iteF qf
      | true =>
        refine iteT ⟨_, rfl, _, rfl, b, C, dx, _, _, rfl, h1, T.cl, T.nP,
          bf_places _ _, d, _, rfl, DGet.k (k := Sum.inr x) h3, ?_⟩
        have ex : x = SX.S x.cps.toList := (SX.S_tl x).symm
        rw [ex, val_prs, if_neg hm]
        exact qf
  · exact ⟨_, rfl, _, rfl, .inr ⟨t, ty, kt, _, rfl, iteF (q H (Same.refl H))⟩⟩
end
end OM
namespace OM
open PySem PySem.Spec PyProof.Rows L2
/-- an item's place -/
def spPos (C : Addr) : Sp := fun vs H Q _ =>
  ∃ (b : Addr) (ls : List (List Nat)) (l : List Nat), vs = [.ref b, vS l] ∧
  BaseAt C H b ls ∧ (∀ l ∈ ls, Nm l) ∧ l ∈ ls ∧
  ∀ H', Same H H' → Q (.int ((ls.idxOf l : Nat) : Int)) H'
def spPrec (C : Addr) : Sp := fun vs H Q _ =>
  ∃ (b : Addr) (ls : List (List Nat)) (l m : List Nat),
  vs = [.ref b, vS l, vS m] ∧
  BaseAt C H b ls ∧ (∀ l ∈ ls, Nm l) ∧ l ∈ ls ∧ m ∈ ls ∧
  ∀ H', Same H H' → Q (.bl (decide (ls.idxOf l < ls.idxOf m))) H'
theorem idx_get {ls : List (List Nat)} {l : List Nat} (h : l ∈ ls) :
    (ls.map vS)[ls.idxOf l]? = some (vS l) := by
  have hl := List.idxOf_lt_length_of_mem h
  rw [List.getElem?_map, List.getElem?_eq_getElem hl, List.getElem_idxOf hl]
  rfl
theorem idx_first {ls : List (List Nat)} {l : List Nat} (m : Nat) (z : V)
    (hm : m < ls.idxOf l) (hz : (ls.map vS)[m]? = some z) :
    eqV z (vS l) = false := by
  rw [List.getElem?_map] at hz
  cases e : ls[m]? with
  | none => rw [e] at hz; cases hz
  | some x =>
    rw [e] at hz
    cases Option.some.inj hz
    have ne : x ≠ l := by
      rintro rfl
      obtain ⟨hl, e2⟩ := List.getElem?_eq_some_iff.mp e
      have := List.not_of_lt_findIdx hm
      simp [e2] at this
    unfold eqV
    simp
    exact ne
theorem eqV_self (l : List Nat) : eqV (vS l) (vS l) = true := by
  unfold eqV
  simp
section
variable {P : Program} {w : World} {K : PySem.W.Frag}
  {mg : Str → Option Value} {base : Heap} {C : Addr}
theorem ok_pos {f : Addr} {fd : FuncData} {k : Nat}
    (F : Fun K "position_of" "Base.position_of" s_Base_position_of f fd)
    (T : BC K mg C)
    (Mh : CalM P w K mg base C k "has_item" ["self", "value"] (spHas K C)) :
    FnOk P w K mg base CX0 (k + 1) f fd ["self", "item"] (spPos C) := by
  refine F.ok sc_Base_position_of (fun vs H Q E h => ?_)
    (fun cv A outer s H vs Q E hr h => ?_)
  · obtain ⟨b, ls, l, rfl, _⟩ := h
    rfl
  obtain ⟨b, ls, l, rfl, hb, nm, hm, q⟩ := h
  have hu := hu_of hr
  refine ⟨_, pss_cons (ps_if (pt_not (pt_val
      (pe_calM Mh hr (pv 0) (pa_cons (pv 1) pa_nil)))) (pss_one ps_never)
      pss_nil)
    (pss_one (ps_ret (pe_dget hu (pe_fld (pv 0) rfl) (pv 1)
      (fun _ _ => rfl)))), ?_⟩
  obtain ⟨dx, lo, d, h1, h2, h3⟩ := hb.ob
  refine ⟨_, rfl, b, dx, _, rfl, h1, bf_no _ _ (by decide +kernel)
    (by decide +kernel), _, rfl, b, ls, _, rfl, hb, nm, .inl ⟨_, rfl,
    (nm l hm).len, fun H1 s1 => ?_⟩⟩
  rw [decide_eq_true (show (SX.S l).cps.toList ∈ ls from hm)]
  refine ⟨_, rfl, iteF ?_⟩
  refine ⟨_, rfl, b, C, dx, _, _, rfl, s1 _ _ h1, T.cl, T.nP, bf_places _ _, _,
    rfl, d, _, rfl, ?_, q H1 s1⟩
  have g := DGet.k (k := Sum.inr (SX.S l)) (s1 _ _ h3)
  rw [val_prs, if_pos hm, Nat.zero_add] at g
  exact g
theorem ok_prec {f : Addr} {fd : FuncData} {k : Nat}
    (F : Fun K "precedes" "Base.precedes" s_Base_precedes f fd)
    (Mp : CalM P w K mg base C k "position_of" ["self", "item"] (spPos C)) :
    FnOk P w K mg base CX0 (k + 1) f fd ["self", "first", "second"]
      (spPrec C) := by
  refine F.ok sc_Base_precedes (fun vs H Q E h => ?_)
    (fun cv A outer s H vs Q E hr h => ?_)
  · obtain ⟨b, ls, l, m, rfl, _⟩ := h
    rfl
  obtain ⟨b, ls, l, m, rfl, hb, nm, hl, hm, q⟩ := h
  refine ⟨_, pss_one (ps_ret (pe_cmpR op_lt
    (pe_calM Mp hr (pv 0) (pa_cons (pv 1) pa_nil))
    (pe_calM Mp hr (pv 0) (pa_cons (pv 2) pa_nil)) (nomark _))), ?_⟩
  obtain ⟨dx, lo, d, h1, h2, h3⟩ := hb.ob
  refine ⟨_, rfl, b, dx, _, rfl, h1, bf_no _ _ (by decide +kernel)
    (by decide +kernel), _, rfl, b, ls, l, rfl, hb, nm, hl, fun H1 s1 => ?_⟩
  refine ⟨_, rfl, b, dx, _, rfl, s1 _ _ h1, bf_no _ _ (by decide +kernel)
    (by decide +kernel), _, rfl, b, ls, m, rfl, hb.same s1, nm, hm,
    fun H2 s2 => ⟨_, _, rfl, rfl, ?_⟩⟩
  have := q H2 (s1.trans s2)
  show Q (.bl (decide (((ls.idxOf l : Nat) : Int) <
    ((ls.idxOf m : Nat) : Int)))) H2
  rw [show decide (((ls.idxOf l : Nat) : Int) < ((ls.idxOf m : Nat) : Int)) =
    decide (ls.idxOf l < ls.idxOf m) from decide_eq_decide.mpr
      ⟨fun z => by omega, fun z => by omega⟩]
  exact this
end
end OM
/-! two neighbours exchanged -/
namespace OM
def exch {α : Type} : List α → Nat → List α
  | x :: y :: r, 0 => y :: x :: r
  | x :: r, i + 1 => x :: exch r i
  | l, _ => l
theorem exch_succ {α : Type} (x : α) (l : List α) (i : Nat) :
    exch (x :: l) (i + 1) = x :: exch l i := by cases l <;> rfl
theorem exch_map {α β : Type} (f : α → β) : ∀ (xs : List α) (i : Nat),
    exch (xs.map f) i = (exch xs i).map f
  | [], i => by cases i <;> rfl
  | [x], 0 => rfl
  | [x], i + 1 => by
    show f x :: exch [] i = (x :: exch [] i).map f
    rw [List.map_cons, ← exch_map f [] i]
    rfl
  | x :: y :: r, 0 => rfl
  | x :: y :: r, i + 1 => by
    show f x :: exch ((y :: r).map f) i = (x :: exch (y :: r) i).map f
    rw [exch_map f (y :: r) i, List.map_cons]
theorem exch_perm {α : Type} : ∀ (xs : List α) (i : Nat), (exch xs i).Perm xs
  | [], i => by cases i <;> exact List.Perm.refl _
  | [x], 0 => List.Perm.refl _
  | [x], i + 1 => (exch_perm [] i).cons x
  | x :: y :: r, 0 => List.Perm.swap x y r
  | x :: y :: r, i + 1 => (exch_perm (y :: r) i).cons x
theorem exch_len {α : Type} (xs : List α) (i : Nat) :
    (exch xs i).length = xs.length := (exch_perm xs i).length_eq
theorem exch_exch {α : Type} : ∀ (xs : List α) (i : Nat),
    exch (exch xs i) i = xs
  | [], i => by cases i <;> rfl
  | [x], 0 => rfl
  | [x], i + 1 => by
    show x :: exch (exch [] i) i = [x]
    rw [exch_exch [] i]
  | x :: y :: r, 0 => rfl
  | x :: y :: r, i + 1 => by
    rw [exch_succ, exch_succ, exch_exch (y :: r) i]
theorem exch_eq {α : Type} : ∀ {xs : List α} {i : Nat} (h : i + 1 < xs.length),
    exch xs i = xs.take i ++ [xs[i + 1], xs[i]] ++ xs.drop (i + 2)
  | [], i, h => absurd h (by simp)
  | [x], i, h => absurd h (by simp)
  | x :: y :: r, 0, h => rfl
  | x :: y :: r, i + 1, h => by
    have ih := exch_eq (xs := y :: r) (i := i) (by simpa using h)
    show x :: exch (y :: r) i = _
    rw [ih]
    rfl
theorem exch_getD {α : Type} (d : α) : ∀ {xs : List α} {i : Nat}
    (h : i + 1 < xs.length), (exch xs i).getD i d = xs.getD (i + 1) d ∧
      (exch xs i).getD (i + 1) d = xs.getD i d
  | [], i, h => absurd h (by simp)
  | [x], i, h => absurd h (by simp)
  | x :: y :: r, 0, h => ⟨rfl, rfl⟩
  | x :: y :: r, i + 1, h => by
    have ih := exch_getD d (xs := y :: r) (i := i) (by simpa using h)
    show (x :: exch (y :: r) i).getD (i + 1) d = _ ∧
      (x :: exch (y :: r) i).getD (i + 1 + 1) d = _
    rw [List.getD_cons_succ, List.getD_cons_succ, List.getD_cons_succ,
      List.getD_cons_succ]
    exact ih
theorem getD_map {α β : Type} (f : α → β) {xs : List α} {i : Nat} (d : α)
    (h : i < xs.length) : (xs.map f)[i]? = some (f (xs.getD i d)) := by
  rw [List.getElem?_map, List.getElem?_eq_getElem h,
    List.getD_eq_getElem?_getD, List.getElem?_eq_getElem h]
  rfl
theorem getD_mem {α : Type} {xs : List α} {i : Nat} (d : α)
    (h : i < xs.length) : xs.getD i d ∈ xs := by
  rw [List.getD_eq_getElem?_getD, List.getElem?_eq_getElem h]
  exact List.getElem_mem h
/-- does a swap there go outward -/
def outB (ls os : List (List Nat)) (i : Nat) : Bool :=
  decide (ls.idxOf (os.getD i []) < ls.idxOf (os.getD (i + 1) []))
theorem exch_get {α : Type} : ∀ {xs : List α} {i : Nat}
    (h : i + 1 < xs.length) (j : Nat), (exch xs i)[j]? =
      if j = i then xs[i + 1]? else if j = i + 1 then xs[i]? else xs[j]?
  | [], i, h, _ => absurd h (by simp)
  | [x], i, h, _ => absurd h (by simp)
  | x :: y :: r, 0, h, 0 => rfl
  | x :: y :: r, 0, h, 1 => rfl
  | x :: y :: r, 0, h, j + 2 => by
    rw [if_neg (by omega), if_neg (by omega)]
    rfl
  | x :: y :: r, i + 1, h, 0 => by
    rw [exch_succ, if_neg (by omega), if_neg (by omega)]
    rfl
  | x :: y :: r, i + 1, h, j + 1 => by
    have ih := exch_get (xs := y :: r) (i := i) (by simpa using h) j
    rw [exch_succ, List.getElem?_cons_succ, ih, List.getElem?_cons_succ,
      List.getElem?_cons_succ]
    by_cases e : j = i
    · subst e
      rw [if_pos rfl, if_pos rfl]
      rfl
    · by_cases e2 : j = i + 1
      · subst e2
        rw [if_neg e, if_pos rfl, if_neg (by omega), if_pos rfl]
        rfl
      · rw [if_neg e, if_neg e2, if_neg (by omega), if_neg (by omega)]
        rfl
end OM
namespace OM
open PySem PySem.Spec PyProof.Rows L2
structure BlI (mg : Str → Option Value) : Prop where
  int : mg "int" = none
  bool : mg "bool" = none
theorem bti_int : bootBuiltins "int" = some (.type "int") := by
  decide +kernel
theorem bti_bool : bootBuiltins "bool" = some (.type "bool") := by
  decide +kernel
/-- a whole number is an integer -/
def spIsInt : Sp := fun vs H Q _ => ∃ v : Int, vs = [.int v] ∧ Q (.bl true) H
/-- a whole number within bounds -/
def spIntFrom : Sp := fun vs H Q _ => ∃ v lo hi : Int,
  vs = [.int v, .int lo, .int hi] ∧
  Q (.bl (decide (lo ≤ v) && decide (v ≤ hi))) H
def spSwapIx (C : Addr) : Sp := fun vs H Q _ =>
  ∃ (b : Addr) (ls : List (List Nat)) (v : Int), vs = [.ref b, .int v] ∧
  BaseAt C H b ls ∧ ls.length ≤ 40 ∧
  Q (.bl (decide (0 ≤ v) && decide (v ≤ (ls.length : Int) - 2))) H
def spChkIx (C : Addr) : Sp := fun vs H Q _ =>
  ∃ (b : Addr) (ls : List (List Nat)) (i : Nat), vs = [.ref b, .int i] ∧
  BaseAt C H b ls ∧ ls.length ≤ 40 ∧ i + 1 < ls.length ∧ Q .non H
def spExch (K : PySem.W.Frag) : Sp := fun vs H Q _ =>
  ∃ (a : Addr) (xs : List V) (i : Nat), vs = [.ref a, .int i] ∧
  SqL K H a xs ∧ i + 1 < xs.length ∧ xs.length ≤ 1000 ∧
  ∀ q H', H q = none → H' q = some (.lst (exch xs i)) → Same H H' →
    Q (.ref q) H'
def spOut (C : Addr) : Sp := fun vs H Q _ =>
  ∃ (b a : Addr) (ls os : List (List Nat)) (i : Nat),
  vs = [.ref b, .ref a, .int i] ∧ Ord C H b a ls os ∧ i + 1 < os.length ∧
  ∀ H', Same H H' → Q (.bl (outB ls os i)) H'
section
variable {P : Program} {w : World} {K : PySem.W.Frag}
  {mg : Str → Option Value} {base : Heap} {C : Addr}
theorem ok_isint {f : Addr} {fd : FuncData} {k : Nat}
    (F : Fun K "is_integer" "is_integer" s_is_integer f fd)
    (B : Bl mg) (BI : BlI mg) :
    FnOk P w K mg base CX0 (k + 1) f fd ["value"] spIsInt := by
  refine F.ok sc_is_integer (fun vs H Q E h => ?_)
    (fun cv A outer s H vs Q E hr h => ?_)
  · obtain ⟨v, rfl, _⟩ := h
    rfl
  obtain ⟨v, rfl, q⟩ := h
  refine ⟨_, pss_one (ps_ret (pe_and
    (pe_callB call_isi (by rfl) B.isi bt_isi (pa_cons (pv 0) (pa_cons
      (pe_bltn (v := .ty "int") (by rfl) BI.int bti_int rfl) pa_nil)))
    (pe_one (pe_not (pe_callB call_isi (by rfl) B.isi bt_isi (pa_cons (pv 0)
      (pa_cons (pe_bltn (v := .ty "bool") (by rfl) BI.bool bti_bool rfl)
        pa_nil))))))), ?_⟩
  refine ⟨_, rfl, _, _, _, _, true, rfl, .ty "int", .base (.int _),
    kit_ty (by decide +kernel), _, rfl, iteT ?_⟩
  exact ⟨_, rfl, _, _, _, _, false, rfl, .ty "bool", .base (.int _),
    kit_ty (by decide +kernel), _, rfl, q⟩
theorem ok_intfrom {f : Addr} {fd : FuncData} {k : Nat}
    (F : Fun K "is_integer_from" "is_integer_from" s_is_integer_from f fd)
    (Ci : Cal P w K mg base k "is_integer" ["value"] spIsInt) :
    FnOk P w K mg base CX0 (k + 1) f fd ["value", "low", "high"]
      spIntFrom := by
  refine F.ok sc_is_integer_from (fun vs H Q E h => ?_)
    (fun cv A outer s H vs Q E hr h => ?_)
  · obtain ⟨v, lo, hi, rfl, _⟩ := h
    rfl
  obtain ⟨v, lo, hi, rfl, q⟩ := h
  refine ⟨_, pss_one (ps_ret (pe_and (pe_cal Ci hr (pa_cons (pv 0) pa_nil))
    (pe_one (pe_chain op_le op_le (pv 1) (pv 0) (pv 2))))), ?_⟩
  refine ⟨_, rfl, v, rfl, _, rfl, iteT ?_⟩
  refine ⟨_, rfl, _, rfl, _, _, rfl, rfl, _, rfl, ite2 (fun c => ?_)
    (fun c => ?_)⟩
  · refine ⟨_, rfl, _, _, rfl, rfl, ?_⟩
    have c' : lo ≤ v := of_decide_eq_true c
    rw [decide_eq_true c', Bool.true_and] at q
    exact q
  · have c' : ¬ lo ≤ v := fun z => c (decide_eq_true z)
    rw [decide_eq_false c', Bool.false_and] at q
    exact q
theorem ok_swapix {f fl : Addr} {fd fdl : FuncData} {k n : Nat}
    (F : Fun K "is_swap_index" "is_swap_index" s_is_swap_index f fd)
    (B : Bl mg)
    (Ci : Cal P w K mg base k "is_integer_from" ["value", "low", "high"]
      spIntFrom)
    (Sl : Spec1 K C "__len__" fl fdl ["self"])
    (Gl : FnOk P w K mg base CX0 n fl fdl ["self"] (spLenB C))
    (hn : n + 1 ≤ k) :
    FnOk P w K mg base CX0 (k + 1) f fd ["base", "value"] (spSwapIx C) := by
  refine F.ok sc_is_swap_index (fun vs H Q E h => ?_)
    (fun cv A outer s H vs Q E hr h => ?_)
  · obtain ⟨b, ls, v, rfl, _⟩ := h
    rfl
  obtain ⟨b, ls, v, rfl, hb, hl, q⟩ := h
  have hrn := hr.mono hn
  refine ⟨_, pss_one (ps_ret (pe_cal Ci hr (pa_cons (pv 1) (pa_cons pe_int
    (pa_cons (pe_op op_sub (pe_callB (call_lenOwn Sl Gl hrn) (by rfl) B.len
      PySem.boot_len (pa_cons (pv 0) pa_nil)) pe_int) pa_nil))))), ?_⟩
  obtain ⟨dx, lo, d, h1, h2, h3⟩ := hb.ob
  exact ⟨_, rfl, _, rfl, b, dx, _, rfl, h1, b, ls, rfl, hb, ls.length, rfl,
    by omega, _, _, rfl, rfl, v, 0, _, rfl, q⟩
theorem ok_chkix {f : Addr} {fd : FuncData} {k : Nat}
    (F : Fun K "check_swap_index" "check_swap_index" s_check_swap_index f fd)
    (Ci : Cal P w K mg base k "is_swap_index" ["base", "value"]
      (spSwapIx C)) :
    FnOk P w K mg base CX0 (k + 1) f fd ["base", "index"] (spChkIx C) := by
  refine F.ok sc_check_swap_index (fun vs H Q E h => ?_)
    (fun cv A outer s H vs Q E hr h => ?_)
  · obtain ⟨b, ls, v, rfl, _⟩ := h
    rfl
  obtain ⟨b, ls, i, rfl, hb, hl, hi, q⟩ := h
  refine ⟨_, pss_one (ps_if (pt_not (pt_val (pe_cal Ci hr (pa_cons (pv 0)
    (pa_cons (pv 1) pa_nil))))) (pss_one ps_never) pss_nil), ?_⟩
  refine ⟨_, rfl, _, rfl, b, ls, _, rfl, hb, hl, _, rfl, ?_⟩
  rw [decide_eq_true (show (0 : Int) ≤ (i : Int) by omega),
    decide_eq_true (show (i : Int) ≤ (ls.length : Int) - 2 by omega)]
  exact iteF q
theorem ok_exch {f : Addr} {fd : FuncData} {k : Nat}
    (F : Fun K "exchanged" "exchanged" s_exchanged f fd) :
    FnOk P w K mg base CX0 (k + 1) f fd ["order", "index"] (spExch K) := by
  refine F.ok sc_exchanged (fun vs H Q E h => ?_)
    (fun cv A outer s H vs Q E hr h => ?_)
  · obtain ⟨a, xs, i, rfl, _⟩ := h
    rfl
  obtain ⟨a, xs, i, rfl, hS, hi, hx, q⟩ := h
  refine ⟨_, pss_one (ps_ret (pe_op op_cat (pe_op op_cat
      (pe_slice sl_list (pv 0) po_none (po_some (pv 1)))
      (pe_lst (pa_cons (pe_ix ix_list (pv 0) (pe_op op_add (pv 1) pe_int)
          (fun _ _ => rfl))
        (pa_cons (pe_ix ix_list (pv 0) (pv 1) (fun _ _ => rfl)) pa_nil))))
      (pe_slice sl_list (pv 0) (po_some (pe_op op_add (pv 1) pe_int))
        po_none))), ?_⟩
  refine ⟨_, rfl, _, rfl, i, rfl, a, _, rfl, hS, fun p1 n1 => ?_⟩
  rw [cut_to _ (by omega)]
  have s1 : Same H (upd H p1 (.lst (xs.take i))) := sameNew n1
  have h1 : (upd H p1 (.lst (xs.take i))) p1 = some (.lst (xs.take i)) :=
    upd_same
  generalize upd H p1 (.lst (xs.take i)) = H1 at s1 h1 ⊢
  have g1 := s1.seq hS
  refine ⟨_, rfl, _, rfl, _, _, rfl, rfl, a, _, _, xs[i + 1], rfl, rfl, g1,
    atI_nat (j := i + 1) (List.getElem?_eq_getElem hi), _, rfl, _, rfl, a, _, _,
    xs[i], rfl, rfl, g1, atI_nat (j := i)
    (List.getElem?_eq_getElem (by omega)), sz (by simp), fun p2 n2 => ?_⟩
  have s2 : Same H1 (upd H1 p2 (.lst [xs[i + 1], xs[i]])) := sameNew n2
  have h2 : (upd H1 p2 (.lst [xs[i + 1], xs[i]])) p2 =
    some (.lst [xs[i + 1], xs[i]]) := upd_same
  generalize upd H1 p2 (.lst [xs[i + 1], xs[i]]) = H2 at s2 h2 ⊢
  refine ⟨p1, p2, _, _, rfl, rfl, s2 _ _ h1, h2, ?_, fun p3 n3 => ?_⟩
  · rw [List.length_take]
    exact sz (by simp; omega)
  have s3 : Same H2 (upd H2 p3 (.lst (xs.take i ++ [xs[i + 1], xs[i]]))) :=
    sameNew n3
  have h3 : (upd H2 p3 (.lst (xs.take i ++ [xs[i + 1], xs[i]]))) p3 =
    some (.lst (xs.take i ++ [xs[i + 1], xs[i]])) := upd_same
  generalize upd H2 p3 (.lst (xs.take i ++ [xs[i + 1], xs[i]])) = H3
    at s3 h3 ⊢
  refine ⟨_, rfl, _, rfl, _, _, rfl, rfl, _, rfl, a, _, rfl,
    s3.seq (s2.seq g1), fun p4 n4 => ?_⟩
  rw [show (i : Int) + 2 = ((i + 2 : Nat) : Int) by omega,
    cut_from _ (by omega)]
  have s4 : Same H3 (upd H3 p4 (.lst (xs.drop (i + 2)))) := sameNew n4
  have h4 : (upd H3 p4 (.lst (xs.drop (i + 2)))) p4 =
    some (.lst (xs.drop (i + 2))) := upd_same
  generalize upd H3 p4 (.lst (xs.drop (i + 2))) = H4 at s4 h4 ⊢
  refine ⟨p3, p4, _, _, rfl, rfl, s4 _ _ h3, h4, ?_, fun p5 n5 => ?_⟩
  · rw [List.length_append, List.length_take, List.length_drop]
    exact sz (by simp; omega)
  have sm : Same H H4 := ((s1.trans s2).trans s3).trans s4
  refine q p5 _ ?_ ?_ (sm.trans (sameNew n5))
  · cases e : H p5 with
    | none => rfl
    | some o => rw [sm _ _ e] at n5; cases n5
  · rw [upd_same, ← exch_eq hi]
theorem ok_goes {f : Addr} {fd : FuncData} {k : Nat}
    (F : Fun K "goes_outward" "goes_outward" s_goes_outward f fd)
    (Mp : CalM P w K mg base C k "precedes" ["self", "first", "second"]
      (spPrec C)) :
    FnOk P w K mg base CX0 (k + 1) f fd ["base", "order", "index"]
      (spOut C) := by
  refine F.ok sc_goes_outward (fun vs H Q E h => ?_)
    (fun cv A outer s H vs Q E hr h => ?_)
  · obtain ⟨b, a, ls, os, i, rfl, _⟩ := h
    rfl
  obtain ⟨b, a, ls, os, i, rfl, o, hi, q⟩ := h
  refine ⟨_, pss_one (ps_ret (pe_calM Mp hr (pv 0) (pa_cons
    (pe_ix ix_list (pv 1) (pv 2) (fun _ _ => rfl)) (pa_cons
    (pe_ix ix_list (pv 1) (pe_op op_add (pv 2) pe_int) (fun _ _ => rfl))
    pa_nil)))), ?_⟩
  obtain ⟨dx, lo, d, h1, h2, h3⟩ := o.ba.ob
  have hL := SqL.of (K := K) o.li
  refine ⟨_, rfl, b, dx, _, rfl, h1, bf_no _ _ (by decide +kernel)
    (by decide +kernel), _, rfl, _, rfl, a, _, _, _, rfl, rfl, hL,
    atI_nat (j := i) (getD_map vS [] (by omega)), _, rfl, _, rfl, _, _, rfl, rfl,
    a, _, _, _, rfl, rfl, hL, atI_nat (j := i + 1) (getD_map vS [] hi),
    b, ls, _, _, rfl, o.ba, o.good.nm, o.pm.mem_iff.mp (getD_mem [] (by omega)),
    o.pm.mem_iff.mp (getD_mem [] hi), fun H1 s1 => q H1 s1⟩
end
end OM
/-! words of swaps: which pairs they invert, and what a swap back cancels -/
namespace OM
abbrev Nme := List Nat
theorem m_idx {l : List Nme} {i : Nat} {x : Nme} (nd : l.Nodup)
    (h : l[i]? = some x) : l.idxOf x = i := by
  have hm := List.mem_of_getElem? h
  have hl := List.idxOf_lt_length_of_mem hm
  obtain ⟨hi, e⟩ := List.getElem?_eq_some_iff.mp h
  have e2 := List.getElem_idxOf hl
  exact (List.getElem_inj nd).mp (e2.trans e.symm)
theorem m_get {l : List Nme} {x : Nme} (h : x ∈ l) :
    l[l.idxOf x]? = some x := by
  have hl := List.idxOf_lt_length_of_mem h
  rw [List.getElem?_eq_getElem hl, List.getElem_idxOf hl]
theorem m_inj {l : List Nme} {x y : Nme} (hx : x ∈ l) (hy : y ∈ l)
    (h : l.idxOf x = l.idxOf y) : x = y := by
  have a := m_get hx
  rw [h, m_get hy] at a
  exact (Option.some.inj a).symm
theorem m_getD {l : List Nme} {i : Nat} (h : i < l.length) :
    l[i]? = some (l.getD i []) := by
  rw [List.getD_eq_getElem?_getD, List.getElem?_eq_getElem h]
  rfl
/-- where the items stand behind a swap -/
theorem idx_exch {l : List Nme} {i : Nat} (nd : l.Nodup)
    (h : i + 1 < l.length) {x : Nme} (hx : x ∈ l) :
    (exch l i).idxOf x = if x = l.getD i [] then i + 1
      else if x = l.getD (i + 1) [] then i else l.idxOf x := by
  have nd' : (exch l i).Nodup := (exch_perm l i).nodup_iff.mpr nd
  have g0 := m_getD (show i < l.length by omega)
  have g1 := m_getD h
  refine m_idx nd' ?_
  rw [exch_get h]
  by_cases e0 : x = l.getD i []
  · rw [if_pos e0, if_neg (by omega), if_pos rfl, g0, e0]
  · rw [if_neg e0]
    by_cases e1 : x = l.getD (i + 1) []
    · rw [if_pos e1, if_pos rfl, g1, e1]
    · rw [if_neg e1]
      have gx := m_get hx
      rw [if_neg fun z => e0 ?_, if_neg fun z => e1 ?_, gx]
      · rw [z, g1] at gx
        exact (Option.some.inj gx).symm
      · rw [z, g0] at gx
        exact (Option.some.inj gx).symm
/-- a pair of the base that stands the other way round in os -/
def Iv (ls os : List Nme) (p : Nme × Nme) : Prop :=
  p.1 ∈ ls ∧ p.2 ∈ ls ∧ ls.idxOf p.1 < ls.idxOf p.2 ∧
    os.idxOf p.2 < os.idxOf p.1
/-- T lists the inverted pairs of os -/
structure Rep (ls os : List Nme) (T : List (Nme × Nme)) : Prop where
  nd : T.Nodup
  mem : ∀ p, p ∈ T ↔ Iv ls os p
theorem Rep.len {ls os : List Nme} {T U : List (Nme × Nme)} (a : Rep ls os T)
    (b : Rep ls os U) : T.length = U.length := by
  have h : T.Perm U := (List.perm_ext_iff_of_nodup a.nd b.nd).mpr fun p =>
    (a.mem p).trans (b.mem p).symm
  exact h.length_eq
/-- the two neighbours there, the smaller position first -/
def nbr (os : List Nme) (i : Nat) : Nme × Nme :=
  (os.getD i [], os.getD (i + 1) [])
structure Of (ls os : List Nme) : Prop where
  nd : ls.Nodup
  pm : os.Perm ls
theorem Of.ndo {ls os : List Nme} (o : Of ls os) : os.Nodup :=
  o.pm.nodup_iff.mpr o.nd
theorem Of.exch {ls os : List Nme} (o : Of ls os) (i : Nat) :
    Of ls (exch os i) := ⟨o.nd, (exch_perm os i).trans o.pm⟩
section
variable {ls os : List Nme} {i : Nat}
theorem Of.ne (o : Of ls os) (h : i + 1 < os.length) :
    os.getD i [] ≠ os.getD (i + 1) [] := fun e => by
  have a := m_idx o.ndo (m_getD (show i < os.length by omega))
  have b := m_idx o.ndo (m_getD h)
  rw [e] at a
  omega
theorem Of.m0 (o : Of ls os) (h : i + 1 < os.length) : os.getD i [] ∈ ls :=
  o.pm.mem_iff.mp (getD_mem [] (by omega))
theorem Of.m1 (o : Of ls os) (h : i + 1 < os.length) :
    os.getD (i + 1) [] ∈ ls := o.pm.mem_iff.mp (getD_mem [] h)
/-- a swap changes just one pair -/
theorem iv_exch (o : Of ls os) (h : i + 1 < os.length) {x y : Nme}
    (hx : x ∈ ls) (hy : y ∈ ls) (ne : x ≠ y) :
    ((exch os i).idxOf y < (exch os i).idxOf x) ↔
      (if x = os.getD i [] ∧ y = os.getD (i + 1) [] then True
       else if x = os.getD (i + 1) [] ∧ y = os.getD i [] then False
       else os.idxOf y < os.idxOf x) := by
  have ox : x ∈ os := o.pm.mem_iff.mpr hx
  have oy : y ∈ os := o.pm.mem_iff.mpr hy
  rw [idx_exch o.ndo h ox, idx_exch o.ndo h oy]
  have n01 := o.ne h
  have i0 := m_idx o.ndo (m_getD (show i < os.length by omega))
  have i1 := m_idx o.ndo (m_getD h)
  generalize os.getD i [] = a at *
  generalize os.getD (i + 1) [] = b at *
  have hneq : os.idxOf x ≠ os.idxOf y := fun e => ne (m_inj ox oy e)
  by_cases xa : x = a
  · subst xa
    have ya : ¬ y = x := fun e => ne e.symm
    rw [if_pos rfl, if_neg ya]
    by_cases yb : y = b
    · subst yb
      rw [if_pos rfl, if_pos ⟨rfl, rfl⟩]
      simp
    · rw [if_neg yb, if_neg (fun z => yb z.2), if_neg (fun z => n01 z.1)]
      have : os.idxOf y ≠ i + 1 := fun e => yb (m_inj oy
        (o.pm.mem_iff.mpr (by
          have := (List.idxOf_lt_length_of_mem oy)
          have gb : os[i + 1]? = some b := by
            rw [← i1]
            refine m_get ?_
            exact Classical.byContradiction fun nb => by
              have := List.idxOf_eq_length nb
              omega
          exact o.pm.mem_iff.mp (List.mem_of_getElem? gb))) (by omega))
      omega
  · rw [if_neg xa]
    by_cases xb : x = b
    · subst xb
      rw [if_pos rfl]
      by_cases ya : y = a
      · subst ya
        rw [if_pos rfl, if_neg (fun z => xa z.1), if_pos ⟨rfl, rfl⟩]
        simp
      · have yb : ¬ y = x := fun e => ne e.symm
        rw [if_neg ya, if_neg yb, if_neg (fun z => xa z.1),
          if_neg (fun z => ya z.2)]
        have ma : a ∈ os := Classical.byContradiction fun na => by
          have := List.idxOf_eq_length na
          omega
        have : os.idxOf y ≠ i := fun e => ya (m_inj oy ma (by omega))
        omega
    · rw [if_neg xb, if_neg (show ¬ (x = a ∧ y = b) from fun z => xa z.1),
        if_neg (show ¬ (x = b ∧ y = a) from fun z => xb z.1)]
      have ma : a ∈ os := Classical.byContradiction fun na => by
        have := List.idxOf_eq_length na
        omega
      have mb : b ∈ os := Classical.byContradiction fun nb => by
        have := List.idxOf_eq_length nb
        omega
      have x0 : os.idxOf x ≠ i := fun e => xa (m_inj ox ma (by omega))
      have x1 : os.idxOf x ≠ i + 1 := fun e => xb (m_inj ox mb (by omega))
      by_cases ya : y = a
      · subst ya
        rw [if_pos rfl]
        omega
      · rw [if_neg ya]
        by_cases yb : y = b
        · subst yb
          rw [if_pos rfl]
          omega
        · rw [if_neg yb]
theorem out_lt : outB ls os i = true ↔
    ls.idxOf (os.getD i []) < ls.idxOf (os.getD (i + 1) []) := by
  unfold outB
  exact decide_eq_true_iff
theorem in_lt (o : Of ls os) (h : i + 1 < os.length) :
    outB ls os i = false ↔
    ls.idxOf (os.getD (i + 1) []) < ls.idxOf (os.getD i []) := by
  unfold outB
  rw [decide_eq_false_iff_not]
  have : ls.idxOf (os.getD i []) ≠ ls.idxOf (os.getD (i + 1) []) := fun e =>
    o.ne h (m_inj (o.m0 h) (o.m1 h) e)
  omega
/-- an outward swap inverts its pair -/
theorem Rep.out {T : List (Nme × Nme)} (r : Rep ls os T) (o : Of ls os)
    (h : i + 1 < os.length) (ob : outB ls os i = true) :
    nbr os i ∉ T ∧ Rep ls (exch os i) (T ++ [nbr os i]) := by
  have lt := out_lt.mp ob
  have i0 := m_idx o.ndo (m_getD (show i < os.length by omega))
  have i1 := m_idx o.ndo (m_getD h)
  have no : nbr os i ∉ T := fun z => by
    have := ((r.mem _).mp z).2.2.2
    unfold nbr at this
    simp only at this
    omega
  refine ⟨no, ⟨?_, ?_⟩⟩
  · refine List.nodup_append.mpr ⟨r.nd, by simp, ?_⟩
    intro x hx y hy e
    rw [List.mem_singleton.mp hy] at e
    exact no (e ▸ hx)
  · rintro ⟨x, y⟩
    rw [List.mem_append, List.mem_singleton, r.mem]
    unfold Iv
    simp only
    constructor
    · rintro (⟨hx, hy, hl, hv⟩ | e)
      · have ne : x ≠ y := fun z => by rw [z] at hl; omega
        refine ⟨hx, hy, hl, (iv_exch o h hx hy ne).mpr ?_⟩
        split
        · trivial
        · rw [if_neg]
          · exact hv
          · rintro ⟨rfl, rfl⟩
            omega
      · cases e
        have ne := o.ne h
        refine ⟨o.m0 h, o.m1 h, lt, (iv_exch o h (o.m0 h) (o.m1 h) ne).mpr ?_⟩
        rw [if_pos ⟨rfl, rfl⟩]
        trivial
    · rintro ⟨hx, hy, hl, hv⟩
      have ne : x ≠ y := fun z => by rw [z] at hl; omega
      have z := (iv_exch o h hx hy ne).mp hv
      split at z
      · rename_i c
        refine Or.inr ?_
        rw [c.1, c.2]
        rfl
      · split at z
        · exact z.elim
        · exact Or.inl ⟨hx, hy, hl, z⟩
/-- an inward swap takes its pair away -/
theorem Rep.inn {T : List (Nme × Nme)} (r : Rep ls os T) (o : Of ls os)
    (h : i + 1 < os.length) (ob : outB ls os i = false) :
    (os.getD (i + 1) [], os.getD i []) ∈ T ∧
    Rep ls (exch os i) (T.erase (os.getD (i + 1) [], os.getD i [])) := by
  have lt := (in_lt o h).mp ob
  have i0 := m_idx o.ndo (m_getD (show i < os.length by omega))
  have i1 := m_idx o.ndo (m_getD h)
  refine ⟨(r.mem _).mpr ⟨o.m1 h, o.m0 h, lt, by show os.idxOf (os.getD i []) < os.idxOf (os.getD (i + 1) []); omega⟩,
    ⟨r.nd.erase _, ?_⟩⟩
  rintro ⟨x, y⟩
  rw [r.nd.mem_erase_iff, r.mem]
  unfold Iv
  simp only
  constructor
  · rintro ⟨ne, hx, hy, hl, hv⟩
    have nxy : x ≠ y := fun z => by rw [z] at hl; omega
    refine ⟨hx, hy, hl, (iv_exch o h hx hy nxy).mpr ?_⟩
    split
    · trivial
    · rw [if_neg]
      · exact hv
      · rintro ⟨rfl, rfl⟩
        exact ne rfl
  · rintro ⟨hx, hy, hl, hv⟩
    have nxy : x ≠ y := fun z => by rw [z] at hl; omega
    have z := (iv_exch o h hx hy nxy).mp hv
    split at z
    · rename_i c
      rw [c.1, c.2] at hl
      omega
    · split at z
      · exact z.elim
      · rename_i c
        refine ⟨fun e => c ?_, hx, hy, hl, z⟩
        cases e
        exact ⟨rfl, rfl⟩
end
/-! ### words -/
def run (os : List Nme) (ws : List Nat) : List Nme := ws.foldl exch os
/-- each index is one of a swap -/
def Ixs (n : Nat) (ws : List Nat) : Prop := ∀ i ∈ ws, i + 1 < n
/-- each swap goes outward -/
def Wd (ls : List Nme) : List Nme → List Nat → Prop
  | _, [] => True
  | os, i :: r => i + 1 < os.length ∧ outB ls os i = true ∧
    Wd ls (exch os i) r
/-- the pairs that the swaps exchange -/
def prsOf : List Nme → List Nat → List (Nme × Nme)
  | _, [] => []
  | os, i :: r => nbr os i :: prsOf (exch os i) r
theorem run_len (ws : List Nat) : ∀ os : List Nme,
    (run os ws).length = os.length := by
  induction ws with
  | nil => intro os; rfl
  | cons i r ih =>
    intro os
    show (run (exch os i) r).length = _
    rw [ih, exch_len]
theorem Of.run {ls : List Nme} (ws : List Nat) : ∀ {os : List Nme},
    Of ls os → Of ls (run os ws) := by
  induction ws with
  | nil => intro os o; exact o
  | cons i r ih => intro os o; exact ih (o.exch i)
theorem Wd.ixs {ls : List Nme} : ∀ {ws : List Nat} {os : List Nme},
    Wd ls os ws → Ixs os.length ws
  | [], _, _ => nofun
  | i :: r, os, h => fun j hj => by
    rcases List.mem_cons.mp hj with e | e
    · rw [e]; exact h.1
    · have := Wd.ixs h.2.2 j e
      rw [exch_len] at this
      exact this
theorem prsOf_len : ∀ (ws : List Nat) (os : List Nme),
    (prsOf os ws).length = ws.length
  | [], _ => rfl
  | i :: r, os => congrArg (· + 1) (prsOf_len r (exch os i))
theorem Rep.word {ls : List Nme} : ∀ {ws : List Nat} {os : List Nme}
    {T : List (Nme × Nme)}, Rep ls os T → Of ls os → Wd ls os ws →
    Rep ls (OM.run os ws) (T ++ prsOf os ws)
  | [], _, T, r, _, _ => by
    show Rep _ _ (T ++ [])
    rw [List.append_nil]
    exact r
  | i :: w, os, T, r, o, h => by
    have := Rep.word (r.out o h.1 h.2.1).2 (o.exch i) h.2.2
    rw [List.append_assoc] at this
    exact this
/-- any swaps: as many pairs as swaps only if all of them go outward -/
theorem Rep.any {ls : List Nme} : ∀ {ws : List Nat} {os : List Nme}
    {T : List (Nme × Nme)}, Rep ls os T → Of ls os → Ixs os.length ws →
    ∃ U, Rep ls (OM.run os ws) U ∧ U.length ≤ T.length + ws.length ∧
      (U.length = T.length + ws.length → Wd ls os ws)
  | [], _, T, r, _, _ => ⟨T, r, Nat.le_refl _, fun _ => trivial⟩
  | i :: w, os, T, r, o, h => by
    have hi := h i List.mem_cons_self
    have hw : Ixs (exch os i).length w := by
      rw [exch_len]
      exact fun j hj => h j (List.mem_cons_of_mem _ hj)
    cases ob : outB ls os i with
    | true =>
      obtain ⟨U, a, b, c⟩ := Rep.any (r.out o hi ob).2 (o.exch i) hw
      rw [List.length_append] at b c
      refine ⟨U, a, ?_, fun e => ⟨hi, ob, c ?_⟩⟩
      · rw [List.length_cons]
        simp at b
        omega
      · rw [List.length_cons] at e
        simp
        omega
    | false =>
      obtain ⟨m, q⟩ := r.inn o hi ob
      obtain ⟨U, a, b, c⟩ := Rep.any q (o.exch i) hw
      rw [List.length_erase_of_mem m] at b c
      have : 0 < T.length := List.length_pos_of_mem m
      refine ⟨U, a, ?_, fun e => ?_⟩
      · rw [List.length_cons]
        omega
      · rw [List.length_cons] at e
        omega
theorem Rep.nil {ls : List Nme} (nd : ls.Nodup) : Rep ls ls [] :=
  ⟨List.nodup_nil, fun p => ⟨nofun, fun h => by
    have := h.2.2
    omega⟩⟩
theorem run_app (us vs : List Nat) (os : List Nme) :
    run os (us ++ vs) = run (run os us) vs := List.foldl_append
/-! ### the swap back -/
/-- two labels exchanged -/
def lab (x y z : Nme) : Nme := if z = x then y else if z = y then x else z
theorem run_lab (x y : Nme) : ∀ (ws : List Nat) (os : List Nme),
    run (os.map (lab x y)) ws = (run os ws).map (lab x y)
  | [], _ => rfl
  | i :: r, os => by
    show run (exch (os.map (lab x y)) i) r = (run (exch os i) r).map (lab x y)
    rw [exch_map, run_lab x y r]
/-- a swap exchanges the labels of two neighbours -/
theorem exch_lab {os : List Nme} {i : Nat} (nd : os.Nodup)
    (h : i + 1 < os.length) :
    exch os i = os.map (lab (os.getD i []) (os.getD (i + 1) [])) := by
  refine List.ext_getElem? fun j => ?_
  have g0 := m_getD (show i < os.length by omega)
  have g1 := m_getD h
  rw [exch_get h, List.getElem?_map]
  have i0 := m_idx nd g0
  have i1 := m_idx nd g1
  by_cases e0 : j = i
  · subst e0
    rw [if_pos rfl, g0, g1]
    show _ = some (lab _ _ _)
    unfold lab
    rw [if_pos rfl]
  · rw [if_neg e0]
    by_cases e1 : j = i + 1
    · subst e1
      rw [if_pos rfl, g0, g1]
      show _ = some (lab _ _ _)
      unfold lab
      rw [if_neg, if_pos rfl]
      intro z
      rw [z] at i1
      omega
    · rw [if_neg e1]
      cases gj : os[j]? with
      | none => rfl
      | some z =>
        have ij := m_idx nd gj
        show _ = some (lab _ _ _)
        unfold lab
        rw [if_neg, if_neg]
        · intro e
          rw [e] at ij
          omega
        · intro e
          rw [e] at ij
          omega
theorem lab_comm (x y : Nme) : lab x y = lab y x := by
  funext z
  unfold lab
  by_cases a : z = x
  · by_cases b : z = y
    · rw [if_pos a, if_pos b, ← a, ← b]
    · rw [if_pos a, if_neg b, if_pos a]
  · by_cases b : z = y
    · rw [if_neg a, if_pos b, if_pos b]
    · rw [if_neg a, if_neg b, if_neg b, if_neg a]
theorem prsOf_get : ∀ (us : List Nat) (i : Nat) (vs : List Nat)
    (os : List Nme), (prsOf os (us ++ i :: vs))[us.length]? =
      some (nbr (run os us) i)
  | [], i, vs, os => rfl
  | u :: us, i, vs, os => prsOf_get us i vs (exch os u)
/-- the swap back of the pair at position j: without that entry the others
    are outward swaps and lead to the order behind the swap -/
theorem cancel {ls : List Nme} {ws : List Nat} {i j : Nat} (nd : ls.Nodup)
    (w : Wd ls ls ws) (h : i + 1 < ls.length)
    (ob : outB ls (run ls ws) i = false)
    (hj : (prsOf ls ws)[j]? = some ((run ls ws).getD (i + 1) [],
      (run ls ws).getD i [])) :
    Wd ls ls (ws.eraseIdx j) ∧
      run ls (ws.eraseIdx j) = exch (run ls ws) i := by
  have o0 : Of ls ls := ⟨nd, List.Perm.refl _⟩
  have o := o0.run ws
  have lo : (run ls ws).length = ls.length := run_len ws ls
  have jl : j < ws.length := by
    have := (List.getElem?_eq_some_iff.mp hj).1
    rw [prsOf_len] at this
    exact this
  have sp : ws = ws.take j ++ ws[j] :: ws.drop (j + 1) := by
    rw [← List.drop_eq_getElem_cons jl, List.take_append_drop]
  have er : ws.eraseIdx j = ws.take j ++ ws.drop (j + 1) :=
    List.eraseIdx_eq_take_drop_succ ws j
  have lt : (ws.take j).length = j := by rw [List.length_take]; omega
  have jx : ws[j] + 1 < ls.length := w.ixs _ (List.getElem_mem jl)
  generalize hu : ws.take j = us at sp er lt
  generalize hv : ws.drop (j + 1) = vs at sp er
  generalize ws[j] = m at sp jx
  have pj := prsOf_get us m vs ls
  rw [← sp, lt, hj] at pj
  have pe := Option.some.inj pj
  -- the order behind the other entries
  have o1 := o0.run us
  have l1 : (run ls us).length = ls.length := run_len us ls
  have e1 : run ls ws = run (exch (run ls us) m) vs := by
    rw [sp, run_app]
    rfl
  have eq : run ls (us ++ vs) = exch (run ls ws) i := by
    rw [run_app, exch_lab o.ndo (by omega)]
    have ea : (run ls ws).getD (i + 1) [] = (run ls us).getD m [] :=
      congrArg Prod.fst pe
    have eb : (run ls ws).getD i [] = (run ls us).getD (m + 1) [] :=
      congrArg Prod.snd pe
    rw [ea, eb, lab_comm, e1, ← run_lab]
    have : (exch (run ls us) m).map (lab ((run ls us).getD m [])
        ((run ls us).getD (m + 1) [])) = run ls us := by
      have x := exch_lab ((o1.exch m).ndo) (i := m) (by rw [exch_len]; omega)
      obtain ⟨g0, g1⟩ := exch_getD ([] : Nme) (xs := run ls us) (i := m)
        (by omega)
      rw [exch_exch, g0, g1, lab_comm] at x
      exact x.symm
    rw [this]
  rw [er]
  refine ⟨?_, eq⟩
  -- all of them go outward, by counting
  have r0 := Rep.nil nd
  have rw' := r0.word o0 w
  obtain ⟨mm, ri⟩ := rw'.inn o (by omega) ob
  have ix : Ixs ls.length (us ++ vs) := fun k hk => w.ixs k (by
    rw [sp]
    rcases List.mem_append.mp hk with z | z
    · exact List.mem_append_left _ z
    · exact List.mem_append_right _ (List.mem_cons_of_mem _ z))
  obtain ⟨U, ru, _, hU⟩ := r0.any o0 ix
  rw [eq] at ru
  have l2 := ru.len ri
  refine hU ?_
  rw [l2, List.length_erase_of_mem mm, List.nil_append, prsOf_len]
  have : ws.length = us.length + (vs.length + 1) := by
    rw [sp, List.length_append, List.length_cons]
  rw [List.length_append, List.length_nil]
  omega
end OM
namespace OM
open PySem PySem.Spec PyProof.Rows L2
/-- what a comprehension walks, whatever its turn does -/
theorem walkW {J : It} {n : Nat} {G : Hp → Prop}
    {Y : Nat → Hp → V → Hp → Prop} (wk : Walk J n G Y) {H0 : Hp}
    {Qd : Hp → Prop} {body : V → Hp → (Hp → Prop) → Prop}
    (Pv : Nat → Hp → Prop) (h0 : Pv 0 H0) (hG : ∀ i H, i ≤ n → Pv i H → G H)
    (hs : ∀ i x H H', i < n → Pv i H → Y i H x H' → body x H' (Pv (i + 1)))
    (hd : ∀ H, Pv n H → Qd H) :
    ∃ W : Nat → Nat → Hp → Prop, (∃ m, W 0 m H0) ∧
      ∀ i m H, W i m H → (J.stop i H ∧ Qd H) ∨ (J.go i H ∧
        ∃ Nx : Hp → Prop, (∀ H', Nx H' → ∃ m', m' < m ∧ W (i + 1) m' H') ∧
        ∀ x H', J.yld i H x H' → body x H' Nx) := by
  refine ⟨fun i m H => m + i = n ∧ Pv i H, ⟨n, rfl, h0⟩, ?_⟩
  rintro i m H ⟨e, p⟩
  have q := hG i H (by omega) p
  rcases Nat.lt_or_ge i n with lt | ge
  · exact .inr ⟨wk.goes i H lt q, Pv (i + 1),
      fun H' p' => ⟨m - 1, by omega, by omega, p'⟩,
      fun x H' y => hs i x H H' lt p (wk.yields i H x H' lt q y)⟩
  · have e' : i = n := by omega
    subst e'
    exact .inl ⟨wk.stops H q, hd H p⟩
/-! ### pairs of names -/
abbrev Pr := List Nat × List Nat
abbrev vT (p : Pr) : List V := [vS p.1, vS p.2]
def PrsAt (H : Hp) (rs : List Addr) (ps : List Pr) : Prop :=
  Paired (fun r p => H r = some (.tup (vT p))) rs ps
theorem PrsAt.same {H H' : Hp} : ∀ {rs : List Addr} {ps : List Pr},
    PrsAt H rs ps → Same H H' → PrsAt H' rs ps
  | _, _, .nil, _ => .nil
  | _, _, .cons h t, s => .cons (s _ _ h) (PrsAt.same t s)
theorem PrsAt.snoc {H : Hp} {r : Addr} {p : Pr} (h : H r = some (.tup (vT p))) :
    ∀ {rs : List Addr} {ps : List Pr}, PrsAt H rs ps →
      PrsAt H (rs ++ [r]) (ps ++ [p])
  | _, _, .nil => .cons h .nil
  | _, _, .cons a t => .cons a (PrsAt.snoc h t)
theorem PrsAt.app {H : Hp} {qs : List Addr} {us : List Pr}
    (h : PrsAt H qs us) : ∀ {rs : List Addr} {ps : List Pr}, PrsAt H rs ps →
      PrsAt H (rs ++ qs) (ps ++ us)
  | _, _, .nil => h
  | _, _, .cons a t => .cons a (PrsAt.app h t)
theorem PrsAt.len {H : Hp} : ∀ {rs : List Addr} {ps : List Pr},
    PrsAt H rs ps → rs.length = ps.length
  | _, _, .nil => rfl
  | _, _, .cons _ t => congrArg (· + 1) (PrsAt.len t)
abbrev dT (p : Pr) : PyData := .tuple [.str (SX.S p.1), .str (SX.S p.2)]
abbrev dP (ps : List Pr) : List PyData := ps.map dT
theorem dp_T {K : PySem.W.Frag} {H : Hp} {r : Addr} {p : Pr}
    (h : H r = some (.tup (vT p))) : Dp K H (.ref r) (dT p) :=
  .tup (SqT.of h) (.cons (.str _) (.cons (.str _) .nil))
theorem dpAll_P {K : PySem.W.Frag} {H : Hp} : ∀ {rs : List Addr}
    {ps : List Pr}, PrsAt H rs ps → DpAll K H (rs.map V.ref) (dP ps)
  | _, _, .nil => .nil
  | _, _, .cons h t => .cons (dp_T h) (dpAll_P t)
theorem dp_P {K : PySem.W.Frag} {H : Hp} {a : Addr} {rs : List Addr}
    {ps : List Pr} (h : SqL K H a (rs.map V.ref)) (p : PrsAt H rs ps) :
    Dp K H (.ref a) (.list (dP ps)) := .lst h (dpAll_P p)
theorem eqv_T (p q : Pr) : PyData.eqv (dT p) (dT q) = decide (p = q) := by
  obtain ⟨a, b⟩ := p
  obtain ⟨c, d⟩ := q
  show PyData.eqv (.tuple [.str (SX.S a), .str (SX.S b)])
    (.tuple [.str (SX.S c), .str (SX.S d)]) = _
  simp only [PyData.eqv, PyData.eqvAll, SX.S_beq_eq, Bool.and_true]
  by_cases e : a = c
  · by_cases f : b = d
    · subst e; subst f; simp
    · simp [e, f]
  · simp [e]
theorem eqv_PA : ∀ ps qs : List Pr,
    PyData.eqvAll (dP ps) (dP qs) = decide (ps = qs)
  | [], [] => by simp [PyData.eqvAll]
  | [], m :: ms => by simp [PyData.eqvAll]
  | l :: ls, [] => by simp [PyData.eqvAll]
  | l :: ls, m :: ms => by
    have ih := eqv_PA ls ms
    show (PyData.eqv (dT l) (dT m) && PyData.eqvAll (dP ls) (dP ms)) = _
    rw [ih, eqv_T]
    by_cases e : l = m
    · subst e
      simp
    · have : ¬ (l :: ls = m :: ms) := fun z => e (List.cons.inj z).1
      rw [decide_eq_false e, decide_eq_false this]
      rfl
theorem eqv_P (ps qs : List Pr) :
    PyData.eqv (.list (dP ps)) (.list (dP qs)) = decide (ps = qs) := by
  rw [show PyData.eqv (.list (dP ps)) (.list (dP qs)) =
    PyData.eqvAll (dP ps) (dP qs) by simp only [PyData.eqv]]
  exact eqv_PA ps qs
theorem any_P (q : Pr) : ∀ ps : List Pr,
    ((dP ps).any fun z => PyData.eqv z (dT q)) = decide (q ∈ ps)
  | [] => by simp
  | p :: ps => by
    have ih := any_P q ps
    rw [show dP (p :: ps) = dT p :: dP ps from rfl, List.any_cons, ih, eqv_T]
    by_cases e : p = q
    · subst e
      simp
    · have ne : ¬ q = p := fun z => e z.symm
      simp [e, ne]
/-- names in pairs -/
def UniP (ps : List Pr) : Prop := ∀ p ∈ ps,
  (p.1.length ≤ 8 ∧ ∀ c ∈ p.1, c < 1114112) ∧
  (p.2.length ≤ 8 ∧ ∀ c ∈ p.2, c < 1114112)
theorem strOkS {l : List Nat} (h : ∀ c ∈ l, c < 1114112) :
    PyData.strOk (SX.S l) = true := by
  unfold PyData.strOk
  rw [Array.all_eq_true]
  intro i hi
  have := h l.toArray[i] (by simp)
  exact decide_eq_true this
theorem lay_T {p : Pr} (h1 : ∀ c ∈ p.1, c < 1114112)
    (h2 : ∀ c ∈ p.2, c < 1114112) : PyData.canLay0 (dT p) = true := by
  simp only [PyData.canLay0, PyData.canLayAll0, strOkS h1, strOkS h2,
    Bool.and_self]
theorem lay_P : ∀ ps : List Pr, UniP ps → PyData.canLayAll0 (dP ps) = true
  | [], _ => by simp [PyData.canLayAll0]
  | p :: ps, h => by
    have ih := lay_P ps fun x hx => h x (List.mem_cons_of_mem _ hx)
    have hp := h p List.mem_cons_self
    show PyData.canLayAll0 (dT p :: dP ps) = true
    rw [show PyData.canLayAll0 (dT p :: dP ps) =
      (PyData.canLay0 (dT p) && PyData.canLayAll0 (dP ps)) by
        simp only [PyData.canLayAll0], ih, lay_T hp.1.2 hp.2.2]
    rfl
theorem depth_T (p : Pr) : (dT p).depth ≤ 2 := by
  simp only [PyData.depth, PyData.depthAll]
  omega
theorem depth_PA : ∀ ps : List Pr, PyData.depthAll (dP ps) ≤ 2
  | [] => by simp [PyData.depthAll]
  | p :: ps => by
    have ih := depth_PA ps
    have h := depth_T p
    show PyData.depthAll (dT p :: dP ps) ≤ 2
    rw [show PyData.depthAll (dT p :: dP ps) =
      max (dT p).depth (PyData.depthAll (dP ps)) by
        simp only [PyData.depthAll]]
    omega
theorem depth_P (ps : List Pr) : (PyData.list (dP ps)).depth ≤ 3 := by
  rw [show (PyData.list (dP ps)).depth = PyData.depthAll (dP ps) + 1 by
    simp only [PyData.depth]]
  have := depth_PA ps
  omega
theorem shaped_T {p : Pr} (h1 : ∀ c ∈ p.1, c < 1114112)
    (h2 : ∀ c ∈ p.2, c < 1114112) : SeqAt.shaped (dT p) = true := by
  unfold SeqAt.shaped
  rw [lay_T h1 h2]
  have := depth_T p
  exact decide_eq_true (by omega)
theorem shaped_P {ps : List Pr} (h : UniP ps) :
    SeqAt.shaped (.list (dP ps)) = true := by
  unfold SeqAt.shaped
  rw [show PyData.canLay0 (.list (dP ps)) = PyData.canLayAll0 (dP ps) by
    simp only [PyData.canLay0], lay_P ps h]
  have := depth_P ps
  exact decide_eq_true (by omega)
theorem showable_P : ∀ ps : List Pr, PyData.showableAll (dP ps) = true
  | [] => by simp [PyData.showableAll]
  | p :: ps => by
    have ih := showable_P ps
    show PyData.showableAll (dT p :: dP ps) = true
    simp only [PyData.showableAll, PyData.showable, ih, Bool.and_self]
theorem showable_PL (ps : List Pr) : (PyData.list (dP ps)).showable = true := by
  rw [show (PyData.list (dP ps)).showable = PyData.showableAll (dP ps) by
    simp only [PyData.showable]]
  exact showable_P ps
theorem shown_T {p : Pr} (h1 : p.1.length ≤ 8 ∧ ∀ c ∈ p.1, c < 1114112)
    (h2 : p.2.length ≤ 8 ∧ ∀ c ∈ p.2, c < 1114112) :
    (dT p).shown.length ≤ 200 := by
  have e : (dT p).shown = tupleText [reprText (SX.S p.1),
    reprText (SX.S p.2)] := by simp only [PyData.shown, PyData.shownAll]
  rw [e]
  have t := fmt_text [reprText (SX.S p.1), reprText (SX.S p.2)]
  rw [piled_cons, piled_cons, piled_nil] at t
  have a := StrLaws.reprText_len (SX.S p.1) (fun c hc => Nat.lt_of_lt_of_le
    (h1.2 c hc) (by decide))
  have b := StrLaws.reprText_len (SX.S p.2) (fun c hc => Nat.lt_of_lt_of_le
    (h2.2 c hc) (by decide))
  have c : (SX.S p.1).length = p.1.length := SX.S_len _
  have d : (SX.S p.2).length = p.2.length := SX.S_len _
  rw [c] at a
  rw [d] at b
  omega
theorem shown_PA : ∀ (ps : List Pr), UniP ps →
    piled (PyData.shownAll (dP ps)) ≤ ps.length * 202
  | [], _ => by
    show piled (PyData.shownAll []) ≤ _
    simp only [PyData.shownAll]
    exact Nat.zero_le _
  | p :: ps, h => by
    have ih := shown_PA ps fun x hx => h x (List.mem_cons_of_mem _ hx)
    have hp := h p List.mem_cons_self
    have t := shown_T hp.1 hp.2
    show piled (PyData.shownAll (dT p :: dP ps)) ≤ _
    rw [show PyData.shownAll (dT p :: dP ps) =
      (dT p).shown :: PyData.shownAll (dP ps) by simp only [PyData.shownAll],
      piled_cons, List.length_cons, Nat.add_mul]
    omega
theorem shown_P {ps : List Pr} (h : UniP ps) (hn : ps.length ≤ 2000) :
    (PyData.list (dP ps)).shown.length ≤ sizeLine := by
  have p := shown_PA ps h
  have e : (PyData.list (dP ps)).shown =
      listText (PyData.shownAll (dP ps)) := by simp only [PyData.shown]
  rw [e]
  have q := listText_len_le (PyData.shownAll (dP ps))
  have r : ((PyData.shownAll (dP ps)).map (·.length)).sum +
      2 * (PyData.shownAll (dP ps)).length =
      piled (PyData.shownAll (dP ps)) := by
    generalize PyData.shownAll (dP ps) = ts
    induction ts with
    | nil => rfl
    | cons t ts ih =>
      rw [piled_cons, List.map_cons, List.sum_cons, List.length_cons]
      omega
  refine Nat.le_trans (show _ ≤ 404003 by omega) (by decide)
/-! ### the inverted pairs -/
def invF (os : List (List Nat)) (f : List Nat) (r : List (List Nat)) :
    List Pr :=
  (r.filter fun s => decide (os.idxOf s < os.idxOf f)).map fun s => (f, s)
def invTo (ls os : List (List Nat)) : Nat → List Pr
  | 0 => []
  | i + 1 => invTo ls os i ++ match ls[i]? with
    | some f => invF os f (ls.drop (i + 1))
    | none => []
def invAll (ls os : List (List Nat)) : List Pr := invTo ls os ls.length
theorem invF_mem {os : List (List Nat)} {f : List Nat} {r : List (List Nat)}
    {p : Pr} : p ∈ invF os f r ↔ p.1 = f ∧ p.2 ∈ r ∧
      os.idxOf p.2 < os.idxOf f := by
  unfold invF
  obtain ⟨a, b⟩ := p
  simp only [List.mem_map, List.mem_filter, decide_eq_true_eq, Prod.mk.injEq]
  constructor
  · rintro ⟨x, ⟨h1, h2⟩, rfl, rfl⟩
    exact ⟨rfl, h1, h2⟩
  · rintro ⟨rfl, h1, h2⟩
    exact ⟨b, ⟨h1, h2⟩, rfl, rfl⟩
theorem invTo_mem {ls os : List (List Nat)} {p : Pr} : ∀ {i : Nat},
    p ∈ invTo ls os i ↔ ∃ j < i, ls[j]? = some p.1 ∧ p.2 ∈ ls.drop (j + 1) ∧
      os.idxOf p.2 < os.idxOf p.1
  | 0 => by simp [invTo]
  | i + 1 => by
    have ih := invTo_mem (ls := ls) (os := os) (p := p) (i := i)
    show p ∈ invTo ls os i ++ _ ↔ _
    rw [List.mem_append, ih]
    constructor
    · rintro (⟨j, hj, h⟩ | h)
      · exact ⟨j, by omega, h⟩
      · cases e : ls[i]? with
        | none => rw [e] at h; cases h
        | some f =>
          rw [e] at h
          obtain ⟨h1, h2, h3⟩ := invF_mem.mp h
          exact ⟨i, by omega, by rw [h1]; exact e, h2, by rw [h1]; exact h3⟩
    · rintro ⟨j, hj, h1, h2, h3⟩
      by_cases e : j = i
      · subst e
        refine .inr ?_
        rw [h1]
        exact invF_mem.mpr ⟨rfl, h2, h3⟩
      · exact .inl ⟨j, by omega, h1, h2, h3⟩
theorem invF_len (os : List (List Nat)) (f : List Nat) (r : List (List Nat)) :
    (invF os f r).length ≤ r.length := by
  unfold invF
  rw [List.length_map]
  exact List.length_filter_le _ _
theorem invTo_len (ls os : List (List Nat)) : ∀ i, i ≤ ls.length →
    (invTo ls os i).length ≤ i * ls.length
  | 0, _ => Nat.zero_le _
  | i + 1, h => by
    have ih := invTo_len ls os i (by omega)
    show (invTo ls os i ++ _).length ≤ _
    rw [List.length_append, Nat.add_mul]
    have : (match ls[i]? with
      | some f => invF os f (ls.drop (i + 1))
      | none => []).length ≤ ls.length := by
      cases ls[i]? with
      | none => exact Nat.zero_le _
      | some f =>
        refine Nat.le_trans (invF_len _ _ _) ?_
        rw [List.length_drop]
        omega
    omega
end OM
namespace OM
open PySem PySem.Spec PyProof.Rows L2
/-! ### o.m(e, .., k = v, ..) -/
def tMethK (C : Addr) (m : Str) (sp : Sp) (gV : List V → List V → List V)
    (E : XK) (ta : TE) (t tk : TA) : TE := fun σ H Q => ta σ H fun x H1 =>
  ∃ a dx fs, x = .ref a ∧ H1 a = some (.ins C dx fs) ∧ fs.lookup m = none ∧
    t σ H1 fun vs H2 => tk σ H2 fun zs H3 => sp (gV (x :: vs) zs) H3 Q E
section
variable {X : Cx} {CX : CXT} {k : Nat} {f C : Addr} {fd : FuncData}
  {ps ks : List Str} {sp : Sp} {E : XK} {m : Str} {apos pos : Pos}
  {o e : Expr} {es : List Expr} {kws : List Keyword} {ta : TE} {t tk : TA}
  {g : List Value → List Value → List Value} {gV : List V → List V → List V}
theorem pe_methK {pl : Sem Bool} (he : PE X o ta) (c : Cls X.K C)
    (hm : Meth X.K C m f)
    (F : FnOk X.prog X.w X.K X.mg X.base CX k f fd ps sp) (hr : Room k X.A)
    (hb : KBinds X.K fd ps ks g gV) (hx : Passes CX X E)
    (ha : PA X (e :: es) t) (hkw : PK X kws tk)
    (hall : (backToKw pos (keywordEach kws X.env)).all (·.1.isSome) = true
      := by rfl)
    (hks : (backToKw pos (keywordEach kws X.env)).filterMap (·.1) = ks
      := by rfl)
    (hst : starEach (e :: es) X.env = (false, eval e X.env) ::
      starEach es X.env := by rfl)
    (hpl : ((backTo pos (starEach (e :: es) X.env)).any (·.1) ||
      (backToKw pos (keywordEach kws X.env)).any (·.1.isNone)) = false
      := by rfl)
    (ht : eval (.Call (.Attribute o m apos) (e :: es) kws pos) X.env = (do
      let ov ← eval o X.env
      standAt apos.atName
      let (f, first) ← holding [ov] (getMethod ov m pl)
      callWith pos f first (backTo pos (starEach (e :: es) X.env))
        (backToKw pos (keywordEach kws X.env))) := by rfl) :
    PE X (.Call (.Attribute o m apos) (e :: es) kws pos)
      (tMethK C m sp gV E ta t tk) := by
  refine ⟨fun pins s σ H Q I h => ?_⟩
  refine PySem.W.methodCall_KW (pl := pl) (thn (he.run pins s σ H _ I h)
    fun u s1 ⟨x, H1, I1, rx, a, dx, fs, ex, ea, l, q⟩ => ?_) ht
  subst ex
  obtain rfl : u = Value.ref a := rx
  refine getmeth_ok I1 ea c hm l ?_
  refine PySem.W.callWith_KW (first := [.ref a]) (h₀ := X.base) I.ok.mod.kin
    hm.kp hall (thn (ha.run pos pins s1 σ H1 _ I1 q)
      fun us s2 ⟨vs, H2, I2, r, q2⟩ => ?_) hpl hst
  refine thn (hkw.run pos pins s2 σ H2 _ I2 q2)
    fun ws s3 ⟨zs, H3, I3, rz, q3⟩ => ⟨I3.kIn, ?_⟩
  rw [hks]
  exact run_fnk (us := .ref a :: us) (vs := .ref a :: vs) F hr hb hx I3
    (.cons rfl r) rz q3
end
/-! ### a method whose last parameter is given by its name -/
def kwG {α : Type} (n : Nat) (us ws : List α) : List α :=
  if us.length = n ∧ ws.length = 1 then us ++ ws else []
theorem kw_rel {n : Nat} {vs zs : List V} {us ws : List Value}
    (a : Vals vs us) (b : Vals zs ws) : Vals (kwG n vs zs) (kwG n us ws) := by
  unfold kwG
  rw [a.length, b.length]
  split
  · exact a.append b
  · exact .nil
structure CalMK (P : Program) (w : World) (K : PySem.W.Frag)
    (mg : Str → Option Value) (base : Heap) (C : Addr) (k : Nat) (x kw : Str)
    (n : Nat) (ps : List Str) (sp : Sp) : Prop where
  cl : Cls K C
  ex : ∃ f fd, FnOk P w K mg base CX0 k f fd ps sp ∧ Meth K C x f ∧
    KBinds K fd ps [kw] (kwG n) (kwG n)
section
variable {X : Cx} {k n : Nat} {ps : List Str} {sp : Sp} {x kw : Str} {C : Addr}
  {p pos : Pos} {o e : Expr} {es : List Expr} {t tk : TA} {to : TE}
  {kws : List Keyword}
theorem pe_calMK {pl : Sem Bool}
    (M : CalMK X.prog X.w X.K X.mg X.base C k x kw n ps sp)
    (room : Room k X.A) (ho : PE X o to) (ha : PA X (e :: es) t)
    (hk : PK X kws tk)
    (hall : (backToKw pos (keywordEach kws X.env)).all (·.1.isSome) = true
      := by rfl)
    (hks : (backToKw pos (keywordEach kws X.env)).filterMap (·.1) = [kw]
      := by rfl)
    (hst : starEach (e :: es) X.env = (false, eval e X.env) ::
      starEach es X.env := by rfl)
    (hpl : ((backTo pos (starEach (e :: es) X.env)).any (·.1) ||
      (backToKw pos (keywordEach kws X.env)).any (·.1.isNone)) = false
      := by rfl)
    (ht : eval (.Call (.Attribute o x p) (e :: es) kws pos) X.env = (do
      let ov ← eval o X.env
      standAt p.atName
      let (f, first) ← holding [ov] (getMethod ov x pl)
      callWith pos f first (backTo pos (starEach (e :: es) X.env))
        (backToKw pos (keywordEach kws X.env))) := by rfl) :
    PE X (.Call (.Attribute o x p) (e :: es) kws pos)
      (tMethK C x sp (kwG n) E0 to t tk) := by
  obtain ⟨f, fd, F, m, b⟩ := M.ex
  exact pe_methK (pl := pl) ho M.cl m F room b pass0 ha hk hall hks hst hpl ht
end
/-! ### entries -/
abbrev En := Nat × List Nat
abbrev vE (e : En) : List V := [.int e.1, vS e.2]
def EnsAt (H : Hp) (rs : List Addr) (es : List En) : Prop :=
  Paired (fun r e => H r = some (.tup (vE e))) rs es
theorem EnsAt.same {H H' : Hp} : ∀ {rs : List Addr} {es : List En},
    EnsAt H rs es → Same H H' → EnsAt H' rs es
  | _, _, .nil, _ => .nil
  | _, _, .cons h t, s => .cons (s _ _ h) (EnsAt.same t s)
/-- entries stand where tuples stay -/
theorem EnsAt.keep {H H' : Hp} (k : ∀ a xs, H a = some (.tup xs) →
    H' a = some (.tup xs)) : ∀ {rs : List Addr} {es : List En},
    EnsAt H rs es → EnsAt H' rs es
  | _, _, .nil => .nil
  | _, _, .cons h t => .cons (k _ _ h) (EnsAt.keep k t)
theorem EnsAt.snoc {H : Hp} {r : Addr} {e : En}
    (h : H r = some (.tup (vE e))) :
    ∀ {rs : List Addr} {es : List En}, EnsAt H rs es →
      EnsAt H (rs ++ [r]) (es ++ [e])
  | _, _, .nil => .cons h .nil
  | _, _, .cons a t => .cons a (EnsAt.snoc h t)
theorem EnsAt.app {H : Hp} {qs : List Addr} {us : List En}
    (h : EnsAt H qs us) : ∀ {rs : List Addr} {es : List En}, EnsAt H rs es →
      EnsAt H (rs ++ qs) (es ++ us)
  | _, _, .nil => h
  | _, _, .cons a t => .cons a (EnsAt.app h t)
theorem EnsAt.len {H : Hp} : ∀ {rs : List Addr} {es : List En},
    EnsAt H rs es → rs.length = es.length
  | _, _, .nil => rfl
  | _, _, .cons _ t => congrArg (· + 1) (EnsAt.len t)
theorem EnsAt.take {H : Hp} : ∀ {rs : List Addr} {es : List En} (n : Nat),
    EnsAt H rs es → EnsAt H (rs.take n) (es.take n)
  | _, _, 0, _ => .nil
  | _, _, _ + 1, .nil => .nil
  | _, _, n + 1, .cons h t => .cons h (EnsAt.take n t)
theorem EnsAt.drop {H : Hp} : ∀ {rs : List Addr} {es : List En} (n : Nat),
    EnsAt H rs es → EnsAt H (rs.drop n) (es.drop n)
  | _, _, 0, h => h
  | _, _, _ + 1, .nil => .nil
  | _, _, n + 1, .cons _ t => EnsAt.drop n t
theorem EnsAt.erase {H : Hp} : ∀ {rs : List Addr} {es : List En} (n : Nat),
    EnsAt H rs es → EnsAt H (rs.eraseIdx n) (es.eraseIdx n)
  | _, _, _, .nil => .nil
  | _, _, 0, .cons _ t => t
  | _, _, n + 1, .cons h t => .cons h (EnsAt.erase n t)
theorem EnsAt.get {H : Hp} : ∀ {rs : List Addr} {es : List En} {i : Nat}
    {e : En}, EnsAt H rs es → es[i]? = some e →
    ∃ r, rs[i]? = some r ∧ H r = some (.tup (vE e))
  | _, _, _, _, .nil, h => by simp at h
  | _, _, 0, _, .cons h _, e => by cases e; exact ⟨_, rfl, h⟩
  | _, _, n + 1, _, .cons _ t, e => EnsAt.get (i := n) t (by simpa using e)
theorem PrsAt.get {H : Hp} : ∀ {rs : List Addr} {es : List Pr} {i : Nat}
    {e : Pr}, PrsAt H rs es → es[i]? = some e →
    ∃ r, rs[i]? = some r ∧ H r = some (.tup (vT e))
  | _, _, _, _, .nil, h => by simp at h
  | _, _, 0, _, .cons h _, e => by cases e; exact ⟨_, rfl, h⟩
  | _, _, n + 1, _, .cons _ t, e => PrsAt.get (i := n) t (by simpa using e)
abbrev dE (e : En) : PyData := .tuple [.int (e.1 : Int), .str (SX.S e.2)]
abbrev dEs (es : List En) : List PyData := es.map dE
theorem dp_E {K : PySem.W.Frag} {H : Hp} {r : Addr} {e : En}
    (h : H r = some (.tup (vE e))) : Dp K H (.ref r) (dE e) :=
  .tup (SqT.of h) (.cons (.int _) (.cons (.str _) .nil))
theorem dpAll_E {K : PySem.W.Frag} {H : Hp} : ∀ {rs : List Addr}
    {es : List En}, EnsAt H rs es → DpAll K H (rs.map V.ref) (dEs es)
  | _, _, .nil => .nil
  | _, _, .cons h t => .cons (dp_E h) (dpAll_E t)
theorem dp_Es {K : PySem.W.Frag} {H : Hp} {a : Addr} {rs : List Addr}
    {es : List En} (h : SqL K H a (rs.map V.ref)) (p : EnsAt H rs es) :
    Dp K H (.ref a) (.list (dEs es)) := .lst h (dpAll_E p)
theorem eqv_E1 (p q : En) : PyData.eqv (dE p) (dE q) = decide (p = q) := by
  obtain ⟨a, b⟩ := p
  obtain ⟨c, d⟩ := q
  show PyData.eqv (.tuple [.int (a : Int), .str (SX.S b)])
    (.tuple [.int (c : Int), .str (SX.S d)]) = _
  simp only [PyData.eqv, PyData.eqvAll, SX.S_beq_eq, Bool.and_true]
  by_cases e : a = c
  · by_cases f : b = d
    · subst e; subst f; simp
    · simp [e, f]
  · have : ¬ ((a : Int) = (c : Int)) := by omega
    simp [e, this]
theorem eqv_EA : ∀ ps qs : List En,
    PyData.eqvAll (dEs ps) (dEs qs) = decide (ps = qs)
  | [], [] => by simp [PyData.eqvAll]
  | [], m :: ms => by simp [PyData.eqvAll]
  | l :: ls, [] => by simp [PyData.eqvAll]
  | l :: ls, m :: ms => by
    have ih := eqv_EA ls ms
    show (PyData.eqv (dE l) (dE m) && PyData.eqvAll (dEs ls) (dEs ms)) = _
    rw [ih, eqv_E1]
    by_cases e : l = m
    · subst e
      simp
    · have : ¬ (l :: ls = m :: ms) := fun z => e (List.cons.inj z).1
      rw [decide_eq_false e, decide_eq_false this]
      rfl
theorem eqv_E (ps qs : List En) :
    PyData.eqv (.list (dEs ps)) (.list (dEs qs)) = decide (ps = qs) := by
  rw [show PyData.eqv (.list (dEs ps)) (.list (dEs qs)) =
    PyData.eqvAll (dEs ps) (dEs qs) by simp only [PyData.eqv]]
  exact eqv_EA ps qs
/-- small indexes, short reasons -/
def SmE (es : List En) : Prop := ∀ e ∈ es, e.1 < 64 ∧ e.2.length ≤ 8 ∧
  ∀ c ∈ e.2, c < 1114112
theorem SmE.app {a b : List En} (x : SmE a) (y : SmE b) : SmE (a ++ b) :=
  fun e h => (List.mem_append.mp h).elim (x e) (y e)
theorem SmE.erase {a : List En} (x : SmE a) (j : Nat) : SmE (a.eraseIdx j) :=
  fun e h => x e (List.mem_of_mem_eraseIdx h)
theorem int64 : ∀ i : Fin 64, (PyData.int (i.val : Int)).showable = true ∧
    (PyData.int (i.val : Int)).shown.length ≤ 5 := by decide +kernel
theorem lay_E {e : En} (h : ∀ c ∈ e.2, c < 1114112) :
    PyData.canLay0 (dE e) = true := by
  simp only [PyData.canLay0, PyData.canLayAll0, strOkS h, Bool.and_self]
theorem lay_Es : ∀ es : List En, SmE es → PyData.canLayAll0 (dEs es) = true
  | [], _ => by simp [PyData.canLayAll0]
  | p :: ps, h => by
    have ih := lay_Es ps fun x hx => h x (List.mem_cons_of_mem _ hx)
    have hp := h p List.mem_cons_self
    show PyData.canLayAll0 (dE p :: dEs ps) = true
    rw [show PyData.canLayAll0 (dE p :: dEs ps) =
      (PyData.canLay0 (dE p) && PyData.canLayAll0 (dEs ps)) by
        simp only [PyData.canLayAll0], ih, lay_E hp.2.2]
    rfl
theorem depth_E1 (p : En) : (dE p).depth ≤ 2 := by
  simp only [PyData.depth, PyData.depthAll]
  omega
theorem depth_EA : ∀ ps : List En, PyData.depthAll (dEs ps) ≤ 2
  | [] => by simp [PyData.depthAll]
  | p :: ps => by
    have ih := depth_EA ps
    have h := depth_E1 p
    show PyData.depthAll (dE p :: dEs ps) ≤ 2
    rw [show PyData.depthAll (dE p :: dEs ps) =
      max (dE p).depth (PyData.depthAll (dEs ps)) by
        simp only [PyData.depthAll]]
    omega
theorem depth_E (ps : List En) : (PyData.list (dEs ps)).depth ≤ 3 := by
  rw [show (PyData.list (dEs ps)).depth = PyData.depthAll (dEs ps) + 1 by
    simp only [PyData.depth]]
  have := depth_EA ps
  omega
theorem shaped_E {ps : List En} (h : SmE ps) :
    SeqAt.shaped (.list (dEs ps)) = true := by
  unfold SeqAt.shaped
  rw [show PyData.canLay0 (.list (dEs ps)) = PyData.canLayAll0 (dEs ps) by
    simp only [PyData.canLay0], lay_Es ps h]
  have := depth_E ps
  exact decide_eq_true (by omega)
theorem showable_EA : ∀ ps : List En, SmE ps →
    PyData.showableAll (dEs ps) = true
  | [], _ => by simp [PyData.showableAll]
  | p :: ps, h => by
    have ih := showable_EA ps fun x hx => h x (List.mem_cons_of_mem _ hx)
    have hp := (int64 ⟨p.1, (h p List.mem_cons_self).1⟩).1
    show PyData.showableAll (dE p :: dEs ps) = true
    simp only [PyData.showableAll, PyData.showable, ih, Bool.and_true]
    simpa only [PyData.showable] using hp
theorem showable_E {ps : List En} (h : SmE ps) :
    (PyData.list (dEs ps)).showable = true := by
  rw [show (PyData.list (dEs ps)).showable = PyData.showableAll (dEs ps) by
    simp only [PyData.showable]]
  exact showable_EA ps h
theorem shown_E1 {p : En} (h0 : p.1 < 64)
    (h1 : p.2.length ≤ 8 ∧ ∀ c ∈ p.2, c < 1114112) :
    (dE p).shown.length ≤ 200 := by
  have e : (dE p).shown = tupleText [(PyData.int (p.1 : Int)).shown,
    reprText (SX.S p.2)] := by simp only [PyData.shown, PyData.shownAll]
  rw [e]
  have t := fmt_text [(PyData.int (p.1 : Int)).shown, reprText (SX.S p.2)]
  rw [piled_cons, piled_cons, piled_nil] at t
  have a := (int64 ⟨p.1, h0⟩).2
  have b := StrLaws.reprText_len (SX.S p.2) (fun c hc => Nat.lt_of_lt_of_le
    (h1.2 c hc) (by decide))
  have d : (SX.S p.2).length = p.2.length := SX.S_len _
  rw [d] at b
  have a' : (PyData.int (p.1 : Int)).shown.length ≤ 5 := a
  omega
theorem shown_EA : ∀ (ps : List En), SmE ps →
    piled (PyData.shownAll (dEs ps)) ≤ ps.length * 202
  | [], _ => by
    show piled (PyData.shownAll []) ≤ _
    simp only [PyData.shownAll]
    exact Nat.zero_le _
  | p :: ps, h => by
    have ih := shown_EA ps fun x hx => h x (List.mem_cons_of_mem _ hx)
    have hp := h p List.mem_cons_self
    have t := shown_E1 hp.1 hp.2
    show piled (PyData.shownAll (dE p :: dEs ps)) ≤ _
    rw [show PyData.shownAll (dE p :: dEs ps) =
      (dE p).shown :: PyData.shownAll (dEs ps) by simp only [PyData.shownAll],
      piled_cons, List.length_cons, Nat.add_mul]
    omega
theorem shown_E {ps : List En} (h : SmE ps) (hn : ps.length ≤ 2000) :
    (PyData.list (dEs ps)).shown.length ≤ sizeLine := by
  have p := shown_EA ps h
  have e : (PyData.list (dEs ps)).shown =
      listText (PyData.shownAll (dEs ps)) := by simp only [PyData.shown]
  rw [e]
  have q := listText_len_le (PyData.shownAll (dEs ps))
  have r : ((PyData.shownAll (dEs ps)).map (·.length)).sum +
      2 * (PyData.shownAll (dEs ps)).length =
      piled (PyData.shownAll (dEs ps)) := by
    generalize PyData.shownAll (dEs ps) = ts
    induction ts with
    | nil => rfl
    | cons t ts ih =>
      rw [piled_cons, List.map_cons, List.sum_cons, List.length_cons]
      omega
  refine Nat.le_trans (show _ ≤ 404003 by omega) (by decide)
end OM
namespace OM
open PySem PySem.Spec PyProof.Rows L2
/-- the inverted pairs, new tuples in a new list -/
def spPairs (C : Addr) : Sp := fun vs H Q _ =>
  ∃ (b a : Addr) (ls os : List (List Nat)), vs = [.ref b, .ref a] ∧
  Ord C H b a ls os ∧ ∀ (q : Addr) (rs : List Addr) (H' : Hp), H q = none →
    H' q = some (.lst (rs.map V.ref)) → PrsAt H' rs (invAll ls os) →
    Same H H' → Q (.ref q) H'
/-- the same by the law -/
def spLInv : Sp := fun vs H Q _ =>
  ∃ (it a : Addr) (ls os : List (List Nat)), vs = [.ref it, .ref a] ∧
  H it = some (.lst (ls.map vS)) ∧ H a = some (.lst (os.map vS)) ∧ Good ls ∧
  os.Perm ls ∧ ∀ (q : Addr) (rs : List Addr) (H' : Hp), H q = none →
    H' q = some (.lst (rs.map V.ref)) → PrsAt H' rs (invAll ls os) →
    Same H H' → Q (.ref q) H'
theorem invF_snoc (os : List (List Nat)) (f : List Nat) (r : List (List Nat))
    (s : List Nat) : invF os f (r ++ [s]) = invF os f r ++
      if os.idxOf s < os.idxOf f then [(f, s)] else [] := by
  unfold invF
  rw [List.filter_append, List.map_append]
  congr 1
  by_cases h : os.idxOf s < os.idxOf f
  · rw [List.filter_cons_of_pos (by simpa using h), if_pos h]
    rfl
  · rw [List.filter_cons_of_neg (by simpa using h), if_neg h]
    rfl
theorem take_snoc {α : Type} {r : List α} {j : Nat} {s : α}
    (h : r[j]? = some s) : r.take (j + 1) = r.take j ++ [s] := by
  rw [List.take_add_one, h]
  rfl
theorem Good.many {ls : List (List Nat)} (g : Good ls) (os : List (List Nat))
    {i : Nat} (hi : i ≤ ls.length) : (invTo ls os i).length ≤ 1600 := by
  have a := invTo_len ls os i hi
  have b := g.hi
  have : i * ls.length ≤ 40 * 40 := Nat.mul_le_mul (by omega) b
  omega
theorem SqL.up {K : PySem.W.Frag} {H H' : Hp} {a : Addr} {xs : List V}
    (h : H a = some (.lst xs)) (s : Same H H') : SqL K H' a xs :=
  SqL.of (s _ _ h)
theorem PrsAt.put {H : Hp} {D : Addr} {o : HO} {xs : List V} :
    ∀ {rs : List Addr} {ps : List Pr}, PrsAt H rs ps →
      H D = some (.lst xs) → PrsAt (upd H D o) rs ps
  | _, _, .nil, _ => .nil
  | _, _, .cons h t, hD => .cons (by
      rw [upd_ne (ne_of h hD nofun)]; exact h) (PrsAt.put t hD)
end OM
namespace OM
open PySem PySem.Spec PyProof.Rows L2
theorem idx_of {α : Type} [BEq α] [LawfulBEq α] {l : List α} {i : Nat} {x : α}
    (nd : l.Nodup) (h : l[i]? = some x) : l.idxOf x = i := by
  have hm := List.mem_of_getElem? h
  have hl := List.idxOf_lt_length_of_mem hm
  obtain ⟨hi, e⟩ := List.getElem?_eq_some_iff.mp h
  have e2 := List.getElem_idxOf hl
  exact (List.getElem_inj nd).mp (e2.trans e.symm)
theorem idx_inj {l : List (List Nat)} {x y : List Nat} (hx : x ∈ l)
    (h : l.idxOf x = l.idxOf y) (hy : y ∈ l) : x = y := by
  have a := List.getElem_idxOf (List.idxOf_lt_length_of_mem hx)
  have b := List.getElem_idxOf (List.idxOf_lt_length_of_mem hy)
  rw [← a, ← b]
  congr 1
theorem mem_drop_idx {l : List (List Nat)} (nd : l.Nodup) {j : Nat}
    {s : List Nat} : s ∈ l.drop j ↔ s ∈ l ∧ j ≤ l.idxOf s := by
  constructor
  · intro h
    obtain ⟨i, hi⟩ := List.mem_iff_getElem?.mp h
    rw [List.getElem?_drop] at hi
    rw [idx_of nd hi]
    exact ⟨List.mem_of_getElem? hi, by omega⟩
  · rintro ⟨h, hj⟩
    have hl := List.idxOf_lt_length_of_mem h
    refine List.mem_iff_getElem?.mpr ⟨l.idxOf s - j, ?_⟩
    rw [List.getElem?_drop, show j + (l.idxOf s - j) = l.idxOf s by omega,
      List.getElem?_eq_getElem hl, List.getElem_idxOf hl]
theorem invAll_mem {ls os : List (List Nat)} (nd : ls.Nodup) {p : Pr} :
    p ∈ invAll ls os ↔ p.1 ∈ ls ∧ p.2 ∈ ls ∧ ls.idxOf p.1 < ls.idxOf p.2 ∧
      os.idxOf p.2 < os.idxOf p.1 := by
  unfold invAll
  rw [invTo_mem]
  constructor
  · rintro ⟨j, hj, h1, h2, h3⟩
    have e := idx_of nd h1
    have d := (mem_drop_idx nd).mp h2
    exact ⟨List.mem_of_getElem? h1, d.1, by omega, h3⟩
  · rintro ⟨h1, h2, h3, h4⟩
    have hl := List.idxOf_lt_length_of_mem h1
    refine ⟨ls.idxOf p.1, hl, ?_, (mem_drop_idx nd).mpr ⟨h2, h3⟩, h4⟩
    rw [List.getElem?_eq_getElem hl, List.getElem_idxOf hl]
theorem Good.uniP {ls os : List (List Nat)} (g : Good ls) :
    UniP (invAll ls os) := fun p hp => by
  have h := (invAll_mem g.nd).mp hp
  exact ⟨⟨(g.nm _ h.1).hi, (g.nm _ h.1).uni⟩,
    ⟨(g.nm _ h.2.1).hi, (g.nm _ h.2.1).uni⟩⟩
theorem Good.ne {ls : List (List Nat)} (g : Good ls) : ls ≠ [] := fun e => by
  have := g.lo
  rw [e] at this
  exact absurd this (by decide)
theorem ne_no {x : V} {A B : Prop} (h : B) :
    if (!decide (x = x)) = true then A else B := iteNS rfl h
/-- the pair of two items, by their places -/
def pairOf (ls : List (List Nat)) (l m : List Nat) : Pr :=
  if ls.idxOf l < ls.idxOf m then (l, m) else (m, l)
end OM
namespace OM
open PySem PySem.Spec PyProof.Rows L2
/-! ### what a log holds -/
def lf (b cu ro : Addr) : List (Str × V) :=
  putF "rows" (.ref ro) (putF "current" (.ref cu) (putF "ground" (.ref b) []))
theorem ne_gc : ¬ (("ground" : Str) = "current") := by decide +kernel
theorem ne_gr : ¬ (("ground" : Str) = "rows") := by decide +kernel
theorem ne_cr : ¬ (("current" : Str) = "rows") := by decide +kernel
theorem lf_ground (b cu ro : Addr) :
    (lf b cu ro).lookup ("ground" : Str) = some (.ref b) := by
  unfold lf
  rw [lookup_putF, if_neg ne_gr, lookup_putF, if_neg ne_gc, lookup_putF,
    if_pos rfl]
theorem lf_current (b cu ro : Addr) :
    (lf b cu ro).lookup ("current" : Str) = some (.ref cu) := by
  unfold lf
  rw [lookup_putF, if_neg ne_cr, lookup_putF, if_pos rfl]
theorem lf_rows (b cu ro : Addr) :
    (lf b cu ro).lookup ("rows" : Str) = some (.ref ro) := by
  unfold lf
  rw [lookup_putF, if_pos rfl]
theorem lf_no (b cu ro : Addr) {m : Str} (h1 : ¬ m = "ground")
    (h2 : ¬ m = "current") (h3 : ¬ m = "rows") :
    (lf b cu ro).lookup m = none := by
  unfold lf
  rw [lookup_putF, if_neg h3, lookup_putF, if_neg h2, lookup_putF, if_neg h1]
  rfl
theorem lf_eq (b cu ro : Addr) : lf b cu ro =
    [(("ground" : Str), V.ref b), ("current", V.ref cu), ("rows", V.ref ro)] := by
  unfold lf
  show putF "rows" _ (if ("ground" : Str) = "current" then _ else _) = _
  rw [if_neg ne_gc]
  show (if ("ground" : Str) = "rows" then _ else _) = _
  rw [if_neg ne_gr]
  show _ :: (if ("current" : Str) = "rows" then _ else _) = _
  rw [if_neg ne_cr]
  rfl
theorem lf_setc (b cu ro cu' : Addr) :
    putF "current" (.ref cu') (lf b cu ro) = lf b cu' ro := by
  rw [lf_eq, lf_eq]
  show (if ("ground" : Str) = "current" then _ else _) = _
  rw [if_neg ne_gc]
  show _ :: (if ("current" : Str) = "current" then _ else _) = _
  rw [if_pos rfl]
theorem lf_setr (b cu ro ro' : Addr) :
    putF "rows" (.ref ro') (lf b cu ro) = lf b cu ro' := by
  rw [lf_eq, lf_eq]
  show (if ("ground" : Str) = "rows" then _ else _) = _
  rw [if_neg ne_gr]
  show _ :: (if ("current" : Str) = "rows" then _ else _) = _
  rw [if_neg ne_cr]
  show _ :: _ :: (if ("rows" : Str) = "rows" then _ else _) = _
  rw [if_pos rfl]
theorem lf_len (b cu ro : Addr) : (lf b cu ro).length < 1000 := by
  rw [lf_eq]
  show 3 < 1000
  decide
abbrev ixs (rows : List En) : List Nat := rows.map (·.1)
/-- a reason: a name or nothing -/
def Rsn (l : List Nat) : Prop := l = [] ∨ Nm l
theorem Rsn.len {l : List Nat} (h : Rsn l) : l.length ≤ 8 := by
  rcases h with rfl | h
  · simp
  · exact h.hi
theorem Rsn.uni {l : List Nat} (h : Rsn l) : ∀ c ∈ l, c < 1114112 := by
  rcases h with rfl | h
  · nofun
  · exact h.uni
structure LogAt (C L : Addr) (H : Hp) (g ro b : Addr) (ls : List (List Nat))
    (rows : List En) : Prop where
  ob : ∃ dx cu rs, H g = some (.ins L dx (lf b cu ro)) ∧
    H cu = some (.lst ((run ls (ixs rows)).map vS)) ∧
    H ro = some (.lst (rs.map V.ref)) ∧ EnsAt H rs rows
  ba : BaseAt C H b ls
  good : Good ls
  wd : Wd ls ls (ixs rows)
  rn : ∀ e ∈ rows, Rsn e.2
section
variable {C L g ro b : Addr} {H H' : Hp} {ls : List (List Nat)} {rows : List En}
theorem LogAt.same (x : LogAt C L H g ro b ls rows) (s : Same H H') :
    LogAt C L H' g ro b ls rows := by
  obtain ⟨dx, cu, rs, h1, h2, h3, h4⟩ := x.ob
  exact ⟨⟨dx, cu, rs, s _ _ h1, s _ _ h2, s _ _ h3, h4.same s⟩, x.ba.same s,
    x.good, x.wd, x.rn⟩
theorem LogAt.of (x : LogAt C L H g ro b ls rows) : Of ls (run ls (ixs rows)) :=
  Of.run _ ⟨x.good.nd, List.Perm.refl _⟩
theorem LogAt.perm (x : LogAt C L H g ro b ls rows) :
    (run ls (ixs rows)).Perm ls := x.of.pm
theorem LogAt.oLen (x : LogAt C L H g ro b ls rows) :
    (run ls (ixs rows)).length = ls.length := run_len _ _
theorem LogAt.sme (x : LogAt C L H g ro b ls rows) : SmE rows := fun e he => by
  have h1 := x.wd.ixs e.1 (List.mem_map_of_mem he)
  have h2 := x.good.hi
  have h3 := x.rn e he
  exact ⟨by omega, h3.len, h3.uni⟩
end
theorem invTo_nodup {ls os : List (List Nat)} (nd : ls.Nodup) :
    ∀ i, (invTo ls os i).Nodup
  | 0 => List.nodup_nil
  | i + 1 => by
    have ih := invTo_nodup (os := os) nd i
    show (invTo ls os i ++ _).Nodup
    cases e : ls[i]? with
    | none => simpa using ih
    | some f =>
      refine List.nodup_append.mpr ⟨ih, ?_, ?_⟩
      · show (invF os f (ls.drop (i + 1))).Nodup
        unfold invF
        refine nodup_map (fun a b h => (Prod.mk.inj h).2) ?_
        exact ((List.drop_sublist _ _).nodup nd).filter _
      · rintro x hx y hy rfl
        obtain ⟨j, hj, h1, _, _⟩ := invTo_mem.mp hx
        have h2 := (invF_mem.mp hy).1
        have a := idx_of nd h1
        have c := idx_of nd e
        rw [h2] at a
        omega
theorem rep_inv {ls os : List (List Nat)} (nd : ls.Nodup) :
    Rep ls os (invAll ls os) := ⟨invTo_nodup nd _, fun _ => invAll_mem nd⟩
section
variable {C L g ro b : Addr} {H H' : Hp} {ls : List (List Nat)} {rows : List En}
theorem LogAt.rep (x : LogAt C L H g ro b ls rows) :
    Rep ls (run ls (ixs rows)) (prsOf ls (ixs rows)) := by
  have := (Rep.nil x.good.nd).word ⟨x.good.nd, List.Perm.refl _⟩ x.wd
  rw [List.nil_append] at this
  exact this
theorem LogAt.count (x : LogAt C L H g ro b ls rows) :
    rows.length = (invAll ls (run ls (ixs rows))).length := by
  have := x.rep.len (rep_inv x.good.nd)
  rw [prsOf_len, List.length_map] at this
  exact this
theorem LogAt.many (x : LogAt C L H g ro b ls rows) : rows.length ≤ 1600 := by
  rw [x.count]
  exact x.good.many _ (Nat.le_refl _)
end
/-- all but two places are as they were -/
def But2 (g ro : Addr) (H H' : Hp) : Prop :=
  ∀ q o, H q = some o → q ≠ g → q ≠ ro → H' q = some o
theorem But2.of {g ro : Addr} {H H' : Hp} (s : Same H H') : But2 g ro H H' :=
  fun q o h _ _ => s q o h
theorem But2.trans {g ro : Addr} {H H1 H2 : Hp} (a : But2 g ro H H1)
    (b : But2 g ro H1 H2) : But2 g ro H H2 :=
  fun q o h n m => b q o (a q o h n m) n m
/-- what a log is not -/
structure Out (g ro q : Addr) : Prop where
  g : q ≠ g
  ro : q ≠ ro
section
variable {C L g ro b p q : Addr} {H H' : Hp} {ls ms : List (List Nat)}
  {rows : List En}
theorem LogAt.rng (x : LogAt C L H g ro b ls rows) (r : Rng H p) :
    Out g ro p := by
  obtain ⟨dx, cu, rs, h1, h2, h3, h4⟩ := x.ob
  obtain ⟨i, j, e, _⟩ := r
  refine ⟨ne_of e h1 nofun, ne_of e h3 fun z => ?_⟩
  have z' := HO.lst.inj z
  cases rs with
  | nil => cases z'
  | cons a r => cases (List.cons.inj z').1
theorem LogAt.nms (x : LogAt C L H g ro b ls rows)
    (h : H q = some (.lst (ms.map vS))) (ne : ms ≠ []) : Out g ro q := by
  obtain ⟨dx, cu, rs, h1, h2, h3, h4⟩ := x.ob
  refine ⟨ne_of h h1 nofun, ne_of h h3 fun z => ?_⟩
  have z' := HO.lst.inj z
  cases ms with
  | nil => exact ne rfl
  | cons m r =>
    cases rs with
    | nil => cases z'
    | cons a r => cases (List.cons.inj z').1
theorem bf_ne_lf {lo d b cu ro : Addr} {C L dx dy : Addr} :
    ¬ ((HO.ins C dx (bf lo d)) = (HO.ins L dy (lf b cu ro))) := fun z => by
  have z' : bf lo d = lf b cu ro := by injection z
  have := congrArg (List.lookup ("ground" : Str)) z'
  rw [lf_ground, bf_no _ _ (by decide +kernel) (by decide +kernel)] at this
  cases this
/-- a base stays where a log changes -/
theorem LogAt.bas (x : LogAt C L H g ro b ls rows) {c : Addr} (g' : Good ms)
    (h : BaseAt C H c ms) (s : But2 g ro H H') : BaseAt C H' c ms := by
  obtain ⟨dx, cu, rs, h1, h2, h3, h4⟩ := x.ob
  obtain ⟨dy, lo, d, k1, k2, k3⟩ := h.ob
  have n2 := x.nms k2 g'.ne
  exact ⟨dy, lo, d, s _ _ k1 (ne_of k1 h1 bf_ne_lf) (ne_of k1 h3 nofun),
    s _ _ k2 n2.g n2.ro, s _ _ k3 (ne_of k3 h1 nofun) (ne_of k3 h3 nofun)⟩
theorem Rng.but2 (r : Rng H p) (o : Out g ro p) (s : But2 g ro H H') :
    Rng H' p := by
  obtain ⟨i, j, e, z⟩ := r
  exact ⟨i, j, s _ _ e o.g o.ro, z⟩
theorem LogAt.tup (x : LogAt C L H g ro b ls rows) {xs : List V}
    (h : H q = some (.tup xs)) : Out g ro q := by
  obtain ⟨dx, cu, rs, h1, h2, h3, h4⟩ := x.ob
  exact ⟨ne_of h h1 nofun, ne_of h h3 nofun⟩
/-- a log stays where a rng changes -/
theorem LogAt.but (x : LogAt C L H g ro b ls rows) (r : Rng H p)
    (s : But p H H') : LogAt C L H' g ro b ls rows := by
  have o := x.rng r
  obtain ⟨dx, cu, rs, h1, h2, h3, h4⟩ := x.ob
  refine ⟨⟨dx, cu, rs, s _ _ h1 o.g.symm, s _ _ h2 (neRng r h2),
    s _ _ h3 o.ro.symm, h4.keep fun a xs h => s _ _ h ?_⟩, x.ba.but r s, x.good,
    x.wd, x.rn⟩
  obtain ⟨i, j, e, z⟩ := r
  exact ne_of h e nofun
end
structure LC (K : PySem.W.Frag) (mg : Str → Option Value) (L : Addr) :
    Prop where
  ic : C8.InsC K L
  nG : NoAttr K L "ground"
  nC : NoAttr K L "current"
  nR : NoAttr K L "rows"
  mgL : mg "SwapLog" = some (.ref L)
  kL : PySem.W.keepIn K (.ref L) = true
theorem LC.cl {K : PySem.W.Frag} {mg : Str → Option Value} {L : Addr}
    (x : LC K mg L) : Cls K L := x.ic.cl
/-! ### promises -/
def spLInit (C L : Addr) : Sp := fun vs H Q _ =>
  ∃ (g b dx : Addr) (ls : List (List Nat)), vs = [.ref g, .ref b] ∧
  H g = some (.ins L dx []) ∧ BaseAt C H b ls ∧ Good ls ∧
  ∀ ro H', H ro = none → LogAt C L H' g ro b ls [] → But g H H' → Q .non H'
def spLLen (C L : Addr) : Sp := fun vs H Q _ =>
  ∃ (g ro b : Addr) (ls : List (List Nat)) (rows : List En), vs = [.ref g] ∧
  LogAt C L H g ro b ls rows ∧ Q (.int rows.length) H
def spLOrd (C L : Addr) : Sp := fun vs H Q _ =>
  ∃ (g ro b : Addr) (ls : List (List Nat)) (rows : List En), vs = [.ref g] ∧
  LogAt C L H g ro b ls rows ∧ ∀ q H', H q = none →
    H' q = some (.lst ((run ls (ixs rows)).map vS)) → Same H H' → Q (.ref q) H'
def spLEnt (C L : Addr) : Sp := fun vs H Q _ =>
  ∃ (g ro b : Addr) (ls : List (List Nat)) (rows : List En), vs = [.ref g] ∧
  LogAt C L H g ro b ls rows ∧ ∀ q rs H', H q = none →
    H' q = some (.lst (rs.map V.ref)) → EnsAt H' rs rows → Same H H' →
    Q (.ref q) H'
abbrev vIs (ws : List Nat) : List V := ws.map fun (i : Nat) => V.int (i : Int)
def spLIxs (C L : Addr) : Sp := fun vs H Q _ =>
  ∃ (g ro b : Addr) (ls : List (List Nat)) (rows : List En), vs = [.ref g] ∧
  LogAt C L H g ro b ls rows ∧ ∀ q H', H q = none →
    H' q = some (.lst (vIs (ixs rows))) → Same H H' → Q (.ref q) H'
section
variable {P : Program} {w : World} {K : PySem.W.Frag}
  {mg : Str → Option Value} {base : Heap} {C L : Addr}
theorem ok_linit {f : Addr} {fd : FuncData} {k : Nat}
    (F : Fun K "__init__" "SwapLog.__init__" s_SwapLog_init f fd)
    (T : LC K mg L)
    (Mn : CalM P w K mg base C k "names" ["self"] (spGetNames C)) :
    FnOk P w K mg base CX0 (k + 1) f fd ["self", "base"] (spLInit C L) := by
  refine F.ok sc_SwapLog_init (fun vs H Q E h => ?_)
    (fun cv A outer s H vs Q E hr h => ?_)
  · obtain ⟨g, b, dx, ls, rfl, _⟩ := h
    rfl
  obtain ⟨g, b, dx, ls, rfl, hg, hb, gd, q⟩ := h
  refine ⟨_, pss_cons (ps_fld (pv 0) (pv 1) rfl)
    (pss_cons (ps_fld (pv 0) (pe_calM0 Mn hr (pv 1)) rfl)
    (pss_one (ps_fld (pv 0) (pe_lst pa_nil) rfl))), ?_⟩
  refine ⟨_, rfl, _, rfl, g, L, dx, [], rfl, hg, T.cl, T.nG, by decide, ?_⟩
  have b1 : But g H (upd H g (.ins L dx (putF "ground" (.ref b) []))) :=
    (But.refl H).at
  have g1 : (upd H g (.ins L dx (putF "ground" (.ref b) []))) g =
    some (.ins L dx (putF "ground" (.ref b) [])) := upd_same
  generalize upd H g (.ins L dx (putF "ground" (.ref b) [])) = H1 at b1 g1 ⊢
  have hb1 : BaseAt C H1 b ls := by
    obtain ⟨dy, lo, d, k1, k2, k3⟩ := hb.ob
    refine ⟨dy, lo, d, b1 _ _ k1 (ne_of k1 hg fun z => ?_),
      b1 _ _ k2 (ne_of k2 hg nofun), b1 _ _ k3 (ne_of k3 hg nofun)⟩
    have z' : bf lo d = [] := by injection z
    have := congrArg (List.lookup ("listed" : Str)) z'
    rw [bf_listed] at this
    cases this
  obtain ⟨dy, lo, d, k1, k2, k3⟩ := hb1.ob
  refine ⟨_, rfl, b, dy, _, rfl, k1, bf_no _ _ (by decide +kernel)
    (by decide +kernel), b, ls, rfl, hb1, fun cu H2 ncu hcu s2 => ?_⟩
  refine ⟨_, rfl, g, L, dx, _, rfl, s2 _ _ g1, T.cl, T.nC,
    by show 1 < 1000; decide, ?_⟩
  have ngc : g ≠ cu := ne_of_none g1 ncu
  have b3 : But g H (upd H2 g (.ins L dx (putF "current" (.ref cu)
    (putF "ground" (.ref b) [])))) := (b1.trans (But.of s2)).at
  have c3 : (upd H2 g (.ins L dx (putF "current" (.ref cu)
    (putF "ground" (.ref b) [])))) cu = some (.lst (ls.map vS)) := by
    rw [upd_ne ngc.symm]; exact hcu
  have g3 : (upd H2 g (.ins L dx (putF "current" (.ref cu)
    (putF "ground" (.ref b) [])))) g = some (.ins L dx (putF "current"
    (.ref cu) (putF "ground" (.ref b) []))) := upd_same
  have hb3 : BaseAt C (upd H2 g (.ins L dx (putF "current" (.ref cu)
      (putF "ground" (.ref b) [])))) b ls := by
    refine ⟨dy, lo, d, ?_, ?_, ?_⟩
    · rw [upd_ne (ne_of k1 g1 fun z => ?_)]
      · exact s2 _ _ k1
      · have z' : bf lo d = putF "ground" (.ref b) [] := by injection z
        have := congrArg (List.lookup ("listed" : Str)) z'
        rw [bf_listed, lookup_putF, if_neg (by decide +kernel)] at this
        cases this
    · rw [upd_ne (ne_of k2 g1 nofun)]
      exact s2 _ _ k2
    · rw [upd_ne (ne_of k3 g1 nofun)]
      exact s2 _ _ k3
  generalize (upd H2 g (.ins L dx (putF "current" (.ref cu)
      (putF "ground" (.ref b) [])))) = H3 at b3 c3 g3 hb3 ⊢
  refine ⟨sz (by simp), fun ro nro => ?_⟩
  have ngo : g ≠ ro := ne_of_none g3 nro
  have nco : cu ≠ ro := ne_of_none c3 nro
  refine ⟨_, rfl, g, L, dx, _, rfl, by rw [upd_ne ngo]; exact g3, T.cl, T.nR,
    ?_, ?_⟩
  · show (putF "current" (.ref cu) [(("ground" : Str), V.ref b)]).length < 1000
    show (if ("ground" : Str) = "current" then _ else _ : List _).length < 1000
    rw [if_neg ne_gc]
    show 2 < 1000
    decide
  have fro : H ro = none := by
    cases e : H ro with
    | none => rfl
    | some o => rw [b3 _ _ e ngo.symm] at nro; cases nro
  refine q ro _ fro ⟨⟨dx, cu, [], upd_same, ?_, ?_, .nil⟩, ?_, gd, trivial,
    nofun⟩ ?_
  · rw [upd_ne ngc.symm, upd_ne nco]
    exact c3
  · rw [upd_ne ngo.symm, upd_same]
    rfl
  · have hb4 := hb3.same (sameNew (o := .lst []) nro)
    obtain ⟨dz, l2, d2, z1, z2, z3⟩ := hb4.ob
    have gz : (upd H3 ro (.lst [])) g = _ := (upd_ne ngo).trans g3
    refine ⟨dz, l2, d2, ?_, ?_, ?_⟩
    · rw [upd_ne (ne_of z1 gz fun z => ?_)]
      · exact z1
      · have z' : bf l2 d2 = putF "current" (.ref cu)
          (putF "ground" (.ref b) []) := by injection z
        have := congrArg (List.lookup ("listed" : Str)) z'
        rw [bf_listed, lookup_putF, if_neg (by decide +kernel), lookup_putF,
          if_neg (by decide +kernel)] at this
        cases this
    · rw [upd_ne (ne_of z2 gz nofun)]
      exact z2
    · rw [upd_ne (ne_of z3 gz nofun)]
      exact z3
  · exact (b3.put nro ngo.symm).at
theorem ok_llen {f : Addr} {fd : FuncData} {k : Nat}
    (F : Fun K "__len__" "SwapLog.__len__" s_SwapLog_len f fd) (B : Bl mg)
    (T : LC K mg L) :
    FnOk P w K mg base CX0 (k + 1) f fd ["self"] (spLLen C L) := by
  refine F.ok sc_SwapLog_len (fun vs H Q E h => ?_)
    (fun cv A outer s H vs Q E hr h => ?_)
  · obtain ⟨g, ro, b, ls, rows, rfl, _⟩ := h
    rfl
  obtain ⟨g, ro, b, ls, rows, rfl, x, q⟩ := h
  obtain ⟨dx, cu, rs, h1, h2, h3, h4⟩ := x.ob
  refine ⟨_, pss_one (ps_ret (pe_callB call_len_seq (by rfl) B.len
    PySem.boot_len (pa_cons (pe_fld (pv 0) rfl) pa_nil))), ?_⟩
  refine ⟨_, rfl, g, L, dx, _, _, rfl, h1, T.cl, T.nR, lf_rows _ _ _, ro, _,
    rfl, .inl (SqL.of h3), ?_⟩
  rw [List.length_map, h4.len]
  exact q
theorem ok_lord {f : Addr} {fd : FuncData} {k : Nat}
    (F : Fun K "order" "SwapLog.order" s_SwapLog_order f fd) (B : Bl mg)
    (T : LC K mg L) :
    FnOk P w K mg base CX0 (k + 1) f fd ["self"] (spLOrd C L) := by
  refine F.ok sc_SwapLog_order (fun vs H Q E h => ?_)
    (fun cv A outer s H vs Q E hr h => ?_)
  · obtain ⟨g, ro, b, ls, rows, rfl, _⟩ := h
    rfl
  obtain ⟨g, ro, b, ls, rows, rfl, x, q⟩ := h
  obtain ⟨dx, cu, rs, h1, h2, h3, h4⟩ := x.ob
  refine ⟨_, pss_one (ps_ret (pe_callTy call_list_of (by rfl) B.list bt_list
    (pa_cons (pe_fld (pv 0) rfl) pa_nil))), ?_⟩
  exact ⟨_, rfl, g, L, dx, _, _, rfl, h1, T.cl, T.nC, lf_current _ _ _, cu, _,
    rfl, .inl (SqL.of h2), fun l nl => q l _ nl upd_same (sameNew nl)⟩
theorem ok_lent {f : Addr} {fd : FuncData} {k : Nat}
    (F : Fun K "entries" "SwapLog.entries" s_SwapLog_entries f fd) (B : Bl mg)
    (T : LC K mg L) :
    FnOk P w K mg base CX0 (k + 1) f fd ["self"] (spLEnt C L) := by
  refine F.ok sc_SwapLog_entries (fun vs H Q E h => ?_)
    (fun cv A outer s H vs Q E hr h => ?_)
  · obtain ⟨g, ro, b, ls, rows, rfl, _⟩ := h
    rfl
  obtain ⟨g, ro, b, ls, rows, rfl, x, q⟩ := h
  obtain ⟨dx, cu, rs, h1, h2, h3, h4⟩ := x.ob
  refine ⟨_, pss_one (ps_ret (pe_callTy call_list_of (by rfl) B.list bt_list
    (pa_cons (pe_fld (pv 0) rfl) pa_nil))), ?_⟩
  exact ⟨_, rfl, g, L, dx, _, _, rfl, h1, T.cl, T.nR, lf_rows _ _ _, ro, _,
    rfl, .inl (SqL.of h3), fun l nl => q l rs _ nl upd_same
      (h4.same (sameNew nl)) (sameNew nl)⟩
theorem ok_lixs {f : Addr} {fd : FuncData} {k : Nat}
    (F : Fun K "indexes" "SwapLog.indexes" s_SwapLog_indexes f fd)
    (T : LC K mg L) :
    FnOk P w K mg base CX0 (k + 1) f fd ["self"] (spLIxs C L) := by
  refine F.ok sc_SwapLog_indexes (fun vs H Q E h => ?_)
    (fun cv A outer s H vs Q E hr h => ?_)
  · obtain ⟨g, ro, b, ls, rows, rfl, _⟩ := h
    rfl
  obtain ⟨g, ro, b, ls, rows, rfl, x, q⟩ := h
  obtain ⟨dx, cu, rs, h1, h2, h3, h4⟩ := x.ob
  have nd := sc_SwapLog_indexes.nd
  have hm := x.many
  refine ⟨_, pss_one (ps_ret (pe_lc (own := [("index", 1), ("reason", 2)])
    (g := gTup K 2 (gCons (gName 1) (gCons (gName 2) gNil))) (tt := tYes)
    rfl nd (pi_list (pe_fld (pv 0) rfl))
    (blkOk_by (N := N_SwapLog_indexes) (sc := defScope s_SwapLog_indexes)
      (by decide +kernel))
    (fun _ _ _ _ _ => pg_tup rfl (pgs_cons (pg_name (i := 1) nd rfl
      (Or.inl rfl)) (pgs_cons (pg_name (i := 2) nd rfl (Or.inl rfl)) pgs_nil)))
    (fun _ _ _ _ _ => pts_nil) (fun _ _ _ _ _ => pv 1))), ?_⟩
  refine ⟨_, rfl, g, L, dx, _, _, rfl, h1, T.cl, T.nR, lf_rows _ _ _, ro, rfl,
    ⟨_, SqL.of h3⟩, fun D nD => ?_⟩
  refine lc_list (K := K) (a := ro) (xs := rs.map V.ref) (fun j H' =>
    H' D = some (.lst (vIs (ixs (rows.take j)))) ∧ Same H H')
    ⟨upd_same, sameNew nD⟩ (fun j H' _ z => SqL.of (z.2 _ _ h3)) ?_ ?_
  · rintro j y H1 hy ⟨hD, s1⟩
    rw [List.getElem?_map] at hy
    cases e : rs[j]? with
    | none => rw [e] at hy; cases hy
    | some r =>
      rw [e] at hy
      cases Option.some.inj hy
      have hj : j < rows.length := by
        rw [← h4.len]; exact (List.getElem?_eq_some_iff.mp e).1
      obtain ⟨r', e', ht⟩ := h4.get (List.getElem?_eq_getElem hj)
      rw [e] at e'
      cases Option.some.inj e'
      refine ⟨r, _, rfl, .inl (.inl (s1 _ _ ht)), rfl, _, _, rfl, _, _, rfl,
        rfl, rfl, yes ⟨_, rfl, _, hD, ?_, ?_, ?_⟩⟩
      · rw [List.length_map, List.length_map, List.length_take]
        exact sz' (by omega)
      · rw [upd_same, List.take_add_one, List.getElem?_eq_getElem hj]
        show _ = some (HO.lst (vIs (ixs (rows.take j ++ [rows[j]]))))
        unfold vIs ixs
        rw [List.map_append, List.map_append]
        rfl
      · exact OM.Same.put s1 nD
  · rintro H1 ⟨hD, s1⟩
    rw [List.length_map, h4.len, List.take_length] at hD
    exact q D H1 nD hD s1
end
end OM
/-! moves of words: commute and braid keep the word and its order -/
namespace OM
theorem exch_at {os : List Nme} {i : Nat} (h : i + 1 < os.length) (j : Nat) :
    (exch os i).getD j [] = if j = i then os.getD (i + 1) [] else
      if j = i + 1 then os.getD i [] else os.getD j [] := by
  rw [List.getD_eq_getElem?_getD, exch_get h j]
  split
  · rw [← List.getD_eq_getElem?_getD]
  · split <;> rw [← List.getD_eq_getElem?_getD]
theorem exch_comm {os : List Nme} {i j : Nat} (hi : i + 1 < os.length)
    (hj : j + 1 < os.length) (h : i + 1 < j ∨ j + 1 < i) :
    exch (exch os i) j = exch (exch os j) i := by
  refine List.ext_getElem? fun x => ?_
  rw [exch_get (xs := exch os i) (i := j) (by rw [exch_len]; exact hj) x,
    exch_get (xs := exch os j) (i := i) (by rw [exch_len]; exact hi) x]
  simp only [exch_get hi, exch_get hj]
  repeat' split
  all_goals first | rfl | omega
theorem exch_braid {os : List Nme} {i : Nat} (h : i + 2 < os.length) :
    exch (exch (exch os i) (i + 1)) i =
      exch (exch (exch os (i + 1)) i) (i + 1) := by
  have e : ∀ x, x ≠ i → x ≠ i + 1 → x ≠ i + 2 →
      ∀ (vs : List Nat), (∀ v ∈ vs, v = i ∨ v = i + 1) →
      (run os vs)[x]? = os[x]? := by
    intro x a b c vs
    have g : ∀ (vs : List Nat) (us : List Nme), us.length = os.length →
        (∀ v ∈ vs, v = i ∨ v = i + 1) → (run us vs)[x]? = us[x]? := by
      intro vs
      induction vs with
      | nil => intro us _ _; rfl
      | cons v vs ih =>
        intro us hl hv
        have hv' := hv v List.mem_cons_self
        refine (ih (exch us v) (by rw [exch_len, hl]) fun u hu =>
          hv u (List.mem_cons_of_mem _ hu)).trans ?_
        rw [exch_get (by omega), if_neg (by omega), if_neg (by omega)]
    exact g vs os rfl
  refine List.ext_getElem? fun x => ?_
  by_cases a : x = i
  · subst a
    rw [exch_get (by rw [exch_len, exch_len]; omega), if_pos rfl,
      exch_get (by rw [exch_len]; omega), if_pos rfl,
      exch_get (by omega), if_neg (by omega), if_neg (by omega),
      exch_get (by rw [exch_len, exch_len]; omega), if_neg (by omega),
      if_neg (by omega), exch_get (by rw [exch_len]; omega), if_pos rfl,
      exch_get (by omega), if_pos rfl]
  · by_cases b : x = i + 1
    · subst b
      rw [exch_get (by rw [exch_len, exch_len]; omega), if_neg (by omega),
        if_pos rfl, exch_get (by rw [exch_len]; omega), if_neg (by omega),
        if_neg (by omega), exch_get (by omega), if_pos rfl,
        exch_get (by rw [exch_len, exch_len]; omega), if_pos rfl,
        exch_get (by rw [exch_len]; omega), if_neg (by omega),
        if_neg (by omega), exch_get (by omega), if_neg (by omega), if_pos rfl]
    · by_cases c : x = i + 2
      · subst c
        rw [exch_get (by rw [exch_len, exch_len]; omega), if_neg (by omega),
          if_neg (by omega), exch_get (by rw [exch_len]; omega),
          if_neg (by omega), if_pos rfl, exch_get (by omega), if_neg (by omega),
          if_pos rfl, exch_get (by rw [exch_len, exch_len]; omega),
          if_neg (by omega), if_pos rfl, exch_get (by rw [exch_len]; omega),
          if_neg (by omega), if_pos rfl, exch_get (by omega), if_neg (by omega),
          if_neg (by omega)]
      · have e1 := e x a b c [i, i + 1, i] (by simp)
        have e2 := e x a b c [i + 1, i, i + 1] (by simp)
        exact e1.trans e2.symm
theorem Wd.app {ls : List Nme} : ∀ {us vs : List Nat} {os : List Nme},
    Wd ls os (us ++ vs) ↔ Wd ls os us ∧ Wd ls (run os us) vs
  | [], vs, os => ⟨fun h => ⟨trivial, h⟩, fun h => h.2⟩
  | u :: us, vs, os => by
    constructor
    · rintro ⟨h1, h2, h3⟩
      obtain ⟨h4, h5⟩ := Wd.app.mp h3
      exact ⟨⟨h1, h2, h4⟩, h5⟩
    · rintro ⟨⟨h1, h2, h3⟩, h4⟩
      exact ⟨h1, h2, Wd.app.mpr ⟨h3, h4⟩⟩
theorem Wd.swap2 {ls os : List Nme} {i j : Nat} (h : Wd ls os [i, j])
    (d : i + 1 < j ∨ j + 1 < i) : Wd ls os [j, i] ∧
      run os [j, i] = run os [i, j] := by
  obtain ⟨hi, oi, hj, oj, _⟩ := h
  rw [exch_len] at hj
  have c := exch_comm hi hj d
  refine ⟨⟨hj, ?_, ?_, ?_, trivial⟩, c.symm⟩
  · unfold outB at oj ⊢
    rw [exch_at hi, exch_at hi, if_neg (by omega), if_neg (by omega),
      if_neg (by omega), if_neg (by omega)] at oj
    exact oj
  · rw [exch_len]
    exact hi
  · unfold outB at oi ⊢
    rw [exch_at hj, exch_at hj, if_neg (by omega), if_neg (by omega),
      if_neg (by omega), if_neg (by omega)]
    exact oi
theorem Wd.up3 {ls os : List Nme} {i : Nat} (h : Wd ls os [i, i + 1, i]) :
    Wd ls os [i + 1, i, i + 1] ∧ run os [i + 1, i, i + 1] =
      run os [i, i + 1, i] := by
  obtain ⟨h1, o1, h2, o2, h3, o3, _⟩ := h
  rw [exch_len] at h2
  have b : i + 2 < os.length := by omega
  refine ⟨⟨by omega, ?_, by rw [exch_len]; omega, ?_,
    by rw [exch_len, exch_len]; omega, ?_, trivial⟩, (exch_braid b).symm⟩
  all_goals
    unfold outB at o1 o2 o3 ⊢
    simp only [exch_at (os := os) (i := i) (by omega),
      exch_at (os := os) (i := i + 1) (by omega),
      exch_at (os := exch os i) (i := i + 1) (by rw [exch_len]; omega),
      exch_at (os := exch os (i + 1)) (i := i) (by rw [exch_len]; omega)]
      at o1 o2 o3 ⊢
    simp [show ¬ i + 1 + 1 = i by omega, show ¬ i = i + 1 + 1 by omega]
      at o1 o2 o3 ⊢
    assumption
theorem Wd.down3 {ls os : List Nme} {i : Nat} (h : Wd ls os [i + 1, i, i + 1]) :
    Wd ls os [i, i + 1, i] ∧ run os [i, i + 1, i] =
      run os [i + 1, i, i + 1] := by
  obtain ⟨h1, o1, h2, o2, h3, o3, _⟩ := h
  have b : i + 2 < os.length := by omega
  refine ⟨⟨by omega, ?_, by rw [exch_len]; omega, ?_,
    by rw [exch_len, exch_len]; omega, ?_, trivial⟩, exch_braid b⟩
  all_goals
    unfold outB at o1 o2 o3 ⊢
    simp only [exch_at (os := os) (i := i) (by omega),
      exch_at (os := os) (i := i + 1) (by omega),
      exch_at (os := exch os i) (i := i + 1) (by rw [exch_len]; omega),
      exch_at (os := exch os (i + 1)) (i := i) (by rw [exch_len]; omega)]
      at o1 o2 o3 ⊢
    simp [show ¬ i + 1 + 1 = i by omega, show ¬ i = i + 1 + 1 by omega]
      at o1 o2 o3 ⊢
    assumption
/-- the word after a move: commute or braid -/
def mvd (ws : List Nat) (c : Bool) (k : Nat) : List Nat :=
  ws.take k ++ (if c then [ws.getD (k + 1) 0, ws.getD k 0] else
    [ws.getD (k + 1) 0, ws.getD k 0, ws.getD (k + 1) 0]) ++
    ws.drop (if c then k + 2 else k + 3)
def IsMv (ws : List Nat) (c : Bool) (k : Nat) : Prop :=
  if c = true then k + 2 ≤ ws.length ∧ (ws.getD k 0 + 1 < ws.getD (k + 1) 0 ∨
    ws.getD (k + 1) 0 + 1 < ws.getD k 0)
  else k + 3 ≤ ws.length ∧ ws.getD k 0 = ws.getD (k + 2) 0 ∧
    (ws.getD k 0 + 1 = ws.getD (k + 1) 0 ∨ ws.getD (k + 1) 0 + 1 = ws.getD k 0)
theorem cut2 {ws : List Nat} {k : Nat} (h : k + 2 ≤ ws.length) :
    ws = ws.take k ++ [ws.getD k 0, ws.getD (k + 1) 0] ++ ws.drop (k + 2) := by
  have a : k < ws.length := by omega
  have b : k + 1 < ws.length := by omega
  have e : ws.drop k = ws.getD k 0 :: ws.getD (k + 1) 0 :: ws.drop (k + 2) := by
    rw [List.drop_eq_getElem_cons a, List.drop_eq_getElem_cons b,
      List.getD_eq_getElem?_getD, List.getD_eq_getElem?_getD,
      List.getElem?_eq_getElem a, List.getElem?_eq_getElem b]
    rfl
  rw [List.append_assoc]
  show ws = ws.take k ++ (ws.getD k 0 :: ws.getD (k + 1) 0 :: ws.drop (k + 2))
  rw [← e]
  exact (List.take_append_drop k ws).symm
theorem cut3 {ws : List Nat} {k : Nat} (h : k + 3 ≤ ws.length) :
    ws = ws.take k ++ [ws.getD k 0, ws.getD (k + 1) 0, ws.getD (k + 2) 0] ++
      ws.drop (k + 3) := by
  have c : k + 2 < ws.length := by omega
  have e : ws.drop (k + 2) = ws.getD (k + 2) 0 :: ws.drop (k + 3) := by
    rw [List.drop_eq_getElem_cons c, List.getD_eq_getElem?_getD,
      List.getElem?_eq_getElem c]
    rfl
  have := cut2 (ws := ws) (k := k) (by omega)
  rw [e] at this
  refine this.trans ?_
  simp only [List.append_assoc, List.cons_append, List.nil_append]
theorem mid_move {ls os : List Nme} {A B C D : List Nat}
    (h : Wd ls os (A ++ B ++ D)) (m : Wd ls (run os A) B →
      Wd ls (run os A) C ∧ run (run os A) C = run (run os A) B) :
    Wd ls os (A ++ C ++ D) ∧ run os (A ++ C ++ D) = run os (A ++ B ++ D) := by
  obtain ⟨h1, h2⟩ := Wd.app.mp h
  obtain ⟨h3, h4⟩ := Wd.app.mp h1
  obtain ⟨m1, m2⟩ := m h4
  rw [run_app] at h2
  refine ⟨Wd.app.mpr ⟨Wd.app.mpr ⟨h3, m1⟩, ?_⟩, ?_⟩
  · rw [run_app, m2]
    exact h2
  · rw [run_app, run_app, run_app, run_app, m2]
theorem IsMv.wd {ls os : List Nme} {ws : List Nat} {c : Bool} {k : Nat}
    (m : IsMv ws c k) (h : Wd ls os ws) : Wd ls os (mvd ws c k) ∧
      run os (mvd ws c k) = run os ws := by
  cases c with
  | true =>
    obtain ⟨hl, d⟩ : k + 2 ≤ ws.length ∧ _ := m
    have e := cut2 hl
    rw [e] at h
    have r := mid_move (C := [ws.getD (k + 1) 0, ws.getD k 0]) h
      fun z => z.swap2 d
    rw [← e] at r
    exact r
  | false =>
    obtain ⟨hl, e2, d⟩ : k + 3 ≤ ws.length ∧ ws.getD k 0 = ws.getD (k + 2) 0 ∧
      _ := m
    have e := cut3 hl
    rw [← e2] at e
    rw [e] at h
    have r := mid_move (C := [ws.getD (k + 1) 0, ws.getD k 0,
      ws.getD (k + 1) 0]) h fun z => by
        rcases d with d | d
        · rw [← d] at z ⊢
          exact z.up3
        · rw [← d] at z ⊢
          exact z.down3
    rw [← e] at r
    exact r
theorem mvd_len {ws : List Nat} {c : Bool} {k : Nat} (m : IsMv ws c k) :
    (mvd ws c k).length = ws.length := by
  cases c with
  | true =>
    obtain ⟨hl, _⟩ : k + 2 ≤ ws.length ∧ _ := m
    show (ws.take k ++ [ws.getD (k + 1) 0, ws.getD k 0] ++
      ws.drop (k + 2)).length = _
    simp
    omega
  | false =>
    obtain ⟨hl, _⟩ : k + 3 ≤ ws.length ∧ _ := m
    show (ws.take k ++ [ws.getD (k + 1) 0, ws.getD k 0, ws.getD (k + 1) 0] ++
      ws.drop (k + 3)).length = _
    simp
    omega
end OM
namespace OM
open PySem PySem.Spec PyProof.Rows L2
/-- a word, as a list of numbers -/
structure WordAt (C : Addr) (H : Hp) (b a : Addr) (ls : List (List Nat))
    (ws : List Nat) : Prop where
  ba : BaseAt C H b ls
  good : Good ls
  li : H a = some (.lst (vIs ws))
  wd : Wd ls ls ws
  hi : ws.length ≤ 1000
theorem WordAt.same {C b a : Addr} {H H' : Hp} {ls : List (List Nat)}
    {ws : List Nat} (x : WordAt C H b a ls ws) (s : Same H H') :
    WordAt C H' b a ls ws := ⟨x.ba.same s, x.good, s _ _ x.li, x.wd, x.hi⟩
theorem vIs_get {ws : List Nat} {i : Nat} {v : V} (h : (vIs ws)[i]? = some v) :
    ∃ m : Nat, ws[i]? = some m ∧ v = .int (m : Int) := by
  rw [List.getElem?_map] at h
  cases e : ws[i]? with
  | none => rw [e] at h; cases h
  | some m => rw [e] at h; exact ⟨m, rfl, (Option.some.inj h).symm⟩
theorem take_one {ws : List Nat} {i m : Nat} (h : ws[i]? = some m) :
    ws.take (i + 1) = ws.take i ++ [m] := by
  rw [List.take_add_one, h]
  rfl
theorem run_one (os : List (List Nat)) (us : List Nat) (m : Nat) :
    run os (us ++ [m]) = exch (run os us) m := by
  unfold run
  rw [List.foldl_append]
  rfl
theorem run_perm (us : List Nat) : ∀ os : List (List Nat),
    (run os us).Perm os := by
  induction us with
  | nil => intro os; exact List.Perm.refl _
  | cons u us ih => intro os; exact (ih (exch os u)).trans (exch_perm os u)
/-- each step of a word goes outward -/
theorem Wd.step {ls : List (List Nat)} {ws : List Nat} {i m : Nat}
    (h : Wd ls ls ws) (hm : ws[i]? = some m) :
    m + 1 < ls.length ∧ outB ls (run ls (ws.take i)) m = true := by
  have e : ws = ws.take i ++ m :: ws.drop (i + 1) := by
    obtain ⟨hl, e⟩ := List.getElem?_eq_some_iff.mp hm
    rw [← e, ← List.drop_eq_getElem_cons hl]
    exact (List.take_append_drop i ws).symm
  rw [e] at h
  obtain ⟨_, h1, h2, _⟩ := Wd.app.mp h
  rw [run_len] at h1
  exact ⟨h1, h2⟩
def spWF (C : Addr) : Sp := fun vs H Q _ =>
  ∃ (b a : Addr) (ls : List (List Nat)) (ws : List Nat),
  vs = [.ref b, .ref a] ∧ WordAt C H b a ls ws ∧ ∀ H', Same H H' → Q .non H'
def spIsW (C : Addr) : Sp := fun vs H Q _ =>
  ∃ (b a : Addr) (ls : List (List Nat)) (ws : List Nat),
  vs = [.ref b, .ref a] ∧ WordAt C H b a ls ws ∧
  ∀ H', Same H H' → Q (.bl true) H'
def spOfW (C : Addr) : Sp := fun vs H Q _ =>
  ∃ (b a : Addr) (ls : List (List Nat)) (ws : List Nat),
  vs = [.ref b, .ref a] ∧ WordAt C H b a ls ws ∧
  ∀ q H', H q = none → H' q = some (.lst ((run ls ws).map vS)) → Same H H' →
    Q (.ref q) H'
section
variable {P : Program} {w : World} {K : PySem.W.Frag}
  {mg : Str → Option Value} {base : Heap} {C : Addr}
theorem ok_wfault {f : Addr} {fd : FuncData} {k : Nat}
    (F : Fun K "word_fault" "word_fault" s_word_fault f fd) (B : Bl mg)
    (Mn : CalM P w K mg base C k "names" ["self"] (spGetNames C))
    (Cs : Cal P w K mg base k "is_swap_index" ["base", "value"] (spSwapIx C))
    (Co : Cal P w K mg base k "goes_outward" ["base", "order", "index"]
      (spOut C))
    (Ce : Cal P w K mg base k "exchanged" ["order", "index"] (spExch K)) :
    FnOk P w K mg base CX0 (k + 1) f fd ["base", "value"] (spWF C) := by
  refine F.ok sc_word_fault (fun vs H Q E h => ?_)
    (fun cv A outer s H vs Q E hr h => ?_)
  · obtain ⟨b, a, ls, ws, rfl, _⟩ := h
    rfl
  obtain ⟨b, a, ls, ws, rfl, wo, q⟩ := h
  have nd := sc_word_fault.nd
  refine ⟨_, pss_cons (ps_if (pt_not (pt_val
      (pe_callB call_isi (by rfl) B.isi bt_isi (pa_cons (pv 1) (pa_cons
        (pe_bltn (v := .ty "list") (by rfl) B.list bt_list rfl) pa_nil)))))
      (pss_one ps_never) pss_nil)
    (pss_cons (ps_set (i := 2) nd rfl (.inl rfl) (pe_calM0 Mn hr (pv 0)))
    (pss_cons (ps_for PassesOwn.never rfl
      (pi_enum (by rfl) B.enum (pa_cons (pv 1) pa_nil))
      (pg_tup rfl (pgs_cons (pg_name (i := 3) nd rfl (.inl rfl))
        (pgs_cons (pg_name (i := 4) nd rfl (.inl rfl)) pgs_nil)))
      (pss_cons (ps_if (PW.pt (pw_or (pt_not (pt_val (pe_cal Cs hr (pa_cons
          (pv 0) (pa_cons (pv 4) pa_nil)))))
        (pw_or1 (pt_not (pt_val (pe_cal Co hr (pa_cons (pv 0) (pa_cons (pv 2)
          (pa_cons (pv 4) pa_nil)))))))))
        (pss_one ps_never) pss_nil)
      (pss_one (ps_set (i := 2) nd rfl (.inl rfl)
        (pe_cal Ce hr (pa_cons (pv 2) (pa_cons (pv 4) pa_nil)))))))
    (pss_one (ps_ret pe_non)))), ?_⟩
  obtain ⟨dx, lo, d, h1, h2, h3⟩ := wo.ba.ob
  have hhi := wo.good.hi
  refine ⟨_, rfl, _, _, _, _, true, rfl, .ty "list", .base (.lst wo.li),
    kit_ty (by decide +kernel), _, rfl, iteF ?_⟩
  refine ⟨_, rfl, b, dx, _, rfl, h1, bf_no _ _ (by decide +kernel)
    (by decide +kernel), b, ls, rfl, wo.ba, fun o0 H1 no0 ho0 s1 => ?_⟩
  refine ⟨_, rfl, a, _, rfl, SqL.of (s1 _ _ wo.li), ?_⟩
  refine for_it (walk_enum (K := K) (a := a) (xs := vIs ws))
    (fun i σ H' => ∃ (o : Addr) (y z : Option V),
      σ = [some (.ref b), some (.ref a), some (.ref o), y, z] ∧
      H' o = some (.lst ((run ls (ws.take i)).map vS)) ∧ Same H H')
    ⟨o0, none, none, rfl, ho0, s1⟩
    (fun i σ H' _ z => by
      obtain ⟨_, _, _, _, _, sm⟩ := z
      exact SqL.of (sm _ _ wo.li))
    ?_ ?_
  · rintro i v σ H2 H3 hi ⟨o, y, z, rfl, ho, s2⟩
      ⟨T', x1, x2, rfl, nT, rfl, e1, e2⟩
    obtain ⟨m, hm, rfl⟩ := vIs_get e2
    cases Option.some.inj e1
    have s3 := sameNew (o := .tup [.int (i : Nat), .int (m : Int)]) nT
    have g3 : (upd H2 T' (.tup [.int (i : Nat), .int (m : Int)])) T' =
      some (.tup [.int (i : Nat), .int (m : Int)]) := upd_same
    generalize upd H2 T' (.tup [.int (i : Nat), .int (m : Int)]) = H3 at s3 g3 ⊢
    obtain ⟨mx, mo⟩ := wo.wd.step hm
    have s03 := s2.trans s3
    have ho3 := s3 _ _ ho
    have ol : (run ls (ws.take i)).length = ls.length := run_len _ _
    refine ⟨T', _, rfl, .inl (.inl g3), rfl, _, _, rfl, _, _, rfl, rfl, ?_⟩
    refine ⟨_, rfl, _, rfl, b, ls, _, rfl, wo.ba.same s03, hhi, _, rfl, ?_⟩
    rw [decide_eq_true (show (0 : Int) ≤ (m : Int) by omega),
      decide_eq_true (show (m : Int) ≤ (ls.length : Int) - 2 by omega)]
    refine iteF ⟨_, rfl, _, rfl, _, rfl, b, o, ls, _, m, rfl,
      ⟨wo.ba.same s03, wo.good, ho3, run_perm _ _⟩, by omega, fun H4 s4 => ?_⟩
    rw [mo]
    refine ⟨_, rfl, iteF ?_⟩
    refine ⟨_, rfl, _, rfl, o, _, m, rfl, SqL.of (s4 _ _ ho3), ?_, ?_,
      fun o' H5 no' ho' s5 => ?_⟩
    · rw [List.length_map]
      omega
    · rw [List.length_map]
      omega
    rw [exch_map] at ho'
    refine ⟨o', _, _, rfl, ?_, (s03.trans s4).trans s5⟩
    rw [take_one hm, run_one]
    exact ho'
  · rintro σ H2 ⟨o, y, z, rfl, ho, s2⟩
    exact q H2 s2
theorem ok_chkword {f : Addr} {fd : FuncData} {k : Nat}
    (F : Fun K "check_word" "check_word" s_check_word f fd)
    (Cf : Cal P w K mg base k "word_fault" ["base", "value"] (spWF C)) :
    FnOk P w K mg base CX0 (k + 1) f fd ["base", "word"] (spWF C) := by
  refine F.ok sc_check_word (fun vs H Q E h => ?_)
    (fun cv A outer s H vs Q E hr h => ?_)
  · obtain ⟨b, a, ls, ws, rfl, _⟩ := h
    rfl
  obtain ⟨b, a, ls, ws, rfl, wo, q⟩ := h
  have nd := sc_check_word.nd
  refine ⟨_, pss_cons (ps_set (i := 2) nd rfl (.inl rfl)
      (pe_cal Cf hr (pa_cons (pv 0) (pa_cons (pv 1) pa_nil))))
    (pss_one (ps_if (pt_cmpR op_notN (pv 2) pe_non (nomark _))
      (pss_one ps_never) pss_nil)), ?_⟩
  exact ⟨_, rfl, _, rfl, b, a, ls, ws, rfl, wo, fun H1 s1 =>
    ⟨_, rfl, rfl, _, rfl, iteF (q H1 s1)⟩⟩
theorem ok_isword {f : Addr} {fd : FuncData} {k : Nat}
    (F : Fun K "is_word" "is_word" s_is_word f fd)
    (Cf : Cal P w K mg base k "word_fault" ["base", "value"] (spWF C)) :
    FnOk P w K mg base CX0 (k + 1) f fd ["base", "value"] (spIsW C) := by
  refine F.ok sc_is_word (fun vs H Q E h => ?_)
    (fun cv A outer s H vs Q E hr h => ?_)
  · obtain ⟨b, a, ls, ws, rfl, _⟩ := h
    rfl
  obtain ⟨b, a, ls, ws, rfl, wo, q⟩ := h
  refine ⟨_, pss_one (ps_ret (pe_cmpR op_isN (pe_cal Cf hr (pa_cons (pv 0)
    (pa_cons (pv 1) pa_nil))) pe_non (nomark _))), ?_⟩
  exact ⟨_, rfl, _, rfl, b, a, ls, ws, rfl, wo, fun H1 s1 =>
    ⟨rfl, q H1 s1⟩⟩
theorem ok_oaw {f : Addr} {fd : FuncData} {k : Nat}
    (F : Fun K "order_after_swaps" "order_after_swaps" s_order_after_swaps
      f fd)
    (Mn : CalM P w K mg base C k "names" ["self"] (spGetNames C))
    (Ce : Cal P w K mg base k "exchanged" ["order", "index"] (spExch K)) :
    FnOk P w K mg base CX0 (k + 1) f fd ["base", "indexes"] (spOfW C) := by
  refine F.ok sc_order_after_swaps (fun vs H Q E h => ?_)
    (fun cv A outer s H vs Q E hr h => ?_)
  · obtain ⟨b, a, ls, ws, rfl, _⟩ := h
    rfl
  obtain ⟨b, a, ls, ws, rfl, wo, q⟩ := h
  have nd := sc_order_after_swaps.nd
  refine ⟨_, pss_cons (ps_set (i := 2) nd rfl (.inl rfl)
      (pe_calM0 Mn hr (pv 0)))
    (pss_cons (ps_for PassesOwn.never rfl (pi_list (pv 1))
      (pg_name (i := 3) nd rfl (.inl rfl))
      (pss_one (ps_set (i := 2) nd rfl (.inl rfl)
        (pe_cal Ce hr (pa_cons (pv 2) (pa_cons (pv 3) pa_nil))))))
    (pss_one (ps_ret (pv 2)))), ?_⟩
  obtain ⟨dx, lo, d, h1, h2, h3⟩ := wo.ba.ob
  have hhi := wo.good.hi
  refine ⟨_, rfl, b, dx, _, rfl, h1, bf_no _ _ (by decide +kernel)
    (by decide +kernel), b, ls, rfl, wo.ba, fun o0 H1 no0 ho0 s1 => ?_⟩
  refine ⟨_, rfl, a, rfl, ⟨_, SqL.of (s1 _ _ wo.li)⟩, ?_⟩
  refine for_list (K := K) (a := a) (xs := vIs ws) (fun i σ H' =>
      ∃ (o : Addr) (y : Option V),
      σ = [some (.ref b), some (.ref a), some (.ref o), y] ∧ H o = none ∧
      H' o = some (.lst ((run ls (ws.take i)).map vS)) ∧ Same H H')
    ⟨o0, none, rfl, no0, ho0, s1⟩
    (fun i σ H' _ z => by
      obtain ⟨_, _, _, _, _, s⟩ := z
      exact SqL.of (s _ _ wo.li)) ?_ ?_
  · rintro i v σ H2 hv ⟨o, y, rfl, no, ho, s2⟩
    obtain ⟨m, hm, rfl⟩ := vIs_get hv
    obtain ⟨mx, _⟩ := wo.wd.step hm
    have ol : (run ls (ws.take i)).length = ls.length := run_len _ _
    refine ⟨_, rfl, _, rfl, o, _, m, rfl, SqL.of ho, ?_, ?_,
      fun o' H5 no' ho' s5 => ?_⟩
    · rw [List.length_map]; omega
    · rw [List.length_map, ol]
      omega
    rw [exch_map] at ho'
    refine ⟨o', _, rfl, s2.free no', ?_, s2.trans s5⟩
    rw [take_one hm, run_one]
    exact ho'
  · rintro σ H2 ⟨o, y, rfl, no, ho, s2⟩
    rw [List.length_map, List.take_length] at ho
    exact ⟨_, rfl, q o H2 no ho s2⟩
theorem ok_ofword {f : Addr} {fd : FuncData} {k : Nat}
    (F : Fun K "order_of_word" "order_of_word" s_order_of_word f fd)
    (Cc : Cal P w K mg base k "check_word" ["base", "word"] (spWF C))
    (Co : Cal P w K mg base k "order_after_swaps" ["base", "indexes"]
      (spOfW C)) :
    FnOk P w K mg base CX0 (k + 1) f fd ["base", "word"] (spOfW C) := by
  refine F.ok sc_order_of_word (fun vs H Q E h => ?_)
    (fun cv A outer s H vs Q E hr h => ?_)
  · obtain ⟨b, a, ls, ws, rfl, _⟩ := h
    rfl
  obtain ⟨b, a, ls, ws, rfl, wo, q⟩ := h
  refine ⟨_, pss_cons (ps_expr (pe_cal Cc hr (pa_cons (pv 0)
      (pa_cons (pv 1) pa_nil))))
    (pss_one (ps_ret (pe_cal Co hr (pa_cons (pv 0) (pa_cons (pv 1)
      pa_nil))))), ?_⟩
  exact ⟨_, rfl, _, rfl, b, a, ls, ws, rfl, wo, fun H1 s1 =>
    ⟨_, rfl, _, rfl, b, a, ls, ws, rfl, wo.same s1, fun o H2 no ho s2 =>
      q o H2 (s1.free no) ho (s1.trans s2)⟩⟩
end
end OM
namespace OM
open PySem PySem.Spec PyProof.Rows L2
def mvB (ws : List Nat) (c : Bool) (k : Nat) : Bool :=
  if c then decide (k + 2 ≤ ws.length) &&
    decide (ws.getD k 0 + 1 < ws.getD (k + 1) 0 ∨
      ws.getD (k + 1) 0 + 1 < ws.getD k 0)
  else decide (k + 3 ≤ ws.length) && (decide (ws.getD k 0 = ws.getD (k + 2) 0) &&
    decide (ws.getD k 0 + 1 = ws.getD (k + 1) 0 ∨
      ws.getD (k + 1) 0 + 1 = ws.getD k 0))
theorem mvB_is {ws : List Nat} {c : Bool} {k : Nat} :
    mvB ws c k = true ↔ IsMv ws c k := by
  cases c with
  | true =>
    unfold mvB IsMv
    rw [if_pos rfl, if_pos rfl, Bool.and_eq_true, decide_eq_true_eq,
      decide_eq_true_eq]
  | false =>
    unfold mvB IsMv
    rw [if_neg (by decide), if_neg (by decide), Bool.and_eq_true,
      Bool.and_eq_true, decide_eq_true_eq, decide_eq_true_eq, decide_eq_true_eq]
theorem part_len (ws : List Nat) (k n : Nat) (h : k ≤ ws.length) :
    cutV (vIs ws) (some ((k : Nat) : Int)) (some ((k + n : Nat) : Int)) =
      vIs ((ws.drop k).take n) := by
  unfold cutV
  rw [HT.sIx_nat, HT.sIx_nat, List.length_map, Nat.min_eq_left h,
    ← List.map_drop, ← List.map_take]
  congr 1
  rcases Nat.le_total (k + n) ws.length with c | c
  · rw [Nat.min_eq_left c, Nat.add_sub_cancel_left]
  · rw [Nat.min_eq_right c, List.take_of_length_le (by
      rw [List.length_drop]; omega), List.take_of_length_le (by
      rw [List.length_drop]; omega)]
theorem vat {ws : List Nat} {k : Nat} (h : k < ws.length) :
    (vIs ws)[k]? = some (.int ((ws.getD k 0 : Nat) : Int)) := by
  rw [List.getElem?_map, List.getElem?_eq_getElem h, List.getD_eq_getElem?_getD,
    List.getElem?_eq_getElem h]
  rfl
theorem part_at {ws : List Nat} {k n j : Nat} (h : k + j < ws.length)
    (hj : j < n) : (vIs ((ws.drop k).take n))[j]? =
      some (.int ((ws.getD (k + j) 0 : Nat) : Int)) := by
  rw [List.getElem?_map, List.getElem?_take, if_pos hj, List.getElem?_drop,
    List.getElem?_eq_getElem h, List.getD_eq_getElem?_getD,
    List.getElem?_eq_getElem h]
  rfl
theorem abs_gt (a b : Nat) : decide ((1 : Int) < (if (a : Int) - (b : Int) < 0
    then -((a : Int) - (b : Int)) else (a : Int) - (b : Int))) =
    decide (a + 1 < b ∨ b + 1 < a) := by
  refine decide_eq_decide.mpr ?_
  split <;> omega
theorem abs_one (a b : Nat) : decide (V.int (if (a : Int) - (b : Int) < 0
    then -((a : Int) - (b : Int)) else (a : Int) - (b : Int)) = V.int 1) =
    decide (a + 1 = b ∨ b + 1 = a) := by
  refine decide_eq_decide.mpr ?_
  constructor
  · intro h
    have := V.int.inj h
    split at this <;> omega
  · intro h
    congr 1
    split <;> omega
def spCan (c : Bool) : Sp := fun vs H Q _ =>
  ∃ (a : Addr) (ws : List Nat) (k : Nat), vs = [.ref a, .int k] ∧
  H a = some (.lst (vIs ws)) ∧ ws.length ≤ 1000 ∧ k ≤ ws.length ∧
  ∀ H', Same H H' → Q (.bl (mvB ws c k)) H'
def spMoved : Sp := fun vs H Q _ =>
  ∃ (a t : Addr) (ws : List Nat) (c : Bool) (k : Nat), vs = [.ref a, .ref t] ∧
  H a = some (.lst (vIs ws)) ∧ ws.length ≤ 1000 ∧
  H t = some (.tup [.str (if c then Str.ofString "commute" else
    Str.ofString "braid"), .int k]) ∧ IsMv ws c k ∧
  ∀ q H', H q = none → H' q = some (.lst (vIs (mvd ws c k))) → Same H H' →
    Q (.ref q) H'
section
variable {P : Program} {w : World} {K : PySem.W.Frag}
  {mg : Str → Option Value} {base : Heap} {C : Addr}
theorem ok_cancomm {f : Addr} {fd : FuncData} {k : Nat}
    (F : Fun K "can_commute" "can_commute" s_can_commute f fd) (B : Bl mg) :
    FnOk P w K mg base CX0 (k + 1) f fd ["word", "position"] (spCan true) := by
  refine F.ok sc_can_commute (fun vs H Q E h => ?_)
    (fun cv A outer s H vs Q E hr h => ?_)
  · obtain ⟨a, ws, k, rfl, _⟩ := h
    rfl
  obtain ⟨a, ws, k, rfl, ha, hl, hk, q⟩ := h
  have nd := sc_can_commute.nd
  refine ⟨_, pss_cons (ps_set (i := 2) nd rfl (.inl rfl)
      (pe_slice sl_list (pv 0) (po_some (pv 1)) (po_some (pe_op op_add (pv 1)
        pe_int))))
    (pss_one (ps_ret (pe_and (pe_cmpR op_eq (pe_callB call_len_seq (by rfl)
        B.len PySem.boot_len (pa_cons (pv 2) pa_nil)) pe_int (nomark _))
      (pe_one (pe_cmpR op_gt (pe_callB call_abs (by rfl) B.abs bt_abs (pa_cons
        (pe_op op_sub (pe_ix ix_list (pv 2) pe_int (fun _ _ => rfl))
          (pe_ix ix_list (pv 2) pe_int (fun _ _ => rfl))) pa_nil)) pe_int
        (nomark _)))))), ?_⟩
  refine ⟨_, rfl, _, rfl, ((k : Nat) : Int), rfl, _, rfl, _, _, rfl, rfl,
    ((k + 2 : Nat) : Int), rfl, a, _, rfl, SqL.of ha, fun t nt => ?_⟩
  rw [part_len ws k 2 hk]
  have s1 := sameNew (o := .lst (vIs ((ws.drop k).take 2))) nt
  have g1 : (upd H t (.lst (vIs ((ws.drop k).take 2)))) t =
    some (.lst (vIs ((ws.drop k).take 2))) := upd_same
  generalize upd H t (.lst (vIs ((ws.drop k).take 2))) = H1 at s1 g1 ⊢
  refine ⟨_, rfl, t, _, rfl, .inl (SqL.of g1), rfl, _, rfl, ?_⟩
  have qq := q H1 s1
  unfold mvB at qq
  rw [if_pos rfl] at qq
  by_cases c : k + 2 ≤ ws.length
  · have e : ((vIs ((ws.drop k).take 2)).length : Int) = 2 := by
      rw [List.length_map, List.length_take, List.length_drop]
      omega
    rw [e, decide_eq_true rfl]
    rw [decide_eq_true c, Bool.true_and] at qq
    refine iteT ⟨_, rfl, t, _, 0, _, rfl, rfl, SqL.of g1, atI_nat (j := 0)
      (part_at (j := 0) (by omega) (by decide)), _, rfl, t, _, 1, _, rfl, rfl,
      SqL.of g1, atI_nat (j := 1) (part_at (j := 1) (by omega) (by decide)), _,
      _, rfl, rfl, _, rfl, _, _, rfl, rfl, ?_⟩
    rw [← abs_gt] at qq
    exact qq
  · have e : decide (V.int ((vIs ((ws.drop k).take 2)).length : Int) = V.int 2)
        = false := by
      refine decide_eq_false fun z => ?_
      have := V.int.inj z
      rw [List.length_map, List.length_take, List.length_drop] at this
      omega
    rw [e]
    rw [decide_eq_false c, Bool.false_and] at qq
    exact iteF qq
theorem ok_canbraid {f : Addr} {fd : FuncData} {k : Nat}
    (F : Fun K "can_braid" "can_braid" s_can_braid f fd) (B : Bl mg) :
    FnOk P w K mg base CX0 (k + 1) f fd ["word", "position"]
      (spCan false) := by
  refine F.ok sc_can_braid (fun vs H Q E h => ?_)
    (fun cv A outer s H vs Q E hr h => ?_)
  · obtain ⟨a, ws, k, rfl, _⟩ := h
    rfl
  obtain ⟨a, ws, k, rfl, ha, hl, hk, q⟩ := h
  have nd := sc_can_braid.nd
  refine ⟨_, pss_cons (ps_set (i := 2) nd rfl (.inl rfl)
      (pe_slice sl_list (pv 0) (po_some (pv 1)) (po_some (pe_op op_add (pv 1)
        pe_int))))
    (pss_one (ps_ret (pe_and (pe_cmpR op_eq (pe_callB call_len_seq (by rfl)
        B.len PySem.boot_len (pa_cons (pv 2) pa_nil)) pe_int (nomark _))
      (pe_and (pe_cmpR op_eq (pe_ix ix_list (pv 2) pe_int (fun _ _ => rfl))
        (pe_ix ix_list (pv 2) pe_int (fun _ _ => rfl)) (nomark _))
      (pe_one (pe_cmpR op_eq (pe_callB call_abs (by rfl) B.abs bt_abs (pa_cons
        (pe_op op_sub (pe_ix ix_list (pv 2) pe_int (fun _ _ => rfl))
          (pe_ix ix_list (pv 2) pe_int (fun _ _ => rfl))) pa_nil)) pe_int
        (nomark _))))))), ?_⟩
  refine ⟨_, rfl, _, rfl, ((k : Nat) : Int), rfl, _, rfl, _, _, rfl, rfl,
    ((k + 3 : Nat) : Int), rfl, a, _, rfl, SqL.of ha, fun t nt => ?_⟩
  rw [part_len ws k 3 hk]
  have s1 := sameNew (o := .lst (vIs ((ws.drop k).take 3))) nt
  have g1 : (upd H t (.lst (vIs ((ws.drop k).take 3)))) t =
    some (.lst (vIs ((ws.drop k).take 3))) := upd_same
  generalize upd H t (.lst (vIs ((ws.drop k).take 3))) = H1 at s1 g1 ⊢
  refine ⟨_, rfl, t, _, rfl, .inl (SqL.of g1), rfl, _, rfl, ?_⟩
  have qq := q H1 s1
  unfold mvB at qq
  rw [if_neg (by decide)] at qq
  by_cases c : k + 3 ≤ ws.length
  · have e : ((vIs ((ws.drop k).take 3)).length : Int) = 3 := by
      rw [List.length_map, List.length_take, List.length_drop]
      omega
    rw [e, decide_eq_true rfl]
    rw [decide_eq_true c, Bool.true_and] at qq
    refine iteT ⟨_, rfl, t, _, 0, _, rfl, rfl, SqL.of g1, atI_nat (j := 0)
      (part_at (j := 0) (by omega) (by decide)), _, rfl, t, _, 2, _, rfl, rfl,
      SqL.of g1, atI_nat (j := 2) (part_at (j := 2) (by omega) (by decide)),
      rfl, _, rfl, ?_⟩
    by_cases c2 : ws.getD k 0 = ws.getD (k + 2) 0
    · rw [decide_eq_true (show V.int ((ws.getD (k + 0) 0 : Nat) : Int) =
        V.int ((ws.getD (k + 2) 0 : Nat) : Int) by rw [Nat.add_zero, c2])]
      rw [decide_eq_true c2, Bool.true_and] at qq
      refine iteT ⟨_, rfl, t, _, 0, _, rfl, rfl, SqL.of g1, atI_nat (j := 0)
        (part_at (j := 0) (by omega) (by decide)), _, rfl, t, _, 1, _, rfl, rfl,
        SqL.of g1, atI_nat (j := 1) (part_at (j := 1) (by omega) (by decide)),
        _, _, rfl, rfl, _, rfl, rfl, ?_⟩
      rw [← abs_one] at qq
      exact qq
    · rw [decide_eq_false (show ¬ V.int ((ws.getD (k + 0) 0 : Nat) : Int) =
        V.int ((ws.getD (k + 2) 0 : Nat) : Int) from fun z => c2 (by
          have := V.int.inj z
          rw [Nat.add_zero] at this
          omega))]
      rw [decide_eq_false c2, Bool.false_and] at qq
      exact iteF qq
  · have e : decide (V.int ((vIs ((ws.drop k).take 3)).length : Int) = V.int 3)
        = false := by
      refine decide_eq_false fun z => ?_
      have := V.int.inj z
      rw [List.length_map, List.length_take, List.length_drop] at this
      omega
    rw [e]
    rw [decide_eq_false c, Bool.false_and] at qq
    exact iteF qq
end
end OM
namespace OM
open PySem PySem.Spec PyProof.Rows L2
theorem bt_tupM : bootBuiltins "tuple" = some (.type "tuple") := by
  decide +kernel
/-- no whole number: None, a bool, a text -/
inductive NoInt : V → Prop
  | non : NoInt .non
  | bl (b : Bool) : NoInt (.bl b)
  | str (x : Str) : NoInt (.str x)
def spIntV : Sp := fun vs H Q _ => ∃ v, vs = [v] ∧
  ((∃ i, v = .int i ∧ Q (.bl true) H) ∨ (NoInt v ∧ Q (.bl false) H))
def spFromV : Sp := fun vs H Q _ => ∃ (v : V) (lo hi : Int),
  vs = [v, .int lo, .int hi] ∧
  ((∃ i, v = .int i ∧ Q (.bl (decide (lo ≤ i) && decide (i ≤ hi))) H) ∨
    (NoInt v ∧ Q (.bl false) H))
abbrev sCom : Str := Str.ofString "commute"
abbrev sBra : Str := Str.ofString "braid"
/-- is it a move -/
inductive MvV (K : PySem.W.Frag) (H : Hp) (ws : List Nat) : V → Bool → Prop
  | other {v : V} {t : Value} : TyX K H v t →
      PySem.W.kitOne K t (.type "tuple") = some false → MvV K H ws v false
  | len {t : Addr} {xs : List V} : H t = some (.tup xs) → xs.length ≠ 2 →
      MvV K H ws (.ref t) false
  | kind {t : Addr} {x y : V} {ty : Value} : H t = some (.tup [x, y]) →
      TyX K H x ty → PySem.W.kitOne K ty (.type "str") = some false →
      MvV K H ws (.ref t) false
  | pos {t : Addr} {s : Str} {y : V} : H t = some (.tup [.str s, y]) →
      NoInt y → MvV K H ws (.ref t) false
  | out {t : Addr} {s : Str} {i : Int} : H t = some (.tup [.str s, .int i]) →
      ¬ (0 ≤ i ∧ i ≤ (ws.length : Int) - 1) → MvV K H ws (.ref t) false
  | com {t : Addr} {k : Nat} : H t = some (.tup [.str sCom, .int k]) →
      k < ws.length → MvV K H ws (.ref t) (mvB ws true k)
  | bra {t : Addr} {k : Nat} : H t = some (.tup [.str sBra, .int k]) →
      k < ws.length → MvV K H ws (.ref t) (mvB ws false k)
  | nor {t : Addr} {s : Str} {k : Nat} : H t = some (.tup [.str s, .int k]) →
      k < ws.length → s ≠ sCom → s ≠ sBra → MvV K H ws (.ref t) false
def spIsMv (K : PySem.W.Frag) : Sp := fun vs H Q _ =>
  ∃ (a : Addr) (v : V) (ws : List Nat) (r : Bool), vs = [.ref a, v] ∧
  H a = some (.lst (vIs ws)) ∧ ws.length ≤ 1000 ∧ MvV K H ws v r ∧
  ∀ H', Same H H' → Q (.bl r) H'
theorem MvV.parts {K : PySem.W.Frag} {H : Hp} {ws : List Nat} {v : V} {r : Bool}
    (m : MvV K H ws v r) :
    (r = false ∧ ∃ t, TyX K H v t ∧
      PySem.W.kitOne K t (.type "tuple") = some false) ∨
    (r = false ∧ ∃ t xs, v = .ref t ∧ H t = some (.tup xs) ∧ xs.length ≠ 2) ∨
    ∃ t x y, v = .ref t ∧ H t = some (.tup [x, y]) ∧
      ((r = false ∧ ∃ ty, TyX K H x ty ∧
        PySem.W.kitOne K ty (.type "str") = some false) ∨
      ∃ s, x = .str s ∧ ((r = false ∧ NoInt y) ∨ ∃ i : Int, y = .int i ∧
        ((r = false ∧ ¬ (0 ≤ i ∧ i ≤ (ws.length : Int) - 1)) ∨
        ∃ k : Nat, i = (k : Int) ∧ k < ws.length ∧
          ((s = sCom ∧ r = mvB ws true k) ∨ (s = sBra ∧ r = mvB ws false k) ∨
          (r = false ∧ s ≠ sCom ∧ s ≠ sBra))))) := by
  cases m with
  | other a b => exact .inl ⟨rfl, _, a, b⟩
  | len a b => exact .inr (.inl ⟨rfl, _, _, rfl, a, b⟩)
  | kind a b c => exact .inr (.inr ⟨_, _, _, rfl, a, .inl ⟨rfl, _, b, c⟩⟩)
  | pos a b => exact .inr (.inr ⟨_, _, _, rfl, a, .inr ⟨_, rfl, .inl ⟨rfl, b⟩⟩⟩)
  | out a b =>
    exact .inr (.inr ⟨_, _, _, rfl, a, .inr ⟨_, rfl, .inr ⟨_, rfl,
      .inl ⟨rfl, b⟩⟩⟩⟩)
  | com a b =>
    exact .inr (.inr ⟨_, _, _, rfl, a, .inr ⟨_, rfl, .inr ⟨_, rfl,
      .inr ⟨_, rfl, b, .inl ⟨rfl, rfl⟩⟩⟩⟩⟩)
  | bra a b =>
    exact .inr (.inr ⟨_, _, _, rfl, a, .inr ⟨_, rfl, .inr ⟨_, rfl,
      .inr ⟨_, rfl, b, .inr (.inl ⟨rfl, rfl⟩)⟩⟩⟩⟩)
  | nor a b c d =>
    exact .inr (.inr ⟨_, _, _, rfl, a, .inr ⟨_, rfl, .inr ⟨_, rfl,
      .inr ⟨_, rfl, b, .inr (.inr ⟨rfl, c, d⟩)⟩⟩⟩⟩)
theorem str_ne {x y : Str} (h : x ≠ y) : decide (V.str x = V.str y) = false :=
  decide_eq_false fun z => h (V.str.inj z)
section
variable {P : Program} {w : World} {K : PySem.W.Frag}
  {mg : Str → Option Value} {base : Heap} {C : Addr}
theorem ok_intV {f : Addr} {fd : FuncData} {k : Nat}
    (F : Fun K "is_integer" "is_integer" s_is_integer f fd)
    (B : Bl mg) (BI : BlI mg) :
    FnOk P w K mg base CX0 (k + 1) f fd ["value"] spIntV := by
  refine F.ok sc_is_integer (fun vs H Q E h => ?_)
    (fun cv A outer s H vs Q E hr h => ?_)
  · obtain ⟨v, rfl, _⟩ := h
    rfl
  obtain ⟨v, rfl, h⟩ := h
  refine ⟨_, pss_one (ps_ret (pe_and
    (pe_callB call_isi (by rfl) B.isi bt_isi (pa_cons (pv 0) (pa_cons
      (pe_bltn (v := .ty "int") (by rfl) BI.int bti_int rfl) pa_nil)))
    (pe_one (pe_not (pe_callB call_isi (by rfl) B.isi bt_isi (pa_cons (pv 0)
      (pa_cons (pe_bltn (v := .ty "bool") (by rfl) BI.bool bti_bool rfl)
        pa_nil))))))), ?_⟩
  rcases h with ⟨i, rfl, q⟩ | ⟨n, q⟩
  · refine ⟨_, rfl, _, _, _, _, true, rfl, .ty "int", .base (.int _),
      kit_ty (by decide +kernel), _, rfl, iteT ?_⟩
    exact ⟨_, rfl, _, _, _, _, false, rfl, .ty "bool", .base (.int _),
      kit_ty (by decide +kernel), _, rfl, q⟩
  cases n with
  | non =>
    exact ⟨_, rfl, _, _, _, _, false, rfl, .ty "int", .base .non,
      kit_ty (by decide +kernel), _, rfl, iteF q⟩
  | bl b =>
    refine ⟨_, rfl, _, _, _, _, true, rfl, .ty "int", .base (.bl _),
      kit_ty (by decide +kernel), _, rfl, iteT ?_⟩
    exact ⟨_, rfl, _, _, _, _, true, rfl, .ty "bool", .base (.bl _),
      kit_ty (by decide +kernel), _, rfl, q⟩
  | str x =>
    exact ⟨_, rfl, _, _, _, _, false, rfl, .ty "int", .base (.str _),
      kit_ty (by decide +kernel), _, rfl, iteF q⟩
theorem ok_fromV {f : Addr} {fd : FuncData} {k : Nat}
    (F : Fun K "is_integer_from" "is_integer_from" s_is_integer_from f fd)
    (Ci : Cal P w K mg base k "is_integer" ["value"] spIntV) :
    FnOk P w K mg base CX0 (k + 1) f fd ["value", "low", "high"]
      spFromV := by
  refine F.ok sc_is_integer_from (fun vs H Q E h => ?_)
    (fun cv A outer s H vs Q E hr h => ?_)
  · obtain ⟨v, lo, hi, rfl, _⟩ := h
    rfl
  obtain ⟨v, lo, hi, rfl, h⟩ := h
  refine ⟨_, pss_one (ps_ret (pe_and (pe_cal Ci hr (pa_cons (pv 0) pa_nil))
    (pe_one (pe_chain op_le op_le (pv 1) (pv 0) (pv 2))))), ?_⟩
  rcases h with ⟨v, rfl, q⟩ | ⟨n, q⟩
  · refine ⟨_, rfl, _, rfl, .inl ⟨v, rfl, _, rfl, iteT ?_⟩⟩
    refine ⟨_, rfl, _, rfl, _, _, rfl, rfl, _, rfl, ite2 (fun c => ?_)
      (fun c => ?_)⟩
    · refine ⟨_, rfl, _, _, rfl, rfl, ?_⟩
      have c' : lo ≤ v := of_decide_eq_true c
      rw [decide_eq_true c', Bool.true_and] at q
      exact q
    · have c' : ¬ lo ≤ v := fun z => c (decide_eq_true z)
      rw [decide_eq_false c', Bool.false_and] at q
      exact q
  · exact ⟨_, rfl, _, rfl, .inr ⟨n, _, rfl, iteF q⟩⟩
theorem ok_ismv {f : Addr} {fd : FuncData} {k : Nat} {tc tb : Tok}
    (F : Fun K "is_move" "is_move" s_is_move f fd) (B : Bl mg)
    (bT : mg "tuple" = none) (mC : mg "COMMUTE" = some (.str sCom tc))
    (mB : mg "BRAID" = some (.str sBra tb))
    (Cf : Cal P w K mg base k "is_integer_from" ["value", "low", "high"]
      spFromV)
    (Cc : Cal P w K mg base k "can_commute" ["word", "position"] (spCan true))
    (Cb : Cal P w K mg base k "can_braid" ["word", "position"] (spCan false)) :
    FnOk P w K mg base CX0 (k + 1) f fd ["word", "value"] (spIsMv K) := by
  refine F.ok sc_is_move (fun vs H Q E h => ?_)
    (fun cv A outer s H vs Q E hr h => ?_)
  · obtain ⟨a, v, ws, r, rfl, _⟩ := h
    rfl
  obtain ⟨a, v, ws, r, rfl, ha, hl, mv, q⟩ := h
  have nd := sc_is_move.nd
  refine ⟨_, pss_cons (ps_if (pt_mid (PW.pt (pw_or (pt_not (pt_val
      (pe_callB call_isi (by rfl) B.isi bt_isi (pa_cons (pv 1) (pa_cons
        (pe_bltn (v := .ty "tuple") (by rfl) bT bt_tupM rfl) pa_nil)))))
      (pw_or1 (pt_cmpR op_ne (pe_callB call_len_seq (by rfl) B.len
        PySem.boot_len (pa_cons (pv 1) pa_nil)) pe_int (nomark _))))))
      (pss_one (ps_ret pe_bl)) pss_nil)
    (pss_cons (ps_asg (pv 1) (pg_tup rfl
      (pgs_cons (pg_name (i := 2) nd rfl (.inl rfl))
      (pgs_cons (pg_name (i := 3) nd rfl (.inl rfl)) pgs_nil))))
    (pss_cons (ps_if (pt_mid (PW.pt (pw_or (pt_not (pt_val
        (pe_callB call_isi (by rfl) B.isi bt_isi (pa_cons (pv 2) (pa_cons
          (pe_bltn (v := .ty "str") (by rfl) B.str bt_str rfl) pa_nil)))))
      (pw_or1 (pt_not (pt_val (pe_cal Cf hr (pa_cons (pv 3) (pa_cons pe_int
        (pa_cons (pe_op op_sub (pe_callB call_len_seq (by rfl) B.len
          PySem.boot_len (pa_cons (pv 0) pa_nil)) pe_int) pa_nil))))))))))
      (pss_one (ps_ret pe_bl)) pss_nil)
    (pss_cons (ps_if (pt_cmpR op_eq (pv 2)
        (pe_glob (v := .str sCom) (by rfl) mC ⟨_, rfl⟩) (nomark _))
      (pss_one (ps_ret (pe_cal Cc hr (pa_cons (pv 0) (pa_cons (pv 3)
        pa_nil))))) pss_nil)
    (pss_one (ps_ret (pe_and (pe_cmpR op_eq (pv 2)
        (pe_glob (v := .str sBra) (by rfl) mB ⟨_, rfl⟩) (nomark _))
      (pe_one (pe_cal Cb hr (pa_cons (pv 0) (pa_cons (pv 3)
        pa_nil)))))))))), ?_⟩
  rcases mv.parts with ⟨rfl, t, ty, kt⟩ | ⟨rfl, t, xs, rfl, ht, hx⟩ |
    ⟨t, x, y, rfl, ht, mv2⟩
  · refine ⟨fun b H' => b = true ∧ H = H', ?_, ?_⟩
    · exact ⟨_, rfl, _, _, _, _, false, rfl, .ty "tuple", ty, kt, _, rfl,
        iteT ⟨rfl, rfl⟩⟩
    rintro _ _ ⟨rfl, rfl⟩
    exact iteT (q H (Same.refl H))
  · refine ⟨fun b H' => b = true ∧ H = H', ?_, ?_⟩
    · refine ⟨_, rfl, _, _, _, _, true, rfl, .ty "tuple", .base (.tup ht),
        kit_ty (by decide +kernel), _, rfl, iteF ?_⟩
      refine ⟨_, rfl, t, _, rfl, .inr (SqT.of ht), rfl, _, rfl, ?_, rfl⟩
      rw [decide_eq_false (fun z => hx (by
        have := V.int.inj z
        omega))]
      rfl
    rintro _ _ ⟨rfl, rfl⟩
    exact iteT (q H (Same.refl H))
  refine ⟨fun b H' => b = false ∧ H = H', ?_, ?_⟩
  · refine ⟨_, rfl, _, _, _, _, true, rfl, .ty "tuple", .base (.tup ht),
      kit_ty (by decide +kernel), _, rfl, iteF ?_⟩
    exact ⟨_, rfl, t, _, rfl, .inr (SqT.of ht), rfl, _, rfl, rfl, rfl⟩
  rintro _ _ ⟨rfl, rfl⟩
  refine iteF ⟨_, rfl, t, _, rfl, .inl (.inl ht), rfl, _, _, rfl, _, _, rfl, rfl,
    ?_⟩
  rcases mv2 with ⟨rfl, ty, a1, a2⟩ | ⟨sk, rfl, mv3⟩
  · refine ⟨fun b H' => b = true ∧ H = H', ?_, ?_⟩
    · exact ⟨_, rfl, _, _, _, _, false, rfl, .ty "str", a1, a2, _, rfl,
        iteT ⟨rfl, rfl⟩⟩
    rintro _ _ ⟨rfl, rfl⟩
    exact iteT (q H (Same.refl H))
  rcases mv3 with ⟨rfl, ni⟩ | ⟨i, rfl, mv4⟩
  · refine ⟨fun b H' => b = true ∧ H = H', ?_, ?_⟩
    · refine ⟨_, rfl, _, _, _, _, true, rfl, .ty "str", .base (.str _),
        kit_ty (by decide +kernel), _, rfl, iteF ?_⟩
      exact ⟨_, rfl, _, rfl, a, _, rfl, .inl (SqL.of ha), _, _, rfl, rfl, _, _, _,
        rfl, .inr ⟨ni, _, rfl, rfl, rfl⟩⟩
    rintro _ _ ⟨rfl, rfl⟩
    exact iteT (q H (Same.refl H))
  rcases mv4 with ⟨rfl, ni⟩ | ⟨k, rfl, hk, mv5⟩
  · refine ⟨fun b H' => b = true ∧ H = H', ?_, ?_⟩
    · refine ⟨_, rfl, _, _, _, _, true, rfl, .ty "str", .base (.str _),
        kit_ty (by decide +kernel), _, rfl, iteF ?_⟩
      refine ⟨_, rfl, _, rfl, a, _, rfl, .inl (SqL.of ha), _, _, rfl, rfl, _, _,
        _, rfl, .inl ⟨i, rfl, _, rfl, ?_, rfl⟩⟩
      rw [List.length_map, Bool.not_eq_true', Bool.and_eq_false_iff,
        decide_eq_false_iff_not, decide_eq_false_iff_not]
      omega
    rintro _ _ ⟨rfl, rfl⟩
    exact iteT (q H (Same.refl H))
  refine ⟨fun b H' => b = false ∧ H = H', ?_, ?_⟩
  · refine ⟨_, rfl, _, _, _, _, true, rfl, .ty "str", .base (.str _),
      kit_ty (by decide +kernel), _, rfl, iteF ?_⟩
    refine ⟨_, rfl, _, rfl, a, _, rfl, .inl (SqL.of ha), _, _, rfl, rfl, _, _,
      _, rfl, .inl ⟨_, rfl, _, rfl, ?_, rfl⟩⟩
    rw [List.length_map, decide_eq_true (show (0 : Int) ≤ (k : Int) by omega),
      decide_eq_true (show (k : Int) ≤ (ws.length : Int) - 1 by omega)]
    rfl
  rintro _ _ ⟨rfl, rfl⟩
  refine iteF ⟨_, rfl, rfl, _, rfl, ?_⟩
  rcases mv5 with ⟨rfl, rfl⟩ | ⟨rfl, rfl⟩ | ⟨rfl, n1, n2⟩
  · rw [decide_eq_true rfl]
    exact iteT ⟨_, rfl, _, rfl, a, ws, k, rfl, ha, hl, by omega, q⟩
  · rw [str_ne (show sBra ≠ sCom by decide)]
    refine iteF ⟨_, rfl, rfl, _, rfl, ?_⟩
    rw [decide_eq_true rfl]
    exact iteT ⟨_, rfl, _, rfl, a, ws, k, rfl, ha, hl, by omega, q⟩
  · rw [str_ne n1]
    refine iteF ⟨_, rfl, rfl, _, rfl, ?_⟩
    rw [str_ne n2]
    exact iteF (q H (Same.refl H))
end
end OM
namespace OM
open PySem PySem.Spec PyProof.Rows L2
/-- what the written part says of an error's class -/
structure XCl (K : PySem.W.Frag) (C : Addr) : Prop where
  ox : OexC K C
  xf : XfC K C
  ha : PySem.W.findIn K (.ref C) "__class__" =
    some (some (.builtin "object.__class__"))
  hn : PySem.W.specialIn K (.builtin "object.__class__") "__get__" =
    some (some (.builtin "getset_descriptor.__get__"))
  ht : PySem.W.takesIn K (.builtin "object.__class__") = some true
  hm : PySem.W.mroIn K C (.type "object") = some true
theorem ps_imp {X : Cx} {st : Stmt} {t t' : TS} (h : PS X st t)
    (i : ∀ D σ H, t' D σ H → t D σ H) : PS X st t' :=
  ⟨fun pins s σ H D I w => h.run pins s σ H D I (i D σ H w)⟩
/-- the promise of an error's __init__ of two fields -/
def spX2 (C : Addr) (f1 f2 : Str) : Sp := fun vs H Q _ =>
  ∃ (a : Addr) (v1 v2 : V), vs = [.ref a, v1, v2] ∧
  H a = some (exo a C none) ∧ ∀ dx, H dx = none → dx ≠ a →
    Q .non (upd (upd (upd H dx (exd dx [(f1, v1)])) a (exo a C (some dx))) dx
      (exd dx [(f2, v2), (f1, v1)]))
def spX1 (C : Addr) (f1 : Str) : Sp := fun vs H Q _ =>
  ∃ (a : Addr) (v1 : V), vs = [.ref a, v1] ∧
  H a = some (exo a C none) ∧ ∀ dx, H dx = none → dx ≠ a →
    Q .non (upd (upd H dx (exd dx [(f1, v1)])) a (exo a C (some dx)))
/-- a class whose error is raised, in one word -/
structure XMk (P : Program) (w : World) (K : PySem.W.Frag)
    (mg : Str → Option Value) (base : Heap) (C : Addr) (k : Nat) (x : Str)
    (ps : List Str) (sp : Sp) : Prop where
  mgC : mg x = some (.ref C)
  cl : XCl K C
  ex : ∃ f fd, FnOk P w K mg base CX0 k f fd ps sp ∧
    PySem.W.findIn K (.ref C) "__init__" = some (some (.ref f)) ∧
    PySem.W.typeIn K (.ref f) = some (.type "function") ∧ Binds K fd ps []
section
variable {X : Cx}
theorem pass0' {E : XK} : Passes CX0 X E := fun _ _ _ _ _ _ _ h => h.elim
/-- raise C(e1, e2) -/
def tRaise2 (C : Addr) (f1 f2 : Str) (W : WX) (ta : TA) : TS := fun _ σ H =>
  ta σ H fun vs H1 => ∃ v1 v2, vs = [v1, v2] ∧ ∀ d H', H1 d = none →
    H' d = some (.xd [(f2, v2), (f1, v1)]) → Same H1 H' →
    W (.ref C) (some d) σ H'
def tMidA (t : TA) : TA := fun σ H Q =>
  ∃ M : List V → Hp → Prop, t σ H M ∧ ∀ vs H', M vs H' → Q vs H'
theorem pa_mid {es : List Expr} {t : TA} (h : PA X es t) :
    PA X es (tMidA t) := by
  constructor
  intro pos pins s σ H Q I q
  obtain ⟨M, m, k⟩ := q
  refine thn (h.run pos pins s σ H M I m) ?_
  rintro u s1 ⟨v, H1, I1, r, z⟩
  exact ⟨v, H1, I1, r, k v H1 z⟩
theorem made_same {H : Hp} {a d : Addr} {C : Addr} {fs : List (Str × V)}
    {H2 : Hp} (na : H a = none) (nd : H d = none)
    (s : ∀ b o, H b = some o → H2 b = some o) :
    (upd (del H2 a) d (.xd fs)) d = some (.xd fs) ∧
    Same H (upd (del H2 a) d (.xd fs)) :=
  ⟨upd_same, fun b o e => by
    rw [upd_ne (ne_of_none e nd), del_ne (ne_of_none e na)]
    exact s b o e⟩
theorem ps_raise2 {C : Addr} {k : Nat} {x : Str} {ps : List Str}
    {f1 f2 : Str} {W : WX} {p pos pos2 : Pos} {e : Expr} {es : List Expr}
    {ta : TA} (M : XMk X.prog X.w X.K X.mg X.base C k x ps (spX2 C f1 f2))
    (room : Room (k + 1) X.A) (hc : X.calm = true) (tk : Takes X W)
    (ha : PA X (e :: es) ta) (hg : Gl X x := by rfl)
    (h1 : (x == ("__debug__" : Str)) = false := by decide)
    (h2 : starEach (e :: es) X.env =
      (false, eval e X.env) :: starEach es X.env := by rfl)
    (h3 : (backTo pos (starEach es X.env)).any (·.1) = false := by rfl) :
    PS X (.Raise (some (.Call (.Name x p) (e :: es) [] pos)) none pos2)
      (tRaise2 C f1 f2 W ta) := by
  obtain ⟨f, fd, F, iC, tI, b⟩ := M.ex
  refine ps_imp (ps_raise hc tk (pmk_oex M.cl.ox iC tI F room b .nil pass0' hg
    M.mgC (pa_mid ha) h1 h2 h3)) ?_
  intro D σ H h
  refine ⟨_, h, ?_⟩
  rintro vs H1 ⟨v1, v2, rfl, q⟩
  refine ⟨by simp, fun a na => ⟨a, v1, v2, rfl, upd_same, fun d nd ne => ?_⟩⟩
  have nd1 : H1 d = none := by rw [upd_ne ne] at nd; exact nd
  refine ⟨rfl, d, _, ?_, upd_same, nd1, ?_⟩
  · rw [upd_ne ne.symm, upd_same]
  · obtain ⟨e1, e2⟩ := made_same (C := C) (fs := [(f2, v2), (f1, v1)]) na nd1
      (H2 := upd (upd (upd (upd H1 a (exo a C none)) d (exd d [(f1, v1)])) a
        (exo a C (some d))) d (exd d [(f2, v2), (f1, v1)])) fun b o z => by
        rw [upd_ne (ne_of_none z nd1), upd_ne (ne_of_none z na),
          upd_ne (ne_of_none z nd1), upd_ne (ne_of_none z na)]
        exact z
    exact q d _ nd1 e1 e2
/-- raise C(e1) -/
def tRaise1 (C : Addr) (f1 : Str) (W : WX) (ta : TA) : TS := fun _ σ H =>
  ta σ H fun vs H1 => ∃ v1, vs = [v1] ∧ ∀ d H', H1 d = none →
    H' d = some (.xd [(f1, v1)]) → Same H1 H' → W (.ref C) (some d) σ H'
theorem ps_raise1 {C : Addr} {k : Nat} {x : Str} {ps : List Str}
    {f1 : Str} {W : WX} {p pos pos2 : Pos} {e : Expr} {es : List Expr}
    {ta : TA} (M : XMk X.prog X.w X.K X.mg X.base C k x ps (spX1 C f1))
    (room : Room (k + 1) X.A) (hc : X.calm = true) (tk : Takes X W)
    (ha : PA X (e :: es) ta) (hg : Gl X x := by rfl)
    (h1 : (x == ("__debug__" : Str)) = false := by decide)
    (h2 : starEach (e :: es) X.env =
      (false, eval e X.env) :: starEach es X.env := by rfl)
    (h3 : (backTo pos (starEach es X.env)).any (·.1) = false := by rfl) :
    PS X (.Raise (some (.Call (.Name x p) (e :: es) [] pos)) none pos2)
      (tRaise1 C f1 W ta) := by
  obtain ⟨f, fd, F, iC, tI, b⟩ := M.ex
  refine ps_imp (ps_raise hc tk (pmk_oex M.cl.ox iC tI F room b .nil pass0' hg
    M.mgC (pa_mid ha) h1 h2 h3)) ?_
  intro D σ H h
  refine ⟨_, h, ?_⟩
  rintro vs H1 ⟨v1, rfl, q⟩
  refine ⟨by simp, fun a na => ⟨a, v1, rfl, upd_same, fun d nd ne => ?_⟩⟩
  have nd1 : H1 d = none := by rw [upd_ne ne] at nd; exact nd
  refine ⟨rfl, d, [(f1, v1)], upd_same, ?_, nd1, ?_⟩
  · rw [upd_ne ne, upd_same]
  · obtain ⟨e1, e2⟩ := made_same (C := C) (fs := [(f1, v1)]) na nd1
      (H2 := upd (upd (upd H1 a (exo a C none)) d (exd d [(f1, v1)])) a
        (exo a C (some d))) fun b o z => by
        rw [upd_ne (ne_of_none z na), upd_ne (ne_of_none z nd1),
          upd_ne (ne_of_none z na)]
        exact z
    exact q d _ nd1 e1 e2
/-- the error that a suite holds -/
theorem suite_inst {a C dd : Addr} {oe : Obj} {pn : List (Addr × Obj)}
    {pins : List (Addr × Obj)} {σ : L2.St} {H : Hp} {s : Shared}
    {fs : List (Str × V)}
    (I : Inv (X.suite a ((a, oe) :: pn)) pins σ H s)
    (hz : Zc (.ref C) (some dd) oe) (hf : ∃ vs, oe.data = .fields vs)
    (hd : H dd = some (.xd fs)) :
    ∃ od, PySem.W.InstAt s.heap a oe C (some od) := by
  obtain ⟨ha, _⟩ := I.pin (a, oe) (List.mem_append_left _ List.mem_cons_self)
  obtain ⟨vs, hv⟩ := hf
  obtain ⟨mA, hns, _⟩ := (show ObjOk X.prog X.w H s.heap dd (.xd fs) from
    I.hok dd _ hd)
  obtain ⟨od, ho, _⟩ := lookIn_ns hns
  exact ⟨od, ha, hz.1, by unfold PySem.W.notCls; rw [hv] <;> rfl,
    by rw [hz.2]; exact ho⟩
def rIsX (K : PySem.W.Frag) (a : Addr) (cls : Value) (d : Option Addr) :
    List V → Hp → VK → Prop := fun xs H Q =>
  ∃ (C dd : Addr) (fs : List (Str × V)) (c : V) (cv : Value) (b : Bool),
    XCl K C ∧ cls = .ref C ∧ d = some dd ∧ H dd = some (.xd fs) ∧
    xs = [.ref a, c] ∧ ClsV c cv ∧
    PySem.W.kitOne K (.ref C) cv = some b ∧ Q (.bl b) H
theorem call_isX {a : Addr} {cls : Value} {d : Option Addr} {oe : Obj}
    {pn : List (Addr × Obj)} (hz : Zc cls d oe)
    (hf : ∃ vs, oe.data = .fields vs) :
    CallR (X.suite a ((a, oe) :: pn)) (.builtin "isinstance")
      (rIsX X.K a cls d) := by
  intro pins s σ H xs us Q I r h
  obtain ⟨C, dd, fs, c, cv, b, T, rfl, rfl, hd, rfl, k, e, q⟩ := h
  obtain ⟨u1, u2, rfl, r1, r2⟩ := vals2 r
  cases r1
  cases k.eq r2
  obtain ⟨od, J⟩ := suite_inst I hz hf hd
  obtain ⟨cd, hc, _⟩ := PySem.W.any_some T.xf.hdC
  exact PySem.W.kia_one (PySem.W.kitx_exc (by rw [hc]; rfl) T.xf.ga T.xf.gg
    T.xf.exC T.ha T.hn T.ht T.hm) I.kIn J e (fun z => nomatch z) fun tk =>
    ⟨.bl b, H, I.kept (t' := tk) fun _ _ z => z, rfl, q⟩
def rIsXT (K : PySem.W.Frag) (a : Addr) (cls : Value) (d : Option Addr) :
    List V → Hp → VK → Prop := fun xs H Q =>
  ∃ (C dd tp : Addr) (fs : List (Str × V)) (cs : List V) (us : List Value)
    (b : Bool), XCl K C ∧ cls = .ref C ∧ d = some dd ∧
    H dd = some (.xd fs) ∧ xs = [.ref a, .ref tp] ∧ H tp = some (.tup cs) ∧
    Paired ClsV cs us ∧ PySem.W.kitAny K (.ref C) us = some b ∧ Q (.bl b) H
theorem paired_eq : ∀ {cs : List V} {us vs : List Value},
    Paired ClsV cs us → Vals cs vs → vs = us
  | _, _, _, .nil, .nil => rfl
  | _, _, _, .cons h t, .cons r s => by
    rw [h.eq r, paired_eq t s]
theorem call_isXT {a : Addr} {cls : Value} {d : Option Addr} {oe : Obj}
    {pn : List (Addr × Obj)} (hz : Zc cls d oe)
    (hf : ∃ vs, oe.data = .fields vs) :
    CallR (X.suite a ((a, oe) :: pn)) (.builtin "isinstance")
      (rIsXT X.K a cls d) := by
  intro pins s σ H xs us Q I r h
  obtain ⟨C, dd, tp, fs, cs, vs, b, T, rfl, rfl, hd, rfl, ht, pr, e, q⟩ := h
  obtain ⟨u1, u2, rfl, r1, r2⟩ := vals2 r
  cases r1
  cases r2
  obtain ⟨od, J⟩ := suite_inst I hz hf hd
  obtain ⟨cd, hc, _⟩ := PySem.W.any_some T.xf.hdC
  obtain ⟨z, its, rv, ob, ho, hcl, n, hdt⟩ := I.hok tp _ ht
  cases paired_eq pr rv
  obtain ⟨oc, od', da, sl⟩ := ob
  dsimp only at hcl hdt
  subst hcl hdt
  exact PySem.W.kia_tup (PySem.W.kitx_exc (by rw [hc]; rfl) T.xf.ga T.xf.gg
    T.xf.exC T.ha T.hn T.ht T.hm) I.kIn J ho e (fun z => nomatch z) fun tk =>
    ⟨.bl b, H, I.kept (t' := tk) fun _ _ z => z, rfl, q⟩
end
end OM
namespace OM
open PySem PySem.Spec PyProof.Rows L2
/-! ### the first problem of a list -/
def tx : V → Option (List Nat)
  | .str x => some x.cps.toList
  | _ => none
def jd : List (List Nat) → Nat → List (Option (List Nat)) → Option (Str × Nat)
  | _, _, [] => none
  | _, i, none :: _ => some ("name", i)
  | seen, i, some l :: r =>
    if nmB l = true then
      if l ∈ seen then some ("duplicate", i) else jd (seen ++ [l]) (i + 1) r
    else some ("name", i)
def judge (xs : List V) : Option (Str × Nat) :=
  match jd [] 0 (xs.map tx) with
  | some r => some r
  | none => if 1 ≤ xs.length ∧ xs.length ≤ 40 then none else some ("count", 0)
/-- a value that is_name tells: a text, or one of another type -/
def Elt (K : PySem.W.Frag) (H : Hp) (v : V) : Prop :=
  (∃ l, v = vS l ∧ l.length ≤ 10000) ∨
  (∃ t, TyX K H v t ∧ PySem.W.kitOne K t (.type "str") = some false ∧
    tx v = none)
theorem TyOf.same {K : PySem.W.Frag} {H H' : Hp} {v : V} {t : Value}
    (h : TyOf K H v t) (s : Same H H') : TyOf K H' v t := by
  cases h with
  | non => exact .non
  | bl x => exact .bl x
  | int i => exact .int i
  | str x => exact .str x
  | flt x => exact .flt x
  | lst e => exact .lst (s _ _ e)
  | frz e => exact .frz (s _ _ e)
  | tup e => exact .tup (s _ _ e)
  | dK e => exact .dK (s _ _ e)
  | dT e => exact .dT (s _ _ e)
  | ins e cl ha hn ht hm => exact .ins (s _ _ e) cl ha hn ht hm
/-- the types that are asked about, and stay -/
def TyS (K : PySem.W.Frag) (H : Hp) (v : V) (t : Value) : Prop := TyOf K H v t
/-- InvalidBase leaves -/
def IbOut (C : Addr) (H : Hp) (E : XK) (r : Str × Nat) : Prop :=
  ∀ d H', H d = none → H' d = some (.xd [("position", .int (r.2 : Nat)),
    ("problem", .str r.1)]) → Same H H' → E (.ref C) (some d) H'
theorem IbOut.back {C : Addr} {H H1 : Hp} {E : XK} {r : Str × Nat}
    (h : IbOut C H E r) (s : Same H H1) : IbOut C H1 E r :=
  fun d H' n e s' => h d H' (s.free n) e (s.trans s')
def Elt1 (K : PySem.W.Frag) (H : Hp) (v : V) : Prop :=
  (∃ l, v = vS l ∧ l.length ≤ 10000) ∨
  (∃ t, TyOf K H v t ∧ PySem.W.kitOne K t (.type "str") = some false ∧
    tx v = none)
theorem Elt1.same {K : PySem.W.Frag} {H H' : Hp} {v : V}
    (h : Elt1 K H v) (s : Same H H') : Elt1 K H' v := by
  rcases h with h | ⟨t, a, b, c⟩
  · exact .inl h
  · exact .inr ⟨t, OM.TyOf.same a s, b, c⟩
/-- names_fault tells a problem -/
def NfOut (H : Hp) (Q : V → Hp → Prop) (r : Str × Nat) : Prop :=
  ∀ t H', H' t = some (.tup [.str r.1, .int (r.2 : Nat)]) → Same H H' →
    Q (.ref t) H'
theorem NfOut.back {H H1 : Hp} {Q : V → Hp → Prop} {r : Str × Nat}
    (h : NfOut H Q r) (s : Same H H1) : NfOut H1 Q r :=
  fun t H' e s' => h t H' e (s.trans s')
/-- names_fault, whatever it is given -/
def spNfX (K : PySem.W.Frag) : Sp := fun vs H Q _ =>
  ∃ v, vs = [v, .int 40] ∧
  ((∃ t, TyOf K H v t ∧ PySem.W.kitOne K t (.type "list") = some false ∧
      NfOut H Q ("list", 0)) ∨
   (∃ a xs, v = .ref a ∧ H a = some (.lst xs) ∧ (∀ x ∈ xs, Elt1 K H x) ∧
      xs.length ≤ 1000 ∧
      (∀ r, judge xs = some r → NfOut H Q r) ∧
      (judge xs = none → ∀ H', Same H H' → Q .non H')))
/-- check_items, whatever it is given -/
def spCheckX (K : PySem.W.Frag) (C : Addr) : Sp := fun vs H Q E =>
  ∃ v, vs = [v] ∧
  ((∃ t, TyOf K H v t ∧ PySem.W.kitOne K t (.type "list") = some false ∧
      IbOut C H E ("list", 0)) ∨
   (∃ a xs, v = .ref a ∧ H a = some (.lst xs) ∧ (∀ x ∈ xs, Elt1 K H x) ∧
      xs.length ≤ 1000 ∧
      (∀ r, judge xs = some r → IbOut C H E r) ∧
      (judge xs = none → ∀ H', Same H H' → Q .non H')))
theorem jd_step {ls : List (List Nat)} {l : List Nat} {i : Nat}
    {r : List (Option (List Nat))} (h1 : nmB l = true) (h2 : l ∉ ls) :
    jd ls i (some l :: r) = jd (ls ++ [l]) (i + 1) r := by
  show (if nmB l = true then _ else _) = _
  rw [if_pos h1, if_neg h2]
theorem drop_cons {α : Type} {xs : List α} {i : Nat} {x : α}
    (h : xs[i]? = some x) : xs.drop i = x :: xs.drop (i + 1) := by
  obtain ⟨hi, e⟩ := List.getElem?_eq_some_iff.mp h
  rw [List.drop_eq_getElem_cons hi, e]
section
variable {P : Program} {w : World} {K : PySem.W.Frag}
  {mg : Str → Option Value} {base : Heap} {CI : Addr}
/-- self.problem = problem; self.position = position -/
theorem ok_ibinit {f : Addr} {fd : FuncData} {k : Nat} {q : Str}
    (F : Fun K "__init__" q s_InvalidBase_init f fd) (T : OexC K CI)
    (n1 : PySem.W.findIn K (.ref CI) "problem" = some none)
    (n2 : PySem.W.findIn K (.ref CI) "position" = some none) :
    FnOk P w K mg base CX0 (k + 1) f fd ["self", "problem", "position"]
      (spX2 CI "problem" "position") := by
  refine F.ok sc_InvalidBase_init (fun vs H Q E h => ?_)
    (fun cv A outer s H vs Q E hr h => ?_)
  · obtain ⟨a, v1, v2, rfl, _⟩ := h
    rfl
  obtain ⟨a, v1, v2, rfl, ha, q⟩ := h
  refine ⟨_, pss_cons (ps_ost (pv 0) (pv 1)) (pss_one (ps_ost (pv 0) (pv 2))),
    ?_⟩
  refine ⟨_, rfl, _, rfl, a, CI, rfl, T, n1, .inl ⟨ha, fun dx nd ne => ?_⟩⟩
  refine ⟨_, rfl, _, rfl, a, CI, rfl, T, n2, .inr ⟨dx,
    [("problem", v1)], upd_same, ?_, ?_, ?_⟩⟩
  · rw [upd_ne ne, upd_same]
  · simp
  · exact q dx nd ne
theorem ok_nfaultX {f : Addr} {fd : FuncData} {k : Nat}
    (F : Fun K "names_fault" "names_fault" s_names_fault f fd) (B : Bl mg)
    (C : CalIsName P w K mg base k) :
    FnOk P w K mg base CX0 (k + 1) f fd ["value", "most"] (spNfX K) := by
  refine F.ok sc_names_fault (fun vs H Q E h => ?_)
    (fun cv A outer s H vs Q E hr h => ?_)
  · obtain ⟨v, rfl, _⟩ := h
    rfl
  obtain ⟨v, rfl, h⟩ := h
  have nd := sc_names_fault.nd
  refine ⟨_, pss_cons (ps_if (pt_not (pt_val
      (pe_callB call_isi (by rfl) B.isi bt_isi (pa_cons (pv 0) (pa_cons
        (pe_bltn (v := .ty "list") (by rfl) B.list bt_list rfl) pa_nil)))))
      (pss_one (ps_ret (pe_tup (pa_cons pe_str (pa_cons pe_int pa_nil))))) pss_nil)
    (pss_cons (ps_set (i := 2) nd rfl (.inl rfl)
      (pe_callTy0 cr_set0K (by rfl) B.set bt_set))
    (pss_cons (ps_for PassesOwn.never rfl
      (pi_enum (by rfl) B.enum (pa_cons (pv 0) pa_nil))
      (pg_tup rfl (pgs_cons (pg_name (i := 3) nd rfl (.inl rfl))
        (pgs_cons (pg_name (i := 4) nd rfl (.inl rfl)) pgs_nil)))
      (pss_cons (ps_if (pt_not (pt_val (pe_cal C hr (pa_cons (pv 4) pa_nil))))
        (pss_one (ps_ret (pe_tup (pa_cons pe_str (pa_cons (pv 3) pa_nil))))) pss_nil)
      (pss_cons (ps_if (pt_cmpR or_sinK (pv 4) (pv 2) (by rfl))
        (pss_one (ps_ret (pe_tup (pa_cons pe_str (pa_cons (pv 3) pa_nil))))) pss_nil)
      (pss_one (ps_expr (pe_saddK (pv 2) (pa_cons (pv 4) pa_nil)))))))
    (pss_cons (ps_if (pt_mid (pt_not (pt_chain op_le op_le pe_int
        (pe_callB call_len_seq (by rfl) B.len PySem.boot_len
          (pa_cons (pv 0) pa_nil)) (pv 1))))
      (pss_one (ps_ret (pe_tup (pa_cons pe_str (pa_cons pe_int pa_nil)))))
      pss_nil) (pss_one (ps_ret pe_non))))), ?_⟩
  rcases h with ⟨t, ty, kt, out⟩ | ⟨a, xs, rfl, ha, el, hx, bad, good⟩
  · refine ⟨_, rfl, _, _, _, _, false, rfl, .ty "list", .base ty, kt, _, rfl,
      iteT ⟨sz (by simp), fun t nt => ?_⟩⟩
    exact out t _ upd_same (sameNew nt)
  refine ⟨_, rfl, _, _, _, _, true, rfl, .ty "list", .base (.lst ha),
    kit_ty (by decide +kernel), _, rfl, iteF ?_⟩
  refine ⟨rfl, fun sn nsn => ?_⟩
  have nas : a ≠ sn := ne_of_none ha nsn
  have ha1 : (upd H sn (SetK P w sn (fun _ => false) 0)) a = some (.lst xs) := by
    rw [upd_ne nas]; exact ha
  refine ⟨_, rfl, a, _, rfl, SqL.of ha1, ?_⟩
  refine for_it (walk_enum (K := K) (a := a) (xs := xs))
    (fun i σ H' => ∃ (ls : List (List Nat)) (S : Key → Bool) (n : Nat)
      (y z : Option V),
      σ = [some (.ref a), some (.int 40), some (.ref sn), y, z] ∧ n ≤ i ∧ ls.length = i ∧
      xs.take i = ls.map vS ∧ (∀ l ∈ ls, nmB l = true) ∧
      jd [] 0 (xs.map tx) = jd ls i ((xs.drop i).map tx) ∧
      (∀ l, S (Sum.inr (SX.S l)) = decide (l ∈ ls)) ∧
      H' sn = some (SetK P w sn S n) ∧ H' a = some (.lst xs) ∧ Same H H')
    ⟨[], fun _ => false, 0, none, none, rfl, Nat.le_refl _, rfl, rfl, nofun, rfl,
      fun l => by simp, upd_same, ha1, sameNew nsn⟩
    (fun i σ H' _ z => by
      obtain ⟨_, _, _, _, _, _, _, _, _, _, _, _, _, h, _⟩ := z
      exact SqL.of h)
    ?_ ?_
  · rintro i v σ H1 H2 hi ⟨ls, S, n, y, z, rfl, hn, ll, tk, nml, jde, hS, hs,
      ha2, sm⟩ ⟨T, x1, x2, rfl, nT, rfl, e1, e2⟩
    cases Option.some.inj e1
    have nTs : sn ≠ T := ne_of_none hs nT
    have nTa : a ≠ T := ne_of_none ha2 nT
    have sm1 : Same H (upd H1 T (.tup [.int (i : Nat), x2])) :=
      sm.trans (sameNew nT)
    have dc := drop_cons e2
    rw [dc, List.map_cons] at jde
    have judg : ∀ r, jd ls i (tx x2 :: (xs.drop (i + 1)).map tx) = some r →
        judge xs = some r := fun r hr => by
      unfold judge
      rw [jde, hr]
    have hname : ∀ H3, Same (upd H1 T (.tup [.int (i : Nat), x2])) H3 →
        jd ls i (tx x2 :: (xs.drop (i + 1)).map tx) = some (("name" : Str), i) →
        NfOut H3 Q ("name", i) := fun H3 s3 hj =>
      (bad _ (judg _ hj)).back (sm1.trans s3)
    refine ⟨T, _, rfl, .inl (.inl upd_same), rfl, _, _, rfl, _, _, rfl, rfl,
      ?_⟩
    rcases (el x2 (List.mem_of_getElem? e2)) with ⟨l, rfl, hl⟩ | ⟨t, ty, kt, tn⟩
    · have ell : (SX.S l).length ≤ sizeLine := by
        rw [SX.S_len]; exact sz (by omega)
      refine ⟨_, rfl, _, rfl, .inl ⟨_, rfl, ell, fun H3 s3 => ?_⟩⟩
      have hs3 : H3 sn = some (SetK P w sn S n) :=
        s3 _ _ (by rw [upd_ne nTs]; exact hs)
      have ha3 : H3 a = some (.lst xs) :=
        s3 _ _ (by rw [upd_ne nTa]; exact ha2)
      cases nb : nmB l with
      | false =>
        refine ⟨_, rfl, iteT ⟨_, rfl, sz (by simp), fun t nt => ?_⟩⟩
        refine hname H3 s3 ?_ t _ upd_same (sameNew nt)
        show (if nmB l = true then _ else _) = _
        rw [if_neg (by rw [nb]; exact Bool.false_ne_true)]
      | true =>
        refine ⟨_, rfl, iteF ?_⟩
        refine ⟨_, rfl, _, rfl, Sum.inr (SX.S l), sn, S, n, rfl, rfl, hs3, _, rfl,
          ?_⟩
        by_cases ml : l ∈ ls
        · have st : S (Sum.inr (SX.S l)) = true := by
            rw [hS]; exact decide_eq_true ml
          rw [st]
          refine iteT ⟨_, rfl, sz (by simp), fun t nt => ?_⟩
          refine (bad ("duplicate", i) (judg _ ?_)).back (sm1.trans s3) t _
            upd_same (sameNew nt)
          show (if nmB l = true then _ else _) = _
          rw [if_pos nb, if_pos ml]
        · have sf : S (Sum.inr (SX.S l)) = false := by
            rw [hS]; exact decide_eq_false ml
          rw [sf]
          refine iteF ?_
          refine ⟨_, rfl, ⟨sn, S, n, rfl, hs3⟩, _, rfl, sn, Sum.inr (SX.S l), S,
            n, rfl, rfl, hs3, ?_, ?_⟩
          · show n + 1 < 4096
            omega
          refine ⟨ls ++ [l], _, _, _, _, rfl, ?_, ?_, ?_, ?_, ?_, ?_, upd_same,
            ?_, ?_⟩
          · rw [sf]
            show n + 1 ≤ i + 1
            omega
          · rw [List.length_append, ll]
            rfl
          · rw [List.take_add_one, show xs[i]? = some (vS l) from e2, tk,
              List.map_append]
            rfl
          · intro x hx
            rcases List.mem_append.mp hx with h | h
            · exact nml x h
            · rw [List.mem_singleton.mp h]
              exact nb
          · rw [jde]
            exact jd_step nb ml
          · intro l'
            show (S (Sum.inr (SX.S l')) || decide ((Sum.inr (SX.S l') : Key) =
              Sum.inr (SX.S l))) = _
            rw [hS]
            by_cases e : l' = l
            · subst e
              simp
            · have : ¬ ((Sum.inr (SX.S l') : Key) = Sum.inr (SX.S l)) :=
                fun z => e (SX.S_inj (Sum.inr.inj z))
              rw [decide_eq_false this, Bool.or_false]
              refine decide_eq_decide.mpr ?_
              rw [List.mem_append]
              constructor
              · exact Or.inl
              · rintro (z | z)
                · exact z
                · exact absurd (List.mem_singleton.mp z) e
          · rw [upd_ne nas]
            exact ha3
          · exact OM.Same.put (sm1.trans s3) nsn
    · refine ⟨_, rfl, _, rfl, .inr ⟨t, .base (OM.TyOf.same ty sm1), kt, ?_⟩⟩
      refine ⟨_, rfl, iteT ⟨_, rfl, sz (by simp), fun t nt => ?_⟩⟩
      refine hname _ (Same.refl _) ?_ t _ upd_same (sameNew nt)
      rw [tn]
      rfl
  · rintro σ H1 ⟨ls, S, n, y, z, rfl, hn, ll, tk, nml, jde, hS, hs, ha2, sm⟩
    rw [List.drop_length] at jde
    have jn : jd [] 0 (xs.map tx) = none := jde
    refine ⟨fun b H' => b = !(decide (1 ≤ xs.length) && decide (xs.length ≤ 40))
      ∧ H1 = H', ?_, ?_⟩
    · refine ⟨_, rfl, a, _, rfl, .inl (SqL.of ha2), _, _, rfl, rfl, _, rfl,
        ite2 (fun c => ?_) (fun c => ?_)⟩
      · have c' : (1 : Int) ≤ xs.length := of_decide_eq_true c
        refine ⟨_, rfl, _, _, rfl, rfl, _, rfl, ?_, rfl⟩
        rw [decide_eq_true (show 1 ≤ xs.length by omega), Bool.true_and]
        congr 1
        exact decide_eq_decide.mpr ⟨fun z => by omega, fun z => by omega⟩
      · refine ⟨_, rfl, ?_, rfl⟩
        rw [decide_eq_false (show ¬ 1 ≤ xs.length from fun z =>
          c (decide_eq_true (by omega)))]
        rfl
    · rintro b _ ⟨rfl, rfl⟩
      by_cases c : 1 ≤ xs.length ∧ xs.length ≤ 40
      · rw [decide_eq_true c.1, decide_eq_true c.2]
        refine iteF (good ?_ H1 sm)
        unfold judge
        rw [jn]
        exact if_pos c
      · have e : (decide (1 ≤ xs.length) && decide (xs.length ≤ 40)) = false := by
          by_cases c1 : 1 ≤ xs.length
          · rw [decide_eq_false (show ¬ xs.length ≤ 40 from fun z => c ⟨c1, z⟩)]
            exact Bool.and_false _
          · rw [decide_eq_false c1]
            exact Bool.false_and _
        rw [e]
        refine iteT ⟨sz (by simp), fun t nt => ?_⟩
        refine (bad ("count", 0) ?_).back sm t _ upd_same (sameNew nt)
        unfold judge
        rw [jn]
        exact if_neg c
theorem ok_checkX {f : Addr} {fd : FuncData} {k j : Nat}
    (F : Fun K "check_items" "check_items" s_check_items f fd)
    (Cf : Cal P w K mg base k "names_fault" ["value", "most"] (spNfX K))
    (M : XMk P w K mg base CI j "InvalidBase"
      ["self", "problem", "position"] (spX2 CI "problem" "position"))
    (hj : j + 1 ≤ k)
    {t40 : Tok} (m40 : mg "MAX_ITEMS" = some (.int 40 t40)) :
    FnOk P w K mg base (L2.CX P w) (k + 1) f fd ["items"]
      (spCheckX K CI) := by
  refine Fun.okX F sc_check_items (fun vs H Q E h => ?_)
    (fun cv A outer s H vs Q E hr h => ?_)
  · obtain ⟨v, rfl, _⟩ := h
    rfl
  obtain ⟨v, rfl, h⟩ := h
  have nd := sc_check_items.nd
  have hrj := hr.mono hj
  refine ⟨_, pss_cons (ps_set (i := 1) nd rfl (.inl rfl)
      (pe_cal Cf hr (pa_cons (pv 0) (pa_cons
        (pe_glob (v := .int 40) (by rfl) m40 ⟨_, rfl⟩) pa_nil))))
    (pss_one (ps_if (pt_cmpR op_notN (pv 1) pe_non (nomark _))
      (pss_cons (ps_asg (pv 1) (pg_tup rfl
        (pgs_cons (pg_name (i := 2) nd rfl (.inl rfl))
        (pgs_cons (pg_name (i := 3) nd rfl (.inl rfl)) pgs_nil))))
      (pss_one (ps_raise2 M hrj rfl (takes_of rfl rfl rfl rfl)
        (pa_cons (pv 2) (pa_cons (pv 3) pa_nil))))) pss_nil)), ?_⟩
  refine ⟨_, rfl, v, rfl, ?_⟩
  rcases h with ⟨t, ty, kt, out⟩ | ⟨a, xs, rfl, ha, el, hx, bad, good⟩
  · exact .inl ⟨t, ty, kt, fun T H1 e s => ⟨_, rfl, rfl, _, rfl, iteT ⟨_, rfl,
      T, _, rfl, .inl (.inl e), rfl, _, _, rfl, _, _, rfl, rfl, _, rfl, _, rfl,
      _, _, rfl, fun d H' n e' s' => out d H' (s.free n) e' (s.trans s')⟩⟩⟩
  · exact .inr ⟨a, xs, rfl, ha, el, hx, fun r hr T H1 e s => ⟨_, rfl, rfl, _,
      rfl, iteT ⟨_, rfl, T, _, rfl, .inl (.inl e), rfl, _, _, rfl, _, _, rfl, rfl,
      _, rfl, _, rfl, _, _, rfl, fun d H' n e' s' =>
      bad r hr d H' (s.free n) e' (s.trans s')⟩⟩,
      fun jn H1 s1 => ⟨_, rfl, rfl, _, rfl, iteF (good jn H1 s1)⟩⟩
end
end OM
namespace OM
open PySem PySem.Spec PyProof.Rows L2
def sMv (c : Bool) : Str := if c then sCom else sBra
/-- a move, as a pair -/
def MvAt (H : Hp) (t : Addr) (c : Bool) (k : Nat) : Prop :=
  H t = some (.tup [.str (sMv c), .int (k : Int)])
def spMvd : Sp := fun vs H Q _ =>
  ∃ (a t : Addr) (ws : List Nat) (c : Bool) (k : Nat), vs = [.ref a, .ref t] ∧
  H a = some (.lst (vIs ws)) ∧ ws.length ≤ 1000 ∧ MvAt H t c k ∧
  IsMv ws c k ∧ ∀ q H', H q = none → H' q = some (.lst (vIs (mvd ws c k))) →
    Same H H' → Q (.ref q) H'
def spApply (C : Addr) : Sp := fun vs H Q _ =>
  ∃ (b a t : Addr) (ls : List (List Nat)) (ws : List Nat) (c : Bool) (k : Nat),
  vs = [.ref b, .ref a, .ref t] ∧ WordAt C H b a ls ws ∧ MvAt H t c k ∧
  IsMv ws c k ∧ ∀ q H', H q = none → H' q = some (.lst (vIs (mvd ws c k))) →
    Same H H' → Q (.ref q) H'
/-- what is no move is refused -/
def spApplyX (K : PySem.W.Frag) (C CM : Addr) : Sp := fun vs H Q E =>
  ∃ (b a : Addr) (v : V) (ls : List (List Nat)) (ws : List Nat),
  vs = [.ref b, .ref a, v] ∧ WordAt C H b a ls ws ∧
  (∀ H', Same H H' → MvV K H' ws v false) ∧
  ∀ d H', H d = none → H' d = some (.xd [("value", v)]) → Same H H' →
    E (.ref CM) (some d) H'
section
variable {P : Program} {w : World} {K : PySem.W.Frag}
  {mg : Str → Option Value} {base : Heap} {C CM : Addr}
theorem ok_moved {f : Addr} {fd : FuncData} {k : Nat} {tc : Tok}
    (F : Fun K "moved" "moved" s_moved f fd)
    (mC : mg "COMMUTE" = some (.str sCom tc)) :
    FnOk P w K mg base CX0 (k + 1) f fd ["word", "move"] spMvd := by
  refine F.ok sc_moved (fun vs H Q E h => ?_)
    (fun cv A outer s H vs Q E hr h => ?_)
  · obtain ⟨a, t, ws, c, k, rfl, _⟩ := h
    rfl
  obtain ⟨a, t, ws, c, k, rfl, ha, hl, ht, m, q⟩ := h
  have nd := sc_moved.nd
  refine ⟨_, pss_cons (ps_asg (pv 1) (pg_tup rfl
      (pgs_cons (pg_name (i := 2) nd rfl (.inl rfl))
      (pgs_cons (pg_name (i := 3) nd rfl (.inl rfl)) pgs_nil))))
    (pss_cons (ps_par (i := 4) (j := 5) (by rfl) nd rfl rfl (by decide) rfl rfl
      (pa_cons (pe_ix ix_list (pv 0) (pv 3) (fun _ _ => rfl))
        (pa_cons (pe_ix ix_list (pv 0) (pe_op op_add (pv 3) pe_int)
          (fun _ _ => rfl)) pa_nil)) (by rfl))
    (pss_cons (ps_if (pt_cmpR op_eq (pv 2)
        (pe_glob (v := .str sCom) (by rfl) mC ⟨_, rfl⟩) (nomark _))
      (pss_one (ps_ret (pe_op op_cat (pe_op op_cat
        (pe_slice sl_list (pv 0) po_none (po_some (pv 3)))
        (pe_lst (pa_cons (pv 5) (pa_cons (pv 4) pa_nil))))
        (pe_slice sl_list (pv 0) (po_some (pe_op op_add (pv 3) pe_int))
          po_none)))) pss_nil)
    (pss_one (ps_ret (pe_op op_cat (pe_op op_cat
      (pe_slice sl_list (pv 0) po_none (po_some (pv 3)))
      (pe_lst (pa_cons (pv 5) (pa_cons (pv 4) (pa_cons (pv 5) pa_nil)))))
      (pe_slice sl_list (pv 0) (po_some (pe_op op_add (pv 3) pe_int))
        po_none)))))), ?_⟩
  have k2 : k + 2 ≤ ws.length := by
    cases c with
    | true =>
      obtain ⟨z, _⟩ : k + 2 ≤ ws.length ∧ _ := m
      exact z
    | false =>
      obtain ⟨z, _⟩ : k + 3 ≤ ws.length ∧ _ := m
      omega
  refine ⟨_, rfl, t, _, rfl, .inl (.inl ht), rfl, _, _, rfl, _, _, rfl, rfl, ?_⟩
  refine ⟨_, rfl, _, rfl, a, _, _, _, rfl, rfl, SqL.of ha, atI_nat (j := k)
    (vat (by omega)), _, rfl, _, rfl, _, _, rfl, rfl, a, _, _, _, rfl, rfl,
    SqL.of ha, atI_nat (j := k + 1) (vat (by omega)), _, _, rfl, ?_⟩
  refine ⟨_, rfl, rfl, _, rfl, ?_⟩
  cases c with
  | true =>
    rw [show decide (V.str (sMv true) = V.str sCom) = true from
      decide_eq_true rfl]
    refine iteT ⟨_, rfl, _, rfl, ((k : Nat) : Int), rfl, a, _, rfl, SqL.of ha,
      fun t1 n1 => ?_⟩
    rw [cut_to _ (by rw [List.length_map]; omega), ← List.map_take]
    have z1 := sameNew (o := .lst (vIs (ws.take k))) n1
    have g1 : (upd H t1 (.lst (vIs (ws.take k)))) t1 =
      some (.lst (vIs (ws.take k))) := upd_same
    generalize upd H t1 (.lst (vIs (ws.take k))) = H1 at z1 g1 ⊢
    refine ⟨_, rfl, _, rfl, sz (by simp), fun t2 n2 => ?_⟩
    have e2 : [V.int ((ws.getD (k + 1) 0 : Nat) : Int),
        V.int ((ws.getD k 0 : Nat) : Int)] =
        vIs [ws.getD (k + 1) 0, ws.getD k 0] := rfl
    rw [e2]
    have z2 := sameNew (o := .lst (vIs [ws.getD (k + 1) 0, ws.getD k 0])) n2
    have g2 : (upd H1 t2 (.lst (vIs [ws.getD (k + 1) 0, ws.getD k 0]))) t2 =
      some (.lst (vIs [ws.getD (k + 1) 0, ws.getD k 0])) := upd_same
    generalize upd H1 t2 (.lst (vIs [ws.getD (k + 1) 0, ws.getD k 0])) = H2
      at z2 g2 ⊢
    refine ⟨t1, t2, _, _, rfl, rfl, z2 _ _ g1, g2, ?_, fun t3 n3 => ?_⟩
    · simp only [List.length_map, List.length_take, List.length_cons,
        List.length_nil]
      exact sz (by omega)
    rw [← List.map_append]
    have z3 := sameNew (o := .lst (vIs (ws.take k ++
      [ws.getD (k + 1) 0, ws.getD k 0]))) n3
    have g3 : (upd H2 t3 (.lst (vIs (ws.take k ++
      [ws.getD (k + 1) 0, ws.getD k 0])))) t3 = some (.lst (vIs (ws.take k ++
      [ws.getD (k + 1) 0, ws.getD k 0]))) := upd_same
    generalize upd H2 t3 (.lst (vIs (ws.take k ++
      [ws.getD (k + 1) 0, ws.getD k 0]))) = H3 at z3 g3 ⊢
    have s3 := (z1.trans z2).trans z3
    refine ⟨_, rfl, _, rfl, _, _, rfl, rfl, ((k + 2 : Nat) : Int), rfl, a, _, rfl,
      SqL.of (s3 _ _ ha), fun t4 n4 => ?_⟩
    rw [cut_from _ (by rw [List.length_map]; omega), ← List.map_drop]
    have z4 := sameNew (o := .lst (vIs (ws.drop (k + 2)))) n4
    have g4 : (upd H3 t4 (.lst (vIs (ws.drop (k + 2))))) t4 =
      some (.lst (vIs (ws.drop (k + 2)))) := upd_same
    generalize upd H3 t4 (.lst (vIs (ws.drop (k + 2)))) = H4 at z4 g4 ⊢
    refine ⟨t3, t4, _, _, rfl, rfl, z4 _ _ g3, g4, ?_, fun t5 n5 => ?_⟩
    · simp only [List.length_map, List.length_take, List.length_drop,
        List.length_append, List.length_cons, List.length_nil]
      exact sz (by omega)
    have s4 := s3.trans z4
    refine q t5 _ (s4.free n5) ?_ (s4.trans (sameNew n5))
    rw [upd_same, ← List.map_append]
    rfl
  | false =>
    have k3 : k + 3 ≤ ws.length := by
      obtain ⟨z, _⟩ : k + 3 ≤ ws.length ∧ _ := m
      omega
    rw [show decide (V.str (sMv false) = V.str sCom) = false from
      str_ne (show sBra ≠ sCom by decide)]
    refine iteF ⟨_, rfl, _, rfl, ((k : Nat) : Int), rfl, a, _, rfl, SqL.of ha,
      fun t1 n1 => ?_⟩
    rw [cut_to _ (by rw [List.length_map]; omega), ← List.map_take]
    have z1 := sameNew (o := .lst (vIs (ws.take k))) n1
    have g1 : (upd H t1 (.lst (vIs (ws.take k)))) t1 =
      some (.lst (vIs (ws.take k))) := upd_same
    generalize upd H t1 (.lst (vIs (ws.take k))) = H1 at z1 g1 ⊢
    refine ⟨_, rfl, _, rfl, _, rfl, sz (by simp), fun t2 n2 => ?_⟩
    have e2 : [V.int ((ws.getD (k + 1) 0 : Nat) : Int),
        V.int ((ws.getD k 0 : Nat) : Int),
        V.int ((ws.getD (k + 1) 0 : Nat) : Int)] =
        vIs [ws.getD (k + 1) 0, ws.getD k 0, ws.getD (k + 1) 0] := rfl
    rw [e2]
    generalize hm : [ws.getD (k + 1) 0, ws.getD k 0, ws.getD (k + 1) 0] = mid
    have lm : mid.length = 3 := by rw [← hm]; rfl
    have z2 := sameNew (o := .lst (vIs mid)) n2
    have g2 : (upd H1 t2 (.lst (vIs mid))) t2 = some (.lst (vIs mid)) :=
      upd_same
    generalize upd H1 t2 (.lst (vIs mid)) = H2 at z2 g2 ⊢
    refine ⟨t1, t2, _, _, rfl, rfl, z2 _ _ g1, g2, ?_, fun t3 n3 => ?_⟩
    · simp only [List.length_map, List.length_take]
      exact sz (by omega)
    rw [← List.map_append]
    have z3 := sameNew (o := .lst (vIs (ws.take k ++ mid))) n3
    have g3 : (upd H2 t3 (.lst (vIs (ws.take k ++ mid)))) t3 =
      some (.lst (vIs (ws.take k ++ mid))) := upd_same
    generalize upd H2 t3 (.lst (vIs (ws.take k ++ mid))) = H3 at z3 g3 ⊢
    have s3 := (z1.trans z2).trans z3
    refine ⟨_, rfl, _, rfl, _, _, rfl, rfl, ((k + 3 : Nat) : Int), rfl, a, _, rfl,
      SqL.of (s3 _ _ ha), fun t4 n4 => ?_⟩
    rw [cut_from _ (by rw [List.length_map]; omega), ← List.map_drop]
    have z4 := sameNew (o := .lst (vIs (ws.drop (k + 3)))) n4
    have g4 : (upd H3 t4 (.lst (vIs (ws.drop (k + 3))))) t4 =
      some (.lst (vIs (ws.drop (k + 3)))) := upd_same
    generalize upd H3 t4 (.lst (vIs (ws.drop (k + 3)))) = H4 at z4 g4 ⊢
    refine ⟨t3, t4, _, _, rfl, rfl, z4 _ _ g3, g4, ?_, fun t5 n5 => ?_⟩
    · simp only [List.length_map, List.length_take, List.length_drop,
        List.length_append]
      exact sz (by omega)
    have s4 := s3.trans z4
    refine q t5 _ (s4.free n5) ?_ (s4.trans (sameNew n5))
    rw [upd_same, ← List.map_append, ← hm]
    rfl
theorem MvAt.mv {H : Hp} {t : Addr} {c : Bool} {k : Nat} {ws : List Nat}
    (h : MvAt H t c k) (m : IsMv ws c k) : MvV K H ws (.ref t) true := by
  have e := mvB_is.mpr m
  rw [← e]
  cases c with
  | true =>
    obtain ⟨z, _⟩ : k + 2 ≤ ws.length ∧ _ := m
    exact .com h (by omega)
  | false =>
    obtain ⟨z, _⟩ : k + 3 ≤ ws.length ∧ _ := m
    exact .bra h (by omega)
theorem ok_apply {f : Addr} {fd : FuncData} {k : Nat}
    (F : Fun K "apply_move" "apply_move" s_apply_move f fd)
    (Cc : Cal P w K mg base k "check_word" ["base", "word"] (spWF C))
    (Ci : Cal P w K mg base k "is_move" ["word", "value"] (spIsMv K))
    (Cm : Cal P w K mg base k "moved" ["word", "move"] spMvd) :
    FnOk P w K mg base CX0 (k + 1) f fd ["base", "word", "move"]
      (spApply C) := by
  refine F.ok sc_apply_move (fun vs H Q E h => ?_)
    (fun cv A outer s H vs Q E hr h => ?_)
  · obtain ⟨b, a, t, ls, ws, c, k, rfl, _⟩ := h
    rfl
  obtain ⟨b, a, t, ls, ws, c, k, rfl, wo, mt, m, q⟩ := h
  refine ⟨_, pss_cons (ps_expr (pe_cal Cc hr (pa_cons (pv 0)
      (pa_cons (pv 1) pa_nil))))
    (pss_cons (ps_if (pt_not (pt_val (pe_cal Ci hr (pa_cons (pv 1) (pa_cons
      (pv 2) pa_nil))))) (pss_one ps_never) pss_nil)
    (pss_one (ps_ret (pe_cal Cm hr (pa_cons (pv 1) (pa_cons (pv 2)
      pa_nil)))))), ?_⟩
  refine ⟨_, rfl, _, rfl, b, a, ls, ws, rfl, wo, fun H1 s1 => ?_⟩
  refine ⟨_, rfl, _, rfl, a, _, ws, true, rfl, s1 _ _ wo.li, wo.hi,
    MvAt.mv (s1 _ _ mt) m, fun H2 s2 => ⟨_, rfl, iteF ?_⟩⟩
  have s12 := s1.trans s2
  exact ⟨_, rfl, _, rfl, a, t, ws, c, k, rfl, s12 _ _ wo.li, wo.hi,
    s12 _ _ mt, m, fun o H3 no ho s3 => q o H3 (s12.free no) ho
      (s12.trans s3)⟩
theorem ok_applyX {f : Addr} {fd : FuncData} {k j : Nat}
    (F : Fun K "apply_move" "apply_move" s_apply_move f fd)
    (Cc : Cal P w K mg base k "check_word" ["base", "word"] (spWF C))
    (Ci : Cal P w K mg base k "is_move" ["word", "value"] (spIsMv K))
    (Cm : Cal P w K mg base k "moved" ["word", "move"] spMvd)
    (M : XMk P w K mg base CM j "InvalidMove" ["self", "value"]
      (spX1 CM "value")) (hj : j + 1 ≤ k) :
    FnOk P w K mg base (L2.CX P w) (k + 1) f fd ["base", "word", "move"]
      (spApplyX K C CM) := by
  refine Fun.okX F sc_apply_move (fun vs H Q E h => ?_)
    (fun cv A outer s H vs Q E hr h => ?_)
  · obtain ⟨b, a, v, ls, ws, rfl, _⟩ := h
    rfl
  obtain ⟨b, a, v, ls, ws, rfl, wo, mv, q⟩ := h
  have hrj := hr.mono hj
  refine ⟨_, pss_cons (ps_expr (pe_cal Cc hr (pa_cons (pv 0)
      (pa_cons (pv 1) pa_nil))))
    (pss_cons (ps_if (pt_not (pt_val (pe_cal Ci hr (pa_cons (pv 1) (pa_cons
      (pv 2) pa_nil))))) (pss_one (ps_raise1 M hrj rfl
        (takes_of rfl rfl rfl rfl) (pa_cons (pv 2) pa_nil))) pss_nil)
    (pss_one (ps_ret (pe_cal Cm hr (pa_cons (pv 1) (pa_cons (pv 2)
      pa_nil)))))), ?_⟩
  refine ⟨_, rfl, _, rfl, b, a, ls, ws, rfl, wo, fun H1 s1 => ?_⟩
  refine ⟨_, rfl, _, rfl, a, v, ws, false, rfl, s1 _ _ wo.li, wo.hi, mv H1 s1,
    fun H2 s2 => ⟨_, rfl, iteT ?_⟩⟩
  have s12 := s1.trans s2
  exact ⟨_, rfl, _, rfl, fun d H' n e' s' => q d H' (s12.free n) e'
    (s12.trans s')⟩
end
end OM
/-! xs[a:c] = ys, as a statement -/
namespace OM
open PySem PySem.Spec PyProof.Rows L2
def sSlSet (td : TE) (tl th : TO) (tv : TE) : TS := fun D σ H =>
  tv σ H fun v H1 => td σ H1 fun x H2 => tl σ H2 fun y H3 => th σ H3 fun z H4 =>
    ∃ (l b : Addr) (xs ys : List V) (a c : Nat), v = .ref b ∧ x = .ref l ∧
      y = some (a : Int) ∧ z = some (c : Int) ∧ H4 l = some (.lst xs) ∧
      H4 b = some (.lst ys) ∧ l ≠ b ∧ a ≤ c ∧ c ≤ xs.length ∧
      xs.length + ys.length ≤ sizeLine ∧
      D.nx σ (upd H4 l (.lst (xs.take a ++ ys ++ xs.drop c)))
theorem ps_slset {X : Cx} {o value : Expr} {lo hi : Option Expr} {td tv : TE}
    {tl th : TO} {p2 pos' pos : Pos} (hv : PE X value tv) (ho : PE X o td)
    (hl : PO X lo tl) (hh : PO X hi th)
    (hs : swapsWith value (some (.Subscript o (.Slice lo hi none p2) pos'))
      pos.line X.env = pure false := by rfl) :
    PS X (.Assign [.Subscript o (.Slice lo hi none p2) pos'] value pos)
      (sSlSet td tl th tv) := by
  constructor
  intro pins s σ H D I q
  refine wpAny_Assign_Subscript ?_ hs
  refine thn (hv.run pins s σ H _ I q) ?_
  rintro rv s1 ⟨v, H1, I1, r1, q1⟩
  refine thn (ho.run pins s1 σ H1 _ I1 q1) ?_
  rintro ro s2 ⟨x, H2, I2, r2, q2⟩
  refine wpAny_Slice ?_
  refine thn (hl.run pins s2 σ H2 _ I2 q2) ?_
  rintro va s3 ⟨y, H3, I3, pa, q3⟩
  refine thn (hh.run pins s3 σ H3 _ I3 q3) ?_
  rintro vc s4 ⟨z, H4, I4, pc, l, b, xs, ys, a, c, rfl, rfl, rfl, rfl, e1, e2, ne,
    h1, h2, h3, q4⟩
  rw [evalPart_none]
  refine wpAny_pure ?_
  cases r1
  cases r2
  have sl := Heap.IsSliceOf.new s4.heap va vc .none
  have I5 := I4.kept (t' := s4.toks) fun (i : Addr) (ob : Obj) g =>
    Heap.get?_push_of_some
      { cls := .type "slice", data := .fields (#[va, vc, .none] : Array Value) }
      g
  cases pa
  cases pc
  refine set_slice I5 e1 e2 ne sl ⟨_, rfl⟩ ⟨_, rfl⟩ (by omega) (by omega)
    (by omega) h3 fun s' I' => ⟨σ, _, I', ?_⟩
  rw [Int.toNat_natCast, Int.toNat_natCast]
  exact q4
end OM
namespace OM
open PySem PySem.Spec PyProof.Rows L2
abbrev Mv := Bool × Nat
def mvT (ws : List Nat) (c : Bool) (n : Nat) : List Mv :=
  ((List.range n).filter fun k => mvB ws c k).map fun k => (c, k)
/-- the moves of a word, as the law lists them -/
def mvs (ws : List Nat) : List Mv :=
  mvT ws true (ws.length - 1) ++ mvT ws false (ws.length - 2)
theorem mvT_snoc (ws : List Nat) (c : Bool) (n : Nat) :
    mvT ws c (n + 1) = mvT ws c n ++ if mvB ws c n = true then [(c, n)] else [] := by
  unfold mvT
  rw [List.range_succ, List.filter_append, List.map_append]
  congr 1
  by_cases h : mvB ws c n = true
  · rw [if_pos h, List.filter_cons_of_pos h]
    rfl
  · rw [if_neg h, List.filter_cons_of_neg h]
    rfl
theorem mvs_is {ws : List Nat} {m : Mv} : m ∈ mvs ws ↔ IsMv ws m.1 m.2 := by
  obtain ⟨c, k⟩ := m
  rw [← mvB_is]
  unfold mvs mvT
  rw [List.mem_append, List.mem_map, List.mem_map]
  constructor
  · rintro (⟨x, hx, e⟩ | ⟨x, hx, e⟩)
    · cases e
      exact (List.mem_filter.mp hx).2
    · cases e
      exact (List.mem_filter.mp hx).2
  · intro h
    have i := mvB_is.mp h
    cases c with
    | true =>
      obtain ⟨z, _⟩ : k + 2 ≤ ws.length ∧ _ := i
      exact .inl ⟨k, List.mem_filter.mpr ⟨List.mem_range.mpr (by omega), h⟩, rfl⟩
    | false =>
      obtain ⟨z, _⟩ : k + 3 ≤ ws.length ∧ _ := i
      exact .inr ⟨k, List.mem_filter.mpr ⟨List.mem_range.mpr (by omega), h⟩, rfl⟩
theorem mvT_len (ws : List Nat) (c : Bool) (n : Nat) :
    (mvT ws c n).length ≤ n := by
  unfold mvT
  rw [List.length_map]
  refine Nat.le_trans (List.length_filter_le _ _) ?_
  rw [List.length_range]
  exact Nat.le_refl _
def MvsAt (H : Hp) (rs : List Addr) (ms : List Mv) : Prop :=
  Paired (fun r m => MvAt H r m.1 m.2) rs ms
theorem MvsAt.same {H H' : Hp} {rs : List Addr} {ms : List Mv}
    (a : MvsAt H rs ms) (s : Same H H') : MvsAt H' rs ms :=
  Paired.mono (fun _ _ y => s _ _ y) a
theorem MvsAt.len {H : Hp} {rs : List Addr} {ms : List Mv}
    (a : MvsAt H rs ms) : rs.length = ms.length := Paired.length a
theorem MvsAt.add {H : Hp} {r t : Addr} {rs : List Addr} {ms : List Mv}
    {c : Bool} {k : Nat} {xs ys : List V} (a : MvsAt H rs ms)
    (h : MvAt H t c k) (hr : H r = some (.lst xs)) :
    MvsAt (upd H r (.lst ys)) (rs ++ [t]) (ms ++ [(c, k)]) := by
  refine Paired.snoc (Paired.mono (fun _ _ y => ?_) a) ?_
  · show upd H r (.lst ys) _ = _
    rw [upd_ne (ne_of y hr nofun)]
    exact y
  · show upd H r (.lst ys) _ = _
    rw [upd_ne (ne_of h hr nofun)]
    exact h
theorem set2 {α : Type} {a b : α} : ∀ (xs : List α) (k : Nat),
    k + 2 ≤ xs.length → (xs.set k a).set (k + 1) b =
      xs.take k ++ [a, b] ++ xs.drop (k + 2)
  | [], k, h => absurd h (by simp)
  | [x], k, h => absurd h (by simp)
  | x :: y :: r, 0, _ => rfl
  | x :: y :: r, k + 1, h => by
    have ih := set2 (a := a) (b := b) (y :: r) k (by simpa using h)
    show x :: ((y :: r).set k a).set (k + 1) b = x :: _
    rw [ih]
    rfl
theorem ixN_n {n j : Nat} (h : j < n) : ixN n (j : Int) = some j := by
  unfold ixN
  rw [if_pos (by omega), if_pos (by omega), Int.toNat_natCast]
def spLMoves : Sp := fun vs H Q _ =>
  ∃ (a : Addr) (ws : List Nat), vs = [.ref a] ∧ H a = some (.lst (vIs ws)) ∧
  ws.length ≤ 1000 ∧ ∀ q rs H', H q = none →
    H' q = some (.lst (rs.map V.ref)) → MvsAt H' rs (mvs ws) → Same H H' →
    Q (.ref q) H'
def spLMoved : Sp := fun vs H Q _ =>
  ∃ (a t : Addr) (ws : List Nat) (c : Bool) (k : Nat), vs = [.ref a, .ref t] ∧
  H a = some (.lst (vIs ws)) ∧ ws.length ≤ 1000 ∧ MvAt H t c k ∧
  IsMv ws c k ∧ ∀ q H', H q = none → H' q = some (.lst (vIs (mvd ws c k))) →
    Same H H' → Q (.ref q) H'
section
variable {P : Program} {w : World} {K : PySem.W.Frag}
  {mg : Str → Option Value} {base : Heap} {C CM : Addr}
theorem ok_lmoves {f : Addr} {fd : FuncData} {k : Nat}
    (F : Fun K "_law_moves" "_law_moves" s_Lmoves f fd) (B : Bl mg) :
    FnOk P w K mg base CX0 (k + 1) f fd ["_law_word"] spLMoves := by
  refine F.ok sc_Lmoves (fun vs H Q E h => ?_)
    (fun cv A outer s H vs Q E hr h => ?_)
  · obtain ⟨a, ws, rfl, _⟩ := h
    rfl
  obtain ⟨a, ws, rfl, ha, hl, q⟩ := h
  have nd := sc_Lmoves.nd
  refine ⟨_, pss_cons (ps_set (i := 1) nd rfl (.inl rfl) (pe_lst pa_nil))
    (C8.pss_cut (ps_for PassesOwn.never rfl
      (pi_range1 (by rfl) B.range (pa_cons (pe_op op_sub
        (pe_callB call_len_seq (by rfl) B.len PySem.boot_len
          (pa_cons (pv 0) pa_nil)) pe_int) pa_nil))
      (pg_name (i := 2) nd rfl (.inl rfl))
      (pss_one (ps_if (pt_cmpR op_gt (pe_callB call_abs (by rfl) B.abs bt_abs
          (pa_cons (pe_op op_sub (pe_ix ix_list (pv 0) (pv 2) (fun _ _ => rfl))
            (pe_ix ix_list (pv 0) (pe_op op_add (pv 2) pe_int)
              (fun _ _ => rfl))) pa_nil)) pe_int (nomark _))
        (pss_one (ps_expr (pe_bm PySem.F.plainAttrs_list
          PySem.F.slot_list_append PySem.F.type_list_append mt_append (pv 1)
          (pa_cons (pe_tup (pa_cons pe_str (pa_cons (pv 2) pa_nil)))
            pa_nil)))) pss_nil)))
    (C8.pss_cut (ps_for PassesOwn.never rfl
      (pi_range1 (by rfl) B.range (pa_cons (pe_op op_sub
        (pe_callB call_len_seq (by rfl) B.len PySem.boot_len
          (pa_cons (pv 0) pa_nil)) pe_int) pa_nil))
      (pg_name (i := 2) nd rfl (.inl rfl))
      (pss_one (ps_if (PW.pt (pw_and (pt_cmpR op_eq
          (pe_ix ix_list (pv 0) (pv 2) (fun _ _ => rfl))
          (pe_ix ix_list (pv 0) (pe_op op_add (pv 2) pe_int)
            (fun _ _ => rfl)) (nomark _))
        (pw_and1 (pt_cmpR op_eq (pe_callB call_abs (by rfl) B.abs bt_abs
          (pa_cons (pe_op op_sub (pe_ix ix_list (pv 0) (pv 2) (fun _ _ => rfl))
            (pe_ix ix_list (pv 0) (pe_op op_add (pv 2) pe_int)
              (fun _ _ => rfl))) pa_nil)) pe_int (nomark _)))))
        (pss_one (ps_expr (pe_bm PySem.F.plainAttrs_list
          PySem.F.slot_list_append PySem.F.type_list_append mt_append (pv 1)
          (pa_cons (pe_tup (pa_cons pe_str (pa_cons (pv 2) pa_nil)))
            pa_nil)))) pss_nil)))
    (pss_one (ps_ret (pv 1))))), ?_⟩
  refine ⟨sz (by simp), fun r nr => ?_⟩
  have a1 := sameNew (o := .lst []) nr _ _ ha
  have s1 := sameNew (o := .lst []) nr
  have g1 : (upd H r (.lst [])) r = some (.lst []) := upd_same
  generalize upd H r (.lst []) = H1 at a1 s1 g1 ⊢
  refine ⟨fun σ' H' => ∃ y rs, σ' = [some (.ref a), some (.ref r), y] ∧
    H' r = some (.lst (rs.map V.ref)) ∧
    MvsAt H' rs (mvT ws true (ws.length - 1)) ∧ Same H H', ?_, ?_⟩
  · refine ⟨_, rfl, a, _, rfl, .inl (SqL.of a1), _, _, rfl, rfl, _, rfl, ?_, ?_,
      ?_⟩
    · rw [List.length_map]
      omega
    · rw [List.length_map]
      omega
    rw [List.length_map,
      show (((ws.length : Nat) : Int) - 1).toNat = ws.length - 1 by omega]
    refine for_range (lo := 0) (n := ws.length - 1) (fun i σ H' =>
      ∃ (y : Option V) (rs : List Addr), σ = [some (.ref a), some (.ref r), y] ∧
        H' r = some (.lst (rs.map V.ref)) ∧ MvsAt H' rs (mvT ws true i) ∧
        Same H H')
      ⟨none, [], rfl, g1, .nil, s1⟩ ?_ ?_
    · rintro i σ H2 hi ⟨y, rs, rfl, hr2, ms, s2⟩
      rw [Int.zero_add]
      have a2 := s2 _ _ ha
      have ll := ms.len
      have lm := mvT_len ws true i
      have qq := mvT_snoc ws true i
      have bb : mvB ws true i = decide (ws.getD i 0 + 1 < ws.getD (i + 1) 0 ∨
          ws.getD (i + 1) 0 + 1 < ws.getD i 0) := by
        unfold mvB
        rw [if_pos rfl, decide_eq_true (show i + 2 ≤ ws.length by omega),
          Bool.true_and]
      refine ⟨_, rfl, _, rfl, a, _, _, _, rfl, rfl, SqL.of a2, atI_nat (j := i)
        (vat (by omega)), _, rfl, _, rfl, _, _, rfl, rfl, a, _, _, _, rfl, rfl,
        SqL.of a2, atI_nat (j := i + 1) (vat (by omega)), _, _, rfl, rfl, _, rfl,
        _, _, rfl, rfl, _, rfl, ite2 (fun z => ?_) (fun z => ?_)⟩
      · have mb : mvB ws true i = true := by
          rw [bb, ← abs_gt]
          exact z
        refine ⟨_, rfl, .inl ⟨rfl, _, SqL.of hr2⟩, _, rfl, sz (by simp),
          fun t nt => ?_⟩
        have z3 := sameNew (o := .tup [.str sCom, .int (i : Int)]) nt
        have g3 : (upd H2 t (.tup [.str sCom, .int (i : Int)])) t =
          some (.tup [.str sCom, .int (i : Int)]) := upd_same
        have e3 : upd H2 t (.tup [.str (Str.ofString "commute"),
          .int (i : Int)]) = upd H2 t (.tup [.str sCom, .int (i : Int)]) := rfl
        generalize upd H2 t (.tup [.str sCom, .int (i : Int)]) = H3
          at z3 g3 e3 ⊢
        have hr3 := z3 _ _ hr2
        refine ⟨r, _, _, rfl, rfl, hr3, ?_, _, rs ++ [t], rfl, ?_, ?_,
          OM.Same.put (s2.trans z3) nr⟩
        · rw [List.length_map]
          exact sz' (by omega)
        · rw [upd_same, List.map_append]
          rfl
        · rw [qq, if_pos mb]
          exact (ms.same z3).add (c := true) (k := i) g3 hr3
      · have mb : ¬ mvB ws true i = true := fun y => z (by
          rw [bb, ← abs_gt] at y
          exact y)
        refine ⟨_, rs, rfl, hr2, ?_, s2⟩
        rw [qq, if_neg mb, List.append_nil]
        exact ms
    · rintro σ H2 ⟨y, rs, rfl, hr2, ms, s2⟩
      exact ⟨y, rs, rfl, hr2, ms, s2⟩
  rintro _ H2 ⟨y, rs, rfl, hr2, ms, s2⟩
  have lb := mvT_len ws true (ws.length - 1)
  refine ⟨fun σ' H' => ∃ y rs, σ' = [some (.ref a), some (.ref r), y] ∧
    H' r = some (.lst (rs.map V.ref)) ∧ MvsAt H' rs (mvs ws) ∧ Same H H', ?_, ?_⟩
  · refine ⟨_, rfl, a, _, rfl, .inl (SqL.of (s2 _ _ ha)), _, _, rfl, rfl, _, rfl,
      ?_, ?_, ?_⟩
    · rw [List.length_map]
      omega
    · rw [List.length_map]
      omega
    rw [List.length_map,
      show (((ws.length : Nat) : Int) - 2).toNat = ws.length - 2 by omega]
    refine for_range (lo := 0) (n := ws.length - 2) (fun i σ H' =>
      ∃ (y : Option V) (rs : List Addr), σ = [some (.ref a), some (.ref r), y] ∧
        H' r = some (.lst (rs.map V.ref)) ∧
        MvsAt H' rs (mvT ws true (ws.length - 1) ++ mvT ws false i) ∧
        Same H H')
      ⟨y, rs, rfl, hr2, by
        rw [show mvT ws false 0 = [] from rfl, List.append_nil]; exact ms, s2⟩
      ?_ ?_
    · clear hr2 ms s2
      rintro i σ H2 hi ⟨y, rs, rfl, hr2, ms, s2⟩
      rw [Int.zero_add]
      have a2 := s2 _ _ ha
      have ll := ms.len
      rw [List.length_append] at ll
      have lm := mvT_len ws false i
      have qq := mvT_snoc ws false i
      have bb : mvB ws false i = (decide (ws.getD i 0 = ws.getD (i + 2) 0) &&
          decide (ws.getD i 0 + 1 = ws.getD (i + 1) 0 ∨
          ws.getD (i + 1) 0 + 1 = ws.getD i 0)) := by
        unfold mvB
        rw [if_neg (by decide), decide_eq_true (show i + 3 ≤ ws.length by omega),
          Bool.true_and]
      have no : mvB ws false i = false → MvsAt H2 rs
          (mvT ws true (ws.length - 1) ++ mvT ws false (i + 1)) := fun z => by
        rw [qq, if_neg (by rw [z]; decide), List.append_nil]
        exact ms
      refine ⟨_, rfl, _, rfl, a, _, _, _, rfl, rfl, SqL.of a2, atI_nat (j := i)
        (vat (by omega)), _, rfl, _, rfl, _, _, rfl, rfl, a, _, _, _, rfl, rfl,
        SqL.of a2, atI_nat (j := i + 2) (vat (by omega)), rfl, _, rfl, ?_⟩
      by_cases c2 : ws.getD i 0 = ws.getD (i + 2) 0
      · rw [decide_eq_true (show V.int ((ws.getD i 0 : Nat) : Int) =
          V.int ((ws.getD (i + 2) 0 : Nat) : Int) by rw [c2])]
        rw [decide_eq_true c2, Bool.true_and] at bb
        refine iteT ⟨_, rfl, _, rfl, a, _, _, _, rfl, rfl, SqL.of a2,
          atI_nat (j := i) (vat (by omega)), _, rfl, _, rfl, _, _, rfl, rfl, a,
          _, _, _, rfl, rfl, SqL.of a2, atI_nat (j := i + 1) (vat (by omega)), _,
          _, rfl, rfl, _, rfl, rfl, _, rfl, ite2 (fun z => ?_) (fun z => ?_)⟩
        · have mb : mvB ws false i = true := by
            rw [bb, ← abs_one]
            exact z
          refine ⟨_, rfl, .inl ⟨rfl, _, SqL.of hr2⟩, _, rfl, sz (by simp),
            fun t nt => ?_⟩
          have z3 := sameNew (o := .tup [.str sBra, .int (i : Int)]) nt
          have g3 : (upd H2 t (.tup [.str sBra, .int (i : Int)])) t =
            some (.tup [.str sBra, .int (i : Int)]) := upd_same
          generalize upd H2 t (.tup [.str sBra, .int (i : Int)]) = H3
            at z3 g3 ⊢
          have hr3 := z3 _ _ hr2
          refine ⟨r, _, _, rfl, rfl, hr3, ?_, _, rs ++ [t], rfl, ?_, ?_,
            OM.Same.put (s2.trans z3) nr⟩
          · rw [List.length_map]
            exact sz' (by omega)
          · rw [upd_same, List.map_append]
            rfl
          · rw [qq, if_pos mb, ← List.append_assoc]
            exact (ms.same z3).add (c := false) (k := i) g3 hr3
        · refine ⟨_, rs, rfl, hr2, no ?_, s2⟩
          rw [bb, ← abs_one]
          exact Bool.eq_false_iff.mpr z
      · rw [decide_eq_false (show ¬ V.int ((ws.getD i 0 : Nat) : Int) =
          V.int ((ws.getD (i + 2) 0 : Nat) : Int) from fun z => c2 (by
            have := V.int.inj z
            omega))]
        refine iteF ⟨_, rs, rfl, hr2, no ?_, s2⟩
        rw [bb, decide_eq_false c2, Bool.false_and]
    · rintro σ H2 ⟨y, rs, rfl, hr2, ms, s2⟩
      exact ⟨y, rs, rfl, hr2, ms, s2⟩
  clear hr2 ms s2
  rintro _ H2 ⟨y, rs, rfl, hr2, ms, s2⟩
  exact ⟨_, rfl, q r rs H2 nr hr2 ms s2⟩
theorem ok_lmoved {f : Addr} {fd : FuncData} {k : Nat}
    (F : Fun K "_law_moved" "_law_moved" s_Lmoved f fd) (B : Bl mg) :
    FnOk P w K mg base CX0 (k + 1) f fd ["_law_word", "_law_move"]
      spLMoved := by
  refine F.ok sc_Lmoved (fun vs H Q E h => ?_)
    (fun cv A outer s H vs Q E hr h => ?_)
  · obtain ⟨a, t, ws, c, k, rfl, _⟩ := h
    rfl
  obtain ⟨a, t, ws, c, k, rfl, ha, hl, ht, m, q⟩ := h
  have nd := sc_Lmoved.nd
  refine ⟨_, pss_cons (ps_par (i := 2) (j := 3) (by rfl) nd rfl rfl (by decide)
      rfl rfl
      (pa_cons (pe_callTy call_list_of (by rfl) B.list bt_list (pa_cons (pv 0)
        pa_nil)) (pa_cons (pe_ix ix_tup (pv 1) pe_int (fun _ _ => rfl))
        pa_nil)) (by rfl))
    (pss_cons (ps_if (pt_cmpR op_eq (pe_ix ix_tup (pv 1) pe_int
        (fun _ _ => rfl)) pe_str (nomark _))
      (pss_one (ps_asg (pe_tup (pa_cons
          (pe_ix ix_list (pv 2) (pe_op op_add (pv 3) pe_int) (fun _ _ => rfl))
          (pa_cons (pe_ix ix_list (pv 2) (pv 3) (fun _ _ => rfl)) pa_nil)))
        (pg_tup rfl (pgs_cons (pg_sub (pv 2) (pv 3) set_list)
          (pgs_cons (pg_sub (pv 2) (pe_op op_add (pv 3) pe_int) set_list)
            pgs_nil)))))
      (pss_one (ps_slset (pe_lst (pa_cons
          (pe_ix ix_list (pv 0) (pe_op op_add (pv 3) pe_int) (fun _ _ => rfl))
          (pa_cons (pe_ix ix_list (pv 0) (pv 3) (fun _ _ => rfl)) (pa_cons
          (pe_ix ix_list (pv 0) (pe_op op_add (pv 3) pe_int) (fun _ _ => rfl))
          pa_nil))))
        (pv 2) (po_some (pv 3)) (po_some (pe_op op_add (pv 3) pe_int)))))
    (pss_one (ps_ret (pv 2)))), ?_⟩
  have k2 : k + 2 ≤ ws.length := by
    cases c with
    | true =>
      obtain ⟨z, _⟩ : k + 2 ≤ ws.length ∧ _ := m
      exact z
    | false =>
      obtain ⟨z, _⟩ : k + 3 ≤ ws.length ∧ _ := m
      omega
  refine ⟨_, rfl, a, _, rfl, .inl (SqL.of ha), fun r nr => ?_⟩
  have s1 := sameNew (o := .lst (vIs ws)) nr
  have g1 : (upd H r (.lst (vIs ws))) r = some (.lst (vIs ws)) := upd_same
  generalize upd H r (.lst (vIs ws)) = H1 at s1 g1 ⊢
  have t1 := s1 _ _ ht
  have a1 := s1 _ _ ha
  refine ⟨_, rfl, t, _, 1, _, rfl, rfl, SqT.of t1, rfl, _, _, rfl, ?_⟩
  refine ⟨_, rfl, t, _, 0, _, rfl, rfl, SqT.of t1, rfl, rfl, _, rfl, ?_⟩
  have l2 : (vIs ws).length = ws.length := List.length_map ..
  cases c with
  | true =>
    refine iteT ⟨_, rfl, _, rfl, _, _, rfl, rfl, r, _, _, _, rfl, rfl, SqL.of g1,
      atI_nat (j := k + 1) (vat (by omega)), _, rfl, _, rfl, r, _, _, _, rfl,
      rfl, SqL.of g1, atI_nat (j := k) (vat (by omega)), sz (by simp),
      fun t2 n2 => ?_⟩
    have s2 := sameNew (o := .tup [.int ((ws.getD (k + 1) 0 : Nat) : Int),
      .int ((ws.getD k 0 : Nat) : Int)]) n2
    have g2 : (upd H1 t2 (.tup [.int ((ws.getD (k + 1) 0 : Nat) : Int),
      .int ((ws.getD k 0 : Nat) : Int)])) t2 = some (.tup
      [.int ((ws.getD (k + 1) 0 : Nat) : Int),
      .int ((ws.getD k 0 : Nat) : Int)]) := upd_same
    generalize upd H1 t2 (.tup [.int ((ws.getD (k + 1) 0 : Nat) : Int),
      .int ((ws.getD k 0 : Nat) : Int)]) = H2 at s2 g2 ⊢
    refine ⟨t2, _, rfl, .inl (.inl g2), rfl, _, _, rfl, _, rfl, _, rfl, r,
      _, k, k, rfl, rfl, s2 _ _ g1, ixN_n (by omega), _, _, rfl, _, rfl, _, rfl,
      _, _, rfl, rfl, r, _, ((k + 1 : Nat) : Int), k + 1, rfl, rfl, upd_same,
      ?_, rfl, ?_⟩
    · exact ixN_n (by rw [List.length_set]; omega)
    have b2 : But r H1 (upd (upd H2 r (.lst ((vIs ws).set k
        (.int ((ws.getD (k + 1) 0 : Nat) : Int))))) r (.lst (((vIs ws).set k
        (.int ((ws.getD (k + 1) 0 : Nat) : Int))).set (k + 1)
        (.int ((ws.getD k 0 : Nat) : Int))))) := ((But.of s2).at).at
    refine ⟨_, rfl, q r _ nr ?_ ?_⟩
    · rw [upd_same, set2 _ _ (by omega), ← List.map_take, ← List.map_drop]
      show _ = some (HO.lst (vIs (ws.take k ++ [ws.getD (k + 1) 0,
        ws.getD k 0] ++ ws.drop (k + 2))))
      unfold vIs
      rw [List.map_append, List.map_append]
      rfl
    · exact fun y o e => b2 y o (s1 _ _ e) (ne_of_none e nr)
  | false =>
    have k3 : k + 3 ≤ ws.length := by
      obtain ⟨z, _⟩ : k + 3 ≤ ws.length ∧ _ := m
      omega
    refine iteF ⟨_, rfl, _, rfl, _, _, rfl, rfl, a, _, _, _, rfl, rfl, SqL.of a1,
      atI_nat (j := k + 1) (vat (by omega)), _, rfl, _, rfl, a, _, _, _, rfl,
      rfl, SqL.of a1, atI_nat (j := k) (vat (by omega)), _, rfl, _, rfl, _, _,
      rfl, rfl, a, _, _, _, rfl, rfl, SqL.of a1, atI_nat (j := k + 1)
      (vat (by omega)), sz (by simp), fun t2 n2 => ?_⟩
    have e2 : [V.int ((ws.getD (k + 1) 0 : Nat) : Int),
        V.int ((ws.getD k 0 : Nat) : Int),
        V.int ((ws.getD (k + 1) 0 : Nat) : Int)] =
        vIs [ws.getD (k + 1) 0, ws.getD k 0, ws.getD (k + 1) 0] := rfl
    rw [e2]
    generalize hm : [ws.getD (k + 1) 0, ws.getD k 0, ws.getD (k + 1) 0] = mid
    have lm : mid.length = 3 := by rw [← hm]; rfl
    have s2 := sameNew (o := .lst (vIs mid)) n2
    have g2 : (upd H1 t2 (.lst (vIs mid))) t2 = some (.lst (vIs mid)) :=
      upd_same
    have ne2 : r ≠ t2 := ne_of_none g1 n2
    generalize upd H1 t2 (.lst (vIs mid)) = H2 at s2 g2 ⊢
    refine ⟨_, rfl, _, rfl, _, rfl, _, rfl, _, _, rfl, rfl, _, rfl, r, t2, _, _,
      k, k + 3, rfl, rfl, rfl, rfl, s2 _ _ g1, g2, ne2, by omega, by omega, ?_,
      ?_⟩
    · rw [List.length_map, List.length_map]
      exact sz (by omega)
    have b2 : But r H1 (upd H2 r (.lst ((vIs ws).take k ++ vIs mid ++
        (vIs ws).drop (k + 3)))) := (But.of s2).at
    refine ⟨_, rfl, q r _ nr ?_ ?_⟩
    · rw [upd_same, ← List.map_take, ← List.map_drop, ← List.map_append,
        ← List.map_append, ← hm]
      rfl
    · exact fun y o e => b2 y o (s1 _ _ e) (ne_of_none e nr)
end
end OM
namespace OM
open PySem PySem.Spec PyProof.Rows L2
theorem sum_piled (ts : List Str) :
    (ts.map (·.length)).sum + 2 * ts.length = piled ts := by
  induction ts with
  | nil => rfl
  | cons t ts ih =>
    rw [piled_cons, List.map_cons, List.sum_cons, List.length_cons]
    omega
theorem int1601 : ∀ i : Fin 1601, (PyData.int (i.val : Int)).showable = true ∧
    (PyData.int (i.val : Int)).shown.length ≤ 5 := by decide +kernel
end OM
namespace OM
open PySem PySem.Spec PyProof.Rows L2
/-! ### lists of small numbers -/
abbrev dIs (ks : List Nat) : List PyData := ks.map fun (i : Nat) =>
  .int (i : Int)
theorem dpAll_I {K : PySem.W.Frag} {H : Hp} : ∀ ks : List Nat,
    DpAll K H (vIs ks) (dIs ks)
  | [] => .nil
  | _ :: r => .cons (.int _) (dpAll_I r)
theorem dp_I {K : PySem.W.Frag} {H : Hp} {a : Addr} {ks : List Nat}
    (h : SqL K H a (vIs ks)) : Dp K H (.ref a) (.list (dIs ks)) :=
  .lst h (dpAll_I ks)
theorem showable_IA : ∀ ks : List Nat, (∀ i ∈ ks, i < 1601) →
    PyData.showableAll (dIs ks) = true
  | [], _ => by simp [PyData.showableAll]
  | k :: r, h => by
    have ih := showable_IA r fun i hi => h i (List.mem_cons_of_mem _ hi)
    have a := (int1601 ⟨k, h k List.mem_cons_self⟩).1
    show PyData.showableAll (.int (k : Int) :: dIs r) = true
    rw [show PyData.showableAll (.int (k : Int) :: dIs r) =
      ((PyData.int (k : Int)).showable && PyData.showableAll (dIs r)) by
        simp only [PyData.showableAll], ih]
    rw [show (PyData.int (k : Int)).showable = true from a]
    rfl
theorem depth_IA : ∀ ks : List Nat, PyData.depthAll (dIs ks) ≤ 1
  | [] => by simp [PyData.depthAll]
  | k :: r => by
    have ih := depth_IA r
    show PyData.depthAll (.int (k : Int) :: dIs r) ≤ 1
    simp only [PyData.depthAll, PyData.depth]
    omega
theorem shown_IA : ∀ ks : List Nat, (∀ i ∈ ks, i < 1601) →
    piled (PyData.shownAll (dIs ks)) ≤ ks.length * 7
  | [], _ => by
    show piled (PyData.shownAll []) ≤ _
    simp only [PyData.shownAll]
    exact Nat.zero_le _
  | k :: r, h => by
    have ih := shown_IA r fun i hi => h i (List.mem_cons_of_mem _ hi)
    have a : (PyData.int (k : Int)).shown.length ≤ 5 :=
      (int1601 ⟨k, h k List.mem_cons_self⟩).2
    show piled (PyData.shownAll (.int (k : Int) :: dIs r)) ≤ _
    rw [show PyData.shownAll (.int (k : Int) :: dIs r) =
      (PyData.int (k : Int)).shown :: PyData.shownAll (dIs r) by
        simp only [PyData.shownAll], piled_cons, List.length_cons, Nat.add_mul]
    omega
theorem ints_ok {ks : List Nat} (h : ∀ i ∈ ks, i < 1601)
    (hn : ks.length ≤ 1600) : (PyData.list (dIs ks)).showable = true ∧
    (PyData.list (dIs ks)).depth ≤ 60 ∧
    (PyData.list (dIs ks)).shown.length ≤ sizeLine := by
  refine ⟨?_, ?_, ?_⟩
  · rw [show (PyData.list (dIs ks)).showable = PyData.showableAll (dIs ks) by
      simp only [PyData.showable]]
    exact showable_IA ks h
  · rw [show (PyData.list (dIs ks)).depth = PyData.depthAll (dIs ks) + 1 by
      simp only [PyData.depth]]
    have := depth_IA ks
    omega
  · have e : (PyData.list (dIs ks)).shown =
        listText (PyData.shownAll (dIs ks)) := by simp only [PyData.shown]
    have p := shown_IA ks h
    have q := listText_len_le (PyData.shownAll (dIs ks))
    rw [e]
    have r := sum_piled (PyData.shownAll (dIs ks))
    exact Nat.le_trans (show _ ≤ 20000 by omega) (by decide)
end OM
namespace OM
open PySem PySem.Spec PyProof.Rows L2
/-! ### lists of numbers, once more -/
theorem eqv_K : ∀ ks : List Nat, PyData.eqvAll (dIs ks) (dIs ks) = true
  | [] => by simp [PyData.eqvAll]
  | k :: ks => by
    have ih := eqv_K ks
    show (PyData.eqv (.int (k : Int)) (.int (k : Int)) &&
      PyData.eqvAll (dIs ks) (dIs ks)) = true
    rw [ih]
    simp [PyData.eqv]
theorem eqv_KL (ks : List Nat) :
    PyData.eqv (.list (dIs ks)) (.list (dIs ks)) = true := by
  rw [show PyData.eqv (.list (dIs ks)) (.list (dIs ks)) =
    PyData.eqvAll (dIs ks) (dIs ks) by simp only [PyData.eqv]]
  exact eqv_K ks
theorem shaped_K {ks : List Nat} : SeqAt.shaped (.list (dIs ks)) = true := by
  have lay : ∀ ks : List Nat, PyData.canLayAll0 (dIs ks) = true := by
    intro ks
    induction ks with
    | nil => simp [PyData.canLayAll0]
    | cons k r ih =>
      show PyData.canLayAll0 (.int (k : Int) :: dIs r) = true
      rw [show PyData.canLayAll0 (.int (k : Int) :: dIs r) =
        (PyData.canLay0 (.int (k : Int)) && PyData.canLayAll0 (dIs r)) by
          simp only [PyData.canLayAll0], ih]
      simp [PyData.canLay0]
  unfold SeqAt.shaped
  rw [show PyData.canLay0 (.list (dIs ks)) = PyData.canLayAll0 (dIs ks) by
    simp only [PyData.canLay0], lay ks]
  have d : (PyData.list (dIs ks)).depth = PyData.depthAll (dIs ks) + 1 := by
    simp only [PyData.depth]
  have := depth_IA ks
  exact decide_eq_true (by omega)
theorem eqv_0 (ks : List Nat) : PyData.eqv (.list (dIs ks)) (.list (dIs [])) =
    decide (ks = []) := by
  cases ks with
  | nil => exact eqv_KL []
  | cons k r =>
    rw [show PyData.eqv (.list (dIs (k :: r))) (.list (dIs [])) =
      PyData.eqvAll (.int (k : Int) :: dIs r) [] by simp only [PyData.eqv]; rfl]
    simp [PyData.eqvAll]
end OM
namespace OM
open PySem PySem.Spec PyProof.Rows L2
theorem hu65' {A : Around} {k : Nat} (hr : Room k A) : A.units + 65 < cLine := by
  have := hr.un
  omega
theorem prsOf_snoc : ∀ (us : List Nat) (i : Nat) (os : List (List Nat)),
    prsOf os (us ++ [i]) = prsOf os us ++ [nbr (run os us) i]
  | [], i, os => rfl
  | u :: us, i, os => congrArg (nbr os u :: ·) (prsOf_snoc us i (exch os u))
theorem run_snoc (us : List Nat) (i : Nat) (os : List (List Nat)) :
    run os (us ++ [i]) = exch (run os us) i := by
  rw [run_app]
  rfl
theorem ne_nr {H : Hp} {o q : Addr} {ms : List (List Nat)} {rs : List Addr}
    (h : H o = some (.lst (ms.map vS))) (ne : ms ≠ [])
    (k : H q = some (.lst (rs.map V.ref))) : o ≠ q := ne_of h k fun z => by
  have z' := HO.lst.inj z
  cases ms with
  | nil => exact ne rfl
  | cons m r =>
    cases rs with
    | nil => cases z'
    | cons a r => cases (List.cons.inj z').1
theorem run_ne {os : List (List Nat)} (ws : List Nat) (ne : os ≠ []) :
    run os ws ≠ [] := fun e => by
  have := run_len ws os
  rw [e] at this
  exact ne (List.length_eq_zero_iff.mp this.symm)
theorem UniP_prs {ls : List (List Nat)} (g : Good ls) {ws : List Nat}
    (w : Wd ls ls ws) : UniP (prsOf ls ws) := fun p hp => by
  have r := (Rep.nil g.nd).word ⟨g.nd, List.Perm.refl _⟩ w
  rw [List.nil_append] at r
  have h := (r.mem p).mp hp
  exact ⟨⟨(g.nm _ h.1).hi, (g.nm _ h.1).uni⟩,
    ⟨(g.nm _ h.2.1).hi, (g.nm _ h.2.1).uni⟩⟩
theorem uni_pair {ls : List (List Nat)} (g : Good ls) {l m : List Nat}
    (hl : l ∈ ls) (hm : m ∈ ls) :
    (∀ x ∈ (pairOf ls l m).1, x < 1114112) ∧
      ∀ x ∈ (pairOf ls l m).2, x < 1114112 := by
  unfold pairOf
  split
  · exact ⟨(g.nm l hl).uni, (g.nm m hm).uni⟩
  · exact ⟨(g.nm m hm).uni, (g.nm l hl).uni⟩
def spPairOf (C : Addr) : Sp := fun vs H Q _ =>
  ∃ (b : Addr) (ls : List (List Nat)) (l m : List Nat),
  vs = [.ref b, vS l, vS m] ∧ BaseAt C H b ls ∧ (∀ l ∈ ls, Nm l) ∧ l ∈ ls ∧
  m ∈ ls ∧ ∀ t H', H t = none → H' t = some (.tup (vT (pairOf ls l m))) →
    Same H H' → Q (.ref t) H'
def spPrsOf (C : Addr) : Sp := fun vs H Q _ =>
  ∃ (b a : Addr) (ls : List (List Nat)) (ws : List Nat),
  vs = [.ref b, .ref a] ∧ BaseAt C H b ls ∧ Good ls ∧
  H a = some (.lst (vIs ws)) ∧ Ixs ls.length ws ∧ ws.length ≤ 1600 ∧
  ∀ q rs H', H q = none → H' q = some (.lst (rs.map V.ref)) →
    PrsAt H' rs (prsOf ls ws) → Same H H' → Q (.ref q) H'
/-- the entry of two items -/
def entV (ls : List (List Nat)) (rows : List En) (l m : List Nat) : V :=
  if pairOf ls l m ∈ prsOf ls (ixs rows) then
    .int (((prsOf ls (ixs rows)).idxOf (pairOf ls l m) : Nat) : Int) else .non
def spLFor (C L : Addr) : Sp := fun vs H Q _ =>
  ∃ (g ro b : Addr) (ls : List (List Nat)) (rows : List En) (l m : List Nat),
  vs = [.ref g, vS l, vS m] ∧ LogAt C L H g ro b ls rows ∧ l ∈ ls ∧ m ∈ ls ∧
  ∀ H', Same H H' → Q (entV ls rows l m) H'
def spLChk (C L : Addr) : Sp := fun vs H Q _ =>
  ∃ (g ro b : Addr) (ls : List (List Nat)) (rows : List En) (j : Nat),
  vs = [.ref g, .int j] ∧ LogAt C L H g ro b ls rows ∧ j < rows.length ∧
  Q .non H
def spLPair (C L : Addr) : Sp := fun vs H Q _ =>
  ∃ (g ro b : Addr) (ls : List (List Nat)) (rows : List En) (j : Nat),
  vs = [.ref g, .int j] ∧ LogAt C L H g ro b ls rows ∧ j < rows.length ∧
  ∀ t H', H' t = some (.tup (vT ((prsOf ls (ixs rows)).getD j ([], [])))) →
    Same H H' → Q (.ref t) H'
section
variable {P : Program} {w : World} {K : PySem.W.Frag}
  {mg : Str → Option Value} {base : Heap} {C L : Addr}
theorem ok_pairof {f : Addr} {fd : FuncData} {k : Nat}
    (F : Fun K "pair_of" "pair_of" s_pair_of f fd)
    (Mp : CalM P w K mg base C k "precedes" ["self", "first", "second"]
      (spPrec C)) :
    FnOk P w K mg base CX0 (k + 1) f fd ["base", "first", "second"]
      (spPairOf C) := by
  refine F.ok sc_pair_of (fun vs H Q E h => ?_)
    (fun cv A outer s H vs Q E hr h => ?_)
  · obtain ⟨b, ls, l, m, rfl, _⟩ := h
    rfl
  obtain ⟨b, ls, l, m, rfl, hb, nm, hl, hm, q⟩ := h
  refine ⟨_, pss_cons (ps_if (pt_val (pe_calM Mp hr (pv 0) (pa_cons (pv 1)
      (pa_cons (pv 2) pa_nil))))
      (pss_one (ps_ret (pe_tup (pa_cons (pv 1) (pa_cons (pv 2) pa_nil)))))
      pss_nil)
    (pss_one (ps_ret (pe_tup (pa_cons (pv 2) (pa_cons (pv 1) pa_nil))))), ?_⟩
  obtain ⟨dx, lo, d, h1, h2, h3⟩ := hb.ob
  refine ⟨_, rfl, b, dx, _, rfl, h1, bf_no _ _ (by decide +kernel)
    (by decide +kernel), _, rfl, _, rfl, b, ls, l, m, rfl, hb, nm, hl, hm,
    fun H1 s1 => ⟨_, rfl, ite2 (fun c => ?_) (fun c => ?_)⟩⟩
  · refine ⟨_, rfl, _, rfl, sz (by simp), fun t nt => q t _ (s1.free nt) ?_
      (s1.trans (sameNew nt))⟩
    rw [upd_same]
    unfold pairOf
    rw [if_pos (of_decide_eq_true c)]
  · refine ⟨_, rfl, _, rfl, sz (by simp), fun t nt => q t _ (s1.free nt) ?_
      (s1.trans (sameNew nt))⟩
    rw [upd_same]
    unfold pairOf
    rw [if_neg fun z => c (decide_eq_true z)]
theorem ok_prsof {f : Addr} {fd : FuncData} {k : Nat}
    (F : Fun K "pairs_of_swaps" "pairs_of_swaps" s_pairs_of_swaps f fd)
    (Mn : CalM P w K mg base C k "names" ["self"] (spGetNames C))
    (Ce : Cal P w K mg base k "exchanged" ["order", "index"] (spExch K)) :
    FnOk P w K mg base CX0 (k + 1) f fd ["base", "indexes"] (spPrsOf C) := by
  refine F.ok sc_pairs_of_swaps (fun vs H Q E h => ?_)
    (fun cv A outer s H vs Q E hr h => ?_)
  · obtain ⟨b, a, ls, ws, rfl, _⟩ := h
    rfl
  obtain ⟨b, a, ls, ws, rfl, hb, gd, ha, ix, hw, q⟩ := h
  have nd := sc_pairs_of_swaps.nd
  refine ⟨_, pss_cons (ps_set (i := 2) nd rfl (.inl rfl)
      (pe_calM0 Mn hr (pv 0)))
    (pss_cons (ps_set (i := 3) nd rfl (.inl rfl) (pe_lst pa_nil))
    (pss_cons (ps_for PassesOwn.never rfl (pi_list (pv 1))
      (pg_name (i := 4) nd rfl (.inl rfl))
      (pss_cons (ps_expr (pe_bm PySem.F.plainAttrs_list
          PySem.F.slot_list_append PySem.F.type_list_append mt_append (pv 3)
          (pa_cons (pe_tup (pa_cons
            (pe_ix ix_list (pv 2) (pv 4) (fun _ _ => rfl)) (pa_cons
            (pe_ix ix_list (pv 2) (pe_op op_add (pv 4) pe_int)
              (fun _ _ => rfl)) pa_nil))) pa_nil)))
      (pss_one (ps_set (i := 2) nd rfl (.inl rfl)
        (pe_cal Ce hr (pa_cons (pv 2) (pa_cons (pv 4) pa_nil)))))))
    (pss_one (ps_ret (pv 3))))), ?_⟩
  obtain ⟨dx, lo, d, h1, h2, h3⟩ := hb.ob
  refine ⟨_, rfl, b, dx, _, rfl, h1, bf_no _ _ (by decide +kernel)
    (by decide +kernel), b, ls, rfl, hb, fun o0 H1 no0 ho0 s1 => ?_⟩
  refine ⟨sz (by simp), fun r nr => ?_⟩
  have fr : H r = none := s1.free nr
  refine ⟨_, rfl, a, rfl, ⟨_, SqL.of (sameNew nr _ _ (s1 _ _ ha))⟩, ?_⟩
  refine for_list (K := K) (a := a) (xs := vIs ws) (fun i σ H' =>
      ∃ (o : Addr) (rs : List Addr) (y : Option V),
      σ = [some (.ref b), some (.ref a), some (.ref o), some (.ref r), y] ∧
      H' o = some (.lst ((run ls (ws.take i)).map vS)) ∧
      H' r = some (.lst (rs.map V.ref)) ∧
      PrsAt H' rs (prsOf ls (ws.take i)) ∧ Same H H')
    ⟨o0, [], none, rfl, sameNew nr _ _ ho0, upd_same, .nil,
      s1.trans (sameNew nr)⟩
    (fun i σ H' _ z => by
      obtain ⟨_, _, _, _, _, _, _, s⟩ := z
      exact SqL.of (s _ _ ha)) ?_ ?_
  · rintro i v σ H2 hv ⟨o, rs, y, rfl, ho, hr2, pr, s2⟩
    obtain ⟨m, hm, rfl⟩ : ∃ m : Nat, ws[i]? = some m ∧ v = .int (m : Int) := by
      rw [List.getElem?_map] at hv
      cases e : ws[i]? with
      | none => rw [e] at hv; cases hv
      | some m => rw [e] at hv; exact ⟨m, rfl, (Option.some.inj hv).symm⟩
    have hi : i < ws.length := (List.getElem?_eq_some_iff.mp hm).1
    have mx := ix m (List.mem_of_getElem? hm)
    have ol : (run ls (ws.take i)).length = ls.length := run_len _ _
    have lr := pr.len
    rw [prsOf_len, List.length_take] at lr
    have nor : o ≠ r := ne_nr ho (run_ne _ gd.ne) hr2
    have hS := SqL.of (K := K) ho
    refine ⟨_, rfl, .inl ⟨rfl, _, SqL.of hr2⟩, _, rfl, _, rfl, o, _, _, _, rfl,
      rfl, hS, atI_nat (j := m) (getD_map vS [] (by omega)), _, rfl, _, rfl, _,
      _, rfl, rfl, o, _, _, _, rfl, rfl, hS, atI_nat (j := m + 1)
      (getD_map vS [] (by omega)), sz (by simp), fun t nt => ?_⟩
    have s3 : Same H2 (upd H2 t (.tup [vS ((run ls (ws.take i)).getD m []),
        vS ((run ls (ws.take i)).getD (m + 1) [])])) :=
      sameNew nt
    have ht : (upd H2 t (.tup [vS ((run ls (ws.take i)).getD m []),
        vS ((run ls (ws.take i)).getD (m + 1) [])])) t =
      some (.tup [vS ((run ls (ws.take i)).getD m []),
        vS ((run ls (ws.take i)).getD (m + 1) [])]) := upd_same
    refine ⟨r, _, _, rfl, rfl, s3 _ _ hr2, ?_, ?_⟩
    · rw [List.length_map]
      exact sz' (by omega)
    have ntr : t ≠ r := (ne_of_none hr2 nt).symm
    have h4r : (upd (upd H2 t (.tup [vS ((run ls (ws.take i)).getD m []),
        vS ((run ls (ws.take i)).getD (m + 1) [])])) r
      (.lst (rs.map V.ref ++ [.ref t]))) r =
      some (.lst (rs.map V.ref ++ [.ref t])) := upd_same
    have h4o : (upd (upd H2 t (.tup [vS ((run ls (ws.take i)).getD m []),
        vS ((run ls (ws.take i)).getD (m + 1) [])])) r
      (.lst (rs.map V.ref ++ [.ref t]))) o =
      some (.lst ((run ls (ws.take i)).map vS)) := by
      rw [upd_ne nor]; exact s3 _ _ ho
    have p4 : PrsAt (upd (upd H2 t (.tup [vS ((run ls (ws.take i)).getD m []),
        vS ((run ls (ws.take i)).getD (m + 1) [])])) r
      (.lst (rs.map V.ref ++ [.ref t]))) (rs ++ [t])
      (prsOf ls (ws.take i) ++ [nbr (run ls (ws.take i)) m]) :=
      ((pr.same s3).snoc ht).put (s3 _ _ hr2)
    have s4 : Same H (upd (upd H2 t (.tup [vS ((run ls (ws.take i)).getD m []),
        vS ((run ls (ws.take i)).getD (m + 1) [])])) r
      (.lst (rs.map V.ref ++ [.ref t]))) :=
      OM.Same.put (s2.trans s3) fr
    generalize (upd (upd H2 t (.tup [vS ((run ls (ws.take i)).getD m []),
        vS ((run ls (ws.take i)).getD (m + 1) [])])) r
      (.lst (rs.map V.ref ++ [.ref t]))) = H4 at h4r h4o p4 s4 ⊢
    refine ⟨_, rfl, _, rfl, o, _, m, rfl, SqL.of h4o, ?_, ?_,
      fun o' H5 no' ho' s5 => ?_⟩
    · rw [List.length_map]; omega
    · rw [List.length_map, ol]
      have := gd.hi
      omega
    rw [exch_map] at ho'
    have tk : ws.take (i + 1) = ws.take i ++ [m] := by
      rw [List.take_add_one, hm]
      rfl
    refine ⟨o', rs ++ [t], _, rfl, ?_, ?_, ?_, s4.trans s5⟩
    · rw [tk, run_snoc]
      exact ho'
    · rw [List.map_append]
      exact s5 _ _ h4r
    · rw [tk, prsOf_snoc]
      exact p4.same s5
  · rintro σ H2 ⟨o, rs, y, rfl, ho, hr2, pr, s2⟩
    rw [List.length_map, List.take_length] at pr
    exact ⟨_, rfl, q r rs H2 fr hr2 pr s2⟩
theorem ok_lfor {f : Addr} {fd : FuncData} {k : Nat}
    (F : Fun K "entry_for" "SwapLog.entry_for" s_SwapLog_entry_for f fd)
    (T : LC K mg L)
    (Cp : Cal P w K mg base k "pair_of" ["base", "first", "second"]
      (spPairOf C))
    (Cs : Cal P w K mg base k "pairs_of_swaps" ["base", "indexes"]
      (spPrsOf C))
    (Mi : CalM P w K mg base L k "indexes" ["self"] (spLIxs C L)) :
    FnOk P w K mg base CX0 (k + 1) f fd ["self", "first", "second"]
      (spLFor C L) := by
  refine F.ok sc_SwapLog_entry_for (fun vs H Q E h => ?_)
    (fun cv A outer s H vs Q E hr h => ?_)
  · obtain ⟨g, ro, b, ls, rows, l, m, rfl, _⟩ := h
    rfl
  obtain ⟨g, ro, b, ls, rows, l, m, rfl, x, hl, hm, q⟩ := h
  have nd := sc_SwapLog_entry_for.nd
  refine ⟨_, pss_cons (ps_set (i := 3) nd rfl (.inl rfl)
      (pe_cal Cp hr (pa_cons (pe_fld (pv 0) rfl) (pa_cons (pv 1)
        (pa_cons (pv 2) pa_nil)))))
    (pss_cons (ps_set (i := 4) nd rfl (.inl rfl)
      (pe_cal Cs hr (pa_cons (pe_fld (pv 0) rfl) (pa_cons
        (pe_calM0 Mi hr (pv 0)) pa_nil))))
    (pss_one (ps_ret (pe_ifExp
      (pt_cmpR (op_inD (hu65' hr)) (pv 3) (pv 4) (by rfl))
      (pe_bm PySem.F.plainAttrs_list PySem.F.slot_list_index
        PySem.F.type_list_index (mt_indexD (hu65' hr)) (pv 4)
        (pa_cons (pv 3) pa_nil)) pe_non)))), ?_⟩
  obtain ⟨dx, cu, rs, h1, h2, h3, h4⟩ := x.ob
  refine ⟨_, rfl, g, L, dx, _, _, rfl, h1, T.cl, T.nG, lf_ground _ _ _, _, rfl,
    _, rfl, b, ls, l, m, rfl, x.ba, x.good.nm, hl, hm, fun t H1 nt ht s1 => ?_⟩
  have x1 := x.same s1
  refine ⟨_, rfl, g, L, dx, _, _, rfl, s1 _ _ h1, T.cl, T.nG, lf_ground _ _ _,
    _, rfl, g, dx, _, rfl, s1 _ _ h1, lf_no _ _ _ (by decide +kernel)
    (by decide +kernel) (by decide +kernel), g, ro, b, ls, rows, rfl, x1,
    fun ia H2 nia hia s2 => ?_⟩
  have x2 := x1.same s2
  have hlen : (ixs rows).length ≤ 1600 := by
    rw [List.length_map]; exact x.many
  refine ⟨b, ia, ls, ixs rows, rfl, x2.ba, x.good, hia, x.wd.ixs, hlen,
    fun pa prs' H3 npa hpa hpr s3 => ?_⟩
  have ht3 := s3 _ _ (s2 _ _ ht)
  have up := UniP_prs x.good x.wd
  have ut := uni_pair x.good hl hm
  have dpt := dp_T (K := K) ht3
  have dpp := dp_P (K := K) (SqL.of hpa) hpr
  have sht := shaped_T ut.1 ut.2
  have shp := shaped_P up
  refine ⟨_, rfl, _, rfl, _, _, dpt, dpp, sht, shp, _, rfl, ?_⟩
  rw [any_P]
  have qq := q H3 ((s1.trans s2).trans s3)
  unfold entV at qq
  by_cases c : pairOf ls l m ∈ prsOf ls (ixs rows)
  · rw [decide_eq_true c]
    rw [if_pos c] at qq
    refine iteT ?_
    have il := List.idxOf_lt_length_of_mem c
    refine ⟨_, rfl, .inl ⟨rfl, _, SqL.of hpa⟩, _, rfl, pa, _, _, _,
      (prsOf ls (ixs rows)).idxOf (pairOf ls l m), dT (pairOf ls l m), rfl, rfl,
      dpp, dpt, shp, sht, ?_, ?_, ?_, qq⟩
    · rw [List.getElem?_map, List.getElem?_eq_getElem il,
        List.getElem_idxOf il]
      rfl
    · rw [eqv_T]
      exact decide_eq_true rfl
    · intro n z hn hz
      rw [List.getElem?_map] at hz
      cases e : (prsOf ls (ixs rows))[n]? with
      | none => rw [e] at hz; cases hz
      | some p =>
        rw [e] at hz
        cases Option.some.inj hz
        rw [eqv_T]
        refine decide_eq_false fun z => ?_
        obtain ⟨hl', e2⟩ := List.getElem?_eq_some_iff.mp e
        have := List.not_of_lt_findIdx hn
        simp [e2, z] at this
  · rw [decide_eq_false c]
    rw [if_neg c] at qq
    exact iteF qq
end
end OM
namespace OM
open PySem PySem.Spec PyProof.Rows L2
theorem Wd.snoc {ls : List (List Nat)} {i : Nat} : ∀ {ws : List Nat}
    {os : List (List Nat)}, Wd ls os ws → i + 1 < os.length →
    outB ls (run os ws) i = true → Wd ls os (ws ++ [i])
  | [], _, _, h, o => ⟨h, o, trivial⟩
  | u :: ws, os, w, h, o => ⟨w.1, w.2.1, Wd.snoc w.2.2
      (by rw [exch_len]; exact h) o⟩
theorem ixs_erase : ∀ (rows : List En) (j : Nat),
    ixs (rows.eraseIdx j) = (ixs rows).eraseIdx j
  | [], _ => rfl
  | _ :: _, 0 => rfl
  | e :: r, j + 1 => congrArg (e.1 :: ·) (ixs_erase r j)
theorem map_erase {α β : Type} (f : α → β) : ∀ (l : List α) (j : Nat),
    (l.map f).eraseIdx j = (l.eraseIdx j).map f
  | [], _ => rfl
  | _ :: _, 0 => rfl
  | e :: r, j + 1 => congrArg (f e :: ·) (map_erase f r j)
/-- the entry that a swap back cancels -/
def canJ (ls : List (List Nat)) (ws : List Nat) (i : Nat) : Nat :=
  (prsOf ls ws).idxOf ((run ls ws).getD (i + 1) [], (run ls ws).getD i [])
def rowsS (ls : List (List Nat)) (rows : List En) (i : Nat) (r : List Nat) :
    List En :=
  if outB ls (run ls (ixs rows)) i = true then rows ++ [(i, r)]
  else rows.eraseIdx (canJ ls (ixs rows) i)
def ansS (ls : List (List Nat)) (rows : List En) (i : Nat) : V :=
  if outB ls (run ls (ixs rows)) i = true then .non
  else .int ((canJ ls (ixs rows) i : Nat) : Int)
section
variable {C L g ro b : Addr} {H H' : Hp} {ls : List (List Nat)} {rows : List En}
  {i : Nat} {r : List Nat}
theorem LogAt.canMem (x : LogAt C L H g ro b ls rows) (hi : i + 1 < ls.length)
    (ob : outB ls (run ls (ixs rows)) i = false) :
    ((run ls (ixs rows)).getD (i + 1) [], (run ls (ixs rows)).getD i []) ∈
      prsOf ls (ixs rows) :=
  (x.rep.inn x.of (by rw [x.oLen]; exact hi) ob).1
theorem LogAt.canLt (x : LogAt C L H g ro b ls rows) (hi : i + 1 < ls.length)
    (ob : outB ls (run ls (ixs rows)) i = false) :
    canJ ls (ixs rows) i < rows.length := by
  have := List.idxOf_lt_length_of_mem (x.canMem hi ob)
  rw [prsOf_len, List.length_map] at this
  exact this
theorem LogAt.step (x : LogAt C L H g ro b ls rows) (hi : i + 1 < ls.length) :
    Wd ls ls (ixs (rowsS ls rows i r)) ∧
      run ls (ixs (rowsS ls rows i r)) = exch (run ls (ixs rows)) i := by
  unfold rowsS
  cases ob : outB ls (run ls (ixs rows)) i with
  | true =>
    rw [if_pos rfl]
    have e : ixs (rows ++ [(i, r)]) = ixs rows ++ [i] := List.map_append
    rw [e]
    exact ⟨x.wd.snoc hi ob, run_snoc _ _ _⟩
  | false =>
    rw [if_neg nofun, ixs_erase]
    have m := x.canMem hi ob
    have il := List.idxOf_lt_length_of_mem m
    refine cancel x.good.nd x.wd hi ob ?_
    unfold canJ
    rw [List.getElem?_eq_getElem il, List.getElem_idxOf il]
theorem LogAt.stepR (x : LogAt C L H g ro b ls rows) (hr : Rsn r) :
    ∀ e ∈ rowsS ls rows i r, Rsn e.2 := by
  unfold rowsS
  intro e he
  split at he
  · rcases List.mem_append.mp he with h | h
    · exact x.rn e h
    · rw [List.mem_singleton.mp h]
      exact hr
  · exact x.rn e (List.mem_of_mem_eraseIdx he)
theorem LogAt.forV (x : LogAt C L H g ro b ls rows) (hi : i + 1 < ls.length)
    (ob : outB ls (run ls (ixs rows)) i = false) :
    entV ls rows ((run ls (ixs rows)).getD i [])
      ((run ls (ixs rows)).getD (i + 1) []) =
      .int ((canJ ls (ixs rows) i : Nat) : Int) := by
  have m := x.canMem hi ob
  have lt := (in_lt x.of (by rw [x.oLen]; exact hi)).mp ob
  have e : pairOf ls ((run ls (ixs rows)).getD i [])
      ((run ls (ixs rows)).getD (i + 1) []) =
      ((run ls (ixs rows)).getD (i + 1) [], (run ls (ixs rows)).getD i []) := by
    unfold pairOf
    rw [if_neg (by omega)]
  unfold entV canJ
  rw [e, if_pos m]
end
def spIsRsn : Sp := fun vs H Q _ => ∃ l : List Nat, vs = [vS l] ∧ Rsn l ∧
  ∀ H', Same H H' → Q (.bl true) H'
def spChkRsn : Sp := fun vs H Q _ => ∃ l : List Nat, vs = [vS l] ∧ Rsn l ∧
  ∀ H', Same H H' → Q .non H'
def spSwapC (C L : Addr) : Sp := fun vs H Q _ =>
  ∃ (g ro b : Addr) (ls : List (List Nat)) (rows : List En) (i : Nat)
    (r : List Nat), vs = [.ref g, .int i, vS r] ∧
  LogAt C L H g ro b ls rows ∧ i + 1 < ls.length ∧ Rsn r ∧
  ∀ H', LogAt C L H' g ro b ls (rowsS ls rows i r) → But2 g ro H H' →
    Q (ansS ls rows i) H'
section
variable {P : Program} {w : World} {K : PySem.W.Frag}
  {mg : Str → Option Value} {base : Heap} {C L : Addr}
theorem ok_isrsn {f : Addr} {fd : FuncData} {k : Nat}
    (F : Fun K "is_reason" "is_reason" s_is_reason f fd) (B : Bl mg)
    {tN : Tok} (mN : mg "NO_REASON" = some (.str (Str.ofString "") tN))
    (Ci : CalIsName P w K mg base k) :
    FnOk P w K mg base CX0 (k + 1) f fd ["value"] spIsRsn := by
  refine F.ok sc_is_reason (fun vs H Q E h => ?_)
    (fun cv A outer s H vs Q E hr h => ?_)
  · obtain ⟨l, rfl, _⟩ := h
    rfl
  obtain ⟨l, rfl, hl, q⟩ := h
  refine ⟨_, pss_one (ps_ret (pe_or (pe_cal Ci hr (pa_cons (pv 0) pa_nil))
    (pe_one (pe_and (pe_callB call_isi (by rfl) B.isi bt_isi (pa_cons (pv 0)
      (pa_cons (pe_bltn (v := .ty "str") (by rfl) B.str bt_str rfl) pa_nil)))
      (pe_one (pe_cmpR op_eq (pv 0)
        (pe_glob (v := .str (Str.ofString "")) (by rfl) mN ⟨_, rfl⟩)
        (nomark _))))))), ?_⟩
  have ll := hl.len
  refine ⟨_, rfl, _, rfl, .inl ⟨_, rfl, ?_, fun H1 s1 => ⟨_, rfl, ?_⟩⟩⟩
  · rw [SX.S_len]
    exact sz (by omega)
  rcases hl with rfl | hl
  · rw [show nmB (SX.S ([] : List Nat)).cps.toList = false by decide +kernel]
    refine iteF ⟨_, rfl, _, _, _, _, true, rfl, .ty "str", .base (.str _),
      kit_ty (by decide +kernel), _, rfl, iteT ⟨_, rfl, rfl, ?_⟩⟩
    rw [decide_eq_true (show V.str (SX.S []) = V.str (Str.ofString "") by
      rfl)]
    exact q H1 s1
  · rw [show nmB (SX.S l).cps.toList = true from nmB_iff.mpr hl]
    exact iteT (q H1 s1)
theorem ok_chkrsn {f : Addr} {fd : FuncData} {k : Nat}
    (F : Fun K "check_reason" "check_reason" s_check_reason f fd)
    (Ci : Cal P w K mg base k "is_reason" ["value"] spIsRsn) :
    FnOk P w K mg base CX0 (k + 1) f fd ["reason"] spChkRsn := by
  refine F.ok sc_check_reason (fun vs H Q E h => ?_)
    (fun cv A outer s H vs Q E hr h => ?_)
  · obtain ⟨l, rfl, _⟩ := h
    rfl
  obtain ⟨l, rfl, hl, q⟩ := h
  refine ⟨_, pss_one (ps_if (pt_not (pt_val (pe_cal Ci hr (pa_cons (pv 0)
    pa_nil)))) (pss_one ps_never) pss_nil), ?_⟩
  exact ⟨_, rfl, l, rfl, hl, fun H1 s1 => ⟨_, rfl, iteF (q H1 s1)⟩⟩
theorem ok_swapc {f : Addr} {fd : FuncData} {k : Nat}
    (F : Fun K "swap_checked" "SwapLog.swap_checked" s_SwapLog_swap_checked
      f fd)
    (T : LC K mg L)
    (Cg : Cal P w K mg base k "goes_outward" ["base", "order", "index"]
      (spOut C))
    (Ce : Cal P w K mg base k "exchanged" ["order", "index"] (spExch K))
    (Mf : CalM P w K mg base L k "entry_for" ["self", "first", "second"]
      (spLFor C L)) :
    FnOk P w K mg base CX0 (k + 1) f fd ["self", "index", "reason"]
      (spSwapC C L) := by
  refine F.ok sc_SwapLog_swap_checked (fun vs H Q E h => ?_)
    (fun cv A outer s H vs Q E hr h => ?_)
  · obtain ⟨g, ro, b, ls, rows, i, r, rfl, _⟩ := h
    rfl
  obtain ⟨g, ro, b, ls, rows, i, r, rfl, x, hi, hrs, q⟩ := h
  have nd := sc_SwapLog_swap_checked.nd
  refine ⟨_, C8.pss_cut (ps_if (pt_val (pe_cal Cg hr (pa_cons
      (pe_fld (pv 0) rfl) (pa_cons (pe_fld (pv 0) rfl) (pa_cons (pv 1)
      pa_nil)))))
      (pss_cons (ps_set (i := 3) nd rfl (.inl rfl) pe_non)
        (pss_one (ps_expr (pe_bm PySem.F.plainAttrs_list
          PySem.F.slot_list_append PySem.F.type_list_append mt_append
          (pe_fld (pv 0) rfl) (pa_cons (pe_tup (pa_cons (pv 1)
            (pa_cons (pv 2) pa_nil))) pa_nil)))))
      (pss_cons (ps_set (i := 3) nd rfl (.inl rfl) (pe_calM Mf hr (pv 0)
          (pa_cons (pe_ix ix_list (pe_fld (pv 0) rfl) (pv 1)
            (fun _ _ => rfl)) (pa_cons (pe_ix ix_list (pe_fld (pv 0) rfl)
            (pe_op op_add (pv 1) pe_int) (fun _ _ => rfl)) pa_nil))))
        (pss_one (ps_expr (pe_bm PySem.F.plainAttrs_list
          PySem.F.slot_list_pop PySem.F.type_list_pop mt_popAt
          (pe_fld (pv 0) rfl) (pa_cons (pv 3) pa_nil))))))
    (pss_cons (ps_fld (pv 0) (pe_cal Ce hr (pa_cons (pe_fld (pv 0) rfl)
        (pa_cons (pv 1) pa_nil))) rfl)
    (pss_one (ps_ret (pv 3)))), ?_⟩
  obtain ⟨dx, cu, rs, h1, h2, h3, h4⟩ := x.ob
  have ol := x.oLen
  have go := x.good.perm x.perm
  have O : Ord C H b cu ls (run ls (ixs rows)) :=
    ⟨x.ba, x.good, h2, x.perm⟩
  have nco : cu ≠ ro := ne_nr h2 (run_ne _ x.good.ne) h3
  have ngo : g ≠ ro := ne_of h1 h3 nofun
  have many := x.many
  have l4 := h4.len
  refine ⟨fun σ' H' => ∃ rs', σ' = [some (.ref g), some (.int i), some (vS r),
    some (ansS ls rows i)] ∧ H' g = some (.ins L dx (lf b cu ro)) ∧
    H' cu = some (.lst ((run ls (ixs rows)).map vS)) ∧
    H' ro = some (.lst (rs'.map V.ref)) ∧ EnsAt H' rs' (rowsS ls rows i r) ∧
    BaseAt C H' b ls ∧ But ro H H', ?_, ?_⟩
  · refine ⟨_, rfl, g, L, dx, _, _, rfl, h1, T.cl, T.nG, lf_ground _ _ _, _,
      rfl, g, L, dx, _, _, rfl, h1, T.cl, T.nC, lf_current _ _ _, _, rfl, b, cu,
      ls, _, i, rfl, O, by omega, fun H1 s1 => ⟨_, rfl, ?_⟩⟩
    have x1 := x.same s1
    have bas : ∀ {H2 : Hp}, But ro H H2 → BaseAt C H2 b ls := fun s => by
      obtain ⟨dy, lo, d, k1, k2, k3⟩ := x.ba.ob
      exact ⟨dy, lo, d, s _ _ k1 (ne_of k1 h3 nofun),
        s _ _ k2 (ne_nr k2 x.good.ne h3), s _ _ k3 (ne_of k3 h3 nofun)⟩
    cases ob : outB ls (run ls (ixs rows)) i with
    | true =>
      refine iteT ?_
      refine ⟨_, rfl, g, L, dx, _, _, rfl, s1 _ _ h1, T.cl, T.nR,
        lf_rows _ _ _, .inl ⟨rfl, _, SqL.of (s1 _ _ h3)⟩, _, rfl, _, rfl,
        sz (by simp), fun t nt => ?_⟩
      have s2 : Same H (upd H1 t (.tup [.int i, vS r])) :=
        s1.trans (sameNew nt)
      have ht : (upd H1 t (.tup [.int i, vS r])) t =
        some (.tup [.int i, vS r]) := upd_same
      generalize (upd H1 t (.tup [.int i, vS r])) = H2 at s2 ht ⊢
      refine ⟨ro, _, _, rfl, rfl, s2 _ _ h3, ?_, ?_⟩
      · rw [List.length_map]
        exact sz' (by omega)
      have bu : But ro H (upd H2 ro (.lst (rs.map V.ref ++ [.ref t]))) :=
        (But.of s2).at
      refine ⟨rs ++ [t], ?_, ?_, ?_, ?_, ?_, bas bu, bu⟩
      · unfold ansS
        rw [ob, if_pos rfl]
        rfl
      · exact bu _ _ h1 ngo
      · exact bu _ _ h2 nco
      · rw [upd_same, List.map_append]
        rfl
      · unfold rowsS
        rw [ob, if_pos rfl]
        refine EnsAt.keep (H := H2) (fun a xs ha => ?_)
          ((h4.same s2).snoc (e := (i, r)) ht)
        rw [upd_ne (ne_of ha (s2 _ _ h3) nofun)]
        exact ha
    | false =>
      refine iteF ?_
      have gL := getD_map vS [] (show i < (run ls (ixs rows)).length by omega)
      have gR := getD_map vS [] (show i + 1 < (run ls (ixs rows)).length by
        omega)
      have hS := SqL.of (K := K) (s1 _ _ h2)
      refine ⟨_, rfl, g, dx, _, rfl, s1 _ _ h1, lf_no _ _ _
        (by decide +kernel) (by decide +kernel) (by decide +kernel), _, rfl, g,
        L, dx, _, _, rfl, s1 _ _ h1, T.cl, T.nC, lf_current _ _ _, _, rfl, cu,
        _, _, _, rfl, rfl, hS, atI_nat (j := i) gL, _, rfl, g,
        L, dx, _, _, rfl, s1 _ _ h1, T.cl, T.nC, lf_current _ _ _, _, rfl, _, _,
        rfl, rfl, cu, _, _, _, rfl, rfl, hS, atI_nat (j := i + 1) gR, g, ro, b,
        ls, rows, _, _, rfl, x1, x.of.m0 (by omega), x.of.m1 (by omega),
        fun H2 s2 => ?_⟩
      rw [x.forV hi ob]
      have s12 := s1.trans s2
      have cl := x.canLt hi ob
      have e3 : (rs.map V.ref)[canJ ls (ixs rows) i]? =
          some ((rs.map V.ref)[canJ ls (ixs rows) i]'(by
            rw [List.length_map]; omega)) := List.getElem?_eq_getElem _
      refine ⟨_, rfl, g, L, dx, _, _, rfl, s12 _ _ h1, T.cl, T.nR,
        lf_rows _ _ _, .inl ⟨rfl, _, SqL.of (s12 _ _ h3)⟩, _, rfl, ro, _, _,
        canJ ls (ixs rows) i, _, rfl, rfl, s12 _ _ h3, by omega, by omega, ?_,
        e3, ?_⟩
      · have sx := seqIndex_of (k := ((canJ ls (ixs rows) i : Nat) : Int))
          (n := (rs.map V.ref).length) (by omega) (by
            rw [List.length_map]; omega)
        rw [Int.toNat_natCast] at sx
        exact sx
      have bu : But ro H (upd H2 ro (.lst ((rs.map V.ref).eraseIdx
          (canJ ls (ixs rows) i)))) := (But.of s12).at
      refine ⟨rs.eraseIdx (canJ ls (ixs rows) i), ?_, ?_, ?_, ?_, ?_, bas bu,
        bu⟩
      · unfold ansS
        rw [ob, if_neg nofun]
        rfl
      · exact bu _ _ h1 ngo
      · exact bu _ _ h2 nco
      · rw [upd_same]
        congr 2
        exact map_erase _ _ _
      · unfold rowsS
        rw [ob, if_neg nofun]
        refine EnsAt.keep (H := H2) (fun a xs ha => ?_)
          ((h4.same s12).erase _)
        rw [upd_ne (ne_of ha (s12 _ _ h3) nofun)]
        exact ha
  rintro _ H1 ⟨rs', rfl, g1, c1, r1, e1, b1, u1⟩
  refine ⟨_, rfl, g, L, dx, _, _, rfl, g1, T.cl, T.nC, lf_current _ _ _, _, rfl,
    cu, _, i, rfl, SqL.of c1, ?_, ?_, fun cu' H2 ncu hcu s2 => ?_⟩
  · rw [List.length_map]; omega
  · rw [List.length_map, ol]
    have := x.good.hi
    omega
  rw [exch_map] at hcu
  refine ⟨_, rfl, g, L, dx, _, rfl, s2 _ _ g1, T.cl, T.nC, lf_len _ _ _, ?_⟩
  rw [lf_setc]
  have ngc : g ≠ cu' := ne_of_none g1 ncu
  have nrc : ro ≠ cu' := ne_of_none r1 ncu
  obtain ⟨st1, st2⟩ := x.step (r := r) hi
  refine ⟨_, rfl, q _ ⟨⟨dx, cu', rs', upd_same, ?_, ?_, ?_⟩, ?_, x.good, st1,
    x.stepR hrs⟩ ?_⟩
  · rw [upd_ne ngc.symm, st2]
    exact hcu
  · rw [upd_ne ngo.symm]
    exact s2 _ _ r1
  · refine EnsAt.keep (H := H2) (fun a xs ha => ?_) (e1.same s2)
    rw [upd_ne (ne_of ha (s2 _ _ g1) nofun)]
    exact ha
  · obtain ⟨dy, lo, d, k1, k2, k3⟩ := (b1.same s2).ob
    have gg := s2 _ _ g1
    refine ⟨dy, lo, d, ?_, ?_, ?_⟩
    · rw [upd_ne (ne_of k1 gg bf_ne_lf)]; exact k1
    · rw [upd_ne (ne_of k2 gg nofun)]; exact k2
    · rw [upd_ne (ne_of k3 gg nofun)]; exact k3
  · intro y o e n m
    rw [upd_ne n]
    exact s2 _ _ (u1 _ _ e m)
theorem ok_lswap {f : Addr} {fd : FuncData} {k : Nat}
    (F : Fun K "swap" "SwapLog.swap" s_SwapLog_swap f fd)
    (T : LC K mg L)
    (Ci : Cal P w K mg base k "check_swap_index" ["base", "index"]
      (spChkIx C))
    (Cr : Cal P w K mg base k "check_reason" ["reason"] spChkRsn)
    (Ms : CalM P w K mg base L k "swap_checked" ["self", "index", "reason"]
      (spSwapC C L)) :
    FnOk P w K mg base CX0 (k + 1) f fd ["self", "index", "reason"]
      (spSwapC C L) := by
  refine F.ok sc_SwapLog_swap (fun vs H Q E h => ?_)
    (fun cv A outer s H vs Q E hr h => ?_)
  · obtain ⟨g, ro, b, ls, rows, i, r, rfl, _⟩ := h
    rfl
  obtain ⟨g, ro, b, ls, rows, i, r, rfl, x, hi, hrs, q⟩ := h
  refine ⟨_, pss_cons (ps_expr (pe_cal Ci hr (pa_cons (pe_fld (pv 0) rfl)
      (pa_cons (pv 1) pa_nil))))
    (pss_cons (ps_expr (pe_cal Cr hr (pa_cons (pv 2) pa_nil)))
    (pss_one (ps_ret (pe_calM Ms hr (pv 0) (pa_cons (pv 1)
      (pa_cons (pv 2) pa_nil)))))), ?_⟩
  obtain ⟨dx, cu, rs, h1, h2, h3, h4⟩ := x.ob
  refine ⟨_, rfl, g, L, dx, _, _, rfl, h1, T.cl, T.nG, lf_ground _ _ _, _, rfl,
    b, ls, i, rfl, x.ba, x.good.hi, hi, ?_⟩
  refine ⟨_, rfl, r, rfl, hrs, fun H1 s1 => ?_⟩
  refine ⟨_, rfl, g, dx, _, rfl, s1 _ _ h1, lf_no _ _ _ (by decide +kernel)
    (by decide +kernel) (by decide +kernel), _, rfl, _, rfl, g, ro, b, ls, rows,
    i, r, rfl, x.same s1, hi, hrs, fun H2 x2 u2 => q H2 x2
      (But2.trans (But2.of s1) u2)⟩
end
end OM
namespace OM
open PySem PySem.Spec PyProof.Rows L2
theorem Wd.out {ls : List (List Nat)} : ∀ {ws : List Nat}
    {os : List (List Nat)} {i m : Nat}, Wd ls os ws → ws[i]? = some m →
    outB ls (run os (ws.take i)) m = true
  | [], _, _, _, _, h => by simp at h
  | u :: ws, os, 0, m, w, h => by
    cases Option.some.inj h
    exact w.2.1
  | u :: ws, os, i + 1, m, w, h => Wd.out (i := i) w.2.2 (by simpa using h)
theorem But2.same {g ro : Addr} {H H1 H2 : Hp} (s : Same H H1)
    (u : But2 g ro H1 H2) (ng : H g = none) (nr : H ro = none) :
    Same H H2 := fun q o e =>
  u q o (s q o e) (ne_of_none e ng) (ne_of_none e nr)
theorem ent_at {C L g ro b : Addr} {H : Hp} {ls : List (List Nat)}
    {rows : List En} (x : LogAt C L H g ro b ls rows) {j : Nat} {p : Pr}
    (h : (prsOf ls (ixs rows))[j]? = some p) :
    p.1 ∈ ls ∧ p.2 ∈ ls ∧ entV ls rows p.1 p.2 = .int (j : Int) ∧
      entV ls rows p.2 p.1 = .int (j : Int) := by
  have hm := List.mem_of_getElem? h
  obtain ⟨h1, h2, h3, h4⟩ := (x.rep.mem p).mp hm
  have e1 : pairOf ls p.1 p.2 = p := by
    unfold pairOf
    rw [if_pos h3]
  have e2 : pairOf ls p.2 p.1 = p := by
    unfold pairOf
    rw [if_neg (by omega)]
  have e3 := idx_of x.rep.nd h
  unfold entV
  rw [e1, e2, if_pos hm, e3]
  exact ⟨h1, h2, rfl, rfl⟩
theorem exch_eqD {os : List (List Nat)} {i : Nat} (hi : i + 1 < os.length) :
    exch os i = os.take i ++ [os.getD (i + 1) [], os.getD i []] ++
      os.drop (i + 2) := by
  rw [exch_eq hi, List.getD_eq_getElem?_getD, List.getD_eq_getElem?_getD,
    List.getElem?_eq_getElem (show i < os.length by omega),
    List.getElem?_eq_getElem hi]
  rfl
section
variable {C L g ro b : Addr} {H H' : Hp} {ls : List (List Nat)} {rows : List En}
  {i : Nat} {r : List Nat}
theorem LogAt.forN (x : LogAt C L H g ro b ls rows) (hi : i + 1 < ls.length)
    (ob : outB ls (run ls (ixs rows)) i = true) :
    entV ls rows ((run ls (ixs rows)).getD i [])
      ((run ls (ixs rows)).getD (i + 1) []) = .non := by
  have no := (x.rep.out x.of (by rw [x.oLen]; exact hi) ob).1
  have lt := out_lt.mp ob
  have e : pairOf ls ((run ls (ixs rows)).getD i [])
      ((run ls (ixs rows)).getD (i + 1) []) = nbr (run ls (ixs rows)) i := by
    unfold pairOf
    rw [if_pos lt]
    rfl
  unfold entV
  rw [e, if_neg no]
theorem LogAt.ents (x : LogAt C L H g ro b ls rows) (u : But2 g ro H H')
    {rs : List Addr} {es : List En} (h : EnsAt H rs es) : EnsAt H' rs es :=
  h.keep fun _ _ e => u _ _ e (x.tup e).g (x.tup e).ro
end
end OM
namespace OM
open PySem PySem.Spec PyProof.Rows L2
theorem bl_nq {x : Bool} {A B : Prop} (h : B) :
    if (!decide (x = x)) = true then A else B := iteNS rfl h
theorem ref_at {rs : List Addr} {i : Nat} {v : V}
    (h : (rs.map V.ref)[i]? = some v) : ∃ r, rs[i]? = some r ∧ V.ref r = v := by
  rw [List.getElem?_map] at h
  cases e : rs[i]? with
  | none => rw [e] at h; cases h
  | some r => rw [e] at h; exact ⟨r, rfl, Option.some.inj h⟩
theorem word0 {C b e : Addr} {H : Hp} {ls : List (List Nat)}
    (hb : BaseAt C H b ls) (g : Good ls) (h : H e = some (.lst [])) :
    WordAt C H b e ls [] := ⟨hb, g, h, trivial, by simp⟩
theorem Wd.last {ls : List (List Nat)} {ws : List Nat} (h : Wd ls ls ws) :
    Wd ls ls ws.dropLast := by
  cases e : ws with
  | nil => trivial
  | cons w r =>
    have hne : w :: r ≠ [] := by simp
    rw [e, ← List.dropLast_concat_getLast hne] at h
    exact (Wd.app.mp h).1
theorem setx {xs : List V} {k : Nat} (h : k + 1 < xs.length) :
    (xs.set k xs[k + 1]).set (k + 1) xs[k] = exch xs k := by
  rw [set2 _ _ (by omega), exch_eq h]
section
variable {P : Program} {w : World} {K : PySem.W.Frag}
  {mg : Str → Option Value} {base : Heap} {C L : Addr}
theorem ok_wordof {f : Addr} {fd : FuncData} {k : Nat}
    (F : Fun K "word_of" "word_of" s_word_of f fd)
    (Mi : CalM P w K mg base L k "indexes" ["self"] (spLIxs C L)) :
    FnOk P w K mg base CX0 (k + 1) f fd ["log"] (spLIxs C L) := by
  refine F.ok sc_word_of (fun vs H Q E h => ?_)
    (fun cv A outer s H vs Q E hr h => ?_)
  · obtain ⟨g, ro, b, ls, rows, rfl, _⟩ := h
    rfl
  obtain ⟨g, ro, b, ls, rows, rfl, x, q⟩ := h
  refine ⟨_, pss_one (ps_ret (pe_calM0 Mi hr (pv 0))), ?_⟩
  obtain ⟨dx, cu, rs, h1, h2, h3, h4⟩ := x.ob
  exact ⟨_, rfl, g, dx, _, rfl, h1, lf_no _ _ _ (by decide +kernel)
    (by decide +kernel) (by decide +kernel), g, ro, b, ls, rows, rfl, x, q⟩
def spLists (C L : Addr) : Sp := fun vs H Q _ =>
  ∃ (b it g ro a : Addr) (ls : List (List Nat)) (rows : List En)
    (ws : List Nat), vs = [.ref b, .ref it, .ref g, .ref a] ∧
  LogAt C L H g ro b ls rows ∧ H it = some (.lst (ls.map vS)) ∧
  H a = some (.lst (vIs ws)) ∧ Wd ls ls ws ∧ ws.length ≤ 1000 ∧
  rows.length ≤ 1000 ∧ run ls ws = run ls (ixs rows) ∧ ∀ H', Same H H' → Q (.bl true) H'
theorem ok_lists {f : Addr} {fd : FuncData} {k : Nat}
    (F : Fun K "_law_lists_right" "_law_lists_right" s_Llists_right f fd)
    (B : Bl mg)
    (Cw : Cal P w K mg base k "order_of_word" ["base", "word"] (spOfW C))
    (Ci : Cal P w K mg base k "is_word" ["base", "value"] (spIsW C))
    (Co : Cal P w K mg base k "word_of" ["log"] (spLIxs C L))
    (Mn : CalM P w K mg base C k "names" ["self"] (spGetNames C))
    (Me : CalM P w K mg base L k "entries" ["self"] (spLEnt C L))
    (Mo : CalM P w K mg base L k "order" ["self"] (spLOrd C L)) :
    FnOk P w K mg base CX0 (k + 1) f fd ["_law_base", "_law_items", "_law_log",
      "_law_word"] (spLists C L) := by
  refine F.ok sc_Llists_right (fun vs H Q E h => ?_)
    (fun cv A outer s H vs Q E hr h => ?_)
  · obtain ⟨b, it, g, ro, a, ls, rows, ws, rfl, _⟩ := h
    rfl
  obtain ⟨b, it, g, ro, a, ls, rows, ws, rfl, x, hi, ha, wd, hw, hrw, er, q⟩ := h
  have nd := sc_Llists_right.nd
  refine ⟨_, C8.pss_cut (ps_set (i := 4) nd rfl (.inl rfl)
      (pe_cal Cw hr (pa_cons (pv 0) (pa_cons (pe_lst pa_nil) pa_nil))))
    (C8.pss_cut (ps_expr (pe_bm0 PySem.F.plainAttrs_list
        PySem.F.slot_list_reverse PySem.F.type_list_reverse mt_reverse (pv 4)))
    (C8.pss_cut (ps_expr (pe_bm PySem.F.plainAttrs_list
        PySem.F.slot_list_append PySem.F.type_list_append mt_append (pv 4)
        (pa_cons pe_str pa_nil)))
    (C8.pss_cut (ps_if (PW.pt (pw_or (pt_cmpR (op_neD hr.units)
          (pe_calM0 Mn hr (pv 0)) (pv 1) (nomark _))
        (pw_or1 (pt_cmpR (op_neD hr.units) (pe_cal Cw hr (pa_cons (pv 0)
          (pa_cons (pe_lst pa_nil) pa_nil))) (pv 1) (nomark _)))))
      (pss_one ps_never) pss_nil)
    (C8.pss_cut (ps_par (i := 5) (j := 6) (by rfl) nd rfl rfl (by decide) rfl
      rfl (pa_cons (pe_cal Co hr (pa_cons (pv 2) pa_nil))
        (pa_cons (pe_lc (own := [("_law_entry", 7)]) (g := gName 7) (tt := tYes)
          rfl nd (pi_list (pe_calM0 Me hr (pv 2)))
          (blkOk_by (N := N_Llists_right) (sc := defScope s_Llists_right)
            (by decide +kernel))
          (fun _ _ _ _ _ => pg_name (i := 7) nd rfl (Or.inl rfl))
          (fun _ _ _ _ _ => pts_nil)
          (fun _ _ _ _ _ => pe_ix (r := rIxT K) ix_tup (pv 7) pe_int
            (fun _ _ => rfl))) pa_nil)) (by rfl))
    (C8.pss_cut (ps_expr (pe_bm PySem.F.plainAttrs_list
        PySem.F.slot_list_append PySem.F.type_list_append mt_append (pv 5)
        (pa_cons pe_int pa_nil)))
    (C8.pss_cut (ps_if (PW.pt (pw_or (pt_cmpR (op_neD hr.units)
          (pe_cal Co hr (pa_cons (pv 2) pa_nil)) (pv 6) (nomark _))
        (pw_or1 (pt_cmpR (op_neD hr.units) (pe_calM0 Mo hr (pv 2))
          (pe_cal Cw hr (pa_cons (pv 0) (pa_cons (pv 6) pa_nil)))
          (nomark _)))))
      (pss_one ps_never) pss_nil)
    (C8.pss_cut (ps_par (i := 8) (j := 9) (by rfl) nd rfl rfl (by decide) rfl
      rfl (pa_cons (pe_callTy call_list_of (by rfl) B.list bt_list (pa_cons
          (pv 1) pa_nil)) (pa_cons (pe_callTy call_list_of (by rfl) B.list
          bt_list (pa_cons (pv 3) pa_nil)) pa_nil)) (by rfl))
    (C8.pss_cut (ps_if (PW.pt (pw_or (pt_cmpR op_notBl (pe_cal Ci hr (pa_cons
          (pv 0) (pa_cons (pv 9) pa_nil))) pe_bl (nomark _))
        (pw_or1 (pt_cmpR (op_neD hr.units) (pe_cal Cw hr (pa_cons (pv 0)
          (pa_cons (pv 9) pa_nil))) (pe_calM0 Mo hr (pv 2)) (nomark _)))))
      (pss_one ps_never) pss_nil)
    (C8.pss_cut (ps_if (pt_cmpR (op_neD hr.units) (pv 9) (pe_lst pa_nil)
        (nomark _))
      (pss_one (ps_expr (pe_bm0 PySem.F.plainAttrs_list PySem.F.slot_list_pop
        PySem.F.type_list_pop mt_pop (pv 9)))) pss_nil)
    (C8.pss_cut (ps_for PassesOwn.never rfl (pi_list (pv 9))
      (pg_name (i := 10) nd rfl (.inl rfl))
      (pss_one (ps_asg (pe_tup (pa_cons
          (pe_ix ix_list (pv 8) (pe_op op_add (pv 10) pe_int) (fun _ _ => rfl))
          (pa_cons (pe_ix ix_list (pv 8) (pv 10) (fun _ _ => rfl)) pa_nil)))
        (pg_tup rfl (pgs_cons (pg_sub (pv 8) (pv 10) set_list)
          (pgs_cons (pg_sub (pv 8) (pe_op op_add (pv 10) pe_int) set_list)
            pgs_nil))))))
    (pss_one (ps_ret (pe_and (pe_cmpR (op_eqD hr.units) (pe_cal Cw hr (pa_cons
          (pv 0) (pa_cons (pv 9) pa_nil))) (pv 8) (nomark _))
      (pe_one (pe_cmpR op_isBl (pe_cal Ci hr (pa_cons (pv 0) (pa_cons (pv 9)
        pa_nil))) pe_bl (nomark _)))))))))))))))), ?_⟩
  obtain ⟨dx, lo, d, h1, h2, h3⟩ := x.ba.ob
  obtain ⟨dg, cu, rg, h4, h5, h6, h7⟩ := x.ob
  have go := x.good
  have hhi := go.hi
  have li : (ixs rows).length = rows.length := List.length_map ..
  -- shown
  refine ⟨fun σ' H' => ∃ sh, σ' = [some (.ref b), some (.ref it), some (.ref g),
    some (.ref a), some (.ref sh), none, none, none, none, none, none] ∧
    H sh = none ∧ H' sh = some (.lst (ls.map vS)) ∧ Same H H', ?_, ?_⟩
  · refine ⟨_, rfl, sz (by simp), fun e ne => ?_⟩
    have z1 := sameNew (o := .lst []) ne
    exact ⟨b, e, ls, [], rfl, word0 (x.ba.same z1) go upd_same,
      fun o H1 no ho s1 => ⟨o, rfl, z1.free no, ho, z1.trans s1⟩⟩
  rintro _ H1 ⟨sh, rfl, nsh, hsh, s1⟩
  refine ⟨fun σ' H' => σ' = [some (.ref b), some (.ref it), some (.ref g),
    some (.ref a), some (.ref sh), none, none, none, none, none, none] ∧
    H' sh = some (.lst (ls.map vS).reverse) ∧ Same H H', ?_, ?_⟩
  · exact ⟨_, rfl, .inl ⟨rfl, _, SqL.of hsh⟩, sh, _, rfl, rfl, hsh, rfl, upd_same,
      OM.Same.put s1 nsh⟩
  clear hsh s1
  rintro _ H1 ⟨rfl, hsh, s1⟩
  refine ⟨fun σ' H' => σ' = [some (.ref b), some (.ref it), some (.ref g),
    some (.ref a), some (.ref sh), none, none, none, none, none, none] ∧
    Same H H', ?_, ?_⟩
  · refine ⟨_, rfl, .inl ⟨rfl, _, SqL.of hsh⟩, sh, _, _, rfl, rfl, hsh, ?_, rfl,
      OM.Same.put s1 nsh⟩
    rw [List.length_reverse, List.length_map]
    exact sz' (by omega)
  clear hsh s1
  rintro _ H1 ⟨rfl, s1⟩
  -- the base's own
  refine ⟨fun σ' H' => σ' = [some (.ref b), some (.ref it), some (.ref g),
    some (.ref a), some (.ref sh), none, none, none, none, none, none] ∧
    Same H H', ?_, ?_⟩
  · refine ⟨_, rfl, b, dx, _, rfl, s1 _ _ h1, bf_no _ _ (by decide +kernel)
      (by decide +kernel), b, ls, rfl, x.ba.same s1, fun n H2 nn hn s2 => ?_⟩
    have s12 := s1.trans s2
    refine ⟨_, rfl, _, _, dp_N (SqL.of hn), dp_N (SqL.of (s12 _ _ hi)),
      shaped_L go.uni, shaped_L go.uni, _, rfl, ?_⟩
    rw [eqv_L, decide_eq_true rfl]
    refine iteF ⟨_, rfl, sz (by simp), fun e ne => ?_⟩
    have z1 := sameNew (o := .lst []) ne
    refine ⟨b, e, ls, [], rfl, word0 (x.ba.same (s12.trans z1)) go upd_same,
      fun o H3 no ho s3 => ?_⟩
    have s13 := (s12.trans z1).trans s3
    refine ⟨_, rfl, _, _, dp_N (SqL.of ho), dp_N (SqL.of (s13 _ _ hi)),
      shaped_L go.uni, shaped_L go.uni, _, rfl, ?_⟩
    rw [show run ls [] = ls from rfl, eqv_L, decide_eq_true rfl]
    exact iteF ⟨rfl, s13⟩
  clear s1
  rintro _ H1 ⟨rfl, s1⟩
  -- the word of the log
  refine ⟨fun σ' H' => ∃ hd ix, σ' = [some (.ref b), some (.ref it),
    some (.ref g), some (.ref a), some (.ref sh), some (.ref hd),
    some (.ref ix), none, none, none, none] ∧ H hd = none ∧ hd ≠ ix ∧
    H' hd = some (.lst (vIs (ixs rows))) ∧
    H' ix = some (.lst (vIs (ixs rows))) ∧ Same H H', ?_, ?_⟩
  · refine ⟨_, rfl, g, ro, b, ls, rows, rfl, x.same s1,
      fun hd H2 nhd hhd s2 => ?_⟩
    have s12 := s1.trans s2
    refine ⟨_, rfl, g, dg, _, rfl, s12 _ _ h4, lf_no _ _ _ (by decide +kernel)
      (by decide +kernel) (by decide +kernel), g, ro, b, ls, rows, rfl,
      x.same s12, fun en rs H3 nen hen es s3 => ⟨en, rfl, ⟨_, SqL.of hen⟩,
      fun D nD => ?_⟩⟩
    have hhd3 := s3 _ _ hhd
    have neD : hd ≠ D := ne_of_none hhd3 nD
    have s13 := s12.trans s3
    refine lc_it (walk_list (K := K) (a := en) (xs := rs.map V.ref))
      (fun i H' => H' D = some (.lst (vIs ((ixs rows).take i))) ∧ Same H3 H')
      ⟨upd_same, sameNew nD⟩ (fun i H' _ z => SqL.of (z.2 _ _ hen)) ?_ ?_
    · rintro i v H4 H5 hi' ⟨hD, s4⟩ ⟨rfl, ev⟩
      obtain ⟨r, hr', rfl⟩ := ref_at ev
      have ll : rs.length = rows.length := es.len
      have il := (List.getElem?_eq_some_iff.mp hr').1
      obtain ⟨e, he⟩ : ∃ e, rows[i]? = some e :=
        ⟨_, List.getElem?_eq_getElem (by omega)⟩
      obtain ⟨r2, hr2, hre⟩ := es.get he
      cases Option.some.inj (hr2.symm.trans hr')
      have hx : (ixs rows)[i]? = some e.1 := by
        show (rows.map _)[i]? = _
        rw [List.getElem?_map, he]
        rfl
      refine ⟨rfl, yes ⟨_, rfl, r, _, 0, _, rfl, rfl, SqT.of (s4 _ _ hre), rfl,
        _, hD, ?_, ?_, OM.Same.put s4 nD⟩⟩
      · rw [List.length_map, List.length_take]
        exact sz' (by omega)
      · rw [upd_same, take_one hx]
        unfold vIs
        rw [List.map_append]
        rfl
    rintro H4 ⟨hD, s4⟩
    have ll : rs.length = rows.length := es.len
    rw [List.length_map, ll, ← li, List.take_length] at hD
    exact ⟨_, _, rfl, hd, D, rfl, s1.free nhd, neD, s4 _ _ hhd3, hD,
      s13.trans s4⟩
  clear s1
  rintro _ H1 ⟨hd, ix, rfl, nhd, nhi, hhd, hix, s1⟩
  refine ⟨fun σ' H' => σ' = [some (.ref b), some (.ref it),
    some (.ref g), some (.ref a), some (.ref sh), some (.ref hd),
    some (.ref ix), none, none, none, none] ∧
    H' ix = some (.lst (vIs (ixs rows))) ∧ Same H H', ?_, ?_⟩
  · refine ⟨_, rfl, .inl ⟨rfl, _, SqL.of hhd⟩, hd, _, _, rfl, rfl, hhd, ?_, rfl,
      ?_, OM.Same.put s1 nhd⟩
    · rw [List.length_map]
      exact sz' (by omega)
    · rw [upd_ne nhi.symm]
      exact hix
  clear hhd hix s1
  rintro _ H1 ⟨rfl, hix, s1⟩
  refine ⟨fun σ' H' => σ' = [some (.ref b), some (.ref it),
    some (.ref g), some (.ref a), some (.ref sh), some (.ref hd),
    some (.ref ix), none, none, none, none] ∧ Same H H', ?_, ?_⟩
  · refine ⟨_, rfl, g, ro, b, ls, rows, rfl, x.same s1,
      fun o H2 no ho s2 => ?_⟩
    have s12 := s1.trans s2
    have hix2 := s2 _ _ hix
    refine ⟨_, rfl, _, _, dp_I (SqL.of ho), dp_I (SqL.of hix2), shaped_K,
      shaped_K, _, rfl, ?_⟩
    rw [eqv_KL]
    refine iteF ⟨_, rfl, g, dg, _, rfl, s12 _ _ h4, lf_no _ _ _
      (by decide +kernel) (by decide +kernel) (by decide +kernel), g, ro, b, ls,
      rows, rfl, x.same s12, fun o2 H3 no2 ho2 s3 => ?_⟩
    have s13 := s12.trans s3
    refine ⟨_, rfl, _, rfl, b, ix, ls, ixs rows, rfl, ⟨x.ba.same s13, go,
      s3 _ _ hix2, x.wd, by omega⟩, fun o3 H4 no3 ho3 s4 => ?_⟩
    have gr : Good (run ls (ixs rows)) := go.perm (run_perm _ _)
    refine ⟨_, _, dp_N (SqL.of (s4 _ _ ho2)), dp_N (SqL.of ho3),
      shaped_L gr.uni, shaped_L gr.uni, _, rfl, ?_⟩
    rw [eqv_L, decide_eq_true rfl]
    exact iteF ⟨rfl, s13.trans s4⟩
  clear hix s1
  rintro _ H1 ⟨rfl, s1⟩
  -- now and held
  refine ⟨fun σ' H' => ∃ nw hl, σ' = [some (.ref b), some (.ref it),
    some (.ref g), some (.ref a), some (.ref sh), some (.ref hd),
    some (.ref ix), none, some (.ref nw), some (.ref hl), none] ∧ H nw = none ∧
    H hl = none ∧ nw ≠ hl ∧ H' nw = some (.lst (ls.map vS)) ∧
    H' hl = some (.lst (vIs ws)) ∧ Same H H', ?_, ?_⟩
  · refine ⟨_, rfl, it, _, rfl, .inl (SqL.of (s1 _ _ hi)), fun nw nnw => ?_⟩
    have z1 := sameNew (o := .lst (ls.map vS)) nnw
    have g1 : (upd H1 nw (.lst (ls.map vS))) nw = some (.lst (ls.map vS)) :=
      upd_same
    generalize upd H1 nw (.lst (ls.map vS)) = H2 at z1 g1 ⊢
    have s2 := s1.trans z1
    refine ⟨_, rfl, a, _, rfl, .inl (SqL.of (s2 _ _ ha)), fun hl nhl =>
      ⟨_, _, rfl, nw, hl, rfl, s1.free nnw, s2.free nhl, ne_of_none g1 nhl,
      sameNew nhl _ _ g1, upd_same, s2.trans (sameNew nhl)⟩⟩
  clear s1
  rintro _ H1 ⟨nw, hl, rfl, nnw, nhl, nwl, hnw, hhl, s1⟩
  have gw : Good (run ls ws) := go.perm (run_perm _ _)
  refine ⟨fun σ' H' => σ' = [some (.ref b), some (.ref it),
    some (.ref g), some (.ref a), some (.ref sh), some (.ref hd),
    some (.ref ix), none, some (.ref nw), some (.ref hl), none] ∧
    H' nw = some (.lst (ls.map vS)) ∧ H' hl = some (.lst (vIs ws)) ∧
    Same H H', ?_, ?_⟩
  · refine ⟨_, rfl, _, rfl, b, hl, ls, ws, rfl, ⟨x.ba.same s1, go, hhl, wd, hw⟩,
      fun H2 s2 => ⟨_, true, rfl, rfl, _, rfl, bl_nq ?_⟩⟩
    have s12 := s1.trans s2
    refine ⟨_, rfl, _, rfl, b, hl, ls, ws, rfl, ⟨x.ba.same s12, go, s2 _ _ hhl,
      wd, hw⟩, fun o H3 no ho s3 => ?_⟩
    have s13 := s12.trans s3
    refine ⟨_, rfl, g, dg, _, rfl, s13 _ _ h4, lf_no _ _ _
      (by decide +kernel) (by decide +kernel) (by decide +kernel), g, ro, b, ls,
      rows, rfl, x.same s13, fun o2 H4 no2 ho2 s4 => ?_⟩
    rw [← er] at ho2
    refine ⟨_, _, dp_N (SqL.of (s4 _ _ ho)), dp_N (SqL.of ho2),
      shaped_L gw.uni, shaped_L gw.uni, _, rfl, ?_⟩
    rw [eqv_L, decide_eq_true rfl]
    have s24 := (s2.trans s3).trans s4
    exact iteF ⟨rfl, s24 _ _ hnw, s24 _ _ hhl, s13.trans s4⟩
  clear hnw hhl s1
  rintro _ H1 ⟨rfl, hnw, hhl, s1⟩
  -- without its last
  refine ⟨fun σ' H' => ∃ us, σ' = [some (.ref b), some (.ref it),
    some (.ref g), some (.ref a), some (.ref sh), some (.ref hd),
    some (.ref ix), none, some (.ref nw), some (.ref hl), none] ∧
    H' nw = some (.lst (ls.map vS)) ∧ H' hl = some (.lst (vIs us)) ∧
    Wd ls ls us ∧ us.length ≤ 1000 ∧ Same H H', ?_, ?_⟩
  · refine ⟨_, rfl, sz (by simp), fun e ne => ?_⟩
    have z1 := sameNew (o := .lst []) ne
    have g1 : (upd H1 e (.lst [])) e = some (.lst []) := upd_same
    generalize upd H1 e (.lst []) = H2 at z1 g1 ⊢
    have hhl2 := z1 _ _ hhl
    refine ⟨_, _, dp_I (SqL.of hhl2), dp_I (ks := []) (SqL.of g1), shaped_K,
      shaped_K, _, rfl, ?_⟩
    rw [eqv_0]
    by_cases c : ws = []
    · rw [decide_eq_true c]
      exact iteF ⟨ws, rfl, z1 _ _ hnw, hhl2, wd, hw, s1.trans z1⟩
    · rw [decide_eq_false c]
      have lw : 0 < ws.length := by
        cases ws with
        | nil => exact absurd rfl c
        | cons u r => exact Nat.succ_pos _
      refine iteT ⟨_, rfl, .inl ⟨rfl, _, SqL.of hhl2⟩, hl, _,
        .int ((ws.getD (ws.length - 1) 0 : Nat) : Int), rfl, rfl, hhl2,
        ?_, ws.dropLast, rfl, ?_, ?_, wd.last, ?_, OM.Same.put (s1.trans z1) nhl⟩
      · rw [List.length_map]
        exact vat (by omega)
      · rw [upd_ne nwl]
        exact z1 _ _ hnw
      · rw [upd_same]
        unfold vIs
        rw [List.map_dropLast]
      · rw [List.length_dropLast]
        omega
  clear hnw hhl s1
  rintro _ H1 ⟨us, rfl, hnw, hhl, wu, lu, s1⟩
  refine ⟨fun σ' H' => ∃ y, σ' = [some (.ref b), some (.ref it),
    some (.ref g), some (.ref a), some (.ref sh), some (.ref hd),
    some (.ref ix), none, some (.ref nw), some (.ref hl), y] ∧
    H' nw = some (.lst ((run ls us).map vS)) ∧ H' hl = some (.lst (vIs us)) ∧
    Same H H', ?_, ?_⟩
  · refine ⟨_, rfl, hl, rfl, ⟨_, SqL.of hhl⟩, ?_⟩
    refine for_list (K := K) (a := hl) (xs := vIs us) (fun i σ H' =>
      ∃ y, σ = [some (.ref b), some (.ref it), some (.ref g), some (.ref a),
      some (.ref sh), some (.ref hd), some (.ref ix), none, some (.ref nw),
      some (.ref hl), y] ∧ H' nw = some (.lst ((run ls (us.take i)).map vS)) ∧
      H' hl = some (.lst (vIs us)) ∧ Same H H')
      ⟨none, rfl, hnw, hhl, s1⟩
      (fun i σ H' _ z => by obtain ⟨_, _, _, h, _⟩ := z; exact SqL.of h) ?_ ?_
    · clear hnw hhl s1
      rintro i v σ H2 hv ⟨y, rfl, hnw, hhl, s2⟩
      obtain ⟨m, hm, rfl⟩ := vIs_get hv
      obtain ⟨mx, _⟩ := wu.step hm
      have ol : ((run ls (us.take i)).map vS).length = ls.length := by
        rw [List.length_map, run_len]
      have tk : run ls (us.take (i + 1)) = exch (run ls (us.take i)) m := by
        rw [take_one hm, run_one]
      rw [tk, ← exch_map]
      generalize (run ls (us.take i)).map vS = xs at hnw ol ⊢
      refine ⟨_, rfl, _, rfl, _, _, rfl, rfl, nw, _, _, xs[m + 1], rfl, rfl,
        SqL.of hnw, atI_nat (j := m + 1) (List.getElem?_eq_getElem (by omega)),
        _, rfl, _, rfl, nw, _, _, xs[m], rfl, rfl, SqL.of hnw, atI_nat (j := m)
        (List.getElem?_eq_getElem (by omega)), sz (by simp), fun t2 n2 => ?_⟩
      have z2 := sameNew (o := .tup [xs[m + 1], xs[m]]) n2
      have g2 : (upd H2 t2 (.tup [xs[m + 1], xs[m]])) t2 =
        some (.tup [xs[m + 1], xs[m]]) := upd_same
      generalize upd H2 t2 (.tup [xs[m + 1], xs[m]]) = H3 at z2 g2 ⊢
      refine ⟨t2, _, rfl, .inl (.inl g2), rfl, _, _, rfl, _, rfl, _, rfl, nw, xs,
        m, m, rfl, rfl, z2 _ _ hnw, ixN_n (by omega), _, _, rfl, _, rfl, _, rfl,
        _, _, rfl, rfl, nw, _, ((m + 1 : Nat) : Int), m + 1, rfl, rfl, upd_same,
        ?_, rfl, _, rfl, ?_, ?_, ?_⟩
      · exact ixN_n (by rw [List.length_set]; omega)
      · rw [upd_same, setx (by omega)]
      · rw [upd_ne nwl.symm, upd_ne nwl.symm]
        exact z2 _ _ hhl
      · exact OM.Same.put (OM.Same.put (s2.trans z2) nnw) nnw
    · rintro σ H2 ⟨y, rfl, h8, h9, s2⟩
      rw [List.length_map, List.take_length] at h8
      exact ⟨y, rfl, h8, h9, s2⟩
  clear hnw hhl s1
  rintro _ H1 ⟨y, rfl, hnw, hhl, s1⟩
  have gu : Good (run ls us) := go.perm (run_perm _ _)
  refine ⟨_, rfl, _, rfl, b, hl, ls, us, rfl, ⟨x.ba.same s1, go, hhl, wu, lu⟩,
    fun o H2 no ho s2 => ?_⟩
  refine ⟨_, rfl, _, _, dp_N (SqL.of ho), dp_N (SqL.of (s2 _ _ hnw)),
    shaped_L gu.uni, shaped_L gu.uni, ?_⟩
  rw [eqv_L, decide_eq_true rfl]
  have s12 := s1.trans s2
  refine ⟨_, rfl, iteT ⟨_, rfl, _, rfl, b, hl, ls, us, rfl, ⟨x.ba.same s12, go,
    s2 _ _ hhl, wu, lu⟩, fun H3 s3 => ⟨_, true, rfl, rfl, q H3 (s12.trans s3)⟩⟩⟩
end
end OM
namespace OM
open PySem PySem.Spec PyProof.Rows L2
section
variable {X : Cx} {k : Nat} {ps : List Str} {sp : Sp} {x : Str} {C : Addr}
  {p pos : Pos} {e : Expr} {es : List Expr} {t : TA}
/-- a callee that may raise -/
structure CalX (P : Program) (w : World) (K : PySem.W.Frag)
    (mg : Str → Option Value) (base : Heap) (k : Nat) (x : Str)
    (ps : List Str) (sp : Sp) : Prop where
  ex : ∃ f fd, FnOk P w K mg base (L2.CX P w) k f fd ps sp ∧
    mg x = some (.ref f) ∧ PySem.W.keepIn K (.ref f) = true ∧
    Binds K fd ps []
/-- f(..), what leaves f leaves this def -/
theorem pe_calX {E : XK} {W : WX}
    (M : CalX X.prog X.w X.K X.mg X.base k x ps sp)
    (room : Room k X.A) (tk : Takes X W)
    (hW : ∀ cls d σ H, E cls d H → W cls d σ H) (ha : PA X (e :: es) t)
    (hg : Gl X x := by rfl)
    (h1 : (x == ("__debug__" : Str)) = false := by decide)
    (h2 : starEach (e :: es) X.env =
      (false, eval e X.env) :: starEach es X.env := by rfl)
    (h3 : (backTo pos (starEach es X.env)).any (·.1) = false := by rfl) :
    PE X (.Call (.Name x p) (e :: es) [] pos) (tCall sp [] E t) := by
  obtain ⟨f, fd, F, m, kp, b⟩ := M.ex
  exact pe_call F room hg m kp b .nil (passes_call tk hW) ha h1 h2 h3
/-- a class that is made, its __init__ may raise -/
structure CalCX (P : Program) (w : World) (K : PySem.W.Frag)
    (mg : Str → Option Value) (base : Heap) (C : Addr) (k : Nat) (x : Str)
    (ps : List Str) (sp : Sp) : Prop where
  mgC : mg x = some (.ref C)
  ex : ∃ f fd, FnOk P w K mg base (L2.CX P w) k f fd ps sp ∧ Mk K C f ∧
    Binds K fd ps []
def tMakeS (C : Addr) (sp : Sp) (E : L2.St → XK) (t : TA) : TE :=
  fun σ H Q => t σ H fun vs H1 => ∀ x dx, H1 x = none → H1 dx = none →
    dx ≠ x → sp (.ref x :: vs) (upd (upd H1 dx (.own x)) x (.ins C dx []))
      (fun v H2 => v = .non ∧ Q (.ref x) H2) (E σ)
theorem pe_makeS {E : L2.St → XK}
    (M : CalCX X.prog X.w X.K X.mg X.base C k x ps sp)
    (room : Room (k + 1) X.A)
    (hx : ∀ σ, PassesAt (L2.CX X.prog X.w) X σ (E σ))
    (ha : PA X (e :: es) t) (hg : Gl X x := by rfl)
    (h1 : (x == ("__debug__" : Str)) = false := by decide)
    (h2 : starEach (e :: es) X.env =
      (false, eval e X.env) :: starEach es X.env := by rfl)
    (h3 : (backTo pos (starEach es X.env)).any (·.1) = false := by rfl) :
    PE X (.Call (.Name x p) (e :: es) [] pos) (tMakeS C sp E t) := by
  obtain ⟨f, fd, F, mk, b⟩ := M.ex
  constructor
  intro pins s σ H Q I h
  refine wpAny_Call_Name_kw (ld_glob I hg M.mgC ?_ h1)
  refine PySem.W.callWith_K (h₀ := X.base) I.ok.mod.kin mk.kp
    (thn (ha.run pos pins s σ H _ I h) ?_) h2 h3
  rintro us s1 ⟨vs, H1, I1, r, q⟩
  refine ⟨I1.kIn, ?_⟩
  show wpAny _ _ (call (.ref C) us) _ _ s1
  let a := s1.heap.objs.size + 1
  have q1 := q a s1.heap.objs.size (I1.hok.fresh (Nat.le_succ _))
    (I1.hok.fresh (Nat.le_refl _)) (Nat.ne_of_lt (Nat.lt_succ_self _))
  have I2 := Inv.made (C := C) I1
  have rr : Vals (V.ref a :: vs) (Value.ref a :: us) := .cons rfl r
  have hl : (Value.ref a :: us).length = ps.length :=
    rr.length.symm.trans (F.len _ _ _ _ q1)
  have bd := b _ (Value.ref a :: us) I2.kIn (by
    rw [List.append_nil]; exact hl)
  rw [List.append_nil] at bd
  refine wpAny_call (make_map (f := f) I1.kIn mk.makes mk.init
    (beq_iff_eq.mp mk.fn) (codeAny_mono (F.run _ X.stack _ _
      ⟨Value.ref a :: us, []⟩ (Value.ref a :: us) _ _ (E σ)
      (room.make C us []) (I2.env0.make C us []) bd rr q1) ?_))
  intro r s' hq
  match r, hq with
  | .error e, hq => exact hx σ pins _ _ e s' I2 hq
  | .ok .next, hq => exact False.elim hq
  | .ok .brk, hq => exact False.elim hq
  | .ok .cont, hq => exact False.elim hq
  | .ok (.ret u), hq =>
    obtain ⟨v, H', I3, rv, ev, q3⟩ := I2.after hq
    subst ev
    exact ⟨rv, ⟨V.ref a, H', I3, rfl, q3⟩⟩
end
end OM
namespace OM
open PySem PySem.Spec PyProof.Rows L2
/-! ### data with small dicts -/
mutual
inductive DX (H : Hp) : V → PyData → Prop
  | non : DX H .non .none
  | bl (b : Bool) : DX H (.bl b) (.bool b)
  | int (i : Int) : DX H (.int i) (.int i)
  | str (x : Str) : DX H (.str x) (.str x)
  | lst {a : Addr} {xs : List V} {ds : List PyData} :
      H a = some (.lst xs) → DXs H xs ds → DX H (.ref a) (.list ds)
  | tup {a : Addr} {xs : List V} {ds : List PyData} :
      H a = some (.tup xs) → DXs H xs ds → DX H (.ref a) (.tuple ds)
  | d0 {a : Addr} : H a = some (.dK []) → DX H (.ref a) (.dict [])
  | d1 {a : Addr} {x : Str} {v : V} {d : PyData} :
      H a = some (.dK [(Sum.inr x, v)]) → DX H v d →
      DX H (.ref a) (.dict [(.str x, d)])
inductive DXs (H : Hp) : List V → List PyData → Prop
  | nil : DXs H [] []
  | cons {v : V} {vs : List V} {d : PyData} {ds : List PyData} :
      DX H v d → DXs H vs ds → DXs H (v :: vs) (d :: ds)
end
mutual
theorem DX.same {H H' : Hp} (s : Same H H') : ∀ (d : PyData) (v : V),
    DX H v d → DX H' v d
  | .none, _, h => by cases h; exact .non
  | .bool b, _, h => by cases h; exact .bl b
  | .int i, _, h => by cases h; exact .int i
  | .str x, _, h => by cases h; exact .str x
  | .list ds, _, h => by
    cases h with
    | lst e t => exact .lst (s _ _ e) (DXs.same s ds _ t)
  | .tuple ds, _, h => by
    cases h with
    | tup e t => exact .tup (s _ _ e) (DXs.same s ds _ t)
  | .dict [], _, h => by
    cases h with
    | d0 e => exact .d0 (s _ _ e)
  | .dict [(k, d)], _, h => by
    cases h with
    | d1 e t => exact .d1 (s _ _ e) (DX.same s d _ t)
  | .dict (_ :: _ :: _), _, h => by cases h
theorem DXs.same {H H' : Hp} (s : Same H H') : ∀ (ds : List PyData)
    (vs : List V), DXs H vs ds → DXs H' vs ds
  | [], _, h => by cases h; exact .nil
  | d :: ds, _, h => by
    cases h with
    | cons a t => exact .cons (DX.same s d _ a) (DXs.same s ds _ t)
end
section
variable {X : Cx} {pins : List (Addr × Obj)} {σ : L2.St} {H : Hp} {s : Shared}
theorem dict_parts {a : Addr} {kvs : List (Key × V)} (I : Inv X pins σ H s)
    (e : H a = some (.dK kvs)) : ∃ o es n vs, s.heap.get? a = some o ∧
      o.cls = .type "dict" ∧ o.data = .dict es n ∧
      Pairs (mixKind X.prog X.w) es.toList vs ∧ KV kvs vs := by
  obtain ⟨_, _, vs, kv, o, es, ep, h1, h2, h3, _, h5, _⟩ := dk_of I.hok e
  exact ⟨o, es, ep, vs, h1, h2.1, h3, h5, kv⟩
theorem keyIs_inr {x : Str} {v : Value} (h : keyIs (.inr x) v = true) :
    ∃ t, v = .str x t := by
  rcases keyIs_shape h with ⟨i, t, e, _⟩ | ⟨y, t, e, e2⟩
  · cases e
  · cases e; exact ⟨t, e2⟩
mutual
theorem DX.reads (I : Inv X pins σ H s) (hs : H sysModules = none) :
    ∀ (d : PyData) (v : V) (u : Value), DX H v d → RelV v u →
      ∃ as, Reads s.heap u d as ∧ sysModules ∉ as
  | .none, _, _, h, r => by
    cases h; cases r; exact ⟨_, Reads.none, by simp⟩
  | .bool b, _, _, h, r => by
    cases h; cases r; exact ⟨_, Reads.bool b, by simp⟩
  | .int i, _, _, h, r => by
    cases h; obtain ⟨t, rfl⟩ := r; exact ⟨_, Reads.int i t, by simp⟩
  | .str x, _, _, h, r => by
    cases h; obtain ⟨t, rfl⟩ := r; exact ⟨_, Reads.str x t, by simp⟩
  | .list ds, _, _, h, r => by
    cases h with
    | lst e t =>
      cases r
      obtain ⟨_, its, n, rv, ho⟩ := I.hok _ _ e
      obtain ⟨as, q, nm⟩ := DXs.reads I hs ds _ its t rv
      refine ⟨_, Reads.list ho rfl rfl (by simpa using q), ?_⟩
      intro m
      rcases List.mem_cons.mp m with z | z
      · rw [z, e] at hs; cases hs
      · exact nm z
  | .tuple ds, _, _, h, r => by
    cases h with
    | tup e t =>
      cases r
      obtain ⟨_, its, rv, o, ho, hc, n, hd⟩ := I.hok _ _ e
      obtain ⟨as, q, nm⟩ := DXs.reads I hs ds _ its t rv
      exact ⟨_, Reads.tuple ho hc hd (by simpa using q), nm⟩
  | .dict [], _, _, h, r => by
    cases h with
    | d0 e =>
      cases r
      obtain ⟨o, es, n, vs, h1, h2, h3, h4, kv⟩ := dict_parts I e
      cases kv
      have ez : es.toList = [] := by cases hz : es.toList with
        | nil => rfl
        | cons a b => rw [hz] at h4; cases h4
      refine ⟨_, Reads.dict (kvs := []) h1 h2 h3 (by rw [ez]; exact .nil)
        (by rw [ez]; exact .nil), ?_⟩
      intro m
      rcases List.mem_cons.mp m with z | z
      · rw [z, e] at hs; cases hs
      · cases z
  | .dict [(k, d)], _, _, h, r => by
    cases h with
    | d1 e t =>
      cases r
      obtain ⟨o, es, n, vs, h1, h2, h3, h4, kv⟩ := dict_parts I e
      cases kv with
      | cons p q =>
        cases q
        cases ez : es.toList with
        | nil => rw [ez] at h4; cases h4
        | cons en er =>
          rw [ez] at h4
          cases h4 with
          | cons k1 v1 r1 =>
            cases r1
            obtain ⟨p1, p2⟩ := p
            obtain ⟨as, rd, nm⟩ := DX.reads I hs d _ _ t p2
            rw [← p1] at k1
            obtain ⟨tk, ek⟩ := keyIs_inr k1
            refine ⟨_, Reads.dict (kvs := [(_, d)]) h1 h2 h3 (as := [])
              (bs := as ++ []) ?_ ?_, ?_⟩
            · rw [ez]
              show ReadsAll _ [en.key] [_] ([] ++ [])
              rw [ek]
              exact .cons (.str _ _) .nil
            · rw [ez]
              show ReadsAll _ [en.val] [d] _
              rw [v1]
              exact .cons rd .nil
            · intro m
              rcases List.mem_cons.mp m with z | z
              · rw [z, e] at hs; cases hs
              · have z' : sysModules ∈ ([] : List Addr) ++ (as ++ []) := z
                rw [List.nil_append, List.append_nil] at z'
                exact nm z'
  | .dict (_ :: _ :: _), _, _, h, _ => by cases h
theorem DXs.reads (I : Inv X pins σ H s) (hs : H sysModules = none) :
    ∀ (ds : List PyData) (vs : List V) (us : List Value), DXs H vs ds →
      Vals vs us → ∃ as, ReadsAll s.heap us ds as ∧ sysModules ∉ as
  | [], _, _, h, r => by
    cases h; cases r; exact ⟨_, ReadsAll.nil, by simp⟩
  | d :: ds, _, _, h, r => by
    cases h with
    | cons h1 h2 =>
      cases r with
      | cons r1 r2 =>
        obtain ⟨as, q1, n1⟩ := DX.reads I hs d _ _ h1 r1
        obtain ⟨bs, q2, n2⟩ := DXs.reads I hs ds _ _ h2 r2
        exact ⟨_, ReadsAll.cons q1 q2, fun m => (List.mem_append.mp m).elim n1 n2⟩
end
/-- repr(x) of data with small dicts -/
def rReprX : List V → Hp → VK → Prop := fun xs H Q =>
  ∃ v d, xs = [v] ∧ DX H v d ∧ d.showable = true ∧ d.depth ≤ 60 ∧
    d.shown.length ≤ sizeLine ∧ Q (.str d.shown) H
theorem call_reprX {k : Nat} (room : Room k X.A)
    (gd : X.A.guards = some [])
    (sm : ∃ o, X.base.get? sysModules = some o) :
    CallR X (.builtin "repr") rReprX := by
  intro pins s σ H xs us Q I r h
  obtain ⟨v, d, rfl, hd, sh, dp, sz, q⟩ := h
  cases r with
  | cons rv rn =>
    cases rn
    rename_i u
    obtain ⟨o, ho⟩ := sm
    have hs : H sysModules = none := (I.env0.bs _ o ho).2
    obtain ⟨as, rd, nm⟩ := DX.reads I hs d v u hd rv
    have un := room.units
    have key : ∀ a : Addr, u = .ref a → wpAny (model X.prog X.w) X.A
        (call (.builtin "repr") [u]) (EP X pins σ Q) X.xe s := by
      rintro a rfl
      refine repr_of_reads' rd sh (fun _ => nm) gd (by omega) (fun _ _ e => e)
        (fun h' u tk hk => ?_) sz
      exact ⟨.str _, H, I.kept hk, ⟨_, rfl⟩, q⟩
    cases hd with
    | non =>
      cases rv
      exact PySem.P.repr_of_none ⟨.str _, H, I.tok _, ⟨_, rfl⟩, q⟩
    | bl b =>
      cases rv
      exact PySem.P.repr_of_bool ⟨.str _, H, I.tok _, ⟨_, rfl⟩, q⟩
    | int i =>
      obtain ⟨t, rfl⟩ := rv
      refine PySem.P.repr_of_int ?_ ⟨.str _, H, I.tok _, ⟨_, rfl⟩, q⟩
      simpa [PyData.showable] using sh
    | str x =>
      obtain ⟨t, rfl⟩ := rv
      exact PySem.P.repr_of_str ⟨.str _, H, I.tok _, ⟨_, rfl⟩, q⟩ sz
    | lst a b => cases rv; exact key _ rfl
    | tup a b => cases rv; exact key _ rfl
    | d0 a => cases rv; exact key _ rfl
    | d1 a b => cases rv; exact key _ rfl
end
end OM
namespace OM
open PySem PySem.Spec PyProof.Rows L2
/-! ### repr, also of a dict from texts to 1, also in an except suite -/
def ones (ls : List (List Nat)) : List (Key × V) :=
  ls.map fun l => (Sum.inr (SX.S l), V.int 1)
def onesD (ls : List (List Nat)) : List (PyData × PyData) :=
  ls.map fun l => (.str (SX.S l), .int 1)
def DY (H : Hp) (v : V) (d : PyData) : Prop :=
  DX H v d ∨ ∃ (a : Addr) (ls : List (List Nat)), v = .ref a ∧
    H a = some (.dK (ones ls)) ∧ d = .dict (onesD ls)
mutual
theorem DX.ext {H H' : Hp} (s : LamX.ExtN H H') : ∀ (d : PyData) (v : V),
    DX H v d → DX H' v d
  | .none, _, h => by cases h; exact .non
  | .bool b, _, h => by cases h; exact .bl b
  | .int i, _, h => by cases h; exact .int i
  | .str x, _, h => by cases h; exact .str x
  | .list ds, _, h => by
    cases h with
    | lst e t => exact .lst (s _ _ e nofun) (DXs.ext s ds _ t)
  | .tuple ds, _, h => by
    cases h with
    | tup e t => exact .tup (s _ _ e nofun) (DXs.ext s ds _ t)
  | .dict [], _, h => by
    cases h with
    | d0 e => exact .d0 (s _ _ e nofun)
  | .dict [(k, d)], _, h => by
    cases h with
    | d1 e t => exact .d1 (s _ _ e nofun) (DX.ext s d _ t)
  | .dict (_ :: _ :: _), _, h => by cases h
theorem DXs.ext {H H' : Hp} (s : LamX.ExtN H H') : ∀ (ds : List PyData)
    (vs : List V), DXs H vs ds → DXs H' vs ds
  | [], _, h => by cases h; exact .nil
  | d :: ds, _, h => by
    cases h with
    | cons a t => exact .cons (DX.ext s d _ a) (DXs.ext s ds _ t)
end
theorem DY.ext {H H' : Hp} {v : V} {d : PyData} (h : DY H v d)
    (s : LamX.ExtN H H') : DY H' v d := by
  rcases h with h | ⟨a, ls, rfl, e, rfl⟩
  · exact .inl (DX.ext s d v h)
  · exact .inr ⟨a, ls, rfl, s _ _ e nofun, rfl⟩
theorem DY.same {H H' : Hp} {v : V} {d : PyData} (h : DY H v d)
    (s : Same H H') : DY H' v d := h.ext (LamX.ExtN.of s)
section
variable {X : Cx} {pins : List (Addr × Obj)} {σ : L2.St} {H : Hp} {s : Shared}
theorem ones_reads {h : Heap} {P : Program} {w : World} :
    ∀ (ls : List (List Nat)) (es : List DictEntry) (vs : List (Key × Value)),
    Pairs (mixKind P w) es vs → KV (ones ls) vs →
    ReadsAll h (es.map (·.key)) ((onesD ls).map (·.1)) [] ∧
    ReadsAll h (es.map (·.val)) ((onesD ls).map (·.2)) []
  | [], es, vs, p, k => by
    cases k
    cases p
    exact ⟨.nil, .nil⟩
  | l :: ls, es, vs, p, k => by
    cases k with
    | cons k1 k2 =>
      cases p with
      | cons p1 p2 p3 =>
        obtain ⟨a, b⟩ := ones_reads ls _ _ p3 k2
        obtain ⟨q1, q2⟩ := k1
        rw [← q1] at p1
        obtain ⟨tk, ek⟩ := keyIs_inr p1
        obtain ⟨ti, ei⟩ := q2
        refine ⟨?_, ?_⟩
        · rw [List.map_cons, ek]
          exact ReadsAll.cons (as := []) (bs := []) (.str _ _) a
        · rw [List.map_cons, p2, ei]
          exact ReadsAll.cons (as := []) (bs := []) (.int _ _) b
def rReprY : List V → Hp → VK → Prop := fun xs H Q =>
  ∃ v d, xs = [v] ∧ DY H v d ∧ d.showable = true ∧ d.depth ≤ 60 ∧
    d.shown.length ≤ sizeLine ∧ Q (.str d.shown) H
theorem call_reprY (un : X.A.units + 64 < cLine)
    (gd : X.A.guards = some [])
    (sm : ∃ o, X.base.get? sysModules = some o) :
    CallR X (.builtin "repr") rReprY := by
  intro pins s σ H xs us Q I r h
  obtain ⟨v, d, rfl, hd, sh, dp, sz, q⟩ := h
  cases r with
  | cons rv rn =>
    cases rn
    rename_i u
    obtain ⟨o, ho⟩ := sm
    have hs : H sysModules = none := (I.env0.bs _ o ho).2
    have key : ∀ (a : Addr) (as : List Addr), u = .ref a →
        Reads s.heap u d as → sysModules ∉ as →
        wpAny (model X.prog X.w) X.A
        (call (.builtin "repr") [u]) (EP X pins σ Q) X.xe s := by
      rintro a as rfl rd nm
      refine repr_of_reads' rd sh (fun _ => nm) gd (by omega) (fun _ _ e => e)
        (fun h' u tk hk => ?_) sz
      exact ⟨.str _, H, I.kept hk, ⟨_, rfl⟩, q⟩
    rcases hd with hd | ⟨a, ls, rfl, e, rfl⟩
    · obtain ⟨as, rd, nm⟩ := DX.reads I hs d v u hd rv
      cases hd with
      | non =>
        cases rv
        exact PySem.P.repr_of_none ⟨.str _, H, I.tok _, ⟨_, rfl⟩, q⟩
      | bl b =>
        cases rv
        exact PySem.P.repr_of_bool ⟨.str _, H, I.tok _, ⟨_, rfl⟩, q⟩
      | int i =>
        obtain ⟨t, rfl⟩ := rv
        refine PySem.P.repr_of_int ?_ ⟨.str _, H, I.tok _, ⟨_, rfl⟩, q⟩
        simpa [PyData.showable] using sh
      | str x =>
        obtain ⟨t, rfl⟩ := rv
        exact PySem.P.repr_of_str ⟨.str _, H, I.tok _, ⟨_, rfl⟩, q⟩ sz
      | lst a b => cases rv; exact key _ _ rfl rd nm
      | tup a b => cases rv; exact key _ _ rfl rd nm
      | d0 a => cases rv; exact key _ _ rfl rd nm
      | d1 a b => cases rv; exact key _ _ rfl rd nm
    · cases rv
      obtain ⟨o2, es, n, vs, h1, h2, h3, h4, kv⟩ := dict_parts I e
      obtain ⟨r1, r2⟩ := ones_reads (h := s.heap) ls es.toList vs h4 kv
      refine key a _ rfl (Reads.dict h1 h2 h3 r1 r2) fun m => ?_
      rcases List.mem_cons.mp m with z | z
      · rw [z, e] at hs
        cases hs
      · cases z
end
end OM
namespace OM
open PySem PySem.Spec PyProof.Rows L2
theorem bt_LEm : bootBuiltins "LookupError" = some (.type "LookupError") := by
  decide +kernel
theorem bt_VEm : bootBuiltins "ValueError" = some (.type "ValueError") := by
  decide +kernel
theorem bt_AEm : bootBuiltins "ArithmeticError" =
    some (.type "ArithmeticError") := by decide +kernel
theorem bt_rpm : bootBuiltins "repr" = some (.builtin "repr") := by
  decide +kernel
/-- what is known of the errors' classes -/
structure XV (K : PySem.W.Frag) (mg : Str → Option Value)
    (CM CC CI CW CO : Addr) : Prop where
  cM : XCl K CM
  mM : mg "InvalidMove" = some (.ref CM)
  mC : mg "InvalidCount" = some (.ref CC)
  mI : mg "InvalidIndex" = some (.ref CI)
  mW : mg "InvalidWord" = some (.ref CW)
  mO : mg "OrderError" = some (.ref CO)
  mE : mg "ValueError" = none
  mL : mg "LookupError" = none
  mA : mg "ArithmeticError" = none
  exM : PySem.W.exmOne K (.ref CM) (.ref CM) = some true
  kA : PySem.W.kitAny K (.ref CM) [.ref CC, .ref CI, .ref CW,
    .type "LookupError", .type "ArithmeticError"] = some false
  kO : PySem.W.kitOne K (.ref CM) (.ref CO) = some true
  kE : PySem.W.kitOne K (.ref CM) (.type "ValueError") = some true
  nM : PySem.W.findIn K (.ref CM) "value" = some none
theorem pss_ex2 {X : Cx} {ss : List Stmt} {α : Type} {c : α → Prop}
    {t : α → TS} (h : ∀ a, c a → PSs X ss (t a)) :
    PSs X ss (fun D σ H => ∃ a, c a ∧ t a D σ H) :=
  ⟨fun pins s σ H D I ⟨a, ca, w⟩ => (h a ca).run pins s σ H D I w⟩
def tLn (n : Nat) (t : TS) : TS := fun D σ H => σ.length = n → t D σ H
theorem pss_ln {X : Cx} {ss : List Stmt} {t : TS} {n : Nat}
    (hn : X.N.length = n) (h : PSs X ss t) : PSs X ss (tLn n t) :=
  ⟨fun pins s σ H D I w => h.run pins s σ H D I (w (I.len.trans hn))⟩
/-- an odd move is told -/
def spTold (K : PySem.W.Frag) (C : Addr) : Sp := fun vs H Q _ =>
  ∃ (b a : Addr) (v : V) (ls : List (List Nat)) (ws : List Nat) (e : PyData),
  vs = [.ref b, .ref a, v] ∧ WordAt C H b a ls ws ∧
  (∀ H', Same H H' → MvV K H' ws v false) ∧ DX H v e ∧ e.showable = true ∧
  e.depth ≤ 60 ∧ e.shown.length ≤ sizeLine ∧
  ∀ t H', H t = none → H' t = some (.tup [.str "move", .str e.shown]) →
    Same H H' → Q (.ref t) H'
section
variable {P : Program} {w : World} {K : PySem.W.Frag}
  {mg : Str → Option Value} {base : Heap} {C CM CC CI CW CO : Addr}
theorem ok_told {f : Addr} {fd : FuncData} {k : Nat}
    (F : Fun K "_law_told" "_law_told" s_Ltold f fd) (B : Bl mg)
    (T : XV K mg CM CC CI CW CO)
    (sm : ∃ o, base.get? sysModules = some o)
    (Ca : CalX P w K mg base k "apply_move" ["base", "word", "move"]
      (spApplyX K C CM)) :
    FnG P w K mg base CX0 (k + 1) f fd ["_law_base", "_law_word", "_law_move"]
      (spTold K C) := by
  refine okG F sc_Ltold (fun vs H Q E h => ?_)
    (fun cv A outer s H vs Q E hr gd h => ?_)
  · obtain ⟨b, a, v, ls, ws, e, rfl, _⟩ := h
    rfl
  obtain ⟨b, a, v, ls, ws, e, rfl, wo, mv, dx, d1, d2, d3, q⟩ := h
  have nd := sc_Ltold.nd
  have un := hr.units
  refine ⟨_, pss_cons (ps_set (i := 3) nd rfl (.inl rfl)
      (pe_tup (pa_cons pe_str (pa_cons pe_non pa_nil))))
    (pss_cons (ps_try_as (i := 4) rfl rfl nd rfl rfl
        ⟨rfl, by decide, .inl T.mM⟩ takes0
      (fun W pn xe tk _ => pss_ex2 (α := XK)
        (c := fun Ech => ∀ cls d σ' H', Ech cls d H' → W cls d σ' H')
        fun Ech hW => pss_one (ps_set (i := 3) nd rfl (.inl rfl)
        (pe_tup (pa_cons pe_str (pa_cons (pe_calX (E := Ech) Ca hr tk hW
          (pa_cons (pv 0) (pa_cons (pv 1) (pa_cons (pv 2) pa_nil))))
          pa_nil)))))
      (fun a oe cls d pn hz hf => pss_ln
        (X := (cxOf CX0 P w K mg base N_Ltold "_law_told" (defScope s_Ltold) f
          cv A outer s H E).nox.suite a ((a, oe) :: pn)) (n := 6) rfl
        (pss_cons (ps_set (i := 5) nd rfl (.inl rfl)
        (pe_callB (call_isXT hz hf) (by rfl) B.isi bt_isi
          (pa_cons (pv 4) (pa_cons (pe_tup (pa_cons
            (pe_glob (v := .ref CC) (by rfl) T.mC rfl) (pa_cons
            (pe_glob (v := .ref CI) (by rfl) T.mI rfl) (pa_cons
            (pe_glob (v := .ref CW) (by rfl) T.mW rfl) (pa_cons
            (pe_bltn (v := .ty "LookupError") (by rfl) T.mL bt_LEm rfl)
            (pa_cons (pe_bltn (v := .ty "ArithmeticError") (by rfl) T.mA bt_AEm
              rfl) pa_nil)))))) pa_nil))))
      (pss_one (ps_if (PW.pt (pw_and (pt_val
          (pe_callB (call_isX hz hf) (by rfl) B.isi bt_isi
            (pa_cons (pv 4) (pa_cons (pe_glob (v := .ref CO) (by rfl) T.mO rfl)
              pa_nil))))
          (pw_and (pt_val (pe_callB (call_isX hz hf) (by rfl) B.isi bt_isi
            (pa_cons (pv 4) (pa_cons (pe_bltn (v := .ty "ValueError") (by rfl)
              T.mE bt_VEm rfl) pa_nil))))
          (pw_and1 (pt_not (pt_val (pv 5)))))))
        (pss_one (ps_set (i := 3) nd rfl (.inl rfl) (pe_tup (pa_cons pe_str
          (pa_cons (pe_callB (call_reprY un gd sm) (by rfl) B.repr bt_rpm
            (pa_cons (pe_xf T.cM.xf T.nM hz hf (pv 4)) pa_nil)) pa_nil)))))
        pss_nil)))))
    (pss_one (ps_ret (pv 3)))), ?_⟩
  refine ⟨by show 2 ≤ sizeLine; decide, fun p0 n0 => ?_⟩
  have s1 : Same H (upd H p0 (.tup [.str "other", .non])) := sameNew n0
  generalize upd H p0 (.tup [.str "other", .non]) = H1 at s1 ⊢
  refine ⟨fun cls d H' => ∃ dd, cls = .ref CM ∧ d = some dd ∧
    H' dd = some (.xd [("value", v)]) ∧ Same H H', ?_, ?_⟩
  · rintro cls d σ' H' ⟨dd, rfl, rfl, hd, s2⟩
    refine ⟨true, T.exM, fun _ a na => ?_, fun z => nomatch z⟩
    intro hl
    rw [List.length_set] at hl
    obtain ⟨y0, y1, y2, y3, y4, y5, rfl⟩ : ∃ y0 y1 y2 y3 y4 y5,
        σ' = [y0, y1, y2, y3, y4, y5] := by
      match σ', hl with
      | [y0, y1, y2, y3, y4, y5], _ => exact ⟨_, _, _, _, _, _, rfl⟩
    refine ⟨_, rfl, by show 5 ≤ sizeLine; decide, fun tp ntp => ?_⟩
    have s3 := s2.trans (sameNew (o := .tup [.ref CC, .ref CI, .ref CW,
      .ty "LookupError", .ty "ArithmeticError"]) ntp)
    have hd4 : ∀ o, (upd H' tp o) dd = some (.xd [("value", v)]) := fun o => by
      rw [upd_ne (ne_of_none hd ntp)]; exact hd
    refine ⟨CM, dd, tp, _, _, _, false, T.cM, rfl, rfl, hd4 _, rfl, upd_same,
      .cons (.own _) (.cons (.own _) (.cons (.own _) (.cons (.ty _)
        (.cons (.ty _) .nil)))), T.kA, ?_⟩
    refine ⟨_, rfl, CM, dd, _, _, _, true, T.cM, rfl, rfl, hd4 _, rfl, .own _,
      T.kO, _, rfl, iteT ?_⟩
    refine ⟨_, rfl, CM, dd, _, _, _, true, T.cM, rfl, rfl, hd4 _, rfl, .ty _,
      T.kE, _, rfl, iteT ?_⟩
    refine ⟨_, rfl, _, rfl, iteT ?_⟩
    refine ⟨_, rfl, rfl, rfl, dd, _, _, rfl, hd4 _, rfl, v, e, rfl,
      .inl (DX.same s3 _ _ dx), d1, d2, d3, by show 2 ≤ sizeLine; decide,
      fun t nt => ?_⟩
    exact ⟨_, rfl, q t _ (s3.free nt) upd_same (s3.trans (sameNew nt))⟩
  · refine ⟨_, rfl, _, rfl, _, rfl, b, a, v, ls, ws, rfl, wo.same s1,
      fun H' s' => mv H' (s1.trans s'), fun d H' n e' s' =>
      ⟨d, rfl, rfl, e', s1.trans s'⟩⟩
end
end OM
namespace OM
open PySem PySem.Spec PyProof.Rows L2
/-- one of the options -/
def spChoice (K : PySem.W.Frag) : Sp := fun vs H Q _ =>
  ∃ (p a : Addr) (xs : List V), vs = [.ref p, .ref a] ∧ Rng H p ∧
  SqL K H a xs ∧ a ≠ p ∧ 0 < xs.length ∧ xs.length ≤ 1000 ∧
  ∀ (x : V) (H' : Hp), x ∈ xs → Rng H' p → But p H H' → Q x H'
section
variable {P : Program} {w : World} {K : PySem.W.Frag}
  {mg : Str → Option Value} {base : Heap}
theorem ok_choice {f : Addr} {fd : FuncData} {k : Nat}
    (F : Fun K "_law_choice" "_law_choice" s_Lchoice f fd) (B : Bl mg)
    (Cd : CalDraw P w K mg base k) :
    FnOk P w K mg base CX0 (k + 1) f fd ["_law_rng_here", "_law_options"]
      (spChoice K) := by
  refine F.ok sc_Lchoice (fun vs H Q E h => ?_)
    (fun cv A outer s H vs Q E hr h => ?_)
  · obtain ⟨p, a, xs, rfl, _⟩ := h
    rfl
  obtain ⟨p, a, xs, rfl, rg, hS, nap, h0, h1, q⟩ := h
  refine ⟨_, pss_one (ps_ret (pe_ix ix_list (pv 1) (pe_cal Cd hr
    (pa_cons (pv 0) (pa_cons (pe_callB call_len_seq (by rfl) B.len
      PySem.boot_len (pa_cons (pv 1) pa_nil)) pa_nil))) (fun _ _ => rfl))), ?_⟩
  refine ⟨_, rfl, _, rfl, _, rfl, a, _, rfl, .inl hS, p, xs.length, rfl, rg,
    by omega, by omega, fun d H1 d0 d1 rg1 b1 => ?_⟩
  have hd : d.toNat < xs.length := by omega
  have ed : d = ((d.toNat : Nat) : Int) := by omega
  refine ⟨a, xs, d, xs[d.toNat], rfl, rfl, b1.seq hS nap, ?_,
    q _ H1 (List.getElem_mem hd) rg1 b1⟩
  have := atI_nat (List.getElem?_eq_getElem hd)
  rw [← ed] at this
  exact this
end
end OM
namespace OM
open PySem PySem.Spec PyProof.Rows L2
/-- a value that is no move, as data, whatever is drawn -/
structure OddV (K : PySem.W.Frag) (p : Addr) (H : Hp) (ws : List Nat) (v : V)
    (e : PyData) : Prop where
  dx : ∀ H', But p H H' → DX H' v e
  sh : e.showable = true
  dp : e.depth ≤ 60
  sz : e.shown.length ≤ 1000
  ly : SeqAt.shaped (.tuple [.str "move", .str e.shown]) = true
  mv : ∀ H', But p H H' → MvV K H' ws v false
theorem OddV.but {K : PySem.W.Frag} {p : Addr} {H H' : Hp} {ws : List Nat}
    {v : V} {e : PyData} (o : OddV K p H ws v e) (s : But p H H') :
    OddV K p H' ws v e :=
  ⟨fun H2 s2 => o.dx H2 (s.trans s2), o.sh, o.dp, o.sz, o.ly,
    fun H2 s2 => o.mv H2 (s.trans s2)⟩
theorem cut_mm {xs : List V} {lo hi : Option Int} {x : V}
    (h : x ∈ cutV xs lo hi) : x ∈ xs :=
  List.mem_of_mem_drop (List.mem_of_mem_take h)
theorem MvsAt.mem {H : Hp} : ∀ {rs : List Addr} {ms : List Mv} {r : Addr},
    MvsAt H rs ms → r ∈ rs → ∃ m ∈ ms, MvAt H r m.1 m.2
  | _, _, _, .nil, h => by simp at h
  | _, _, _, .cons a t, h => by
    rcases List.mem_cons.mp h with rfl | h
    · exact ⟨_, List.mem_cons_self, a⟩
    · obtain ⟨m, h1, h2⟩ := MvsAt.mem t h
      exact ⟨m, List.mem_cons_of_mem _ h1, h2⟩
/-- values that are no moves -/
def spOdds (K : PySem.W.Frag) : Sp := fun vs H Q _ =>
  ∃ (p a : Addr) (ws : List Nat), vs = [.ref p, .ref a] ∧ Rng H p ∧
  H a = some (.lst (vIs ws)) ∧ a ≠ p ∧ ws.length ≤ 1000 ∧
  ∀ (q : Addr) (xs : List V) (H' : Hp), H q = none → H' q = some (.lst xs) →
    0 < xs.length → xs.length ≤ 1000 → (∀ v ∈ xs, ∃ e, OddV K p H' ws v e) →
    Rng H' p → But p H H' → q ≠ p → Q (.ref q) H'
def spWR (C : Addr) : Sp := fun vs H Q _ =>
  ∃ (p b a o : Addr) (ls : List (List Nat)) (ws : List Nat),
  vs = [.ref p, .ref b, .ref a, .ref o] ∧ Rng H p ∧ WordAt C H b a ls ws ∧ a ≠ p ∧
  H o = some (.lst ((run ls ws).map vS)) ∧
  ∀ H', Rng H' p → But p H H' → Q (.bl true) H'
section
variable {P : Program} {w : World} {K : PySem.W.Frag}
  {mg : Str → Option Value} {base : Heap} {C CM CC CI CW CO : Addr}
theorem ok_wr {f : Addr} {fd : FuncData} {k : Nat}
    (F : Fun K "_law_word_right" "_law_word_right" s_Lword_right f fd)
    (B : Bl mg) (sm : ∃ o, base.get? sysModules = some o)
    (Ci : Cal P w K mg base k "is_word" ["base", "value"] (spIsW C))
    (Cw : Cal P w K mg base k "order_of_word" ["base", "word"] (spOfW C))
    (Cc : Cal P w K mg base k "_law_choice" ["_law_rng_here", "_law_options"]
      (spChoice K))
    (Co : CalG P w K mg base k "_law_odd_moves" ["_law_rng_here", "_law_word"]
      (spOdds K))
    (Ct : CalG P w K mg base k "_law_told" ["_law_base", "_law_word",
      "_law_move"] (spTold K C))
    (Cm : Cal P w K mg base k "_law_moves" ["_law_word"] spLMoves)
    (Cd : Cal P w K mg base k "_law_moved" ["_law_word", "_law_move"] spLMoved)
    (Ca : Cal P w K mg base k "apply_move" ["base", "word", "move"]
      (spApply C)) :
    FnG P w K mg base CX0 (k + 1) f fd ["_law_rng_here", "_law_base",
      "_law_word", "_law_order"] (spWR C) := by
  refine okG F sc_Lword_right (fun vs H Q E h => ?_)
    (fun cv A outer s H vs Q E hr gd h => ?_)
  · obtain ⟨p, b, a, o, ls, ws, rfl, _⟩ := h
    rfl
  obtain ⟨p, b, a, o, ls, ws, rfl, rg, wo, nap, ho, q⟩ := h
  have nd := sc_Lword_right.nd
  have un := hr.units
  refine ⟨_, C8.pss_cut (ps_set (i := 4) nd rfl (.inl rfl)
      (pe_callTy call_list_of (by rfl) B.list bt_list (pa_cons (pv 2) pa_nil)))
    (C8.pss_cut (ps_if (PW.pt (pw_or (pt_cmpR op_notBl (pe_cal Ci hr (pa_cons
          (pv 1) (pa_cons (pv 2) pa_nil))) pe_bl (nomark _))
        (pw_or1 (pt_cmpR op_ne (pe_callB (call_reprD hr gd) (by rfl) B.repr
          bt_repr (pa_cons (pe_cal Cw hr (pa_cons (pv 1) (pa_cons (pv 2)
            pa_nil))) pa_nil)) (pe_callB (call_reprD hr gd) (by rfl) B.repr
          bt_repr (pa_cons (pv 3) pa_nil)) (nomark _)))))
      (pss_one ps_never) pss_nil)
    (C8.pss_cut (ps_set (i := 5) nd rfl (.inl rfl) (pe_cal Cc hr (pa_cons
      (pv 0) (pa_cons (pe_calG Co hr gd (pa_cons (pv 0) (pa_cons (pv 2)
        pa_nil))) pa_nil))))
    (C8.pss_cut (ps_if (PW.pt (pw_or (pt_cmpR (op_neD hr.units)
          (pe_calG Ct hr gd (pa_cons (pv 1) (pa_cons (pv 2) (pa_cons (pv 5)
            pa_nil))))
          (pe_tup (pa_cons pe_str (pa_cons (pe_callB (call_reprY un gd sm)
            (by rfl) B.repr bt_rpm (pa_cons (pv 5) pa_nil)) pa_nil)))
          (nomark _))
        (pw_or1 (pt_cmpR (op_neD hr.units) (pv 2) (pv 4) (nomark _)))))
      (pss_one ps_never) pss_nil)
    (C8.pss_cut (ps_for PassesOwn.never rfl
      (pi_list (pe_slice sl_list (pe_cal Cm hr (pa_cons (pv 2) pa_nil)) po_none
        (po_some pe_int)))
      (pg_name (i := 6) nd rfl (.inl rfl))
      (pss_cons (ps_set (i := 7) nd rfl (.inl rfl) (pe_cal Ca hr (pa_cons
        (pv 1) (pa_cons (pv 2) (pa_cons (pv 6) pa_nil)))))
      (pss_cons (ps_if (PW.pt (pw_or (pt_cmpR op_ne
            (pe_callB (call_reprD hr gd) (by rfl) B.repr bt_repr
              (pa_cons (pv 7) pa_nil))
            (pe_callB (call_reprD hr gd) (by rfl) B.repr bt_repr
              (pa_cons (pe_cal Cd hr (pa_cons (pv 4) (pa_cons (pv 6)
                pa_nil))) pa_nil)) (nomark _))
          (pw_or (pt_cmpR (op_neD hr.units) (pv 2) (pv 4) (nomark _))
          (pw_or1 (pt_cmpR (op_neD hr.units) (pe_cal Cw hr (pa_cons (pv 1)
            (pa_cons (pv 7) pa_nil))) (pv 3) (nomark _))))))
        (pss_one ps_never) pss_nil)
      (pss_one (ps_expr (pe_bm PySem.F.plainAttrs_list
        PySem.F.slot_list_append PySem.F.type_list_append mt_append (pv 7)
        (pa_cons (pe_un un_neg pe_int) pa_nil)))))))
    (pss_one (ps_ret (pe_cmpR (op_eqD hr.units) (pv 2) (pv 4)
      (nomark _)))))))), ?_⟩
  have go := wo.good
  have gr : Good (run ls ws) := go.perm (run_perm _ _)
  have nop := neRng rg ho
  have sm2 : ∀ i ∈ ws, i < 1601 := fun i hi => by
    have := wo.wd.ixs i hi
    have := go.hi
    omega
  refine ⟨fun σ' H' => ∃ kp, σ' = [some (.ref p), some (.ref b), some (.ref a),
    some (.ref o), some (.ref kp), none, none, none] ∧ kp ≠ p ∧
    H' kp = some (.lst (vIs ws)) ∧ Same H H', ?_, ?_⟩
  · exact ⟨_, rfl, a, _, rfl, .inl (SqL.of wo.li), fun kp nk => ⟨kp, rfl,
      (rg.ne nk).symm, upd_same, sameNew nk⟩⟩
  rintro _ H1 ⟨kp, rfl, nkp, hk, s1⟩
  refine ⟨fun σ' H' => σ' = [some (.ref p), some (.ref b), some (.ref a),
    some (.ref o), some (.ref kp), none, none, none] ∧
    H' kp = some (.lst (vIs ws)) ∧ Same H H', ?_, ?_⟩
  · refine ⟨_, rfl, _, rfl, b, a, ls, ws, rfl, wo.same s1, fun H2 s2 =>
      ⟨_, true, rfl, rfl, _, rfl, bl_nq ?_⟩⟩
    have s12 := s1.trans s2
    refine ⟨_, rfl, _, rfl, b, a, ls, ws, rfl, wo.same s12,
      fun o2 H3 no2 ho2 s3 => ?_⟩
    have s13 := s12.trans s3
    refine ⟨_, _, rfl, dp_N (SqL.of ho2), showable_L _,
      Nat.le_trans (depth_L _) (by decide), gr.shown, _, rfl, _, _, rfl,
      dp_N (SqL.of (s13 _ _ ho)), showable_L _,
      Nat.le_trans (depth_L _) (by decide), gr.shown, ?_⟩
    generalize (PyData.list (dN (run ls ws))).shown = tx
    exact ⟨rfl, _, rfl, ne_no ⟨rfl, s3 _ _ (s2 _ _ hk), s13⟩⟩
  clear hk s1
  rintro _ H1 ⟨rfl, hk, s1⟩
  refine ⟨fun σ' H' => ∃ v e, σ' = [some (.ref p), some (.ref b), some (.ref a),
    some (.ref o), some (.ref kp), some v, none, none] ∧ OddV K p H' ws v e ∧
    H' kp = some (.lst (vIs ws)) ∧ WordAt C H' b a ls ws ∧
    H' o = some (.lst ((run ls ws).map vS)) ∧ Rng H' p ∧ But p H H', ?_, ?_⟩
  · have rg1 := rg.same s1
    refine ⟨_, rfl, _, rfl, _, rfl, p, a, ws, rfl, rg1, s1 _ _ wo.li, nap, wo.hi,
      fun ol xs H2 nl hl l0 l1 od rg2 b2 nlp => ?_⟩
    refine ⟨p, ol, xs, rfl, rg2, SqL.of hl, nlp, l0, l1,
      fun v H3 hv rg3 b3 => ?_⟩
    obtain ⟨e, oe⟩ := od v hv
    have b23 := b2.trans b3
    have wo1 := wo.same s1
    exact ⟨v, e, rfl, oe.but b3, b23 _ _ hk nkp, ⟨wo1.ba.but rg1 b23, go,
      b23 _ _ wo1.li nap, wo.wd, wo.hi⟩, b23 _ _ (s1 _ _ ho) nop, rg3,
      (But.of s1).trans b23⟩
  clear hk s1
  rintro _ H1 ⟨v, e, rfl, oe, hk, wo1, ho1, rg1, b1⟩
  have dW : ∀ {H' : Hp} {x : Addr}, H' x = some (.lst (vIs ws)) →
      Dp K H' (.ref x) (.list (dIs ws)) := fun h => dp_I (SqL.of h)
  refine ⟨fun σ' H' => σ' = [some (.ref p), some (.ref b), some (.ref a),
    some (.ref o), some (.ref kp), some v, none, none] ∧ Same H1 H', ?_, ?_⟩
  · refine ⟨_, rfl, _, rfl, _, rfl, b, a, v, ls, ws, e, rfl, wo1,
      fun H' s' => oe.mv H' (But.of s'), oe.dx H1 (But.refl H1), oe.sh, oe.dp,
      sz (by have := oe.sz; omega), fun t H2 nt ht s2 => ?_⟩
    refine ⟨_, rfl, v, e, rfl, .inl (oe.dx H2 (But.of s2)), oe.sh, oe.dp,
      sz (by have := oe.sz; omega), by show 2 ≤ sizeLine; decide,
      fun t2 nt2 => ?_⟩
    have z3 := sameNew (o := .tup [.str "move", .str e.shown]) nt2
    have g3 : (upd H2 t2 (.tup [.str "move", .str e.shown])) t2 =
      some (.tup [.str "move", .str e.shown]) := upd_same
    generalize upd H2 t2 (.tup [.str "move", .str e.shown]) = H3 at z3 g3 ⊢
    have ly := oe.ly
    generalize e.shown = tx at ly ht g3
    refine ⟨.tuple [.str "move", .str tx], .tuple [.str "move", .str tx],
      .tup (SqT.of (z3 _ _ ht)) (.cons (.str _) (.cons (.str _) .nil)),
      .tup (SqT.of g3) (.cons (.str _) (.cons (.str _) .nil)), ly, ly, _, rfl,
      ?_⟩
    have ev : PyData.eqv (.tuple [.str "move", .str tx])
        (.tuple [.str "move", .str tx]) = true := by
      simp [PyData.eqv, PyData.eqvAll]
    rw [ev]
    have s23 := s2.trans z3
    refine iteF ⟨_, rfl, _, rfl, _, _, dW (s23 _ _ wo1.li), dW (s23 _ _ hk),
      shaped_K, shaped_K, _, rfl, ?_⟩
    rw [eqv_KL]
    exact iteF ⟨rfl, s23⟩
  clear oe
  rintro _ H2 ⟨rfl, s2⟩
  have wo2 := wo1.same s2
  have hk2 := s2 _ _ hk
  have ho2 := s2 _ _ ho1
  refine ⟨fun σ' H' => ∃ y6 y7, σ' = [some (.ref p), some (.ref b),
    some (.ref a), some (.ref o), some (.ref kp), some v, y6, y7] ∧
    Same H2 H', ?_, ?_⟩
  · refine ⟨_, rfl, a, ws, rfl, wo2.li, wo2.hi, fun ml rs H3 nm hm ms s3 => ?_⟩
    refine ⟨6, rfl, ml, _, rfl, SqL.of hm, fun c nc => ⟨c, rfl,
      ⟨_, SqL.of upd_same⟩, ?_⟩⟩
    generalize hxs : cutV (rs.map V.ref) none (some 6) = xs
    have hx : ∀ x ∈ xs, ∃ r ∈ rs, x = .ref r := fun x hx => by
      rw [← hxs] at hx
      obtain ⟨r, z1, z2⟩ := List.mem_map.mp (cut_mm hx)
      exact ⟨r, z1, z2.symm⟩
    have nc2 := s3.free nc
    refine for_list (K := K) (a := c) (xs := xs) (fun _ σ H' =>
      ∃ y6 y7, σ = [some (.ref p), some (.ref b), some (.ref a), some (.ref o),
        some (.ref kp), some v, y6, y7] ∧ H' c = some (.lst xs) ∧ Same H3 H')
      ⟨none, none, rfl, upd_same, sameNew nc⟩
      (fun _ σ H' _ z => by obtain ⟨_, _, _, h, _⟩ := z; exact SqL.of h) ?_ ?_
    · rintro i x σ H4 hv ⟨y6, y7, rfl, hc4, s4⟩
      obtain ⟨r, hr', rfl⟩ := hx x (List.mem_of_getElem? hv)
      obtain ⟨⟨cc, kk'⟩, hmm, hat⟩ := ms.mem hr'
      have im : IsMv ws cc kk' := mvs_is.mp hmm
      obtain ⟨wd', er⟩ := im.wd wo2.wd
      have ln := mvd_len im
      have s24 := s3.trans s4
      have at4 : MvAt H4 r cc kk' := s4 _ _ hat
      refine ⟨_, rfl, _, rfl, _, rfl, b, a, r, ls, ws, cc, kk', rfl,
        wo2.same s24, at4, im, fun td H5 ntd htd s5 => ?_⟩
      have s25 := s24.trans s5
      have sm3 : ∀ i ∈ mvd ws cc kk', i < 1601 := fun i hi => by
        have := wd'.ixs i hi
        have := go.hi
        omega
      obtain ⟨w1, w2, w3⟩ := ints_ok sm3 (by have := wo.hi; omega)
      refine ⟨_, rfl, _, _, rfl, dp_I (SqL.of htd), w1, w2, w3, _, rfl, _, rfl,
        kp, r, ws, cc, kk', rfl, s25 _ _ hk2, wo2.hi, s5 _ _ at4, im,
        fun t2 H6 n6 h6 s6 => ?_⟩
      refine ⟨_, _, rfl, dp_I (SqL.of h6), w1, w2, w3, ?_⟩
      generalize (PyData.list (dIs (mvd ws cc kk'))).shown = tx
      refine ⟨rfl, _, rfl, ne_no ?_⟩
      have s26 := s25.trans s6
      refine ⟨_, rfl, _, rfl, _, _, dW (s26 _ _ wo2.li), dW (s26 _ _ hk2),
        shaped_K, shaped_K, _, rfl, ?_⟩
      rw [eqv_KL]
      have htd6 := s6 _ _ htd
      refine iteF ⟨_, rfl, _, rfl, b, td, ls, _, rfl, ⟨wo2.ba.same s26, go, htd6,
        wd', by have := wo.hi; omega⟩, fun o3 H7 n7 h7 s7 => ?_⟩
      rw [er] at h7
      have s27 := s26.trans s7
      refine ⟨_, rfl, _, _, dp_N (SqL.of h7), dp_N (SqL.of (s27 _ _ ho2)),
        shaped_L gr.uni, shaped_L gr.uni, _, rfl, ?_⟩
      rw [eqv_L, decide_eq_true rfl]
      have htd7 := s7 _ _ htd6
      have s47 := (s5.trans s6).trans s7
      refine iteF ⟨_, rfl, .inl ⟨rfl, _, SqL.of htd7⟩, _, rfl, td, _, _, rfl, rfl,
        htd7, ?_, _, _, rfl, ?_, ?_⟩
      · rw [List.length_map]
        have := wo.hi
        exact sz' (by omega)
      · rw [upd_ne (ne_of_none hc4 ntd)]
        exact s47 _ _ hc4
      · exact OM.Same.put (s4.trans s47) (s4.free ntd)
    · rintro σ H4 ⟨y6, y7, rfl, _, s4⟩
      exact ⟨y6, y7, rfl, s3.trans s4⟩
  rintro _ H3 ⟨y6, y7, rfl, s3⟩
  refine ⟨_, rfl, _, rfl, _, _, dW (s3 _ _ wo2.li), dW (s3 _ _ hk2), shaped_K,
    shaped_K, ?_⟩
  rw [eqv_KL]
  exact q H3 (rg1.same (s2.trans s3)) (b1.trans (But.of (s2.trans s3)))
end
end OM
namespace OM
open PySem PySem.Spec PyProof.Rows L2
theorem inV_str (x : Str) : ∀ ts : List Str,
    inV (.str x) (ts.map V.str) = decide (x ∈ ts)
  | [] => by simp [inV]
  | t :: ts => by
    have ih := inV_str x ts
    unfold inV at ih ⊢
    rw [List.map_cons, List.any_cons, ih]
    by_cases e : t = x
    · subst e
      simp [eqV]
    · have e' : ¬ x = t := fun z => e z.symm
      simp [eqV, e, e']
/-- a move as data -/
abbrev dMv (m : Mv) : PyData := .tuple [.str (sMv m.1), .int (m.2 : Int)]
theorem dx_mv {H : Hp} {r : Addr} {m : Mv} (h : MvAt H r m.1 m.2) :
    DX H (.ref r) (dMv m) := .tup h (.cons (.str _) (.cons (.int _) .nil))
/-- a tuple stays, whatever is drawn -/
theorem tup_but {H H' : Hp} {p t : Addr} {xs : List V} (b : But p H H')
    (h : H t = some (.tup xs)) (n : t ≠ p) : H' t = some (.tup xs) := b _ _ h n
theorem odd_pair {K : PySem.W.Frag} {H : Hp} {p t : Addr} {ws : List Nat}
    {x y : V} {dx dy : PyData} {r : H t = some (.tup [x, y])} (n : t ≠ p)
    (hx : ∀ H', DX H' x dx) (hy : ∀ H', DX H' y dy) :
    ∀ H', But p H H' → DX H' (.ref t) (.tuple [dx, dy]) := fun H' b =>
  .tup (b _ _ r n) (.cons (hx H') (.cons (hy H') .nil))
end OM
namespace OM
open PySem PySem.Spec PyProof.Rows L2
theorem none_text : PyData.none.shown = Str.ofString "None" := by
  simp only [PyData.shown]
theorem app_list (a b : Str) : (a ++ b).cps.toList =
    a.cps.toList ++ b.cps.toList := by
  show (a.cps ++ b.cps).toList = _
  simp
theorem none_not (m : Mv) : PyData.none.shown ≠ (dMv m).shown := by
  intro h
  have e : (dMv m).shown = tupleText [reprText (sMv m.1),
    (PyData.int (m.2 : Int)).shown] := by
    simp only [PyData.shown, PyData.shownAll]
  rw [none_text, e] at h
  have := congrArg (fun s : Str => s.cps.toList.head?) h
  unfold tupleText at this
  simp only [app_list] at this
  rw [show (Str.ofString "(").cps.toList = [40] by decide +kernel,
    show (Str.ofString "None").cps.toList = [78, 111, 110, 101] by
      decide +kernel] at this
  simp at this
end OM
namespace OM
open PySem PySem.Spec PyProof.Rows L2
abbrev nI (i : Nat) : Int := (i : Int) - 1002
theorem int2010 : ∀ i : Fin 2010, (PyData.int (nI i.val)).showable = true ∧
    ((PyData.int (nI i.val)).shown.cps.toList.length ≤ 6 ∧
    ∀ c ∈ (PyData.int (nI i.val)).shown.cps.toList, c < 1114112) := by
  decide +kernel
end OM
namespace OM
open PySem PySem.Spec PyProof.Rows L2
/-- what can be shown and compared -/
def okD (e : PyData) : Bool := e.showable && decide (e.depth ≤ 60) &&
  decide (e.shown.length ≤ 1000) &&
  SeqAt.shaped (.tuple [.str "move", .str e.shown])
/-- short, of code points -/
def Cs (t : Str) (n : Nat) : Prop := t.cps.toList.length ≤ n ∧
  ∀ c ∈ t.cps.toList, c < 1114112
theorem Cs.app {a b : Str} {m n : Nat} (x : Cs a m) (y : Cs b n) :
    Cs (a ++ b) (m + n) := by
  unfold Cs at *
  rw [app_list]
  refine ⟨by rw [List.length_append]; omega, fun c hc => ?_⟩
  rcases List.mem_append.mp hc with h | h
  · exact x.2 c h
  · exact y.2 c h
theorem Cs.ly {t : Str} {n : Nat} (x : Cs t n) (h : n ≤ 900) :
    t.length ≤ 1000 ∧
    SeqAt.shaped (.tuple [.str "move", .str t]) = true := by
  refine ⟨?_, ?_⟩
  · have e : t.length = t.cps.toList.length := TL.len_tl t
    have := x.1
    omega
  · have o : PyData.strOk t = true := by
      unfold PyData.strOk
      rw [Array.all_eq_true]
      intro i hi
      exact decide_eq_true (x.2 _ (by simp))
    have o2 : PyData.strOk "move" = true := by decide +kernel
    unfold SeqAt.shaped
    simp only [PyData.canLay0, PyData.canLayAll0, o, o2, Bool.and_self,
      PyData.depth, PyData.depthAll]
    rfl
/-- a number from -1002 on -/
theorem int_ok {i : Int} (h1 : -1002 ≤ i) (h2 : i < 1008) :
    (PyData.int i).showable = true ∧ Cs (PyData.int i).shown 6 := by
  have z := int2010 ⟨(i + 1002).toNat, by omega⟩
  have e : nI (i + 1002).toNat = i := by unfold nI; omega
  rw [show nI (Fin.val (⟨(i + 1002).toNat, by omega⟩ : Fin 2010)) = i from e]
    at z
  exact z
theorem okD_of {e : PyData} {n : Nat} (sh : e.showable = true)
    (dp : e.depth ≤ 60) (c : Cs e.shown n) (h : n ≤ 900) : okD e = true := by
  obtain ⟨a, b⟩ := c.ly h
  unfold okD
  rw [sh, b, decide_eq_true dp, decide_eq_true a]
  rfl
theorem ok_t2 {x : PyData} {i : Int} {n : Nat} (hx : x.showable = true)
    (dx : x.depth ≤ 3) (cx : Cs x.shown n) (hn : n ≤ 100) (h1 : -1002 ≤ i)
    (h2 : i < 1008) : okD (.tuple [x, .int i]) = true := by
  obtain ⟨a, b⟩ := int_ok h1 h2
  refine okD_of (n := 1 + (n + 2 + 6) + 1) ?_ ?_ ?_ (by omega)
  · simp only [PyData.showable, PyData.showableAll] at a ⊢
    rw [hx, a]
    rfl
  · simp only [PyData.depth, PyData.depthAll]
    omega
  · rw [show (PyData.tuple [x, .int i]).shown = tupleText [x.shown,
      (PyData.int i).shown] by simp only [PyData.shown, PyData.shownAll]]
    unfold tupleText
    show Cs (_ ++ Str.ofString ")") _
    refine Cs.app (Cs.app ⟨by decide +kernel, by decide +kernel⟩
      (Cs.app (Cs.app cx ⟨by decide +kernel, by decide +kernel⟩) b))
      ⟨by decide +kernel, by decide +kernel⟩
theorem ok_t3 {x : PyData} {i : Int} {n : Nat} (hx : x.showable = true)
    (dx : x.depth ≤ 3) (cx : Cs x.shown n) (hn : n ≤ 100) (h1 : -1002 ≤ i)
    (h2 : i < 1008) : okD (.tuple [x, .int i, .int 0]) = true := by
  obtain ⟨a, b⟩ := int_ok h1 h2
  refine okD_of (n := 1 + (n + 2 + (6 + 2 + 1)) + 1) ?_ ?_ ?_ (by omega)
  · have a0 : (PyData.int 0).showable = true := by decide +kernel
    simp only [PyData.showable, PyData.showableAll] at a a0 ⊢
    rw [hx, a, a0]
    rfl
  · simp only [PyData.depth, PyData.depthAll]
    omega
  · rw [show (PyData.tuple [x, .int i, .int 0]).shown = tupleText [x.shown,
      (PyData.int i).shown, (PyData.int 0).shown] by
        simp only [PyData.shown, PyData.shownAll]]
    unfold tupleText
    show Cs (_ ++ Str.ofString ")") _
    refine Cs.app (Cs.app ⟨by decide +kernel, by decide +kernel⟩
      (Cs.app (Cs.app cx ⟨by decide +kernel, by decide +kernel⟩)
        (Cs.app (Cs.app b ⟨by decide +kernel, by decide +kernel⟩)
          ⟨by decide +kernel, by decide +kernel⟩)))
      ⟨by decide +kernel, by decide +kernel⟩
theorem ok_l2 {x : PyData} {i : Int} {n : Nat} (hx : x.showable = true)
    (dx : x.depth ≤ 3) (cx : Cs x.shown n) (hn : n ≤ 100) (h1 : -1002 ≤ i)
    (h2 : i < 1008) : okD (.list [x, .int i]) = true := by
  obtain ⟨a, b⟩ := int_ok h1 h2
  refine okD_of (n := 1 + 0 + n + 2 + 6 + 1) ?_ ?_ ?_ (by omega)
  · simp only [PyData.showable, PyData.showableAll] at a ⊢
    rw [hx, a]
    rfl
  · simp only [PyData.depth, PyData.depthAll]
    omega
  · rw [show (PyData.list [x, .int i]).shown = listText [x.shown,
      (PyData.int i).shown] by simp only [PyData.shown, PyData.shownAll]]
    unfold listText textFrom textFrom textFrom
    refine Cs.app (Cs.app (Cs.app (Cs.app (Cs.app
      ⟨by decide +kernel, by decide +kernel⟩
      ⟨by decide +kernel, by decide +kernel⟩) cx)
      ⟨by decide +kernel, by decide +kernel⟩) b)
      ⟨by decide +kernel, by decide +kernel⟩
/-- a value of the list, with its data -/
structure El (K : PySem.W.Frag) (p : Addr) (H : Hp) (ws : List Nat) (v : V)
    (e : PyData) : Prop where
  dx : ∀ H', But p H H' → DX H' v e
  ok : okD e = true
  mv : (∀ H', But p H H' → MvV K H' ws v false) ∨ ∃ m ∈ mvs ws, e = dMv m
theorem El.but {K : PySem.W.Frag} {p : Addr} {H H' : Hp} {ws : List Nat}
    {v : V} {e : PyData} (o : El K p H ws v e) (s : But p H H') :
    El K p H' ws v e :=
  ⟨fun H2 s2 => o.dx H2 (s.trans s2), o.ok, o.mv.imp
    (fun h H2 s2 => h H2 (s.trans s2)) id⟩
theorem El.odd {K : PySem.W.Frag} {p : Addr} {H : Hp} {ws : List Nat}
    {v : V} {e : PyData} (o : El K p H ws v e)
    (n : e.shown ∉ (mvs ws).map fun m => (dMv m).shown) :
    OddV K p H ws v e := by
  have h := o.ok
  unfold okD at h
  simp only [Bool.and_eq_true, decide_eq_true_eq] at h
  obtain ⟨⟨⟨a, b⟩, c⟩, d⟩ := h
  refine ⟨o.dx, a, b, c, d, ?_⟩
  rcases o.mv with h | ⟨m, hm, rfl⟩
  · exact h
  · exact absurd (List.mem_map.mpr ⟨m, hm, rfl⟩) n
/-- what was made so far -/
structure Acc (K : PySem.W.Frag) (p : Addr) (ws : List Nat) (H0 H : Hp)
    (xs : List V) : Prop where
  s : Same H0 H
  el : ∀ v ∈ xs, ∃ e, El K p H ws v e
theorem Acc.nil {K : PySem.W.Frag} {p : Addr} {ws : List Nat} {H : Hp} :
    Acc K p ws H H [] := ⟨Same.refl H, nofun⟩
theorem Acc.flat {K : PySem.W.Frag} {p : Addr} {ws : List Nat} {H0 H : Hp}
    {xs : List V} (A : Acc K p ws H0 H xs) {v : V} {e : PyData} {t : Value}
    (hd : ∀ H', DX H' v e) (ok : okD e = true) (ty : ∀ H', TyX K H' v t)
    (no : PySem.W.kitOne K t (.type "tuple") = some false) :
    Acc K p ws H0 H (v :: xs) := by
  refine ⟨A.s, fun x hx => ?_⟩
  rcases List.mem_cons.mp hx with rfl | hx
  · exact ⟨e, fun H' _ => hd H', ok, .inl fun H' _ => .other (ty H') no⟩
  · exact A.el x hx
theorem Acc.obj {K : PySem.W.Frag} {p : Addr} {ws : List Nat} {H0 H : Hp}
    {xs : List V} (A : Acc K p ws H0 H xs) {q : Addr} {o : HO} {e : PyData}
    (rg : Rng H0 p) (n : H q = none)
    (hd : ∀ H', H' q = some o → DX H' (.ref q) e) (ok : okD e = true)
    (mv : (∀ H', H' q = some o → MvV K H' ws (.ref q) false) ∨
      ∃ m ∈ mvs ws, e = dMv m) :
    Acc K p ws H0 (upd H q o) (.ref q :: xs) := by
  have nq : q ≠ p := ((rg.same A.s).ne n).symm
  have sn := sameNew (o := o) n
  have at' : ∀ H', But p (upd H q o) H' → H' q = some o := fun H' b =>
    b _ _ upd_same nq
  refine ⟨A.s.trans sn, fun x hx => ?_⟩
  rcases List.mem_cons.mp hx with rfl | hx
  · exact ⟨e, fun H' b => hd H' (at' H' b), ok, mv.imp
      (fun h H' b => h H' (at' H' b)) id⟩
  · obtain ⟨e', z⟩ := A.el x hx
    exact ⟨e', z.but (But.of sn)⟩
theorem el_at {K : PySem.W.Frag} {p : Addr} {ws : List Nat} {H : Hp}
    {q : Addr} {o : HO} {e : PyData} (h : H q = some o) (nq : q ≠ p)
    (hd : ∀ H', H' q = some o → DX H' (.ref q) e) (ok : okD e = true)
    (mv : (∀ H', H' q = some o → MvV K H' ws (.ref q) false) ∨
      ∃ m ∈ mvs ws, e = dMv m) : ∃ e, El K p H ws (.ref q) e :=
  ⟨e, fun H' b => hd H' (b _ _ h nq), ok, mv.imp
    (fun z H' b => z H' (b _ _ h nq)) id⟩
theorem get_ref {rs : List Addr} {j : Nat} {y : V}
    (h : (rs.map V.ref)[j]? = some y) : ∃ r, rs[j]? = some r ∧ y = .ref r := by
  rw [List.getElem?_map] at h
  cases e : rs[j]? with
  | none => rw [e] at h; cases h
  | some r => rw [e] at h; cases h; exact ⟨r, rfl, rfl⟩
theorem Pd_at {α β : Type} {F : α → β → Prop} : ∀ {xs : List α} {ys : List β}
    {j : Nat} {x : α}, Paired F xs ys → xs[j]? = some x →
      ∃ y, ys[j]? = some y ∧ F x y
  | _, _, _, _, .nil, h => by simp at h
  | _, _, 0, _, .cons a _, h => by cases h; exact ⟨_, rfl, a⟩
  | _, _, j + 1, _, .cons _ t, h => Pd_at (j := j) t h
theorem Acc.sub {K : PySem.W.Frag} {p : Addr} {ws : List Nat} {H0 H : Hp}
    {xs ys : List V} (A : Acc K p ws H0 H xs) (h : ∀ y ∈ ys, y ∈ xs) :
    Acc K p ws H0 H ys := ⟨A.s, fun v hv => A.el v (h v hv)⟩
theorem Acc.app {K : PySem.W.Frag} {p : Addr} {ws : List Nat} {H0 H1 H2 : Hp}
    {xs ys : List V} (A : Acc K p ws H0 H1 xs) (B : Acc K p ws H1 H2 ys) :
    Acc K p ws H0 H2 (xs ++ ys) := by
  refine ⟨A.s.trans B.s, fun v hv => ?_⟩
  rcases List.mem_append.mp hv with h | h
  · obtain ⟨e, z⟩ := A.el v h
    exact ⟨e, z.but (But.of B.s)⟩
  · exact B.el v h
theorem Acc.same {K : PySem.W.Frag} {p : Addr} {ws : List Nat} {H0 H1 H2 : Hp}
    {xs : List V} (A : Acc K p ws H0 H1 xs) (s : Same H1 H2) :
    Acc K p ws H0 H2 xs := by
  refine ⟨A.s.trans s, fun v hv => ?_⟩
  obtain ⟨e, z⟩ := A.el v hv
  exact ⟨e, z.but (But.of s)⟩
/-- a pair of a kind and a number: a move of the word, or none -/
theorem pair_mv {K : PySem.W.Frag} {q : Addr} {ws : List Nat} {c : Bool}
    {k : Nat} : (∀ H' : Hp, H' q = some (.tup [.str (sMv c), .int (k : Int)]) →
      MvV K H' ws (.ref q) false) ∨ ∃ m ∈ mvs ws,
        PyData.tuple [.str (sMv c), .int (k : Int)] = dMv m := by
  by_cases hk : k < ws.length
  · cases hm : mvB ws c k with
    | true => exact .inr ⟨(c, k), mvs_is.mpr (mvB_is.mp hm), rfl⟩
    | false =>
      refine .inl fun H' h => ?_
      rw [← hm]
      cases c with
      | true => exact .com h hk
      | false => exact .bra h hk
  · exact .inl fun H' h => .out h (by omega)
theorem pair_other {K : PySem.W.Frag} {q : Addr} {ws : List Nat} {s : Str}
    {k : Nat} (h1 : s ≠ sCom) (h2 : s ≠ sBra) {H' : Hp}
    (h : H' q = some (.tup [.str s, .int (k : Int)])) :
    MvV K H' ws (.ref q) false := by
  by_cases hk : k < ws.length
  · exact .nor h hk h1 h2
  · exact .out h (by omega)
end OM
namespace OM
open PySem PySem.Spec PyProof.Rows L2
abbrev scOne : Scope :=
  { kind := .function,
    names := [(".0", .local), ("_law_one", .local), ("repr", .globalImplicit),
      ("_law_moves", .globalImplicit), ("_law_word", .cell)],
    isGenerator := false,
    isCoroutine := false }
section
variable {P : Program} {w : World} {K : PySem.W.Frag}
  {mg : Str → Option Value} {base : Heap} {C CM CC CI CW CO : Addr}
theorem ok_odd {f : Addr} {fd : FuncData} {k : Nat}
    (F : Fun K "_law_odd_moves" "_law_odd_moves" s_Lodd_moves f fd) (B : Bl mg)
    (sm : ∃ o, base.get? sysModules = some o)
    (Cd : CalDraw P w K mg base k)
    (Cm : Cal P w K mg base k "_law_moves" ["_law_word"] spLMoves) :
    FnG P w K mg base CX0 (k + 1) f fd ["_law_rng_here", "_law_word"]
      (spOdds K) := by
  refine okG F sc_Lodd_moves (fun vs H Q E h => ?_)
    (fun cv A outer s H vs Q E hr gd h => ?_)
  · obtain ⟨p, a, ws, rfl, _⟩ := h
    rfl
  obtain ⟨p, a, ws, rfl, rg, ha, nap, hw, q⟩ := h
  have nd := sc_Lodd_moves.nd
  have un := hr.units
  refine ⟨_, C8.pss_cut (ps_set (i := 2) nd rfl (.inl rfl)
      (pe_cal Cd hr (pa_cons (pv 0) (pa_cons (pe_op op_add
        (pe_callB call_len_seq (by rfl) B.len PySem.boot_len
          (pa_cons (pv 1) pa_nil)) pe_int) pa_nil))))
    (C8.pss_cut (ps_set (i := 3) nd rfl (.inl rfl)
      (pe_lst (pa_cons pe_non (pa_cons pe_int (pa_cons pe_bl (pa_cons pe_str
        (pa_cons pe_str (pa_cons (pe_tup pa_nil) (pa_cons (pe_lst pa_nil)
        (pa_cons pe_dnewK (pa_cons (pe_tup (pa_cons pe_str pa_nil))
        (pa_cons (pe_tup (pa_cons pe_str (pa_cons pe_non pa_nil)))
        (pa_cons (pe_tup (pa_cons pe_str (pa_cons pe_str pa_nil)))
        (pa_cons (pe_tup (pa_cons pe_int (pa_cons pe_str pa_nil)))
          pa_nil))))))))))))))
    (C8.pss_cut (ps_set (i := 3) nd rfl (.inl rfl) (pe_op op_cat (pv 3)
      (pe_lst (pa_cons (pe_tup (pa_cons pe_str (pa_cons (pv 2) pa_nil)))
        (pa_cons (pe_tup (pa_cons pe_str (pa_cons (pv 2) pa_nil)))
        (pa_cons (pe_tup (pa_cons pe_str (pa_cons (pe_un un_neg pe_int)
          pa_nil)))
        (pa_cons (pe_tup (pa_cons pe_str (pa_cons (pe_un un_neg pe_int)
          pa_nil)))
        (pa_cons (pe_tup (pa_cons pe_str (pa_cons pe_bl pa_nil)))
        (pa_cons (pe_tup (pa_cons pe_str (pa_cons pe_bl pa_nil)))
          pa_nil)))))))))
    (C8.pss_cut (ps_set (i := 3) nd rfl (.inl rfl) (pe_op op_cat (pv 3)
      (pe_lst (pa_cons (pe_lst (pa_cons pe_str (pa_cons (pv 2) pa_nil)))
        (pa_cons (pe_tup (pa_cons pe_str (pa_cons (pv 2) pa_nil)))
        (pa_cons (pe_tup (pa_cons pe_str (pa_cons (pv 2) pa_nil)))
        (pa_cons (pe_tup (pa_cons pe_str (pa_cons (pv 2) (pa_cons pe_int
          pa_nil))))
        (pa_cons (pe_tup (pa_cons pe_non (pa_cons (pv 2) pa_nil)))
          pa_nil))))))))
    (C8.pss_cut (ps_expr (pe_bm PySem.F.plainAttrs_list
        PySem.F.slot_list_append PySem.F.type_list_append mt_append (pv 3)
        (pa_cons (pe_tup (pa_cons pe_str (pa_cons (pe_op op_sub (pe_op op_sub
          (pv 2) (pe_callB call_len_seq (by rfl) B.len PySem.boot_len
            (pa_cons (pv 1) pa_nil))) pe_int) pa_nil))) pa_nil)))
    (pss_one (ps_ret (pe_lc (own := [("_law_one", 4)]) (g := gName 4) rfl nd
      (pi_list (pv 3))
      (blkOk_by (N := N_Lodd_moves) (sc := defScope s_Lodd_moves)
        (by decide +kernel))
      (fun _ _ _ _ _ => pg_name (i := 4) nd rfl (Or.inl rfl))
      (fun _ _ _ _ _ => pts_one (pt_cmpR (r := rIn K true) op_notIn_seq
        (pe_callB (r := rReprY) (call_reprY un gd sm) (by rfl) B.repr bt_rpm
          (pa_cons (pv 4) pa_nil))
        (pe_lc (own := [("_law_move", 5)]) (g := gName 5) (tt := tYes)
          (wi := iList K (tCall spLMoves [] E0 (tCons (tVar 1) tNil)))
          (te := tCB rReprY (tCons (tVar 5) tNil)) rfl nd
          (pi_list (pe_cal Cm hr (pa_cons (pv 1) pa_nil)))
          (blkOk_by (N := N_Lodd_moves) (sc := scOne) (by decide +kernel))
          (fun _ _ _ _ _ => pg_name (i := 5) nd rfl (Or.inl rfl))
          (fun _ _ _ _ _ => pts_nil)
          (fun _ _ _ _ _ => pe_callB (r := rReprY) (call_reprY un gd sm)
            (by rfl) B.repr bt_rpm (pa_cons (pv 5) pa_nil))) (by rfl)))
      (fun _ _ _ _ _ => pv 4)))))))), ?_⟩
  -- the number
  refine ⟨fun σ' H' => ∃ d : Nat, σ' = [some (.ref p), some (.ref a),
    some (.int (d : Int)), none, none, none] ∧ d < ws.length + 2 ∧ Rng H' p ∧
    H' a = some (.lst (vIs ws)) ∧ But p H H', ?_, ?_⟩
  · refine ⟨_, rfl, _, rfl, a, _, rfl, .inl (SqL.of ha), _, _, rfl,
      rfl, p, _, rfl, rg, ?_, ?_, fun d H' d0 d1 rg' b' => ?_⟩
    · omega
    · rw [List.length_map]
      omega
    · rw [List.length_map] at d1
      refine ⟨d.toNat, ?_, by omega, rg', b' _ _ ha nap, b'⟩
      rw [Int.toNat_of_nonneg d0]
      rfl
  rintro _ H1 ⟨d, rfl, dl, rg1, ha1, b1⟩
  have cCom : Cs (PyData.str sCom).shown 20 := ⟨by decide +kernel, by decide +kernel⟩
  have cBra : Cs (PyData.str sBra).shown 20 := ⟨by decide +kernel, by decide +kernel⟩
  -- the first twelve
  refine ⟨fun σ' H' => ∃ xs s, σ' = [some (.ref p), some (.ref a),
    some (.int (d : Int)), some (.ref s), none, none] ∧ H1 s = none ∧
    H' s = some (.lst (.non :: xs)) ∧ xs.length = 11 ∧
    Acc K p ws H1 H' (.non :: xs), ?_, ?_⟩
  · have A0 : Acc K p ws H1 H1 [] := .nil
    have A1 := A0.flat (v := .non) (fun _ => .non)
      (by decide +kernel) (fun _ => .base .non) (kit_ty (by decide +kernel))
    have A2 := A1.flat (v := (.int 0)) (fun _ => (.int 0))
      (by decide +kernel) (fun _ => .base (.int _)) (kit_ty (by decide +kernel))
    have A3 := A2.flat (v := (.bl true)) (fun _ => (.bl true))
      (by decide +kernel) (fun _ => .base (.bl _)) (kit_ty (by decide +kernel))
    have A4 := A3.flat (v := (.str "")) (fun _ => (.str _))
      (by decide +kernel) (fun _ => .base (.str _)) (kit_ty (by decide +kernel))
    have A5 := A4.flat (v := (.str "commute")) (fun _ => (.str _))
      (by decide +kernel) (fun _ => .base (.str _)) (kit_ty (by decide +kernel))
    refine ⟨by decide, fun p1 n1 => ?_⟩
    have A6 := A5.obj (o := .tup []) rg1 n1 (e := .tuple [])
      (fun _ h => .tup h .nil)
      (by decide +kernel)
      (.inl fun _ h => .len h (by decide))
    generalize upd H1 p1 (.tup []) = J1 at A6 ⊢
    refine ⟨by decide, fun p2 n2 => ?_⟩
    have A7 := A6.obj (o := .lst []) rg1 n2 (e := .list [])
      (fun _ h => .lst h .nil)
      (by decide +kernel)
      (.inl fun _ h => .other (.base (.lst h)) (kit_ty (by decide +kernel)))
    generalize upd J1 p2 (.lst []) = J2 at A7 ⊢
    intro p3 n3
    have A8 := A7.obj (o := .dK []) rg1 n3 (e := .dict [])
      (fun _ h => .d0 h)
      (by decide +kernel)
      (.inl fun _ h => .other (.base (.dK h)) (kit_ty (by decide +kernel)))
    generalize upd J2 p3 (.dK []) = J3 at A8 ⊢
    refine ⟨by decide, fun p4 n4 => ?_⟩
    have A9 := A8.obj (o := .tup [.str "commute"]) rg1 n4 (e := .tuple [.str "commute"])
      (fun _ h => .tup h (.cons (.str _) .nil))
      (by decide +kernel)
      (.inl fun _ h => .len h (by decide))
    generalize upd J3 p4 (.tup [.str "commute"]) = J4 at A9 ⊢
    refine ⟨by decide, fun p5 n5 => ?_⟩
    have A10 := A9.obj (o := .tup [.str "braid", .non]) rg1 n5 (e := .tuple [.str "braid", .none])
      (fun _ h => .tup h (.cons (.str _) (.cons .non .nil)))
      (by decide +kernel)
      (.inl fun _ h => .pos h .non)
    generalize upd J4 p5 (.tup [.str "braid", .non]) = J5 at A10 ⊢
    refine ⟨by decide, fun p6 n6 => ?_⟩
    have A11 := A10.obj (o := .tup [.str "commute", .str "0"]) rg1 n6 (e := .tuple [.str "commute", .str "0"])
      (fun _ h => .tup h (.cons (.str _) (.cons (.str _) .nil)))
      (by decide +kernel)
      (.inl fun _ h => .pos h (.str _))
    generalize upd J5 p6 (.tup [.str "commute", .str "0"]) = J6 at A11 ⊢
    refine ⟨by decide, fun p7 n7 => ?_⟩
    have A12 := A11.obj (o := .tup [.int 0, .str "commute"]) rg1 n7 (e := .tuple [.int 0, .str "commute"])
      (fun _ h => .tup h (.cons (.int _) (.cons (.str _) .nil)))
      (by decide +kernel)
      (.inl fun _ h => .kind h (.base (.int _)) (kit_ty (by decide +kernel)))
    generalize upd J6 p7 (.tup [.int 0, .str "commute"]) = J7 at A12 ⊢
    refine ⟨by show 12 ≤ sizeLine; decide, fun s ns => ?_⟩
    refine ⟨_, s, rfl, A12.s.free ns, upd_same, rfl, (A12.same
      (sameNew ns)).sub ?_⟩
    intro y hy
    simp only [List.mem_cons, List.not_mem_nil, or_false] at hy ⊢
    rcases hy with rfl | rfl | rfl | rfl | rfl | rfl | rfl | rfl | rfl |
      rfl | rfl | rfl <;> simp
  rintro _ H2 ⟨xs, s, rfl, ns, hs, lx, AX⟩
  refine ⟨fun σ' H' => ∃ xs s, σ' = [some (.ref p), some (.ref a),
    some (.int (d : Int)), some (.ref s), none, none] ∧ H1 s = none ∧
    H' s = some (.lst (.non :: xs)) ∧ xs.length = 17 ∧
    Acc K p ws H1 H' (.non :: xs), ?_, ?_⟩
  · have A0 : Acc K p ws H2 H2 [] := .nil
    have rgx : Rng H2 p := rg1.same AX.s
    refine ⟨_, rfl, ?_⟩
    refine ⟨_, rfl, by show 2 ≤ sizeLine; decide, fun p1 n1 => ?_⟩
    have A1 := A0.obj (o := .tup [.str sCom, .int (d : Int)]) rgx n1 (e := .tuple [.str sCom, .int (d : Int)])
      (fun _ h => .tup h (.cons (.str _) (.cons (.int _) .nil)))
      (ok_t2 (by decide +kernel) (by decide +kernel) cCom (by decide)
        (by omega) (by omega))
      (pair_mv (c := true))
    generalize upd H2 p1 (.tup [.str sCom, .int (d : Int)]) = J1 at A1 ⊢
    refine ⟨_, rfl, by show 2 ≤ sizeLine; decide, fun p2 n2 => ?_⟩
    have A2 := A1.obj (o := .tup [.str sBra, .int (d : Int)]) rgx n2 (e := .tuple [.str sBra, .int (d : Int)])
      (fun _ h => .tup h (.cons (.str _) (.cons (.int _) .nil)))
      (ok_t2 (by decide +kernel) (by decide +kernel) cBra (by decide)
        (by omega) (by omega))
      (pair_mv (c := false))
    generalize upd J1 p2 (.tup [.str sBra, .int (d : Int)]) = J2 at A2 ⊢
    refine ⟨_, rfl, by show 2 ≤ sizeLine; decide, fun p3 n3 => ?_⟩
    have A3 := A2.obj (o := .tup [.str sCom, .int (-1)]) rgx n3 (e := .tuple [.str sCom, .int (-1)])
      (fun _ h => .tup h (.cons (.str _) (.cons (.int _) .nil)))
      (by decide +kernel)
      (.inl fun _ h => .out h (by omega))
    generalize upd J2 p3 (.tup [.str sCom, .int (-1)]) = J3 at A3 ⊢
    refine ⟨_, rfl, by show 2 ≤ sizeLine; decide, fun p4 n4 => ?_⟩
    have A4 := A3.obj (o := .tup [.str sBra, .int (-1)]) rgx n4 (e := .tuple [.str sBra, .int (-1)])
      (fun _ h => .tup h (.cons (.str _) (.cons (.int _) .nil)))
      (by decide +kernel)
      (.inl fun _ h => .out h (by omega))
    generalize upd J3 p4 (.tup [.str sBra, .int (-1)]) = J4 at A4 ⊢
    refine ⟨by decide, fun p5 n5 => ?_⟩
    have A5 := A4.obj (o := .tup [.str sCom, .bl true]) rgx n5 (e := .tuple [.str sCom, .bool true])
      (fun _ h => .tup h (.cons (.str _) (.cons (.bl _) .nil)))
      (by decide +kernel)
      (.inl fun _ h => .pos h (.bl _))
    generalize upd J4 p5 (.tup [.str sCom, .bl true]) = J5 at A5 ⊢
    refine ⟨by decide, fun p6 n6 => ?_⟩
    have A6 := A5.obj (o := .tup [.str sBra, .bl false]) rgx n6 (e := .tuple [.str sBra, .bool false])
      (fun _ h => .tup h (.cons (.str _) (.cons (.bl _) .nil)))
      (by decide +kernel)
      (.inl fun _ h => .pos h (.bl _))
    generalize upd J5 p6 (.tup [.str sBra, .bl false]) = J6 at A6 ⊢
    refine ⟨by show 6 ≤ sizeLine; decide, fun l nl => ?_⟩
    have sl := sameNew (o := .lst [.ref p1, .ref p2, .ref p3, .ref p4, .ref p5, .ref p6]) nl
    refine ⟨s, l, .non :: xs, _, rfl, rfl, ?_, upd_same, ?_, fun r nr => ?_⟩
    · exact sl _ _ (A6.s _ _ hs)
    · show (xs.length + 1) + 6 ≤ sizeLine
      rw [lx]
      decide
    have AY := ((AX.app A6).same sl).same (sameNew (o := .lst
      (.non :: xs ++ [.ref p1, .ref p2, .ref p3, .ref p4, .ref p5, .ref p6])) nr)
    refine ⟨xs ++ [.ref p1, .ref p2, .ref p3, .ref p4, .ref p5, .ref p6], r, rfl, (AX.s.trans (A6.s.trans sl)).free nr,
      upd_same, ?_, AY.sub ?_⟩
    · rw [List.length_append, lx]
      rfl
    · intro y hy
      simp only [List.mem_cons, List.mem_append, List.not_mem_nil,
        or_false] at hy ⊢
      rcases hy with h | h | h
      · exact .inl (.inl h)
      · exact .inl (.inr h)
      · refine .inr ?_
        rcases h with rfl | rfl | rfl | rfl | rfl | rfl <;> simp
  clear AX hs ns lx
  rintro _ H3 ⟨xs, s, rfl, ns, hs, lx, AX⟩
  refine ⟨fun σ' H' => ∃ xs s, σ' = [some (.ref p), some (.ref a),
    some (.int (d : Int)), some (.ref s), none, none] ∧ H1 s = none ∧
    H' s = some (.lst (.non :: xs)) ∧ xs.length = 22 ∧
    ∃ Hs, Hs s = none ∧ Same Hs H' ∧ Acc K p ws H1 Hs (.non :: xs), ?_, ?_⟩
  · have A0 : Acc K p ws H3 H3 [] := .nil
    have rgx : Rng H3 p := rg1.same AX.s
    refine ⟨_, rfl, ?_⟩
    refine ⟨_, rfl, by show 2 ≤ sizeLine; decide, fun p1 n1 => ?_⟩
    have A1 := A0.obj (o := .lst [.str sCom, .int (d : Int)]) rgx n1 (e := .list [.str sCom, .int (d : Int)])
      (fun _ h => .lst h (.cons (.str _) (.cons (.int _) .nil)))
      (ok_l2 (by decide +kernel) (by decide +kernel) cCom (by decide)
        (by omega) (by omega))
      (.inl fun _ h => .other (.base (.lst h)) (kit_ty (by decide +kernel)))
    generalize upd H3 p1 (.lst [.str sCom, .int (d : Int)]) = J1 at A1 ⊢
    refine ⟨_, rfl, by show 2 ≤ sizeLine; decide, fun p2 n2 => ?_⟩
    have A2 := A1.obj (o := .tup [.str "Commute", .int (d : Int)]) rgx n2 (e := .tuple [.str "Commute", .int (d : Int)])
      (fun _ h => .tup h (.cons (.str _) (.cons (.int _) .nil)))
      (ok_t2 (n := 20) (by decide +kernel) (by decide +kernel) ⟨by decide +kernel, by decide +kernel⟩
        (by decide) (by omega) (by omega))
      (.inl fun _ h => pair_other (by decide +kernel) (by decide +kernel) h)
    generalize upd J1 p2 (.tup [.str "Commute", .int (d : Int)]) = J2 at A2 ⊢
    refine ⟨_, rfl, by show 2 ≤ sizeLine; decide, fun p3 n3 => ?_⟩
    have A3 := A2.obj (o := .tup [.str "swap", .int (d : Int)]) rgx n3 (e := .tuple [.str "swap", .int (d : Int)])
      (fun _ h => .tup h (.cons (.str _) (.cons (.int _) .nil)))
      (ok_t2 (n := 20) (by decide +kernel) (by decide +kernel) ⟨by decide +kernel, by decide +kernel⟩
        (by decide) (by omega) (by omega))
      (.inl fun _ h => pair_other (by decide +kernel) (by decide +kernel) h)
    generalize upd J2 p3 (.tup [.str "swap", .int (d : Int)]) = J3 at A3 ⊢
    refine ⟨_, rfl, by show 3 ≤ sizeLine; decide, fun p4 n4 => ?_⟩
    have A4 := A3.obj (o := .tup [.str sCom, .int (d : Int), .int 0]) rgx n4 (e := .tuple [.str sCom, .int (d : Int), .int 0])
      (fun _ h => .tup h (.cons (.str _) (.cons (.int _) (.cons (.int _) .nil))))
      (ok_t3 (by decide +kernel) (by decide +kernel) cCom (by decide)
        (by omega) (by omega))
      (.inl fun _ h => .len h (by show 3 ≠ 2; decide))
    generalize upd J3 p4 (.tup [.str sCom, .int (d : Int), .int 0]) = J4 at A4 ⊢
    refine ⟨_, rfl, by show 2 ≤ sizeLine; decide, fun p5 n5 => ?_⟩
    have A5 := A4.obj (o := .tup [.non, .int (d : Int)]) rgx n5 (e := .tuple [.none, .int (d : Int)])
      (fun _ h => .tup h (.cons .non (.cons (.int _) .nil)))
      (ok_t2 (n := 20) (by decide +kernel) (by decide +kernel) ⟨by decide +kernel, by decide +kernel⟩
        (by decide) (by omega) (by omega))
      (.inl fun _ h => .kind h (.base .non) (kit_ty (by decide +kernel)))
    generalize upd J4 p5 (.tup [.non, .int (d : Int)]) = J5 at A5 ⊢
    refine ⟨by show 5 ≤ sizeLine; decide, fun l nl => ?_⟩
    have sl := sameNew (o := .lst [.ref p1, .ref p2, .ref p3, .ref p4, .ref p5]) nl
    refine ⟨s, l, .non :: xs, _, rfl, rfl, ?_, upd_same, ?_, fun r nr => ?_⟩
    · exact sl _ _ (A5.s _ _ hs)
    · show (xs.length + 1) + 5 ≤ sizeLine
      rw [lx]
      decide
    have AY := ((AX.app A5).same sl)
    refine ⟨xs ++ [.ref p1, .ref p2, .ref p3, .ref p4, .ref p5], r, rfl, (AX.s.trans (A5.s.trans sl)).free nr,
      upd_same, ?_, _, nr, sameNew nr, AY.sub ?_⟩
    · rw [List.length_append, lx]
      rfl
    · intro y hy
      simp only [List.mem_cons, List.mem_append, List.not_mem_nil,
        or_false] at hy ⊢
      rcases hy with h | h | h
      · exact .inl (.inl h)
      · exact .inl (.inr h)
      · refine .inr ?_
        rcases h with rfl | rfl | rfl | rfl | rfl <;> simp
  clear AX hs ns lx
  rintro _ H4 ⟨xs, s, rfl, ns, hs, lx, Hs, ns2, s4, AX⟩
  -- one more
  refine ⟨fun σ' H' => ∃ xs s, σ' = [some (.ref p), some (.ref a),
    some (.int (d : Int)), some (.ref s), none, none] ∧ H1 s = none ∧
    H' s = some (.lst (.non :: xs)) ∧ xs.length = 23 ∧
    Acc K p ws H1 H' (.non :: xs), ?_, ?_⟩
  · have rgx : Rng H4 p := rg1.same (AX.s.trans s4)
    have nsp : s ≠ p := (rg1.ne ns).symm
    refine ⟨_, rfl, .inl ⟨rfl, _, SqL.of hs⟩, _, rfl, _, rfl, a, _, rfl,
      .inl (SqL.of (s4 _ _ (AX.s _ _ ha1))), _, _, rfl, rfl, _, _, rfl, rfl,
      by show 2 ≤ sizeLine; decide, fun t nt => ?_⟩
    rw [List.length_map]
    have ntp : t ≠ p := (rgx.ne nt).symm
    have nts : s ≠ t := ne_of_none hs nt
    refine ⟨s, .non :: xs, _, rfl, rfl, by rw [upd_ne nts]; exact hs, ?_,
      xs ++ [.ref t], s, rfl, ns, upd_same, ?_, ?_⟩
    · show (xs.length + 1) < sizeLine
      rw [lx]
      decide
    · rw [List.length_append, lx]
      rfl
    have sx : Same Hs (upd (upd H4 t (.tup [.str "braid",
        .int ((d : Int) - ws.length - 2)])) s (.lst (.non :: xs ++ [.ref t]))) :=
      OM.Same.put (s4.trans (sameNew nt)) ns2
    refine ⟨AX.s.trans sx, fun v hv => ?_⟩
    rcases List.mem_append.mp (show v ∈ (.non :: xs) ++ [.ref t] from hv)
      with h | h
    · obtain ⟨e, z⟩ := AX.el v h
      exact ⟨e, z.but (But.of sx)⟩
    · rw [List.mem_singleton.mp h]
      refine el_at (o := .tup [.str sBra, .int ((d : Int) - ws.length - 2)])
        (e := .tuple [.str sBra, .int ((d : Int) - ws.length - 2)]) ?_ ntp
        (fun _ h => .tup h (.cons (.str _) (.cons (.int _) .nil)))
        (ok_t2 (by decide +kernel) (by decide +kernel) cBra (by decide)
          (by omega) (by omega)) (.inl fun _ h => .out h (by omega))
      rw [upd_ne nts.symm]
      exact upd_same
  clear AX hs ns lx
  rintro _ H5 ⟨xs, s, rfl, ns, hs, lx, AX⟩
  have ha5 := AX.s _ _ ha1
  refine ⟨_, rfl, s, rfl, ⟨_, SqL.of hs⟩, fun D nD => ?_⟩
  let tx : Mv → Str := fun m => (dMv m).shown
  refine walkW (walk_list (K := K) (a := s) (xs := .non :: xs))
    (fun i H' => ∃ ys, H' D = some (.lst ys) ∧ ys.length ≤ i ∧
      (0 < i → 0 < ys.length) ∧ (∀ v ∈ ys, ∃ e, El K p H5 ws v e ∧
        e.shown ∉ (mvs ws).map tx) ∧ Same H5 H')
    ⟨[], upd_same, Nat.le_refl _, fun h => h, nofun, sameNew nD⟩
    (fun i H' _ z => by obtain ⟨_, _, _, _, _, s'⟩ := z; exact SqL.up hs s')
    ?_ ?_
  · rintro i x H6 H7 hi ⟨ys, hD, ly, py, ey, s6⟩ ⟨rfl, ex⟩
    obtain ⟨e, ee⟩ := AX.el x (List.mem_of_getElem? ex)
    have okE := ee.ok
    unfold okD at okE
    simp only [Bool.and_eq_true, decide_eq_true_eq] at okE
    obtain ⟨⟨⟨e1, e2⟩, e3⟩, _⟩ := okE
    refine ⟨rfl, _, rfl, x, e, rfl, .inl (ee.dx _ (But.of s6)), e1, e2,
      Nat.le_trans e3 (by decide), ?_⟩
    refine ⟨_, rfl, a, ws, rfl, s6 _ _ ha5, hw,
      fun ml rs H7 nm hm ms s7 => ?_⟩
    refine ⟨ml, rfl, ⟨_, SqL.of hm⟩, fun D2 nD2 => ?_⟩
    refine walkW (walk_list (K := K) (a := ml) (xs := rs.map V.ref))
      (fun j H' => H' D2 = some (.lst ((((mvs ws).map tx).take j).map V.str)) ∧
        Same H7 H') ⟨upd_same, sameNew nD2⟩ (fun j H' _ z => SqL.up hm z.2)
      ?_ ?_
    · rintro j y H8 H9 hj ⟨hD2, s8⟩ ⟨rfl, ey2⟩
      obtain ⟨r, hr', rfl⟩ := get_ref ey2
      obtain ⟨m, hm', hat⟩ := Pd_at ms hr'
      have im := mvs_is.mp (List.mem_of_getElem? hm')
      have lk : m.2 < ws.length := by
        obtain ⟨c, k'⟩ := m
        cases c with
        | true =>
          obtain ⟨z, _⟩ : k' + 2 ≤ ws.length ∧ _ := im
          show k' < _
          omega
        | false =>
          obtain ⟨z, _⟩ : k' + 3 ≤ ws.length ∧ _ := im
          show k' < _
          omega
      have okM : okD (dMv m) = true := by
        refine ok_t2 (n := 20) (by simp only [PyData.showable])
          (by simp only [PyData.depth]; omega) ?_ (by decide)
          (by omega) (by omega)
        obtain ⟨c, k'⟩ := m
        cases c with
        | true => exact cCom
        | false => exact cBra
      unfold okD at okM
      simp only [Bool.and_eq_true, decide_eq_true_eq] at okM
      obtain ⟨⟨⟨m1, m2⟩, m3⟩, _⟩ := okM
      have lm : j < (mvs ws).length := by
        have := (List.getElem?_eq_some_iff.mp hm').1
        exact this
      have hmv : (mvs ws).length ≤ 2000 := by
        have z1 := mvT_len ws true (ws.length - 1)
        have z2 := mvT_len ws false (ws.length - 2)
        unfold mvs
        rw [List.length_append]
        omega
      refine ⟨rfl, yes ⟨_, rfl, _, dMv m, rfl, .inl (dx_mv (s8 _ _ hat)), m1, m2,
        Nat.le_trans m3 (by decide), _, hD2, ?_, ?_, ?_⟩⟩
      · rw [List.length_map, List.length_take, List.length_map]
        exact sz' (by omega)
      · rw [upd_same]
        have : ((mvs ws).map tx)[j]? = some (tx m) := by
          rw [List.getElem?_map, hm']
          rfl
        rw [take_snoc this, List.map_append]
        rfl
      · exact OM.Same.put s8 nD2
    · rintro H8 ⟨hD2, s8⟩
      rw [List.length_map, ms.len, List.take_of_length_le (by
        rw [List.length_map]; exact Nat.le_refl _)] at hD2
      refine ⟨D2, _, rfl, .inl (SqL.of hD2), rfl, ?_, _, rfl, ?_⟩
      · rw [List.all_map]
        exact List.all_eq_true.mpr fun _ _ => rfl
      rw [inV_str]
      have s58 := (s6.trans s7).trans s8
      have hD8 := s8 _ _ (s7 _ _ hD)
      by_cases hin : e.shown ∈ (mvs ws).map tx
      · rw [decide_eq_true hin]
        refine iteF ⟨ys, hD8, by omega, ?_, ey, s58⟩
        intro _
        cases i with
        | zero =>
          exfalso
          cases ex
          have z := ee.dx H5 (But.refl H5)
          cases z
          obtain ⟨m, _, zm⟩ := List.mem_map.mp hin
          exact none_not m zm.symm
        | succ i => exact py (Nat.succ_pos _)
      · rw [decide_eq_false hin]
        refine iteT ⟨_, rfl, ys, hD8, ?_, ys ++ [x], upd_same, ?_, ?_, ?_, ?_⟩
        · rw [List.length_cons, lx] at hi
          exact sz' (by omega)
        · rw [List.length_append]
          show ys.length + 1 ≤ _
          omega
        · intro _
          rw [List.length_append]
          show 0 < ys.length + 1
          omega
        · intro v hv
          rcases List.mem_append.mp hv with h | h
          · exact ey v h
          · rw [List.mem_singleton.mp h]
            exact ⟨e, ee, hin⟩
        · exact OM.Same.put s58 nD
  · rintro H6 ⟨ys, hD, ly, py, ey, s6⟩
    have bs := But.of (AX.s.trans s6) (p := p)
    have nDp : D ≠ p := ((rg1.same AX.s).ne nD).symm
    refine q D ys H6 (b1.free nDp (AX.s.free nD)) hD (py (by
      rw [List.length_cons]; omega)) ?_ (fun v hv => ?_)
      (rg1.same (AX.s.trans s6)) (b1.trans bs) ?_
    · rw [List.length_cons, lx] at ly
      omega
    · obtain ⟨e, z1, z2⟩ := ey v hv
      exact ⟨e, (z1.but (But.of s6)).odd z2⟩
    · exact nDp
end
end OM
namespace OM
open PySem PySem.Spec PyProof.Rows L2
/-! ### what the top has left -/
structure DefAt (K : PySem.W.Frag) (mg : Str → Option Value) (x : Str)
    (st : Stmt) (ps : List Str) (f : Addr) (fd : FuncData) : Prop where
  fn : Fun K x x st f fd
  mg : mg x = some (.ref f)
  bd : Binds K fd ps []
  bt : ∀ (s : Shared) (us : List Value), us.length = ps.length →
    BindsTo s fd ⟨us, []⟩ (ps.zip us)
theorem defAt {K : PySem.W.Frag} {mg : Str → Option Value} {h : Heap}
    {x : Str} {st : Stmt} {ps : List Str} {f : Addr} {oc : Value}
    {od an : Option Addr} {sl : Array (Option Value)}
    {kV dc pm cv ct : Value} (X : K.In h) (G : h.Ns mainGlobals mg)
    (a : PySem.W.nsIn K mainGlobals x = some (some (.ref f)))
    (l : K.lookup f = some ⟨oc, od, .func (PySem.W.fnOf x x (defArgs st)
      (defBody st) (defScope st) .none kV dc pm an cv ct), sl⟩)
    (c : PySem.W.codeIn K cv x = true)
    (k : PySem.W.keepIn K (.ref f) = true)
    (b : ∀ (kV doc pm : Value) (an : Option Addr) (cdv ct : Value)
      (us : List Value), us.length = ps.length →
      bindArgs (PySem.W.fnOf x x (defArgs st) (defBody st) (defScope st)
        .none kV doc pm an cdv ct) ⟨us, []⟩ = pure (ps.zip us)) :
    ∃ fd, DefAt K mg x st ps f fd :=
  have F := fun_mk (st := st) l c k
  ⟨_, F, PySem.W.mg_of X G a, F.binds b,
    fun _ us hl => .of_eq (b _ _ _ _ _ _ us hl)⟩
structure MethAt (K : PySem.W.Frag) (C : Addr) (m q : Str) (st : Stmt)
    (ps : List Str) (f : Addr) (fd : FuncData) : Prop where
  fn : Fun K m q st f fd
  me : Meth K C m f
  bd : Binds K fd ps []
theorem methAt {K : PySem.W.Frag} {C : Addr}
    {m q : Str} {st : Stmt} {ps : List Str} {f : Addr} {oc : Value}
    {od an : Option Addr} {sl : Array (Option Value)}
    {kV dc pm cv ct : Value}
    (a : PySem.W.findIn K (.ref C) m = some (some (.ref f)))
    (i : PySem.W.isFn K (.ref f) = true)
    (l : K.lookup f = some ⟨oc, od, .func (PySem.W.fnOf m q (defArgs st)
      (defBody st) (defScope st) .none kV dc pm an cv ct), sl⟩)
    (c : PySem.W.codeIn K cv q = true)
    (k : PySem.W.keepIn K (.ref f) = true)
    (b : ∀ (kV doc pm : Value) (an : Option Addr) (cdv ct : Value)
      (us : List Value), us.length = ps.length →
      bindArgs (PySem.W.fnOf m q (defArgs st) (defBody st) (defScope st)
        .none kV doc pm an cdv ct) ⟨us, []⟩ = pure (ps.zip us)) :
    ∃ fd, MethAt K C m q st ps f fd :=
  have F := fun_mk (st := st) l c k
  ⟨_, F, ⟨a, i, k⟩, F.binds b⟩
section
variable {P : Program} {w : World} {K : PySem.W.Frag}
  {mg : Str → Option Value} {base : Heap} {C : Addr}
theorem DefAt.cal {k j : Nat} {x : Str} {st : Stmt} {ps : List Str} {f : Addr}
    {fd : FuncData} {sp : Sp} (D : DefAt K mg x st ps f fd)
    (G : FnOk P w K mg base CX0 j f fd ps sp) (h : j ≤ k) :
    Cal P w K mg base k x ps sp :=
  ⟨f, fd, G.mono h, D.mg, D.fn.kp, D.bd⟩
theorem FnG.up {j k : Nat} {f : Addr} {fd : FuncData} {ps : List Str} {sp : Sp}
    (F : FnG P w K mg base CX0 j f fd ps sp) (h : j ≤ k) :
    FnG P w K mg base CX0 k f fd ps sp :=
  ⟨F.len, fun A o s H ar us vs Q E r g e b v z =>
    F.run A o s H ar us vs Q E (r.mono h) g e b v z⟩
theorem DefAt.calG {k j : Nat} {x : Str} {st : Stmt} {ps : List Str} {f : Addr}
    {fd : FuncData} {sp : Sp} (D : DefAt K mg x st ps f fd)
    (G : FnG P w K mg base CX0 j f fd ps sp) (h : j ≤ k) :
    CalG P w K mg base k x ps sp :=
  ⟨f, fd, G.up h, D.mg, D.fn.kp, D.bd⟩
theorem MethAt.calM {k j : Nat} {m q : Str} {st : Stmt} {ps : List Str}
    {f : Addr} {fd : FuncData} {sp : Sp} (D : MethAt K C m q st ps f fd)
    (c : Cls K C) (G : FnOk P w K mg base CX0 j f fd ps sp) (h : j ≤ k) :
    CalM P w K mg base C k m ps sp :=
  ⟨c, f, fd, G.mono h, D.me, D.bd⟩
theorem MethAt.spec {m q : Str} {st : Stmt} {ps : List Str}
    {f : Addr} {fd : FuncData} (D : MethAt K C m q st ps f fd) :
    Spec1 K C m f fd ps := ⟨D.me.at_, D.me.fn, D.bd⟩
end
end OM
namespace OM
open PySem PySem.Spec PyProof.Rows L2
/-- a method whose last parameter is given by its name alone -/
structure MethKAt (K : PySem.W.Frag) (C : Addr) (m q kw : Str) (n : Nat)
    (st : Stmt) (ps : List Str) (f : Addr) (fd : FuncData) : Prop where
  fn : Fun K m q st f fd
  me : Meth K C m f
  kb : KBinds K fd ps [kw] (kwG n) (kwG n)
theorem methKAt {K : PySem.W.Frag} {C : Addr}
    {m q kw : Str} {n : Nat} {st : Stmt} {ps : List Str} {f : Addr} {oc : Value}
    {od an : Option Addr} {sl : Array (Option Value)}
    {kV dc pm cv ct : Value}
    (a : PySem.W.findIn K (.ref C) m = some (some (.ref f)))
    (i : PySem.W.isFn K (.ref f) = true)
    (l : K.lookup f = some ⟨oc, od, .func (PySem.W.fnOf m q (defArgs st)
      (defBody st) (defScope st) .none kV dc pm an cv ct), sl⟩)
    (c : PySem.W.codeIn K cv q = true)
    (k : PySem.W.keepIn K (.ref f) = true)
    (hp : 0 < ps.length)
    (b : ∀ (us : List Value) (z : Value), us.length = n →
      bindArgs (PySem.W.fnOf m q (defArgs st) (defBody st) (defScope st)
        .none kV dc pm an cv ct) ⟨us, [(kw, z)]⟩ = pure (ps.zip (us ++ [z]))) :
    ∃ fd, MethKAt K C m q kw n st ps f fd := by
  have F := fun_mk (st := st) l c k
  refine ⟨_, F, ⟨a, i, k⟩, ⟨?_, fun x y => kw_rel x y⟩⟩
  intro s us ws _ hl
  by_cases h : us.length = n ∧ ws.length = 1
  · obtain ⟨z, rfl⟩ := List.length_eq_one_iff.mp h.2
    have e : kwG n us [z] = us ++ [z] := if_pos h
    rw [e]
    exact .of_eq (b us z h.1)
  · have e : kwG n us ws = [] := if_neg h
    rw [e] at hl
    exact absurd hl (by rw [List.length_nil]; omega)
section
variable {P : Program} {w : World} {K : PySem.W.Frag}
  {mg : Str → Option Value} {base : Heap} {C : Addr}
theorem MethKAt.calMK {k j n : Nat} {m q kw : Str} {st : Stmt} {ps : List Str}
    {f : Addr} {fd : FuncData} {sp : Sp} (D : MethKAt K C m q kw n st ps f fd)
    (c : Cls K C) (G : FnOk P w K mg base CX0 j f fd ps sp) (h : j ≤ k) :
    CalMK P w K mg base C k m kw n ps sp :=
  ⟨c, f, fd, G.mono h, D.me, D.kb⟩
end
end OM
namespace OM
open PySem PySem.Spec PyProof.Rows L2
/-! ### a method whose last parameter has a default -/
structure CalMD (P : Program) (w : World) (K : PySem.W.Frag)
    (mg : Str → Option Value) (base : Heap) (C : Addr) (k : Nat) (x : Str)
    (ps : List Str) (dvs : List V) (sp : Sp) : Prop where
  cl : Cls K C
  ex : ∃ f fd ds, FnOk P w K mg base CX0 k f fd ps sp ∧ Meth K C x f ∧
    Binds K fd ps ds ∧ Vals dvs ds
section
variable {X : Cx} {k : Nat} {ps : List Str} {sp : Sp} {x : Str} {C : Addr}
  {p pos : Pos} {o e : Expr} {es : List Expr} {t : TA} {to : TE} {dvs : List V}
theorem pe_calMD {pl : Sem Bool}
    (M : CalMD X.prog X.w X.K X.mg X.base C k x ps dvs sp)
    (room : Room k X.A) (ho : PE X o to) (ha : PA X (e :: es) t)
    (h1 : starEach (e :: es) X.env =
      (false, eval e X.env) :: starEach es X.env := by rfl)
    (h2 : (backTo pos (starEach es X.env)).any (·.1) = false := by rfl)
    (h3 : eval (.Call (.Attribute o x p) (e :: es) [] pos) X.env = (do
      let ov ← eval o X.env
      standAt p.atName
      let (f, first) ← holding [ov] (getMethod ov x pl)
      callWith pos f first (backTo pos (starEach (e :: es) X.env))
        (backToKw pos (keywordEach [] X.env))) := by rfl) :
    PE X (.Call (.Attribute o x p) (e :: es) [] pos)
      (tMeth C x sp dvs E0 to t) := by
  obtain ⟨f, fd, ds, F, m, b, v⟩ := M.ex
  exact pe_meth (pl := pl) ho M.cl m F room b v pass0 ha h1 h2 h3
end
structure MethKDAt (K : PySem.W.Frag) (C : Addr) (m q kw : Str) (n : Nat)
    (st : Stmt) (ps : List Str) (f : Addr) (fd : FuncData) : Prop where
  k : MethKAt K C m q kw n st ps f fd
  bd : ∃ ds, Vals [vS []] ds ∧ Binds K fd ps ds
theorem methKDAt {K : PySem.W.Frag} {C D : Addr}
    {m q kw : Str} {n : Nat} {st : Stmt} {ps : List Str} {f : Addr} {oc : Value}
    {od an : Option Addr} {sl : Array (Option Value)} {t : Tok}
    {dc pm cv ct : Value}
    (a : PySem.W.findIn K (.ref C) m = some (some (.ref f)))
    (i : PySem.W.isFn K (.ref f) = true)
    (l : K.lookup f = some ⟨oc, od, .func (PySem.W.fnOf m q (defArgs st)
      (defBody st) (defScope st) .none (.ref D) dc pm an cv ct), sl⟩)
    (c : PySem.W.codeIn K cv q = true)
    (k : PySem.W.keepIn K (.ref f) = true)
    (hp : ps.length = n + 1)
    (hd : PySem.W.nsIn K D kw = some (some (.str (Str.ofString "") t)))
    (b : ∀ (us : List Value) (z : Value), us.length = n →
      bindArgs (PySem.W.fnOf m q (defArgs st) (defBody st) (defScope st)
        .none (.ref D) dc pm an cv ct) ⟨us, [(kw, z)]⟩ =
        pure (ps.zip (us ++ [z])))
    (b2 : ∀ (us : List Value) (z : Value), us.length = n →
      KwChain D [(kw, z)] (bindArgs (PySem.W.fnOf m q (defArgs st) (defBody st)
        (defScope st) .none (.ref D) dc pm an cv ct) ⟨us, []⟩)
        (ps.zip (us ++ [z]))) :
    ∃ fd, MethKDAt K C m q kw n st ps f fd := by
  have F := fun_mk (st := st) l c k
  refine ⟨_, ⟨F, ⟨a, i, k⟩, ⟨?_, fun x y => kw_rel x y⟩⟩, [.str (Str.ofString "") t],
    .cons ⟨_, rfl⟩ .nil, ?_⟩
  · intro s us ws _ hl
    by_cases h : us.length = n ∧ ws.length = 1
    · obtain ⟨z, rfl⟩ := List.length_eq_one_iff.mp h.2
      have e : kwG n us [z] = us ++ [z] := if_pos h
      rw [e]
      exact .of_eq (b us z h.1)
    · have e : kwG n us ws = [] := if_neg h
      rw [e] at hl
      exact absurd hl (by rw [List.length_nil]; omega)
  · intro s us X hl
    rw [List.length_append, hp] at hl
    have hn : us.length = n := by simpa using hl
    refine BindsTo.of_looks fun M => KwChain.looks X ?_ (b2 us _ hn)
    intro z hz
    rw [List.mem_singleton.mp hz]
    exact hd
section
variable {P : Program} {w : World} {K : PySem.W.Frag}
  {mg : Str → Option Value} {base : Heap} {C : Addr}
theorem MethKDAt.calMD {k j n : Nat} {m q kw : Str} {st : Stmt} {ps : List Str}
    {f : Addr} {fd : FuncData} {sp : Sp} (D : MethKDAt K C m q kw n st ps f fd)
    (c : Cls K C) (G : FnOk P w K mg base CX0 j f fd ps sp) (h : j ≤ k) :
    CalMD P w K mg base C k m ps [vS []] sp := by
  obtain ⟨ds, v, b⟩ := D.bd
  exact ⟨c, f, fd, ds, G.mono h, D.k.me, b, v⟩
end
end OM
namespace OM
open PySem PySem.Spec PyProof.Rows L2
def spLaw (K : PySem.W.Frag) : Sp := fun vs H Q _ =>
  ∃ (a : Addr) (ns : List Int), vs = [.ref a] ∧ SqL K H a (ns.map V.int) ∧
  ns.length ≤ 63 ∧ ∀ H', Q (.bl true) H'
/-! ### lists of moves as data -/
abbrev dMs (ms : List Mv) : List PyData := ms.map dMv
theorem dpAll_M {K : PySem.W.Frag} {H : Hp} : ∀ {rs : List Addr}
    {ms : List Mv}, MvsAt H rs ms → DpAll K H (rs.map V.ref) (dMs ms)
  | _, _, .nil => .nil
  | _, _, .cons a t => .cons (.tup (SqT.of a) (.cons (.str _)
      (.cons (.int _) .nil))) (dpAll_M t)
theorem lay_M : ∀ ms : List Mv, PyData.canLayAll0 (dMs ms) = true
  | [] => by simp [PyData.canLayAll0]
  | m :: ms => by
    have ih := lay_M ms
    have o : PyData.strOk (sMv m.1) = true := by
      cases m.1 <;> decide +kernel
    show PyData.canLayAll0 (dMv m :: dMs ms) = true
    rw [show PyData.canLayAll0 (dMv m :: dMs ms) =
      (PyData.canLay0 (dMv m) && PyData.canLayAll0 (dMs ms)) by
        simp only [PyData.canLayAll0], ih]
    simp only [PyData.canLay0, PyData.canLayAll0, o, Bool.and_self]
theorem depth_M : ∀ ms : List Mv, PyData.depthAll (dMs ms) ≤ 2
  | [] => by simp [PyData.depthAll]
  | m :: ms => by
    have ih := depth_M ms
    show PyData.depthAll (dMv m :: dMs ms) ≤ 2
    rw [show PyData.depthAll (dMv m :: dMs ms) =
      max (dMv m).depth (PyData.depthAll (dMs ms)) by
        simp only [PyData.depthAll]]
    have : (dMv m).depth ≤ 2 := by
      simp only [PyData.depth, PyData.depthAll]
      omega
    omega
theorem shaped_M (ms : List Mv) : SeqAt.shaped (.list (dMs ms)) = true := by
  unfold SeqAt.shaped
  rw [show PyData.canLay0 (.list (dMs ms)) = PyData.canLayAll0 (dMs ms) by
    simp only [PyData.canLay0], lay_M ms]
  have d : (PyData.list (dMs ms)).depth = PyData.depthAll (dMs ms) + 1 := by
    simp only [PyData.depth]
  have := depth_M ms
  exact decide_eq_true (by omega)
theorem eqv_M0 (ms : List Mv) : PyData.eqv (.list (dMs ms)) (.list []) =
    decide (ms = []) := by
  cases ms with
  | nil => simp [PyData.eqv, PyData.eqvAll]
  | cons m r =>
    rw [show PyData.eqv (.list (dMs (m :: r))) (.list []) =
      PyData.eqvAll (dMv m :: dMs r) [] by simp only [PyData.eqv]; rfl]
    simp [PyData.eqvAll]
theorem rowsS_len (ls : List (List Nat)) (rows : List En) (i : Nat)
    (r : List Nat) : (rowsS ls rows i r).length ≤ rows.length + 1 := by
  unfold rowsS
  split
  · rw [List.length_append]
    exact Nat.le_refl _
  · have := List.length_eraseIdx_le rows (canJ ls (ixs rows) i)
    omega
theorem but_two {p g ro : Addr} {H H1 H2 : Hp} (b : But p H H1)
    (u : But2 g ro H1 H2) (ng : H g = none) (nr : H ro = none) :
    But p H H2 := fun y o e n =>
  u y o (b y o e n) (ne_of_none e ng) (ne_of_none e nr)
theorem two_at {α : Type} {P : α → Prop} {a b : α} {i : Int}
    (h0 : 0 ≤ i) (h1 : i < 2) (pa : P a) (pb : P b) :
    ∃ v, atI [a, b] i = some v ∧ P v := by
  have e : i = 0 ∨ i = 1 := by omega
  rcases e with rfl | rfl
  · exact ⟨a, rfl, pa⟩
  · exact ⟨b, rfl, pb⟩
section
variable {P : Program} {w : World} {K : PySem.W.Frag}
  {mg : Str → Option Value} {base : Heap} {C L : Addr}
theorem ok_law35 {f : Addr} {fd : FuncData} {k : Nat}
    (F : Fun K "law" "law" s_law f fd)
    (B : Bl mg) (BI : BlI mg)
    (Cr : Cal P w K mg base k "_law_rng" ["_law_script", "_law_k"] (spRng K))
    (Cd : CalDraw P w K mg base k)
    (Cn : Cal P w K mg base k "_law_names"
      ["_law_rng_here", "_law_many", "_law_used"] spNames)
    (Cc : Cal P w K mg base k "_law_choice" ["_law_rng_here", "_law_options"]
      (spChoice K))
    (Cb : CalC P w K mg base C k "Base" ["self", "items"] (spInitOk C))
    (Cl : CalC P w K mg base L k "SwapLog" ["self", "base"] (spLInit C L))
    (Md : CalMD P w K mg base L k "swap" ["self", "index", "reason"] [vS []]
      (spSwapC C L))
    (Co : Cal P w K mg base k "word_of" ["log"] (spLIxs C L))
    (Me : CalM P w K mg base L k "entries" ["self"] (spLEnt C L))
    (Mo : CalM P w K mg base L k "order" ["self"] (spLOrd C L))
    (Cm : Cal P w K mg base k "_law_moves" ["_law_word"] spLMoves)
    (Ca : Cal P w K mg base k "apply_move" ["base", "word", "move"]
      (spApply C))
    (Cw : CalG P w K mg base k "_law_word_right" ["_law_rng_here", "_law_base",
      "_law_word", "_law_order"] (spWR C))
    (Cs : Cal P w K mg base k "_law_lists_right" ["_law_base", "_law_items",
      "_law_log", "_law_word"] (spLists C L)) :
    FnG P w K mg base CX0 (k + 2) f fd ["_law_script"] (spLaw K) := by
  refine okG F sc_law (fun vs H Q E h => ?_)
    (fun cv A outer s H vs Q E hr1 gd h => ?_)
  · obtain ⟨a, ns, rfl, _⟩ := h
    rfl
  obtain ⟨a, ns, rfl, hS, hlen, q⟩ := h
  have nd := sc_law.nd
  have hr := hr1.mono (Nat.le_succ k)
  refine ⟨_, pss_cons (ps_for PassesOwn.never rfl
      (pi_range1 (by rfl) B.range (pa_cons
        (pe_callB (call_max2 rfl) (by rfl) B.max bt_max (pa_cons pe_int (pa_cons
          (pe_callB (call_min2 rfl) (by rfl) B.min bt_min (pa_cons pe_int
            (pa_cons (pe_callB call_len_seq (by rfl) B.len PySem.boot_len
              (pa_cons (pv 0) pa_nil)) pa_nil))) pa_nil)))
        pa_nil))
      (pg_name (i := 1) nd rfl (.inl rfl))
      (C8.pss_cut (ps_set (i := 2) nd rfl (.inl rfl)
        (pe_cal Cr hr (pa_cons (pv 0) (pa_cons (pv 1) pa_nil))))
      (C8.pss_cut (ps_set (i := 3) nd rfl (.inl rfl) (pe_ifExp
        (pt_cmpR op_eq (pe_cal Cd hr (pa_cons (pv 2) (pa_cons pe_int
          pa_nil))) pe_int (nomark _)) pe_int
        (pe_op op_add pe_int (pe_cal Cd hr (pa_cons (pv 2) (pa_cons pe_int
          pa_nil))))))
      (C8.pss_cut (ps_set (i := 4) nd rfl (.inl rfl)
        (pe_cal Cn hr (pa_cons (pv 2) (pa_cons (pv 3)
          (pa_cons (pe_lst pa_nil) pa_nil)))))
      (C8.pss_cut (ps_set (i := 5) nd rfl (.inl rfl)
        (pe_calC Cb hr1 (pa_cons (pe_callTy call_list_of (by rfl) B.list bt_list
          (pa_cons (pv 4) pa_nil)) pa_nil)))
      (C8.pss_cut (ps_set (i := 6) nd rfl (.inl rfl)
        (pe_calC Cl hr1 (pa_cons (pv 5) pa_nil)))
      (C8.pss_cut (ps_for PassesOwn.never rfl
        (pi_range1 (by rfl) B.range (pa_cons (pe_op op_mul (pe_cal Cd hr
          (pa_cons (pv 2) (pa_cons pe_int pa_nil)))
          (pe_callTy call_int1 (by rfl) BI.int bti_int (pa_cons
            (pe_cmpR op_gt (pv 3) pe_int (nomark _)) pa_nil))) pa_nil))
        (pg_name (i := 7) nd rfl (.inl rfl))
        (pss_one (ps_expr (pe_calMD Md hr (pv 6) (pa_cons (pe_op op_mod
          (pe_cal Cd hr (pa_cons (pv 2) (pa_cons (pe_op op_sub (pv 3) pe_int)
            pa_nil)))
          (pe_ix ix_list (pe_lst (pa_cons (pv 3) (pa_cons pe_int pa_nil)))
            (pe_cal Cd hr (pa_cons (pv 2) (pa_cons pe_int pa_nil)))
            (fun _ _ => rfl))) pa_nil)))))
      (C8.pss_cut (ps_set (i := 8) nd rfl (.inl rfl)
        (pe_cal Co hr (pa_cons (pv 6) pa_nil)))
      (C8.pss_cut (ps_if (pt_cmpR op_ne
          (pe_callB (call_reprD hr gd) (by rfl) B.repr bt_repr
            (pa_cons (pv 8) pa_nil))
          (pe_callB (call_reprD hr gd) (by rfl) B.repr bt_repr
            (pa_cons (pe_lc (own := [("_law_entry", 9)]) (g := gName 9)
              (tt := tYes) rfl nd (pi_list (pe_calM0 Me hr (pv 6)))
              (blkOk_by (N := N_law) (sc := defScope s_law) (by decide +kernel))
              (fun _ _ _ _ _ => pg_name (i := 9) nd rfl (Or.inl rfl))
              (fun _ _ _ _ _ => pts_nil)
              (fun _ _ _ _ _ => pe_ix (r := rIxT K) ix_tup (pv 9) pe_int
                (fun _ _ => rfl))) pa_nil)) (nomark _))
        (pss_one ps_never) pss_nil)
      (C8.pss_cut (ps_for PassesOwn.never rfl
        (pi_range1 (by rfl) B.range (pa_cons (pe_op op_add pe_int
          (pe_cal Cd hr (pa_cons (pv 2) (pa_cons pe_int pa_nil)))) pa_nil))
        (pg_name (i := 7) nd rfl (.inl rfl))
        (C8.pss_cut (ps_if (pt_not (pt_val (pe_calG Cw hr gd (pa_cons (pv 2)
            (pa_cons (pv 5) (pa_cons (pv 8) (pa_cons
              (pe_calM0 Mo hr (pv 6)) pa_nil)))))))
          (pss_one ps_never) pss_nil)
        (C8.pss_cut (ps_set (i := 10) nd rfl (.inl rfl)
          (pe_cal Cm hr (pa_cons (pv 8) pa_nil)))
        (pss_one (ps_if (pt_cmpR (op_neD hr.units) (pv 10) (pe_lst pa_nil)
            (nomark _))
          (pss_one (ps_set (i := 8) nd rfl (.inl rfl) (pe_cal Ca hr (pa_cons
            (pv 5) (pa_cons (pv 8) (pa_cons (pe_cal Cc hr (pa_cons (pv 2)
              (pa_cons (pv 10) pa_nil))) pa_nil)))))) pss_nil)))))
      (C8.pss_cut (ps_if (pt_not (pt_val (pe_cal Cs hr (pa_cons (pv 5)
          (pa_cons (pv 4) (pa_cons (pv 6) (pa_cons (pv 8) pa_nil)))))))
        (pss_one ps_never) pss_nil)
      (pss_one (ps_if (pt_cmpR (op_neD hr.units)
          (pe_cal Co hr (pa_cons (pv 6) pa_nil))
          (pe_lc (own := [("_law_entry", 9)]) (g := gName 9)
            (tt := tYes) rfl nd (pi_list (pe_calM0 Me hr (pv 6)))
            (blkOk_by (N := N_law) (sc := defScope s_law) (by decide +kernel))
            (fun _ _ _ _ _ => pg_name (i := 9) nd rfl (Or.inl rfl))
            (fun _ _ _ _ _ => pts_nil)
            (fun _ _ _ _ _ => pe_ix (r := rIxT K) ix_tup (pv 9) pe_int
              (fun _ _ => rfl))) (nomark _))
        (pss_one ps_never) pss_nil)))))))))))))
    (pss_one (ps_ret pe_bl)), ?_⟩
  -- how many cells
  refine ⟨_, rfl, a, _, rfl, .inl hS, _, _, rfl, _, _, rfl, _, rfl, ?_, ?_, ?_⟩
  · rw [List.length_map]
    split <;> split <;> omega
  · rw [List.length_map]
    split <;> split <;> omega
  generalize hn : (Int.toNat _) = n
  have n4 : n ≤ 1000 := by
    rw [← hn, List.length_map]
    split <;> split <;> omega
  clear hn
  refine for_range (lo := 0) (n := n) (fun i σ H' =>
      ∃ x1 x2 x3 x4 x5 x6 x7 x8 y1 : Option V, σ = [some (.ref a), x1,
        x2, x3, x4, x5, x6, x7, x8, none, y1] ∧ Same H H')
    ⟨none, none, none, none, none, none, none, none, none, rfl, Same.refl H⟩ ?_
    (fun σ H' _ => q H')
  rintro i σ H0 hi ⟨x1, x2, x3, x4, x5, x6, x7, x8, y1, rfl, s0⟩
  -- the drawing state
  refine ⟨fun σ' H' => ∃ p, σ' = [some (.ref a), some (.int i), some (.ref p),
    x3, x4, x5, x6, x7, x8, none, y1] ∧ H0 p = none ∧ Rng H' p ∧
    Same H0 H', ?_, ?_⟩
  · refine ⟨_, rfl, _, rfl, a, ns, i, ?_, s0.seq hS, by omega,
      fun p H1 np rg s1 => ⟨p, ?_, np, rg, s1⟩⟩
    · rw [Int.zero_add]
      rfl
    · rw [Int.zero_add]
      rfl
  rintro _ H1 ⟨p, rfl, np, rg1, s1⟩
  have b1 : But p H0 H1 := But.of s1
  clear s1
  -- the size
  refine ⟨fun σ' H' => ∃ z : Nat, σ' = [some (.ref a), some (.int i),
    some (.ref p), some (.int z), x4, x5, x6, x7, x8, none, y1] ∧ 1 ≤ z ∧
    z ≤ 40 ∧ Rng H' p ∧ But p H0 H', ?_, ?_⟩
  · refine ⟨_, rfl, p, 8, rfl, rg1, by decide, by decide,
      fun d H2 d0 d1 rg2 b2 => ⟨rfl, _, rfl, ite2 (fun _ => ?_)
        (fun _ => ?_)⟩⟩
    · exact ⟨40, rfl, by decide, by decide, rg2, b1.trans b2⟩
    · refine ⟨_, rfl, p, 8, rfl, rg2, by decide, by decide,
        fun e H3 e0 e1 rg3 b3 => ⟨_, _, rfl, rfl, (1 + e).toNat, ?_, by omega,
        by omega, rg3, (b1.trans b2).trans b3⟩⟩
      rw [Int.toNat_of_nonneg (by omega)]
      rfl
  clear b1 rg1
  rintro _ H2 ⟨z, rfl, z0, z1, rg2, b2⟩
  -- the items
  refine ⟨fun σ' H' => ∃ it ls, σ' = [some (.ref a), some (.int i),
    some (.ref p), some (.int z), some (.ref it), x5, x6, x7, x8, none, y1] ∧
    Good ls ∧ ls.length = z ∧
    H' it = some (.lst (ls.map vS)) ∧ Rng H' p ∧ But p H0 H', ?_, ?_⟩
  · refine ⟨_, rfl, _, rfl, sz (by simp), fun u nu => ?_⟩
    have nup : u ≠ p := (rg2.ne nu).symm
    refine ⟨p, u, z, [], rfl, rg2.same (sameNew nu), upd_same, nup, by omega,
      by simp, fun it ls H3 nit hl nm ndl no hit rg3 b3 => ?_⟩
    exact ⟨it, ls, rfl, ⟨nm, ndl, by omega, by omega⟩, hl, hit, rg3,
      (b2.put nu nup).trans b3⟩
  clear b2 rg2
  rintro _ H3 ⟨it, ls, rfl, good, lz, hi3, rg3, b3⟩
  -- the base
  refine ⟨fun σ' H' => ∃ b, σ' = [some (.ref a), some (.int i),
    some (.ref p), some (.int z), some (.ref it), some (.ref b), x6, x7, x8,
    none, y1] ∧ BaseAt C H' b ls ∧ Same H3 H', ?_, ?_⟩
  · refine ⟨_, rfl, it, _, rfl, .inl (SqL.of hi3), fun c nc b dx nb nx ne => ?_⟩
    have hc : (upd H3 c (.lst (ls.map vS))) c = some (.lst (ls.map vS)) :=
      upd_same
    have s5 := sameNew (o := .lst (ls.map vS)) nc
    generalize upd H3 c (.lst (ls.map vS)) = H5 at hc s5 nb nx ne ⊢
    have nib := ne_of_none hc nb
    have nix := ne_of_none hc nx
    refine ⟨b, c, dx, ls, rfl, upd_same, ?_, good, fun H6 hB b6 =>
      ⟨rfl, b, rfl, hB, ?_⟩⟩
    · rw [upd_ne nib, upd_ne nix]
      exact hc
    · intro y o e
      have e5 := s5 _ _ e
      have ny := ne_of_none e5 nb
      refine b6 y o ?_ ny
      rw [upd_ne ny, upd_ne (ne_of_none e5 nx)]
      exact e5
  rintro _ H4 ⟨b, rfl, hB4, s4⟩
  have rg4 := rg3.same s4
  have hi4 := s4 _ _ hi3
  have b4 : But p H0 H4 := b3.trans (But.of s4)
  clear s4 rg3 hi3 b3
  -- the log
  refine ⟨fun σ' H' => ∃ g ro, σ' = [some (.ref a), some (.int i),
    some (.ref p), some (.int z), some (.ref it), some (.ref b), some (.ref g),
    x7, x8, none, y1] ∧ H0 g = none ∧ H0 ro = none ∧
    LogAt C L H' g ro b ls [] ∧ H' it = some (.lst (ls.map vS)) ∧ Rng H' p ∧
    But p H0 H', ?_, ?_⟩
  · refine ⟨_, rfl, fun g dx ng nx ne => ?_⟩
    have sg : Same H4 (upd (upd H4 dx (.own g)) g (.ins L dx [])) :=
      OM.Same.put (sameNew nx) ng
    refine ⟨g, b, dx, ls, rfl, upd_same, hB4.same sg, good,
      fun ro H5 nro x5 b5 => ?_⟩
    have s5 : Same H4 H5 := fun y o e => b5 y o (sg y o e) (ne_of_none e ng)
    have rg5 := rg4.same s5
    have nr4 := sg.free nro
    exact ⟨rfl, g, ro, rfl, b4.free (rg4.ne ng).symm ng,
      b4.free (rg4.ne nr4).symm nr4, x5, s5 _ _ hi4, rg5,
      b4.trans (But.of s5)⟩
  clear hB4 hi4 rg4 b4
  rintro _ H5 ⟨g, ro, rfl, ng, nro, l5, hi5, rg5, b5⟩
  -- the swaps
  refine ⟨fun σ' H' => ∃ rows y7, σ' = [some (.ref a), some (.int i),
    some (.ref p), some (.int z), some (.ref it), some (.ref b), some (.ref g),
    y7, x8, none, y1] ∧ rows.length ≤ 31 ∧
    LogAt C L H' g ro b ls rows ∧ H' it = some (.lst (ls.map vS)) ∧ Rng H' p ∧
    But p H0 H', ?_, ?_⟩
  · refine ⟨_, rfl, p, 31, rfl, rg5, by decide, by decide,
      fun d H6 d0 d1 rg6 b6 => ⟨_, rfl, _, _, rfl, rfl, .inr ⟨_, rfl, d, _, rfl,
        rfl, .inl ⟨by omega, by omega⟩, _, rfl, ?_, ?_, ?_⟩⟩⟩
    · show -(2 ^ 62) ≤ d * (if decide ((1 : Int) < (z : Int)) = true then 1 else 0)
      split <;> omega
    · show d * (if decide ((1 : Int) < (z : Int)) = true then 1 else 0) < 2 ^ 62
      split <;> omega
    generalize ht : (d * (if decide ((1 : Int) < (z : Int)) = true then 1
      else 0)).toNat = t
    have two : 0 < t → 1 < z := by
      intro h
      rw [← ht] at h
      split at h
      · rename_i z'
        have := of_decide_eq_true z'
        omega
      · simp at h
    have t31 : t ≤ 31 := by
      rw [← ht]
      split <;> omega
    clear ht
    refine for_range (lo := 0) (n := t) (fun j σ H' => ∃ rows y7,
        σ = [some (.ref a), some (.int i), some (.ref p), some (.int z),
        some (.ref it), some (.ref b), some (.ref g), y7, x8, none, y1] ∧
        rows.length ≤ j ∧ LogAt C L H' g ro b ls rows ∧
        H' it = some (.lst (ls.map vS)) ∧ Rng H' p ∧ But p H0 H')
      ⟨[], x7, rfl, Nat.le_refl _, l5.but rg5 b6, b6 _ _ hi5 (neRng rg5 hi5),
        rg6, b5.trans b6⟩ ?_ ?_
    · rintro j σ H7 hj ⟨rows, y7, rfl, lr, l7, hi7, rg7, b7⟩
      have z2 := two (by omega)
      obtain ⟨dx, cu, rs, h1, h2, h3, h4⟩ := l7.ob
      refine ⟨_, rfl, g, dx, _, rfl, h1, lf_no _ _ _ (by decide +kernel)
        (by decide +kernel) (by decide +kernel), ?_⟩
      refine ⟨_, rfl, _, rfl, _, _, rfl, rfl, p, (z : Int) - 1, rfl, rg7,
        by omega, by omega, fun e H8 e0 e1 rg8 b8 => ?_⟩
      refine ⟨_, rfl, by show 2 ≤ sizeLine; decide, fun l nl => ?_⟩
      have nlp : l ≠ p := (rg8.ne nl).symm
      have b9 := (But.refl H8).put (o := .lst [.int (z : Int), .int 6]) nl nlp
      refine ⟨_, rfl, p, 2, rfl, rg8.same (sameNew nl), by decide, by decide,
        fun e' H9 e0' e1' rg9 b9' => ?_⟩
      obtain ⟨v, hv, m, rfl, m0⟩ := two_at (a := V.int z) (b := V.int 6)
        (P := fun v => ∃ m : Nat, v = .int m ∧ 0 < m) e0' e1'
        ⟨z, rfl, by omega⟩ ⟨6, rfl, by omega⟩
      refine ⟨l, _, e', _, rfl, rfl, SqL.of (b9' _ _ upd_same nlp), hv, _, _,
        rfl, rfl, by omega, ?_⟩
      have bb : But p H7 H9 := b8.trans (b9.trans b9')
      have l9 := l7.but rg7 bb
      have hi9 := bb _ _ hi7 (neRng rg7 hi7)
      have q0 : 0 ≤ e % (m : Int) := Int.emod_nonneg _ (by omega)
      have q1 : e % (m : Int) ≤ e := by
        have w1 := Int.ediv_nonneg e0 (show 0 ≤ (m : Int) by omega)
        have w2 := Int.mul_nonneg (show 0 ≤ (m : Int) by omega) w1
        have w3 := Int.emod_def e m
        omega
      refine ⟨g, ro, b, ls, rows, (e % (m : Int)).toNat, [], ?_, l9, by omega,
        .inl rfl, fun H' x' u' => ?_⟩
      · rw [Int.toNat_of_nonneg q0]
        rfl
      have oi := l9.nms hi9 good.ne
      exact ⟨_, _, rfl, Nat.le_trans (rowsS_len ..) (by omega), x',
        u' _ _ hi9 oi.g oi.ro, rg9.but2 (l9.rng rg9) u',
        but_two (b7.trans bb) u' ng nro⟩
    · rintro σ H7 ⟨rows, y7, rfl, lr, l7, hi7, rg7, b7⟩
      exact ⟨rows, y7, rfl, by omega, l7, hi7, rg7, b7⟩
  clear l5 hi5 rg5 b5 x7
  rintro _ H6 ⟨rows, x7, rfl, lr, l6, hi6, rg6, b6⟩
  have li : (ixs rows).length = rows.length := List.length_map ..
  have l40 := good.hi
  have lno : ∀ {b cu ro : Addr} {m : Str}, ¬ m = "ground" → ¬ m = "current" →
    ¬ m = "rows" → (lf b cu ro).lookup m = none := fun a b c => lf_no _ _ _ a b c
  -- the word
  refine ⟨fun σ' H' => ∃ wo, σ' = [some (.ref a), some (.int i),
    some (.ref p), some (.int z), some (.ref it), some (.ref b), some (.ref g),
    x7, some (.ref wo), none, y1] ∧ wo ≠ p ∧
    H' wo = some (.lst (vIs (ixs rows))) ∧ Same H6 H', ?_, ?_⟩
  · exact ⟨_, rfl, g, ro, b, ls, rows, rfl, l6, fun wo H7 nw hw s7 => ⟨wo, rfl,
      (rg6.ne nw).symm, hw, s7⟩⟩
  rintro _ H7 ⟨wo, rfl, nwp, hw, s7⟩
  have l7 := l6.same s7
  have hi7 := s7 _ _ hi6
  have rg7 := rg6.same s7
  have b7 : But p H0 H7 := b6.trans (But.of s7)
  clear l6 hi6 rg6 b6 s7
  have sm : ∀ i ∈ ixs rows, i < 1601 := fun i hi => by
    have := l7.wd.ixs i hi
    omega
  -- shown alike
  refine ⟨fun σ' H' => σ' = [some (.ref a), some (.int i),
    some (.ref p), some (.int z), some (.ref it), some (.ref b), some (.ref g),
    x7, some (.ref wo), none, y1] ∧ Same H7 H', ?_, ?_⟩
  · obtain ⟨w1, w2, w3⟩ := ints_ok sm (by omega)
    obtain ⟨dx, cu, rs0, h1, h2, h3, h4⟩ := l7.ob
    refine ⟨_, rfl, _, _, rfl, dp_I (SqL.of hw), w1, w2, w3, ?_⟩
    refine ⟨_, rfl, g, dx, _, rfl, h1, lno (by decide +kernel)
      (by decide +kernel) (by decide +kernel), g, ro, b, ls, rows, rfl, l7,
      fun en rs HX nen hen es sX => ⟨en, rfl, ⟨_, SqL.of hen⟩,
      fun D nD => ?_⟩⟩
    refine lc_it (walk_list (K := K) (a := en) (xs := rs.map V.ref))
      (fun i H' => H' D = some (.lst (vIs ((ixs rows).take i))) ∧ Same HX H')
      ⟨upd_same, sameNew nD⟩ (fun i H' _ z => SqL.of (z.2 _ _ hen)) ?_ ?_
    · rintro j v HA HB hi' ⟨hD, sA⟩ ⟨rfl, ev⟩
      obtain ⟨r, hr', rfl⟩ := ref_at ev
      have ll : rs.length = rows.length := es.len
      have il := (List.getElem?_eq_some_iff.mp hr').1
      obtain ⟨e, he⟩ : ∃ e, rows[j]? = some e :=
        ⟨_, List.getElem?_eq_getElem (by omega)⟩
      obtain ⟨r2, hr2, hre⟩ := es.get he
      cases Option.some.inj (hr2.symm.trans hr')
      have hx : (ixs rows)[j]? = some e.1 := by
        show (rows.map _)[j]? = _
        rw [List.getElem?_map, he]
        rfl
      refine ⟨rfl, yes ⟨_, rfl, r, _, 0, _, rfl, rfl, SqT.of (sA _ _ hre), rfl,
        _, hD, ?_, ?_, OM.Same.put sA nD⟩⟩
      · rw [List.length_map, List.length_take]
        exact sz' (by omega)
      · rw [upd_same, take_one hx]
        unfold vIs
        rw [List.map_append]
        rfl
    rintro HA ⟨hD, sA⟩
    have ll : rs.length = rows.length := es.len
    rw [List.length_map, ll, ← li, List.take_length] at hD
    refine ⟨_, _, rfl, dp_I (SqL.of hD), w1, w2, w3, ?_⟩
    generalize (PyData.list (dIs (ixs rows))).shown = tx
    exact ⟨rfl, _, rfl, ne_no ⟨rfl, sX.trans sA⟩⟩
  rintro _ H8 ⟨rfl, s8⟩
  have l8 := l7.same s8
  have hi8 := s8 _ _ hi7
  have rg8 := rg7.same s8
  have hw8 := s8 _ _ hw
  have b8 : But p H0 H8 := b7.trans (But.of s8)
  clear l7 hi7 rg7 b7 s8 hw
  -- the turns
  refine ⟨fun σ' H' => ∃ y7 y10 wo ws, σ' = [some (.ref a), some (.int i),
    some (.ref p), some (.int z), some (.ref it), some (.ref b), some (.ref g),
    y7, some (.ref wo), none, y10] ∧ H' wo = some (.lst (vIs ws)) ∧
    Wd ls ls ws ∧ ws.length ≤ 31 ∧ run ls ws = run ls (ixs rows) ∧
    LogAt C L H' g ro b ls rows ∧ H' it = some (.lst (ls.map vS)) ∧ Rng H' p ∧
    But p H0 H', ?_, ?_⟩
  · refine ⟨_, rfl, p, 8, rfl, rg8, by decide, by decide,
      fun d H9 d0 d1 rg9 b9 => ⟨_, _, rfl, rfl, _, rfl, by omega, by omega, ?_⟩⟩
    generalize (Int.toNat _) = n
    refine for_range (lo := 0) (n := n) (fun j σ H' => ∃ y7 y10 wo ws,
        σ = [some (.ref a), some (.int i),
        some (.ref p), some (.int z), some (.ref it), some (.ref b),
        some (.ref g), y7, some (.ref wo), none, y10] ∧ wo ≠ p ∧
        H' wo = some (.lst (vIs ws)) ∧
        Wd ls ls ws ∧ ws.length ≤ 31 ∧ run ls ws = run ls (ixs rows) ∧
        LogAt C L H' g ro b ls rows ∧ H' it = some (.lst (ls.map vS)) ∧
        Rng H' p ∧ But p H0 H')
      ⟨x7, y1, wo, ixs rows, rfl, nwp, b9 _ _ hw8 nwp, l8.wd, by omega, rfl,
        l8.but rg8 b9, b9 _ _ hi8 (neRng rg8 hi8), rg9, b8.trans b9⟩ ?_ ?_
    · clear b9 rg9 b8 rg8 l8 hw8 hi8 nwp
      clear wo y1 x7
      rintro j σ H9 hj ⟨x7, y1, wo, ws, rfl, nwp, hw, wd, lw, er, l9, hi9, rg9,
        b9⟩
      obtain ⟨dx, cu, rs0, h1, h2, h3, h4⟩ := l9.ob
      -- right
      refine ⟨fun σ' H' => σ' = [some (.ref a), some (.int i),
        some (.ref p), some (.int z), some (.ref it), some (.ref b),
        some (.ref g), some (.int (0 + (j : Int))), some (.ref wo), none, y1] ∧
        Rng H' p ∧ But p H9 H', ?_, ?_⟩
      · refine ⟨_, rfl, _, rfl, _, rfl, _, rfl, g, dx, _, rfl, h1,
          lno (by decide +kernel) (by decide +kernel) (by decide +kernel), g,
          ro, b, ls, rows, rfl, l9, fun o HA no ho sA => ?_⟩
        rw [← er] at ho
        refine ⟨p, b, wo, o, ls, ws, rfl, rg9.same sA, ⟨l9.ba.same sA,
          good, sA _ _ hw, wd, by omega⟩, nwp, ho, fun HB rgB bB => ?_⟩
        exact ⟨_, rfl, iteF ⟨rfl, rgB, (But.of sA).trans bB⟩⟩
      rintro _ HA ⟨rfl, rgA, bA⟩
      have hwA := bA _ _ hw nwp
      have lA := l9.but rg9 bA
      have hiA := bA _ _ hi9 (neRng rg9 hi9)
      have b0A := b9.trans bA
      clear bA rg9 b9 hw hi9 l9 h1 h2 h3 h4
      -- its moves
      refine ⟨fun σ' H' => ∃ ml rs, σ' = [some (.ref a), some (.int i),
        some (.ref p), some (.int z), some (.ref it), some (.ref b),
        some (.ref g), some (.int (0 + (j : Int))), some (.ref wo), none,
        some (.ref ml)] ∧ ml ≠ p ∧ H' ml = some (.lst (rs.map V.ref)) ∧
        MvsAt H' rs (mvs ws) ∧ Same HA H', ?_, ?_⟩
      · exact ⟨_, rfl, wo, ws, rfl, hwA, by omega, fun ml rs HB nm hm ms sB =>
          ⟨ml, rs, rfl, (rgA.ne nm).symm, hm, ms, sB⟩⟩
      rintro _ HB ⟨ml, rs, rfl, nmp, hm, ms, sB⟩
      refine ⟨_, rfl, by show 0 ≤ sizeLine; decide, fun e ne => ?_⟩
      have sC := sB.trans (sameNew (o := .lst []) ne)
      have hmC := sameNew (o := .lst []) ne _ _ hm
      have msC := ms.same (sameNew (o := .lst []) ne)
      have heC : (upd HB e (.lst [])) e = some (.lst []) := upd_same
      generalize upd HB e (.lst []) = HC at sC hmC msC heC ⊢
      have rgC := rgA.same sC
      have lC := lA.same sC
      have b0C := b0A.trans (But.of sC)
      have hwC := sC _ _ hwA
      have hiC := sC _ _ hiA
      refine ⟨.list (dMs (mvs ws)), .list [], .lst (SqL.of hmC) (dpAll_M msC),
        .lst (SqL.of heC) .nil, shaped_M _, shaped_M [], _, rfl, ?_⟩
      rw [eqv_M0]
      by_cases e0 : mvs ws = []
      · rw [decide_eq_true e0]
        exact iteF ⟨_, _, wo, ws, rfl, nwp, hwC, wd, lw, er, lC, hiC, rgC, b0C⟩
      · rw [decide_eq_false e0]
        have lm : (mvs ws).length ≤ 100 := by
          have z1 := mvT_len ws true (ws.length - 1)
          have z2 := mvT_len ws false (ws.length - 2)
          unfold mvs
          rw [List.length_append]
          omega
        have lp : 0 < (mvs ws).length := List.length_pos_iff.mpr e0
        have lq := msC.len
        refine iteT ⟨_, rfl, _, rfl, _, rfl, _, rfl, p, ml, _, rfl, rgC,
          SqL.of hmC, nmp, by rw [List.length_map]; omega,
          by rw [List.length_map]; omega, fun x HD hx rgD bD => ?_⟩
        obtain ⟨r, hr', rfl⟩ := List.mem_map.mp hx
        obtain ⟨⟨c, k'⟩, hmm, hat⟩ := msC.mem hr'
        have im : IsMv ws c k' := mvs_is.mp hmm
        obtain ⟨wd', er'⟩ := im.wd wd
        have ln := mvd_len im
        have nrp : r ≠ p := by
          obtain ⟨u, v, ee, _⟩ := rgC
          exact ne_of hat ee nofun
        refine ⟨b, wo, r, ls, ws, c, k', rfl, ⟨lC.ba.but rgC bD, good,
          bD _ _ hwC nwp, wd, by omega⟩, bD _ _ hat nrp, im,
          fun wo' HE nw' hw' sE => ?_⟩
        refine ⟨_, _, wo', _, rfl, (rgD.ne nw').symm, hw', wd', by omega,
          er'.trans er, (lC.but rgC bD).same sE, ?_, rgD.same sE,
          (b0C.trans bD).trans (But.of sE)⟩
        exact sE _ _ (bD _ _ hiC (neRng rgC hiC))
    · rintro σ HA ⟨x7, y1, wo, ws, rfl, nwp, hw, wd, lw, er, l9, hi9, rg9, b9⟩
      exact ⟨x7, y1, wo, ws, rfl, hw, wd, lw, er, l9, hi9, rg9, b9⟩
  clear b8 rg8 l8 hw8 hi8 nwp
  clear wo y1 x7
  rintro _ H9 ⟨x7, y1, wo, ws, rfl, hw, wd, lw, er, l9, hi9, rg9, b9⟩
  -- the lists
  refine ⟨fun σ' H' => σ' = [some (.ref a), some (.int i),
    some (.ref p), some (.int z), some (.ref it), some (.ref b), some (.ref g),
    x7, some (.ref wo), none, y1] ∧ Same H9 H', ?_, ?_⟩
  · exact ⟨_, rfl, _, rfl, _, rfl, _, rfl, b, it, g, ro, wo, ls, rows, ws, rfl,
      l9, hi9, hw, wd, by omega, by omega, er, fun HA sA =>
      ⟨_, rfl, iteF ⟨rfl, sA⟩⟩⟩
  rintro _ HA ⟨rfl, sA⟩
  have lA := l9.same sA
  refine ⟨_, rfl, g, ro, b, ls, rows, rfl, lA, fun o HB no ho sB => ?_⟩
  have lB := lA.same sB
  obtain ⟨dx, cu, rs0, h1, h2, h3, h4⟩ := lB.ob
  refine ⟨_, rfl, g, dx, _, rfl, h1, lno (by decide +kernel)
      (by decide +kernel) (by decide +kernel), g, ro, b, ls, rows, rfl, lB,
      fun en rs HX nen hen es sX => ⟨en, rfl, ⟨_, SqL.of hen⟩,
      fun D nD => ?_⟩⟩
  refine lc_it (walk_list (K := K) (a := en) (xs := rs.map V.ref))
    (fun i H' => H' D = some (.lst (vIs ((ixs rows).take i))) ∧ Same HX H')
    ⟨upd_same, sameNew nD⟩ (fun i H' _ z => SqL.of (z.2 _ _ hen)) ?_ ?_
  · rintro j v HA HB hi' ⟨hD, sA⟩ ⟨rfl, ev⟩
    obtain ⟨r, hr', rfl⟩ := ref_at ev
    have ll : rs.length = rows.length := es.len
    have il := (List.getElem?_eq_some_iff.mp hr').1
    obtain ⟨e, he⟩ : ∃ e, rows[j]? = some e :=
      ⟨_, List.getElem?_eq_getElem (by omega)⟩
    obtain ⟨r2, hr2, hre⟩ := es.get he
    cases Option.some.inj (hr2.symm.trans hr')
    have hx : (ixs rows)[j]? = some e.1 := by
      show (rows.map _)[j]? = _
      rw [List.getElem?_map, he]
      rfl
    refine ⟨rfl, yes ⟨_, rfl, r, _, 0, _, rfl, rfl, SqT.of (sA _ _ hre), rfl,
      _, hD, ?_, ?_, OM.Same.put sA nD⟩⟩
    · rw [List.length_map, List.length_take]
      exact sz' (by omega)
    · rw [upd_same, take_one hx]
      unfold vIs
      rw [List.map_append]
      rfl
  rintro HZ ⟨hD, sA'⟩
  have ll : rs.length = rows.length := es.len
  rw [List.length_map, ll, ← li, List.take_length] at hD
  refine ⟨_, _, dp_I (SqL.of (sA' _ _ (sX _ _ ho))), dp_I (SqL.of hD), shaped_K,
    shaped_K, _, rfl, ?_⟩
  rw [eqv_KL]
  refine iteF ⟨_, _, _, _, _, _, _, _, _, rfl, ?_⟩
  exact s0.trans ((b9.trans (But.of (((sA.trans sB).trans sX).trans sA'))).same np)
end
end OM
namespace OM
open PySem PySem.Spec PyProof.Rows L2
section
variable {P : Program} {w : World} {K : PySem.W.Frag}
  {mg : Str → Option Value} {base : Heap} {CM : Addr}
theorem ok_iminit {f : Addr} {fd : FuncData} {k : Nat} {q : Str}
    (F : Fun K "__init__" q s_InvalidMove_init f fd) (T : OexC K CM)
    (n1 : PySem.W.findIn K (.ref CM) "value" = some none) :
    FnOk P w K mg base CX0 (k + 1) f fd ["self", "value"]
      (spX1 CM "value") := by
  refine F.ok sc_InvalidMove_init (fun vs H Q E h => ?_)
    (fun cv A outer s H vs Q E hr h => ?_)
  · obtain ⟨a, v1, rfl, _⟩ := h
    rfl
  obtain ⟨a, v1, rfl, ha, q⟩ := h
  refine ⟨_, pss_one (ps_ost (pv 0) (pv 1)), ?_⟩
  exact ⟨_, rfl, _, rfl, a, CM, rfl, T, n1, .inl ⟨ha, fun dx nd ne =>
    q dx nd ne⟩⟩
end
end OM
namespace OM
open PySem PySem.Spec PyProof.Rows L2
/-- an error's __init__ -/
structure XInit (K : PySem.W.Frag) (C : Addr) (q : Str) (st : Stmt)
    (ps : List Str) (f : Addr) (fd : FuncData) : Prop where
  fn : Fun K "__init__" q st f fd
  at_ : PySem.W.findIn K (.ref C) "__init__" = some (some (.ref f))
  ty : PySem.W.typeIn K (.ref f) = some (.type "function")
  bd : Binds K fd ps []
theorem xInit {K : PySem.W.Frag} {C : Addr}
    {q : Str} {st : Stmt} {ps : List Str} {f : Addr} {oc : Value}
    {od an : Option Addr} {sl : Array (Option Value)}
    {kV dc pm cv ct : Value}
    (a : PySem.W.findIn K (.ref C) "__init__" = some (some (.ref f)))
    (i : PySem.W.typeIn K (.ref f) = some (.type "function"))
    (l : K.lookup f = some ⟨oc, od, .func (PySem.W.fnOf "__init__" q
      (defArgs st) (defBody st) (defScope st) .none kV dc pm an cv ct), sl⟩)
    (c : PySem.W.codeIn K cv q = true)
    (k : PySem.W.keepIn K (.ref f) = true)
    (b : ∀ (kV doc pm : Value) (an : Option Addr) (cdv ct : Value)
      (us : List Value), us.length = ps.length →
      bindArgs (PySem.W.fnOf "__init__" q (defArgs st) (defBody st)
        (defScope st) .none kV doc pm an cdv ct) ⟨us, []⟩ =
        pure (ps.zip us)) :
    ∃ fd, XInit K C q st ps f fd :=
  have F := fun_mk (st := st) l c k
  ⟨_, F, a, i, F.binds b⟩
/-- an error of the class at S is what «except T» names -/
theorem exm2 {K : PySem.W.Frag} {S T : Addr}
    (h1 : PySem.W.subIn K (.ref T) (.type "BaseException") = some true)
    (h2 : PySem.W.isClsIn K T = true)
    (h3 : PySem.W.typeIn K (.ref T) = some (.type "type")) {b : Bool}
    (h4 : PySem.W.subIn K (.ref S) (.ref T) = some b) :
    PySem.W.exmOne K (.ref S) (.ref T) = some b := by
  have e1 : (PySem.W.subIn K (.ref T) (.type "BaseException") == some true) =
    true := by rw [h1] <;> rfl
  have e2 : ((PySem.W.clsIn K T).isSome &&
      PySem.W.typeIn K (.ref T) == some (.type "type")) = true := by
    have h2' : (PySem.W.clsIn K T).isSome = true := h2
    rw [h2', h3] <;> rfl
  show (if (PySem.W.subIn K (.ref T) (.type "BaseException") == some true) =
    true then (if ((PySem.W.clsIn K T).isSome &&
      PySem.W.typeIn K (.ref T) == some (.type "type")) = true then
      PySem.W.subIn K (.ref S) (.ref T) else none) else none) = some b
  rw [if_pos e1, if_pos e2]
  exact h4
/-- the same with isinstance -/
theorem kit2 {K : PySem.W.Frag} {S T : Addr} (ne : (S == T) = false)
    (h2 : PySem.W.isClsIn K T = true)
    (h3 : PySem.W.typeIn K (.ref T) = some (.type "type")) {b : Bool}
    (h4 : PySem.W.subIn K (.ref S) (.ref T) = some b) :
    PySem.W.kitOne K (.ref S) (.ref T) = some b := by
  have e2 : ((PySem.W.clsIn K T).isSome &&
      PySem.W.typeIn K (.ref T) == some (.type "type")) = true := by
    have h2' : (PySem.W.clsIn K T).isSome = true := h2
    rw [h2', h3] <;> rfl
  have n : ¬ ((Value.ref S == Value.ref T) = true) := fun z => by
    have z' := eq_of_beq z
    injection z' with z'
    rw [z'] at ne
    simp at ne
  unfold PySem.W.kitOne
  rw [if_neg n]
  show (if ((PySem.W.clsIn K T).isSome &&
      PySem.W.typeIn K (.ref T) == some (.type "type")) = true then
      PySem.W.subIn K (.ref S) (.ref T) else none) = some b
  rw [if_pos e2]
  exact h4
theorem kitT {K : PySem.W.Frag} {S : Addr} {T : String} {b : Bool}
    (hm : PySem.W.kitMeta T = true)
    (h : PySem.W.subIn K (.ref S) (.type T) = some b) :
    PySem.W.kitOne K (.ref S) (.type T) = some b := by
  have n : ¬ ((Value.ref S == Value.type T) = true) := fun z => by
    cases eq_of_beq z
  unfold PySem.W.kitOne
  rw [if_neg n]
  show (if PySem.W.kitMeta T = true then
    PySem.W.subIn K (.ref S) (.type T) else none) = some b
  rw [if_pos hm]
  exact h
end OM
namespace OM
open PySem PySem.Spec PyProof.Rows L2

/-- the law's call, nothing being shown around it -/
theorem lawS {P : Program} {w : World} {K : PySem.W.Frag}
    {mg mb : Str → Option Value} {k : Nat} {fa a : Addr} {fd : FuncData}
    {x : Str} {sp : Sp} {s1 : Shared} {vs : List Value} {ns : List Int}
    (kin : K.In s1.heap) (glob : s1.heap.Ns mainGlobals mg)
    (blt : s1.heap.Ns builtinsNs mb)
    (boot : ∀ x : Str, x ≠ "__name__" → mb x = bootBuiltins x)
    (nol : s1.heap.NoLimit) (gens : s1.gens = #[])
    (ha : s1.heap.get? a =
      some { cls := .type "list", data := .seq vs.toArray })
    (hints : IntsAre vs ns) (hl : ns.length ≤ sizeLine)
    (room : Room k callerA)
    (smod : ∃ mm, s1.heap.Ns sysModules mm)
    (F : ∀ base : Heap, K.In base → base.Ns mainGlobals mg →
      (∃ o, base.get? sysModules = some o) →
      FnG P w K mg base CX0 k fa fd [x] sp)
    (bind : ∀ (s : Shared) (u : Value), BindsTo s fd ⟨[u], []⟩ [(x, u)])
    (hsp : ∀ H : Hp, Only H → SqL K H a (ns.map V.int) →
      sp [.ref a] H (fun v _ => v = .bl true) E0) :
    codeAny (model P w) callerA (.call (.ref fa) ⟨[.ref a], []⟩)
      (fun r s' => r = .ok (.ret (.bool true)) ∧ OldK s1.heap s'.heap ∧
        s'.os = s1.os ∧ AllBare s'.gens) s1 := by
  have rel := vals_ints hints
  have lv := hints.length
  -- H tracks the script alone, or nothing
  suffices core : ∀ H : Hp, Only H → SqL K H a (ns.map V.int) →
      HOk P w H s1.heap → (∀ b, H b ≠ none → b = a) →
      (H a ≠ none → K.lookup a = none) →
      codeAny (model P w) callerA (.call (.ref fa) ⟨[.ref a], []⟩)
        (fun r s' => r = .ok (.ret (.bool true)) ∧ OldK s1.heap s'.heap ∧
          s'.os = s1.os ∧ AllBare s'.gens) s1 by
    by_cases hk : ∃ o, K.lookup a = some o
    · obtain ⟨o, hk⟩ := hk
      have e := kin a o hk
      rw [ha] at e
      cases e
      refine core (fun _ => none) (fun _ => Or.inl rfl) (Or.inr ?_)
        (fun b u z => ?_) (fun b z => absurd rfl z) (fun z => absurd rfl z)
      · exact ⟨_, vs.toArray, _, hk, rfl, rfl, rfl,
          by rw [List.size_toArray, lv]; exact hl, by simpa using rel⟩
      · cases (show (none : Option HO) = some u from z)
    · have hk : K.lookup a = none := by
        cases q : K.lookup a with
        | none => rfl
        | some o => exact absurd ⟨o, q⟩ hk
      let ob : Obj := { cls := .type "list", data := .seq vs.toArray }
      refine core (fun b => if b = a then
          some (.frz ob (.lst (ns.map V.int))) else none)
        (fun b => ?_) (Or.inl (Or.inr ⟨ob, if_pos rfl⟩))
        (fun b u z => ?_) (fun b z => ?_) (fun _ => hk)
      · by_cases hb : b = a
        · exact Or.inr ⟨_, _, if_pos hb⟩
        · exact Or.inl (if_neg hb)
      · by_cases hb : b = a
        · cases (if_pos hb).symm.trans z
          subst hb
          exact ⟨ha, by rw [List.length_map]; exact hl, vs, _, rel, ha⟩
        · cases (if_neg hb).symm.trans z
      · by_cases hb : b = a
        · exact hb
        · exact absurd (if_neg hb) z
  intro H only sq ok alone notK
  have untracked : ∀ {b : Addr} {o : Obj}, s1.heap.get? b = some o →
      (∀ z, o.data ≠ .seq z 0) → H b = none := by
    intro b o e d
    cases q : H b with
    | none => rfl
    | some u =>
      have z : b = a := alone b (by rw [q]; exact nofun)
      subst z
      rw [ha] at e
      cases e
      exact absurd rfl (d _)
  have ns' : ∀ {b : Addr} {m : Str → Option Value}, s1.heap.Ns b m →
      (hidT s1.heap H).Ns b m := by
    rintro b m ⟨o, es, ep, e, d, r⟩
    refine ⟨o, es, ep, hidT_get e (untracked e fun z y => ?_), d, r⟩
    cases d.symm.trans y
  have kin' : K.In (hidT s1.heap H) := by
    intro b o e
    refine hidT_get (kin b o e) ?_
    cases q : H b with
    | none => rfl
    | some u =>
      have z : b = a := alone b (by rw [q]; exact nofun)
      subst z
      rw [notK (by rw [q]; exact nofun)] at e
      cases e
  have md : Mod K mg (hidT s1.heap H) := by
    obtain ⟨mc, h1, h2⟩ := nol
    exact ⟨kin', ns' glob, ⟨mb, ns' blt, boot⟩, ⟨mc, ns' h1, h2⟩⟩
  have env : Env0 P w K mg (hidT s1.heap H) callerA [] s1 H :=
    ⟨rfl, md, fun b o e => of_hidT e, Nat.le_of_eq (hidT_size _ _), trivial,
      fun b hb => (nomatch (show b ∈ ([] : List Addr) from hb)), ok,
      .of_eq gens⟩
  have smd : ∃ o, (hidT s1.heap H).get? sysModules = some o := by
    obtain ⟨mm, hm⟩ := smod
    obtain ⟨o, es, ep, e, _⟩ := ns' hm
    exact ⟨o, e⟩
  refine codeAny_mono ((F _ kin' (ns' glob) smd).run callerA [] s1 H ⟨[.ref a], []⟩
    [.ref a] [.ref a] _ _ room rfl env (bind s1 (.ref a)) (.cons rfl .nil)
    (hsp H only sq)) ?_
  intro r s' h
  match r, h with
  | .error e, h => exact False.elim h
  | .ok .next, h => exact False.elim h
  | .ok .brk, h => exact False.elim h
  | .ok .cont, h => exact False.elim h
  | .ok (.ret u), h =>
    obtain ⟨v, H', os, bare, un, ok', rv, q⟩ := h
    cases (show v = .bl true from q)
    cases (show u = Value.bool true from rv)
    refine ⟨rfl, OldK.of_keep fun b o e => ?_, os, bare⟩
    cases q : H b with
    | none =>
      exact un.keep b o e q
        (fun z => nomatch (show b ∈ ([] : List Addr) from z)) (by simp)
    | some u =>
      cases only b with
      | inl z => rw [q] at z; cases z
      | inr z =>
        obtain ⟨ob, xs, z⟩ := z
        have e1 := (ok b _ z).1
        have e2 := (ok' b _ (un.frzs b ob _ z)).1
        rw [e] at e1
        cases e1
        exact e2

/-- what the head leaves, from the law's promise -/
theorem walkS {l : PySem.W.OpenLaw} {n k : Nat} {q : Program} {ls : List Str}
    {XP : (Str → Option Value) → Heap → Prop} {YP : World → Heap → Prop}
    {d : DefRec} {K : Params → PySem.W.Frag} {sp : PySem.W.Frag → Sp} {x : Str}
    (hn : l.most = some n) (hn2 : n ≤ sizeLine) (hq : importsNone q = true)
    (hdf : d.params.defaults = []) (room : Room k callerA)
    (hY : ∀ (w : World) (h : Heap), YP w h → (K w.params).In h)
    (F : ∀ (w : World) (mg : Str → Option Value) (fa : Addr) (h : Heap),
      (K w.params).In h → h.Ns mainGlobals mg → mg d.name = some (.ref fa) →
      ∃ fd : FuncData,
        (∀ (s : Shared) (u : Value), BindsTo s fd ⟨[u], []⟩ [(x, u)]) ∧
        ∀ base : Heap, (K w.params).In base → base.Ns mainGlobals mg →
          (∃ o, base.get? sysModules = some o) →
          FnG l.prog w (K w.params) mg base CX0 k fa fd [x]
            (sp (K w.params)))
    (hsp : ∀ (K : PySem.W.Frag) (H : Hp) (a : Addr) (ns : List Int),
      ns.length ≤ n → Only H → SqL K H a (ns.map V.int) →
      sp K [.ref a] H (fun v _ => v = .bl true) E0) :
    PySem.W.WalkO q ls XP YP l.row.toRowW d []
      (fun f vs => PySem.call f vs) := by
  refine Att.attach_call hn hdf ?_
  intro w s₀ s1 mg mb fa o pm cd doc a vs ns G Y ho hd hcd hmg hobj hi hlen hg
  have KX := hY w _ Y
  obtain ⟨fd, hb, hF⟩ := F w mg fa _ KX G.T.g hmg
  exact lawS KX G.T.g G.T.b G.T.builtins G.T.nolimit hg hobj hi
    (Nat.le_trans hlen hn2) room
    (by obtain ⟨mm, h, _⟩ := (G.T.seer hq).mods; exact ⟨mm, h⟩) hF hb
    (fun H hO hS => hsp (K w.params) H a ns hlen hO hS)
end OM
namespace OM
open PySem PySem.Spec PyProof.Rows L2
section
variable {P : Program} {w : World} {K : PySem.W.Frag}
  {mg : Str → Option Value} {base : Heap} {C L CM CC CI CW CO : Addr}
/-- the law, by what the top has left -/
theorem all35
    {f1 f2 f3 f4 f5 f6 f7 f8 f9 f10 f11 f12 f13 f14 f15 f16 f17 f18 f19 f20 f21 f22 f23 f24 f25 f26 f27 f28 f29 f30 f31 f32 f33 f34 f35 f36 : Addr}
    {d1 d2 d3 d4 d5 d6 d7 d8 d9 d10 d11 d12 d13 d14 d15 d16 d17 d18 d19 d20 d21 d22 d23 d24 d25 d26 d27 d28 d29 d30 d31 d32 d33 d34 d35 d36 : FuncData}
    {m1 m2 m3 m4 m5 m6 m7 m8 m9 m10 m11 m12 m13 : Addr}
    {e1 e2 e3 e4 e5 e6 e7 e8 e9 e10 e11 e12 e13 : FuncData}
    {t40 t8 tN tCm tBr : Tok}
    (B : Bl mg)
    (BI : BlI mg)
    (z_tuple : mg "tuple" = none)
    (TC : BC K mg C) (mkC : PySem.W.makesIn K C = true)
    (TL : LC K mg L) (mkL : PySem.W.makesIn K L = true)
    {g1 : Addr} {h1 : FuncData}
    (XE : XV K mg CM CC CI CW CO)
    (sm : ∃ o, base.get? sysModules = some o)
    (c40 : mg "MAX_ITEMS" = some (.int 40 t40))
    (c8 : mg "MAX_NAME_LENGTH" = some (.int 8 t8))
    (cN : mg "NO_REASON" = some (.str (Str.ofString "") tN))
    (cCm : mg "COMMUTE" = some (.str (Str.ofString "commute") tCm))
    (cBr : mg "BRAID" = some (.str (Str.ofString "braid") tBr))
    (D1 : DefAt K mg "is_name" s_is_name ["value"] f1 d1)
    (D2 : DefAt K mg "check_items" s_check_items ["items"] f2 d2)
    (D3 : DefAt K mg "pair_of" s_pair_of ["base", "first", "second"] f3 d3)
    (D4 : DefAt K mg "is_integer_from" s_is_integer_from ["value", "low", "high"] f4 d4)
    (D5 : DefAt K mg "is_swap_index" s_is_swap_index ["base", "value"] f5 d5)
    (D6 : DefAt K mg "check_swap_index" s_check_swap_index ["base", "index"] f6 d6)
    (D7 : DefAt K mg "exchanged" s_exchanged ["order", "index"] f7 d7)
    (D8 : DefAt K mg "goes_outward" s_goes_outward ["base", "order", "index"] f8 d8)
    (D9 : DefAt K mg "pairs_of_swaps" s_pairs_of_swaps ["base", "indexes"] f9 d9)
    (D10 : DefAt K mg "is_reason" s_is_reason ["value"] f10 d10)
    (D11 : DefAt K mg "check_reason" s_check_reason ["reason"] f11 d11)
    (D12 : DefAt K mg "order_after_swaps" s_order_after_swaps ["base", "indexes"] f12 d12)
    (D13 : DefAt K mg "word_fault" s_word_fault ["base", "value"] f13 d13)
    (D14 : DefAt K mg "check_word" s_check_word ["base", "word"] f14 d14)
    (D15 : DefAt K mg "is_word" s_is_word ["base", "value"] f15 d15)
    (D16 : DefAt K mg "word_of" s_word_of ["log"] f16 d16)
    (D17 : DefAt K mg "order_of_word" s_order_of_word ["base", "word"] f17 d17)
    (D18 : DefAt K mg "can_commute" s_can_commute ["word", "position"] f18 d18)
    (D19 : DefAt K mg "can_braid" s_can_braid ["word", "position"] f19 d19)
    (D20 : DefAt K mg "is_move" s_is_move ["word", "value"] f20 d20)
    (D21 : DefAt K mg "moved" s_moved ["word", "move"] f21 d21)
    (D22 : DefAt K mg "apply_move" s_apply_move ["base", "word", "move"] f22 d22)
    (D23 : DefAt K mg "_law_rng" s_Lrng ["_law_script", "_law_k"] f23 d23)
    (D24 : DefAt K mg "_law_draw" s_Ldraw ["_law_rng_here", "_law_many"] f24 d24)
    (D25 : DefAt K mg "_law_choice" s_Lchoice ["_law_rng_here", "_law_options"] f25 d25)
    (D26 : DefAt K mg "_law_name" s_Lname ["_law_rng_here", "_law_used"] f26 d26)
    (D27 : DefAt K mg "_law_names" s_Lnames ["_law_rng_here", "_law_many", "_law_used"] f27 d27)
    (D28 : DefAt K mg "_law_moves" s_Lmoves ["_law_word"] f28 d28)
    (D29 : DefAt K mg "_law_moved" s_Lmoved ["_law_word", "_law_move"] f29 d29)
    (D30 : DefAt K mg "_law_odd_moves" s_Lodd_moves ["_law_rng_here", "_law_word"] f30 d30)
    (D31 : DefAt K mg "_law_told" s_Ltold ["_law_base", "_law_word", "_law_move"] f31 d31)
    (D32 : DefAt K mg "_law_word_right" s_Lword_right ["_law_rng_here", "_law_base", "_law_word", "_law_order"] f32 d32)
    (D33 : DefAt K mg "_law_lists_right" s_Llists_right ["_law_base", "_law_items", "_law_log", "_law_word"] f33 d33)
    (D34 : DefAt K mg "law" s_law ["_law_script"] f34 d34)
    (D35 : DefAt K mg "names_fault" s_names_fault ["value", "most"] f35 d35)
    (D36 : DefAt K mg "is_integer" s_is_integer ["value"] f36 d36)
    (M1 : MethAt K C "__init__" "Base.__init__" s_Base_init ["self", "items"] m1 e1)
    (M2 : MethAt K C "__len__" "Base.__len__" s_Base_len ["self"] m2 e2)
    (M3 : MethAt K C "names" "Base.names" s_Base_names ["self"] m3 e3)
    (M4 : MethAt K C "has_item" "Base.has_item" s_Base_has_item ["self", "value"] m4 e4)
    (M5 : MethAt K C "position_of" "Base.position_of" s_Base_position_of ["self", "item"] m5 e5)
    (M6 : MethAt K C "precedes" "Base.precedes" s_Base_precedes ["self", "first", "second"] m6 e6)
    (M7 : MethAt K L "__init__" "SwapLog.__init__" s_SwapLog_init ["self", "base"] m7 e7)
    (M8 : MethAt K L "order" "SwapLog.order" s_SwapLog_order ["self"] m8 e8)
    (M9 : MethAt K L "entries" "SwapLog.entries" s_SwapLog_entries ["self"] m9 e9)
    (M10 : MethAt K L "indexes" "SwapLog.indexes" s_SwapLog_indexes ["self"] m10 e10)
    (M11 : MethKDAt K L "swap" "SwapLog.swap" "reason" 2 s_SwapLog_swap ["self", "index", "reason"] m11 e11)
    (M12 : MethAt K L "swap_checked" "SwapLog.swap_checked" s_SwapLog_swap_checked ["self", "index", "reason"] m12 e12)
    (M13 : MethAt K L "entry_for" "SwapLog.entry_for" s_SwapLog_entry_for ["self", "first", "second"] m13 e13)
    (I1 : XInit K CM "InvalidMove.__init__" s_InvalidMove_init ["self", "value"] g1 h1)
    : FnG P w K mg base CX0 12 f34 d34 ["_law_script"] (spLaw K) := by
  have gDraw := ok_draw (P := P) (w := w) (base := base) (k := 0) D24.fn B
  have gRng := ok_rng (P := P) (w := w) (base := base) (k := 0) D23.fn B
  have gIsn := ok_isname (P := P) (w := w) (base := base) (k := 0) D1.fn B c8
  have gNms := ok_getnames (P := P) (w := w) (base := base) (k := 0) M3.fn B TC
  have gLen := ok_lenB (P := P) (w := w) (base := base) (k := 0) M2.fn B TC
  have gName := ok_name (k := 1) D26.fn B (D24.cal gDraw (by decide))
  have gNames := ok_names (k := 2) D27.fn B (D26.cal gName (by decide))
  have gNfa := ok_nfault (k := 1) D35.fn B (D1.cal gIsn (by decide))
  have gChk := ok_check (k := 2) D2.fn (D35.cal gNfa (by decide)) c40
  have gInit := ok_init (k := 3) M1.fn B TC (D2.cal gChk (by decide))
  have gHas := ok_has (k := 1) M4.fn B TC (D1.cal gIsn (by decide))
  have gPos := ok_pos (k := 2) M5.fn TC (M4.calM TC.cl gHas (by decide))
  have gPrec := ok_prec (k := 3) M6.fn (M5.calM TC.cl gPos (by decide))
  have gInt := ok_isint (P := P) (w := w) (base := base) (k := 0) D36.fn B BI
  have gIntf := ok_intfrom (k := 1) D4.fn (D36.cal gInt (by decide))
  have gSix := ok_swapix (k := 2) (n := 1) D5.fn B (D4.cal gIntf (by decide))
    M2.spec gLen (by decide)
  have gCix := ok_chkix (k := 3) D6.fn (D5.cal gSix (by decide))
  have gExch := ok_exch (P := P) (w := w) (mg := mg) (base := base) (k := 0) D7.fn
  have gGoes := ok_goes (k := 4) D8.fn (M6.calM TC.cl gPrec (by decide))
  have gPof := ok_pairof (k := 4) D3.fn (M6.calM TC.cl gPrec (by decide))
  have gPrs := ok_prsof (k := 1) D9.fn (M3.calM TC.cl gNms (by decide))
    (D7.cal gExch (by decide))
  have gIsr := ok_isrsn (k := 1) D10.fn B cN (D1.cal gIsn (by decide))
  have gCkr := ok_chkrsn (k := 2) D11.fn (D10.cal gIsr (by decide))
  have gLin := ok_linit (L := L) (k := 1) M7.fn TL (M3.calM TC.cl gNms (by decide))
  have gLor := ok_lord (P := P) (w := w) (base := base) (C := C) (k := 0) M8.fn B TL
  have gLen' := ok_lent (P := P) (w := w) (base := base) (C := C) (k := 0) M9.fn B TL
  have gLix := ok_lixs (P := P) (w := w) (base := base) (C := C) (k := 0) M10.fn TL
  have gLfo := ok_lfor (k := 5) M13.fn TL (D3.cal gPof (by decide))
    (D9.cal gPrs (by decide)) (M10.calM TL.cl gLix (by decide))
  have gLsc := ok_swapc (k := 6) M12.fn TL (D8.cal gGoes (by decide))
    (D7.cal gExch (by decide)) (M13.calM TL.cl gLfo (by decide))
  have gLsw := ok_lswap (k := 7) M11.k.fn TL (D6.cal gCix (by decide))
    (D11.cal gCkr (by decide)) (M12.calM TL.cl gLsc (by decide))
  have mkB : Mk K C m1 := ⟨mkC, M1.me.at_, M1.me.fn, TC.kC⟩
  have mkG : Mk K L m7 := ⟨mkL, M7.me.at_, M7.me.fn, TL.kL⟩
  have gLsd := M11.calMD TL.cl gLsw (k := 10) (by decide)
  have gWf := ok_wfault (k := 5) D13.fn B (M3.calM TC.cl gNms (by decide))
    (D5.cal gSix (by decide)) (D8.cal gGoes (by decide))
    (D7.cal gExch (by decide))
  have gCw := ok_chkword (k := 6) D14.fn (D13.cal gWf (by decide))
  have gIw := ok_isword (k := 6) D15.fn (D13.cal gWf (by decide))
  have gOa := ok_oaw (k := 1) D12.fn (M3.calM TC.cl gNms (by decide))
    (D7.cal gExch (by decide))
  have gOw := ok_ofword (k := 7) D17.fn (D14.cal gCw (by decide))
    (D12.cal gOa (by decide))
  have gWo := ok_wordof (k := 1) D16.fn (M10.calM TL.cl gLix (by decide))
  have gCc := ok_cancomm (P := P) (w := w) (base := base) (k := 0) D18.fn B
  have gCb := ok_canbraid (P := P) (w := w) (base := base) (k := 0) D19.fn B
  have gIv := ok_intV (P := P) (w := w) (base := base) (k := 0) D36.fn B BI
  have gFv := ok_fromV (k := 1) D4.fn (D36.cal gIv (by decide))
  have gIm := ok_ismv (k := 2) D20.fn B z_tuple cCm cBr (D4.cal gFv (by decide))
    (D18.cal gCc (by decide)) (D19.cal gCb (by decide))
  have gMo := ok_moved (P := P) (w := w) (base := base) (k := 0) D21.fn cCm
  have gAp := ok_apply (k := 7) D22.fn (D14.cal gCw (by decide))
    (D20.cal gIm (by decide)) (D21.cal gMo (by decide))
  have J1 := ok_iminit (P := P) (w := w) (base := base) (mg := mg) (k := 0) I1.fn XE.cM.ox XE.nM
  have xm : XMk P w K mg base CM 1 "InvalidMove" ["self", "value"] (spX1 CM "value") :=
    ⟨XE.mM, XE.cM, g1, h1, J1, I1.at_, I1.ty, I1.bd⟩
  have gAx := ok_applyX (k := 7) (j := 1) D22.fn (D14.cal gCw (by decide))
    (D20.cal gIm (by decide)) (D21.cal gMo (by decide)) xm (by decide)
  have gLm := ok_lmoves (P := P) (w := w) (base := base) (k := 0) D28.fn B
  have gLd := ok_lmoved (P := P) (w := w) (base := base) (k := 0) D29.fn B
  have gCh := ok_choice (k := 1) D25.fn B (D24.cal gDraw (by decide))
  have gTo := ok_told (k := 8) D31.fn B XE sm
    ⟨f22, d22, gAx.mono (by decide), D22.mg, D22.fn.kp, D22.bd⟩
  have gOd := ok_odd (k := 1) D30.fn B sm (D24.cal gDraw (by decide))
    (D28.cal gLm (by decide))
  have gWr := ok_wr (k := 9) D32.fn B sm (D15.cal gIw (by decide))
    (D17.cal gOw (by decide)) (D25.cal gCh (by decide))
    (D30.calG gOd (by decide)) (D31.calG gTo (by decide))
    (D28.cal gLm (by decide)) (D29.cal gLd (by decide))
    (D22.cal gAp (by decide))
  have gLs := ok_lists (k := 8) D33.fn B (D17.cal gOw (by decide))
    (D15.cal gIw (by decide)) (D16.cal gWo (by decide))
    (M3.calM TC.cl gNms (by decide)) (M9.calM TL.cl gLen' (by decide))
    (M8.calM TL.cl gLor (by decide))
  exact ok_law35 (k := 10) D34.fn B BI (D23.cal gRng (by decide))
    (D24.cal gDraw (by decide)) (D27.cal gNames (by decide))
    (D25.cal gCh (by decide))
    ⟨TC.mgC, m1, e1, gInit.mono (by decide), mkB, M1.bd⟩
    ⟨TL.mgL, m7, e7, gLin.mono (by decide), mkG, M7.bd⟩
    gLsd (D16.cal gWo (by decide)) (M9.calM TL.cl gLen' (by decide))
    (M8.calM TL.cl gLor (by decide)) (D28.cal gLm (by decide))
    (D22.cal gAp (by decide)) (D32.calG gWr (by decide))
    (D33.cal gLs (by decide))
end
end OM
namespace OM
open PySem PySem.Spec PyProof.Rows L2
theorem fin35 {l : PySem.W.OpenLaw} {w : World} {K : PySem.W.Frag} {h : Heap}
    {mg : Str → Option Value} {fa C L CM CC CI CW CO : Addr} (X : K.In h)
    (G : h.Ns mainGlobals mg) (hfa : mg "law" = some (.ref fa))
    {f1 f2 f3 f4 f5 f6 f7 f8 f9 f10 f11 f12 f13 f14 f15 f16 f17 f18 f19 f20 f21 f22 f23 f24 f25 f26 f27 f28 f29 f30 f31 f32 f33 f34 f35 f36 m1 m2 m3 m4 m5 m6 m7 m8 m9 m10 m11 m12 m13 g1 : Addr}
    {odf1 anf1 odf2 anf2 odf3 anf3 odf4 anf4 odf5 anf5 odf6 anf6 odf7 anf7 odf8 anf8 odf9 anf9 odf10 anf10 odf11 anf11 odf12 anf12 odf13 anf13 odf14 anf14 odf15 anf15 odf16 anf16 odf17 anf17 odf18 anf18 odf19 anf19 odf20 anf20 odf21 anf21 odf22 anf22 odf23 anf23 odf24 anf24 odf25 anf25 odf26 anf26 odf27 anf27 odf28 anf28 odf29 anf29 odf30 anf30 odf31 anf31 odf32 anf32 odf33 anf33 odf34 anf34 odf35 anf35 odf36 anf36 odm1 anm1 odm2 anm2 odm3 anm3 odm4 anm4 odm5 anm5 odm6 anm6 odm7 anm7 odm8 anm8 odm9 anm9 odm10 anm10 odm11 anm11 odm12 anm12 odm13 anm13 odg1 ang1 : Option Addr}
    {slf1 slf2 slf3 slf4 slf5 slf6 slf7 slf8 slf9 slf10 slf11 slf12 slf13 slf14 slf15 slf16 slf17 slf18 slf19 slf20 slf21 slf22 slf23 slf24 slf25 slf26 slf27 slf28 slf29 slf30 slf31 slf32 slf33 slf34 slf35 slf36 slm1 slm2 slm3 slm4 slm5 slm6 slm7 slm8 slm9 slm10 slm11 slm12 slm13 slg1 : Array (Option Value)}
    {ocf1 kVf1 dcf1 pmf1 cdf1 ctf1 : Value}
    {ocf2 kVf2 dcf2 pmf2 cdf2 ctf2 : Value}
    {ocf3 kVf3 dcf3 pmf3 cdf3 ctf3 : Value}
    {ocf4 kVf4 dcf4 pmf4 cdf4 ctf4 : Value}
    {ocf5 kVf5 dcf5 pmf5 cdf5 ctf5 : Value}
    {ocf6 kVf6 dcf6 pmf6 cdf6 ctf6 : Value}
    {ocf7 kVf7 dcf7 pmf7 cdf7 ctf7 : Value}
    {ocf8 kVf8 dcf8 pmf8 cdf8 ctf8 : Value}
    {ocf9 kVf9 dcf9 pmf9 cdf9 ctf9 : Value}
    {ocf10 kVf10 dcf10 pmf10 cdf10 ctf10 : Value}
    {ocf11 kVf11 dcf11 pmf11 cdf11 ctf11 : Value}
    {ocf12 kVf12 dcf12 pmf12 cdf12 ctf12 : Value}
    {ocf13 kVf13 dcf13 pmf13 cdf13 ctf13 : Value}
    {ocf14 kVf14 dcf14 pmf14 cdf14 ctf14 : Value}
    {ocf15 kVf15 dcf15 pmf15 cdf15 ctf15 : Value}
    {ocf16 kVf16 dcf16 pmf16 cdf16 ctf16 : Value}
    {ocf17 kVf17 dcf17 pmf17 cdf17 ctf17 : Value}
    {ocf18 kVf18 dcf18 pmf18 cdf18 ctf18 : Value}
    {ocf19 kVf19 dcf19 pmf19 cdf19 ctf19 : Value}
    {ocf20 kVf20 dcf20 pmf20 cdf20 ctf20 : Value}
    {ocf21 kVf21 dcf21 pmf21 cdf21 ctf21 : Value}
    {ocf22 kVf22 dcf22 pmf22 cdf22 ctf22 : Value}
    {ocf23 kVf23 dcf23 pmf23 cdf23 ctf23 : Value}
    {ocf24 kVf24 dcf24 pmf24 cdf24 ctf24 : Value}
    {ocf25 kVf25 dcf25 pmf25 cdf25 ctf25 : Value}
    {ocf26 kVf26 dcf26 pmf26 cdf26 ctf26 : Value}
    {ocf27 kVf27 dcf27 pmf27 cdf27 ctf27 : Value}
    {ocf28 kVf28 dcf28 pmf28 cdf28 ctf28 : Value}
    {ocf29 kVf29 dcf29 pmf29 cdf29 ctf29 : Value}
    {ocf30 kVf30 dcf30 pmf30 cdf30 ctf30 : Value}
    {ocf31 kVf31 dcf31 pmf31 cdf31 ctf31 : Value}
    {ocf32 kVf32 dcf32 pmf32 cdf32 ctf32 : Value}
    {ocf33 kVf33 dcf33 pmf33 cdf33 ctf33 : Value}
    {ocf34 kVf34 dcf34 pmf34 cdf34 ctf34 : Value}
    {ocf35 kVf35 dcf35 pmf35 cdf35 ctf35 : Value}
    {ocf36 kVf36 dcf36 pmf36 cdf36 ctf36 : Value}
    {ocm1 kVm1 dcm1 pmm1 cdm1 ctm1 : Value}
    {ocm2 kVm2 dcm2 pmm2 cdm2 ctm2 : Value}
    {ocm3 kVm3 dcm3 pmm3 cdm3 ctm3 : Value}
    {ocm4 kVm4 dcm4 pmm4 cdm4 ctm4 : Value}
    {ocm5 kVm5 dcm5 pmm5 cdm5 ctm5 : Value}
    {ocm6 kVm6 dcm6 pmm6 cdm6 ctm6 : Value}
    {ocm7 kVm7 dcm7 pmm7 cdm7 ctm7 : Value}
    {ocm8 kVm8 dcm8 pmm8 cdm8 ctm8 : Value}
    {ocm9 kVm9 dcm9 pmm9 cdm9 ctm9 : Value}
    {ocm10 kVm10 dcm10 pmm10 cdm10 ctm10 : Value}
    {ocm11 dcm11 pmm11 cdm11 ctm11 : Value}
    {ocm12 kVm12 dcm12 pmm12 cdm12 ctm12 : Value}
    {ocm13 kVm13 dcm13 pmm13 cdm13 ctm13 : Value}
    {ocg1 kVg1 dcg1 pmg1 cdg1 ctg1 : Value}
    {t40 t8 tN tCm tBr : Tok}
    {nmCM qCM : Str} {NCM : Addr} {bsCM subCM : List Value} {snCM : List Str} {abCM : Bool} {colCM : Option Bool} {ddCM : Option Addr} {k0CM k1CM k2CM k3CM k5CM : Option Value}
    {Dm11 : Addr} {tDm11 : Tok}
    (af1 : PySem.W.nsIn K mainGlobals "is_name" = some (some (.ref f1)))
    (lf1 : K.lookup f1 = some ⟨ocf1, odf1, .func (PySem.W.fnOf "is_name" "is_name"
      (defArgs s_is_name) (defBody s_is_name) (defScope s_is_name) .none kVf1 dcf1 pmf1 anf1 cdf1
      ctf1), slf1⟩)
    (cf1 : PySem.W.codeIn K cdf1 "is_name" = true)
    (kf1 : PySem.W.keepIn K (.ref f1) = true)
    (af2 : PySem.W.nsIn K mainGlobals "check_items" = some (some (.ref f2)))
    (lf2 : K.lookup f2 = some ⟨ocf2, odf2, .func (PySem.W.fnOf "check_items" "check_items"
      (defArgs s_check_items) (defBody s_check_items) (defScope s_check_items) .none kVf2 dcf2 pmf2 anf2 cdf2
      ctf2), slf2⟩)
    (cf2 : PySem.W.codeIn K cdf2 "check_items" = true)
    (kf2 : PySem.W.keepIn K (.ref f2) = true)
    (af3 : PySem.W.nsIn K mainGlobals "pair_of" = some (some (.ref f3)))
    (lf3 : K.lookup f3 = some ⟨ocf3, odf3, .func (PySem.W.fnOf "pair_of" "pair_of"
      (defArgs s_pair_of) (defBody s_pair_of) (defScope s_pair_of) .none kVf3 dcf3 pmf3 anf3 cdf3
      ctf3), slf3⟩)
    (cf3 : PySem.W.codeIn K cdf3 "pair_of" = true)
    (kf3 : PySem.W.keepIn K (.ref f3) = true)
    (af4 : PySem.W.nsIn K mainGlobals "is_integer_from" = some (some (.ref f4)))
    (lf4 : K.lookup f4 = some ⟨ocf4, odf4, .func (PySem.W.fnOf "is_integer_from" "is_integer_from"
      (defArgs s_is_integer_from) (defBody s_is_integer_from) (defScope s_is_integer_from) .none kVf4 dcf4 pmf4 anf4 cdf4
      ctf4), slf4⟩)
    (cf4 : PySem.W.codeIn K cdf4 "is_integer_from" = true)
    (kf4 : PySem.W.keepIn K (.ref f4) = true)
    (af5 : PySem.W.nsIn K mainGlobals "is_swap_index" = some (some (.ref f5)))
    (lf5 : K.lookup f5 = some ⟨ocf5, odf5, .func (PySem.W.fnOf "is_swap_index" "is_swap_index"
      (defArgs s_is_swap_index) (defBody s_is_swap_index) (defScope s_is_swap_index) .none kVf5 dcf5 pmf5 anf5 cdf5
      ctf5), slf5⟩)
    (cf5 : PySem.W.codeIn K cdf5 "is_swap_index" = true)
    (kf5 : PySem.W.keepIn K (.ref f5) = true)
    (af6 : PySem.W.nsIn K mainGlobals "check_swap_index" = some (some (.ref f6)))
    (lf6 : K.lookup f6 = some ⟨ocf6, odf6, .func (PySem.W.fnOf "check_swap_index" "check_swap_index"
      (defArgs s_check_swap_index) (defBody s_check_swap_index) (defScope s_check_swap_index) .none kVf6 dcf6 pmf6 anf6 cdf6
      ctf6), slf6⟩)
    (cf6 : PySem.W.codeIn K cdf6 "check_swap_index" = true)
    (kf6 : PySem.W.keepIn K (.ref f6) = true)
    (af7 : PySem.W.nsIn K mainGlobals "exchanged" = some (some (.ref f7)))
    (lf7 : K.lookup f7 = some ⟨ocf7, odf7, .func (PySem.W.fnOf "exchanged" "exchanged"
      (defArgs s_exchanged) (defBody s_exchanged) (defScope s_exchanged) .none kVf7 dcf7 pmf7 anf7 cdf7
      ctf7), slf7⟩)
    (cf7 : PySem.W.codeIn K cdf7 "exchanged" = true)
    (kf7 : PySem.W.keepIn K (.ref f7) = true)
    (af8 : PySem.W.nsIn K mainGlobals "goes_outward" = some (some (.ref f8)))
    (lf8 : K.lookup f8 = some ⟨ocf8, odf8, .func (PySem.W.fnOf "goes_outward" "goes_outward"
      (defArgs s_goes_outward) (defBody s_goes_outward) (defScope s_goes_outward) .none kVf8 dcf8 pmf8 anf8 cdf8
      ctf8), slf8⟩)
    (cf8 : PySem.W.codeIn K cdf8 "goes_outward" = true)
    (kf8 : PySem.W.keepIn K (.ref f8) = true)
    (af9 : PySem.W.nsIn K mainGlobals "pairs_of_swaps" = some (some (.ref f9)))
    (lf9 : K.lookup f9 = some ⟨ocf9, odf9, .func (PySem.W.fnOf "pairs_of_swaps" "pairs_of_swaps"
      (defArgs s_pairs_of_swaps) (defBody s_pairs_of_swaps) (defScope s_pairs_of_swaps) .none kVf9 dcf9 pmf9 anf9 cdf9
      ctf9), slf9⟩)
    (cf9 : PySem.W.codeIn K cdf9 "pairs_of_swaps" = true)
    (kf9 : PySem.W.keepIn K (.ref f9) = true)
    (af10 : PySem.W.nsIn K mainGlobals "is_reason" = some (some (.ref f10)))
    (lf10 : K.lookup f10 = some ⟨ocf10, odf10, .func (PySem.W.fnOf "is_reason" "is_reason"
      (defArgs s_is_reason) (defBody s_is_reason) (defScope s_is_reason) .none kVf10 dcf10 pmf10 anf10 cdf10
      ctf10), slf10⟩)
    (cf10 : PySem.W.codeIn K cdf10 "is_reason" = true)
    (kf10 : PySem.W.keepIn K (.ref f10) = true)
    (af11 : PySem.W.nsIn K mainGlobals "check_reason" = some (some (.ref f11)))
    (lf11 : K.lookup f11 = some ⟨ocf11, odf11, .func (PySem.W.fnOf "check_reason" "check_reason"
      (defArgs s_check_reason) (defBody s_check_reason) (defScope s_check_reason) .none kVf11 dcf11 pmf11 anf11 cdf11
      ctf11), slf11⟩)
    (cf11 : PySem.W.codeIn K cdf11 "check_reason" = true)
    (kf11 : PySem.W.keepIn K (.ref f11) = true)
    (af12 : PySem.W.nsIn K mainGlobals "order_after_swaps" = some (some (.ref f12)))
    (lf12 : K.lookup f12 = some ⟨ocf12, odf12, .func (PySem.W.fnOf "order_after_swaps" "order_after_swaps"
      (defArgs s_order_after_swaps) (defBody s_order_after_swaps) (defScope s_order_after_swaps) .none kVf12 dcf12 pmf12 anf12 cdf12
      ctf12), slf12⟩)
    (cf12 : PySem.W.codeIn K cdf12 "order_after_swaps" = true)
    (kf12 : PySem.W.keepIn K (.ref f12) = true)
    (af13 : PySem.W.nsIn K mainGlobals "word_fault" = some (some (.ref f13)))
    (lf13 : K.lookup f13 = some ⟨ocf13, odf13, .func (PySem.W.fnOf "word_fault" "word_fault"
      (defArgs s_word_fault) (defBody s_word_fault) (defScope s_word_fault) .none kVf13 dcf13 pmf13 anf13 cdf13
      ctf13), slf13⟩)
    (cf13 : PySem.W.codeIn K cdf13 "word_fault" = true)
    (kf13 : PySem.W.keepIn K (.ref f13) = true)
    (af14 : PySem.W.nsIn K mainGlobals "check_word" = some (some (.ref f14)))
    (lf14 : K.lookup f14 = some ⟨ocf14, odf14, .func (PySem.W.fnOf "check_word" "check_word"
      (defArgs s_check_word) (defBody s_check_word) (defScope s_check_word) .none kVf14 dcf14 pmf14 anf14 cdf14
      ctf14), slf14⟩)
    (cf14 : PySem.W.codeIn K cdf14 "check_word" = true)
    (kf14 : PySem.W.keepIn K (.ref f14) = true)
    (af15 : PySem.W.nsIn K mainGlobals "is_word" = some (some (.ref f15)))
    (lf15 : K.lookup f15 = some ⟨ocf15, odf15, .func (PySem.W.fnOf "is_word" "is_word"
      (defArgs s_is_word) (defBody s_is_word) (defScope s_is_word) .none kVf15 dcf15 pmf15 anf15 cdf15
      ctf15), slf15⟩)
    (cf15 : PySem.W.codeIn K cdf15 "is_word" = true)
    (kf15 : PySem.W.keepIn K (.ref f15) = true)
    (af16 : PySem.W.nsIn K mainGlobals "word_of" = some (some (.ref f16)))
    (lf16 : K.lookup f16 = some ⟨ocf16, odf16, .func (PySem.W.fnOf "word_of" "word_of"
      (defArgs s_word_of) (defBody s_word_of) (defScope s_word_of) .none kVf16 dcf16 pmf16 anf16 cdf16
      ctf16), slf16⟩)
    (cf16 : PySem.W.codeIn K cdf16 "word_of" = true)
    (kf16 : PySem.W.keepIn K (.ref f16) = true)
    (af17 : PySem.W.nsIn K mainGlobals "order_of_word" = some (some (.ref f17)))
    (lf17 : K.lookup f17 = some ⟨ocf17, odf17, .func (PySem.W.fnOf "order_of_word" "order_of_word"
      (defArgs s_order_of_word) (defBody s_order_of_word) (defScope s_order_of_word) .none kVf17 dcf17 pmf17 anf17 cdf17
      ctf17), slf17⟩)
    (cf17 : PySem.W.codeIn K cdf17 "order_of_word" = true)
    (kf17 : PySem.W.keepIn K (.ref f17) = true)
    (af18 : PySem.W.nsIn K mainGlobals "can_commute" = some (some (.ref f18)))
    (lf18 : K.lookup f18 = some ⟨ocf18, odf18, .func (PySem.W.fnOf "can_commute" "can_commute"
      (defArgs s_can_commute) (defBody s_can_commute) (defScope s_can_commute) .none kVf18 dcf18 pmf18 anf18 cdf18
      ctf18), slf18⟩)
    (cf18 : PySem.W.codeIn K cdf18 "can_commute" = true)
    (kf18 : PySem.W.keepIn K (.ref f18) = true)
    (af19 : PySem.W.nsIn K mainGlobals "can_braid" = some (some (.ref f19)))
    (lf19 : K.lookup f19 = some ⟨ocf19, odf19, .func (PySem.W.fnOf "can_braid" "can_braid"
      (defArgs s_can_braid) (defBody s_can_braid) (defScope s_can_braid) .none kVf19 dcf19 pmf19 anf19 cdf19
      ctf19), slf19⟩)
    (cf19 : PySem.W.codeIn K cdf19 "can_braid" = true)
    (kf19 : PySem.W.keepIn K (.ref f19) = true)
    (af20 : PySem.W.nsIn K mainGlobals "is_move" = some (some (.ref f20)))
    (lf20 : K.lookup f20 = some ⟨ocf20, odf20, .func (PySem.W.fnOf "is_move" "is_move"
      (defArgs s_is_move) (defBody s_is_move) (defScope s_is_move) .none kVf20 dcf20 pmf20 anf20 cdf20
      ctf20), slf20⟩)
    (cf20 : PySem.W.codeIn K cdf20 "is_move" = true)
    (kf20 : PySem.W.keepIn K (.ref f20) = true)
    (af21 : PySem.W.nsIn K mainGlobals "moved" = some (some (.ref f21)))
    (lf21 : K.lookup f21 = some ⟨ocf21, odf21, .func (PySem.W.fnOf "moved" "moved"
      (defArgs s_moved) (defBody s_moved) (defScope s_moved) .none kVf21 dcf21 pmf21 anf21 cdf21
      ctf21), slf21⟩)
    (cf21 : PySem.W.codeIn K cdf21 "moved" = true)
    (kf21 : PySem.W.keepIn K (.ref f21) = true)
    (af22 : PySem.W.nsIn K mainGlobals "apply_move" = some (some (.ref f22)))
    (lf22 : K.lookup f22 = some ⟨ocf22, odf22, .func (PySem.W.fnOf "apply_move" "apply_move"
      (defArgs s_apply_move) (defBody s_apply_move) (defScope s_apply_move) .none kVf22 dcf22 pmf22 anf22 cdf22
      ctf22), slf22⟩)
    (cf22 : PySem.W.codeIn K cdf22 "apply_move" = true)
    (kf22 : PySem.W.keepIn K (.ref f22) = true)
    (af23 : PySem.W.nsIn K mainGlobals "_law_rng" = some (some (.ref f23)))
    (lf23 : K.lookup f23 = some ⟨ocf23, odf23, .func (PySem.W.fnOf "_law_rng" "_law_rng"
      (defArgs s_Lrng) (defBody s_Lrng) (defScope s_Lrng) .none kVf23 dcf23 pmf23 anf23 cdf23
      ctf23), slf23⟩)
    (cf23 : PySem.W.codeIn K cdf23 "_law_rng" = true)
    (kf23 : PySem.W.keepIn K (.ref f23) = true)
    (af24 : PySem.W.nsIn K mainGlobals "_law_draw" = some (some (.ref f24)))
    (lf24 : K.lookup f24 = some ⟨ocf24, odf24, .func (PySem.W.fnOf "_law_draw" "_law_draw"
      (defArgs s_Ldraw) (defBody s_Ldraw) (defScope s_Ldraw) .none kVf24 dcf24 pmf24 anf24 cdf24
      ctf24), slf24⟩)
    (cf24 : PySem.W.codeIn K cdf24 "_law_draw" = true)
    (kf24 : PySem.W.keepIn K (.ref f24) = true)
    (af25 : PySem.W.nsIn K mainGlobals "_law_choice" = some (some (.ref f25)))
    (lf25 : K.lookup f25 = some ⟨ocf25, odf25, .func (PySem.W.fnOf "_law_choice" "_law_choice"
      (defArgs s_Lchoice) (defBody s_Lchoice) (defScope s_Lchoice) .none kVf25 dcf25 pmf25 anf25 cdf25
      ctf25), slf25⟩)
    (cf25 : PySem.W.codeIn K cdf25 "_law_choice" = true)
    (kf25 : PySem.W.keepIn K (.ref f25) = true)
    (af26 : PySem.W.nsIn K mainGlobals "_law_name" = some (some (.ref f26)))
    (lf26 : K.lookup f26 = some ⟨ocf26, odf26, .func (PySem.W.fnOf "_law_name" "_law_name"
      (defArgs s_Lname) (defBody s_Lname) (defScope s_Lname) .none kVf26 dcf26 pmf26 anf26 cdf26
      ctf26), slf26⟩)
    (cf26 : PySem.W.codeIn K cdf26 "_law_name" = true)
    (kf26 : PySem.W.keepIn K (.ref f26) = true)
    (af27 : PySem.W.nsIn K mainGlobals "_law_names" = some (some (.ref f27)))
    (lf27 : K.lookup f27 = some ⟨ocf27, odf27, .func (PySem.W.fnOf "_law_names" "_law_names"
      (defArgs s_Lnames) (defBody s_Lnames) (defScope s_Lnames) .none kVf27 dcf27 pmf27 anf27 cdf27
      ctf27), slf27⟩)
    (cf27 : PySem.W.codeIn K cdf27 "_law_names" = true)
    (kf27 : PySem.W.keepIn K (.ref f27) = true)
    (af28 : PySem.W.nsIn K mainGlobals "_law_moves" = some (some (.ref f28)))
    (lf28 : K.lookup f28 = some ⟨ocf28, odf28, .func (PySem.W.fnOf "_law_moves" "_law_moves"
      (defArgs s_Lmoves) (defBody s_Lmoves) (defScope s_Lmoves) .none kVf28 dcf28 pmf28 anf28 cdf28
      ctf28), slf28⟩)
    (cf28 : PySem.W.codeIn K cdf28 "_law_moves" = true)
    (kf28 : PySem.W.keepIn K (.ref f28) = true)
    (af29 : PySem.W.nsIn K mainGlobals "_law_moved" = some (some (.ref f29)))
    (lf29 : K.lookup f29 = some ⟨ocf29, odf29, .func (PySem.W.fnOf "_law_moved" "_law_moved"
      (defArgs s_Lmoved) (defBody s_Lmoved) (defScope s_Lmoved) .none kVf29 dcf29 pmf29 anf29 cdf29
      ctf29), slf29⟩)
    (cf29 : PySem.W.codeIn K cdf29 "_law_moved" = true)
    (kf29 : PySem.W.keepIn K (.ref f29) = true)
    (af30 : PySem.W.nsIn K mainGlobals "_law_odd_moves" = some (some (.ref f30)))
    (lf30 : K.lookup f30 = some ⟨ocf30, odf30, .func (PySem.W.fnOf "_law_odd_moves" "_law_odd_moves"
      (defArgs s_Lodd_moves) (defBody s_Lodd_moves) (defScope s_Lodd_moves) .none kVf30 dcf30 pmf30 anf30 cdf30
      ctf30), slf30⟩)
    (cf30 : PySem.W.codeIn K cdf30 "_law_odd_moves" = true)
    (kf30 : PySem.W.keepIn K (.ref f30) = true)
    (af31 : PySem.W.nsIn K mainGlobals "_law_told" = some (some (.ref f31)))
    (lf31 : K.lookup f31 = some ⟨ocf31, odf31, .func (PySem.W.fnOf "_law_told" "_law_told"
      (defArgs s_Ltold) (defBody s_Ltold) (defScope s_Ltold) .none kVf31 dcf31 pmf31 anf31 cdf31
      ctf31), slf31⟩)
    (cf31 : PySem.W.codeIn K cdf31 "_law_told" = true)
    (kf31 : PySem.W.keepIn K (.ref f31) = true)
    (af32 : PySem.W.nsIn K mainGlobals "_law_word_right" = some (some (.ref f32)))
    (lf32 : K.lookup f32 = some ⟨ocf32, odf32, .func (PySem.W.fnOf "_law_word_right" "_law_word_right"
      (defArgs s_Lword_right) (defBody s_Lword_right) (defScope s_Lword_right) .none kVf32 dcf32 pmf32 anf32 cdf32
      ctf32), slf32⟩)
    (cf32 : PySem.W.codeIn K cdf32 "_law_word_right" = true)
    (kf32 : PySem.W.keepIn K (.ref f32) = true)
    (af33 : PySem.W.nsIn K mainGlobals "_law_lists_right" = some (some (.ref f33)))
    (lf33 : K.lookup f33 = some ⟨ocf33, odf33, .func (PySem.W.fnOf "_law_lists_right" "_law_lists_right"
      (defArgs s_Llists_right) (defBody s_Llists_right) (defScope s_Llists_right) .none kVf33 dcf33 pmf33 anf33 cdf33
      ctf33), slf33⟩)
    (cf33 : PySem.W.codeIn K cdf33 "_law_lists_right" = true)
    (kf33 : PySem.W.keepIn K (.ref f33) = true)
    (af34 : PySem.W.nsIn K mainGlobals "law" = some (some (.ref f34)))
    (lf34 : K.lookup f34 = some ⟨ocf34, odf34, .func (PySem.W.fnOf "law" "law"
      (defArgs s_law) (defBody s_law) (defScope s_law) .none kVf34 dcf34 pmf34 anf34 cdf34
      ctf34), slf34⟩)
    (cf34 : PySem.W.codeIn K cdf34 "law" = true)
    (kf34 : PySem.W.keepIn K (.ref f34) = true)
    (af35 : PySem.W.nsIn K mainGlobals "names_fault" = some (some (.ref f35)))
    (lf35 : K.lookup f35 = some ⟨ocf35, odf35, .func (PySem.W.fnOf "names_fault" "names_fault"
      (defArgs s_names_fault) (defBody s_names_fault) (defScope s_names_fault) .none kVf35 dcf35 pmf35 anf35 cdf35
      ctf35), slf35⟩)
    (cf35 : PySem.W.codeIn K cdf35 "names_fault" = true)
    (kf35 : PySem.W.keepIn K (.ref f35) = true)
    (af36 : PySem.W.nsIn K mainGlobals "is_integer" = some (some (.ref f36)))
    (lf36 : K.lookup f36 = some ⟨ocf36, odf36, .func (PySem.W.fnOf "is_integer" "is_integer"
      (defArgs s_is_integer) (defBody s_is_integer) (defScope s_is_integer) .none kVf36 dcf36 pmf36 anf36 cdf36
      ctf36), slf36⟩)
    (cf36 : PySem.W.codeIn K cdf36 "is_integer" = true)
    (kf36 : PySem.W.keepIn K (.ref f36) = true)
    (aC : PySem.W.nsIn K mainGlobals "Base" = some (some (.ref C)))
    (aL : PySem.W.nsIn K mainGlobals "SwapLog" = some (some (.ref L)))
    (am1 : PySem.W.findIn K (.ref C) "__init__" = some (some (.ref m1)))
    (im1 : PySem.W.isFn K (.ref m1) = true)
    (lm1 : K.lookup m1 = some ⟨ocm1, odm1, .func (PySem.W.fnOf "__init__" "Base.__init__"
      (defArgs s_Base_init) (defBody s_Base_init) (defScope s_Base_init) .none kVm1 dcm1 pmm1 anm1 cdm1
      ctm1), slm1⟩)
    (cm1 : PySem.W.codeIn K cdm1 "Base.__init__" = true)
    (km1 : PySem.W.keepIn K (.ref m1) = true)
    (am2 : PySem.W.findIn K (.ref C) "__len__" = some (some (.ref m2)))
    (im2 : PySem.W.isFn K (.ref m2) = true)
    (lm2 : K.lookup m2 = some ⟨ocm2, odm2, .func (PySem.W.fnOf "__len__" "Base.__len__"
      (defArgs s_Base_len) (defBody s_Base_len) (defScope s_Base_len) .none kVm2 dcm2 pmm2 anm2 cdm2
      ctm2), slm2⟩)
    (cm2 : PySem.W.codeIn K cdm2 "Base.__len__" = true)
    (km2 : PySem.W.keepIn K (.ref m2) = true)
    (am3 : PySem.W.findIn K (.ref C) "names" = some (some (.ref m3)))
    (im3 : PySem.W.isFn K (.ref m3) = true)
    (lm3 : K.lookup m3 = some ⟨ocm3, odm3, .func (PySem.W.fnOf "names" "Base.names"
      (defArgs s_Base_names) (defBody s_Base_names) (defScope s_Base_names) .none kVm3 dcm3 pmm3 anm3 cdm3
      ctm3), slm3⟩)
    (cm3 : PySem.W.codeIn K cdm3 "Base.names" = true)
    (km3 : PySem.W.keepIn K (.ref m3) = true)
    (am4 : PySem.W.findIn K (.ref C) "has_item" = some (some (.ref m4)))
    (im4 : PySem.W.isFn K (.ref m4) = true)
    (lm4 : K.lookup m4 = some ⟨ocm4, odm4, .func (PySem.W.fnOf "has_item" "Base.has_item"
      (defArgs s_Base_has_item) (defBody s_Base_has_item) (defScope s_Base_has_item) .none kVm4 dcm4 pmm4 anm4 cdm4
      ctm4), slm4⟩)
    (cm4 : PySem.W.codeIn K cdm4 "Base.has_item" = true)
    (km4 : PySem.W.keepIn K (.ref m4) = true)
    (am5 : PySem.W.findIn K (.ref C) "position_of" = some (some (.ref m5)))
    (im5 : PySem.W.isFn K (.ref m5) = true)
    (lm5 : K.lookup m5 = some ⟨ocm5, odm5, .func (PySem.W.fnOf "position_of" "Base.position_of"
      (defArgs s_Base_position_of) (defBody s_Base_position_of) (defScope s_Base_position_of) .none kVm5 dcm5 pmm5 anm5 cdm5
      ctm5), slm5⟩)
    (cm5 : PySem.W.codeIn K cdm5 "Base.position_of" = true)
    (km5 : PySem.W.keepIn K (.ref m5) = true)
    (am6 : PySem.W.findIn K (.ref C) "precedes" = some (some (.ref m6)))
    (im6 : PySem.W.isFn K (.ref m6) = true)
    (lm6 : K.lookup m6 = some ⟨ocm6, odm6, .func (PySem.W.fnOf "precedes" "Base.precedes"
      (defArgs s_Base_precedes) (defBody s_Base_precedes) (defScope s_Base_precedes) .none kVm6 dcm6 pmm6 anm6 cdm6
      ctm6), slm6⟩)
    (cm6 : PySem.W.codeIn K cdm6 "Base.precedes" = true)
    (km6 : PySem.W.keepIn K (.ref m6) = true)
    (am7 : PySem.W.findIn K (.ref L) "__init__" = some (some (.ref m7)))
    (im7 : PySem.W.isFn K (.ref m7) = true)
    (lm7 : K.lookup m7 = some ⟨ocm7, odm7, .func (PySem.W.fnOf "__init__" "SwapLog.__init__"
      (defArgs s_SwapLog_init) (defBody s_SwapLog_init) (defScope s_SwapLog_init) .none kVm7 dcm7 pmm7 anm7 cdm7
      ctm7), slm7⟩)
    (cm7 : PySem.W.codeIn K cdm7 "SwapLog.__init__" = true)
    (km7 : PySem.W.keepIn K (.ref m7) = true)
    (am8 : PySem.W.findIn K (.ref L) "order" = some (some (.ref m8)))
    (im8 : PySem.W.isFn K (.ref m8) = true)
    (lm8 : K.lookup m8 = some ⟨ocm8, odm8, .func (PySem.W.fnOf "order" "SwapLog.order"
      (defArgs s_SwapLog_order) (defBody s_SwapLog_order) (defScope s_SwapLog_order) .none kVm8 dcm8 pmm8 anm8 cdm8
      ctm8), slm8⟩)
    (cm8 : PySem.W.codeIn K cdm8 "SwapLog.order" = true)
    (km8 : PySem.W.keepIn K (.ref m8) = true)
    (am9 : PySem.W.findIn K (.ref L) "entries" = some (some (.ref m9)))
    (im9 : PySem.W.isFn K (.ref m9) = true)
    (lm9 : K.lookup m9 = some ⟨ocm9, odm9, .func (PySem.W.fnOf "entries" "SwapLog.entries"
      (defArgs s_SwapLog_entries) (defBody s_SwapLog_entries) (defScope s_SwapLog_entries) .none kVm9 dcm9 pmm9 anm9 cdm9
      ctm9), slm9⟩)
    (cm9 : PySem.W.codeIn K cdm9 "SwapLog.entries" = true)
    (km9 : PySem.W.keepIn K (.ref m9) = true)
    (am10 : PySem.W.findIn K (.ref L) "indexes" = some (some (.ref m10)))
    (im10 : PySem.W.isFn K (.ref m10) = true)
    (lm10 : K.lookup m10 = some ⟨ocm10, odm10, .func (PySem.W.fnOf "indexes" "SwapLog.indexes"
      (defArgs s_SwapLog_indexes) (defBody s_SwapLog_indexes) (defScope s_SwapLog_indexes) .none kVm10 dcm10 pmm10 anm10 cdm10
      ctm10), slm10⟩)
    (cm10 : PySem.W.codeIn K cdm10 "SwapLog.indexes" = true)
    (km10 : PySem.W.keepIn K (.ref m10) = true)
    (am11 : PySem.W.findIn K (.ref L) "swap" = some (some (.ref m11)))
    (im11 : PySem.W.isFn K (.ref m11) = true)
    (lm11 : K.lookup m11 = some ⟨ocm11, odm11, .func (PySem.W.fnOf "swap" "SwapLog.swap"
      (defArgs s_SwapLog_swap) (defBody s_SwapLog_swap) (defScope s_SwapLog_swap) .none (.ref Dm11) dcm11 pmm11 anm11 cdm11
      ctm11), slm11⟩)
    (wm11 : PySem.W.nsIn K Dm11 "reason" = some (some (.str (Str.ofString "") tDm11)))
    (cm11 : PySem.W.codeIn K cdm11 "SwapLog.swap" = true)
    (km11 : PySem.W.keepIn K (.ref m11) = true)
    (am12 : PySem.W.findIn K (.ref L) "swap_checked" = some (some (.ref m12)))
    (im12 : PySem.W.isFn K (.ref m12) = true)
    (lm12 : K.lookup m12 = some ⟨ocm12, odm12, .func (PySem.W.fnOf "swap_checked" "SwapLog.swap_checked"
      (defArgs s_SwapLog_swap_checked) (defBody s_SwapLog_swap_checked) (defScope s_SwapLog_swap_checked) .none kVm12 dcm12 pmm12 anm12 cdm12
      ctm12), slm12⟩)
    (cm12 : PySem.W.codeIn K cdm12 "SwapLog.swap_checked" = true)
    (km12 : PySem.W.keepIn K (.ref m12) = true)
    (am13 : PySem.W.findIn K (.ref L) "entry_for" = some (some (.ref m13)))
    (im13 : PySem.W.isFn K (.ref m13) = true)
    (lm13 : K.lookup m13 = some ⟨ocm13, odm13, .func (PySem.W.fnOf "entry_for" "SwapLog.entry_for"
      (defArgs s_SwapLog_entry_for) (defBody s_SwapLog_entry_for) (defScope s_SwapLog_entry_for) .none kVm13 dcm13 pmm13 anm13 cdm13
      ctm13), slm13⟩)
    (cm13 : PySem.W.codeIn K cdm13 "SwapLog.entry_for" = true)
    (km13 : PySem.W.keepIn K (.ref m13) = true)
    (hn : PySem.W.specialIn K (.builtin "object.__class__") "__get__" =
      some (some (.builtin "getset_descriptor.__get__")))
    (htk : PySem.W.takesIn K (.builtin "object.__class__") = some true)
    (pgC : PySem.W.plainGet K C Str.empty = true)
    (hdC : PySem.W.hasDictIn K C = true)
    (poC : PySem.W.plainOver K C = true)
    (saC : PySem.W.findIn K (.ref C) "__setattr__" =
      some (some (.builtin "object.__setattr__")))
    (haC : PySem.W.findIn K (.ref C) "__class__" =
      some (some (.builtin "object.__class__")))
    (hmC : PySem.W.mroIn K C (.type "object") = some true)
    (mkC : PySem.W.makesIn K C = true)
    (kcC : PySem.W.keepIn K (.ref C) = true)
    (n0C : PySem.W.findIn K (.ref C) "listed" = some none)
    (n1C : PySem.W.findIn K (.ref C) "places" = some none)
    (pgL : PySem.W.plainGet K L Str.empty = true)
    (hdL : PySem.W.hasDictIn K L = true)
    (poL : PySem.W.plainOver K L = true)
    (saL : PySem.W.findIn K (.ref L) "__setattr__" =
      some (some (.builtin "object.__setattr__")))
    (haL : PySem.W.findIn K (.ref L) "__class__" =
      some (some (.builtin "object.__class__")))
    (hmL : PySem.W.mroIn K L (.type "object") = some true)
    (mkL : PySem.W.makesIn K L = true)
    (kcL : PySem.W.keepIn K (.ref L) = true)
    (n0L : PySem.W.findIn K (.ref L) "ground" = some none)
    (n1L : PySem.W.findIn K (.ref L) "current" = some none)
    (n2L : PySem.W.findIn K (.ref L) "rows" = some none)
    (c40 : PySem.W.nsIn K mainGlobals "MAX_ITEMS" = some (some (.int 40 t40)))
    (c8 : PySem.W.nsIn K mainGlobals "MAX_NAME_LENGTH" = some (some (.int 8 t8)))
    (cN : PySem.W.nsIn K mainGlobals "NO_REASON" = some (some (.str (Str.ofString "") tN)))
    (cCm : PySem.W.nsIn K mainGlobals "COMMUTE" = some (some (.str (Str.ofString "commute") tCm)))
    (cBr : PySem.W.nsIn K mainGlobals "BRAID" = some (some (.str (Str.ofString "braid") tBr)))
    (zlen : PySem.W.nsIn K mainGlobals "len" = some none)
    (zdivmod : PySem.W.nsIn K mainGlobals "divmod" = some none)
    (zabs : PySem.W.nsIn K mainGlobals "abs" = some none)
    (zmax : PySem.W.nsIn K mainGlobals "max" = some none)
    (zmin : PySem.W.nsIn K mainGlobals "min" = some none)
    (zrange : PySem.W.nsIn K mainGlobals "range" = some none)
    (zenumerate : PySem.W.nsIn K mainGlobals "enumerate" = some none)
    (zisinstance : PySem.W.nsIn K mainGlobals "isinstance" = some none)
    (zstr : PySem.W.nsIn K mainGlobals "str" = some none)
    (zlist : PySem.W.nsIn K mainGlobals "list" = some none)
    (zset : PySem.W.nsIn K mainGlobals "set" = some none)
    (zall : PySem.W.nsIn K mainGlobals "all" = some none)
    (zrepr : PySem.W.nsIn K mainGlobals "repr" = some none)
    (zint : PySem.W.nsIn K mainGlobals "int" = some none)
    (zbool : PySem.W.nsIn K mainGlobals "bool" = some none)
    (ztuple : PySem.W.nsIn K mainGlobals "tuple" = some none)
    (zValueError : PySem.W.nsIn K mainGlobals "ValueError" = some none)
    (zLookupError : PySem.W.nsIn K mainGlobals "LookupError" = some none)
    (zArithmeticError : PySem.W.nsIn K mainGlobals "ArithmeticError" = some none)
    (aCC : PySem.W.nsIn K mainGlobals "InvalidCount" = some (some (.ref CC)))
    (icCC : PySem.W.isClsIn K CC = true)
    (tCC : PySem.W.typeIn K (.ref CC) = some (.type "type"))
    (aCI : PySem.W.nsIn K mainGlobals "InvalidIndex" = some (some (.ref CI)))
    (icCI : PySem.W.isClsIn K CI = true)
    (tCI : PySem.W.typeIn K (.ref CI) = some (.type "type"))
    (aCW : PySem.W.nsIn K mainGlobals "InvalidWord" = some (some (.ref CW)))
    (icCW : PySem.W.isClsIn K CW = true)
    (tCW : PySem.W.typeIn K (.ref CW) = some (.type "type"))
    (aCO : PySem.W.nsIn K mainGlobals "OrderError" = some (some (.ref CO)))
    (icCO : PySem.W.isClsIn K CO = true)
    (tCO : PySem.W.typeIn K (.ref CO) = some (.type "type"))
    (aCM : PySem.W.nsIn K mainGlobals "InvalidMove" = some (some (.ref CM)))
    (icCM : PySem.W.isClsIn K CM = true)
    (xCM : K.lookup CM = some (excClassObj nmCM qCM CM NCM bsCM [.ref CO,
      .type "ValueError", .type "Exception", .type "BaseException",
      .type "object"] true snCM subCM abCM colCM ddCM k0CM k1CM k2CM k3CM k5CM
      "ValueError.__new__"))
    (saCM : PySem.W.findIn K (.ref CM) "__setattr__" =
      some (some (.builtin "object.__setattr__")))
    (gaCM : PySem.W.findIn K (.ref CM) "__getattribute__" =
      some (some (.builtin "BaseException.__getattribute__")))
    (ggCM : PySem.W.findIn K (.ref CM) "__getattr__" = some none)
    (haCM : PySem.W.findIn K (.ref CM) "__class__" =
      some (some (.builtin "object.__class__")))
    (hmCM : PySem.W.mroIn K CM (.type "object") = some true)
    (eCCM : PySem.W.subIn K (.ref CM) (.type "BaseException") = some true)
    (tCCM : PySem.W.typeIn K (.ref CM) = some (.type "type"))
    (kCCM : PySem.W.keepIn K (.ref CM) = true)
    (hCCM : PySem.W.hasDictIn K CM = true)
    (n0CM : PySem.W.findIn K (.ref CM) "value" = some none)
    (ag1 : PySem.W.findIn K (.ref CM) "__init__" = some (some (.ref g1)))
    (tg1 : PySem.W.typeIn K (.ref g1) = some (.type "function"))
    (lg1 : K.lookup g1 = some ⟨ocg1, odg1, .func (PySem.W.fnOf "__init__" "InvalidMove.__init__"
      (defArgs s_InvalidMove_init) (defBody s_InvalidMove_init) (defScope s_InvalidMove_init) .none kVg1 dcg1 pmg1 ang1 cdg1
      ctg1), slg1⟩)
    (cg1 : PySem.W.codeIn K cdg1 "InvalidMove.__init__" = true)
    (kg1 : PySem.W.keepIn K (.ref g1) = true)
    (sCMCM : PySem.W.subIn K (.ref CM) (.ref CM) = some true)
    (sCMCC : PySem.W.subIn K (.ref CM) (.ref CC) = some false)
    (nCMCC : (CM == CC) = false)
    (sCMCI : PySem.W.subIn K (.ref CM) (.ref CI) = some false)
    (nCMCI : (CM == CI) = false)
    (sCMCW : PySem.W.subIn K (.ref CM) (.ref CW) = some false)
    (nCMCW : (CM == CW) = false)
    (sCMCO : PySem.W.subIn K (.ref CM) (.ref CO) = some true)
    (nCMCO : (CM == CO) = false)
    (sCMValueError : PySem.W.subIn K (.ref CM) (.type "ValueError") = some true)
    (sCMLookupError : PySem.W.subIn K (.ref CM) (.type "LookupError") = some false)
    (sCMArithmeticError : PySem.W.subIn K (.ref CM) (.type "ArithmeticError") = some false)
    : ∃ fd : FuncData, (∀ (s : Shared) (v : Value),
        BindsTo s fd ⟨[v], []⟩ [("_law_script", v)]) ∧
      ∀ base : Heap, K.In base → base.Ns mainGlobals mg →
        (∃ o, base.get? sysModules = some o) →
        FnG l.prog w K mg base CX0 12 fa fd ["_law_script"] (spLaw K) := by
  cases hfa.symm.trans (PySem.W.mg_of X G af34)
  have B : Bl mg := ⟨PySem.W.mg_none_of X G zlen, PySem.W.mg_none_of X G zdivmod, PySem.W.mg_none_of X G zabs, PySem.W.mg_none_of X G zmax, PySem.W.mg_none_of X G zmin, PySem.W.mg_none_of X G zrange, PySem.W.mg_none_of X G zenumerate, PySem.W.mg_none_of X G zisinstance, PySem.W.mg_none_of X G zstr, PySem.W.mg_none_of X G zlist, PySem.W.mg_none_of X G zset, PySem.W.mg_none_of X G zall, PySem.W.mg_none_of X G zrepr⟩
  have BI : BlI mg := ⟨PySem.W.mg_none_of X G zint, PySem.W.mg_none_of X G zbool⟩
  have TC : BC K mg C := ⟨⟨⟨pgC, hdC, poC, saC⟩, haC, hn, htk, hmC,
    if_pos (beq_self_eq_true _)⟩, n0C, n1C,
    PySem.W.mg_of X G aC, kcC⟩
  have TL : LC K mg L := ⟨⟨⟨pgL, hdL, poL, saL⟩, haL, hn, htk, hmL,
    if_pos (beq_self_eq_true _)⟩, n0L, n1L, n2L,
    PySem.W.mg_of X G aL, kcL⟩
  obtain ⟨d1, D1⟩ := defAt (st := s_is_name) (ps := ["value"]) X G af1 lf1 cf1 kf1
    fun _ _ _ _ _ _ us hl => match us, hl with | [_], _ => rfl
  obtain ⟨d2, D2⟩ := defAt (st := s_check_items) (ps := ["items"]) X G af2 lf2 cf2 kf2
    fun _ _ _ _ _ _ us hl => match us, hl with | [_], _ => rfl
  obtain ⟨d3, D3⟩ := defAt (st := s_pair_of) (ps := ["base", "first", "second"]) X G af3 lf3 cf3 kf3
    fun _ _ _ _ _ _ us hl => match us, hl with | [_, _, _], _ => rfl
  obtain ⟨d4, D4⟩ := defAt (st := s_is_integer_from) (ps := ["value", "low", "high"]) X G af4 lf4 cf4 kf4
    fun _ _ _ _ _ _ us hl => match us, hl with | [_, _, _], _ => rfl
  obtain ⟨d5, D5⟩ := defAt (st := s_is_swap_index) (ps := ["base", "value"]) X G af5 lf5 cf5 kf5
    fun _ _ _ _ _ _ us hl => match us, hl with | [_, _], _ => rfl
  obtain ⟨d6, D6⟩ := defAt (st := s_check_swap_index) (ps := ["base", "index"]) X G af6 lf6 cf6 kf6
    fun _ _ _ _ _ _ us hl => match us, hl with | [_, _], _ => rfl
  obtain ⟨d7, D7⟩ := defAt (st := s_exchanged) (ps := ["order", "index"]) X G af7 lf7 cf7 kf7
    fun _ _ _ _ _ _ us hl => match us, hl with | [_, _], _ => rfl
  obtain ⟨d8, D8⟩ := defAt (st := s_goes_outward) (ps := ["base", "order", "index"]) X G af8 lf8 cf8 kf8
    fun _ _ _ _ _ _ us hl => match us, hl with | [_, _, _], _ => rfl
  obtain ⟨d9, D9⟩ := defAt (st := s_pairs_of_swaps) (ps := ["base", "indexes"]) X G af9 lf9 cf9 kf9
    fun _ _ _ _ _ _ us hl => match us, hl with | [_, _], _ => rfl
  obtain ⟨d10, D10⟩ := defAt (st := s_is_reason) (ps := ["value"]) X G af10 lf10 cf10 kf10
    fun _ _ _ _ _ _ us hl => match us, hl with | [_], _ => rfl
  obtain ⟨d11, D11⟩ := defAt (st := s_check_reason) (ps := ["reason"]) X G af11 lf11 cf11 kf11
    fun _ _ _ _ _ _ us hl => match us, hl with | [_], _ => rfl
  obtain ⟨d12, D12⟩ := defAt (st := s_order_after_swaps) (ps := ["base", "indexes"]) X G af12 lf12 cf12 kf12
    fun _ _ _ _ _ _ us hl => match us, hl with | [_, _], _ => rfl
  obtain ⟨d13, D13⟩ := defAt (st := s_word_fault) (ps := ["base", "value"]) X G af13 lf13 cf13 kf13
    fun _ _ _ _ _ _ us hl => match us, hl with | [_, _], _ => rfl
  obtain ⟨d14, D14⟩ := defAt (st := s_check_word) (ps := ["base", "word"]) X G af14 lf14 cf14 kf14
    fun _ _ _ _ _ _ us hl => match us, hl with | [_, _], _ => rfl
  obtain ⟨d15, D15⟩ := defAt (st := s_is_word) (ps := ["base", "value"]) X G af15 lf15 cf15 kf15
    fun _ _ _ _ _ _ us hl => match us, hl with | [_, _], _ => rfl
  obtain ⟨d16, D16⟩ := defAt (st := s_word_of) (ps := ["log"]) X G af16 lf16 cf16 kf16
    fun _ _ _ _ _ _ us hl => match us, hl with | [_], _ => rfl
  obtain ⟨d17, D17⟩ := defAt (st := s_order_of_word) (ps := ["base", "word"]) X G af17 lf17 cf17 kf17
    fun _ _ _ _ _ _ us hl => match us, hl with | [_, _], _ => rfl
  obtain ⟨d18, D18⟩ := defAt (st := s_can_commute) (ps := ["word", "position"]) X G af18 lf18 cf18 kf18
    fun _ _ _ _ _ _ us hl => match us, hl with | [_, _], _ => rfl
  obtain ⟨d19, D19⟩ := defAt (st := s_can_braid) (ps := ["word", "position"]) X G af19 lf19 cf19 kf19
    fun _ _ _ _ _ _ us hl => match us, hl with | [_, _], _ => rfl
  obtain ⟨d20, D20⟩ := defAt (st := s_is_move) (ps := ["word", "value"]) X G af20 lf20 cf20 kf20
    fun _ _ _ _ _ _ us hl => match us, hl with | [_, _], _ => rfl
  obtain ⟨d21, D21⟩ := defAt (st := s_moved) (ps := ["word", "move"]) X G af21 lf21 cf21 kf21
    fun _ _ _ _ _ _ us hl => match us, hl with | [_, _], _ => rfl
  obtain ⟨d22, D22⟩ := defAt (st := s_apply_move) (ps := ["base", "word", "move"]) X G af22 lf22 cf22 kf22
    fun _ _ _ _ _ _ us hl => match us, hl with | [_, _, _], _ => rfl
  obtain ⟨d23, D23⟩ := defAt (st := s_Lrng) (ps := ["_law_script", "_law_k"]) X G af23 lf23 cf23 kf23
    fun _ _ _ _ _ _ us hl => match us, hl with | [_, _], _ => rfl
  obtain ⟨d24, D24⟩ := defAt (st := s_Ldraw) (ps := ["_law_rng_here", "_law_many"]) X G af24 lf24 cf24 kf24
    fun _ _ _ _ _ _ us hl => match us, hl with | [_, _], _ => rfl
  obtain ⟨d25, D25⟩ := defAt (st := s_Lchoice) (ps := ["_law_rng_here", "_law_options"]) X G af25 lf25 cf25 kf25
    fun _ _ _ _ _ _ us hl => match us, hl with | [_, _], _ => rfl
  obtain ⟨d26, D26⟩ := defAt (st := s_Lname) (ps := ["_law_rng_here", "_law_used"]) X G af26 lf26 cf26 kf26
    fun _ _ _ _ _ _ us hl => match us, hl with | [_, _], _ => rfl
  obtain ⟨d27, D27⟩ := defAt (st := s_Lnames) (ps := ["_law_rng_here", "_law_many", "_law_used"]) X G af27 lf27 cf27 kf27
    fun _ _ _ _ _ _ us hl => match us, hl with | [_, _, _], _ => rfl
  obtain ⟨d28, D28⟩ := defAt (st := s_Lmoves) (ps := ["_law_word"]) X G af28 lf28 cf28 kf28
    fun _ _ _ _ _ _ us hl => match us, hl with | [_], _ => rfl
  obtain ⟨d29, D29⟩ := defAt (st := s_Lmoved) (ps := ["_law_word", "_law_move"]) X G af29 lf29 cf29 kf29
    fun _ _ _ _ _ _ us hl => match us, hl with | [_, _], _ => rfl
  obtain ⟨d30, D30⟩ := defAt (st := s_Lodd_moves) (ps := ["_law_rng_here", "_law_word"]) X G af30 lf30 cf30 kf30
    fun _ _ _ _ _ _ us hl => match us, hl with | [_, _], _ => rfl
  obtain ⟨d31, D31⟩ := defAt (st := s_Ltold) (ps := ["_law_base", "_law_word", "_law_move"]) X G af31 lf31 cf31 kf31
    fun _ _ _ _ _ _ us hl => match us, hl with | [_, _, _], _ => rfl
  obtain ⟨d32, D32⟩ := defAt (st := s_Lword_right) (ps := ["_law_rng_here", "_law_base", "_law_word", "_law_order"]) X G af32 lf32 cf32 kf32
    fun _ _ _ _ _ _ us hl => match us, hl with | [_, _, _, _], _ => rfl
  obtain ⟨d33, D33⟩ := defAt (st := s_Llists_right) (ps := ["_law_base", "_law_items", "_law_log", "_law_word"]) X G af33 lf33 cf33 kf33
    fun _ _ _ _ _ _ us hl => match us, hl with | [_, _, _, _], _ => rfl
  obtain ⟨d34, D34⟩ := defAt (st := s_law) (ps := ["_law_script"]) X G af34 lf34 cf34 kf34
    fun _ _ _ _ _ _ us hl => match us, hl with | [_], _ => rfl
  obtain ⟨d35, D35⟩ := defAt (st := s_names_fault) (ps := ["value", "most"]) X G af35 lf35 cf35 kf35
    fun _ _ _ _ _ _ us hl => match us, hl with | [_, _], _ => rfl
  obtain ⟨d36, D36⟩ := defAt (st := s_is_integer) (ps := ["value"]) X G af36 lf36 cf36 kf36
    fun _ _ _ _ _ _ us hl => match us, hl with | [_], _ => rfl
  obtain ⟨e1, M1⟩ := methAt (st := s_Base_init) (ps := ["self", "items"]) am1 im1 lm1 cm1 km1
    fun _ _ _ _ _ _ us hl => match us, hl with | [_, _], _ => rfl
  obtain ⟨e2, M2⟩ := methAt (st := s_Base_len) (ps := ["self"]) am2 im2 lm2 cm2 km2
    fun _ _ _ _ _ _ us hl => match us, hl with | [_], _ => rfl
  obtain ⟨e3, M3⟩ := methAt (st := s_Base_names) (ps := ["self"]) am3 im3 lm3 cm3 km3
    fun _ _ _ _ _ _ us hl => match us, hl with | [_], _ => rfl
  obtain ⟨e4, M4⟩ := methAt (st := s_Base_has_item) (ps := ["self", "value"]) am4 im4 lm4 cm4 km4
    fun _ _ _ _ _ _ us hl => match us, hl with | [_, _], _ => rfl
  obtain ⟨e5, M5⟩ := methAt (st := s_Base_position_of) (ps := ["self", "item"]) am5 im5 lm5 cm5 km5
    fun _ _ _ _ _ _ us hl => match us, hl with | [_, _], _ => rfl
  obtain ⟨e6, M6⟩ := methAt (st := s_Base_precedes) (ps := ["self", "first", "second"]) am6 im6 lm6 cm6 km6
    fun _ _ _ _ _ _ us hl => match us, hl with | [_, _, _], _ => rfl
  obtain ⟨e7, M7⟩ := methAt (st := s_SwapLog_init) (ps := ["self", "base"]) am7 im7 lm7 cm7 km7
    fun _ _ _ _ _ _ us hl => match us, hl with | [_, _], _ => rfl
  obtain ⟨e8, M8⟩ := methAt (st := s_SwapLog_order) (ps := ["self"]) am8 im8 lm8 cm8 km8
    fun _ _ _ _ _ _ us hl => match us, hl with | [_], _ => rfl
  obtain ⟨e9, M9⟩ := methAt (st := s_SwapLog_entries) (ps := ["self"]) am9 im9 lm9 cm9 km9
    fun _ _ _ _ _ _ us hl => match us, hl with | [_], _ => rfl
  obtain ⟨e10, M10⟩ := methAt (st := s_SwapLog_indexes) (ps := ["self"]) am10 im10 lm10 cm10 km10
    fun _ _ _ _ _ _ us hl => match us, hl with | [_], _ => rfl
  obtain ⟨e11, M11⟩ := methKDAt (st := s_SwapLog_swap) (ps := ["self", "index", "reason"]) (kw := "reason") (n := 2) am11 im11 lm11 cm11 km11 rfl wm11
    (fun us _ hl => match us, hl with | [_, _], _ => rfl)
    (fun us _ hl => match us, hl with | [_, _], _ => ⟨_, _, _, _, _, _, rfl, rfl, rfl⟩)
  obtain ⟨e12, M12⟩ := methAt (st := s_SwapLog_swap_checked) (ps := ["self", "index", "reason"]) am12 im12 lm12 cm12 km12
    fun _ _ _ _ _ _ us hl => match us, hl with | [_, _, _], _ => rfl
  obtain ⟨e13, M13⟩ := methAt (st := s_SwapLog_entry_for) (ps := ["self", "first", "second"]) am13 im13 lm13 cm13 km13
    fun _ _ _ _ _ _ us hl => match us, hl with | [_, _, _], _ => rfl
  obtain ⟨h1, I1⟩ := xInit (q := "InvalidMove.__init__") (st := s_InvalidMove_init) (ps := ["self", "value"]) ag1 tg1 lg1 cg1 kg1
    fun _ _ _ _ _ _ us hl => match us, hl with | [_, _], _ => rfl
  have xcCM : XCl K CM := ⟨⟨⟨_, _, _, _, _, _, _, _, _, _, _, _, _, _, _, xCM,
    by show PySem.HandSPX.refsVE PySem.HandSPX.veTail = true; decide +kernel⟩, saCM, eCCM, tCCM, kCCM⟩, ⟨gaCM, ggCM, eCCM, hCCM⟩,
    haCM, hn, htk, hmCM⟩
  have XX : XV K mg CM CC CI CW CO := ⟨xcCM, PySem.W.mg_of X G aCM, PySem.W.mg_of X G aCC,
    PySem.W.mg_of X G aCI, PySem.W.mg_of X G aCW, PySem.W.mg_of X G aCO,
    PySem.W.mg_none_of X G zValueError, PySem.W.mg_none_of X G zLookupError, PySem.W.mg_none_of X G zArithmeticError,
    exm2 eCCM icCM tCCM sCMCM,
    kitAny_cons (kit2 nCMCC icCC tCC sCMCC) (fun _ => kitAny_cons (kit2 nCMCI icCI tCI sCMCI)
      (fun _ => kitAny_cons (kit2 nCMCW icCW tCW sCMCW)
      (fun _ => kitAny_cons (kitT (by decide +kernel) sCMLookupError)
      (fun _ => kitAny_cons (kitT (by decide +kernel) sCMArithmeticError) (fun _ => rfl) nofun) nofun) nofun) nofun) nofun,
    kit2 nCMCO icCO tCO sCMCO, kitT (by decide +kernel) sCMValueError, n0CM⟩
  refine ⟨d34, fun s v => D34.bt s [v] rfl, fun base _ _ sm => ?_⟩
  exact all35 B BI (PySem.W.mg_none_of X G ztuple) TC mkC TL mkL XX sm (PySem.W.mg_of X G c40) (PySem.W.mg_of X G c8) (PySem.W.mg_of X G cN) (PySem.W.mg_of X G cCm) (PySem.W.mg_of X G cBr)
    D1 D2 D3 D4 D5 D6 D7 D8 D9 D10 D11 D12 D13 D14 D15 D16 D17 D18 D19 D20 D21 D22 D23 D24 D25 D26 D27 D28 D29 D30 D31 D32 D33 D34 D35 D36 M1 M2 M3 M4 M5 M6 M7 M8 M9 M10 M11 M12 M13 I1
end OM
open PySem PySem.W PyProof.Rows
set_option maxRecDepth 100000 in
set_option maxHeartbeats 0 in
theorem PySem.Challenge.cw_ordermerge_k35_moves_keep_the_order_holds : PySem.Challenge.rw_ordermerge_k35_moves_keep_the_order.Holds := by
  w_on; o_law; k_head; (case hw => w_witness2)
  k_fill
  refine OM.walkS (l := PySem.Challenge.rw_ordermerge_k35_moves_keep_the_order) (n := 63) (k := 12)
    (x := "_law_script") (sp := OM.spLaw) rfl (by decide) (by decide +kernel) rfl
    ⟨rfl, by decide, by decide⟩ (fun w h Y => PySem.W.kIn_of Y) ?F
    (fun K H a ns hl _ hS => ⟨a, ns, rfl, hS, hl, fun _ => rfl⟩)
  case F =>
    intro w mg fa h KX G hmg
    refine' OM.fin35 KX G hmg ?af1
      ?lf1
      ?cf1
      ?kf1
      ?af2
      ?lf2
      ?cf2
      ?kf2
      ?af3
      ?lf3
      ?cf3
      ?kf3
      ?af4
      ?lf4
      ?cf4
      ?kf4
      ?af5
      ?lf5
      ?cf5
      ?kf5
      ?af6
      ?lf6
      ?cf6
      ?kf6
      ?af7
      ?lf7
      ?cf7
      ?kf7
      ?af8
      ?lf8
      ?cf8
      ?kf8
      ?af9
      ?lf9
      ?cf9
      ?kf9
      ?af10
      ?lf10
      ?cf10
      ?kf10
      ?af11
      ?lf11
      ?cf11
      ?kf11
      ?af12
      ?lf12
      ?cf12
      ?kf12
      ?af13
      ?lf13
      ?cf13
      ?kf13
      ?af14
      ?lf14
      ?cf14
      ?kf14
      ?af15
      ?lf15
      ?cf15
      ?kf15
      ?af16
      ?lf16
      ?cf16
      ?kf16
      ?af17
      ?lf17
      ?cf17
      ?kf17
      ?af18
      ?lf18
      ?cf18
      ?kf18
      ?af19
      ?lf19
      ?cf19
      ?kf19
      ?af20
      ?lf20
      ?cf20
      ?kf20
      ?af21
      ?lf21
      ?cf21
      ?kf21
      ?af22
      ?lf22
      ?cf22
      ?kf22
      ?af23
      ?lf23
      ?cf23
      ?kf23
      ?af24
      ?lf24
      ?cf24
      ?kf24
      ?af25
      ?lf25
      ?cf25
      ?kf25
      ?af26
      ?lf26
      ?cf26
      ?kf26
      ?af27
      ?lf27
      ?cf27
      ?kf27
      ?af28
      ?lf28
      ?cf28
      ?kf28
      ?af29
      ?lf29
      ?cf29
      ?kf29
      ?af30
      ?lf30
      ?cf30
      ?kf30
      ?af31
      ?lf31
      ?cf31
      ?kf31
      ?af32
      ?lf32
      ?cf32
      ?kf32
      ?af33
      ?lf33
      ?cf33
      ?kf33
      ?af34
      ?lf34
      ?cf34
      ?kf34
      ?af35
      ?lf35
      ?cf35
      ?kf35
      ?af36
      ?lf36
      ?cf36
      ?kf36
      ?aC
      ?aL
      ?am1
      ?im1
      ?lm1
      ?cm1
      ?km1
      ?am2
      ?im2
      ?lm2
      ?cm2
      ?km2
      ?am3
      ?im3
      ?lm3
      ?cm3
      ?km3
      ?am4
      ?im4
      ?lm4
      ?cm4
      ?km4
      ?am5
      ?im5
      ?lm5
      ?cm5
      ?km5
      ?am6
      ?im6
      ?lm6
      ?cm6
      ?km6
      ?am7
      ?im7
      ?lm7
      ?cm7
      ?km7
      ?am8
      ?im8
      ?lm8
      ?cm8
      ?km8
      ?am9
      ?im9
      ?lm9
      ?cm9
      ?km9
      ?am10
      ?im10
      ?lm10
      ?cm10
      ?km10
      ?am11
      ?im11
      ?lm11
      ?wm11
      ?cm11
      ?km11
      ?am12
      ?im12
      ?lm12
      ?cm12
      ?km12
      ?am13
      ?im13
      ?lm13
      ?cm13
      ?km13
      ?hn
      ?htk
      ?pgC
      ?hdC
      ?poC
      ?saC
      ?haC
      ?hmC
      ?mkC
      ?kcC
      ?n0C
      ?n1C
      ?pgL
      ?hdL
      ?poL
      ?saL
      ?haL
      ?hmL
      ?mkL
      ?kcL
      ?n0L
      ?n1L
      ?n2L
      ?c40
      ?c8
      ?cN
      ?cCm
      ?cBr
      ?zlen
      ?zdivmod
      ?zabs
      ?zmax
      ?zmin
      ?zrange
      ?zenumerate
      ?zisinstance
      ?zstr
      ?zlist
      ?zset
      ?zall
      ?zrepr
      ?zint
      ?zbool
      ?ztuple
      ?zValueError
      ?zLookupError
      ?zArithmeticError
      ?aCC
      ?icCC
      ?tCC
      ?aCI
      ?icCI
      ?tCI
      ?aCW
      ?icCW
      ?tCW
      ?aCO
      ?icCO
      ?tCO
      ?aCM
      ?icCM
      ?xCM
      ?saCM
      ?gaCM
      ?ggCM
      ?haCM
      ?hmCM
      ?eCCM
      ?tCCM
      ?kCCM
      ?hCCM
      ?n0CM
      ?ag1
      ?tg1
      ?lg1
      ?cg1
      ?kg1
      ?sCMCM
      ?sCMCC
      ?nCMCC
      ?sCMCI
      ?nCMCI
      ?sCMCW
      ?nCMCW
      ?sCMCO
      ?nCMCO
      ?sCMValueError
      ?sCMLookupError
      ?sCMArithmeticError
    (case af1 => k_is)
    (case lf1 => k_is)
    (case cf1 => k_is)
    (case kf1 => k_is)
    (case af2 => k_is)
    (case lf2 => k_is)
    (case cf2 => k_is)
    (case kf2 => k_is)
    (case af3 => k_is)
    (case lf3 => k_is)
    (case cf3 => k_is)
    (case kf3 => k_is)
    (case af4 => k_is)
    (case lf4 => k_is)
    (case cf4 => k_is)
    (case kf4 => k_is)
    (case af5 => k_is)
    (case lf5 => k_is)
    (case cf5 => k_is)
    (case kf5 => k_is)
    (case af6 => k_is)
    (case lf6 => k_is)
    (case cf6 => k_is)
    (case kf6 => k_is)
    (case af7 => k_is)
    (case lf7 => k_is)
    (case cf7 => k_is)
    (case kf7 => k_is)
    (case af8 => k_is)
    (case lf8 => k_is)
    (case cf8 => k_is)
    (case kf8 => k_is)
    (case af9 => k_is)
    (case lf9 => k_is)
    (case cf9 => k_is)
    (case kf9 => k_is)
    (case af10 => k_is)
    (case lf10 => k_is)
    (case cf10 => k_is)
    (case kf10 => k_is)
    (case af11 => k_is)
    (case lf11 => k_is)
    (case cf11 => k_is)
    (case kf11 => k_is)
    (case af12 => k_is)
    (case lf12 => k_is)
    (case cf12 => k_is)
    (case kf12 => k_is)
    (case af13 => k_is)
    (case lf13 => k_is)
    (case cf13 => k_is)
    (case kf13 => k_is)
    (case af14 => k_is)
    (case lf14 => k_is)
    (case cf14 => k_is)
    (case kf14 => k_is)
    (case af15 => k_is)
    (case lf15 => k_is)
    (case cf15 => k_is)
    (case kf15 => k_is)
    (case af16 => k_is)
    (case lf16 => k_is)
    (case cf16 => k_is)
    (case kf16 => k_is)
    (case af17 => k_is)
    (case lf17 => k_is)
    (case cf17 => k_is)
    (case kf17 => k_is)
    (case af18 => k_is)
    (case lf18 => k_is)
    (case cf18 => k_is)
    (case kf18 => k_is)
    (case af19 => k_is)
    (case lf19 => k_is)
    (case cf19 => k_is)
    (case kf19 => k_is)
    (case af20 => k_is)
    (case lf20 => k_is)
    (case cf20 => k_is)
    (case kf20 => k_is)
    (case af21 => k_is)
    (case lf21 => k_is)
    (case cf21 => k_is)
    (case kf21 => k_is)
    (case af22 => k_is)
    (case lf22 => k_is)
    (case cf22 => k_is)
    (case kf22 => k_is)
    (case af23 => k_is)
    (case lf23 => k_is)
    (case cf23 => k_is)
    (case kf23 => k_is)
    (case af24 => k_is)
    (case lf24 => k_is)
    (case cf24 => k_is)
    (case kf24 => k_is)
    (case af25 => k_is)
    (case lf25 => k_is)
    (case cf25 => k_is)
    (case kf25 => k_is)
    (case af26 => k_is)
    (case lf26 => k_is)
    (case cf26 => k_is)
    (case kf26 => k_is)
    (case af27 => k_is)
    (case lf27 => k_is)
    (case cf27 => k_is)
    (case kf27 => k_is)
    (case af28 => k_is)
    (case lf28 => k_is)
    (case cf28 => k_is)
    (case kf28 => k_is)
    (case af29 => k_is)
    (case lf29 => k_is)
    (case cf29 => k_is)
    (case kf29 => k_is)
    (case af30 => k_is)
    (case lf30 => k_is)
    (case cf30 => k_is)
    (case kf30 => k_is)
    (case af31 => k_is)
    (case lf31 => k_is)
    (case cf31 => k_is)
    (case kf31 => k_is)
    (case af32 => k_is)
    (case lf32 => k_is)
    (case cf32 => k_is)
    (case kf32 => k_is)
    (case af33 => k_is)
    (case lf33 => k_is)
    (case cf33 => k_is)
    (case kf33 => k_is)
    (case af34 => k_is)
    (case lf34 => k_is)
    (case cf34 => k_is)
    (case kf34 => k_is)
    (case af35 => k_is)
    (case lf35 => k_is)
    (case cf35 => k_is)
    (case kf35 => k_is)
    (case af36 => k_is)
    (case lf36 => k_is)
    (case cf36 => k_is)
    (case kf36 => k_is)
    (case aC => k_is)
    (case aL => k_is)
    (case am1 => k_is)
    (case im1 => k_is)
    (case lm1 => k_is)
    (case cm1 => k_is)
    (case km1 => k_is)
    (case am2 => k_is)
    (case im2 => k_is)
    (case lm2 => k_is)
    (case cm2 => k_is)
    (case km2 => k_is)
    (case am3 => k_is)
    (case im3 => k_is)
    (case lm3 => k_is)
    (case cm3 => k_is)
    (case km3 => k_is)
    (case am4 => k_is)
    (case im4 => k_is)
    (case lm4 => k_is)
    (case cm4 => k_is)
    (case km4 => k_is)
    (case am5 => k_is)
    (case im5 => k_is)
    (case lm5 => k_is)
    (case cm5 => k_is)
    (case km5 => k_is)
    (case am6 => k_is)
    (case im6 => k_is)
    (case lm6 => k_is)
    (case cm6 => k_is)
    (case km6 => k_is)
    (case am7 => k_is)
    (case im7 => k_is)
    (case lm7 => k_is)
    (case cm7 => k_is)
    (case km7 => k_is)
    (case am8 => k_is)
    (case im8 => k_is)
    (case lm8 => k_is)
    (case cm8 => k_is)
    (case km8 => k_is)
    (case am9 => k_is)
    (case im9 => k_is)
    (case lm9 => k_is)
    (case cm9 => k_is)
    (case km9 => k_is)
    (case am10 => k_is)
    (case im10 => k_is)
    (case lm10 => k_is)
    (case cm10 => k_is)
    (case km10 => k_is)
    (case am11 => k_is)
    (case im11 => k_is)
    (case lm11 => k_is)
    (case wm11 => k_is)
    (case cm11 => k_is)
    (case km11 => k_is)
    (case am12 => k_is)
    (case im12 => k_is)
    (case lm12 => k_is)
    (case cm12 => k_is)
    (case km12 => k_is)
    (case am13 => k_is)
    (case im13 => k_is)
    (case lm13 => k_is)
    (case cm13 => k_is)
    (case km13 => k_is)
    (case hn => k_is)
    (case htk => k_is)
    (case pgC => k_is)
    (case hdC => k_is)
    (case poC => k_is)
    (case saC => k_is)
    (case haC => k_is)
    (case hmC => k_is)
    (case mkC => k_is)
    (case kcC => k_is)
    (case n0C => k_is)
    (case n1C => k_is)
    (case pgL => k_is)
    (case hdL => k_is)
    (case poL => k_is)
    (case saL => k_is)
    (case haL => k_is)
    (case hmL => k_is)
    (case mkL => k_is)
    (case kcL => k_is)
    (case n0L => k_is)
    (case n1L => k_is)
    (case n2L => k_is)
    (case c40 => k_is)
    (case c8 => k_is)
    (case cN => k_is)
    (case cCm => k_is)
    (case cBr => k_is)
    (case zlen => k_is)
    (case zdivmod => k_is)
    (case zabs => k_is)
    (case zmax => k_is)
    (case zmin => k_is)
    (case zrange => k_is)
    (case zenumerate => k_is)
    (case zisinstance => k_is)
    (case zstr => k_is)
    (case zlist => k_is)
    (case zset => k_is)
    (case zall => k_is)
    (case zrepr => k_is)
    (case zint => k_is)
    (case zbool => k_is)
    (case ztuple => k_is)
    (case zValueError => k_is)
    (case zLookupError => k_is)
    (case zArithmeticError => k_is)
    (case aCC => k_is)
    (case icCC => k_is)
    (case tCC => k_is)
    (case aCI => k_is)
    (case icCI => k_is)
    (case tCI => k_is)
    (case aCW => k_is)
    (case icCW => k_is)
    (case tCW => k_is)
    (case aCO => k_is)
    (case icCO => k_is)
    (case tCO => k_is)
    (case aCM => k_is)
    (case icCM => k_is)
    (case xCM => k_is)
    (case saCM => k_is)
    (case gaCM => k_is)
    (case ggCM => k_is)
    (case haCM => k_is)
    (case hmCM => k_is)
    (case eCCM => k_is)
    (case tCCM => k_is)
    (case kCCM => k_is)
    (case hCCM => k_is)
    (case n0CM => k_is)
    (case ag1 => k_is)
    (case tg1 => k_is)
    (case lg1 => k_is)
    (case cg1 => k_is)
    (case kg1 => k_is)
    (case sCMCM => first | rfl | k_is)
    (case sCMCC => first | rfl | k_is)
    (case nCMCC => first | rfl | decide | k_is)
    (case sCMCI => first | rfl | k_is)
    (case nCMCI => first | rfl | decide | k_is)
    (case sCMCW => first | rfl | k_is)
    (case nCMCW => first | rfl | decide | k_is)
    (case sCMCO => first | rfl | k_is)
    (case nCMCO => first | rfl | decide | k_is)
    (case sCMValueError => k_is)
    (case sCMLookupError => k_is)
    (case sCMArithmeticError => k_is)
