import PyProof.Rows.All
import Wide.All
import OpenK.AllK
import Wide.FinOn
import PyProof.ReprRoads
import HandS.Base
import HandS.Call
import HandS.List
import HandS.Comp
import HandS.Ends
import HandS.Words
import HandS.WordsList
import HandS.Defaults
import PyProof.ReprLen
import HandS.Iter
import HandS.Walk
import KE.GoesEnumKw
import KE.GoesRev
import HandS.MakeKwOnly
import HandS.Property
import PyProof.InstNe
import PyProof.FString2
import PyProof.FString5
import HandS.IsInst
import HandS.FStr
import HandS.ForMost
import HandS.Conv
import HandS.Style
import HandS.Deep
import HandS.TupLe
import PySem.Challenge.RW_dueways_k31_stretches
set_option Elab.async false
set_option linter.all false
set_option maxRecDepth 100000
set_option maxHeartbeats 4000000
/-! A def's promise where no repr runs around it (guards are known to be empty), so that repr of data may be asked inside. -/
namespace VG
open PySem PySem.Spec PyProof.Rows L2

/-- repr of data -/
def rRepr (K : PySem.W.Frag) : List V → Hp → VK → Prop := fun xs H Q =>
  ∃ v d, xs = [v] ∧ Dp K H v d ∧ d.showable = true ∧ d.depth ≤ 60 ∧ d.shown.length ≤ sizeLine ∧ Q (.str d.shown) H

theorem dp_noDict (K : PySem.W.Frag) (H : Hp) : (∀ d v, Dp K H v d → d.hasDict = false) ∧ (∀ ds vs, DpAll K H vs ds → PyData.hasDictAll ds = false) := by
  have one : ∀ n, (∀ d v, sizeOf d < n → Dp K H v d → d.hasDict = false) ∧
      (∀ ds vs, sizeOf ds < n → DpAll K H vs ds → PyData.hasDictAll ds = false) := by
    intro n
    induction n with
    | zero => exact ⟨fun _ _ h => absurd h (Nat.not_lt_zero _), fun _ _ h => absurd h (Nat.not_lt_zero _)⟩
    | succ n ih =>
      refine ⟨fun d v hz h => ?_, fun ds vs hz h => ?_⟩
      · cases h with
        | non => rfl
        | bl => rfl
        | int => rfl
        | str => rfl
        | lst _ ha =>
          simp only [PyData.hasDict]
          exact ih.2 _ _ (by simp at hz; omega) ha
        | tup _ ha =>
          simp only [PyData.hasDict]
          exact ih.2 _ _ (by simp at hz; omega) ha
      · cases h with
        | nil => rfl
        | cons h1 h2 =>
          simp only [PyData.hasDictAll]
          rw [ih.1 _ _ (by simp at hz; omega) h1, ih.2 _ _ (by simp at hz; omega) h2]
          rfl
  exact ⟨fun d v => (one (sizeOf d + 1)).1 d v (Nat.lt_succ_self _), fun ds vs => (one (sizeOf ds + 1)).2 ds vs (Nat.lt_succ_self _)⟩

theorem call_repr {X : Cx} (hg : X.A.guards = some []) (hu : X.A.units + 64 < cLine) : CallR X (.builtin "repr") (rRepr X.K) := by
  intro pins s σ H xs us Q I r h
  obtain ⟨v, d, rfl, hd, hs, hdep, hz, q⟩ := h
  obtain ⟨u, rfl, rv⟩ := vals1 r
  have keep : ∀ (h' : Heap) (t' : Nat), (∀ b o, s.heap.get? b = some o → h'.get? b = some o) → Inv X pins σ H { s with heap := h', toks := t' } :=
    fun h' t' k => I.kept (t' := t') k
  have nd := (dp_noDict X.K H).1 d v hd
  obtain ⟨as, rd⟩ := Dp.reads I d v u hd rv
  cases hd with
  | non =>
    cases rv
    exact PySem.P.repr_of_none ⟨.str _, H, I.tok _, ⟨_, rfl⟩, q⟩
  | bl b =>
    cases rv
    refine PySem.P.repr_of_bool ⟨.str _, H, I.tok _, ⟨_, rfl⟩, ?_⟩
    exact q
  | int i =>
    obtain ⟨t, rfl⟩ := rv
    exact PySem.P.repr_of_int (by simpa [PyData.showable] using hs) ⟨.str _, H, I.tok _, ⟨_, rfl⟩, q⟩
  | str x =>
    obtain ⟨t, rfl⟩ := rv
    exact PySem.P.repr_of_str ⟨.str _, H, I.tok _, ⟨_, rfl⟩, q⟩ hz
  | lst _ _ =>
    cases rv
    exact repr_of_reads' rd hs (fun e => by rw [nd] at e; cases e) hg (by omega) (fun _ _ e => e) (fun h' w tk k => ⟨.str _, H, keep h' tk k, ⟨_, rfl⟩, q⟩) hz
  | tup _ _ =>
    cases rv
    exact repr_of_reads' rd hs (fun e => by rw [nd] at e; cases e) hg (by omega) (fun _ _ e => e) (fun h' w tk k => ⟨.str _, H, keep h' tk k, ⟨_, rfl⟩, q⟩) hz

def rLen (K : PySem.W.Frag) : List V → Hp → VK → Prop := fun xs H Q =>
  ∃ p ys, xs = [.ref p] ∧ (SqL K H p ys ∨ SqT K H p ys) ∧ Q (.int ys.length) H
theorem call_len {X : Cx} : CallR X (.builtin "len") (rLen X.K) := call_len_seq
def rListOf (K : PySem.W.Frag) : List V → Hp → VK → Prop := fun xs H Q =>
  ∃ p ys, xs = [.ref p] ∧ (SqL K H p ys ∨ SqT K H p ys) ∧ ∀ l, H l = none → Q (.ref l) (upd H l (.lst ys))
theorem call_listOf {X : Cx} : CallR X (.type "list") (rListOf X.K) := call_list_of

/-- a def's promise, asked only where guards are empty -/
structure FnG (P : Program) (w : World) (K : PySem.W.Frag) (mg : Str → Option Value) (base : Heap) (CX : CXT)
    (k : Nat) (f : Addr) (fd : FuncData) (ps : List Str) (sp : Sp) : Prop where
  arity : ∀ as H Q E, sp as H Q E → as.length = ps.length
  go : ∀ (A : Around) (outer : List Env) (s : Shared) (H : Hp) (args : Args) (us : List Value) (as : List V) (Q : VK) (E : XK),
    A.guards = some [] → Room k A → Env0 P w K mg base A outer s H → BindsTo s fd args (ps.zip us) → Vals as us → sp as H Q E →
      codeAny (model P w) A (.call (.ref f) args) (CR CX outer P w H s Q E) s

section
variable {P : Program} {w : World} {K : PySem.W.Frag} {mg : Str → Option Value} {base : Heap} {CX : CXT}
theorem FnG.of {k : Nat} {f : Addr} {fd : FuncData} {ps : List Str} {sp : Sp} (F : FnOk P w K mg base CX k f fd ps sp) :
    FnG P w K mg base CX k f fd ps sp :=
  ⟨F.len, fun A outer s H args us as Q E _ => F.run A outer s H args us as Q E⟩

/-- a def by its body -/
theorem okG {x qual : Str} {st : Stmt} {f : Addr} {fd : FuncData} {N ps : List Str} {k : Nat} {sp : Sp}
    (F : Fun K x qual st f fd) (S : FnScope N ps (defScope st)) (len : ∀ as H Q E, sp as H Q E → as.length = ps.length)
    (body : ∀ (cdv : Value) (A : Around) (outer : List Env) (s : Shared) (H : Hp) (as : List V) (Q : VK) (E : XK),
      (A.deeper (envOfC qual (defScope st) s.heap.objs.size f cdv)).guards = some [] →
      Room k (A.deeper (envOfC qual (defScope st) s.heap.objs.size f cdv)) → sp as H Q E →
      ∃ t, PSs (cxOf CX P w K mg base N qual (defScope st) f cdv A outer s H E) (defBody st) t ∧
        t { nx := fun _ H' => Q .non H', rt := Q } (start N as) H) :
    FnG P w K mg base CX (k + 1) f fd ps sp := by
  obtain ⟨oc, od, kV, doc, pm, an, cdv, ct, osl, rfl, lk, hcd⟩ := F.ex
  refine ⟨len, fun A outer s H args us as Q E hA hr e0 hb r hsp => ?_⟩
  have hl := len _ _ _ _ hsp
  have KX : K.In s.heap := e0.mod.kin.keeps fun b o e => (e0.bs b o e).1
  have lim : s.heap.NoLimit := e0.mod.nolimit.keeps fun b o e => (e0.bs b o e).1
  have kinds : ∀ y ∈ ps.zip us, (defScope st).names.lookup y.1 = some .local ∨
      ((defScope st).names.lookup y.1 = some .cell ∧ ((cellsFrom (s.heap.objs.size + 1) (defScope st).names []).lookup y.1).isSome = true) := by
    rintro ⟨n, v⟩ hy
    rcases S.par n (List.of_mem_zip hy).1 with q | q
    · exact .inl q
    · exact .inr ⟨q, PySem.W.cellsFrom_some _ _ _ (.inl q)⟩
  refine codeAny_call_function hr.depth (KX _ _ lk) rfl S.co S.gen rfl (PySem.W.codeRec_of KX hcd) (hb _ _ _ _ ?_)
  refine wpAny_newFunctionEnv_cells S.kind kinds fun env he s1 z => ?_
  subst he
  refine ⟨lim.keeps z.toInCall.keep, codeAny_func ?_⟩
  obtain ⟨t, ht, hq⟩ := body cdv A outer s H as Q E hA (hr.deeper _) hsp
  have I0 : Inv (cxOf CX P w K mg base N qual (defScope st) f cdv A outer s H E) [] (start N as) H s1 :=
    inv_start S hr.hd e0 hl r z
  refine wpAny_mono (ht.run [] s1 (start N as) H _ I0 hq) ?_ fun e s' hs => hs
  intro fl s' hs
  have done : ∀ (σ' : L2.St) (H' : Hp) (v : V) (u : Value), Inv (cxOf CX P w K mg base N qual (defScope st) f cdv A outer s H E) [] σ' H' s' →
      RelV v u → Q v H' → CE outer P w H s Q u s' := fun σ' H' v u J rv q => ⟨v, H', J.os, J.bare, J.base, J.hok, rv, q⟩
  cases fl with
  | ret u =>
    obtain ⟨v, σ', H', J, rv, q⟩ := hs
    exact done σ' H' v u J rv q
  | next =>
    obtain ⟨σ', H', J, q⟩ := hs
    exact done σ' H' V.non Value.none J rfl q
  | brk => exact hs.elim fun _ h => h.elim fun _ h => False.elim h.2
  | cont => exact hs.elim fun _ h => h.elim fun _ h => False.elim h.2
end

section
variable {P : Program} {w : World} {K : PySem.W.Frag} {mg : Str → Option Value} {base : Heap}
/-- .. that lets nothing out -/
theorem okG0 {x qual : Str} {st : Stmt} {f : Addr} {fd : FuncData} {N ps : List Str} {k : Nat} {sp : Sp}
    (F : Fun K x qual st f fd) (S : FnScope N ps (defScope st)) (len : ∀ as H Q E, sp as H Q E → as.length = ps.length)
    (body : ∀ (cdv : Value) (A : Around) (outer : List Env) (s : Shared) (H : Hp) (as : List V) (Q : VK) (E : XK),
      (A.deeper (envOfC qual (defScope st) s.heap.objs.size f cdv)).guards = some [] →
      Room k (A.deeper (envOfC qual (defScope st) s.heap.objs.size f cdv)) → sp as H Q E →
      ∃ t, PSs (cxOf CX0 P w K mg base N qual (defScope st) f cdv A outer s H E).nox (defBody st) t ∧
        t { nx := fun _ H' => Q .non H', rt := Q } (start N as) H) :
    FnG P w K mg base CX0 (k + 1) f fd ps sp :=
  okG F S len fun cdv A outer s H as Q E hA hr h =>
    let ⟨t, h1, h2⟩ := body cdv A outer s H as Q E hA hr h
    ⟨t, h1.nox, h2⟩
end

section
variable {X : Cx} {CX : CXT} {k : Nat} {f : Addr} {fd : FuncData} {ps : List Str} {sp : Sp} {E : XK} {x : Str} {p pos : Pos} {e : Expr} {es : List Expr} {t : TA}
theorem runG {pins : List (Addr × Obj)} {σ : L2.St} {H : Hp} {s : Shared} {Q : VK} {us : List Value} {as : List V}
    (F : FnG X.prog X.w X.K X.mg X.base CX k f fd ps sp) (hA : X.A.guards = some []) (hr : Room k X.A) (hb : Binds X.K fd ps [])
    (hx : Passes CX X E) (I : Inv X pins σ H s) (r : Vals as us) (h : sp as H Q E) :
    wpAny (model X.prog X.w) X.A (call (.ref f) us) (EP X pins σ Q) X.xe s := by
  have hn : us.length = ps.length := r.length.symm.trans (F.arity _ _ _ _ h)
  have bind := hb s us I.kIn (by rw [List.append_nil]; exact hn)
  rw [List.append_nil] at bind
  refine wpAny_call (codeAny_mono (F.go X.A X.stack s H ⟨us, []⟩ us as Q E hA hr I.env0 bind r h) ?_)
  intro res s' hq
  match res, hq with
  | .error e, hq => exact hx pins σ H s e s' I hq
  | .ok (.ret u), hq => exact I.after hq
  | .ok .next, hq => exact False.elim hq
  | .ok .brk, hq => exact False.elim hq
  | .ok .cont, hq => exact False.elim hq
/-- f(e, ..) -/
theorem pe_callG (F : FnG X.prog X.w X.K X.mg X.base CX k f fd ps sp) (hA : X.A.guards = some []) (hr : Room k X.A) (hg : Gl X x)
    (hm : X.mg x = some (.ref f)) (hk : PySem.W.keepIn X.K (.ref f) = true) (hb : Binds X.K fd ps []) (hx : Passes CX X E) (ha : PA X (e :: es) t)
    (hdb : (x == ("__debug__" : Str)) = false := by decide) (he : starEach (e :: es) X.env = (false, eval e X.env) :: starEach es X.env := by rfl)
    (hpl : (backTo pos (starEach es X.env)).any (·.1) = false := by rfl) :
    PE X (.Call (.Name x p) (e :: es) [] pos) (tCall sp [] E t) := by
  constructor
  intro pins s σ H Q I h
  refine wpAny_Call_Name_kw (ld_glob I hg hm ?_ hdb)
  have args := ha.run pos pins s σ H _ I h
  refine PySem.W.callWith_K (h₀ := X.base) I.ok.mod.kin hk (thn args ?_) he hpl
  rintro us s1 ⟨as, H1, I1, r, q⟩
  rw [List.append_nil] at q
  exact ⟨I1.kIn, runG F hA hr hb hx I1 r q⟩
theorem pe_callG0 (F : FnG X.prog X.w X.K X.mg X.base CX k f fd ps sp) (hA : X.A.guards = some []) (hr : Room k X.A) (hg : Gl X x)
    (hm : X.mg x = some (.ref f)) (hk : PySem.W.keepIn X.K (.ref f) = true) (hb : Binds X.K fd ps []) (hx : Passes CX X E)
    (hdb : (x == ("__debug__" : Str)) = false := by decide) : PE X (.Call (.Name x p) [] [] pos) (tCall sp [] E tNil) := by
  constructor
  intro pins s σ H Q I h
  refine wpAny_Call_Name_kw (ld_glob I hg hm ?_ hdb)
  exact PySem.W.callWith_K0 I.kIn hk (runG (us := []) (as := []) F hA hr hb hx I .nil h)
end

/-- a statement, then the rest, joined by a word: the rest is read once -/
def tJoin (t u : TS) : TS := fun D σ H => ∃ M : L2.St → Hp → Prop, t { D with nx := M } σ H ∧ ∀ σ' H', M σ' H' → u D σ' H'
theorem pss_join {X : Cx} {st : Stmt} {more : List Stmt} {t u : TS} (h1 : PS X st t) (h2 : PSs X more u) : PSs X (st :: more) (tJoin t u) := by
  constructor
  intro pins s σ H D I h
  obtain ⟨M, hm, hu⟩ := h
  refine wpAny_execs_cons (thn (h1.run pins s σ H _ I hm) ?_)
  intro fl s1 q
  match fl, q with
  | .next, ⟨σ', H', I', q⟩ => exact h2.run pins s1 σ' H' D I' (hu σ' H' q)
  | .ret v, q => exact q
  | .brk, q => exact q
  | .cont, q => exact q
/-- f(k = v, ..), keywords alone -/
def tKw (m : Nat) (sp : Sp) (gV : List V → List V → List V) (E : XK) (tk : TA) : TE := fun σ H Q => tk σ H fun zs H2 => zs.length = m ∧ sp (gV [] zs) H2 Q E
theorem pe_callK0 {X : Cx} {CX : CXT} {k : Nat} {f : Addr} {fd : FuncData} {ps ks : List Str} {sp : Sp} {E : XK} {x : Str} {p pos : Pos} {kws : List Keyword} {tk : TA}
    {g : List Value → List Value → List Value} {gV : List V → List V → List V}
    (F : FnOk X.prog X.w X.K X.mg X.base CX k f fd ps sp) (hr : Room k X.A) (hg : Gl X x) (hm : X.mg x = some (.ref f)) (hk : PySem.W.keepIn X.K (.ref f) = true)
    (hb : KBn X.K fd ps 0 ks g gV) (hx : Passes CX X E) (hkw : PK X kws tk) (hall : (backToKw pos (keywordEach kws X.env)).all (·.1.isSome) = true := by rfl)
    (hks : (backToKw pos (keywordEach kws X.env)).filterMap (·.1) = ks := by rfl) (hdb : (x == ("__debug__" : Str)) = false := by decide)
    (hpl : ((backTo pos (starEach [] X.env)).any (·.1) || (backToKw pos (keywordEach kws X.env)).any (·.1.isNone)) = false := by rfl) :
    PE X (.Call (.Name x p) [] kws pos) (tKw ks.length sp gV E tk) := by
  constructor
  intro pins s σ H Q I h
  refine wpAny_Call_Name_kw (ld_glob I hg hm ?_ hdb)
  refine PySem.W.callWith_KW0 (h₀ := X.base) I.ok.mod.kin hk hall ?_ hpl
  refine thn (hkw.run pos pins s σ H _ I h) ?_
  rintro ws s2 ⟨zs, H2, I2, rz, len, q⟩
  refine ⟨I2.kIn, ?_⟩
  rw [hks]
  have rel := hb.rel (vs := []) (us := []) .nil rz
  have bind := hb.to s2 [] ws I2.kIn rfl (rz.length.symm.trans len)
  refine wpAny_call (codeAny_mono (F.run X.A X.stack s2 H2 ⟨[], ks.zip ws⟩ _ _ Q E hr I2.env0 bind rel q) ?_)
  intro res s' hq
  match res, hq with
  | .error e, hq => exact hx pins σ H2 s2 e s' I2 hq
  | .ok (.ret u), hq => exact I2.after hq
  | .ok .next, hq => exact False.elim hq
  | .ok .brk, hq => exact False.elim hq
  | .ok .cont, hq => exact False.elim hq
/-- how keywords bind for a def without defaults -/
theorem kb_of {K : PySem.W.Frag} {x qual : Str} {st : Stmt} {f : Addr} {fd : FuncData} {ps ks : List Str} {n : Nat} (F : Fun K x qual st f fd)
    (g : {α : Type} → List α → List α → List α) (rel : ∀ {vs zs : List V} {us ws : List Value}, Vals vs us → Vals zs ws → Vals (g vs zs) (g us ws))
    (h : ∀ (kV doc pm : Value) (an : Option Addr) (cdv ct : Value) (us ws : List Value), us.length = n → ws.length = ks.length →
      bindArgs (PySem.W.fnOf x qual (defArgs st) (defBody st) (defScope st) .none kV doc pm an cdv ct) ⟨us, ks.zip ws⟩ = pure (ps.zip (g us ws))) :
    KBn K fd ps n ks (fun us ws => g us ws) (fun vs zs => g vs zs) := by
  obtain ⟨oc, od, kV, doc, pm, an, cdv, ct, osl, rfl, lk, hcd⟩ := F.ex
  exact ⟨fun s us ws _ h1 h2 => .of_eq (h kV doc pm an cdv ct us ws h1 h2), fun a b => rel a b⟩

/-- a law's call: the script is all that may be tracked -/
theorem lawG {P : Program} {w : World} {K : PySem.W.Frag} {mg mb : Str → Option Value} {CX : CXT} {k : Nat} {fa a : Addr} {fd : FuncData} {x : Str}
    {sp : Sp} {s1 : Shared} {vs : List Value} {ns : List Int} (KX : K.In s1.heap) (hns : s1.heap.Ns mainGlobals mg) (hb : s1.heap.Ns builtinsNs mb)
    (hbb : ∀ y : Str, y ≠ "__name__" → mb y = bootBuiltins y) (hlim : s1.heap.NoLimit) (hg : s1.gens = #[])
    (ha : s1.heap.get? a = some { cls := .type "list", data := .seq vs.toArray }) (hi : IntsAre vs ns) (hl : ns.length ≤ sizeLine) (hr : Room k callerA)
    (F : ∀ base : Heap, K.In base → base.Ns mainGlobals mg → FnG P w K mg base CX k fa fd [x] sp)
    (hbind : ∀ (s : Shared) (u : Value), BindsTo s fd ⟨[u], []⟩ [(x, u)])
    (hsp : ∀ H : Hp, Only H → SqL K H a (ns.map V.int) → sp [.ref a] H (fun v _ => v = .bl true) fun _ _ _ => False)
    (hCX : ∀ H e s', CX [] H s1 (fun _ _ _ => False) e s' → False) :
    codeAny (model P w) callerA (.call (.ref fa) ⟨[.ref a], []⟩)
      (fun r s' => r = .ok (.ret (.bool true)) ∧ OldK s1.heap s'.heap ∧ s'.os = s1.os ∧ AllBare s'.gens) s1 := by
  have inner : ∀ H : Hp, Only H → SqL K H a (ns.map V.int) → HOk P w H s1.heap → (∀ b, H b ≠ none → b = a) → (H a ≠ none → K.lookup a = none) →
      codeAny (model P w) callerA (.call (.ref fa) ⟨[.ref a], []⟩)
        (fun r s' => r = .ok (.ret (.bool true)) ∧ OldK s1.heap s'.heap ∧ s'.os = s1.os ∧ AllBare s'.gens) s1 := by
    intro H hO hS hok only noK
    have nodict : ∀ {b : Addr} {o : Obj} {es : Array DictEntry} {ep : Nat}, s1.heap.get? b = some o → o.data = .dict es ep → H b = none := by
      intro b o es ep e d
      by_cases q : H b = none
      · exact q
      · have eb := only b q
        subst eb
        rw [ha] at e
        cases e
        cases d
    have names : ∀ {b : Addr} {m : Str → Option Value}, s1.heap.Ns b m → (hidT s1.heap H).Ns b m := by
      rintro b m ⟨o, es, ep, e, d, r⟩
      exact ⟨o, es, ep, hidT_get e (nodict e d), d, r⟩
    have kin : K.In (hidT s1.heap H) := by
      intro b o e
      refine hidT_get (KX b o e) ?_
      by_cases q : H b = none
      · exact q
      · have eb := only b q
        subst eb
        rw [noK q] at e
        cases e
    have modul : Mod K mg (hidT s1.heap H) := by
      obtain ⟨mc, l1, l2⟩ := hlim
      exact ⟨kin, names hns, ⟨mb, names hb, hbb⟩, ⟨mc, names l1, l2⟩⟩
    have nil : ∀ b : Addr, ¬ b ∈ ([] : List Addr) := fun b z => by cases z
    have env : Env0 P w K mg (hidT s1.heap H) callerA [] s1 H :=
      ⟨rfl, modul, fun b o e => of_hidT e, Nat.le_of_eq (hidT_size _ _), trivial, fun b z => absurd z (nil b), hok, .of_eq hg⟩
    have ran := (F _ kin (names hns)).go callerA [] s1 H ⟨[.ref a], []⟩ [.ref a] [.ref a] _ _ rfl hr env (hbind s1 (.ref a)) (.cons rfl .nil) (hsp H hO hS)
    refine codeAny_mono ran ?_
    intro res s' h
    match res, h with
    | .error e, h => exact (hCX H e s' h).elim
    | .ok .next, h => exact False.elim h
    | .ok .brk, h => exact False.elim h
    | .ok .cont, h => exact False.elim h
    | .ok (.ret u), h =>
      obtain ⟨v, H', os, bare, un, hok', rv, rfl⟩ := h
      obtain rfl : u = Value.bool true := rv
      refine ⟨rfl, OldK.of_keep fun b o e => ?_, os, bare⟩
      rcases hO b with z | ⟨ob, xs, z⟩
      · exact un.keep b o e z (nil b) (nil b)
      · obtain ⟨e1, _⟩ := hok b _ z
        obtain ⟨e2, _⟩ := hok' b _ (un.frzs b ob _ z)
        rw [e] at e1
        cases e1
        exact e2
  have rv := vals_ints hi
  have len := hi.length
  cases hk : K.lookup a with
  | some o =>
    have e := KX a o hk
    rw [ha] at e
    cases e
    have seen : SqL K (fun _ => none) a (ns.map V.int) :=
      .inr ⟨_, vs.toArray, _, hk, rfl, rfl, rfl, by rw [List.size_toArray, len]; exact hl, by simpa using rv⟩
    exact inner (fun _ => none) (fun _ => .inl rfl) seen (fun b u z => by cases z) (fun b z => absurd rfl z) fun z => absurd rfl z
  | none =>
    have at_a : (if a = a then some (HO.frz { cls := .type "list", data := .seq vs.toArray } (.lst (ns.map V.int))) else none) = some (HO.frz { cls := .type "list", data := .seq vs.toArray } (.lst (ns.map V.int))) := if_pos rfl
    refine inner (fun b => if b = a then some (.frz { cls := .type "list", data := .seq vs.toArray } (.lst (ns.map V.int))) else none) ?_ (.inl (.inr ⟨_, at_a⟩)) ?_ ?_ fun _ => hk
    · intro b
      by_cases hb : b = a
      · exact .inr ⟨_, _, if_pos hb⟩
      · exact .inl (if_neg hb)
    · intro b u z
      have z' : (if b = a then some (HO.frz { cls := .type "list", data := .seq vs.toArray } (.lst (ns.map V.int))) else none) = some u := z
      by_cases hb : b = a
      · rw [if_pos hb] at z'
        cases z'
        subst hb
        exact ⟨ha, by rw [List.length_map]; exact hl, vs, _, rv, ha⟩
      · rw [if_neg hb] at z'
        cases z'
    · intro b z
      by_cases hb : b = a
      · exact hb
      · exact absurd (if_neg hb) z

theorem walkG {l : PySem.W.OpenLaw} {n k : Nat} {q : Program} {loose : List Str} {XP : (Str → Option Value) → Heap → Prop} {YP : World → Heap → Prop}
    {d : DefRec} {K : Params → PySem.W.Frag} {CX : World → CXT} {sp : World → Sp} {x : Str}
    (hn : l.most = some n) (hn2 : n ≤ sizeLine) (hdf : d.params.defaults = []) (hr : Room k callerA) (hY : ∀ (w : World) (h : Heap), YP w h → (K w.params).In h)
    (F : ∀ (w : World) (mg : Str → Option Value) (fa : Addr) (h : Heap), (K w.params).In h → h.Ns mainGlobals mg → mg d.name = some (.ref fa) →
      ∃ fd : FuncData, (∀ (s : Shared) (u : Value), BindsTo s fd ⟨[u], []⟩ [(x, u)]) ∧ ∀ base : Heap, (K w.params).In base → base.Ns mainGlobals mg →
        FnG l.prog w (K w.params) mg base (CX w) k fa fd [x] (sp w))
    (hsp : ∀ (w : World) (H : Hp) (a : Addr) (ns : List Int), ns.length ≤ n → Only H → SqL (K w.params) H a (ns.map V.int) →
      sp w [.ref a] H (fun v _ => v = .bl true) fun _ _ _ => False)
    (hCX : ∀ (w : World) (H : Hp) (s : Shared) (e : Value) (s' : Shared), CX w [] H s (fun _ _ _ => False) e s' → False) :
    PySem.W.WalkO q loose XP YP l.row.toRowW d [] (fun f vs => PySem.call f vs) := by
  refine Att.attach_call hn hdf ?_
  intro w s0 s1 mg mb fa o pm cd doc a vs ns G Y ho hd hcd hmg hobj hints hlen hg
  obtain ⟨fd, hb, hF⟩ := F w mg fa _ (hY w _ Y) G.T.g hmg
  exact lawG (hY w _ Y) G.T.g G.T.b G.T.builtins G.T.nolimit hg hobj hints (Nat.le_trans hlen hn2) hr hF hb
    (fun H hO hS => hsp w H a ns hlen hO hS) fun H e s' => hCX w H s1 e s'
end VG

/-! Curves as they are written: values, a period, a gain; plain Lean. -/
namespace VM
/-- the value at t of the curve written so -/
def cvAt (vs : List Int) (p g t : Int) : Int :=
  if t = 0 then 0 else if t ≤ (vs.length : Int) then vs.getD (t - 1).toNat 0 else
    vs.getD (t - (t - vs.length + p - 1) / p * p - 1).toNat 0 + (t - vs.length + p - 1) / p * g

theorem cvAt_zero {vs : List Int} {p g : Int} : cvAt vs p g 0 = 0 := by simp [cvAt]
theorem cvAt_in {vs : List Int} {p g t : Int} (h : 0 < t) (h1 : t ≤ vs.length) : cvAt vs p g t = vs.getD (t - 1).toNat 0 := by
  unfold cvAt
  rw [if_neg (by omega), if_pos h1]

/-- the rounds: between them t lies in the last period -/
theorem rounds_spec {n p t : Int} (hp : 0 < p) (ht : n < t) :
    0 < (t - n + p - 1) / p ∧ n - p < t - (t - n + p - 1) / p * p ∧ t - (t - n + p - 1) / p * p ≤ n := by
  have e := Int.emod_add_mul_ediv (t - n + p - 1) p
  have l := Int.emod_nonneg (t - n + p - 1) (show p ≠ 0 by omega)
  have u := Int.emod_lt_of_pos (t - n + p - 1) hp
  have c : (t - n + p - 1) / p * p = p * ((t - n + p - 1) / p) := Int.mul_comm _ _
  have q1 : 1 ≤ (t - n + p - 1) / p := by
    have := (Int.le_ediv_iff_mul_le (c := p) hp (a := 1) (b := t - n + p - 1)).mpr (by omega)
    exact this
  exact ⟨by omega, by omega, by omega⟩
theorem rounds_step {n p t : Int} (hp : 0 < p) : (t - p - n + p - 1) / p = (t - n + p - 1) / p - 1 := by
  have : t - p - n + p - 1 = (t - n + p - 1) + (-1) * p := by omega
  rw [this, Int.add_mul_ediv_right _ _ (by omega)]
  omega
/-- behind the values: one period back, and the gain -/
theorem cvAt_back {vs : List Int} {p g t : Int} (hp : 0 < p) (hpn : p ≤ vs.length) (ht : (vs.length : Int) < t) : cvAt vs p g t = cvAt vs p g (t - p) + g := by
  obtain ⟨r1, r2, r3⟩ := rounds_spec hp ht
  have st := rounds_step (n := (vs.length : Int)) (p := p) (t := t) hp
  unfold cvAt
  rw [if_neg (by omega), if_neg (by omega), if_neg (show ¬ t - p = 0 by omega)]
  by_cases h : t - p ≤ (vs.length : Int)
  · rw [if_pos h]
    have r : (t - vs.length + p - 1) / p = 1 := by
      have a : (t - vs.length + p - 1) / p < 2 := Int.ediv_lt_of_lt_mul hp (by omega)
      omega
    rw [r, Int.one_mul, Int.one_mul]
  · rw [if_neg h, st]
    have e : t - p - ((t - vs.length + p - 1) / p - 1) * p - 1 = t - (t - vs.length + p - 1) / p * p - 1 := by
      rw [Int.sub_mul, Int.one_mul]; omega
    rw [e, Int.sub_mul, Int.one_mul]
    omega

/-- a function that repeats behind n: with period p and gain g -/
def Rep (f : Int → Int) (n p g : Int) : Prop := ∀ t, n < t → f t = f (t - p) + g
theorem Rep.cvAt {vs : List Int} {p g : Int} (hp : 0 < p) (hpn : p ≤ vs.length) : Rep (cvAt vs p g) vs.length p g := fun _ ht => cvAt_back hp hpn ht

/-- the steps over d, in one period behind n, are all the first one -/
def stepsEq (f : Int → Int) (n p d : Int) : Bool := (List.range p.toNat).all fun (i : Nat) => decide (f (n + 1 + i) - f (n + 1 + i - d) = f (n + 1) - f (n + 1 - d))
/-- the least period from d on that divides p, and its gain -/
def leastFrom (f : Int → Int) (n p : Int) : Nat → Int → Int × Int
  | 0, _ => (p, f (n + p) - f n)
  | k + 1, d => if p % d = 0 ∧ stepsEq f n p d = true then (d, f (n + 1) - f (n + 1 - d)) else leastFrom f n p k (d + 1)
def leastP (f : Int → Int) (n p : Int) : Int × Int := leastFrom f n p (p - 1).toNat 1
/-- how many values must be written -/
def shr (f : Int → Int) (d s : Int) : Nat → Nat
  | 0 => 0
  | m + 1 => if d < (m + 1 : Nat) ∧ f ((m + 1 : Nat) : Int) = f ((m + 1 : Nat) - d) + s then shr f d s m else m + 1
/-- f's values at 1 to m -/
def vals (f : Int → Int) (m : Nat) : List Int := (List.range m).map fun (i : Nat) => f (i + 1)
theorem vals_length {f : Int → Int} {m : Nat} : (vals f m).length = m := by simp [vals]
theorem vals_getD {f : Int → Int} {m i : Nat} (h : i < m) : (vals f m).getD i 0 = f (i + 1) := by
  unfold vals
  rw [List.getD_eq_getElem?_getD, List.getElem?_map, List.getElem?_range h]
  rfl

theorem stepsEq_at {f : Int → Int} {n p d : Int} (h : stepsEq f n p d = true) {t : Int} (h1 : n < t) (h2 : t ≤ n + p) : f t = f (t - d) + (f (n + 1) - f (n + 1 - d)) := by
  unfold stepsEq at h
  rw [List.all_eq_true] at h
  have := h (t - n - 1).toNat (List.mem_range.mpr (by omega))
  have e : n + 1 + ((t - n - 1).toNat : Int) = t := by omega
  rw [e] at this
  have := of_decide_eq_true this
  omega
/-- one round decides -/
theorem Rep.of_steps {f : Int → Int} {n p g d : Int} (R : Rep f n p g) (hd : 0 < d) (hdp : d ≤ p) (h : stepsEq f n p d = true) : Rep f n d (f (n + 1) - f (n + 1 - d)) := by
  have key : ∀ (k : Nat) (t : Int), n < t → t ≤ n + k → f t = f (t - d) + (f (n + 1) - f (n + 1 - d)) := by
    intro k
    induction k with
    | zero => intro t h1 h2; omega
    | succ k ih =>
      intro t h1 h2
      by_cases c : t ≤ n + p
      · exact stepsEq_at h h1 c
      · have a := R t h1
        have b := R (t - d) (by omega)
        have e := ih (t - p) (by omega) (by omega)
        have z : t - d - p = t - p - d := by omega
        rw [z] at b
        omega
  intro t ht
  exact key (t - n).toNat t ht (by omega)
theorem leastFrom_spec {f : Int → Int} {n p g : Int} (R : Rep f n p g) (hp : 0 < p) : ∀ (k : Nat) (d : Int), 0 < d → d + k = p →
    0 < (leastFrom f n p k d).1 ∧ (leastFrom f n p k d).1 ≤ p ∧ Rep f n (leastFrom f n p k d).1 (leastFrom f n p k d).2
  | 0, d, hd, e => by
    unfold leastFrom
    refine ⟨hp, Int.le_refl _, fun t ht => ?_⟩
    have a := R (n + p) (by omega)
    have z : n + p - p = n := by omega
    rw [z] at a
    have b := R t ht
    show f t = f (t - p) + (f (n + p) - f n)
    omega
  | k + 1, d, hd, e => by
    unfold leastFrom
    by_cases c : p % d = 0 ∧ stepsEq f n p d = true
    · rw [if_pos c]
      exact ⟨hd, by show d ≤ p; omega, R.of_steps hd (by omega) c.2⟩
    · rw [if_neg c]
      exact leastFrom_spec R hp k (d + 1) (by omega) (by omega)
theorem leastP_spec {f : Int → Int} {n p g : Int} (R : Rep f n p g) (hp : 0 < p) : 0 < (leastP f n p).1 ∧ (leastP f n p).1 ≤ p ∧ Rep f n (leastP f n p).1 (leastP f n p).2 :=
  leastFrom_spec R hp _ 1 (by omega) (by omega)
theorem shr_spec {f : Int → Int} {d s : Int} (hd : 0 < d) : ∀ (m : Nat), d ≤ m → Rep f m d s → d ≤ shr f d s m ∧ shr f d s m ≤ m ∧ Rep f (shr f d s m) d s
  | 0, h, _ => by omega
  | m + 1, h, R => by
    unfold shr
    by_cases c : d < (m + 1 : Nat) ∧ f ((m + 1 : Nat) : Int) = f ((m + 1 : Nat) - d) + s
    · rw [if_pos c]
      have R' : Rep f m d s := fun t ht => by
        by_cases e : t = ((m + 1 : Nat) : Int)
        · rw [e]; exact c.2
        · exact R t (by omega)
      obtain ⟨a, b, z⟩ := shr_spec hd m (by omega) R'
      exact ⟨a, by omega, z⟩
    · rw [if_neg c]
      exact ⟨h, Nat.le_refl _, R⟩
/-- what repeats behind m is the curve written by its first m values -/
theorem cvAt_vals {f : Int → Int} {m : Nat} {d s : Int} (hd : 0 < d) (hdm : d ≤ m) (h0 : f 0 = 0) (R : Rep f m d s) : ∀ t, 0 ≤ t → cvAt (vals f m) d s t = f t := by
  have key : ∀ (k : Nat) (t : Int), 0 ≤ t → t ≤ k → cvAt (vals f m) d s t = f t := by
    intro k
    induction k with
    | zero =>
      intro t h1 h2
      have : t = 0 := by omega
      rw [this, cvAt_zero, h0]
    | succ k ih =>
      intro t h1 h2
      by_cases z : t = 0
      · rw [z, cvAt_zero, h0]
      · by_cases c : t ≤ (m : Int)
        · rw [cvAt_in (by omega) (by rw [vals_length]; exact c), vals_getD (by omega)]
          congr 1; omega
        · rw [cvAt_back hd (by rw [vals_length]; exact hdm) (by rw [vals_length]; omega), R t (by omega), ih (t - d) (by omega) (by omega)]
  intro t ht
  exact key t.toNat t ht (by omega)
/-- the form: period, gain, values -/
def formP (vs : List Int) (p g : Int) : Int × Int := leastP (cvAt vs p g) vs.length p
def formM (vs : List Int) (p g : Int) : Nat := shr (cvAt vs p g) (formP vs p g).1 (formP vs p g).2 vs.length
def formV (vs : List Int) (p g : Int) : List Int := vals (cvAt vs p g) (formM vs p g)
theorem form_spec {vs : List Int} {p g : Int} (hp : 0 < p) (hpn : p ≤ vs.length) :
    0 < (formP vs p g).1 ∧ (formP vs p g).1 ≤ p ∧ (formP vs p g).1 ≤ (formV vs p g).length ∧ (formV vs p g).length ≤ vs.length ∧
      ∀ t, 0 ≤ t → cvAt (formV vs p g) (formP vs p g).1 (formP vs p g).2 t = cvAt vs p g t := by
  obtain ⟨a, b, R⟩ := leastP_spec (Rep.cvAt (g := g) hp hpn) hp
  obtain ⟨c, d, R'⟩ := shr_spec a vs.length (show (formP vs p g).1 ≤ _ from Int.le_trans b hpn) R
  refine ⟨a, b, ?_, ?_, ?_⟩
  · unfold formV; rw [vals_length]; exact c
  · unfold formV; rw [vals_length]; exact d
  · exact cvAt_vals a c cvAt_zero R'
end VM

/-! Records: sums of windows; plain Lean. -/
namespace VM
/-- the units ahead of tick i -/
def pre (us : List Int) (i : Int) : Int := (us.take i.toNat).sum
def win (us : List Int) (s k : Int) : Int := pre us (s + k) - pre us s
/-- the sum of a slice -/
theorem sum_cut (us : List Int) (s k : Nat) : ((us.drop s).take k).sum = win us s k := by
  unfold win pre
  have e : (((s : Int) + k).toNat) = s + k := by omega
  have e2 : ((s : Int).toNat) = s := by omega
  rw [e, e2, List.take_add, List.sum_append]
  omega
theorem pre_zero (us : List Int) : pre us 0 = 0 := by simp [pre]
theorem pre_all (us : List Int) : pre us us.length = us.sum := by
  unfold pre
  rw [show ((us.length : Nat) : Int).toNat = us.length by omega, List.take_length]
theorem pre_step {us : List Int} {i : Nat} (h : i < us.length) : pre us ((i : Int) + 1) = pre us i + us.getD i 0 := by
  unfold pre
  rw [show ((i : Int) + 1).toNat = i + 1 by omega, show ((i : Int)).toNat = i by omega, List.take_add_one, List.sum_append]
  rw [List.getD_eq_getElem?_getD, List.getElem?_eq_getElem h]
  simp
/-- the first i from a on, of k many, of which P -/
def firstN (p : Nat → Bool) : Nat → Nat → Option Nat
  | 0, _ => none
  | k + 1, i => if p i = true then some i else firstN p k (i + 1)
/-- windows by their length: the first with more than f allows -/
def brk (f : Int → Int) (us : List Int) : Nat → Nat → Option (Int × Int × Int)
  | 0, _ => none
  | k + 1, len => match firstN (fun s => decide (f len < win us s len)) (us.length + 1 - len) 0 with
    | some s => some (len, s, win us s len - f len)
    | none => brk f us k (len + 1)
def breachM (f : Int → Int) (us : List Int) : Option (Int × Int × Int) := brk f us us.length 1
theorem brk_congr {f g : Int → Int} {us : List Int} : ∀ (k len : Nat), (∀ t : Int, (len : Int) ≤ t → t < len + k → f t = g t) → brk f us k len = brk g us k len
  | 0, _, _ => rfl
  | k + 1, len, h => by
    unfold brk
    rw [h len (by omega) (by omega), brk_congr k (len + 1) fun t h1 h2 => h t (by omega) (by omega)]
theorem breachM_congr {f g : Int → Int} {us : List Int} (h : ∀ t : Int, 1 ≤ t → t ≤ us.length → f t = g t) : breachM f us = breachM g us :=
  brk_congr _ _ fun t h1 h2 => h t (by omega) (by omega)
def IsMax (l : List Int) (m : Int) : Prop := m ∈ l ∧ ∀ y ∈ l, y ≤ m
theorem IsMax.eq {l : List Int} {m n : Int} (a : IsMax l m) (b : IsMax l n) : m = n := by
  have h1 := a.2 n b.1
  have h2 := b.2 m a.1
  omega
end VM

/-! Records that enter as early as a curve allows; plain Lean. -/
namespace VM
theorem snoc_ind {P : List Int → Prop} (h0 : P []) (h1 : ∀ l x, P l → P (l ++ [x])) (l : List Int) : P l := by
  have a : ∀ r : List Int, P r.reverse := fun r => by
    induction r with
    | nil => exact h0
    | cons a r ih => rw [List.reverse_cons]; exact h1 _ _ ih
  have b := a l.reverse
  rwa [List.reverse_reverse] at b
/-- the last k units -/
def tl (us : List Int) (k : Nat) : Int := win us ((us.length : Int) - k) k
theorem tl_zero {us : List Int} : tl us 0 = 0 := by
  unfold tl win
  rw [show (us.length : Int) - ((0 : Nat) : Int) + ((0 : Nat) : Int) = (us.length : Int) - ((0 : Nat) : Int) by omega]
  omega
theorem pre_push {e : List Int} {x i : Int} (h : i ≤ e.length) : pre (e ++ [x]) i = pre e i := by
  unfold pre
  rw [List.take_append_of_le_length (by omega)]
theorem pre_last {e : List Int} {x i : Int} (h : i = (e.length : Int) + 1) : pre (e ++ [x]) i = pre e e.length + x := by
  unfold pre
  rw [List.take_of_length_le (by rw [List.length_append, List.length_singleton]; omega), List.take_of_length_le (by omega), List.sum_append]
  simp
theorem tl_push {e : List Int} {x : Int} {k : Nat} (h : k ≤ e.length) : tl (e ++ [x]) (k + 1) = tl e k + x := by
  unfold tl win
  rw [List.length_append, List.length_singleton, pre_last (by omega), pre_push (by omega)]
  rw [show ((e.length + 1 : Nat) : Int) - ((k + 1 : Nat) : Int) = (e.length : Int) - k by omega, show (e.length : Int) - (k : Int) + (k : Int) = e.length by omega]
  omega
/-- one tick further back -/
theorem tl_step {us : List Int} {k : Nat} (h : k < us.length) : tl us (k + 1) = tl us k + us.getD (us.length - 1 - k) 0 := by
  unfold tl win
  rw [show (us.length : Int) - ((k + 1 : Nat) : Int) + ((k + 1 : Nat) : Int) = us.length by omega, show (us.length : Int) - ((k : Nat) : Int) + ((k : Nat) : Int) = us.length by omega]
  have e := pre_step (us := us) (i := us.length - 1 - k) (by omega)
  rw [show ((us.length - 1 - k : Nat) : Int) + 1 = (us.length : Int) - (k : Nat) by omega] at e
  rw [show (us.length : Int) - ((k + 1 : Nat) : Int) = ((us.length - 1 - k : Nat) : Int) by omega]
  omega
/-- how many may enter behind us, as the windows up to k + 1 tell -/
def freeK (f : Int → Int) (us : List Int) : Nat → Int
  | 0 => f 1
  | k + 1 => min (freeK f us k) (f ((k : Int) + 2) - tl us (k + 1))
def freeM (f : Int → Int) (us : List Int) : Int := freeK f us us.length
theorem le_freeK {f : Int → Int} {us : List Int} {c : Int} : ∀ {n : Nat}, c ≤ freeK f us n ↔ ∀ k : Nat, k ≤ n → tl us k + c ≤ f ((k : Int) + 1)
  | 0 => by
    constructor
    · intro h k hk
      have : k = 0 := by omega
      subst this
      rw [tl_zero]
      have : c ≤ f 1 := h
      show 0 + c ≤ f 1
      omega
    · intro h
      have := h 0 (Nat.le_refl _)
      rw [tl_zero] at this
      have e : 0 + c ≤ f 1 := this
      show c ≤ f 1
      omega
  | n + 1 => by
    have ih := le_freeK (f := f) (us := us) (c := c) (n := n)
    constructor
    · intro h k hk
      unfold freeK at h
      by_cases z : k = n + 1
      · subst z
        rw [show ((n + 1 : Nat) : Int) + 1 = (n : Int) + 2 by omega]
        omega
      · exact ih.mp (by omega) k (by omega)
    · intro h
      have a := ih.mpr fun k hk => h k (by omega)
      have b := h (n + 1) (Nat.le_refl _)
      rw [show ((n + 1 : Nat) : Int) + 1 = (n : Int) + 2 by omega] at b
      unfold freeK
      omega
theorem le_free {f : Int → Int} {us : List Int} {c : Int} : c ≤ freeM f us ↔ ∀ k : Nat, k ≤ us.length → tl us k + c ≤ f ((k : Int) + 1) := le_freeK
/-- no window has too many -/
def Kept (f : Int → Int) (us : List Int) : Prop := ∀ s k : Nat, 1 ≤ k → s + k ≤ us.length → win us s k ≤ f k
theorem Kept.push {f : Int → Int} {e : List Int} {x : Int} (h : Kept f e) (hx : x ≤ freeM f e) : Kept f (e ++ [x]) := by
  intro s k h1 h2
  rw [List.length_append, List.length_singleton] at h2
  by_cases c : s + k ≤ e.length
  · have := h s k h1 c
    unfold win at this ⊢
    rw [pre_push (by omega), pre_push (by omega)]
    exact this
  · have a := le_free.mp hx (k - 1) (by omega)
    have b := tl_push (e := e) (x := x) (k := k - 1) (by omega)
    rw [show k - 1 + 1 = k by omega] at b
    unfold tl at b
    rw [List.length_append, List.length_singleton, show ((e.length + 1 : Nat) : Int) - (k : Int) = (s : Int) by omega] at b
    rw [show ((k - 1 : Nat) : Int) + 1 = (k : Int) by omega] at a
    rw [b]
    exact a
theorem Kept.front {f : Int → Int} {e : List Int} {x : Int} (h : Kept f (e ++ [x])) : Kept f e := by
  intro s k h1 h2
  have a := h s k h1 (by rw [List.length_append, List.length_singleton]; omega)
  unfold win at a ⊢
  rw [pre_push (by omega), pre_push (by omega)] at a
  exact a
theorem Kept.free {f : Int → Int} {e : List Int} {x : Int} (h : Kept f (e ++ [x])) : x ≤ freeM f e := by
  refine le_free.mpr fun k hk => ?_
  have a := h (e.length - k) (k + 1) (by omega) (by rw [List.length_append, List.length_singleton]; omega)
  have b := tl_push (e := e) (x := x) (k := k) hk
  unfold tl at b
  rw [List.length_append, List.length_singleton, show ((e.length + 1 : Nat) : Int) - ((k + 1 : Nat) : Int) = ((e.length - k : Nat) : Int) by omega] at b
  rw [b] at a
  have z : ((k + 1 : Nat) : Int) = (k : Int) + 1 := by omega
  rw [z] at a
  exact a
theorem Kept.nil {f : Int → Int} : Kept f [] := fun s k h1 h2 => by
  have : s + k ≤ 0 := h2
  omega
theorem firstN_none {p : Nat → Bool} : ∀ {k i : Nat}, firstN p k i = none ↔ ∀ j, i ≤ j → j < i + k → p j = false
  | 0, i => ⟨fun _ => fun j a b => absurd b (by omega), fun _ => rfl⟩
  | k + 1, i => by
    have ih := firstN_none (p := p) (k := k) (i := i + 1)
    unfold firstN
    by_cases c : p i = true
    · rw [if_pos c]
      refine ⟨fun h => (by cases h), fun h => ?_⟩
      rw [h i (Nat.le_refl _) (by omega)] at c
      cases c
    · rw [if_neg c, ih]
      refine ⟨fun h j a b => ?_, fun h j a b => h j (by omega) (by omega)⟩
      by_cases z : j = i
      · rw [z]; simpa using c
      · exact h j (by omega) (by omega)
theorem brk_none {f : Int → Int} {us : List Int} : ∀ {k len : Nat}, brk f us k len = none ↔ ∀ t : Nat, len ≤ t → t < len + k → ∀ s : Nat, s < us.length + 1 - t → win us s t ≤ f t
  | 0, len => ⟨fun _ => fun t a b => absurd b (by omega), fun _ => rfl⟩
  | k + 1, len => by
    have ih := brk_none (f := f) (us := us) (k := k) (len := len + 1)
    have fn := firstN_none (p := fun s => decide (f len < win us s len)) (k := us.length + 1 - len) (i := 0)
    unfold brk
    cases hh : firstN (fun s => decide (f len < win us s len)) (us.length + 1 - len) 0 with
    | some s =>
      refine ⟨fun h => (by cases h), fun h => ?_⟩
      have : firstN (fun s => decide (f len < win us s len)) (us.length + 1 - len) 0 = none := fn.mpr fun j _ b => by
        have := h len (Nat.le_refl _) (by omega) j (by omega)
        exact decide_eq_false (by omega)
      rw [hh] at this; cases this
    | none =>
      show brk f us k (len + 1) = none ↔ _
      rw [ih]
      refine ⟨fun h t a b s hs => ?_, fun h t a b s hs => h t (by omega) (by omega) s hs⟩
      by_cases z : t = len
      · subst z
        have := fn.mp hh s (Nat.zero_le _) (by omega)
        have := of_decide_eq_false this
        omega
      · exact h t (by omega) (by omega) s hs
theorem kept_iff {f : Int → Int} {us : List Int} : breachM f us = none ↔ Kept f us := by
  unfold breachM
  rw [brk_none]
  exact ⟨fun h s k h1 h2 => h k h1 (by omega) s (by omega), fun h t a b s hs => h s t a (by omega)⟩
/-! ### shaped -/
def shS (f : Int → Int) (st : List Int × Int) (u : Int) : List Int × Int := (st.1 ++ [min (st.2 + u) (freeM f st.1)], st.2 + u - min (st.2 + u) (freeM f st.1))
def shG (f : Int → Int) (us : List Int) : List Int × Int := us.foldl (shS f) ([], 0)
def shapedM (f : Int → Int) (us : List Int) : List Int := (shG f us).1
theorem shG_push {f : Int → Int} {us : List Int} {u : Int} : shG f (us ++ [u]) = shS f (shG f us) u := by
  unfold shG; rw [List.foldl_append]; rfl
theorem shG_take {f : Int → Int} {us : List Int} {i : Nat} (h : i < us.length) : shG f (us.take (i + 1)) = shS f (shG f (us.take i)) (us.getD i 0) := by
  rw [← shG_push, List.take_add_one, List.getElem?_eq_getElem h, List.getD_eq_getElem?_getD, List.getElem?_eq_getElem h]
  rfl
theorem shG_length {f : Int → Int} (us : List Int) : (shG f us).1.length = us.length := by
  refine snoc_ind (P := fun us => (shG f us).1.length = us.length) rfl (fun l x ih => ?_) us
  show (shG f (l ++ [x])).1.length = (l ++ [x]).length
  rw [shG_push]
  unfold shS
  rw [List.length_append, List.length_append, ih]
  rfl
theorem shaped_length {f : Int → Int} (us : List Int) : (shapedM f us).length = us.length := shG_length us
theorem shaped_kept {f : Int → Int} (us : List Int) : Kept f (shapedM f us) := by
  refine snoc_ind (P := fun us => Kept f (shapedM f us)) Kept.nil (fun l x ih => ?_) us
  show Kept f (shG f (l ++ [x])).1
  rw [shG_push]
  exact Kept.push ih (by show min _ _ ≤ _; unfold shapedM at *; omega)
theorem kept_shaped {f : Int → Int} {us : List Int} (h : Kept f us) : shG f us = (us, 0) := by
  revert h
  refine snoc_ind (P := fun us => Kept f us → shG f us = (us, 0)) (fun _ => rfl) (fun l x ih h => ?_) us
  have a := h.free
  rw [shG_push, ih h.front]
  unfold shS
  simp only
  rw [show min (0 + x) (freeM f l) = x by omega]
  congr 1
  omega
/-- rising values from 1 on -/
structure Up (f : Int → Int) : Prop where
  one : 0 ≤ f 1
  up : ∀ k : Nat, 1 ≤ k → f k ≤ f ((k : Int) + 1)
theorem Up.free {f : Int → Int} (U : Up f) {e : List Int} (h : Kept f e) : 0 ≤ freeM f e := by
  refine le_free.mpr fun k hk => ?_
  by_cases z : k = 0
  · subst z
    rw [tl_zero]
    have := U.one
    show 0 + 0 ≤ f 1
    omega
  · have a := h (e.length - k) k (by omega) (by omega)
    have b := U.up k (by omega)
    unfold tl
    rw [show (e.length : Int) - (k : Int) = ((e.length - k : Nat) : Int) by omega]
    omega
theorem sum_snoc {l : List Int} {x : Int} : (l ++ [x]).sum = l.sum + x := by rw [List.sum_append]; simp
/-- what entered and waits: counts, together what came -/
theorem shG_bound {f : Int → Int} (U : Up f) {us : List Int} (h : ∀ u ∈ us, 0 ≤ u) : 0 ≤ (shG f us).2 ∧ (shG f us).1.sum + (shG f us).2 = us.sum ∧ ∀ x ∈ (shG f us).1, 0 ≤ x ∧ x ≤ us.sum := by
  revert h
  refine snoc_ind (P := fun us => (∀ u ∈ us, 0 ≤ u) → 0 ≤ (shG f us).2 ∧ (shG f us).1.sum + (shG f us).2 = us.sum ∧ ∀ x ∈ (shG f us).1, 0 ≤ x ∧ x ≤ us.sum) (fun _ => ⟨Int.le_refl _, rfl, fun x hx => by cases hx⟩) (fun l u ih h => ?_) us
  have hu := h u (by simp)
  obtain ⟨a, b, c⟩ := ih fun y hy => h y (List.mem_append_left _ hy)
  have fr := U.free (shaped_kept (f := f) l)
  unfold shapedM at fr
  have ps : 0 ≤ (shG f l).1.sum := by
    have : ∀ r : List Int, (∀ x ∈ r, 0 ≤ x) → 0 ≤ r.sum := fun r => by
      induction r with
      | nil => intro _; decide
      | cons z r ih => intro q; rw [List.sum_cons]; have := q z List.mem_cons_self; have := ih fun y hy => q y (List.mem_cons_of_mem _ hy); omega
    exact this _ fun x hx => (c x hx).1
  rw [shG_push, sum_snoc]
  unfold shS
  simp only [sum_snoc]
  refine ⟨by omega, by omega, fun x hx => ?_⟩
  rcases List.mem_append.mp hx with q | q
  · have := c x q; omega
  · cases List.mem_singleton.mp q
    omega
theorem shaped_front {f : Int → Int} {us vs : List Int} : (shapedM f (us ++ vs)).take us.length = shapedM f us := by
  refine snoc_ind (P := fun vs => (shapedM f (us ++ vs)).take us.length = shapedM f us) ?_ (fun l x ih => ?_) vs
  · show (shapedM f (us ++ [])).take us.length = shapedM f us
    rw [List.append_nil, ← shaped_length (f := f) us, List.take_length]
  · show (shapedM f (us ++ (l ++ [x]))).take us.length = shapedM f us
    rw [← List.append_assoc]
    unfold shapedM at ih ⊢
    rw [shG_push]
    unfold shS
    rw [List.take_append_of_le_length (by rw [shG_length, List.length_append]; omega)]
    exact ih
theorem freeK_congr {f g : Int → Int} {e : List Int} : ∀ {n : Nat}, (∀ t : Int, 1 ≤ t → t ≤ (n : Int) + 1 → f t = g t) → freeK f e n = freeK g e n
  | 0, h => h 1 (by omega) (by omega)
  | n + 1, h => by
    unfold freeK
    rw [freeK_congr (n := n) fun t a b => h t a (by omega), h ((n : Int) + 2) (by omega) (by omega)]
theorem shG_congr {f g : Int → Int} {us : List Int} (h : ∀ t : Int, 1 ≤ t → t ≤ us.length → f t = g t) : shG f us = shG g us := by
  revert h
  refine snoc_ind (P := fun us => (∀ t : Int, 1 ≤ t → t ≤ us.length → f t = g t) → shG f us = shG g us) (fun _ => rfl) (fun l x ih h => ?_) us
  rw [List.length_append, List.length_singleton] at h
  rw [shG_push, shG_push, ih fun t a b => h t a (by omega)]
  unfold shS freeM
  rw [freeK_congr fun t a b => h t a (by rw [shG_length] at b; omega)]
/-- a curve that rises where it is written rises -/
theorem up_cv {vs : List Int} {p g : Int} (hp : 0 < p) (hpn : p ≤ vs.length) (h0 : 0 ≤ vs.getD 0 0) (up : ∀ i, i + 1 < vs.length → vs.getD i 0 ≤ vs.getD (i + 1) 0) (last : vs.getD (vs.length - 1) 0 ≤ vs.getD (vs.length - p.toNat) 0 + g) : Up (cvAt vs p g) := by
  refine ⟨by rw [cvAt_in (by decide) (by omega)]; exact h0, fun k => ?_⟩
  induction k using Nat.strongRecOn with
  | ind k ih =>
    intro h1
    by_cases c : k < vs.length
    · rw [cvAt_in (by omega) (by omega), cvAt_in (by omega) (by omega), show ((k : Int) - 1).toNat = k - 1 by omega, show ((k : Int) + 1 - 1).toNat = k - 1 + 1 by omega]
      exact up (k - 1) (by omega)
    · by_cases d : k = vs.length
      · rw [cvAt_back (t := (k : Int) + 1) hp hpn (by omega), cvAt_in (by omega) (by omega), cvAt_in (by omega) (by omega), show ((k : Int) - 1).toNat = vs.length - 1 by omega, show ((k : Int) + 1 - p - 1).toNat = vs.length - p.toNat by omega]
        exact last
      · rw [cvAt_back (t := (k : Int) + 1) hp hpn (by omega), cvAt_back (t := (k : Int)) hp hpn (by omega)]
        have := ih (k - p.toNat) (by omega) (by omega)
        rw [show ((k - p.toNat : Nat) : Int) = (k : Int) - p by omega] at this
        rw [show (k : Int) + 1 - p = (k : Int) - p + 1 by omega]
        omega
/-- no pair of lengths up to n shows a break -/
def goodB (f : Int → Int) (n : Nat) : Bool := (List.range n).all fun a => (List.range (a + 1)).all fun b => decide (f ((a : Int) + 1 + ((b : Int) + 1)) ≤ f ((a : Int) + 1) + f ((b : Int) + 1))
theorem good_at {f : Int → Int} {n : Nat} (h : goodB f n = true) {a b : Int} (h1 : 1 ≤ b) (h2 : b ≤ a) (h3 : a ≤ n) : f (a + b) ≤ f a + f b := by
  unfold goodB at h
  rw [List.all_eq_true] at h
  have x := h (a - 1).toNat (List.mem_range.mpr (by omega))
  rw [List.all_eq_true] at x
  have y := of_decide_eq_true (x (b - 1).toNat (List.mem_range.mpr (by omega)))
  rw [show (((a - 1).toNat : Nat) : Int) + 1 = a by omega, show (((b - 1).toNat : Nat) : Int) + 1 = b by omega] at y
  exact y
end VM

/-! shaped is the greatest; curves that are good at all lengths; greedy records; plain Lean. -/
namespace VM
/-- no unit of vs enters ahead of its coming in us -/
def Behind (us vs : List Int) : Prop := vs.length = us.length ∧ ∀ i : Nat, i ≤ us.length → pre vs i ≤ pre us i
theorem pre_take {us : List Int} {i : Nat} : pre us i = (us.take i).sum := by
  unfold pre; rw [Int.toNat_natCast]
theorem pre_len {us : List Int} {i : Int} (h : (us.length : Int) ≤ i) : pre us i = us.sum := by
  unfold pre; rw [List.take_of_length_le (by omega)]
theorem tl_pre {us : List Int} {k : Nat} (h : k ≤ us.length) : tl us k = us.sum - pre us ((us.length : Int) - k) := by
  unfold tl win
  rw [show (us.length : Int) - (k : Int) + (k : Int) = us.length by omega, pre_all]
/-- free is one of the windows -/
theorem freeK_some {f : Int → Int} {us : List Int} : ∀ n : Nat, ∃ k : Nat, k ≤ n ∧ freeK f us n = f ((k : Int) + 1) - tl us k
  | 0 => ⟨0, Nat.le_refl _, by rw [tl_zero]; show f 1 = f ((0 : Int) + 1) - 0; rw [Int.zero_add]; omega⟩
  | n + 1 => by
    obtain ⟨k, hk, e⟩ := freeK_some (f := f) (us := us) n
    unfold freeK
    by_cases c : freeK f us n ≤ f ((n : Int) + 2) - tl us (n + 1)
    · exact ⟨k, by omega, by omega⟩
    · refine ⟨n + 1, Nat.le_refl _, ?_⟩
      rw [show ((n + 1 : Nat) : Int) + 1 = (n : Int) + 2 by omega]
      omega
theorem shG_front {f : Int → Int} {us : List Int} {i : Nat} (h : i ≤ us.length) : (shG f (us.take i)).1 = (shapedM f us).take i := by
  have e : us.take i ++ us.drop i = us := List.take_append_drop i us
  have s := shaped_front (f := f) (us := us.take i) (vs := us.drop i)
  rw [e, List.length_take, Nat.min_eq_left h] at s
  exact s.symm
theorem shG_sum {f : Int → Int} (us : List Int) : (shG f us).1.sum + (shG f us).2 = us.sum := by
  refine snoc_ind (P := fun us => (shG f us).1.sum + (shG f us).2 = us.sum) rfl (fun l u ih => ?_) us
  show (shG f (l ++ [u])).1.sum + (shG f (l ++ [u])).2 = (l ++ [u]).sum
  rw [shG_push, sum_snoc]
  unfold shS
  simp only [sum_snoc]
  omega
/-- the units so far of the shaped record -/
theorem shaped_pre {f : Int → Int} {us : List Int} {i : Nat} (h : i ≤ us.length) : pre (shapedM f us) i = (shG f (us.take i)).1.sum := by
  rw [shG_front h, pre_take]
theorem shaped_greatest {f : Int → Int} {us vs : List Int} (B : Behind us vs) (K : Kept f vs) : ∀ i : Nat, i ≤ us.length → pre vs i ≤ pre (shapedM f us) i := by
  intro i
  induction i using Nat.strongRecOn with
  | ind i ih =>
    intro hi
    match i with
    | 0 => rw [show ((0 : Nat) : Int) = 0 from rfl, pre_zero, pre_zero]; exact Int.le_refl _
    | i + 1 =>
      have st := shG_take (f := f) (us := us) (i := i) (by omega)
      have sm := shG_sum (f := f) (us.take i)
      have p1 := shaped_pre (f := f) (us := us) (i := i + 1) hi
      have p0 := shaped_pre (f := f) (us := us) (i := i) (by omega)
      have lg : (shG f (us.take i)).1.length = i := by rw [shG_length, List.length_take]; omega
      rw [p1, st]
      have us1 := pre_step (us := us) (i := i) (by omega)
      have ut : (us.take i).sum = pre us i := pre_take.symm
      have bi := B.2 (i + 1) hi
      rw [show ((i + 1 : Nat) : Int) = (i : Int) + 1 by omega] at bi ⊢
      unfold shS
      simp only [sum_snoc]
      by_cases c : (shG f (us.take i)).2 + us.getD i 0 ≤ freeM f (shG f (us.take i)).1
      · omega
      · obtain ⟨k, hk, e⟩ := freeK_some (f := f) (us := (shG f (us.take i)).1) (shG f (us.take i)).1.length
        rw [lg] at hk
        have tp := tl_pre (us := (shG f (us.take i)).1) (k := k) (by omega)
        rw [lg] at tp
        have pk : pre (shG f (us.take i)).1 ((i : Int) - k) = pre (shapedM f us) ((i - k : Nat) : Int) := by
          rw [shG_front (by omega), show (i : Int) - (k : Int) = ((i - k : Nat) : Int) by omega, pre_take, pre_take, List.take_take, Nat.min_eq_left (by omega)]
        have q := ih (i - k) (by omega) (by omega)
        have w := K (i - k) (k + 1) (by omega) (by rw [B.1]; omega)
        unfold win at w
        rw [show ((i - k : Nat) : Int) + ((k + 1 : Nat) : Int) = (i : Int) + 1 by omega, show ((k + 1 : Nat) : Int) = (k : Int) + 1 by omega] at w
        have fm : freeM f (shG f (us.take i)).1 = f ((k : Int) + 1) - tl (shG f (us.take i)).1 k := e
        omega
/-- the shaped record is behind what comes -/
theorem shaped_behind {f : Int → Int} {us : List Int} (U : Up f) (h : ∀ u ∈ us, 0 ≤ u) : Behind us (shapedM f us) := by
  refine ⟨shaped_length us, fun i hi => ?_⟩
  have a := shG_bound (f := f) U (us := us.take i) fun u hu => h u (List.mem_of_mem_take hu)
  rw [shaped_pre hi, pre_take]
  omega
/-- good at the lengths of the form: good at all lengths -/
theorem good_all {f : Int → Int} {n p g : Int} (R : Rep f n p g) (hp : 0 < p) (hpn : p ≤ n) (h0 : f 0 = 0) (G : ∀ a b : Int, 1 ≤ b → b ≤ a → a ≤ n → f (a + b) ≤ f a + f b) : ∀ a b : Int, 0 ≤ a → 0 ≤ b → f (a + b) ≤ f a + f b := by
  have half : ∀ (k : Nat) (a b : Int), 0 ≤ b → b ≤ a → a + b = k → f (a + b) ≤ f a + f b := by
    intro k
    induction k using Nat.strongRecOn with
    | ind k ih =>
      intro a b hb hba e
      by_cases z : b = 0
      · subst z; rw [h0, Int.add_zero]; omega
      · by_cases c : a ≤ n
        · exact G a b (by omega) hba c
        · have r1 := R a (by omega)
          have r2 := R (a + b) (by omega)
          rw [show a + b - p = a - p + b by omega] at r2
          have : f (a - p + b) ≤ f (a - p) + f b := by
            by_cases d : b ≤ a - p
            · exact ih (a - p + b).toNat (by omega) (a - p) b hb d (by omega)
            · have := ih (a - p + b).toNat (by omega) b (a - p) (by omega) (by omega) (by omega)
              rw [show b + (a - p) = a - p + b by omega] at this
              omega
          omega
  intro a b ha hb
  by_cases c : b ≤ a
  · exact half (a + b).toNat a b hb c (by omega)
  · have := half (a + b).toNat b a ha (by omega) (by omega)
    rw [show b + a = a + b by omega] at this
    omega
/-- the greedy record of n ticks -/
def greedyM (f : Int → Int) (n : Nat) : List Int := (List.range n).map fun t : Nat => f ((t : Int) + 1) - f t
theorem greedy_length {f : Int → Int} {n : Nat} : (greedyM f n).length = n := by simp [greedyM]
theorem greedy_succ {f : Int → Int} {n : Nat} : greedyM f (n + 1) = greedyM f n ++ [f ((n : Int) + 1) - f n] := by
  unfold greedyM; rw [List.range_succ, List.map_append]; rfl
theorem greedy_sum {f : Int → Int} (h0 : f 0 = 0) : ∀ n : Nat, (greedyM f n).sum = f n
  | 0 => by show (0 : Int) = f 0; omega
  | n + 1 => by
    rw [greedy_succ, sum_snoc, greedy_sum h0 n, show ((n + 1 : Nat) : Int) = (n : Int) + 1 by omega]
    omega
theorem greedy_take {f : Int → Int} {n i : Nat} (h : i ≤ n) : (greedyM f n).take i = greedyM f i := by
  unfold greedyM; rw [← List.map_take, List.take_range, Nat.min_eq_left h]
theorem greedy_pre {f : Int → Int} (h0 : f 0 = 0) {n i : Nat} (h : i ≤ n) : pre (greedyM f n) i = f i := by
  rw [pre_take, greedy_take h, greedy_sum h0]
theorem greedy_kept {f : Int → Int} (h0 : f 0 = 0) (G : ∀ a b : Int, 0 ≤ a → 0 ≤ b → f (a + b) ≤ f a + f b) (n : Nat) : Kept f (greedyM f n) := by
  intro s k h1 h2
  rw [greedy_length] at h2
  unfold win
  rw [show (s : Int) + (k : Int) = ((s + k : Nat) : Int) by omega, greedy_pre h0 h2, greedy_pre h0 (by omega)]
  have := G s k (by omega) (by omega)
  rw [show ((s + k : Nat) : Int) = (s : Int) + (k : Int) by omega]
  omega
/-- ahead of every record that keeps the curve -/
theorem greedy_ahead {f : Int → Int} (h0 : f 0 = 0) {vs : List Int} (K : Kept f vs) {n i : Nat} (hn : vs.length = n) (hi : i ≤ n) : pre vs i ≤ pre (greedyM f n) i := by
  rw [greedy_pre h0 hi]
  by_cases z : i = 0
  · subst z
    rw [show ((0 : Nat) : Int) = 0 from rfl, pre_zero, h0]
    exact Int.le_refl _
  · have := K 0 i (by omega) (by omega)
    unfold win at this
    rw [show ((0 : Nat) : Int) + (i : Int) = i by omega, show ((0 : Nat) : Int) = 0 from rfl, pre_zero] at this
    omega
end VM

/-! What repr may be asked of: shown, not deep, not long. -/
namespace VR
open PySem
structure Sz (k L : Nat) (d : PyData) : Prop where
  sh : d.showable = true
  dp : d.depth ≤ k
  ln : d.shown.length ≤ L
theorem Sz.mono {k L k' L' : Nat} {d : PyData} (h : Sz k L d) (a : k ≤ k') (b : L ≤ L') : Sz k' L' d := ⟨h.sh, Nat.le_trans h.dp a, Nat.le_trans h.ln b⟩
theorem Sz.none : Sz 0 5 .none := ⟨rfl, Nat.zero_le _, by decide⟩
theorem Sz.bool (b : Bool) : Sz 0 5 (.bool b) := ⟨rfl, Nat.zero_le _, by cases b <;> decide⟩
theorem log_small {n : Nat} (h : n < 10 ^ 100) : n.log2 < 1920 := by
  by_cases z : n = 0
  · subst z; decide
  · exact (Nat.log2_lt z).mpr (Nat.lt_trans h (by decide +kernel))
theorem Sz.int {i : Int} (h : i.natAbs < 10 ^ 100) : Sz 0 101 (.int i) := by
  refine ⟨by simp only [PyData.showable]; exact decide_eq_true (log_small h), Nat.zero_le _, ?_⟩
  have e := int_text_length_le10 (k := 100) (by decide) h
  show (Str.ofString (toString i)).length ≤ 101
  rw [ofString_length]; exact e
theorem all_show {k L : Nat} : ∀ {ds : List PyData}, (∀ d ∈ ds, Sz k L d) → PyData.showableAll ds = true
  | [], _ => rfl
  | d :: ds, h => by
    simp only [PyData.showableAll]
    rw [(h d List.mem_cons_self).sh, all_show fun e he => h e (List.mem_cons_of_mem _ he)]
    rfl
theorem all_depth {k L : Nat} : ∀ {ds : List PyData}, (∀ d ∈ ds, Sz k L d) → PyData.depthAll ds ≤ k
  | [], _ => Nat.zero_le _
  | d :: ds, h => by
    simp only [PyData.depthAll]
    exact Nat.max_le.mpr ⟨(h d List.mem_cons_self).dp, all_depth fun e he => h e (List.mem_cons_of_mem _ he)⟩
theorem all_len {k L : Nat} : ∀ {ds : List PyData}, (∀ d ∈ ds, Sz k L d) → ((PyData.shownAll ds).map (·.length)).sum ≤ L * ds.length ∧ (PyData.shownAll ds).length = ds.length
  | [], _ => ⟨Nat.zero_le _, rfl⟩
  | d :: ds, h => by
    have a := (h d List.mem_cons_self).ln
    obtain ⟨b, c⟩ := all_len (ds := ds) fun e he => h e (List.mem_cons_of_mem _ he)
    simp only [PyData.shownAll, List.map_cons, List.sum_cons, List.length_cons]
    refine ⟨?_, by omega⟩
    rw [Nat.mul_add, Nat.mul_one]
    omega
theorem Sz.list {k L n : Nat} {ds : List PyData} (h : ∀ d ∈ ds, Sz k L d) (hn : ds.length ≤ n) : Sz (k + 1) ((L + 2) * n + 3) (.list ds) := by
  refine ⟨by simp only [PyData.showable]; exact all_show h, by simp only [PyData.depth]; have := all_depth h; omega, ?_⟩
  obtain ⟨a, b⟩ := all_len h
  have c := listText_len_le (PyData.shownAll ds)
  simp only [PyData.shown]
  rw [b] at c
  have m : (L + 2) * ds.length ≤ (L + 2) * n := Nat.mul_le_mul_left _ hn
  rw [Nat.add_mul] at m
  omega
theorem Sz.tuple {k L n : Nat} {ds : List PyData} (h : ∀ d ∈ ds, Sz k L d) (hn : ds.length ≤ n) : Sz (k + 1) ((L + 2) * n + 3) (.tuple ds) := by
  refine ⟨by simp only [PyData.showable]; exact all_show h, by simp only [PyData.depth]; have := all_depth h; omega, ?_⟩
  obtain ⟨a, b⟩ := all_len h
  have c := tupleText_len_le (PyData.shownAll ds)
  simp only [PyData.shown]
  rw [b] at c
  have m : (L + 2) * ds.length ≤ (L + 2) * n := Nat.mul_le_mul_left _ hn
  rw [Nat.add_mul] at m
  omega
theorem Sz.ints {n : Nat} {us : List Int} (h : ∀ u ∈ us, u.natAbs < 10 ^ 100) (hn : us.length ≤ n) : Sz 1 (103 * n + 3) (.list (us.map PyData.int)) := by
  refine Sz.list (k := 0) (L := 101) (fun d hd => ?_) (by rw [List.length_map]; exact hn)
  obtain ⟨u, hu, rfl⟩ := List.mem_map.mp hd
  exact .int (h u hu)
end VR

/-! for i, x in enumerate(xs, start=k), and over reversed(xs). -/
namespace VE
open PySem PySem.Spec PyProof.Rows L2
section
variable {prog : Program} {w : World} {A : Around} {E : Value → Shared → Prop} {s : Shared}
theorem next_rev {it l : Addr} {i : Nat} {items : Array Value} {x : Value} {Q : Value → Shared → Prop} (hit : s.heap.IsRevIter it l (i : Int)) (hl : s.heap.IsList l items)
    (hx : items[i]? = some x) (hQ : ∀ h', h'.IsRevIter it l ((i : Int) - 1) → Heap.SameBut it s.heap h' → Q x { s with heap := h' }) :
    wpAny (model prog w) A (Builtin.SmallTypes.nextOf (.ref it)) Q E s := by
  obtain ⟨ob, g1, g2, g3⟩ := id hit
  obtain ⟨ol, k1, _, nl, k2⟩ := hl
  have slot := F.slot_lri_next
  unfold Builtin.SmallTypes.nextOf
  refine wpAny_bind (wpAny_callSpecial?_slot (name := Str.ofString "__next__") hit.typeIs slot (wpAny_call_entry slot hit.typeIs F.entry_lri_next ?_ (F.args_lri_next_1 _)))
  unfold Builtin.«list_reverseiterator.__next__» ; refine wpAny_bind (wpAny_of_eq (a := (Value.ref it, [])) rfl ?_)
  try dsimp only
  refine wpAny_bind (wpAny_field g1 g3 (x := rawInt (i : Int)) rfl ?_)
  show wpAny _ A.in1 (if (i : Int) < 0 then _ else _) _ _ s
  rw [if_neg (show ¬ (i : Int) < 0 by omega)]
  show wpAny _ A.in1 (field (.ref it) 0 >>= _) _ _ s
  refine wpAny_bind (wpAny_field g1 g3 (x := .ref l) rfl ?_)
  show wpAny _ A.in1 (seqItems? (.ref l) >>= _) _ _ s
  refine wpAny_bind (wpAny_seqItems k1 k2 ?_)
  simp only [Int.toNat_natCast, hx]
  refine wpAny_bind (wpAny_setField g1 g3 (by simp) ?_)
  have here : (s.heap.update it fun o => o.mapFields fun vs => vs.setIfInBounds 1 (rawInt ((i : Int) - 1))).IsRevIter it l ((i : Int) - 1) := by
    refine ⟨_, Heap.get?_update_self _ g1 (Obj.isFreed_of_fields (Obj.data_mapFields g3 _)), (Obj.cls_mapFields ..).trans g2, ?_⟩
    rw [Obj.data_mapFields g3]
    simp
  first
  | exact wpAny_pure ⟨x, rfl, wpAny_pure (hQ _ here (Heap.SameBut.update ..))⟩
  | exact wpAny_bind (wpAny_pure (wpAny_pure ⟨x, rfl, wpAny_pure (hQ _ here (Heap.SameBut.update ..))⟩))
theorem next_rev_end {it l : Addr} {Q : Value → Shared → Prop} (hh : A.handled = none) (hit : s.heap.IsRevIter it l (-1))
    (hE : ∀ h' e, Heap.ExtBut it s.heap h' → (∃ o, h'.get? e = some o ∧ o.cls = .type "StopIteration") → E (.ref e) { s with heap := h' }) :
    wpAny (model prog w) A (Builtin.SmallTypes.nextOf (.ref it)) Q E s := by
  obtain ⟨ob, g1, g2, g3⟩ := id hit
  have slot := F.slot_lri_next
  unfold Builtin.SmallTypes.nextOf
  refine wpAny_bind (wpAny_callSpecial?_slot (name := Str.ofString "__next__") hit.typeIs slot (wpAny_call_entry slot hit.typeIs F.entry_lri_next ?_ (F.args_lri_next_1 _)))
  unfold Builtin.«list_reverseiterator.__next__» ; refine wpAny_bind (wpAny_of_eq (a := (Value.ref it, [])) rfl ?_)
  try dsimp only
  refine wpAny_bind (wpAny_field g1 g3 (x := rawInt (-1)) rfl ?_)
  show wpAny _ A.in1 (if (-1 : Int) < 0 then _ else _) _ _ s
  rw [if_pos (show (-1 : Int) < 0 by decide)]
  refine wpAny_bind (wpAny_rule ?_)
  first
  | show wpAny _ A.in1 (newExc (.type "StopIteration") [] >>= _) _ _ _
  | (refine wpAny_bind ?_; show wpAny _ A.in1 (newExc (.type "StopIteration") [] >>= _) _ _ _)
  refine wpAny_bind ?_
  simp only [newExc, newTuple]
  refine wpAny_bind (wpAny_newObj_type ?_ (by size_fits)) ; refine wpAny_bind (m := firstArgMember _ _) (wpAny_of_eq (a := Value.none) (by first | rfl | (simp only [firstArgMember]; rfl)) ?_)
  refine wpAny_newObj_type ?_ (by size_fits)
  simp only [raiseNew]
  refine wpAny_bind (wpAny_handled ?_)
  first | rw [show A.in1.handled = none from hh] | rw [hh]
  refine wpAny_bind (wpAny_pure (wpAny_throw ?_))
  exact hE _ _ (((Heap.ExtBut.refl _ _).push _).push _) ⟨_, Heap.get?_push_size _ rfl, rfl⟩
end
theorem draws_rev {prog : Program} {w : World} {A : Around} (hh : A.handled = none) (it l : Addr) (hne : l ≠ it) (items : Array Value) :
    Draws prog w A it [it, l] items.size (fun i v => items[items.size - 1 - i]? = some v)
      (fun i h => i ≤ items.size ∧ h.IsRevIter it l ((items.size : Int) - 1 - (i : Int)) ∧ h.IsList l items) where
  live := fun _ _ st => let ⟨o, ho, _⟩ := st.2.1; ⟨o, ho⟩
  frame := fun _ _ _ st k => ⟨st.1, st.2.1.at fun o e => k it (by simp) o e, st.2.2.at fun o e => k l (by simp) o e⟩
  item := fun i s Q E hi st hQ => by
    obtain ⟨_, hit, hl⟩ := st
    rw [show (items.size : Int) - 1 - (i : Int) = ((items.size - 1 - i : Nat) : Int) by omega] at hit
    have hx : items[items.size - 1 - i]? = some (items[items.size - 1 - i]'(by omega)) := Array.getElem?_eq_getElem (by omega)
    refine next_rev hit hl hx fun h' hit' sb => hQ _ h' s.toks hx ⟨hi, ?_, hl.extBut sb.extBut hne⟩ sb
    rw [show (items.size : Int) - 1 - ((i + 1 : Nat) : Int) = ((items.size - 1 - i : Nat) : Int) - 1 by omega]
    exact hit'
  done := fun s Q E st hE => by
    obtain ⟨_, hit, _⟩ := st
    rw [show (items.size : Int) - 1 - (items.size : Int) = -1 by omega] at hit
    exact next_rev_end hh hit hE

/-- what may be iterated as it is: iter(v) is v -/
structure Self (v : Value) (H : Heap → Prop) : Prop where
  iter : ∀ (prog : Program) (w : World) (A : Around) (E : Value → Shared → Prop) (s : Shared) (Q : Value → Shared → Prop), H s.heap → Q v s → wpAny (model prog w) A (pyIter v) Q E s
theorem self_rev (it l : Addr) (i : Int) : Self (.ref it) fun h => h.IsRevIter it l i := ⟨fun _ _ _ _ _ _ h q => wpAny_pyIter_revIter h q⟩
set_option maxHeartbeats 4000000 in
theorem new_enum {v : Value} {H : Heap → Prop} (B : Self v H) (k : Int) (t : Tok) (hfit : Builtin.SmallTypes.fitsIndex k = true) :
    Meets (Builtin.«enumerate.__new__» ⟨[.type "enumerate", v], [(Str.ofString "start", .int k t)]⟩) (fun _ R s => H s.heap ∧
      R (.ok (.ret (.ref s.heap.objs.size))) { s with heap := s.heap.push { cls := .type "enumerate", data := .fields #[.none, .bool false, v, rawInt k, .none, .none] } }) := by
  refine .of_wp fun prog w A R s h => ?_
  obtain ⟨hp, g, d, tk, os⟩ := s
  obtain ⟨h1, h⟩ := h
  have hsub := sub_enumerate
  have hnf : (!Builtin.SmallTypes.fitsIndex k) = false := by rw [hfit] ; rfl
  have q1 : ∀ {A' : Around} {E : Value → Shared → Prop} {Q : Value → Shared → Prop}, Q v ⟨hp, g, d, tk, os⟩ → wpAny (model prog w) A' (pyIter v) Q E ⟨hp, g, d, tk, os⟩ := fun q => B.iter prog w _ _ _ _ h1 q
  have a1 : (Str.ofString "start" == ("start" : Str)) = true := by decide +kernel
  have a2 : (Str.ofString "start" != ("start" : Str)) = false := by decide +kernel
  have a3 : (Str.ofString "start" != ("iterable" : Str)) = true := by decide +kernel
  have a4 : (("start" : Str) == Str.ofString "start") = true := by decide +kernel
  have a5 : (("iterable" : Str) == Str.ofString "start") = false := by decide +kernel
  wp_walk using q1
  refine wpAny_stack_any fun st => wpAny_pure ?_
  split
  · rename_i c _ _ _ _ _
    cases (c == Value.type "enumerate")
    · wp_walk using q1
      exact ⟨_, rfl, h⟩
    · wp_walk using q1
      exact ⟨_, rfl, h⟩
  · wp_walk using q1
    exact ⟨_, rfl, h⟩
theorem call_enum {prog : Program} {w : World} {A : Around} {E : Value → Shared → Prop} {s : Shared} {v : Value} {H : Heap → Prop} {k : Int} {t : Tok} {Q : Value → Shared → Prop} (B : Self v H) (h1 : H s.heap)
    (b0 : -(2 ^ 63) ≤ k) (b1 : k < 2 ^ 63) (h : Q (.ref s.heap.objs.size) { s with heap := s.heap.push { cls := .type "enumerate", data := .fields #[.none, .bool false, v, rawInt k, .none, .none] } }) :
    wpAny (model prog w) A (call (.type "enumerate") [v] [(Str.ofString "start", .int k t)]) Q E s := by
  refine callType_newKw F.called_enumerate (by decide) (F.typeCall_enumerate_start _ _) (F.newCall_enumerate_start _ _) (fun obj => F.args_object_init_start obj _ _) F.entry_enumerate_new (new_enum B k t (fits_start b0 b1)) ⟨h1, ?_⟩
  exact ⟨⟨_, Heap.get?_push_size _ rfl, rfl⟩, h⟩
end VE
namespace VE
open PySem PySem.Spec PyProof.Rows L2
/-- k, k + 1, .. with the list at a (n items, which the loop leaves there) from its end, in new pairs -/
def Iter' (K : PySem.W.Frag) (a : Addr) (n : Nat) (k : Int) : It :=
  ⟨fun i H => i < n ∧ ∃ xs : List V, SqL K H a xs ∧ xs.length = n, fun i H v H' => ∃ T x, v = .ref T ∧ H T = none ∧ H' = upd H T (.tup [.int (k + (i : Nat)), x]) ∧ ∀ xs, SqL K H a xs → xs[n - 1 - i]? = some x,
    fun i H => n ≤ i ∧ ∃ xs : List V, SqL K H a xs ∧ xs.length = n⟩
theorem turn_enumRev {P : Program} {w : World} {K : PySem.W.Frag} {elts : List Expr} {kk : Nat} {tpos : Pos} (a e it : Addr) (n : Nat) (k : Int) (hai : a ≠ it) (hei : e ≠ it) (hea : e ≠ a) :
    Turn P w K (.Tuple elts kk tpos) (Iter' K a n k) [e, it] e (fun i h => (∃ old, IsEnum h e it (k + (i : Nat)) old) ∧ i ≤ n ∧ h.IsRevIter it a ((n : Int) - 1 - (i : Nat))) where
  mem := by simp
  obj := fun i h st b hb => by
    obtain ⟨⟨old, he⟩, _, o, ho, hc, hd⟩ := st
    have e' : b = e ∨ b = it := by simpa using hb
    rcases e' with z | z
    · rw [z]; exact ⟨_, he, fun v q => nomatch q⟩
    · rw [z]; exact ⟨o, ho, fun v q => by rw [hd] at q; cases q⟩
  keep := fun i h h' st kp => let ⟨⟨old, he⟩, hn, hi⟩ := st; ⟨⟨old, kp e (by simp) _ he⟩, hn, hi.at fun o q => kp it (by simp) o q⟩
  item := by
    intro X hP hw hK hc i pins s σ H E I hf st hg
    subst hP hw hK
    obtain ⟨⟨old, he⟩, hin, hit⟩ := st
    obtain ⟨hlt, xs, hq, hl⟩ := hg
    obtain ⟨its, rv, p, hz⟩ := I.list hq
    have hn : its.toArray.size = n := by rw [List.size_toArray, ← rv.length]; exact hl
    have hh : X.A.in1.handled = none := I.ok.hd hc
    have hel : e < s.heap.objs.size := Heap.lt_size he
    have hil : it < s.heap.objs.size := by obtain ⟨_, q, _⟩ := hit; exact Heap.lt_size q
    have D := draws_rev (prog := X.prog) (w := X.w) (A := X.A.in1) hh it a hai its.toArray
    rw [hn] at D
    refine wpAny_pyNext_enum_itemC D he ⟨hin, hit, p.isList⟩ hlt hei (by simp [hei, hea]) fun u h' tk hP ho hs' hT hsz hkp => ?_
    obtain ⟨_, hit', _⟩ := hs'
    have hx : xs[n - 1 - i]? = some (xs[n - 1 - i]'(by omega)) := List.getElem?_eq_getElem (by omega)
    obtain ⟨u', hu', ru⟩ := rv.get hx
    have hP' : its[n - 1 - i]? = some u := by simpa using hP
    have euu : u' = u := by rw [hP'] at hu'; exact (Option.some.inj hu').symm
    subst euu
    refine ⟨_, rfl, wpAny_letOwnedTupleGo_enum (s := { s with heap := h', toks := tk + 1 }) ho fun h'' he' sb => ?_⟩
    have hT2 : h''.get? s.heap.objs.size = some { cls := .type "tuple", data := .seq #[.int (k + (i : Nat)) tk, u'] } := (sb.2 _ (Nat.ne_of_gt hel)).trans hT
    have new : ObjOk X.prog X.w (upd H s.heap.objs.size (.tup [.int (k + (i : Nat)), xs[n - 1 - i]'(by omega)])) h'' s.heap.objs.size (.tup [.int (k + (i : Nat)), xs[n - 1 - i]'(by omega)]) :=
      ⟨by show 2 ≤ sizeLine; decide, [.int (k + (i : Nat)) tk, u'], .cons ⟨_, rfl⟩ (.cons ru .nil), ⟨_, hT2, rfl, _, rfl⟩⟩
    have I1 : Inv X pins σ (upd H s.heap.objs.size (.tup [.int (k + (i : Nat)), xs[n - 1 - i]'(by omega)])) { s with heap := h'', toks := tk + 1 } :=
      I.turnedNew (ch := [e, it]) (fun b ob hb q => (sb.2 b (fun z => hb (by simp [z]))).trans (hkp b ob (fun z => hb (by simp [z])) (fun z => hb (by simp [z])) q)) hf (Nat.le_refl _) new
    refine ⟨.ref s.heap.objs.size, _, I1, rfl, ⟨_, _, rfl, I.hok.fresh (Nat.le_refl _), rfl, fun ys hy => by rw [I.list_inj hy hq]; exact hx⟩, ⟨⟨u', ?_⟩, hlt, hit'.at fun o q => (sb.2 it (Ne.symm hei)).trans q⟩, fun b hb => ?_⟩
    · have e1 : k + ((i + 1 : Nat) : Int) = k + (i : Int) + 1 := by omega
      rw [e1]; exact he'
    · have hb' : b < s.heap.objs.size := by
        have e' : b = e ∨ b = it := by simpa using hb
        rcases e' with z | z
        · rw [z]; exact hel
        · rw [z]; exact hil
      rw [upd_ne (Nat.ne_of_lt hb')]
      exact (hf b hb).1
  done := by
    intro X hP hw hK hc i pins s σ H E I hf st hg
    subst hP hw hK
    obtain ⟨⟨old, he⟩, hin, hit⟩ := st
    obtain ⟨hge, xs, hq, hl⟩ := hg
    obtain ⟨its, rv, p, hz⟩ := I.list hq
    have hn : its.toArray.size = n := by rw [List.size_toArray, ← rv.length]; exact hl
    have hh : X.A.in1.handled = none := I.ok.hd hc
    obtain ⟨f0, f1, f2, f3, f4, f5⟩ := hf it (by simp)
    have D := draws_rev (prog := X.prog) (w := X.w) (A := X.A.in1) hh it a hai its.toArray
    rw [hn] at D
    have ei : i = n := by omega
    subst ei
    exact wpAny_pyNext_enum_endD D he ⟨Nat.le_refl _, hit, p.isList⟩ fun h' eb => ⟨rfl, I.turned (t' := s.toks) (fun b o hb q => eb b o hb q) f0 f1 f3 f4 f5⟩
  self := fun A i s Q E st h => let ⟨⟨_, he⟩, _⟩ := st; wpAny_pyIter_enum he h
theorem walk_enumRev {K : PySem.W.Frag} {a : Addr} {xs : List V} {k : Int} : Walk (Iter' K a xs.length k) xs.length (fun H => SqL K H a xs) (YPair (fun i => some (.int (k + (i : Nat)))) (fun i => xs[xs.length - 1 - i]?)) := by
  refine ⟨fun i _ hi q => ⟨hi, xs, q, rfl⟩, fun _ q => ⟨Nat.le_refl _, xs, q, rfl⟩, fun i H v H' _ q y => ?_⟩
  obtain ⟨T, x, h1, h2, h3, h4⟩ := y
  exact ⟨T, .int (k + (i : Nat)), x, h1, h2, h3, rfl, h4 xs q⟩
def iEnumRev (K : PySem.W.Frag) (ta : TA) (k : Int) : TI := fun σ H R => ta σ H fun vs H1 => ∃ (a : Addr) (xs : List V), vs = [.ref a] ∧ SqL K H1 a xs ∧ R (Iter' K a xs.length k) H1
section
variable {M : Model} {A : Around} {E : Value → Shared → Prop} {s : Shared} {env : Env}
theorem callWith_typeKw {pos : Pos} {T : String} {e : Expr} {rest : List Expr} {kws : List Keyword} {Q : Value → Shared → Prop} (hall : (backToKw pos (keywordEach kws env)).all (·.1.isSome) = true)
    (h : wpAny M A (spliced (backTo pos (starEach (e :: rest) env))) (fun vs s₁ => wpAny M A (evalAll ((backToKw pos (keywordEach kws env)).map (·.2)))
      (fun ks s₂ => wpAny M A (call (.type T) vs (((backToKw pos (keywordEach kws env)).filterMap (·.1)).zip ks)) Q E s₂) E s₁) E s)
    (hplain : ((backTo pos (starEach (e :: rest) env)).any (·.1) || (backToKw pos (keywordEach kws env)).any (·.1.isNone)) = false) (he : starEach (e :: rest) env = (false, eval e env) :: starEach rest env) :
    wpAny M A (callWith pos (.type T) [] (backTo pos (starEach (e :: rest) env)) (backToKw pos (keywordEach kws env))) Q E s := by
  unfold callWith
  refine wpAny_bind (wpAny_holding (wpAny_mono (evalArgs_kw2 (f := .type T) (Q := fun a s₁ => wpAny M A (call (.type T) a.pos a.kw) Q E s₁) hall h he) (fun a s₁ h₁ => wpAny_bind (wpAny_standAt ?_)) fun _ _ x => x))
  simp only [hplain]
  refine wpAny_bind (wpAny_pure ?_)
  exact wpAny_bind (wpAny_mono h₁ (fun r s₂ hr => wpAny_bind (wpAny_holding (wpAny_point (wpAny_pure hr)))) fun _ _ x => x)
theorem Call_kws {func : Expr} {args : List Expr} {kws : List Keyword} {pos : Pos} {Q : Value → Shared → Prop}
    (h : wpAny M A (eval func env) (fun f s₁ => wpAny M A (callWith pos f [] (backTo pos (starEach args env)) (backToKw pos (keywordEach kws env))) Q E s₁) E s)
    (he : eval (.Call func args kws pos) env = (do callWith pos (← eval func env) [] (backTo pos (starEach args env)) (backToKw pos (keywordEach kws env))) := by rfl) :
    wpAny M A (eval (.Call func args kws pos) env) Q E s := by
  rw [he]; exact wpAny_bind h
end
theorem pi_enumRev {X : Cx} {e : Expr} {ta : TA} {p p2 pos pos2 kp jp tpos : Pos} {j : Nat} {k : Int} {elts : List Expr} {kk : Nat} (hk0 : -(2 ^ 63) ≤ k) (hk1 : k < 2 ^ 63) (hg : Gl X "enumerate") (hm : X.mg "enumerate" = none) (hg2 : Gl X "reversed") (hm2 : X.mg "reversed" = none) (ha : PA X [e] ta)
    (hs : starEach [e] X.env = [(false, eval e X.env)] := by rfl)
    (hs2 : starEach [.Call (.Name "reversed" p2) [e] [] pos2] X.env = (false, eval (.Call (.Name "reversed" p2) [e] [] pos2) X.env) :: starEach [] X.env := by rfl)
    (hst : ∀ q, (backTo q (starEach [.Call (.Name "reversed" p2) [e] [] pos2] X.env)).any (·.1) = false := by exact fun _ => rfl)
    (hbs : eval (.Call (.Name "reversed" p2) [e] [] pos2) X.env = (do callWith pos2 (← eval (.Name "reversed" p2) X.env) [] (backTo pos2 (starEach [e] X.env)) (backToKw pos2 (keywordEach [] X.env))) := by rfl) :
    PI X (.Tuple elts kk tpos) (.Call (.Name "enumerate" p) [.Call (.Name "reversed" p2) [e] [] pos2] [⟨some "start", .Constant (.int k) j jp, kp⟩] pos) (iEnumRev X.K ta k) := by
  refine ⟨fun pins s σ H R I h => ?_⟩
  refine Call_kws (ld_blt I hg hm boot_enumerate (callWith_typeKw rfl (args_cons ?_ hs2) (by rw [hst]; rfl) hs2))
  refine Call_ (ld_blt I hg2 hm2 PyProof.Rows.boot_reversed (PyProof.Rows.callWith_type1 (thn (ha.run pos2 pins s σ H _ I h) fun us s1 ⟨vs, H1, I1, r1, q1⟩ => ?_) hs rfl)) hbs
  obtain ⟨a, xs, ex, hq, q⟩ := q1
  subst ex
  cases r1 with
  | cons r rr =>
    cases rr
    cases r
    obtain ⟨its, rv, p', hz⟩ := I1.list hq
    have hl := rv.length
    have hal : a < s1.heap.objs.size := by obtain ⟨_, _, z, _⟩ := p'; exact Heap.lt_size z
    refine call_reversed_list p'.isList (args_nil (kws_cons (wpAny_Constant_int (kws_nil ?_))))
    have sz1 : (s1.heap.push { cls := .type "list_reverseiterator", data := .fields #[.ref a, rawInt (((its.toArray.size : Nat) : Int) - 1)] }).objs.size = s1.heap.objs.size + 1 := Heap.size_push ..
    have hit0 : (s1.heap.push { cls := .type "list_reverseiterator", data := .fields #[.ref a, rawInt (((its.toArray.size : Nat) : Int) - 1)] }).IsRevIter s1.heap.objs.size a (((its.toArray.size : Nat) : Int) - 1) := ⟨_, Heap.get?_push_size _ rfl, rfl, rfl⟩
    refine call_enum (self_rev s1.heap.objs.size a (((its.toArray.size : Nat) : Int) - 1)) hit0 hk0 hk1 ?_
    have he : IsEnum ((s1.heap.push { cls := .type "list_reverseiterator", data := .fields #[.ref a, rawInt (((its.toArray.size : Nat) : Int) - 1)] }).push { cls := .type "enumerate", data := .fields #[.none, .bool false, .ref s1.heap.objs.size, rawInt k, .none, .none] }) (s1.heap.objs.size + 1) s1.heap.objs.size k .none := by
      have := Heap.get?_push_size (s1.heap.push { cls := .type "list_reverseiterator", data := .fields #[.ref a, rawInt (((its.toArray.size : Nat) : Int) - 1)] }) (o := { cls := .type "enumerate", data := .fields #[.none, .bool false, .ref s1.heap.objs.size, rawInt k, .none, .none] }) rfl
      rw [sz1] at this; exact this
    show wpAny _ _ (pyIter (.ref (s1.heap.push { cls := .type "list_reverseiterator", data := .fields #[.ref a, rawInt (((its.toArray.size : Nat) : Int) - 1)] }).objs.size)) _ _ _
    rw [sz1]
    refine wpAny_pyIter_enum he ?_
    have hit1 := hit0.at (h' := (s1.heap.push { cls := .type "list_reverseiterator", data := .fields #[.ref a, rawInt (((its.toArray.size : Nat) : Int) - 1)] }).push { cls := .type "enumerate", data := .fields #[.none, .bool false, .ref s1.heap.objs.size, rawInt k, .none, .none] }) fun o q => Heap.get?_push_of_some _ q
    refine ⟨s1.heap.objs.size + 1, [s1.heap.objs.size + 1, s1.heap.objs.size], _, _, H1, rfl, ?_, turn_enumRev a (s1.heap.objs.size + 1) s1.heap.objs.size xs.length k (Nat.ne_of_lt hal) (Nat.succ_ne_self _) (Nat.ne_of_gt (Nat.lt_succ_of_lt hal)), ⟨⟨.none, ?_⟩, Nat.zero_le _, ?_⟩, fun b hb => ?_, q⟩
    · exact I1.kept fun b ob q => Heap.get?_push_of_some _ (Heap.get?_push_of_some _ q)
    · rw [show k + ((0 : Nat) : Int) = k by omega]; exact he
    · rw [show (xs.length : Int) - 1 - ((0 : Nat) : Int) = ((its.toArray.size : Nat) : Int) - 1 by rw [List.size_toArray]; omega]; exact hit1
    · have e' : b = s1.heap.objs.size + 1 ∨ b = s1.heap.objs.size := by simpa using hb
      have hle : s1.heap.objs.size ≤ b := by
        rcases e' with z | z
        · rw [z]; exact Nat.le_add_right _ _
        · rw [z]; exact Nat.le_refl _
      exact I1.fpOk hle (I1.hok.fresh hle)
end VE

/-! A method called with keywords. -/
namespace VP
open PySem PySem.Spec PyProof.Rows L2
/-- o.m(e, .., k = v, ..) -/
def tMethKw (C : Addr) (m : Str) (n j : Nat) (sp : Sp) (gV : List V → List V → List V) (E : XK) (ta : TE) (t tk : TA) : TE := fun σ H Q =>
  ta σ H fun x H1 => ∃ a dx fs, x = .ref a ∧ H1 a = some (.ins C dx fs) ∧ fs.lookup m = none ∧
    t σ H1 fun vs H2 => tk σ H2 fun zs H3 => vs.length = n ∧ zs.length = j ∧ sp (gV (x :: vs) zs) H3 Q E
theorem pe_methKw {X : Cx} {CX : CXT} {k n : Nat} {f C : Addr} {fd : FuncData} {ps ks : List Str} {sp : Sp} {E : XK} {m : Str} {pos apos : Pos} {o e : Expr} {es : List Expr} {kws : List Keyword} {ta : TE} {t tk : TA}
    {g : List Value → List Value → List Value} {gV : List V → List V → List V} {pl : Sem Bool}
    (he : PE X o ta) (c : Cls X.K C) (hm : Meth X.K C m f) (F : FnOk X.prog X.w X.K X.mg X.base CX k f fd ps sp) (hr : Room k X.A)
    (hb : KBn X.K fd ps (n + 1) ks g gV) (hx : Passes CX X E) (ha : PA X (e :: es) t) (hkw : PK X kws tk)
    (hall : (backToKw pos (keywordEach kws X.env)).all (·.1.isSome) = true := by rfl) (hks : (backToKw pos (keywordEach kws X.env)).filterMap (·.1) = ks := by rfl)
    (hst : starEach (e :: es) X.env = (false, eval e X.env) :: starEach es X.env := by rfl)
    (hpl : ((backTo pos (starEach (e :: es) X.env)).any (·.1) || (backToKw pos (keywordEach kws X.env)).any (·.1.isNone)) = false := by rfl)
    (ht : eval (.Call (.Attribute o m apos) (e :: es) kws pos) X.env = (do
      let ov ← eval o X.env
      standAt apos.atName
      let (f, first) ← holding [ov] (getMethod ov m pl)
      callWith pos f first (backTo pos (starEach (e :: es) X.env)) (backToKw pos (keywordEach kws X.env))) := by rfl) :
    PE X (.Call (.Attribute o m apos) (e :: es) kws pos) (tMethKw C m n ks.length sp gV E ta t tk) := by
  constructor
  intro pins s σ H Q I h
  refine PySem.W.methodCall_KW (pl := pl) (thn (he.run pins s σ H _ I h) ?_) ht
  rintro u s1 ⟨x, H1, I1, rx, a, dx, fs, ex, ea, l, q⟩
  subst ex
  obtain rfl : u = Value.ref a := rx
  refine getmeth_ok I1 ea c hm l ?_
  refine PySem.W.callWith_KW (first := [.ref a]) (h₀ := X.base) I.ok.mod.kin hm.kp hall (thn (ha.run pos pins s1 σ H1 _ I1 q) ?_) hpl hst
  rintro us s2 ⟨vs, H2, I2, r, q2⟩
  refine thn (hkw.run pos pins s2 σ H2 _ I2 q2) ?_
  rintro ws s3 ⟨zs, H3, I3, rz, l1, l2, q3⟩
  refine ⟨I3.kIn, ?_⟩
  rw [hks]
  have r1 : Vals (V.ref a :: vs) (Value.ref a :: us) := .cons rfl r
  have rel := hb.rel r1 rz
  have len : (Value.ref a :: us).length = n + 1 := by rw [List.length_cons, ← r.length, l1]
  have bind := hb.to s3 (Value.ref a :: us) ws I3.kIn len (rz.length.symm.trans l2)
  show wpAny _ _ (call (.ref f) (Value.ref a :: us) (ks.zip ws)) _ _ _
  refine wpAny_call (codeAny_mono (F.run X.A X.stack s3 H3 ⟨Value.ref a :: us, ks.zip ws⟩ _ _ Q E hr I3.env0 bind rel q3) ?_)
  intro res s' hq
  match res, hq with
  | .error e, hq => exact hx pins σ H3 s3 e s' I3 hq
  | .ok (.ret u), hq => exact I3.after hq
  | .ok .next, hq => exact False.elim hq
  | .ok .brk, hq => exact False.elim hq
  | .ok .cont, hq => exact False.elim hq
end VP

/-! == and != by an own __eq__ whatever stands on the right, repr by an own __repr__, None in an f-string. -/
namespace VN
open PySem PySem.Spec PyProof.Rows L2

section
variable {prog : Program} {w : World} {A : Around} {E : Value → Shared → Prop} {s : Shared} {K : PySem.W.Frag} {x C L f : Addr} {h₀ : Heap} {m : Str → Option Value} {ox : Obj} {od : Option Obj} {b tb : Value}
theorem bound_builtin {M : Model} {name : Str} {id : String} {args : List Value} {Q : Option Value → Shared → Prop} (X : K.In s.heap) (I : PySem.W.InstAt s.heap x ox C od) (hs : PySem.W.findIn K (.ref C) name = some (some (.builtin id)))
    (hb : ∀ self, bindSpecial (.builtin id) self = pure (.builtin id, [self]))
    (h : wpAny M A (call (.builtin id) (.ref x :: args)) (fun v => Q (some v)) E s) : wpAny M A (callSpecialIfBound? (.ref x) name args) Q E s := by
  simp only [callSpecialIfBound?, bindSpecialIfBound?]
  refine wpAny_holding (wpAny_bind (wpAny_bind (wpAny_bind (I.type.here ((PySem.W.looks_findIn X hs).here ?_)))))
  refine wpAny_bind (wpAny_askSetting (wpAny_ite ?_))
  have fin : wpAny M A (call (.builtin id) ([.ref x] ++ args) >>= fun v => pure (some v)) Q E s := wpAny_bind (wpAny_mono h (fun v s' h' => wpAny_pure h') fun _ _ h' => h')
  split
  · exact wpAny_bind ((PySem.W.Looks.of_pure (hb _)).here (wpAny_pure (by exact fin)))
  · exact wpAny_tryCatch (wpAny_bind ((PySem.W.Looks.of_pure (hb _)).here (wpAny_pure (by exact fin))))
open Builtin in
theorem obj_ne {Q : Value → Shared → Prop} (hu : A.in1.units < cLine) (X : K.In s.heap) (I : PySem.W.InstAt s.heap x ox C od) (hm : PySem.W.mroIn K C (.type "object") = some true)
    (hs : PySem.W.findIn K (.ref C) "__eq__" = some (some (.ref f))) (hf : PySem.W.isFn K (.ref f) = true)
    (h : wpAny (model prog w) A.in1 (call (.ref f) [.ref x, b]) (fun v s' => ∃ r, v = .bool r ∧ Q (.bool (!r)) s') E s) : wpAny (model prog w) A (call (.builtin "object.__ne__") [.ref x, b]) Q E s := by
  refine wpAny_call (codeAny_call_builtin PySem.F.slot_zip_ne.plain PySem.F.cmpEntry_ne (PySem.W.check_slot (i := "object.__ne__") (owner := "object") (n := "__ne__") PySem.F.cmpKind_ne PySem.F.cmpSplit_ne (I.type.andThen (PySem.W.looks_mroIn X hm)) (PySem.F.cmpArgs_ne _ _) ?_))
  unfold Builtin.«object.__ne__»
  refine wpAny_bind (m := slotArgs "__ne__" 1 _) (wpAny_pure ?_)
  refine wpAny_bind (m := cRoomFor _ _) (wpAny_cRoomFor hu ?_)
  refine wpAny_bind (m := callSpecialIfBound? (.ref x) (Str.ofString "__eq__") _) (PySem.W.ifBound_K X I hs hf (wpAny_mono h (fun r s' hq => ?_) fun _ _ y => y))
  obtain ⟨r, rfl, hq⟩ := hq
  exact wpAny_bind (wpAny_truthy_bool (wpAny_pure hq))
theorem ne_K {Q : Value → Shared → Prop} (hu : A.units + 1 < cLine) (F : PyProof.Rows.Fr h₀ L s.heap m) (X₀ : K.In h₀) (I : PySem.W.InstAt s.heap x ox C od) (hb : PySem.W.Looks (model prog w) s.heap (typeOf b) tb) (hn : PySem.W.notFirst K C tb = true)
    (hne : PySem.W.findIn K (.ref C) "__ne__" = some (some (.builtin "object.__ne__"))) (hm : PySem.W.mroIn K C (.type "object") = some true)
    (hs : PySem.W.findIn K (.ref C) "__eq__" = some (some (.ref f))) (hf : PySem.W.isFn K (.ref f) = true)
    (h : wpAny (model prog w) A.in1 (call (.ref f) [.ref x, b]) (fun v s' => ∃ r, v = .bool r ∧ Q (.bool (!r)) s') E s) : wpAny (model prog w) A (richCompare .NotEq (.ref x) b) Q E s := by
  have X := X₀.keeps F.keep
  have hu1 : A.in1.units < cLine := by show A.units + 1 < _; exact hu
  have one : wpAny (model prog w) A (tryCompare (.ref x) (cmpInfo .NotEq).2.1 b) (fun r s' => ∃ v, r = some v ∧ Q v s') E s := by
    unfold tryCompare
    refine wpAny_bind (bound_builtin X I hne PySem.F.slot_zip_ne.bind (obj_ne hu1 X I hm hs hf (wpAny_mono h (fun v s' hv => ?_) fun _ _ e => e)))
    obtain ⟨r, rfl, q⟩ := hv
    exact ⟨r, rfl, wpAny_pure ⟨_, rfl, q⟩⟩
  unfold richCompare
  simp only [oneThing_ref]
  refine wpAny_holding (wpAny_bind (wpAny_cRoomFor (by omega) ?_))
  refine wpAny_bind (I.type.here (wpAny_bind (hb.here ?_)))
  split
  · rename_i q
    have e : PySem.W.subIn K tb (.ref C) = some false := by
      rcases Bool.or_eq_true_iff.mp hn with e | e
      · rw [beq_iff_eq.mp e] at q; simp at q
      · exact beq_iff_eq.mp e
    refine wpAny_bind ((PySem.W.looks_subIn X e).here ?_)
    simp only [Bool.false_eq_true, if_false]
    refine wpAny_bind (wpAny_mono one (fun r s' z => ?_) fun _ _ e => e)
    obtain ⟨v, rfl, hq⟩ := z
    exact wpAny_pure hq
  · refine wpAny_bind (wpAny_pure ?_)
    simp only [Bool.false_eq_true, if_false]
    refine wpAny_bind (wpAny_mono one (fun r s' z => ?_) fun _ _ e => e)
    obtain ⟨v, rfl, hq⟩ := z
    exact wpAny_pure hq
end

/-- what of the text is true of an own class that is only a class: its instances' type, isinstance, != -/
structure IsC (K : PySem.W.Frag) (C : Addr) : Prop where
  ic : PySem.W.isClsIn K C = true
  ty : PySem.W.typeIn K (.ref C) = some (.type "type")
  gc : PySem.W.findIn K (.ref C) "__class__" = some (some (.builtin "object.__class__"))
  gn : PySem.W.specialIn K (.builtin "object.__class__") "__get__" = some (some (.builtin "getset_descriptor.__get__"))
  tk : PySem.W.takesIn K (.builtin "object.__class__") = some true
  ob : PySem.W.mroIn K C (.type "object") = some true
  ne : PySem.W.findIn K (.ref C) "__ne__" = some (some (.builtin "object.__ne__"))
/-- the built-in classes of the values that occur -/
def kinds : List String := ["NoneType", "bool", "int", "str", "list", "tuple", "dict"]
def allTy (l : List Value) : Bool := l.all fun v => match v with | .type _ => true | _ => false
theorem kinds_mro : kinds.all (fun n => (PySem.fastBuiltinMro n).any allTy) = true := by decide +kernel
theorem sub_ty {K : PySem.W.Frag} {C : Addr} {n : String} (h : n ∈ kinds) : PySem.W.subIn K (.type n) (.ref C) = some false := by
  have k := List.all_eq_true.mp kinds_mro n h
  show Option.map (fun x => List.contains x (Value.ref C)) (PySem.fastBuiltinMro n) = some false
  cases e : PySem.fastBuiltinMro n with
  | none => rw [e] at k; cases k
  | some l =>
    rw [e] at k
    have k : allTy l = true := k
    show some (List.contains l (Value.ref C)) = some false
    congr 1
    rw [List.contains_eq_any_beq, List.any_eq_false]
    intro y hy c
    have e2 := eq_of_beq c
    have := List.all_eq_true.mp k y hy
    rw [← e2] at this
    cases this
theorem notFirst_ty {K : PySem.W.Frag} {C : Addr} {n : String} (h : n ∈ kinds) : PySem.W.notFirst K C (.type n) = true := by
  unfold PySem.W.notFirst
  rw [sub_ty h]
  simp
theorem notFirst_own {K : PySem.W.Frag} {C : Addr} : PySem.W.notFirst K C (.ref C) = true := by
  unfold PySem.W.notFirst
  simp
theorem kit_self {K : PySem.W.Frag} {C : Addr} : PySem.W.kitOne K (.ref C) (.ref C) = some true := by
  unfold PySem.W.kitOne
  rw [if_pos (by simp)]
theorem kit_no {K : PySem.W.Frag} {C : Addr} {n : String} (c : IsC K C) (h : n ∈ kinds) : PySem.W.kitOne K (.type n) (.ref C) = some false := by
  have hc : (PySem.W.clsIn K C).isSome = true := c.ic
  unfold PySem.W.kitOne
  rw [if_neg (by simp)]
  unfold PySem.W.kitCls
  show (if ((PySem.W.clsIn K C).isSome && PySem.W.typeIn K (.ref C) == some (.type "type")) = true then PySem.W.subIn K (.type n) (.ref C) else none) = some false
  rw [hc, c.ty, if_pos (by simp), sub_ty h]
theorem IsC.typ {K : PySem.W.Frag} {C a dx : Addr} {H : Hp} {fs : List (Str × V)} (c : IsC K C) (cl : Cls K C) (e : H a = some (.ins C dx fs)) : TyX K H (.ref a) (.ref C) := .base (.ins e cl c.gc c.gn c.tk c.ob)
def rOwn (K : PySem.W.Frag) (C : Addr) (sp : Sp) (E : XK) : R2 := fun x y H Q => ∃ a dx fs t, x = .ref a ∧ H a = some (.ins C dx fs) ∧ TyX K H y t ∧ PySem.W.notFirst K C t = true ∧ sp [x, y] H (fun v H' => ∃ b, v = .bl b ∧ Q (.bl b) H') E
def rOwnN (K : PySem.W.Frag) (C : Addr) (sp : Sp) (E : XK) : R2 := fun x y H Q => ∃ a dx fs t, x = .ref a ∧ H a = some (.ins C dx fs) ∧ TyX K H y t ∧ PySem.W.notFirst K C t = true ∧ sp [x, y] H (fun v H' => ∃ b, v = .bl b ∧ Q (.bl (!b)) H') E
def rReprOwn (C : Addr) (sp : Sp) (E : XK) : List V → Hp → VK → Prop := fun xs H Q => ∃ a dx fs, xs = [.ref a] ∧ H a = some (.ins C dx fs) ∧ sp [.ref a] H (fun v H' => ∃ y, v = .str y ∧ Q (.str y) H') E
section
variable {X : Cx} {CX : CXT} {k : Nat} {f C : Addr} {fd : FuncData} {ps : List Str} {sp : Sp} {E : XK}
theorem op_eqOwn (F : FnOk X.prog X.w X.K X.mg X.base CX k f fd ps sp) (hr : Room k X.A) (o : Meth X.K C "__eq__" f) (c : IsC X.K C) (hb : Binds X.K fd ps []) (hx : Passes CX X E) : OpR X (compareOp .Eq) (rOwn X.K C sp E) := by
  intro pins s σ H x y v u Q I rx ry h
  obtain ⟨a, dx, fs, t, rfl, ea, ty, nf, hsp⟩ := h
  obtain rfl : v = Value.ref a := rx
  obtain ⟨mA, J, _⟩ := ins_get I.hok ea
  obtain ⟨od, J, _⟩ := J.look
  obtain ⟨m, hF⟩ := I.fr
  obtain ⟨P, Z, p, _⟩ := kit_of I ry ty
  show wpAny (model X.prog X.w) X.A (richCompare .Eq (.ref a) u) (EP X pins σ Q) X.xe s
  refine PySem.W.cmp_K (op := .Eq) (tb := t) hr.units0 hF I.ok.mod.kin J (Z.ty _ _ I.kIn p) nf o.at_ o.fn ?_
  have hl := F.len _ _ _ _ hsp
  have r2 : Vals [V.ref a, y] [Value.ref a, u] := .cons rfl (.cons ry .nil)
  refine wpAny_call (codeAny_mono (F.run X.A X.stack s H ⟨[.ref a, u], []⟩ [.ref a, u] [.ref a, y] _ E hr I.env0 (by
    have := hb s [.ref a, u] I.kIn (by simpa using hl)
    simpa using this) r2 hsp) fun r s' hq => ?_)
  cases r with
  | error e => exact hx pins σ H s e s' I hq
  | ok fl =>
    cases fl with
    | ret w =>
      obtain ⟨z, H', I', rz, b, ez, q⟩ := I.after hq
      subst ez
      cases rz
      exact ⟨.bl b, H', I', rfl, q⟩
    | next => exact False.elim hq
    | brk => exact False.elim hq
    | cont => exact False.elim hq
theorem op_neOwn (F : FnOk X.prog X.w X.K X.mg X.base CX k f fd ps sp) (hr : Room (k + 1) X.A) (o : Meth X.K C "__eq__" f) (c : IsC X.K C) (hb : Binds X.K fd ps []) (hx : Passes CX X E) : OpR X (compareOp .NotEq) (rOwnN X.K C sp E) := by
  intro pins s σ H x y v u Q I rx ry h
  obtain ⟨a, dx, fs, t, rfl, ea, ty, nf, hsp⟩ := h
  obtain rfl : v = Value.ref a := rx
  obtain ⟨mA, J, _⟩ := ins_get I.hok ea
  obtain ⟨od, J, _⟩ := J.look
  obtain ⟨m, hF⟩ := I.fr
  obtain ⟨P, Z, p, _⟩ := kit_of I ry ty
  show wpAny (model X.prog X.w) X.A (richCompare .NotEq (.ref a) u) (EP X pins σ Q) X.xe s
  refine ne_K (tb := t) (by have := hr.un; omega) hF I.ok.mod.kin J (Z.ty _ _ I.kIn p) nf c.ne c.ob o.at_ o.fn ?_
  have hl := F.len _ _ _ _ hsp
  have r2 : Vals [V.ref a, y] [Value.ref a, u] := .cons rfl (.cons ry .nil)
  refine wpAny_call (codeAny_mono (F.run X.A.in1 X.stack s H ⟨[.ref a, u], []⟩ [.ref a, u] [.ref a, y] _ E hr.in1 I.env0.in1 (by
    have := hb s [.ref a, u] I.kIn (by simpa using hl)
    simpa using this) r2 hsp) fun r s' hq => ?_)
  cases r with
  | error e => exact hx pins σ H s e s' I hq
  | ok fl =>
    cases fl with
    | ret w =>
      obtain ⟨z, H', I', rz, b, ez, q⟩ := I.after hq
      subst ez
      cases rz
      exact ⟨b, rfl, .bl (!b), H', I', rfl, q⟩
    | next => exact False.elim hq
    | brk => exact False.elim hq
    | cont => exact False.elim hq
theorem call_reprOwn (F : FnOk X.prog X.w X.K X.mg X.base CX k f fd ps sp) (hr : Room (k + 1) X.A) (o : Meth X.K C "__repr__" f) (hb : Binds X.K fd ps []) (hx : Passes CX X E) :
    CallR X (.builtin "repr") (rReprOwn C sp E) := by
  intro pins s σ H xs us Q I r h
  obtain ⟨a, dx, fs, rfl, ea, hsp⟩ := h
  obtain ⟨u, rfl, ru⟩ := vals1 r
  obtain rfl : u = Value.ref a := ru
  obtain ⟨mA, J, _⟩ := ins_get I.hok ea
  obtain ⟨od, J, _⟩ := J.look
  obtain ⟨m, hF⟩ := I.fr
  refine PySem.W.repr_K hr.in1.units0 hF I.ok.mod.kin J o.at_ o.fn ?_
  have hl := F.len _ _ _ _ hsp
  refine wpAny_call (codeAny_mono (F.run X.A.in1 X.stack s H ⟨[.ref a], []⟩ [.ref a] [.ref a] _ E hr.in1 I.env0.in1 (by
    have := hb s [.ref a] I.kIn (by simpa using hl)
    simpa using this) (.cons rfl .nil) hsp) fun r s' hq => ?_)
  cases r with
  | error e => exact hx pins σ H s e s' I hq
  | ok fl =>
    cases fl with
    | ret w =>
      obtain ⟨z, H', I', rz, y, ez, q⟩ := I.after hq
      subst ez
      obtain ⟨t, rfl⟩ := rz
      exact ⟨.str y, H', I', ⟨t, rfl⟩, q⟩
    | next => exact False.elim hq
    | brk => exact False.elim hq
    | cont => exact False.elim hq
/-- {x}: a text, an int or None -/
def tFmtN (te : TE) : TE := fun σ H Q => te σ H fun x H1 => (∃ y : Str, x = .str y ∧ y.length ≤ sizeLine ∧ Q (.str y) H1) ∨ (∃ i : Int, x = .int i ∧ i.natAbs.log2 < 1920 ∧ Q (.str (toString i)) H1) ∨ (x = .non ∧ Q (.str "None") H1)
theorem pe_fmtN {e : Expr} {te : TE} {pos : Pos} (he : PE X e te) : PE X (.FormattedValue e (-1) none pos) (tFmtN te) := by
  refine ⟨fun pins s σ H Q I h => ?_⟩
  refine wpAny_FormattedValue_plain (thn (he.run pins s σ H _ I h) fun v s1 hv => ?_)
  obtain ⟨x, H1, I1, r1, q⟩ := hv
  rcases q with ⟨y, rfl, hz, q⟩ | ⟨i, rfl, hz, q⟩ | ⟨rfl, q⟩
  · obtain ⟨t, rfl⟩ := r1
    exact wpAny_formatField_str ⟨.str y, H1, I1, ⟨t, rfl⟩, q⟩ ⟨.str y, H1, I1.tok _, ⟨_, rfl⟩, q⟩ hz
  · obtain ⟨t, rfl⟩ := r1
    exact wpAny_formatField_int hz ⟨.str (toString i), H1, I1.tok _, ⟨_, rfl⟩, q⟩
  · cases r1
    exact wpAny_formatField_none ⟨.str "None", H1, I1.tok _, ⟨_, rfl⟩, q⟩
/-- str(None), str(int) -/
def rStrIN : List V → Hp → VK → Prop := fun xs H Q => (∃ i : Int, xs = [.int i] ∧ i.natAbs.log2 < 1920 ∧ Q (.str (toString i)) H) ∨ (xs = [.non] ∧ Q (.str "None") H)
theorem call_strIN : CallR X (.type "str") rStrIN := by
  intro pins s σ H xs us Q I r h
  rcases h with ⟨i, rfl, hz, q⟩ | ⟨rfl, q⟩
  · obtain ⟨u, rfl, t, rfl⟩ := vals1 r
    exact PySem.P.str_of_int hz ⟨.str _, H, I.tok _, ⟨_, rfl⟩, q⟩
  · obtain ⟨u, rfl, ru⟩ := vals1 r
    cases ru
    exact PySem.P.str_of_none ⟨.str _, H, I.tok _, ⟨_, rfl⟩, q⟩
end
end VN

namespace VK
open PySem PySem.Spec PyProof.Rows L2 VM
def top (i : Nat) : Stmt := PySem.Challenge.pw_dueways_k31_stretches.main.body.getD i (.Pass ⟨0, 0, 0, 0⟩)
abbrev s_is_integer : Stmt := top 5
theorem sc_is_integer : FnScope ["value"] ["value"] (defScope s_is_integer) := ⟨rfl, rfl, rfl, by decide +kernel, rfl, by decide +kernel, by decide +kernel⟩
abbrev s_is_count : Stmt := top 6
theorem sc_is_count : FnScope ["value"] ["value"] (defScope s_is_count) := ⟨rfl, rfl, rfl, by decide +kernel, rfl, by decide +kernel, by decide +kernel⟩
abbrev s_is_count_to : Stmt := top 7
theorem sc_is_count_to : FnScope ["value", "most"] ["value", "most"] (defScope s_is_count_to) := ⟨rfl, rfl, rfl, by decide +kernel, rfl, by decide +kernel, by decide +kernel⟩
abbrev s_is_window : Stmt := top 10
theorem sc_is_window : FnScope ["start", "end"] ["start", "end"] (defScope s_is_window) := ⟨rfl, rfl, rfl, by decide +kernel, rfl, by decide +kernel, by decide +kernel⟩
abbrev s_require_window : Stmt := top 11
theorem sc_require_window : FnScope ["start", "end"] ["start", "end"] (defScope s_require_window) := ⟨rfl, rfl, rfl, by decide +kernel, rfl, by decide +kernel, by decide +kernel⟩
abbrev s_urgent_stretch : Stmt := top 13
theorem sc_urgent_stretch : FnScope ["visit", "start", "end"] ["visit", "start", "end"] (defScope s_urgent_stretch) := ⟨rfl, rfl, rfl, by decide +kernel, rfl, by decide +kernel, by decide +kernel⟩
abbrev s_stretch_from : Stmt := top 14
theorem sc_stretch_from : FnScope ["visit", "first", "behind"] ["visit", "first", "behind"] (defScope s_stretch_from) := ⟨rfl, rfl, rfl, by decide +kernel, rfl, by decide +kernel, by decide +kernel⟩
abbrev s_Visit_init : Stmt := inClass (top 17) 0
theorem sc_Visit_init : FnScope ["self", "time", "shift", "begin", "end", "wrong"] ["self", "time", "shift", "begin", "end"] (defScope s_Visit_init) := ⟨rfl, rfl, rfl, by decide +kernel, rfl, by decide +kernel, by decide +kernel⟩
abbrev s_Visit_eq : Stmt := inClass (top 17) 1
theorem sc_Visit_eq : FnScope ["self", "other"] ["self", "other"] (defScope s_Visit_eq) := ⟨rfl, rfl, rfl, by decide +kernel, rfl, by decide +kernel, by decide +kernel⟩
abbrev s_Visit_repr : Stmt := inClass (top 17) 2
theorem sc_Visit_repr : FnScope ["self"] ["self"] (defScope s_Visit_repr) := ⟨rfl, rfl, rfl, by decide +kernel, rfl, by decide +kernel, by decide +kernel⟩
abbrev s_Visit_time : Stmt := inClass (top 17) 3
theorem sc_Visit_time : FnScope ["self"] ["self"] (defScope s_Visit_time) := ⟨rfl, rfl, rfl, by decide +kernel, rfl, by decide +kernel, by decide +kernel⟩
abbrev s_Visit_shift : Stmt := inClass (top 17) 4
theorem sc_Visit_shift : FnScope ["self"] ["self"] (defScope s_Visit_shift) := ⟨rfl, rfl, rfl, by decide +kernel, rfl, by decide +kernel, by decide +kernel⟩
abbrev s_Visit_begin : Stmt := inClass (top 17) 5
theorem sc_Visit_begin : FnScope ["self"] ["self"] (defScope s_Visit_begin) := ⟨rfl, rfl, rfl, by decide +kernel, rfl, by decide +kernel, by decide +kernel⟩
abbrev s_Visit_end : Stmt := inClass (top 17) 6
theorem sc_Visit_end : FnScope ["self"] ["self"] (defScope s_Visit_end) := ⟨rfl, rfl, rfl, by decide +kernel, rfl, by decide +kernel, by decide +kernel⟩
abbrev s_stretch : Stmt := top 18
theorem sc_stretch : FnScope ["visit", "start", "end"] ["visit", "start", "end"] (defScope s_stretch) := ⟨rfl, rfl, rfl, by decide +kernel, rfl, by decide +kernel, by decide +kernel⟩
abbrev s_find_visit_problem : Stmt := top 19
theorem sc_find_visit_problem : FnScope ["time", "shift", "begin", "end"] ["time", "shift", "begin", "end"] (defScope s_find_visit_problem) := ⟨rfl, rfl, rfl, by decide +kernel, rfl, by decide +kernel, by decide +kernel⟩
abbrev s_l_rng : Stmt := top 21
theorem sc_l_rng : FnScope ["_law_script", "_law_k", "_law_cell"] ["_law_script", "_law_k"] (defScope s_l_rng) := ⟨rfl, rfl, rfl, by decide +kernel, rfl, by decide +kernel, by decide +kernel⟩
abbrev s_l_draw : Stmt := top 22
theorem sc_l_draw : FnScope ["_law_rng_here", "_law_many", "_law_digit"] ["_law_rng_here", "_law_many"] (defScope s_l_draw) := ⟨rfl, rfl, rfl, by decide +kernel, rfl, by decide +kernel, by decide +kernel⟩
abbrev s_l_choice : Stmt := top 23
theorem sc_l_choice : FnScope ["_law_rng_here", "_law_some"] ["_law_rng_here", "_law_some"] (defScope s_l_choice) := ⟨rfl, rfl, rfl, by decide +kernel, rfl, by decide +kernel, by decide +kernel⟩
abbrev s_l_parts : Stmt := top 24
theorem sc_l_parts : FnScope ["_law_rng_here", "_law_parts_here"] ["_law_rng_here"] (defScope s_l_parts) := ⟨rfl, rfl, rfl, by decide +kernel, rfl, by decide +kernel, by decide +kernel⟩
abbrev s_l_made : Stmt := top 25
theorem sc_l_made : FnScope ["_law_parts_here"] ["_law_parts_here"] (defScope s_l_made) := ⟨rfl, rfl, rfl, by decide +kernel, rfl, by decide +kernel, by decide +kernel⟩
abbrev s_l_due : Stmt := top 26
theorem sc_l_due : FnScope ["_law_parts_here", "_law_low", "_law_high", "_law_found", "_law_tick", "_law_is_in"] ["_law_parts_here", "_law_low", "_law_high"] (defScope s_l_due) := ⟨rfl, rfl, rfl, by decide +kernel, rfl, by decide +kernel, by decide +kernel⟩
abbrev s_l_told_right : Stmt := top 27
theorem sc_l_told_right : FnScope ["_law_visit", "_law_parts_here", "_law_words"] ["_law_visit", "_law_parts_here"] (defScope s_l_told_right) := ⟨rfl, rfl, rfl, by decide +kernel, rfl, by decide +kernel, by decide +kernel⟩
abbrev s_l_equal_right : Stmt := top 28
theorem sc_l_equal_right : FnScope ["_law_rng_here", "_law_visit", "_law_parts_here", "_law_other", "_law_place", "_law_twin", "_law_near", "_law_thing"] ["_law_rng_here", "_law_visit", "_law_parts_here"] (defScope s_l_equal_right) := ⟨rfl, rfl, rfl, by decide +kernel, rfl, by decide +kernel, by decide +kernel⟩
abbrev s_l_right : Stmt := top 29
theorem sc_l_right : FnScope ["_law_rng_here", "_law_parts_here", "_law_visit", "_law_turn", "_law_low", "_law_high", "_law_due_here", "_law_plain"] ["_law_rng_here"] (defScope s_l_right) := ⟨rfl, rfl, rfl, by decide +kernel, rfl, by decide +kernel, by decide +kernel⟩
abbrev s_law : Stmt := top 30
theorem sc_law : FnScope ["_law_script", "_law_k"] ["_law_script"] (defScope s_law) := ⟨rfl, rfl, rfl, by decide +kernel, rfl, by decide +kernel, by decide +kernel⟩
structure Ad where
  f_is_integer : Addr
  d_is_integer : FuncData
  f_is_count : Addr
  d_is_count : FuncData
  f_is_count_to : Addr
  d_is_count_to : FuncData
  f_is_window : Addr
  d_is_window : FuncData
  f_require_window : Addr
  d_require_window : FuncData
  f_urgent_stretch : Addr
  d_urgent_stretch : FuncData
  f_stretch_from : Addr
  d_stretch_from : FuncData
  f_Visit_init : Addr
  d_Visit_init : FuncData
  f_Visit_eq : Addr
  d_Visit_eq : FuncData
  f_Visit_repr : Addr
  d_Visit_repr : FuncData
  f_Visit_time : Addr
  d_Visit_time : FuncData
  p_Visit_time : Addr
  f_Visit_shift : Addr
  d_Visit_shift : FuncData
  p_Visit_shift : Addr
  f_Visit_begin : Addr
  d_Visit_begin : FuncData
  p_Visit_begin : Addr
  f_Visit_end : Addr
  d_Visit_end : FuncData
  p_Visit_end : Addr
  f_stretch : Addr
  d_stretch : FuncData
  f_find_visit_problem : Addr
  d_find_visit_problem : FuncData
  f_l_rng : Addr
  d_l_rng : FuncData
  f_l_draw : Addr
  d_l_draw : FuncData
  f_l_choice : Addr
  d_l_choice : FuncData
  f_l_parts : Addr
  d_l_parts : FuncData
  f_l_made : Addr
  d_l_made : FuncData
  f_l_due : Addr
  d_l_due : FuncData
  f_l_told_right : Addr
  d_l_told_right : FuncData
  f_l_equal_right : Addr
  d_l_equal_right : FuncData
  f_l_right : Addr
  d_l_right : FuncData
  f_law : Addr
  d_law : FuncData
  Visit : Addr
  t_MAX_TIME : Tok
  t_MAX_TICK : Tok
structure Txt (K : PySem.W.Frag) (mg : Str → Option Value) (A : Ad) : Prop where
  ic_Visit : VN.IsC K A.Visit
  F_is_integer : Fun K "is_integer" "is_integer" s_is_integer A.f_is_integer A.d_is_integer
  m_is_integer : mg "is_integer" = some (.ref A.f_is_integer)
  k_is_integer : PySem.W.keepIn K (.ref A.f_is_integer) = true
  b_is_integer : Binds K A.d_is_integer ["value"] []
  F_is_count : Fun K "is_count" "is_count" s_is_count A.f_is_count A.d_is_count
  m_is_count : mg "is_count" = some (.ref A.f_is_count)
  k_is_count : PySem.W.keepIn K (.ref A.f_is_count) = true
  b_is_count : Binds K A.d_is_count ["value"] []
  F_is_count_to : Fun K "is_count_to" "is_count_to" s_is_count_to A.f_is_count_to A.d_is_count_to
  m_is_count_to : mg "is_count_to" = some (.ref A.f_is_count_to)
  k_is_count_to : PySem.W.keepIn K (.ref A.f_is_count_to) = true
  b_is_count_to : Binds K A.d_is_count_to ["value", "most"] []
  F_is_window : Fun K "is_window" "is_window" s_is_window A.f_is_window A.d_is_window
  m_is_window : mg "is_window" = some (.ref A.f_is_window)
  k_is_window : PySem.W.keepIn K (.ref A.f_is_window) = true
  b_is_window : Binds K A.d_is_window ["start", "end"] []
  F_require_window : Fun K "require_window" "require_window" s_require_window A.f_require_window A.d_require_window
  m_require_window : mg "require_window" = some (.ref A.f_require_window)
  k_require_window : PySem.W.keepIn K (.ref A.f_require_window) = true
  b_require_window : Binds K A.d_require_window ["start", "end"] []
  F_urgent_stretch : Fun K "urgent_stretch" "urgent_stretch" s_urgent_stretch A.f_urgent_stretch A.d_urgent_stretch
  m_urgent_stretch : mg "urgent_stretch" = some (.ref A.f_urgent_stretch)
  k_urgent_stretch : PySem.W.keepIn K (.ref A.f_urgent_stretch) = true
  b_urgent_stretch : Binds K A.d_urgent_stretch ["visit", "start", "end"] []
  F_stretch_from : Fun K "stretch_from" "stretch_from" s_stretch_from A.f_stretch_from A.d_stretch_from
  m_stretch_from : mg "stretch_from" = some (.ref A.f_stretch_from)
  k_stretch_from : PySem.W.keepIn K (.ref A.f_stretch_from) = true
  b_stretch_from : Binds K A.d_stretch_from ["visit", "first", "behind"] []
  F_Visit_eq : Fun K "__eq__" "Visit.__eq__" s_Visit_eq A.f_Visit_eq A.d_Visit_eq
  b_Visit_eq : Binds K A.d_Visit_eq ["self", "other"] []
  me___eq__ : Meth K A.Visit "__eq__" A.f_Visit_eq
  F_Visit_repr : Fun K "__repr__" "Visit.__repr__" s_Visit_repr A.f_Visit_repr A.d_Visit_repr
  b_Visit_repr : Binds K A.d_Visit_repr ["self"] []
  me___repr__ : Meth K A.Visit "__repr__" A.f_Visit_repr
  F_Visit_time : Fun K "time" "Visit.time" s_Visit_time A.f_Visit_time A.d_Visit_time
  b_Visit_time : Binds K A.d_Visit_time ["self"] []
  pr_Visit_time : PropOf K A.Visit "time" A.p_Visit_time A.f_Visit_time
  F_Visit_shift : Fun K "shift" "Visit.shift" s_Visit_shift A.f_Visit_shift A.d_Visit_shift
  b_Visit_shift : Binds K A.d_Visit_shift ["self"] []
  pr_Visit_shift : PropOf K A.Visit "shift" A.p_Visit_shift A.f_Visit_shift
  F_Visit_begin : Fun K "begin" "Visit.begin" s_Visit_begin A.f_Visit_begin A.d_Visit_begin
  b_Visit_begin : Binds K A.d_Visit_begin ["self"] []
  pr_Visit_begin : PropOf K A.Visit "begin" A.p_Visit_begin A.f_Visit_begin
  F_Visit_end : Fun K "end" "Visit.end" s_Visit_end A.f_Visit_end A.d_Visit_end
  b_Visit_end : Binds K A.d_Visit_end ["self"] []
  pr_Visit_end : PropOf K A.Visit "end" A.p_Visit_end A.f_Visit_end
  F_stretch : Fun K "stretch" "stretch" s_stretch A.f_stretch A.d_stretch
  m_stretch : mg "stretch" = some (.ref A.f_stretch)
  k_stretch : PySem.W.keepIn K (.ref A.f_stretch) = true
  b_stretch : Binds K A.d_stretch ["visit", "start", "end"] []
  F_find_visit_problem : Fun K "find_visit_problem" "find_visit_problem" s_find_visit_problem A.f_find_visit_problem A.d_find_visit_problem
  m_find_visit_problem : mg "find_visit_problem" = some (.ref A.f_find_visit_problem)
  k_find_visit_problem : PySem.W.keepIn K (.ref A.f_find_visit_problem) = true
  b_find_visit_problem : Binds K A.d_find_visit_problem ["time", "shift", "begin", "end"] []
  F_l_rng : Fun K "_law_rng" "_law_rng" s_l_rng A.f_l_rng A.d_l_rng
  m_l_rng : mg "_law_rng" = some (.ref A.f_l_rng)
  k_l_rng : PySem.W.keepIn K (.ref A.f_l_rng) = true
  b_l_rng : Binds K A.d_l_rng ["_law_script", "_law_k"] []
  F_l_draw : Fun K "_law_draw" "_law_draw" s_l_draw A.f_l_draw A.d_l_draw
  m_l_draw : mg "_law_draw" = some (.ref A.f_l_draw)
  k_l_draw : PySem.W.keepIn K (.ref A.f_l_draw) = true
  b_l_draw : Binds K A.d_l_draw ["_law_rng_here", "_law_many"] []
  F_l_choice : Fun K "_law_choice" "_law_choice" s_l_choice A.f_l_choice A.d_l_choice
  m_l_choice : mg "_law_choice" = some (.ref A.f_l_choice)
  k_l_choice : PySem.W.keepIn K (.ref A.f_l_choice) = true
  b_l_choice : Binds K A.d_l_choice ["_law_rng_here", "_law_some"] []
  F_l_parts : Fun K "_law_parts" "_law_parts" s_l_parts A.f_l_parts A.d_l_parts
  m_l_parts : mg "_law_parts" = some (.ref A.f_l_parts)
  k_l_parts : PySem.W.keepIn K (.ref A.f_l_parts) = true
  b_l_parts : Binds K A.d_l_parts ["_law_rng_here"] []
  F_l_made : Fun K "_law_made" "_law_made" s_l_made A.f_l_made A.d_l_made
  m_l_made : mg "_law_made" = some (.ref A.f_l_made)
  k_l_made : PySem.W.keepIn K (.ref A.f_l_made) = true
  b_l_made : Binds K A.d_l_made ["_law_parts_here"] []
  F_l_due : Fun K "_law_due" "_law_due" s_l_due A.f_l_due A.d_l_due
  m_l_due : mg "_law_due" = some (.ref A.f_l_due)
  k_l_due : PySem.W.keepIn K (.ref A.f_l_due) = true
  b_l_due : Binds K A.d_l_due ["_law_parts_here", "_law_low", "_law_high"] []
  F_l_told_right : Fun K "_law_told_right" "_law_told_right" s_l_told_right A.f_l_told_right A.d_l_told_right
  m_l_told_right : mg "_law_told_right" = some (.ref A.f_l_told_right)
  k_l_told_right : PySem.W.keepIn K (.ref A.f_l_told_right) = true
  b_l_told_right : Binds K A.d_l_told_right ["_law_visit", "_law_parts_here"] []
  F_l_equal_right : Fun K "_law_equal_right" "_law_equal_right" s_l_equal_right A.f_l_equal_right A.d_l_equal_right
  m_l_equal_right : mg "_law_equal_right" = some (.ref A.f_l_equal_right)
  k_l_equal_right : PySem.W.keepIn K (.ref A.f_l_equal_right) = true
  b_l_equal_right : Binds K A.d_l_equal_right ["_law_rng_here", "_law_visit", "_law_parts_here"] []
  F_l_right : Fun K "_law_right" "_law_right" s_l_right A.f_l_right A.d_l_right
  m_l_right : mg "_law_right" = some (.ref A.f_l_right)
  k_l_right : PySem.W.keepIn K (.ref A.f_l_right) = true
  b_l_right : Binds K A.d_l_right ["_law_rng_here"] []
  F_law : Fun K "law" "law" s_law A.f_law A.d_law
  m_law : mg "law" = some (.ref A.f_law)
  k_law : PySem.W.keepIn K (.ref A.f_law) = true
  b_law : Binds K A.d_law ["_law_script"] []
  abs : mg "abs" = none
  all : mg "all" = none
  bool : mg "bool" = none
  divmod : mg "divmod" = none
  int : mg "int" = none
  isinstance : mg "isinstance" = none
  len : mg "len" = none
  list : mg "list" = none
  max : mg "max" = none
  min : mg "min" = none
  range : mg "range" = none
  repr : mg "repr" = none
  str : mg "str" = none
  tuple : mg "tuple" = none
  v_MAX_TIME : mg "MAX_TIME" = some (.int 12 A.t_MAX_TIME)
  v_MAX_TICK : mg "MAX_TICK" = some (.int 1000 A.t_MAX_TICK)
  m_Visit : mg "Visit" = some (.ref A.Visit)
  clVisit : Cls K A.Visit
  n_time : NoAttr K A.Visit "_time"
  n_shift : NoAttr K A.Visit "_shift"
  n_begin : NoAttr K A.Visit "_begin"
  n_end : NoAttr K A.Visit "_end"
  F_Visit_init : FunD K "__init__" "Visit.__init__" (defArgs s_Visit_init) (defBody s_Visit_init) (defScope s_Visit_init) [] [("shift", .int 0), ("begin", .int 0), ("end", .non)] A.f_Visit_init A.d_Visit_init
  M_Visit : Mk K A.Visit A.f_Visit_init
/-! ### counts -/
/-- the built-in classes of the values that occur -/
def kinds : List String := ["NoneType", "bool", "int", "str", "list", "tuple", "dict"]
def Kd (K : PySem.W.Frag) (H : Hp) (v : V) (n : String) : Prop := TyX K H v (.type n) ∧ n ∈ kinds
theorem Kd.int {K : PySem.W.Frag} {H : Hp} (i : Int) : Kd K H (.int i) "int" := ⟨.base (.int i), by decide⟩
theorem Kd.is_int {K : PySem.W.Frag} {H : Hp} {v : V} (h : Kd K H v "int") : ∃ i, v = .int i := by
  obtain ⟨h, _⟩ := h
  generalize e : Value.type "int" = t at h
  cases h with
  | base b => cases b <;> first | exact ⟨_, rfl⟩ | (injection e with e; exact absurd e (by decide)) | cases e
  | _ => first | (injection e with e; exact absurd e (by decide)) | cases e
/-- a count -/
def cnt : V → Bool
  | .int i => decide (0 ≤ i)
  | _ => false
def cntTo (m : Int) : V → Bool
  | .int i => decide (0 ≤ i ∧ i ≤ m)
  | _ => false
def sp_is_integer (K : PySem.W.Frag) (_ : Ad) : Sp := fun vs H Q _ => ∃ v n, vs = [v] ∧ Kd K H v n ∧ Q (.bl (n == "int")) H
def sp_is_count (K : PySem.W.Frag) (_ : Ad) : Sp := fun vs H Q _ => ∃ v n, vs = [v] ∧ Kd K H v n ∧ Q (.bl (cnt v)) H
def sp_is_count_to (K : PySem.W.Frag) (_ : Ad) : Sp := fun vs H Q _ => ∃ v n m, vs = [v, .int m] ∧ Kd K H v n ∧ Q (.bl (cntTo m v)) H
section
variable {P : Program} {w : World} {K : PySem.W.Frag} {mg : Str → Option Value} {base : Heap} {A : Ad}
theorem kitI {n : String} (h : n ∈ kinds) : PySem.W.kitOne K (.type n) (.type "int") = some (n == "int" || n == "bool") := by
  simp only [kinds, List.mem_cons, List.not_mem_nil, or_false] at h
  rcases h with rfl | rfl | rfl | rfl | rfl | rfl | rfl <;> exact kit_ty (by decide +kernel)
theorem kitB' {n : String} (h : n ∈ kinds) : PySem.W.kitOne K (.type n) (.type "bool") = some (n == "bool") := by
  simp only [kinds, List.mem_cons, List.not_mem_nil, or_false] at h
  rcases h with rfl | rfl | rfl | rfl | rfl | rfl | rfl <;> exact kit_ty (by decide +kernel)
theorem ok_is_integer (T : Txt K mg A) : FnOk P w K mg base CX0 1 A.f_is_integer A.d_is_integer ["value"] (sp_is_integer K A) := by
  refine T.F_is_integer.ok sc_is_integer (fun vs H Q E h => ?_) (fun cdv A0 outer s H vs Q E hr h => ?_)
  · obtain ⟨v, n, rfl, hk, q⟩ := h
    rfl
  · obtain ⟨v, n, rfl, hk, q⟩ := h
    refine ⟨_, (pss_one (ps_ret (pe_and (pe_callB (r := rIsi K) call_isi (by rfl) T.isinstance (by decide +kernel) (pa_cons (pv 0) (pa_cons (pe_bltn (v := .ty "int") (u := .type "int") (by rfl) T.int (by decide +kernel) (by exact rfl)) pa_nil))) (pe_one (pe_not (pe_callB (r := rIsi K) call_isi (by rfl) T.isinstance (by decide +kernel) (pa_cons (pv 0) (pa_cons (pe_bltn (v := .ty "bool") (u := .type "bool") (by rfl) T.bool (by decide +kernel) (by exact rfl)) pa_nil)))))))), ?_⟩
    refine ⟨_, rfl, v, .ty "int", _, _, _, rfl, .ty _, hk.1, kitI hk.2, _, rfl, ?_⟩
    refine ite2 (fun c => ?_) (fun c => ?_)
    · refine ⟨_, rfl, v, .ty "bool", _, _, _, rfl, .ty _, hk.1, kitB' hk.2, _, rfl, ?_⟩
      by_cases e : n = "bool"
      · subst e; exact q
      · have e1 : (n == "bool") = false := by simpa using e
        rw [e1] at c ⊢
        simp at c
        subst c
        exact q
    · simp at c
      have e1 : (n == "int") = false := by simpa using c.1
      rw [e1] at q
      exact q
theorem ok_is_count (T : Txt K mg A) : FnOk P w K mg base CX0 2 A.f_is_count A.d_is_count ["value"] (sp_is_count K A) := by
  have G_is_integer := ok_is_integer (P := P) (w := w) (base := base) T
  refine T.F_is_count.ok sc_is_count (fun vs H Q E h => ?_) (fun cdv A0 outer s H vs Q E hr h => ?_)
  · obtain ⟨v, n, rfl, hk, q⟩ := h
    rfl
  · obtain ⟨v, n, rfl, hk, q⟩ := h
    refine ⟨_, (pss_one (ps_ret (pe_and (pe_call G_is_integer (hr.mono (by decide)) rfl T.m_is_integer T.k_is_integer T.b_is_integer .nil pass0 (pa_cons (pv 0) pa_nil)) (pe_one (pe_cmpR op_ge (pv 0) pe_int (nomark _)))))), ?_⟩
    refine ⟨_, rfl, v, n, rfl, hk, _, rfl, ?_⟩
    refine ite2 (fun c => ?_) (fun c => ?_)
    · have e : n = "int" := by simpa using c
      subst e
      obtain ⟨i, rfl⟩ := hk.is_int
      exact ⟨_, rfl, _, _, rfl, rfl, q⟩
    · have e : cnt v = false := by
        cases v <;> first | rfl | skip
        obtain ⟨h, _⟩ := hk
        generalize et : Value.type n = t at h
        cases h with
        | base b => cases b; injection et with et; subst et; exact absurd rfl c
      rw [e] at q
      exact q
theorem ok_is_count_to (T : Txt K mg A) : FnOk P w K mg base CX0 3 A.f_is_count_to A.d_is_count_to ["value", "most"] (sp_is_count_to K A) := by
  have G_is_count := ok_is_count (P := P) (w := w) (base := base) T
  refine T.F_is_count_to.ok sc_is_count_to (fun vs H Q E h => ?_) (fun cdv A0 outer s H vs Q E hr h => ?_)
  · obtain ⟨v, n, m, rfl, hk, q⟩ := h
    rfl
  · obtain ⟨v, n, m, rfl, hk, q⟩ := h
    refine ⟨_, (pss_one (ps_ret (pe_and (pe_call G_is_count (hr.mono (by decide)) rfl T.m_is_count T.k_is_count T.b_is_count .nil pass0 (pa_cons (pv 0) pa_nil)) (pe_one (pe_cmpR op_le (pv 0) (pv 1) (nomark _)))))), ?_⟩
    refine ⟨_, rfl, v, n, rfl, hk, _, rfl, ?_⟩
    refine ite2 (fun c => ?_) (fun c => ?_)
    · cases v with
      | int i =>
        have c : 0 ≤ i := by simpa [cnt] using c
        refine ⟨_, rfl, _, rfl, _, _, rfl, rfl, ?_⟩
        have e : cntTo m (.int i) = decide (i ≤ m) := by unfold cntTo; simp [c]
        rw [e] at q
        exact q
      | _ => simp [cnt] at c
    · have e : cntTo m v = false := by
        cases v <;> first | rfl | skip
        rename_i i
        have c : ¬ 0 ≤ i := by simpa [cnt] using c
        unfold cntTo; simp [c]
      rw [e] at q
      exact q
end
end VK


namespace VK
open PySem PySem.Spec PyProof.Rows L2 VM
theorem getD_map {xs : List Int} {j : Nat} (h : j < xs.length) : (xs.map V.int)[j]? = some (.int (xs.getD j 0)) := by
  rw [List.getElem?_map, List.getD_eq_getElem?_getD, List.getElem?_eq_getElem h]
  rfl
theorem at_map {xs : List Int} {i : Int} (h0 : 0 ≤ i) (h : i < xs.length) : atI (xs.map V.int) i = some (.int (xs.getD i.toNat 0)) := by
  have e : i = ((i.toNat : Nat) : Int) := by omega
  rw [e]
  exact atI_nat (getD_map (by omega))
theorem at_back {xs : List Int} {i : Int} (h0 : i < 0) (h : -(xs.length : Int) ≤ i) : atI (xs.map V.int) i = some (.int (xs.getD (i + xs.length).toNat 0)) := by
  unfold atI ixN
  rw [if_neg (by omega), List.length_map, if_pos h]
  show (xs.map V.int)[_]? = _
  exact getD_map (by omega)
theorem deq_int {a b : Int} : decide (V.int a = V.int b) = decide (a = b) := by
  by_cases h : a = b
  · subst h; simp
  · rw [decide_eq_false h, decide_eq_false (fun q => h (V.int.inj q))]
/-- a test of two ints on equality -/
theorem ifEq {a b : Int} {X Y : Prop} (h1 : a = b → X) (h2 : a ≠ b → Y) : if decide (V.int a = V.int b) = true then X else Y := by
  rw [deq_int]
  exact ite2 (fun c => h1 (of_decide_eq_true c)) fun c => h2 fun e => c (decide_eq_true e)
theorem ifD {c X Y : Prop} [Decidable c] (h1 : c → X) (h2 : ¬ c → Y) : if decide c = true then X else Y :=
  ite2 (fun e => h1 (of_decide_eq_true e)) fun e => h2 fun q => e (decide_eq_true q)
theorem small {n : Nat} (h : n ≤ 16777215) : n < sizeLine := by rw [sizeLine_eq]; omega
/-- a new object leaves what was tracked -/
theorem Same.upd {H H' : Hp} {p : Addr} {o : HO} (e : Same H H') (h : H p = none) : Same H (upd H' p o) := fun b u q => by
  rw [upd_ne (ne_of_none q h)]; exact e b u q
theorem nth_map {xs : List Int} {i : Nat} {x : V} (h : (xs.map V.int)[i]? = some x) : i < xs.length ∧ x = .int (xs.getD i 0) := by
  have hi : i < xs.length := by
    have := (List.getElem?_eq_some_iff.mp h).1
    rw [List.length_map] at this
    exact this
  rw [getD_map hi] at h
  exact ⟨hi, (Option.some.inj h).symm⟩
theorem iteNS' {c A B : Prop} [Decidable c] (hc : c) (h : B) : if (!decide c) = true then A else B := by
  rw [decide_eq_true hc]; exact iteF h
theorem SqTs {K : PySem.W.Frag} {H H' : Hp} {a : Addr} {xs : List V} (h : SqT K H a xs) (e : Same H H') : SqT K H' a xs := by
  rcases h with (h | ⟨o, h⟩) | h
  · exact .inl (.inl (e _ _ h))
  · exact .inl (.inr ⟨o, e _ _ h⟩)
  · exact .inr h
theorem DpS2 {K : PySem.W.Frag} {H H' : Hp} (e : Same H H') : ∀ n, (∀ d v, sizeOf d < n → Dp K H v d → Dp K H' v d) ∧ (∀ ds vs, sizeOf ds < n → DpAll K H vs ds → DpAll K H' vs ds) := by
  intro n
  induction n with
  | zero => exact ⟨fun _ _ h => absurd h (Nat.not_lt_zero _), fun _ _ h => absurd h (Nat.not_lt_zero _)⟩
  | succ n ih =>
    refine ⟨fun d v hz h => ?_, fun ds vs hz h => ?_⟩
    · cases h with
      | non => exact .non
      | bl b => exact .bl b
      | int i => exact .int i
      | str x => exact .str x
      | lst h1 h2 => exact .lst (e.seq h1) (ih.2 _ _ (by simp at hz; omega) h2)
      | tup h1 h2 => exact .tup (SqTs h1 e) (ih.2 _ _ (by simp at hz; omega) h2)
    · cases h with
      | nil => exact .nil
      | cons h1 h2 => exact .cons (ih.1 _ _ (by simp at hz; omega) h1) (ih.2 _ _ (by simp at hz; omega) h2)
theorem DpS {K : PySem.W.Frag} {H H' : Hp} {d : PyData} {v : V} (h : Dp K H v d) (e : Same H H') : Dp K H' v d := (DpS2 e (sizeOf d + 1)).1 d v (Nat.lt_succ_self _) h
theorem dstr {a b : Str} (h : a = b) : (V.str a) = V.str b := by rw [h]
/-- a pair as a value: None, or a new tuple -/
def Duo (H H' : Hp) (v : V) : Option (Int × Int) → Prop
  | none => v = .non
  | some (a, b) => ∃ t, v = .ref t ∧ H t = none ∧ H' t = some (.tup [.int a, .int b])
/-- the data of a pair -/
def dDuo : Option (Int × Int) → PyData
  | none => .none
  | some (a, b) => .tuple [.int a, .int b]
theorem Duo.dp {K : PySem.W.Frag} {H H' H2 : Hp} {v : V} {o : Option (Int × Int)} (h : Duo H H' v o) (s : Same H' H2) : Dp K H2 v (dDuo o) := by
  cases o with
  | none => cases h; exact .non
  | some z =>
    obtain ⟨a, b⟩ := z
    obtain ⟨t, rfl, _, h⟩ := h
    exact .tup (SqT.of (s _ _ h)) (.cons (.int a) (.cons (.int b) .nil))
theorem pair_sz {a b : Int} (ha : a.natAbs ≤ 1000) (hb : b.natAbs ≤ 1000) : VR.Sz 1 400 (.tuple [.int a, .int b]) := by
  have p1 : (1000 : Nat) < 10 ^ 100 := by decide +kernel
  refine (VR.Sz.tuple (k := 0) (L := 101) (n := 2) (fun d hd => ?_) (Nat.le_refl _)).mono (by decide) (by decide)
  simp only [List.mem_cons, List.not_mem_nil, or_false] at hd
  rcases hd with rfl | rfl
  · exact .int (Nat.lt_of_le_of_lt ha p1)
  · exact .int (Nat.lt_of_le_of_lt hb p1)
theorem duo_sz {o : Option (Int × Int)} (h : ∀ a b, o = some (a, b) → a.natAbs ≤ 1000 ∧ b.natAbs ≤ 1000) : VR.Sz 1 400 (dDuo o) := by
  cases o with
  | none => exact VR.Sz.none.mono (by decide) (by decide)
  | some z =>
    obtain ⟨a, b⟩ := z
    obtain ⟨h1, h2⟩ := h a b rfl
    exact pair_sz h1 h2
end VK


namespace VK
open PySem PySem.Spec PyProof.Rows L2 VM
/-- the state of draws at r -/
def Rng (H : Hp) (r : Addr) : Prop := ∃ a b : Int, H r = some (.lst [.int a, .int b]) ∧ 0 ≤ a ∧ 0 ≤ b ∧ b < 2147483563
/-- all but the state of draws stands -/
structure Ext (r : Addr) (H H' : Hp) : Prop where
  keep : ∀ b o, b ≠ r → H b = some o → H' b = some o
  rng : Rng H' r
theorem Ext.refl {r : Addr} {H : Hp} (h : Rng H r) : Ext r H H := ⟨fun _ _ _ e => e, h⟩
theorem Ext.trans {r : Addr} {H H1 H2 : Hp} (a : Ext r H H1) (b : Ext r H1 H2) : Ext r H H2 := ⟨fun c o n e => b.keep c o n (a.keep c o n e), b.rng⟩
theorem Rng.same {r : Addr} {H H' : Hp} (h : Rng H r) (s : Same H H') : Rng H' r := by
  obtain ⟨a, b, e, h1, h2, h3⟩ := h
  exact ⟨a, b, s _ _ e, h1, h2, h3⟩
theorem Ext.of {r : Addr} {H H' : Hp} (h : Rng H r) (s : Same H H') : Ext r H H' := ⟨fun b o _ e => s b o e, h.same s⟩
theorem Ext.same {r : Addr} {H H1 H2 : Hp} (a : Ext r H H1) (s : Same H1 H2) : Ext r H H2 := a.trans (.of a.rng s)
theorem Ext.free {r : Addr} {H H' : Hp} {l : Addr} (e : Ext r H H') (h : H' l = none) : H l = none := by
  have n : l ≠ r := fun z => by
    obtain ⟨a, b, q, _⟩ := e.rng
    rw [z, q] at h; cases h
  cases q : H l with
  | none => rfl
  | some o => rw [e.keep l o n q] at h; cases h
theorem Ext.seq {K : PySem.W.Frag} {r : Addr} {H H' : Hp} {a : Addr} {xs : List V} (e : Ext r H H') (n : a ≠ r) (h : SqL K H a xs) : SqL K H' a xs := by
  rcases h with (h | ⟨o, h⟩) | h
  · exact .inl (.inl (e.keep _ _ n h))
  · exact .inl (.inr ⟨o, e.keep _ _ n h⟩)
  · exact .inr h
theorem Rng.ne {r l : Addr} {H : Hp} (h : Rng H r) (hl : H l = none) : l ≠ r := fun z => by
  obtain ⟨a, b, q, _⟩ := h
  rw [z, q] at hl; cases hl
def sp_l_rng (K : PySem.W.Frag) (_ : Ad) : Sp := fun vs H Q _ => ∃ (a : Addr) (ns : List Int) (k : Int), vs = [.ref a, .int k] ∧ SqL K H a (ns.map V.int) ∧ 0 ≤ k ∧ k ≤ 100 ∧
  ∀ H' p, Same H H' → H p = none → Rng H' p → Q (.ref p) H'
def sp_l_draw (_ : PySem.W.Frag) (_ : Ad) : Sp := fun vs H Q _ => ∃ (r : Addr) (m : Int), vs = [.ref r, .int m] ∧ Rng H r ∧ 0 < m ∧ m < 1073741824 ∧
  ∀ H' d, Ext r H H' → 0 ≤ d → d < m → Q (.int d) H'
def sp_l_choice (K : PySem.W.Frag) (_ : Ad) : Sp := fun vs H Q _ => ∃ (r l : Addr) (ys : List V), vs = [.ref r, .ref l] ∧ Rng H r ∧ SqL K H l ys ∧ l ≠ r ∧ 0 < ys.length ∧ ys.length < 1000000 ∧
  ∀ H' v, Ext r H H' → v ∈ ys → Q v H'
section
variable {P : Program} {w : World} {K : PySem.W.Frag} {mg : Str → Option Value} {base : Heap} {A : Ad}
theorem ok_l_rng (T : Txt K mg A) : FnOk P w K mg base CX0 1 A.f_l_rng A.d_l_rng ["_law_script", "_law_k"] (sp_l_rng K A) := by
  refine T.F_l_rng.ok sc_l_rng (fun vs H Q E h => ?_) (fun cdv A0 outer s H vs Q E hr h => ?_)
  · obtain ⟨a, ns, k, rfl, hS, hk, hk2, q⟩ := h
    rfl
  · obtain ⟨a, ns, k, rfl, hS, hk, hk2, q⟩ := h
    refine ⟨_, (pss_cons (ps_set (i := 2) sc_l_rng.nd rfl (by first | exact Or.inl rfl | exact Or.inr rfl) (pe_op op_add (pe_op op_mul pe_int (pv 1)) pe_int))
    (pss_cons (ps_if (pt_cmpR op_lt (pv 1) (pe_callB (r := VG.rLen K) VG.call_len (by rfl) T.len (by decide +kernel) (pa_cons (pv 0) pa_nil)) (nomark _)) (pss_one (ps_set (i := 2) sc_l_rng.nd rfl (by first | exact Or.inl rfl | exact Or.inr rfl) (pe_ix (r := rIxL K) ix_list (pv 0) (pv 1) (fun _ _ => rfl)))) pss_nil)
    (pss_one (ps_ret (pe_lst (pa_cons (pe_callB (call_max2 rfl) (by rfl) T.max (by decide +kernel) (pa_cons pe_int (pa_cons (pe_op op_sub (pe_callB call_abs (by rfl) T.abs (by decide +kernel) (pa_cons (pv 2) pa_nil)) (pe_op op_pow pe_int pe_int)) pa_nil))) (pa_cons (pe_op op_add (pe_op op_mod (pe_op op_mul (pe_callTy call_int1 (by rfl) T.int (by decide +kernel) (pa_cons (pe_op op_add (pe_op op_mod (pe_callTy call_int1 (by rfl) T.int (by decide +kernel) (pa_cons (pe_callB call_abs (by rfl) T.abs (by decide +kernel) (pa_cons (pv 2) pa_nil)) pa_nil)) pe_int) pe_int) pa_nil)) (pe_op op_pow (pe_op op_add (pe_op op_mul pe_int (pv 1)) pe_int) pe_int)) pe_int) pe_int) pa_nil))))))), ?_⟩
    refine ⟨_, rfl, _, _, rfl, rfl, .inl ⟨by decide, by decide⟩, _, _, rfl, rfl, ?_⟩
    refine ⟨_, rfl, _, rfl, a, _, rfl, .inl hS, _, _, rfl, rfl, _, rfl, ?_⟩
    rw [List.length_map]
    have b1 : (2 * k + 5).natAbs < 2 ^ 64 := by omega
    refine ifD (fun c => ?_) (fun c => ?_)
    · refine ⟨_, rfl, _, rfl, a, _, _, _, rfl, rfl, hS, at_map hk c, ?_⟩
      generalize ns.getD k.toNat 0 = c0
      refine ⟨_, rfl, _, rfl, _, _, rfl, rfl, ⟨by decide, by decide, by decide⟩, _, _, rfl, rfl, _, _, rfl, ?_⟩
      have z1 := Int.emod_nonneg (if c0 < 0 then -c0 else c0) (show (2147483549 : Int) ≠ 0 by decide)
      have z2 := Int.emod_lt_of_pos (if c0 < 0 then -c0 else c0) (show (0 : Int) < 2147483549 by decide)
      refine ⟨_, rfl, _, rfl, .inl ⟨_, rfl, _, _, rfl, rfl, (by show (0 : Int) < 2147483549; decide), _, _, rfl, rfl, .inl ⟨_, rfl, _, rfl, _, _, rfl, rfl, .inl ⟨by decide, by decide⟩, _, _, rfl, rfl, _, _, rfl, rfl, ⟨by decide, by decide, b1⟩, _, _, rfl, rfl, .inl ⟨by omega, by omega⟩, _, _, rfl, rfl, (by show (0 : Int) < 2147483543; decide), _, _, rfl, rfl, (by show 2 ≤ sizeLine; decide), fun p hp => ?_⟩⟩⟩
      have z3 := Int.emod_nonneg (((if c0 < 0 then -c0 else c0) % 2147483549 + 1) * (2 * k + 5) ^ Int.toNat 3) (show (2147483543 : Int) ≠ 0 by decide)
      have z4 := Int.emod_lt_of_pos (((if c0 < 0 then -c0 else c0) % 2147483549 + 1) * (2 * k + 5) ^ Int.toNat 3) (show (0 : Int) < 2147483543 by decide)
      refine q _ p (Same.upd (Same.refl H) hp) hp ⟨_, _, upd_same, ?_, by omega, by omega⟩
      by_cases cc : (if c0 < 0 then -c0 else c0) - 10 ^ Int.toNat 18 > 0
      · rw [if_pos cc]; omega
      · rw [if_neg cc]; omega
    · refine ⟨_, rfl, _, rfl, _, _, rfl, rfl, ⟨by decide, by decide, by decide⟩, _, _, rfl, rfl, _, _, rfl, ?_⟩
      have z1 := Int.emod_nonneg (if (7 * k + 3) < 0 then -(7 * k + 3) else (7 * k + 3)) (show (2147483549 : Int) ≠ 0 by decide)
      have z2 := Int.emod_lt_of_pos (if (7 * k + 3) < 0 then -(7 * k + 3) else (7 * k + 3)) (show (0 : Int) < 2147483549 by decide)
      refine ⟨_, rfl, _, rfl, .inl ⟨_, rfl, _, _, rfl, rfl, (by show (0 : Int) < 2147483549; decide), _, _, rfl, rfl, .inl ⟨_, rfl, _, rfl, _, _, rfl, rfl, .inl ⟨by decide, by decide⟩, _, _, rfl, rfl, _, _, rfl, rfl, ⟨by decide, by decide, b1⟩, _, _, rfl, rfl, .inl ⟨by omega, by omega⟩, _, _, rfl, rfl, (by show (0 : Int) < 2147483543; decide), _, _, rfl, rfl, (by show 2 ≤ sizeLine; decide), fun p hp => ?_⟩⟩⟩
      have z3 := Int.emod_nonneg (((if (7 * k + 3) < 0 then -(7 * k + 3) else (7 * k + 3)) % 2147483549 + 1) * (2 * k + 5) ^ Int.toNat 3) (show (2147483543 : Int) ≠ 0 by decide)
      have z4 := Int.emod_lt_of_pos (((if (7 * k + 3) < 0 then -(7 * k + 3) else (7 * k + 3)) % 2147483549 + 1) * (2 * k + 5) ^ Int.toNat 3) (show (0 : Int) < 2147483543 by decide)
      refine q _ p (Same.upd (Same.refl H) hp) hp ⟨_, _, upd_same, ?_, by omega, by omega⟩
      by_cases cc : (if (7 * k + 3) < 0 then -(7 * k + 3) else (7 * k + 3)) - 10 ^ Int.toNat 18 > 0
      · rw [if_pos cc]; omega
      · rw [if_neg cc]; omega
theorem ok_l_draw (T : Txt K mg A) : FnOk P w K mg base CX0 1 A.f_l_draw A.d_l_draw ["_law_rng_here", "_law_many"] (sp_l_draw K A) := by
  refine T.F_l_draw.ok sc_l_draw (fun vs H Q E h => ?_) (fun cdv A0 outer s H vs Q E hr h => ?_)
  · obtain ⟨r, m, rfl, ⟨a, b, hr0, ha, hb, hb2⟩, hm, hm2, q⟩ := h
    rfl
  · obtain ⟨r, m, rfl, ⟨a, b, hr0, ha, hb, hb2⟩, hm, hm2, q⟩ := h
    refine ⟨_, (pss_cons (ps_if (pt_cmpR op_gt (pe_ix (r := rIxL K) ix_list (pv 0) pe_int (fun _ _ => rfl)) pe_int (nomark _)) (pss_cons (ps_asg (pe_callB call_divmod (by rfl) T.divmod (by decide +kernel) (pa_cons (pe_ix (r := rIxL K) ix_list (pv 0) pe_int (fun _ _ => rfl)) (pa_cons (pv 1) pa_nil))) (pg_tup rfl (pgs_cons (pg_sub (pv 0) pe_int set_list) (pgs_cons (pg_name (i := 2) sc_l_draw.nd rfl (by first | exact Or.inl rfl | exact Or.inr rfl)) pgs_nil))))
    (pss_one (ps_ret (pv 2)))) pss_nil)
    (pss_cons (ps_asg (pe_op op_mod (pe_callTy call_int1 (by rfl) T.int (by decide +kernel) (pa_cons (pe_op op_add (pe_op op_mul (pe_ix (r := rIxL K) ix_list (pv 0) pe_int (fun _ _ => rfl)) pe_int) pe_int) pa_nil)) pe_int) (pg_sub (pv 0) pe_int set_list))
    (pss_one (ps_ret (pe_op op_mod (pe_op op_fdiv (pe_op op_mod (pe_callTy call_int1 (by rfl) T.int (by decide +kernel) (pa_cons (pe_op op_mul (pe_ix (r := rIxL K) ix_list (pv 0) pe_int (fun _ _ => rfl)) (pe_ix (r := rIxL K) ix_list (pv 0) pe_int (fun _ _ => rfl))) pa_nil)) pe_int) pe_int) (pv 1)))))), ?_⟩
    refine ⟨_, rfl, r, _, _, _, rfl, rfl, SqL.of hr0, rfl, _, _, rfl, rfl, _, rfl, ifD (fun c => ?_) (fun c => ?_)⟩
    · refine ⟨_, rfl, r, _, _, _, rfl, rfl, SqL.of hr0, rfl, _, rfl, _, _, rfl, ⟨hm, hm2⟩, fun t ht => ?_⟩
      have nrt : r ≠ t := ne_of_none hr0 ht
      refine ⟨t, _, rfl, SqT.of upd_same, rfl, _, _, rfl, _, rfl, r, _, _, 0, rfl, rfl, (by rw [upd_ne nrt]; exact hr0), rfl, _, _, rfl, rfl, ?_⟩
      refine ⟨_, rfl, q _ _ ⟨fun z o hz e => ?_, a / m, b, upd_same, Int.ediv_nonneg ha (by omega), hb, hb2⟩ (Int.emod_nonneg _ (by omega)) (Int.emod_lt_of_pos _ hm)⟩
      rw [upd_ne hz, upd_ne (ne_of_none e ht)]; exact e
    · refine ⟨_, rfl, r, _, _, _, rfl, rfl, SqL.of hr0, rfl, _, _, rfl, rfl, .inl ⟨by omega, by omega⟩, _, _, rfl, rfl, .inl ⟨_, rfl, _, _, rfl, rfl, (by show (0 : Int) < 2147483563; decide), ?_⟩⟩
      have e0 := Int.emod_nonneg (b * 48311 + 20011) (show (2147483563 : Int) ≠ 0 by decide)
      have e1 := Int.emod_lt_of_pos (b * 48311 + 20011) (show (0 : Int) < 2147483563 by decide)
      refine ⟨_, rfl, r, _, _, 1, rfl, rfl, hr0, rfl, ?_⟩
      have hr1 : upd H r (.lst [.int a, .int ((b * 48311 + 20011) % 2147483563)]) r = some (.lst [.int a, .int ((b * 48311 + 20011) % 2147483563)]) := upd_same
      refine ⟨_, rfl, r, [.int a, .int ((b * 48311 + 20011) % 2147483563)], _, _, rfl, rfl, SqL.of hr1, rfl, _, rfl, r, [.int a, .int ((b * 48311 + 20011) % 2147483563)], _, _, rfl, rfl, SqL.of hr1, rfl, _, _, rfl, rfl, .inl ⟨by omega, by omega⟩, .inl ⟨_, rfl, _, _, rfl, rfl, (by show (0 : Int) < 2147483497; decide), _, _, rfl, rfl, ⟨by decide, by decide⟩, _, rfl, _, _, rfl, rfl, hm, ?_⟩⟩
      exact q _ _ ⟨fun z o hz e => by rw [upd_ne hz]; exact e, a, _, hr1, ha, e0, e1⟩ (Int.emod_nonneg _ (by omega)) (Int.emod_lt_of_pos _ hm)
theorem ok_l_choice (T : Txt K mg A) : FnOk P w K mg base CX0 2 A.f_l_choice A.d_l_choice ["_law_rng_here", "_law_some"] (sp_l_choice K A) := by
  have G_l_draw := ok_l_draw (P := P) (w := w) (base := base) T
  refine T.F_l_choice.ok sc_l_choice (fun vs H Q E h => ?_) (fun cdv A0 outer s H vs Q E hr h => ?_)
  · obtain ⟨r, l, ys, rfl, hr0, hS, hl, hy, hy2, q⟩ := h
    rfl
  · obtain ⟨r, l, ys, rfl, hr0, hS, hl, hy, hy2, q⟩ := h
    refine ⟨_, (pss_one (ps_ret (pe_ix (r := rIxL K) ix_list (pv 1) (pe_call G_l_draw (hr.mono (by decide)) rfl T.m_l_draw T.k_l_draw T.b_l_draw .nil pass0 (pa_cons (pv 0) (pa_cons (pe_callB (r := VG.rLen K) VG.call_len (by rfl) T.len (by decide +kernel) (pa_cons (pv 1) pa_nil)) pa_nil))) (fun _ _ => rfl)))), ?_⟩
    refine ⟨_, rfl, _, rfl, _, rfl, l, _, rfl, .inl hS, r, _, rfl, hr0, by omega, by omega, fun H1 d e1 h0 h1 => ?_⟩
    have hd : d.toNat < ys.length := by omega
    refine ⟨l, ys, d, ys[d.toNat], rfl, rfl, e1.seq hl hS, ?_, q H1 _ e1 (List.getElem_mem hd)⟩
    exact at_of (j := d.toNat) (by omega) (List.getElem?_eq_getElem hd)
end
end VK


namespace VK
open PySem PySem.Spec PyProof.Rows L2 VM
/-- an end, or None -/
def oV : Option Int → V
  | none => .non
  | some i => .int i
/-- the attributes of a visit -/
def vfs (t s b : Int) (e : V) : List (Str × V) := [("_time", V.int t), ("_shift", V.int s), ("_begin", V.int b), ("_end", e)]
theorem v_ts : ¬ (("_time" : Str) = "_shift") := by decide +kernel
theorem v_tb : ¬ (("_time" : Str) = "_begin") := by decide +kernel
theorem v_te : ¬ (("_time" : Str) = "_end") := by decide +kernel
theorem v_sb : ¬ (("_shift" : Str) = "_begin") := by decide +kernel
theorem v_se : ¬ (("_shift" : Str) = "_end") := by decide +kernel
theorem v_be : ¬ (("_begin" : Str) = "_end") := by decide +kernel
theorem vput1 (v : V) : putF "_time" v [] = [(("_time" : Str), v)] := rfl
theorem vput2 (v u : V) : putF "_shift" u [(("_time" : Str), v)] = [(("_time" : Str), v), ("_shift", u)] := by
  show (if ("_time" : Str) = "_shift" then _ else (("_time" : Str), v) :: putF "_shift" u []) = _
  rw [if_neg v_ts]
  rfl
theorem vput3 (v u z : V) : putF "_begin" z [(("_time" : Str), v), ("_shift", u)] = [(("_time" : Str), v), ("_shift", u), ("_begin", z)] := by
  show (if ("_time" : Str) = "_begin" then _ else (("_time" : Str), v) :: (if ("_shift" : Str) = "_begin" then _ else (("_shift" : Str), u) :: putF "_begin" z [])) = _
  rw [if_neg v_tb, if_neg v_sb]
  rfl
theorem vput4 (v u z y : V) : putF "_end" y [(("_time" : Str), v), ("_shift", u), ("_begin", z)] = [(("_time" : Str), v), ("_shift", u), ("_begin", z), ("_end", y)] := by
  show (if ("_time" : Str) = "_end" then _ else (("_time" : Str), v) :: (if ("_shift" : Str) = "_end" then _ else (("_shift" : Str), u) :: (if ("_begin" : Str) = "_end" then _ else (("_begin" : Str), z) :: putF "_end" y []))) = _
  rw [if_neg v_te, if_neg v_se, if_neg v_be]
  rfl
theorem vfs_t (t s b : Int) (e : V) : (vfs t s b e).lookup ("_time" : Str) = some (.int t) := by
  unfold vfs; simp [List.lookup]
theorem vfs_s (t s b : Int) (e : V) : (vfs t s b e).lookup ("_shift" : Str) = some (.int s) := by
  have h : (("_shift" : Str) == "_time") = false := by decide +kernel
  unfold vfs; simp [List.lookup, h]
theorem vfs_b (t s b : Int) (e : V) : (vfs t s b e).lookup ("_begin" : Str) = some (.int b) := by
  have h : (("_begin" : Str) == "_time") = false := by decide +kernel
  have h2 : (("_begin" : Str) == "_shift") = false := by decide +kernel
  unfold vfs; simp [List.lookup, h, h2]
theorem vfs_e (t s b : Int) (e : V) : (vfs t s b e).lookup ("_end" : Str) = some e := by
  have h : (("_end" : Str) == "_time") = false := by decide +kernel
  have h2 : (("_end" : Str) == "_shift") = false := by decide +kernel
  have h3 : (("_end" : Str) == "_begin") = false := by decide +kernel
  unfold vfs; simp [List.lookup, h, h2, h3]
/-- a visit -/
def VisAt (A : Ad) (H : Hp) (p : Addr) (t s b : Int) (e : Option Int) : Prop := ∃ dx, H p = some (.ins A.Visit dx (vfs t s b (oV e)))
theorem VisAt.same {A : Ad} {H H' : Hp} {p : Addr} {t s b : Int} {e : Option Int} (h : VisAt A H p t s b e) (k : Same H H') : VisAt A H' p t s b e := by
  obtain ⟨dx, h⟩ := h
  exact ⟨dx, k _ _ h⟩
structure OkV (t s b : Int) (e : Option Int) : Prop where
  t0 : 1 ≤ t
  t1 : t ≤ 12
  s0 : 0 ≤ s
  s1 : s ≤ 1000
  b0 : 0 ≤ b
  b1 : b ≤ 1000
  e0 : ∀ x, e = some x → b ≤ x
  e1 : ∀ x, e = some x → x ≤ 1000
/-- first and behind, within a visit -/
def eB : Option Int → Int → Int
  | none, h => h
  | some x, h => if h < x then h else x
def stM (b : Int) (e : Option Int) (f h : Int) : Option (Int × Int) :=
  if eB e h ≤ (if b < f then f else b) then none else some (if b < f then f else b, eB e h)
theorem stM_le {b f h F B : Int} {e : Option Int} (hF : (if b < f then f else b) = F) (hB : eB e h = B) (c : B ≤ F) : stM b e f h = none := by
  subst hF hB; unfold stM; rw [if_pos c]
theorem stM_gt {b f h F B : Int} {e : Option Int} (hF : (if b < f then f else b) = F) (hB : eB e h = B) (c : ¬ B ≤ F) : stM b e f h = some (F, B) := by
  subst hF hB; unfold stM; rw [if_neg c]
def sp_find_visit_problem (_ : PySem.W.Frag) (_ : Ad) : Sp := fun vs H Q _ => ∃ (t s b : Int) (e : Option Int), vs = [.int t, .int s, .int b, oV e] ∧ OkV t s b e ∧ Q .non H
def sp_Visit_init (_ : PySem.W.Frag) (A : Ad) : Sp := fun vs H Q _ => ∃ (p dx : Addr) (t s b : Int) (e : Option Int), vs = [.ref p, .int t, .int s, .int b, oV e] ∧ H p = some (.ins A.Visit dx []) ∧ OkV t s b e ∧
  Q .non (upd H p (.ins A.Visit dx (vfs t s b (oV e))))
def sp_Visit_time (_ : PySem.W.Frag) (A : Ad) : Sp := fun vs H Q _ => ∃ (p : Addr) (t s b : Int) (e : Option Int), vs = [.ref p] ∧ VisAt A H p t s b e ∧ Q (.int t) H
def sp_Visit_shift (_ : PySem.W.Frag) (A : Ad) : Sp := fun vs H Q _ => ∃ (p : Addr) (t s b : Int) (e : Option Int), vs = [.ref p] ∧ VisAt A H p t s b e ∧ Q (.int s) H
def sp_Visit_begin (_ : PySem.W.Frag) (A : Ad) : Sp := fun vs H Q _ => ∃ (p : Addr) (t s b : Int) (e : Option Int), vs = [.ref p] ∧ VisAt A H p t s b e ∧ Q (.int b) H
def sp_Visit_end (_ : PySem.W.Frag) (A : Ad) : Sp := fun vs H Q _ => ∃ (p : Addr) (t s b : Int) (e : Option Int), vs = [.ref p] ∧ VisAt A H p t s b e ∧ Q (oV e) H
def sp_is_window (_ : PySem.W.Frag) (_ : Ad) : Sp := fun vs H Q _ => ∃ (a b : Int), vs = [.int a, .int b] ∧ 0 ≤ a ∧ a < b ∧ Q (.bl true) H
def sp_require_window (_ : PySem.W.Frag) (_ : Ad) : Sp := fun vs H Q _ => ∃ (a b : Int), vs = [.int a, .int b] ∧ 0 ≤ a ∧ a < b ∧ Q .non H
def sp_stretch_from (_ : PySem.W.Frag) (A : Ad) : Sp := fun vs H Q _ => ∃ (p : Addr) (t s b : Int) (e : Option Int) (f h : Int), vs = [.ref p, .int f, .int h] ∧ VisAt A H p t s b e ∧
  ∀ H' v, Same H H' → Duo H H' v (stM b e f h) → Q v H'
def sp_urgent_stretch (_ : PySem.W.Frag) (A : Ad) : Sp := fun vs H Q _ => ∃ (p : Addr) (t s b : Int) (e : Option Int) (x y : Int), vs = [.ref p, .int x, .int y] ∧ VisAt A H p t s b e ∧
  ∀ H' v, Same H H' → Duo H H' v (stM b e (x - s) (y - t - s + 1)) → Q v H'
def sp_stretch (_ : PySem.W.Frag) (A : Ad) : Sp := fun vs H Q _ => ∃ (p : Addr) (t s b : Int) (e : Option Int) (x y : Int), vs = [.ref p, .int x, .int y] ∧ VisAt A H p t s b e ∧ 0 ≤ x ∧ x < y ∧
  ∀ H' v, Same H H' → Duo H H' v (stM b e (x - s) (y - t - s + 1)) → Q v H'
section
variable {P : Program} {w : World} {K : PySem.W.Frag} {mg : Str → Option Value} {base : Heap} {A : Ad}
theorem ok_find_visit_problem (T : Txt K mg A) : FnOk P w K mg base CX0 4 A.f_find_visit_problem A.d_find_visit_problem ["time", "shift", "begin", "end"] (sp_find_visit_problem K A) := by
  have G_is_count_to := ok_is_count_to (P := P) (w := w) (base := base) T
  have G_is_integer := ok_is_integer (P := P) (w := w) (base := base) T
  refine T.F_find_visit_problem.ok sc_find_visit_problem (fun vs H Q E h => ?_) (fun cdv A0 outer s H vs Q E hr h => ?_)
  · obtain ⟨t, s, b, e, rfl, ok, q⟩ := h
    rfl
  · obtain ⟨t, s, b, e, rfl, ok, q⟩ := h
    refine ⟨_, (pss_cons (ps_if (PW.pt (pw_or (pt_not (pt_val (pe_call G_is_integer (hr.mono (by decide)) rfl T.m_is_integer T.k_is_integer T.b_is_integer .nil pass0 (pa_cons (pv 0) pa_nil)))) (pw_or1 (pt_not (pt_chain op_le op_le pe_int (pv 0) (pe_glob (v := .int 12) rfl T.v_MAX_TIME ⟨_, rfl⟩)))))) (pss_one (ps_ret pe_str)) pss_nil)
    (pss_cons (ps_if (pt_not (pt_val (pe_call G_is_count_to (hr.mono (by decide)) rfl T.m_is_count_to T.k_is_count_to T.b_is_count_to .nil pass0 (pa_cons (pv 1) (pa_cons (pe_glob (v := .int 1000) rfl T.v_MAX_TICK ⟨_, rfl⟩) pa_nil))))) (pss_one (ps_ret pe_str)) pss_nil)
    (pss_cons (ps_if (pt_not (pt_val (pe_call G_is_count_to (hr.mono (by decide)) rfl T.m_is_count_to T.k_is_count_to T.b_is_count_to .nil pass0 (pa_cons (pv 2) (pa_cons (pe_glob (v := .int 1000) rfl T.v_MAX_TICK ⟨_, rfl⟩) pa_nil))))) (pss_one (ps_ret pe_str)) pss_nil)
    (pss_cons (ps_if (PW.pt (pw_and (pt_cmp (pc_notN (pv 3)) rfl) (pw_and1 (PW.pt (pw_or (pt_not (pt_val (pe_call G_is_count_to (hr.mono (by decide)) rfl T.m_is_count_to T.k_is_count_to T.b_is_count_to .nil pass0 (pa_cons (pv 3) (pa_cons (pe_glob (v := .int 1000) rfl T.v_MAX_TICK ⟨_, rfl⟩) pa_nil))))) (pw_or1 (pt_cmpR op_lt (pv 3) (pv 2) (nomark _)))))))) (pss_one (ps_ret pe_str)) pss_nil)
    (pss_one (ps_ret pe_non)))))), ?_⟩
    have t0 := ok.t0
    have t1 := ok.t1
    have cs : cntTo 1000 (.int s) = true := by unfold cntTo; exact decide_eq_true ⟨ok.s0, ok.s1⟩
    have cb : cntTo 1000 (.int b) = true := by unfold cntTo; exact decide_eq_true ⟨ok.b0, ok.b1⟩
    refine ⟨_, rfl, _, _, rfl, Kd.int _, _, rfl, iteF ?_⟩
    refine ⟨_, rfl, _, _, rfl, rfl, _, rfl, ifD (fun _ => ?_) (fun c => absurd t0 c)⟩
    refine ⟨_, _, rfl, rfl, _, rfl, iteNS t1 ?_⟩
    refine ⟨_, rfl, _, _, _, rfl, Kd.int _, _, rfl, ?_⟩
    rw [cs]
    refine iteF ⟨_, rfl, _, _, _, rfl, Kd.int _, _, rfl, ?_⟩
    rw [cb]
    refine iteF ?_
    cases e with
    | none => exact ⟨_, rfl, _, rfl, iteF q⟩
    | some x =>
      have ce : cntTo 1000 (oV (some x)) = true := by unfold cntTo oV; exact decide_eq_true ⟨Int.le_trans ok.b0 (ok.e0 x rfl), ok.e1 x rfl⟩
      refine ⟨_, rfl, _, rfl, iteT ?_⟩
      refine ⟨_, rfl, _, _, _, rfl, Kd.int _, _, rfl, ?_⟩
      rw [ce]
      refine iteF ⟨_, rfl, _, rfl, _, _, rfl, rfl, _, rfl, ifD (fun c => absurd c (by have := ok.e0 x rfl; omega)) (fun _ => q)⟩
theorem ok_Visit_init (T : Txt K mg A) : FnOk P w K mg base CX0 5 A.f_Visit_init A.d_Visit_init ["self", "time", "shift", "begin", "end"] (sp_Visit_init K A) := by
  have G_find_visit_problem := ok_find_visit_problem (P := P) (w := w) (base := base) T
  refine T.F_Visit_init.ok sc_Visit_init (fun vs H Q E h => ?_) (fun cdv A0 outer s H vs Q E hr h => ?_)
  · obtain ⟨p, dx, t, s, b, e, rfl, hp, ok, q⟩ := h
    rfl
  · obtain ⟨p, dx, t, s, b, e, rfl, hp, ok, q⟩ := h
    refine ⟨_, (pss_cons (ps_set (i := 5) sc_Visit_init.nd rfl (by first | exact Or.inl rfl | exact Or.inr rfl) (pe_call G_find_visit_problem (hr.mono (by decide)) rfl T.m_find_visit_problem T.k_find_visit_problem T.b_find_visit_problem .nil pass0 (pa_cons (pv 1) (pa_cons (pv 2) (pa_cons (pv 3) (pa_cons (pv 4) pa_nil))))))
    (pss_cons (ps_if (pt_cmp (pc_notN (pv 5)) rfl) (pss_one ps_never) pss_nil)
    (pss_cons (ps_fld (pv 0) (pv 1) rfl)
    (pss_cons (ps_fld (pv 0) (pv 2) rfl)
    (pss_cons (ps_fld (pv 0) (pv 3) rfl)
    (pss_one (ps_fld (pv 0) (pv 4) rfl))))))), ?_⟩
    refine ⟨_, rfl, _, rfl, _, rfl, _, rfl, t, s, b, e, rfl, ok, ?_⟩
    refine ⟨_, rfl, _, rfl, iteF ?_⟩
    refine ⟨_, rfl, _, rfl, p, _, dx, _, rfl, hp, T.clVisit, T.n_time, (by show 0 < 1000; decide), ?_⟩
    refine ⟨_, rfl, _, rfl, p, _, dx, _, rfl, upd_same, T.clVisit, T.n_shift, (by show 1 < 1000; decide), ?_⟩
    refine ⟨_, rfl, _, rfl, p, _, dx, _, rfl, upd_same, T.clVisit, T.n_begin, (by rw [vput1, vput2]; show 2 < 1000; decide), ?_⟩
    refine ⟨_, rfl, _, rfl, p, _, dx, _, rfl, upd_same, T.clVisit, T.n_end, (by rw [vput1, vput2, vput3]; show 3 < 1000; decide), ?_⟩
    rw [upd_upd, upd_upd, upd_upd, vput1, vput2, vput3, vput4]
    exact q
theorem ok_Visit_time (T : Txt K mg A) : FnOk P w K mg base CX0 1 A.f_Visit_time A.d_Visit_time ["self"] (sp_Visit_time K A) := by
  refine T.F_Visit_time.ok sc_Visit_time (fun vs H Q E h => ?_) (fun cdv A0 outer s H vs Q E hr h => ?_)
  · obtain ⟨p, t, s, b, e, rfl, ⟨dx, hp⟩, q⟩ := h
    rfl
  · obtain ⟨p, t, s, b, e, rfl, ⟨dx, hp⟩, q⟩ := h
    refine ⟨_, (pss_one (ps_ret (pe_fld (pv 0) rfl))), ?_⟩
    exact ⟨_, rfl, p, _, dx, _, _, rfl, hp, T.clVisit, T.n_time, vfs_t _ _ _ _, q⟩
theorem ok_Visit_shift (T : Txt K mg A) : FnOk P w K mg base CX0 1 A.f_Visit_shift A.d_Visit_shift ["self"] (sp_Visit_shift K A) := by
  refine T.F_Visit_shift.ok sc_Visit_shift (fun vs H Q E h => ?_) (fun cdv A0 outer s H vs Q E hr h => ?_)
  · obtain ⟨p, t, s, b, e, rfl, ⟨dx, hp⟩, q⟩ := h
    rfl
  · obtain ⟨p, t, s, b, e, rfl, ⟨dx, hp⟩, q⟩ := h
    refine ⟨_, (pss_one (ps_ret (pe_fld (pv 0) rfl))), ?_⟩
    exact ⟨_, rfl, p, _, dx, _, _, rfl, hp, T.clVisit, T.n_shift, vfs_s _ _ _ _, q⟩
theorem ok_Visit_begin (T : Txt K mg A) : FnOk P w K mg base CX0 1 A.f_Visit_begin A.d_Visit_begin ["self"] (sp_Visit_begin K A) := by
  refine T.F_Visit_begin.ok sc_Visit_begin (fun vs H Q E h => ?_) (fun cdv A0 outer s H vs Q E hr h => ?_)
  · obtain ⟨p, t, s, b, e, rfl, ⟨dx, hp⟩, q⟩ := h
    rfl
  · obtain ⟨p, t, s, b, e, rfl, ⟨dx, hp⟩, q⟩ := h
    refine ⟨_, (pss_one (ps_ret (pe_fld (pv 0) rfl))), ?_⟩
    exact ⟨_, rfl, p, _, dx, _, _, rfl, hp, T.clVisit, T.n_begin, vfs_b _ _ _ _, q⟩
theorem ok_Visit_end (T : Txt K mg A) : FnOk P w K mg base CX0 1 A.f_Visit_end A.d_Visit_end ["self"] (sp_Visit_end K A) := by
  refine T.F_Visit_end.ok sc_Visit_end (fun vs H Q E h => ?_) (fun cdv A0 outer s H vs Q E hr h => ?_)
  · obtain ⟨p, t, s, b, e, rfl, ⟨dx, hp⟩, q⟩ := h
    rfl
  · obtain ⟨p, t, s, b, e, rfl, ⟨dx, hp⟩, q⟩ := h
    refine ⟨_, (pss_one (ps_ret (pe_fld (pv 0) rfl))), ?_⟩
    exact ⟨_, rfl, p, _, dx, _, _, rfl, hp, T.clVisit, T.n_end, vfs_e _ _ _ _, q⟩
theorem ok_is_window (T : Txt K mg A) : FnOk P w K mg base CX0 3 A.f_is_window A.d_is_window ["start", "end"] (sp_is_window K A) := by
  have G_is_count := ok_is_count (P := P) (w := w) (base := base) T
  refine T.F_is_window.ok sc_is_window (fun vs H Q E h => ?_) (fun cdv A0 outer s H vs Q E hr h => ?_)
  · obtain ⟨a, b, rfl, h0, h1, q⟩ := h
    rfl
  · obtain ⟨a, b, rfl, h0, h1, q⟩ := h
    refine ⟨_, (pss_one (ps_ret (pe_and (pe_call G_is_count (hr.mono (by decide)) rfl T.m_is_count T.k_is_count T.b_is_count .nil pass0 (pa_cons (pv 0) pa_nil)) (pe_and (pe_call G_is_count (hr.mono (by decide)) rfl T.m_is_count T.k_is_count T.b_is_count .nil pass0 (pa_cons (pv 1) pa_nil)) (pe_one (pe_cmpR op_lt (pv 0) (pv 1) (nomark _))))))), ?_⟩
    have ca : cnt (.int a) = true := by unfold cnt; exact decide_eq_true h0
    have cb : cnt (.int b) = true := by unfold cnt; exact decide_eq_true (by omega)
    refine ⟨_, rfl, _, _, rfl, Kd.int _, _, rfl, ?_⟩
    rw [ca]
    refine iteT ⟨_, rfl, _, _, rfl, Kd.int _, _, rfl, ?_⟩
    rw [cb]
    refine iteT ⟨_, rfl, _, rfl, _, _, rfl, rfl, ?_⟩
    show Q (.bl (decide (a < b))) H
    rw [decide_eq_true h1]
    exact q
theorem ok_require_window (T : Txt K mg A) : FnOk P w K mg base CX0 4 A.f_require_window A.d_require_window ["start", "end"] (sp_require_window K A) := by
  have G_is_window := ok_is_window (P := P) (w := w) (base := base) T
  refine T.F_require_window.ok sc_require_window (fun vs H Q E h => ?_) (fun cdv A0 outer s H vs Q E hr h => ?_)
  · obtain ⟨a, b, rfl, h0, h1, q⟩ := h
    rfl
  · obtain ⟨a, b, rfl, h0, h1, q⟩ := h
    refine ⟨_, (pss_one (ps_if (pt_not (pt_val (pe_call G_is_window (hr.mono (by decide)) rfl T.m_is_window T.k_is_window T.b_is_window .nil pass0 (pa_cons (pv 0) (pa_cons (pv 1) pa_nil))))) (pss_one ps_never) pss_nil)), ?_⟩
    exact ⟨_, rfl, _, rfl, a, b, rfl, h0, h1, _, rfl, iteF q⟩
theorem ok_stretch_from (T : Txt K mg A) : FnOk P w K mg base CX0 3 A.f_stretch_from A.d_stretch_from ["visit", "first", "behind"] (sp_stretch_from K A) := by
  have G_Visit_begin := ok_Visit_begin (P := P) (w := w) (base := base) T
  have G_Visit_end := ok_Visit_end (P := P) (w := w) (base := base) T
  refine T.F_stretch_from.ok sc_stretch_from (fun vs H Q E h => ?_) (fun cdv A0 outer s H vs Q E hr h => ?_)
  · obtain ⟨p, t, s, b, e, f, h, rfl, hv, k⟩ := h
    rfl
  · obtain ⟨p, t, s, b, e, f, h, rfl, hv, k⟩ := h
    refine ⟨_, (pss_cons (ps_set (i := 1) sc_stretch_from.nd rfl (by first | exact Or.inl rfl | exact Or.inr rfl) (pe_callB (call_max2 rfl) (by rfl) T.max (by decide +kernel) (pa_cons (pe_prop (pv 0) T.clVisit T.pr_Visit_begin G_Visit_begin (hr.mono (by decide)) T.b_Visit_begin .nil pass0 rfl) (pa_cons (pv 1) pa_nil))))
    (pss_cons (ps_if (pt_cmp (pc_notN (pe_prop (pv 0) T.clVisit T.pr_Visit_end G_Visit_end (hr.mono (by decide)) T.b_Visit_end .nil pass0 rfl)) rfl) (pss_one (ps_set (i := 2) sc_stretch_from.nd rfl (by first | exact Or.inl rfl | exact Or.inr rfl) (pe_callB (call_min2 rfl) (by rfl) T.min (by decide +kernel) (pa_cons (pe_prop (pv 0) T.clVisit T.pr_Visit_end G_Visit_end (hr.mono (by decide)) T.b_Visit_end .nil pass0 rfl) (pa_cons (pv 2) pa_nil))))) pss_nil)
    (pss_cons (ps_if (pt_cmpR op_le (pv 2) (pv 1) (nomark _)) (pss_one (ps_ret pe_non)) pss_nil)
    (pss_one (ps_ret (pe_tup (pa_cons (pv 1) (pa_cons (pv 2) pa_nil)))))))), ?_⟩
    obtain ⟨dx, hp⟩ := id hv
    refine ⟨_, rfl, p, dx, _, rfl, hp, p, t, s, b, e, rfl, hv, _, rfl, _, _, rfl, ?_⟩
    refine ⟨_, rfl, p, dx, _, rfl, hp, p, t, s, b, e, rfl, hv, _, rfl, ?_⟩
    cases e with
    | none =>
      refine iteF ⟨_, rfl, _, rfl, _, _, rfl, rfl, _, rfl, ifD (fun c => ?_) (fun c => ?_)⟩
      · rw [stM_le (b := b) (f := f) (h := h) (e := none) (F := if b < f then f else b) (B := h) rfl rfl c] at k
        exact k H _ (Same.refl H) rfl
      · rw [stM_gt (b := b) (f := f) (h := h) (e := none) (F := if b < f then f else b) (B := h) rfl rfl c] at k
        exact ⟨_, rfl, _, rfl, (by show 2 ≤ sizeLine; decide), fun q hq => k _ _ (Same.upd (Same.refl H) hq) ⟨q, rfl, hq, upd_same⟩⟩
    | some x =>
      refine iteT ⟨_, rfl, p, dx, _, rfl, hp, p, t, s, b, some x, rfl, hv, _, rfl, _, _, rfl, ?_⟩
      refine ⟨_, rfl, _, rfl, _, _, rfl, rfl, _, rfl, ifD (fun c => ?_) (fun c => ?_)⟩
      · rw [stM_le (b := b) (f := f) (h := h) (e := some x) (F := if b < f then f else b) (B := if h < x then h else x) rfl rfl c] at k
        exact k H _ (Same.refl H) rfl
      · rw [stM_gt (b := b) (f := f) (h := h) (e := some x) (F := if b < f then f else b) (B := if h < x then h else x) rfl rfl c] at k
        exact ⟨_, rfl, _, rfl, (by show 2 ≤ sizeLine; decide), fun q hq => k _ _ (Same.upd (Same.refl H) hq) ⟨q, rfl, hq, upd_same⟩⟩
theorem ok_urgent_stretch (T : Txt K mg A) : FnOk P w K mg base CX0 4 A.f_urgent_stretch A.d_urgent_stretch ["visit", "start", "end"] (sp_urgent_stretch K A) := by
  have G_Visit_shift := ok_Visit_shift (P := P) (w := w) (base := base) T
  have G_Visit_time := ok_Visit_time (P := P) (w := w) (base := base) T
  have G_stretch_from := ok_stretch_from (P := P) (w := w) (base := base) T
  refine T.F_urgent_stretch.ok sc_urgent_stretch (fun vs H Q E h => ?_) (fun cdv A0 outer s H vs Q E hr h => ?_)
  · obtain ⟨p, t, s, b, e, x, y, rfl, hv, k⟩ := h
    rfl
  · obtain ⟨p, t, s, b, e, x, y, rfl, hv, k⟩ := h
    refine ⟨_, (pss_one (ps_ret (pe_call G_stretch_from (hr.mono (by decide)) rfl T.m_stretch_from T.k_stretch_from T.b_stretch_from .nil pass0 (pa_cons (pv 0) (pa_cons (pe_op op_sub (pv 1) (pe_prop (pv 0) T.clVisit T.pr_Visit_shift G_Visit_shift (hr.mono (by decide)) T.b_Visit_shift .nil pass0 rfl)) (pa_cons (pe_op op_add (pe_op op_sub (pe_op op_sub (pv 2) (pe_prop (pv 0) T.clVisit T.pr_Visit_time G_Visit_time (hr.mono (by decide)) T.b_Visit_time .nil pass0 rfl)) (pe_prop (pv 0) T.clVisit T.pr_Visit_shift G_Visit_shift (hr.mono (by decide)) T.b_Visit_shift .nil pass0 rfl)) pe_int) pa_nil)))))), ?_⟩
    obtain ⟨dx, hp⟩ := id hv
    refine ⟨_, rfl, _, rfl, _, rfl, p, dx, _, rfl, hp, p, t, s, b, e, rfl, hv, _, _, rfl, rfl, ?_⟩
    refine ⟨_, rfl, _, rfl, p, dx, _, rfl, hp, p, t, s, b, e, rfl, hv, _, _, rfl, rfl, ?_⟩
    refine ⟨_, rfl, p, dx, _, rfl, hp, p, t, s, b, e, rfl, hv, _, _, rfl, rfl, _, _, rfl, rfl, ?_⟩
    exact ⟨p, t, s, b, e, _, _, rfl, hv, k⟩
theorem ok_stretch (T : Txt K mg A) : FnOk P w K mg base CX0 5 A.f_stretch A.d_stretch ["visit", "start", "end"] (sp_stretch K A) := by
  have G_require_window := ok_require_window (P := P) (w := w) (base := base) T
  have G_urgent_stretch := ok_urgent_stretch (P := P) (w := w) (base := base) T
  refine T.F_stretch.ok sc_stretch (fun vs H Q E h => ?_) (fun cdv A0 outer s H vs Q E hr h => ?_)
  · obtain ⟨p, t, s, b, e, x, y, rfl, hv, h0, h1, k⟩ := h
    rfl
  · obtain ⟨p, t, s, b, e, x, y, rfl, hv, h0, h1, k⟩ := h
    refine ⟨_, (pss_cons (ps_expr (pe_call G_require_window (hr.mono (by decide)) rfl T.m_require_window T.k_require_window T.b_require_window .nil pass0 (pa_cons (pv 1) (pa_cons (pv 2) pa_nil))))
    (pss_one (ps_ret (pe_call G_urgent_stretch (hr.mono (by decide)) rfl T.m_urgent_stretch T.k_urgent_stretch T.b_urgent_stretch .nil pass0 (pa_cons (pv 0) (pa_cons (pv 1) (pa_cons (pv 2) pa_nil))))))), ?_⟩
    exact ⟨_, rfl, _, rfl, x, y, rfl, h0, h1, _, rfl, _, rfl, _, rfl, p, t, s, b, e, x, y, rfl, hv, k⟩
end
end VK


namespace VK
open PySem PySem.Spec PyProof.Rows L2 VM
def sp_Visit_eq (K : PySem.W.Frag) (A : Ad) : Sp := fun vs H Q _ => ∃ (p : Addr) (t s b : Int) (e : Option Int) (y : V), vs = [.ref p, y] ∧ VisAt A H p t s b e ∧
  ((∃ (p2 : Addr) (t2 s2 b2 : Int) (e2 : Option Int), y = .ref p2 ∧ VisAt A H p2 t2 s2 b2 e2 ∧ Q (.bl (decide (t = t2) && (decide (s = s2) && (decide (b = b2) && decide (oV e = oV e2))))) H) ∨
   (∃ n, TyX K H y (.type n) ∧ n ∈ VN.kinds ∧ Q (.bl false) H))
/-- an end as a text -/
def eS : Option Int → Str
  | none => "None"
  | some i => toString i
def visS (t s b : Int) (e : Option Int) : Str := ((((((((Str.empty ++ ("Visit(" : Str)) ++ (toString t : Str)) ++ (", shift=" : Str)) ++ (toString s : Str)) ++ (", begin=" : Str)) ++ (toString b : Str)) ++ (", end=" : Str)) ++ eS e) ++ (")" : Str)
theorem int_len {i : Int} (h : i.natAbs < 10 ^ 100) : ((toString i : String) : Str).length ≤ 101 := by
  have e := int_text_length_le10 (k := 100) (by decide) h
  show (Str.ofString (toString i)).length ≤ 101
  rw [PySem.ofString_length]; exact e
theorem eS_len {e : Option Int} (h : ∀ x, e = some x → x.natAbs < 10 ^ 100) : (eS e).length ≤ 101 := by
  cases e with
  | none => show (Str.ofString "None").length ≤ 101; rw [PySem.ofString_length]; decide
  | some x => exact int_len (h x rfl)
theorem lit_len (x : String) {n : Nat} (h : x.length = n := by decide) : (x : Str).length = n := by
  show (Str.ofString x).length = n
  rw [PySem.ofString_length]; exact h
def sp_Visit_repr (_ : PySem.W.Frag) (A : Ad) : Sp := fun vs H Q _ => ∃ (p : Addr) (t s b : Int) (e : Option Int), vs = [.ref p] ∧ VisAt A H p t s b e ∧ OkV t s b e ∧ Q (.str (visS t s b e)) H
section
variable {P : Program} {w : World} {K : PySem.W.Frag} {mg : Str → Option Value} {base : Heap} {A : Ad}
theorem ok_Visit_eq (T : Txt K mg A) : FnOk P w K mg base CX0 1 A.f_Visit_eq A.d_Visit_eq ["self", "other"] (sp_Visit_eq K A) := by
  refine T.F_Visit_eq.ok sc_Visit_eq (fun vs H Q E h => ?_) (fun cdv A0 outer s H vs Q E hr h => ?_)
  · obtain ⟨p, t, s, b, e, y, rfl, ⟨dx, hp⟩, k⟩ := h
    rfl
  · obtain ⟨p, t, s, b, e, y, rfl, ⟨dx, hp⟩, k⟩ := h
    refine ⟨_, (pss_one (ps_ret (pe_and (pe_callB (r := rIsi K) call_isi (by rfl) T.isinstance (by decide +kernel) (pa_cons (pv 1) (pa_cons (pe_glob (v := .ref A.Visit) rfl T.m_Visit rfl) pa_nil))) (pe_and (pe_cmpR op_eq (pe_fld (pv 0) rfl) (pe_fld (pv 1) rfl) (nomark _)) (pe_and (pe_cmpR op_eq (pe_fld (pv 0) rfl) (pe_fld (pv 1) rfl) (nomark _)) (pe_and (pe_cmpR op_eq (pe_fld (pv 0) rfl) (pe_fld (pv 1) rfl) (nomark _)) (pe_one (pe_cmpR op_eq (pe_fld (pv 0) rfl) (pe_fld (pv 1) rfl) (nomark _))))))))), ?_⟩
    rcases k with ⟨p2, t2, s2, b2, e2, rfl, ⟨dx2, hp2⟩, q⟩ | ⟨n, ty, hn, q⟩
    · refine ⟨_, rfl, _, _, _, _, _, rfl, .own _, T.ic_Visit.typ T.clVisit hp2, VN.kit_self, _, rfl, iteT ?_⟩
      refine ⟨_, rfl, p, _, dx, _, _, rfl, hp, T.clVisit, T.n_time, vfs_t _ _ _ _, _, rfl, p2, _, dx2, _, _, rfl, hp2, T.clVisit, T.n_time, vfs_t _ _ _ _, rfl, _, rfl, ifEq (fun c1 => ?_) (fun c1 => ?_)⟩
      · rw [decide_eq_true c1, Bool.true_and] at q
        refine ⟨_, rfl, p, _, dx, _, _, rfl, hp, T.clVisit, T.n_shift, vfs_s _ _ _ _, _, rfl, p2, _, dx2, _, _, rfl, hp2, T.clVisit, T.n_shift, vfs_s _ _ _ _, rfl, _, rfl, ifEq (fun c2 => ?_) (fun c2 => ?_)⟩
        · rw [decide_eq_true c2, Bool.true_and] at q
          refine ⟨_, rfl, p, _, dx, _, _, rfl, hp, T.clVisit, T.n_begin, vfs_b _ _ _ _, _, rfl, p2, _, dx2, _, _, rfl, hp2, T.clVisit, T.n_begin, vfs_b _ _ _ _, rfl, _, rfl, ifEq (fun c3 => ?_) (fun c3 => ?_)⟩
          · rw [decide_eq_true c3, Bool.true_and] at q
            exact ⟨_, rfl, p, _, dx, _, _, rfl, hp, T.clVisit, T.n_end, vfs_e _ _ _ _, _, rfl, p2, _, dx2, _, _, rfl, hp2, T.clVisit, T.n_end, vfs_e _ _ _ _, (by cases e <;> cases e2 <;> rfl), q⟩
          · rw [decide_eq_false c3, Bool.false_and] at q
            exact q
        · rw [decide_eq_false c2, Bool.false_and] at q
          exact q
      · rw [decide_eq_false c1, Bool.false_and] at q
        exact q
    · refine ⟨_, rfl, _, _, _, _, _, rfl, .own _, ty, VN.kit_no T.ic_Visit hn, _, rfl, iteF q⟩
theorem ok_Visit_repr (T : Txt K mg A) : FnOk P w K mg base CX0 1 A.f_Visit_repr A.d_Visit_repr ["self"] (sp_Visit_repr K A) := by
  refine T.F_Visit_repr.ok sc_Visit_repr (fun vs H Q E h => ?_) (fun cdv A0 outer s H vs Q E hr h => ?_)
  · obtain ⟨p, t, s, b, e, rfl, ⟨dx, hp⟩, ok, q⟩ := h
    rfl
  · obtain ⟨p, t, s, b, e, rfl, ⟨dx, hp⟩, ok, q⟩ := h
    refine ⟨_, (pss_one (ps_ret (pe_joined (.cons pe_str (.cons (VN.pe_fmtN (pe_fld (pv 0) rfl)) (.cons pe_str (.cons (VN.pe_fmtN (pe_fld (pv 0) rfl)) (.cons pe_str (.cons (VN.pe_fmtN (pe_fld (pv 0) rfl)) (.cons pe_str (.cons (VN.pe_fmtN (pe_fld (pv 0) rfl)) (.cons pe_str .nil)))))))))))), ?_⟩
    have p1 : (1000 : Nat) < 10 ^ 100 := by decide +kernel
    have lt : t.natAbs < 10 ^ 100 := by have := ok.t0; have := ok.t1; omega
    have ls : s.natAbs < 10 ^ 100 := by have := ok.s0; have := ok.s1; omega
    have lb : b.natAbs < 10 ^ 100 := by have := ok.b0; have := ok.b1; omega
    have le : ∀ x, e = some x → x.natAbs < 10 ^ 100 := fun x h => by have := ok.e0 x h; have := ok.e1 x h; have := ok.b0; omega
    have l1 := int_len lt
    have l2 := int_len ls
    have l3 := int_len lb
    have l4 := eS_len le
    have k1 := lit_len "Visit(" (n := 6)
    have k2 := lit_len ", shift=" (n := 8)
    have k3 := lit_len ", begin=" (n := 8)
    have k4 := lit_len ", end=" (n := 6)
    have k5 := lit_len ")" (n := 1)
    have k0 : Str.empty.length = 0 := rfl
    refine ⟨_, rfl, (by rw [sizeLine_eq]; simp only [Str.length_append]; omega), ?_⟩
    refine ⟨_, rfl, p, _, dx, _, _, rfl, hp, T.clVisit, T.n_time, vfs_t _ _ _ _, .inr (.inl ⟨_, rfl, VR.log_small lt, _, rfl, (by rw [sizeLine_eq]; simp only [Str.length_append]; omega), ?_⟩)⟩
    refine ⟨_, rfl, (by rw [sizeLine_eq]; simp only [Str.length_append]; omega), ?_⟩
    refine ⟨_, rfl, p, _, dx, _, _, rfl, hp, T.clVisit, T.n_shift, vfs_s _ _ _ _, .inr (.inl ⟨_, rfl, VR.log_small ls, _, rfl, (by rw [sizeLine_eq]; simp only [Str.length_append]; omega), ?_⟩)⟩
    refine ⟨_, rfl, (by rw [sizeLine_eq]; simp only [Str.length_append]; omega), ?_⟩
    refine ⟨_, rfl, p, _, dx, _, _, rfl, hp, T.clVisit, T.n_begin, vfs_b _ _ _ _, .inr (.inl ⟨_, rfl, VR.log_small lb, _, rfl, (by rw [sizeLine_eq]; simp only [Str.length_append]; omega), ?_⟩)⟩
    refine ⟨_, rfl, (by rw [sizeLine_eq]; simp only [Str.length_append]; omega), ?_⟩
    cases e with
    | none =>
      refine ⟨_, rfl, p, _, dx, _, _, rfl, hp, T.clVisit, T.n_end, vfs_e _ _ _ _, .inr (.inr ⟨rfl, _, rfl, (by have l4 : ("None" : Str).length ≤ 101 := l4; rw [sizeLine_eq]; simp only [Str.length_append]; omega), ?_⟩)⟩
      exact ⟨_, rfl, (by have l4 : ("None" : Str).length ≤ 101 := l4; rw [sizeLine_eq]; simp only [Str.length_append]; omega), q⟩
    | some x =>
      have l4 : ((toString x : String) : Str).length ≤ 101 := l4
      refine ⟨_, rfl, p, _, dx, _, _, rfl, hp, T.clVisit, T.n_end, vfs_e _ _ _ _, .inr (.inl ⟨_, rfl, VR.log_small (le x rfl), _, rfl, (by rw [sizeLine_eq]; simp only [Str.length_append]; omega), ?_⟩)⟩
      exact ⟨_, rfl, (by rw [sizeLine_eq]; simp only [Str.length_append]; omega), q⟩
end
end VK


namespace VK
open PySem PySem.Spec PyProof.Rows L2 VM
def prt (t s b : Int) (e : Option Int) : List V := [.int t, .int s, .int b, oV e]
def sp_l_parts (_ : PySem.W.Frag) (_ : Ad) : Sp := fun vs H Q _ => ∃ (r : Addr), vs = [.ref r] ∧ Rng H r ∧ ∀ H' l t s b e, Ext r H H' → H l = none → l ≠ r → H' l = some (.lst (prt t s b e)) → OkV t s b e → Q (.ref l) H'
def sp_l_made (K : PySem.W.Frag) (A : Ad) : Sp := fun vs H Q _ => ∃ (l : Addr) (t s b : Int) (e : Option Int), vs = [.ref l] ∧ SqL K H l (prt t s b e) ∧ OkV t s b e ∧ ∀ H' p, Same H H' → H p = none → VisAt A H' p t s b e → Q (.ref p) H'
def sp_l_due (K : PySem.W.Frag) (_ : Ad) : Sp := fun vs H Q _ => ∃ (l : Addr) (t s b : Int) (e : Option Int) (x y : Int), vs = [.ref l, .int x, .int y] ∧ SqL K H l (prt t s b e) ∧ OkV t s b e ∧ 0 ≤ x ∧ y ≤ 10000 ∧
  ∀ H' v, Same H H' → Duo H H' v (stM b e (x - s) (y - t - s + 1)) → Q v H'
theorem Ext.put {r l : Addr} {H H' : Hp} {o : HO} (e : Ext r H H') (hl : H l = none) (n : l ≠ r) : Ext r H (upd H' l o) := by
  refine ⟨fun b u hb eb => ?_, ?_⟩
  · rw [upd_ne (ne_of_none eb hl)]; exact e.keep _ _ hb eb
  · obtain ⟨a, b, h, h1, h2, h3⟩ := e.rng
    exact ⟨a, b, by rw [upd_ne (Ne.symm n)]; exact h, h1, h2, h3⟩
def mn (a b : Int) : Int := if a < b then a else b
def rgI (a b : Int) : List Int := (List.range (b - a).toNat).map fun i => a + (i : Nat)
theorem rgI_len {a b : Int} : (rgI a b).length = (b - a).toNat := by unfold rgI; rw [List.length_map, List.length_range]
theorem rgI_push {a b : Int} (h : a ≤ b) : rgI a (b + 1) = rgI a b ++ [b] := by
  unfold rgI
  rw [show (b + 1 - a).toNat = (b - a).toNat + 1 by omega, List.range_succ, List.map_append]
  congr 1
  show [a + (((b - a).toNat : Nat) : Int)] = [b]
  congr 1
  omega
theorem rgI_nil {a b : Int} (h : b ≤ a) : rgI a b = [] := by
  unfold rgI
  rw [show (b - a).toNat = 0 by omega]
  rfl
theorem rg_in {F B x : Int} (h1 : F ≤ x) (h2 : x < B) : rgI F (mn B (x + 1)) = rgI F (mn B x) ++ [x] := by
  have e1 : mn B (x + 1) = x + 1 := by unfold mn; split <;> omega
  have e2 : mn B x = x := by unfold mn; split <;> omega
  rw [e1, e2, rgI_push h1]
theorem rg_out {F B x : Int} (h : x < F ∨ B ≤ x) : rgI F (mn B (x + 1)) = rgI F (mn B x) := by
  rcases h with h | h
  · rw [rgI_nil (by unfold mn; split <;> omega), rgI_nil (by unfold mn; split <;> omega)]
  · have e1 : mn B (x + 1) = B := by unfold mn; split <;> omega
    have e2 : mn B x = B := by unfold mn; split <;> omega
    rw [e1, e2]
theorem shaped_ints (us : List Int) : SeqAt.shaped (.list (us.map PyData.int)) = true := by
  have a : ∀ us : List Int, PyData.canLayAll0 (us.map PyData.int) = true := by
    intro us
    induction us with
    | nil => rfl
    | cons u us ih =>
      simp only [List.map_cons, PyData.canLayAll0, ih, Bool.and_true]
      rfl
  have b : ∀ us : List Int, PyData.depthAll (us.map PyData.int) ≤ 1 := by
    intro us
    induction us with
    | nil => exact Nat.zero_le _
    | cons u us ih =>
      simp only [List.map_cons, PyData.depthAll, PyData.depth]
      omega
  have c := b us
  refine Bool.and_eq_true_iff.mpr ⟨?_, decide_eq_true ?_⟩
  · simp only [PyData.canLay0]; exact a us
  · simp only [PyData.depth]; omega
theorem dp_ints {K : PySem.W.Frag} {H : Hp} : ∀ us : List Int, DpAll K H (us.map V.int) (us.map PyData.int)
  | [] => .nil
  | u :: us => .cons (.int u) (dp_ints us)
theorem kb_vis3 {K : PySem.W.Frag} {mg : Str → Option Value} {A : Ad} (T : Txt K mg A) : ∃ mv : List Value, KBn K A.d_Visit_init ["self", "time", "shift", "begin", "end"] 2 ["shift", "begin", "end"] (fun us ws => us ++ ws) (fun vs zs => vs ++ zs) := by
  obtain ⟨mv, h⟩ := T.F_Visit_init.kbinds0 (ps := ["self", "time", "shift", "begin", "end"]) 2 ["shift", "begin", "end"] [] (fun us _ ws => us ++ ws) (by simp) (by simp) (fun a _ c => a.append c)
    (fun D doc pm an cdv ct us mv ws h1 h2 h3 => match us, mv, ws, h1, h2, h3 with | [_, _], [], [_, _, _], _, _, _ => rfl)
  exact ⟨mv, h⟩
section
variable {P : Program} {w : World} {K : PySem.W.Frag} {mg : Str → Option Value} {base : Heap} {A : Ad}
theorem ok_l_parts (T : Txt K mg A) : FnOk P w K mg base CX0 3 A.f_l_parts A.d_l_parts ["_law_rng_here"] (sp_l_parts K A) := by
  have G_l_choice := ok_l_choice (P := P) (w := w) (base := base) T
  have G_l_draw := ok_l_draw (P := P) (w := w) (base := base) T
  refine T.F_l_parts.ok sc_l_parts (fun vs H Q E h => ?_) (fun cdv A0 outer s H vs Q E hr h => ?_)
  · obtain ⟨r, rfl, hr0, k⟩ := h
    rfl
  · obtain ⟨r, rfl, hr0, k⟩ := h
    refine ⟨_, (pss_cons (ps_set (i := 1) sc_l_parts.nd rfl (by first | exact Or.inl rfl | exact Or.inr rfl) (pe_lst (pa_cons (pe_op op_add pe_int (pe_call G_l_draw (hr.mono (by decide)) rfl T.m_l_draw T.k_l_draw T.b_l_draw .nil pass0 (pa_cons (pv 0) (pa_cons (pe_call G_l_choice (hr.mono (by decide)) rfl T.m_l_choice T.k_l_choice T.b_l_choice .nil pass0 (pa_cons (pv 0) (pa_cons (pe_lst (pa_cons pe_int (pa_cons pe_int pa_nil))) pa_nil))) pa_nil)))) (pa_cons (pe_call G_l_draw (hr.mono (by decide)) rfl T.m_l_draw T.k_l_draw T.b_l_draw .nil pass0 (pa_cons (pv 0) (pa_cons pe_int pa_nil))) (pa_cons (pe_call G_l_draw (hr.mono (by decide)) rfl T.m_l_draw T.k_l_draw T.b_l_draw .nil pass0 (pa_cons (pv 0) (pa_cons pe_int pa_nil))) (pa_cons pe_non pa_nil))))))
    (VG.pss_join (ps_if (pt_cmpR op_eq (pe_call G_l_draw (hr.mono (by decide)) rfl T.m_l_draw T.k_l_draw T.b_l_draw .nil pass0 (pa_cons (pv 0) (pa_cons pe_int pa_nil))) pe_int (nomark _)) (pss_one (ps_asg (pe_op op_add pe_int (pe_call G_l_draw (hr.mono (by decide)) rfl T.m_l_draw T.k_l_draw T.b_l_draw .nil pass0 (pa_cons (pv 0) (pa_cons pe_int pa_nil)))) (pg_sub (pv 1) (pe_op op_add pe_int (pe_call G_l_draw (hr.mono (by decide)) rfl T.m_l_draw T.k_l_draw T.b_l_draw .nil pass0 (pa_cons (pv 0) (pa_cons pe_int pa_nil)))) set_list))) pss_nil)
    (VG.pss_join (ps_if (pt_cmpR op_eq (pe_call G_l_draw (hr.mono (by decide)) rfl T.m_l_draw T.k_l_draw T.b_l_draw .nil pass0 (pa_cons (pv 0) (pa_cons pe_int pa_nil))) pe_int (nomark _)) (pss_one (ps_asg (pe_callB (call_min2 rfl) (by rfl) T.min (by decide +kernel) (pa_cons pe_int (pa_cons (pe_op op_add (pe_ix (r := rIxL K) ix_list (pv 1) pe_int (fun _ _ => rfl)) (pe_call G_l_draw (hr.mono (by decide)) rfl T.m_l_draw T.k_l_draw T.b_l_draw .nil pass0 (pa_cons (pv 0) (pa_cons pe_int pa_nil)))) pa_nil))) (pg_sub (pv 1) pe_int set_list))) pss_nil)
    (pss_one (ps_ret (pv 1)))))), ?_⟩
    refine ⟨_, rfl, _, rfl, (by show 2 ≤ sizeLine; decide), fun q hq => ?_⟩
    have sq : Same H (upd H q (.lst [.int 3, .int 12])) := Same.upd (Same.refl _) hq
    have hr1 := hr0.same sq
    refine ⟨r, q, _, rfl, hr1, SqL.of upd_same, (hr0.ne hq), (by decide), (by decide), fun H1 v e1 hv => ?_⟩
    have e01 : Ext r H H1 := (Ext.of hr0 sq).trans e1
    have hm : ∃ m : Int, v = .int m ∧ 0 < m ∧ m ≤ 12 := by
      simp only [List.mem_cons, List.not_mem_nil, or_false] at hv
      rcases hv with rfl | rfl
      · exact ⟨3, rfl, by decide, by decide⟩
      · exact ⟨12, rfl, by decide, by decide⟩
    obtain ⟨m, rfl, m0, m1⟩ := hm
    refine ⟨r, m, rfl, e1.rng, m0, by omega, fun H2 d e2 d0 d1 => ⟨_, _, rfl, rfl, ?_⟩⟩
    refine ⟨_, rfl, r, _, rfl, e2.rng, by decide, by decide, fun H3 d2 e3 d20 d21 => ?_⟩
    refine ⟨_, rfl, r, _, rfl, e3.rng, by decide, by decide, fun H4 d3 e4 d30 d31 => ?_⟩
    have e04 : Ext r H H4 := ((e01.trans e2).trans e3).trans e4
    refine ⟨(by show 4 ≤ sizeLine; decide), fun l hl => ?_⟩
    have hl0 : H l = none := e04.free hl
    have nlr : l ≠ r := hr0.ne hl0
    have e05 : Ext r H (upd H4 l (.lst [.int (1 + d), .int d2, .int d3, .non])) := e04.same (Same.upd (Same.refl _) hl)
    generalize hH5 : upd H4 l (.lst [.int (1 + d), .int d2, .int d3, .non]) = H5 at *
    have hl5 : H5 l = some (.lst [.int (1 + d), .int d2, .int d3, .non]) := by rw [← hH5]; exact upd_same
    refine ⟨fun σ' H' => σ' = [some (.ref r), some (.ref l)] ∧ Ext r H H' ∧ ∃ t s b : Int, H' l = some (.lst [.int t, .int s, .int b, .non]) ∧ 1 ≤ t ∧ t ≤ 12 ∧ 0 ≤ s ∧ s ≤ 1000 ∧ 0 ≤ b ∧ b ≤ 1000, ?_, ?_⟩
    · refine ⟨_, rfl, r, _, rfl, e05.rng, by decide, by decide, fun H6 d4 e6 d40 d41 => ⟨rfl, _, rfl, ifEq (fun c => ?_) (fun c => ?_)⟩⟩
      · have hl6 := e6.keep _ _ nlr hl5
        refine ⟨_, rfl, r, _, rfl, e6.rng, by decide, by decide, fun H7 d5 e7 d50 d51 => ⟨_, _, rfl, rfl, _, rfl, ?_⟩⟩
        refine ⟨_, rfl, r, _, rfl, e7.rng, by decide, by decide, fun H8 d6 e8 d60 d61 => ⟨_, _, rfl, rfl, ?_⟩⟩
        have hl8 := e8.keep _ _ nlr (e7.keep _ _ nlr hl6)
        have e08 := ((e05.trans e6).trans e7).trans e8
        rcases (show d6 = 0 ∨ d6 = 1 by omega) with rfl | rfl
        · exact ⟨l, _, _, 1, rfl, rfl, hl8, rfl, rfl, e08.put hl0 nlr, _, _, _, upd_same, by omega, by omega, by omega, by omega, by omega, by omega⟩
        · exact ⟨l, _, _, 2, rfl, rfl, hl8, rfl, rfl, e08.put hl0 nlr, _, _, _, upd_same, by omega, by omega, by omega, by omega, by omega, by omega⟩
      · exact ⟨rfl, e05.trans e6, _, _, _, e6.keep _ _ nlr hl5, by omega, by omega, by omega, by omega, by omega, by omega⟩
    · rintro σ' H' ⟨rfl, e7, t, s, b, hl7, t0, t1, s0, s1, b0, b1⟩
      refine ⟨fun σ' H' => σ' = [some (.ref r), some (.ref l)] ∧ Ext r H H' ∧ ∃ e, H' l = some (.lst (prt t s b e)) ∧ OkV t s b e, ?_, ?_⟩
      · refine ⟨_, rfl, r, _, rfl, e7.rng, by decide, by decide, fun H8 d7 e8 d70 d71 => ⟨rfl, _, rfl, ifEq (fun c => ?_) (fun c => ?_)⟩⟩
        · have hl8 := e8.keep _ _ nlr hl7
          refine ⟨_, rfl, l, _, _, _, rfl, rfl, SqL.of hl8, rfl, _, rfl, r, _, rfl, e8.rng, by decide, by decide, fun H9 d8 e9 d80 d81 => ⟨_, _, rfl, rfl, _, _, rfl, _, rfl, ?_⟩⟩
          have hl9 := e9.keep _ _ nlr hl8
          refine ⟨l, _, _, 3, rfl, rfl, hl9, rfl, rfl, ((e7.trans e8).trans e9).put hl0 nlr, some (if b + d8 < 1000 then b + d8 else 1000), upd_same, t0, t1, s0, s1, b0, b1, fun x hx => ?_, fun x hx => ?_⟩
          · cases hx; split <;> omega
          · cases hx; split <;> omega
        · exact ⟨rfl, e7.trans e8, none, e8.keep _ _ nlr hl7, t0, t1, s0, s1, b0, b1, (fun x hx => by cases hx), (fun x hx => by cases hx)⟩
      · rintro σ' H' ⟨rfl, e9, e, hl9, ok⟩
        exact ⟨_, rfl, k H' l t s b e e9 hl0 nlr hl9 ok⟩
theorem ok_l_made (T : Txt K mg A) : FnOk P w K mg base CX0 7 A.f_l_made A.d_l_made ["_law_parts_here"] (sp_l_made K A) := by
  have G_Visit_init := ok_Visit_init (P := P) (w := w) (base := base) T
  obtain ⟨mv1, kb_Visit_shift_begin_end⟩ := kb_vis3 T
  refine T.F_l_made.ok sc_l_made (fun vs H Q E h => ?_) (fun cdv A0 outer s H vs Q E hr h => ?_)
  · obtain ⟨l, t, s, b, e, rfl, hS, ok, k⟩ := h
    rfl
  · obtain ⟨l, t, s, b, e, rfl, hS, ok, k⟩ := h
    refine ⟨_, (pss_one (ps_ret (pe_makeK (n := 1) T.M_Visit G_Visit_init (hr.mono (by decide)) rfl T.m_Visit kb_Visit_shift_begin_end pass0 (pa_cons (pe_ix (r := rIxL K) ix_list (pv 0) pe_int (fun _ _ => rfl)) pa_nil) (pk_cons (pe_ix (r := rIxL K) ix_list (pv 0) pe_int (fun _ _ => rfl)) (pk_cons (pe_ix (r := rIxL K) ix_list (pv 0) pe_int (fun _ _ => rfl)) (pk_cons (pe_ix (r := rIxL K) ix_list (pv 0) pe_int (fun _ _ => rfl)) pk_nil)))))), ?_⟩
    refine ⟨_, rfl, l, _, _, _, rfl, rfl, hS, rfl, _, rfl, l, _, _, _, rfl, rfl, hS, rfl, _, rfl, l, _, _, _, rfl, rfl, hS, rfl, _, rfl, l, _, _, _, rfl, rfl, hS, rfl, rfl, rfl, fun x dx hx hdx hne => ?_⟩
    refine ⟨x, dx, t, s, b, e, rfl, upd_same, ok, rfl, ?_⟩
    rw [upd_upd]
    exact k _ x (Same.upd (Same.upd (Same.refl _) hdx) hx) hx ⟨dx, upd_same⟩
theorem ok_l_due (T : Txt K mg A) : FnOk P w K mg base CX0 1 A.f_l_due A.d_l_due ["_law_parts_here", "_law_low", "_law_high"] (sp_l_due K A) := by
  refine T.F_l_due.ok sc_l_due (fun vs H Q E h => ?_) (fun cdv A0 outer s H vs Q E hr h => ?_)
  · obtain ⟨l, t, s, b, e, x, y, rfl, hS, ok, x0, y1, k⟩ := h
    rfl
  · obtain ⟨l, t, s, b, e, x, y, rfl, hS, ok, x0, y1, k⟩ := h
    refine ⟨_, (pss_cons (ps_set (i := 3) sc_l_due.nd rfl (by first | exact Or.inl rfl | exact Or.inr rfl) (pe_lst pa_nil))
    (pss_cons (ps_for PassesOwn.never rfl (pi_range2 rfl T.range (pa_cons (pe_ix (r := rIxL K) ix_list (pv 0) pe_int (fun _ _ => rfl)) (pa_cons (pe_op op_add (pe_callB (call_max2 rfl) (by rfl) T.max (by decide +kernel) (pa_cons (pe_ix (r := rIxL K) ix_list (pv 0) pe_int (fun _ _ => rfl)) (pa_cons (pv 2) pa_nil))) pe_int) pa_nil))) (pg_name (i := 4) sc_l_due.nd rfl (by first | exact Or.inl rfl | exact Or.inr rfl))
      (pss_cons (ps_set (i := 5) sc_l_due.nd rfl (by first | exact Or.inl rfl | exact Or.inr rfl) (pe_or (pe_cmp (pc_isN (pe_ix (r := rIxL K) ix_list (pv 0) pe_int (fun _ _ => rfl))) rfl) (pe_one (pe_cmpR op_lt (pv 4) (pe_ix (r := rIxL K) ix_list (pv 0) pe_int (fun _ _ => rfl)) (nomark _)))))
    (pss_one (ps_if (PW.pt (pw_and (pt_val (pv 5)) (pw_and (pt_cmpR op_le (pv 1) (pe_op op_add (pv 4) (pe_ix (r := rIxL K) ix_list (pv 0) pe_int (fun _ _ => rfl))) (nomark _)) (pw_and1 (pt_cmpR op_le (pe_op op_add (pe_op op_add (pv 4) (pe_ix (r := rIxL K) ix_list (pv 0) pe_int (fun _ _ => rfl))) (pe_ix (r := rIxL K) ix_list (pv 0) pe_int (fun _ _ => rfl))) (pv 2) (nomark _)))))) (pss_one (ps_expr (pe_bm PySem.F.plainAttrs_list PySem.F.slot_list_append PySem.F.type_list_append mt_append (pv 3) (pa_cons (pv 4) pa_nil)))) pss_nil))))
    (pss_one (ps_ret (pe_ifExp (pt_cmpR (op_neD hr.units) (pv 3) (pe_lst pa_nil) (nomark _)) (pe_tup (pa_cons (pe_ix (r := rIxL K) ix_list (pv 3) pe_int (fun _ _ => rfl)) (pa_cons (pe_op op_add (pe_ix (r := rIxL K) ix_list (pv 3) (pe_un un_neg pe_int) (fun _ _ => rfl)) pe_int) pa_nil))) pe_non))))), ?_⟩
    obtain ⟨t0, t1, s0, s1, b0, b1, eb, e1⟩ := ok
    refine ⟨(by show 0 ≤ sizeLine; decide), fun q hq => ?_⟩
    have sq : Same H (upd H q (.lst [])) := Same.upd (Same.refl _) hq
    refine ⟨_, rfl, l, _, _, _, rfl, rfl, sq.seq hS, rfl, _, rfl, l, _, _, _, rfl, rfl, sq.seq hS, rfl, _, rfl, _, _, rfl, _, _, rfl, rfl, ?_⟩
    have hY : y ≤ (if b < y then y else b) ∧ b ≤ (if b < y then y else b) ∧ (if b < y then y else b) ≤ 10000 := by split <;> omega
    generalize (if b < y then y else b) = Y at *
    obtain ⟨hY1, hY2, hY3⟩ := hY
    have hF : b ≤ (if b < x - s then x - s else b) ∧ x - s ≤ (if b < x - s then x - s else b) ∧ ((if b < x - s then x - s else b) = b ∨ (if b < x - s then x - s else b) = x - s) := by split <;> omega
    generalize hFe : (if b < x - s then x - s else b) = F at hF
    cases e with
    | none =>
      have hBe : eB none (y - t - s + 1) = y - t - s + 1 := rfl
      have hB : y - t - s + 1 = y - t - s + 1 := rfl
      generalize hb : y - t - s + 1 = Bh at hB hBe
      have hBe' : eB none (y - t - s + 1) = Bh := by rw [← hb]; rfl
      refine ⟨_, _, rfl, ⟨by omega, by omega, by omega, by omega⟩, ?_⟩
      refine for_range (lo := b) (n := (Y + 1 - b).toNat) (fun i σ H' => ∃ v4 v5, σ = [some (.ref l), some (.int x), some (.int y), some (.ref q), v4, v5] ∧ Same H H' ∧ H' q = some (.lst ((rgI F (mn Bh (b + (i : Int)))).map V.int)))
        ⟨_, _, rfl, sq, by rw [rgI_nil (by unfold mn; split <;> omega)]; exact upd_same⟩ ?_ ?_
      · rintro i σ H' hi ⟨v4, v5, rfl, s2, hq2⟩
        have sS := s2.seq hS
        refine ⟨_, rfl, l, _, _, _, rfl, rfl, sS, rfl, _, rfl, ?_⟩
        refine iteT ⟨_, rfl, _, rfl, iteT ?_⟩
        · refine ⟨_, rfl, _, rfl, _, rfl, l, _, _, _, rfl, rfl, sS, rfl, _, _, rfl, rfl, _, _, rfl, rfl, _, rfl, ifD (fun c1 => ?_) (fun c1 => ?_)⟩
          · refine ⟨_, rfl, _, rfl, l, _, _, _, rfl, rfl, sS, rfl, _, _, rfl, rfl, _, rfl, l, _, _, _, rfl, rfl, sS, rfl, _, _, rfl, rfl, _, rfl, _, _, rfl, rfl, _, rfl, ifD (fun c2 => ?_) (fun c2 => ?_)⟩
            · refine ⟨_, rfl, .inl ⟨rfl, _, SqL.of hq2⟩, _, rfl, q, _, _, rfl, rfl, hq2, small (by rw [List.length_map, rgI_len]; unfold mn; split <;> omega), ?_⟩
              refine ⟨_, _, rfl, Same.upd s2 hq, ?_⟩
              rw [upd_same, show b + ((i + 1 : Nat) : Int) = b + (i : Int) + 1 by omega, rg_in (by have := hF; omega) (by have := hB; omega), List.map_append]
              rfl
            · refine ⟨_, _, rfl, s2, ?_⟩
              rw [show b + ((i + 1 : Nat) : Int) = b + (i : Int) + 1 by omega, rg_out (by have := hB; omega)]
              exact hq2
          · refine ⟨_, _, rfl, s2, ?_⟩
            rw [show b + ((i + 1 : Nat) : Int) = b + (i : Int) + 1 by omega, rg_out (by have := hF; omega)]
            exact hq2
      · rintro σ H' ⟨v4, v5, rfl, s2, hq2⟩
        have eMn : mn Bh (b + (((Y + 1 - b).toNat : Nat) : Int)) = Bh := by unfold mn; split <;> omega
        rw [eMn] at hq2
        refine ⟨_, rfl, (by show 0 ≤ sizeLine; decide), fun q0 hq0 => ?_⟩
        refine ⟨_, _, .lst (SqL.of (by rw [upd_ne (ne_of_none hq2 hq0)]; exact hq2)) (dp_ints _), .lst (SqL.of upd_same) .nil, shaped_ints _, by decide, _, rfl, ?_⟩
        have s3 : Same H (upd H' q0 (.lst [])) := Same.upd s2 (s2.free hq0)
        by_cases z0 : Bh ≤ F
        · rw [rgI_nil z0] at hq2 ⊢
          refine iteF ?_
          rw [stM_le hFe hBe' z0] at k
          exact k _ _ s3 rfl
        · rw [stM_gt hFe hBe' z0] at k
          have hlen : (rgI F Bh).length = (Bh - F).toNat := rgI_len
          have e0 : PyData.eqv (.list ((rgI F Bh).map PyData.int)) (.list []) = false := by
            cases hh : rgI F Bh with
            | nil => rw [hh] at hlen; simp at hlen; omega
            | cons a c => rfl
          rw [e0]
          refine iteT ?_
          have hq3 : upd H' q0 (.lst []) q = some (.lst ((rgI F Bh).map V.int)) := by rw [upd_ne (ne_of_none hq2 hq0)]; exact hq2
          have g1 : (rgI F Bh).getD (0 : Int).toNat 0 = F := by
            unfold rgI
            rw [List.getD_eq_getElem?_getD, List.getElem?_map, List.getElem?_range (by show 0 < _; omega)]
            show F + ((0 : Nat) : Int) = F
            omega
          have g2 : (rgI F Bh).getD (-1 + ((rgI F Bh).length : Int)).toNat 0 + 1 = Bh := by
            rw [hlen]
            unfold rgI
            rw [List.getD_eq_getElem?_getD, List.getElem?_map, List.getElem?_range (by omega)]
            show F + (((-1 + (((Bh - F).toNat : Nat) : Int)).toNat : Nat) : Int) + 1 = Bh
            omega
          refine ⟨_, rfl, q, _, _, _, rfl, rfl, SqL.of hq3, at_map (by decide) (by rw [hlen]; omega), _, rfl, _, rfl, q, _, _, _, rfl, rfl, SqL.of hq3, at_back (by decide) (by rw [hlen]; omega), _, _, rfl, rfl, (by show 2 ≤ sizeLine; decide), fun q4 hq4 => ?_⟩
          rw [g1]
          refine k _ _ (Same.upd s3 (s3.free hq4)) ⟨q4, rfl, s3.free hq4, ?_⟩
          rw [upd_same]
          show some (HO.tup [V.int F, V.int (_ + 1)]) = _
          rw [g2]
    | some z =>
      have hBe : eB (some z) (y - t - s + 1) = (if y - t - s + 1 < z then y - t - s + 1 else z) := rfl
      have hB : (if y - t - s + 1 < z then y - t - s + 1 else z) ≤ y - t - s + 1 ∧ (if y - t - s + 1 < z then y - t - s + 1 else z) ≤ z ∧ ((if y - t - s + 1 < z then y - t - s + 1 else z) = y - t - s + 1 ∨ (if y - t - s + 1 < z then y - t - s + 1 else z) = z) := by split <;> omega
      generalize (if y - t - s + 1 < z then y - t - s + 1 else z) = Bh at hB hBe
      have hBe' := hBe
      refine ⟨_, _, rfl, ⟨by omega, by omega, by omega, by omega⟩, ?_⟩
      refine for_range (lo := b) (n := (Y + 1 - b).toNat) (fun i σ H' => ∃ v4 v5, σ = [some (.ref l), some (.int x), some (.int y), some (.ref q), v4, v5] ∧ Same H H' ∧ H' q = some (.lst ((rgI F (mn Bh (b + (i : Int)))).map V.int)))
        ⟨_, _, rfl, sq, by rw [rgI_nil (by unfold mn; split <;> omega)]; exact upd_same⟩ ?_ ?_
      · rintro i σ H' hi ⟨v4, v5, rfl, s2, hq2⟩
        have sS := s2.seq hS
        refine ⟨_, rfl, l, _, _, _, rfl, rfl, sS, rfl, _, rfl, ?_⟩
        refine iteF ⟨_, rfl, _, rfl, l, _, _, _, rfl, rfl, sS, rfl, _, _, rfl, rfl, ?_⟩
        refine ⟨_, rfl, _, rfl, ifD (fun c0 => ?_) (fun c0 => ?_)⟩
        · refine ⟨_, rfl, _, rfl, _, rfl, l, _, _, _, rfl, rfl, sS, rfl, _, _, rfl, rfl, _, _, rfl, rfl, _, rfl, ifD (fun c1 => ?_) (fun c1 => ?_)⟩
          · refine ⟨_, rfl, _, rfl, l, _, _, _, rfl, rfl, sS, rfl, _, _, rfl, rfl, _, rfl, l, _, _, _, rfl, rfl, sS, rfl, _, _, rfl, rfl, _, rfl, _, _, rfl, rfl, _, rfl, ifD (fun c2 => ?_) (fun c2 => ?_)⟩
            · refine ⟨_, rfl, .inl ⟨rfl, _, SqL.of hq2⟩, _, rfl, q, _, _, rfl, rfl, hq2, small (by rw [List.length_map, rgI_len]; unfold mn; split <;> omega), ?_⟩
              refine ⟨_, _, rfl, Same.upd s2 hq, ?_⟩
              rw [upd_same, show b + ((i + 1 : Nat) : Int) = b + (i : Int) + 1 by omega, rg_in (by have := hF; omega) (by have := hB; omega), List.map_append]
              rfl
            · refine ⟨_, _, rfl, s2, ?_⟩
              rw [show b + ((i + 1 : Nat) : Int) = b + (i : Int) + 1 by omega, rg_out (by have := hB; omega)]
              exact hq2
          · refine ⟨_, _, rfl, s2, ?_⟩
            rw [show b + ((i + 1 : Nat) : Int) = b + (i : Int) + 1 by omega, rg_out (by have := hF; omega)]
            exact hq2
        · refine ⟨_, _, rfl, s2, ?_⟩
          rw [show b + ((i + 1 : Nat) : Int) = b + (i : Int) + 1 by omega, rg_out (by have := hB; omega)]
          exact hq2
      · rintro σ H' ⟨v4, v5, rfl, s2, hq2⟩
        have eMn : mn Bh (b + (((Y + 1 - b).toNat : Nat) : Int)) = Bh := by unfold mn; split <;> omega
        rw [eMn] at hq2
        refine ⟨_, rfl, (by show 0 ≤ sizeLine; decide), fun q0 hq0 => ?_⟩
        refine ⟨_, _, .lst (SqL.of (by rw [upd_ne (ne_of_none hq2 hq0)]; exact hq2)) (dp_ints _), .lst (SqL.of upd_same) .nil, shaped_ints _, by decide, _, rfl, ?_⟩
        have s3 : Same H (upd H' q0 (.lst [])) := Same.upd s2 (s2.free hq0)
        by_cases z0 : Bh ≤ F
        · rw [rgI_nil z0] at hq2 ⊢
          refine iteF ?_
          rw [stM_le hFe hBe' z0] at k
          exact k _ _ s3 rfl
        · rw [stM_gt hFe hBe' z0] at k
          have hlen : (rgI F Bh).length = (Bh - F).toNat := rgI_len
          have e0 : PyData.eqv (.list ((rgI F Bh).map PyData.int)) (.list []) = false := by
            cases hh : rgI F Bh with
            | nil => rw [hh] at hlen; simp at hlen; omega
            | cons a c => rfl
          rw [e0]
          refine iteT ?_
          have hq3 : upd H' q0 (.lst []) q = some (.lst ((rgI F Bh).map V.int)) := by rw [upd_ne (ne_of_none hq2 hq0)]; exact hq2
          have g1 : (rgI F Bh).getD (0 : Int).toNat 0 = F := by
            unfold rgI
            rw [List.getD_eq_getElem?_getD, List.getElem?_map, List.getElem?_range (by show 0 < _; omega)]
            show F + ((0 : Nat) : Int) = F
            omega
          have g2 : (rgI F Bh).getD (-1 + ((rgI F Bh).length : Int)).toNat 0 + 1 = Bh := by
            rw [hlen]
            unfold rgI
            rw [List.getD_eq_getElem?_getD, List.getElem?_map, List.getElem?_range (by omega)]
            show F + (((-1 + (((Bh - F).toNat : Nat) : Int)).toNat : Nat) : Int) + 1 = Bh
            omega
          refine ⟨_, rfl, q, _, _, _, rfl, rfl, SqL.of hq3, at_map (by decide) (by rw [hlen]; omega), _, rfl, _, rfl, q, _, _, _, rfl, rfl, SqL.of hq3, at_back (by decide) (by rw [hlen]; omega), _, _, rfl, rfl, (by show 2 ≤ sizeLine; decide), fun q4 hq4 => ?_⟩
          rw [g1]
          refine k _ _ (Same.upd s3 (s3.free hq4)) ⟨q4, rfl, s3.free hq4, ?_⟩
          rw [upd_same]
          show some (HO.tup [V.int F, V.int (_ + 1)]) = _
          rw [g2]
end
end VK


namespace VK
open PySem PySem.Spec PyProof.Rows L2 VM
def dE : Option Int → PyData
  | none => .none
  | some x => .int x
theorem dpE {K : PySem.W.Frag} {H : Hp} : ∀ e, Dp K H (oV e) (dE e)
  | none => .non
  | some x => .int x
def dPrt (t s b : Int) (e : Option Int) : PyData := .list [.int t, .int s, .int b, dE e]
theorem dpPrt {K : PySem.W.Frag} {H : Hp} {l : Addr} {t s b : Int} {e : Option Int} (h : SqL K H l (prt t s b e)) : Dp K H (.ref l) (dPrt t s b e) :=
  .lst h (.cons (.int t) (.cons (.int s) (.cons (.int b) (.cons (dpE e) .nil))))
theorem szE {e : Option Int} (h : ∀ x, e = some x → x.natAbs < 10 ^ 100) : VR.Sz 0 101 (dE e) := by
  cases e with
  | none => exact VR.Sz.none.mono (by decide) (by decide)
  | some x => exact .int (h x rfl)
theorem OkV.sz {t s b : Int} {e : Option Int} (ok : OkV t s b e) : VR.Sz 1 500 (dPrt t s b e) := by
  have p1 : (1000 : Nat) < 10 ^ 100 := by decide +kernel
  obtain ⟨t0, t1, s0, s1, b0, b1, eb, e1⟩ := ok
  refine (VR.Sz.list (k := 0) (L := 101) (n := 4) (fun d hd => ?_) (Nat.le_refl _)).mono (by decide) (by decide)
  simp only [List.mem_cons, List.not_mem_nil, or_false] at hd
  rcases hd with rfl | rfl | rfl | rfl
  · exact .int (by omega)
  · exact .int (by omega)
  · exact .int (by omega)
  · exact szE fun x hx => by have := eb x hx; have := e1 x hx; omega
theorem big {k L : Nat} {d : PyData} (s : VR.Sz k L d) (a : k ≤ 60) (b : L ≤ 16777216) : d.showable = true ∧ d.depth ≤ 60 ∧ d.shown.length ≤ sizeLine := ⟨s.sh, Nat.le_trans s.dp a, Nat.le_trans s.ln (by rw [sizeLine_eq]; exact b)⟩
theorem lit_shift : (", shift=" : Str) = (", " : Str) ++ ("shift=" : Str) := by decide +kernel
theorem lit_begin : (", begin=" : Str) = (", " : Str) ++ ("begin=" : Str) := by decide +kernel
theorem lit_end : (", end=" : Str) = (", " : Str) ++ ("end=" : Str) := by decide +kernel
theorem vis_text (t s b : Int) (e : Option Int) : (("Visit(" : Str) ++ Txt.join (", " : Str) [(toString t : Str), ("shift=" : Str) ++ (toString s : Str), ("begin=" : Str) ++ (toString b : Str), ("end=" : Str) ++ eS e]) ++ (")" : Str) = visS t s b e := by
  have j : ∀ xs : List Str, Txt.join (", " : Str) xs = Str.join (", " : Str) xs := fun xs => StrLaws.glued_eq_join _ xs
  rw [j]
  unfold visS
  rw [lit_shift, lit_begin, lit_end]
  simp only [Str.join, Str.append_assoc, Str.empty_append]
theorem vis_len {t s b : Int} {e : Option Int} (l1 : ((toString t : String) : Str).length ≤ 101) (l2 : ((toString s : String) : Str).length ≤ 101) (l3 : ((toString b : String) : Str).length ≤ 101) (l4 : (eS e).length ≤ 101) :
    (Txt.join (", " : Str) [(toString t : Str), ("shift=" : Str) ++ (toString s : Str), ("begin=" : Str) ++ (toString b : Str), ("end=" : Str) ++ eS e]).length ≤ 500 := by
  have j : ∀ xs : List Str, Txt.join (", " : Str) xs = Str.join (", " : Str) xs := fun xs => StrLaws.glued_eq_join _ xs
  rw [j]
  have k2 := lit_len "shift=" (n := 6)
  have k3 := lit_len "begin=" (n := 6)
  have k4 := lit_len "end=" (n := 4)
  have k5 := lit_len ", " (n := 2)
  simp only [Str.join, Str.length_append]
  omega
theorem strIN_e {e : Option Int} {H : Hp} {Q : L2.VK} (le : ∀ x, e = some x → x.natAbs < 10 ^ 100) (q : Q (.str (eS e)) H) : VN.rStrIN [oV e] H Q := by
  cases e with
  | none => exact .inr ⟨rfl, q⟩
  | some x => exact .inl ⟨x, rfl, VR.log_small (le x rfl), q⟩
def sp_l_told_right (K : PySem.W.Frag) (A : Ad) : Sp := fun vs H Q _ => ∃ (p l : Addr) (t s b : Int) (e : Option Int), vs = [.ref p, .ref l] ∧ VisAt A H p t s b e ∧ SqL K H l (prt t s b e) ∧ OkV t s b e ∧ ∀ H', Same H H' → Q (.bl true) H'
section
variable {P : Program} {w : World} {K : PySem.W.Frag} {mg : Str → Option Value} {base : Heap} {A : Ad}
theorem ok_l_told_right (T : Txt K mg A) : VG.FnG P w K mg base CX0 4 A.f_l_told_right A.d_l_told_right ["_law_visit", "_law_parts_here"] (sp_l_told_right K A) := by
  have G_Visit_begin := ok_Visit_begin (P := P) (w := w) (base := base) T
  have G_Visit_end := ok_Visit_end (P := P) (w := w) (base := base) T
  have G_Visit_repr := ok_Visit_repr (P := P) (w := w) (base := base) T
  have G_Visit_shift := ok_Visit_shift (P := P) (w := w) (base := base) T
  have G_Visit_time := ok_Visit_time (P := P) (w := w) (base := base) T
  refine VG.okG0 T.F_l_told_right sc_l_told_right (fun vs H Q E h => ?_) (fun cdv A0 outer s H vs Q E hA hr h => ?_)
  · obtain ⟨p, l, t, s, b, e, rfl, hv, hS, ok, k⟩ := h
    rfl
  · obtain ⟨p, l, t, s, b, e, rfl, hv, hS, ok, k⟩ := h
    refine ⟨_, (pss_cons (ps_if (pt_cmpR op_ne (pe_callB (r := VG.rRepr K) (VG.call_repr hA hr.units) (by rfl) T.repr (by decide +kernel) (pa_cons (pe_lst (pa_cons (pe_prop (pv 0) T.clVisit T.pr_Visit_time G_Visit_time (hr.mono (by decide)) T.b_Visit_time .nil pass0 rfl) (pa_cons (pe_prop (pv 0) T.clVisit T.pr_Visit_shift G_Visit_shift (hr.mono (by decide)) T.b_Visit_shift .nil pass0 rfl) (pa_cons (pe_prop (pv 0) T.clVisit T.pr_Visit_begin G_Visit_begin (hr.mono (by decide)) T.b_Visit_begin .nil pass0 rfl) (pa_cons (pe_prop (pv 0) T.clVisit T.pr_Visit_end G_Visit_end (hr.mono (by decide)) T.b_Visit_end .nil pass0 rfl) pa_nil))))) pa_nil)) (pe_callB (r := VG.rRepr K) (VG.call_repr hA hr.units) (by rfl) T.repr (by decide +kernel) (pa_cons (pv 1) pa_nil)) (nomark _)) (pss_one (ps_ret pe_bl)) pss_nil)
    (pss_cons (ps_set (i := 2) sc_l_told_right.nd rfl (by first | exact Or.inl rfl | exact Or.inr rfl) (pe_lst (pa_cons (pe_callTy VN.call_strIN (by rfl) T.str (by decide +kernel) (pa_cons (pe_ix (r := rIxL K) ix_list (pv 1) pe_int (fun _ _ => rfl)) pa_nil)) (pa_cons (pe_op op_add_str pe_str (pe_callTy VN.call_strIN (by rfl) T.str (by decide +kernel) (pa_cons (pe_ix (r := rIxL K) ix_list (pv 1) pe_int (fun _ _ => rfl)) pa_nil))) (pa_cons (pe_op op_add_str pe_str (pe_callTy VN.call_strIN (by rfl) T.str (by decide +kernel) (pa_cons (pe_ix (r := rIxL K) ix_list (pv 1) pe_int (fun _ _ => rfl)) pa_nil))) (pa_cons (pe_op op_add_str pe_str (pe_callTy VN.call_strIN (by rfl) T.str (by decide +kernel) (pa_cons (pe_ix (r := rIxL K) ix_list (pv 1) pe_int (fun _ _ => rfl)) pa_nil))) pa_nil))))))
    (pss_one (ps_ret (pe_cmpR op_eq (pe_callB (VN.call_reprOwn (C := A.Visit) G_Visit_repr (hr.mono (by decide)) T.me___repr__ T.b_Visit_repr pass0) (by rfl) T.repr (by decide +kernel) (pa_cons (pv 0) pa_nil)) (pe_op op_add_str (pe_op op_add_str pe_str (pe_join pe_str (pv 2))) pe_str) (nomark _)))))), ?_⟩
    have p1 : (1000 : Nat) < 10 ^ 100 := by decide +kernel
    have lt : t.natAbs < 10 ^ 100 := by have := ok.t0; have := ok.t1; omega
    have ls : s.natAbs < 10 ^ 100 := by have := ok.s0; have := ok.s1; omega
    have lb : b.natAbs < 10 ^ 100 := by have := ok.b0; have := ok.b1; omega
    have le : ∀ x, e = some x → x.natAbs < 10 ^ 100 := fun x h => by have := ok.e0 x h; have := ok.e1 x h; have := ok.b0; omega
    have l1 := int_len lt
    have l2 := int_len ls
    have l3 := int_len lb
    have l4 := eS_len le
    obtain ⟨dx, hp⟩ := id hv
    obtain ⟨g1, g2, g3⟩ := big ok.sz (by decide) (by decide)
    refine ⟨_, rfl, p, dx, _, rfl, hp, p, t, s, b, e, rfl, hv, _, rfl, p, dx, _, rfl, hp, p, t, s, b, e, rfl, hv, _, rfl, p, dx, _, rfl, hp, p, t, s, b, e, rfl, hv, _, rfl, p, dx, _, rfl, hp, p, t, s, b, e, rfl, hv, (by show 4 ≤ sizeLine; decide), fun q hq => ?_⟩
    have s1 : Same H (upd H q (.lst (prt t s b e))) := Same.upd (Same.refl _) hq
    refine ⟨.ref q, dPrt t s b e, rfl, dpPrt (SqL.of upd_same), g1, g2, g3, ?_⟩
    refine ⟨_, rfl, .ref l, dPrt t s b e, rfl, dpPrt (s1.seq hS), g1, g2, g3, rfl, _, rfl, iteNS rfl ?_⟩
    have sS := s1.seq hS
    have k1 := lit_len "Visit(" (n := 6)
    have k2 := lit_len "shift=" (n := 6)
    have k3 := lit_len "begin=" (n := 6)
    have k4 := lit_len "end=" (n := 4)
    have k5 := lit_len ", " (n := 2)
    have k6 := lit_len ")" (n := 1)
    have l5 := vis_len l1 l2 l3 l4
    refine ⟨_, rfl, l, _, _, _, rfl, rfl, sS, rfl, .inl ⟨_, rfl, VR.log_small lt, ?_⟩⟩
    refine ⟨_, rfl, l, _, _, _, rfl, rfl, sS, rfl, .inl ⟨_, rfl, VR.log_small ls, _, _, rfl, rfl, (by rw [sizeLine_eq]; omega), ?_⟩⟩
    refine ⟨_, rfl, l, _, _, _, rfl, rfl, sS, rfl, .inl ⟨_, rfl, VR.log_small lb, _, _, rfl, rfl, (by rw [sizeLine_eq]; omega), ?_⟩⟩
    refine ⟨_, rfl, l, _, _, _, rfl, rfl, sS, rfl, ?_⟩
    simp only [tNil]
    refine strIN_e le ⟨_, _, rfl, rfl, (by rw [sizeLine_eq]; omega), ?_⟩
    refine ⟨(by show 4 ≤ sizeLine; decide), fun q2 hq2 => ?_⟩
    have s2 := Same.upd (o := .lst [.str (toString t : Str), .str (("shift=" : Str) ++ (toString s : Str)), .str (("begin=" : Str) ++ (toString b : Str)), .str (("end=" : Str) ++ eS e)]) s1 (s1.free hq2)
    refine ⟨_, rfl, p, dx, _, rfl, s2 _ _ hp, p, t, s, b, e, rfl, hv.same s2, ok, _, rfl, ?_⟩
    refine ⟨⟨_, rfl⟩, _, rfl, _, q2, [(toString t : Str), ("shift=" : Str) ++ (toString s : Str), ("begin=" : Str) ++ (toString b : Str), ("end=" : Str) ++ eS e], rfl, rfl, .inl (SqL.of upd_same), ?_, ?_⟩
    · simp only [List.map_cons, List.map_nil, List.sum_cons, List.sum_nil, List.length_cons, List.length_nil, Str.length_append]
      omega
    refine ⟨_, _, rfl, rfl, (by rw [sizeLine_eq]; omega), _, _, rfl, rfl, (by rw [sizeLine_eq]; simp only [Str.length_append]; omega), rfl, ?_⟩
    rw [vis_text]
    show Q (.bl (decide (V.str (visS t s b e) = V.str (visS t s b e)))) _
    rw [decide_eq_true rfl]
    exact k _ s2
end
end VK


namespace VK
open PySem PySem.Spec PyProof.Rows L2 VM
def sp_l_equal_right (K : PySem.W.Frag) (A : Ad) : Sp := fun vs H Q _ => ∃ (r p l : Addr) (t s b : Int) (e : Option Int), vs = [.ref r, .ref p, .ref l] ∧ Rng H r ∧ VisAt A H p t s b e ∧ p ≠ r ∧ l ≠ r ∧ H l = some (.lst (prt t s b e)) ∧ OkV t s b e ∧ ∀ H', Ext r H H' → Q (.bl true) H'
theorem eqv_prt (t s b t2 s2 b2 : Int) (e e2 : Option Int) : PyData.eqv (dPrt t s b e) (dPrt t2 s2 b2 e2) = (decide (t = t2) && (decide (s = s2) && (decide (b = b2) && decide (oV e = oV e2)))) := by
  have he : PyData.eqv (dE e) (dE e2) = decide (oV e = oV e2) := by
    cases e with
    | none =>
      cases e2 with
      | none => simp [dE, oV, PyData.eqv]
      | some y => simp [dE, oV, PyData.eqv]
    | some x =>
      cases e2 with
      | none => simp [dE, oV, PyData.eqv]
      | some y =>
        simp only [dE, oV, PyData.eqv]
        by_cases h : x = y
        · subst h; simp
        · simp [h]
  unfold dPrt
  simp only [PyData.eqv, PyData.eqvAll, he]
  by_cases h1 : t = t2 <;> by_cases h2 : s = s2 <;> by_cases h3 : b = b2 <;> simp [h1, h2, h3]
theorem shaped_prt (t s b : Int) (e : Option Int) : SeqAt.shaped (dPrt t s b e) = true := by
  cases e <;> rfl
theorem swap_dec (t s b t2 s2 b2 : Int) (e e2 : Option Int) : (decide (t = t2) && (decide (s = s2) && (decide (b = b2) && decide (oV e = oV e2)))) = (decide (t2 = t) && (decide (s2 = s) && (decide (b2 = b) && decide (oV e2 = oV e)))) := by
  have c : ∀ {α : Type} [DecidableEq α] (x y : α), decide (x = y) = decide (y = x) := fun x y => by
    by_cases h : x = y
    · subst h; rfl
    · rw [decide_eq_false h, decide_eq_false (fun z => h z.symm)]
  rw [c t t2, c s s2, c b b2, c (oV e) (oV e2)]
theorem iteNB {a b : Bool} {X Y : Prop} (h : a = b) (y : Y) : if (!decide (V.bl a = V.bl b)) = true then X else Y := by
  subst h
  rw [decide_eq_true rfl]
  exact iteF y
section
variable {P : Program} {w : World} {K : PySem.W.Frag} {mg : Str → Option Value} {base : Heap} {A : Ad}
theorem ok_l_equal_right (T : Txt K mg A) : FnOk P w K mg base CX0 8 A.f_l_equal_right A.d_l_equal_right ["_law_rng_here", "_law_visit", "_law_parts_here"] (sp_l_equal_right K A) := by
  have G_Visit_eq := ok_Visit_eq (P := P) (w := w) (base := base) T
  have G_Visit_repr := ok_Visit_repr (P := P) (w := w) (base := base) T
  have G_l_draw := ok_l_draw (P := P) (w := w) (base := base) T
  have G_l_made := ok_l_made (P := P) (w := w) (base := base) T
  refine T.F_l_equal_right.ok sc_l_equal_right (fun vs H Q E h => ?_) (fun cdv A0 outer s H vs Q E hr h => ?_)
  · obtain ⟨r, p, l, t, s, b, e, rfl, hr0, hv, npr, nlr, hl, ok, k⟩ := h
    rfl
  · obtain ⟨r, p, l, t, s, b, e, rfl, hr0, hv, npr, nlr, hl, ok, k⟩ := h
    refine ⟨_, (pss_cons (ps_set (i := 3) sc_l_equal_right.nd rfl (by first | exact Or.inl rfl | exact Or.inr rfl) (pe_callTy (r := VG.rListOf K) VG.call_listOf (by rfl) T.list (by decide +kernel) (pa_cons (pv 2) pa_nil)))
    (pss_cons (ps_set (i := 4) sc_l_equal_right.nd rfl (by first | exact Or.inl rfl | exact Or.inr rfl) (pe_call G_l_draw (hr.mono (by decide)) rfl T.m_l_draw T.k_l_draw T.b_l_draw .nil pass0 (pa_cons (pv 0) (pa_cons pe_int pa_nil))))
    (VG.pss_join (ps_asg (pe_ix (r := rIxL K) ix_list (pe_lst (pa_cons (pe_op op_add (pe_op op_mod (pe_callTy call_int1 (by rfl) T.int (by decide +kernel) (pa_cons (pe_ix (r := rIxL K) ix_list (pv 3) pe_int (fun _ _ => rfl)) pa_nil)) pe_int) pe_int) (pa_cons (pe_op op_sub pe_int (pe_callB (call_max2 rfl) (by rfl) T.max (by decide +kernel) (pa_cons pe_int (pa_cons (pe_ix (r := rIxL K) ix_list (pv 3) pe_int (fun _ _ => rfl)) pa_nil)))) (pa_cons (pe_callB (call_max2 rfl) (by rfl) T.max (by decide +kernel) (pa_cons pe_int (pa_cons (pe_op op_sub (pe_ix (r := rIxL K) ix_list (pv 3) pe_int (fun _ _ => rfl)) pe_int) pa_nil))) (pa_cons pe_non pa_nil))))) (pv 4) (fun _ _ => rfl)) (pg_sub (pv 3) (pv 4) set_list))
    (pss_cons (ps_par (i := 5) (j := 6) (by rfl) sc_l_equal_right.nd rfl rfl (by decide) rfl rfl (pa_cons (pe_call G_l_made (hr.mono (by decide)) rfl T.m_l_made T.k_l_made T.b_l_made .nil pass0 (pa_cons (pv 2) pa_nil)) (pa_cons (pe_call G_l_made (hr.mono (by decide)) rfl T.m_l_made T.k_l_made T.b_l_made .nil pass0 (pa_cons (pv 3) pa_nil)) pa_nil)) (by rfl))
    (pss_cons (ps_if (PW.pt (pw_or (pt_not (pt_cmpR (VN.op_eqOwn (C := A.Visit) G_Visit_eq (hr.mono (by decide)) T.me___eq__ T.ic_Visit T.b_Visit_eq pass0) (pv 1) (pv 5) (nomark _))) (pw_or (pt_cmpR (VN.op_neOwn (C := A.Visit) G_Visit_eq (hr.mono (by decide)) T.me___eq__ T.ic_Visit T.b_Visit_eq pass0) (pv 1) (pv 5) (nomark _)) (pw_or1 (pt_cmpR op_ne (pe_cmpR (VN.op_eqOwn (C := A.Visit) G_Visit_eq (hr.mono (by decide)) T.me___eq__ T.ic_Visit T.b_Visit_eq pass0) (pv 1) (pv 6) (nomark _)) (pe_cmpR (op_eqD hr.units) (pv 3) (pv 2) (nomark _)) (nomark _)))))) (pss_one (ps_ret pe_bl)) pss_nil)
    (pss_cons (ps_for PassesOwn.never rfl (pi_list (pe_lst (pa_cons pe_non (pa_cons pe_int (pa_cons pe_str (pa_cons (pv 2) (pa_cons (pe_callTy call_tuple_of (by rfl) T.tuple (by decide +kernel) (pa_cons (pv 2) pa_nil)) (pa_cons (pe_callB (VN.call_reprOwn (C := A.Visit) G_Visit_repr (hr.mono (by decide)) T.me___repr__ T.b_Visit_repr pass0) (by rfl) T.repr (by decide +kernel) (pa_cons (pv 1) pa_nil)) (pa_cons pe_dnewK pa_nil))))))))) (pg_name (i := 7) sc_l_equal_right.nd rfl (by first | exact Or.inl rfl | exact Or.inr rfl))
      (pss_one (ps_if (PW.pt (pw_or (pt_cmpR (VN.op_eqOwn (C := A.Visit) G_Visit_eq (hr.mono (by decide)) T.me___eq__ T.ic_Visit T.b_Visit_eq pass0) (pv 1) (pv 7) (nomark _)) (pw_or1 (pt_not (pt_cmpR (VN.op_neOwn (C := A.Visit) G_Visit_eq (hr.mono (by decide)) T.me___eq__ T.ic_Visit T.b_Visit_eq pass0) (pv 1) (pv 7) (nomark _)))))) (pss_one (ps_ret pe_bl)) pss_nil)))
    (pss_one (ps_ret pe_bl)))))))), ?_⟩
    obtain ⟨t0, t1, s0, s1, b0, b1, eb, e1⟩ := id ok
    refine ⟨_, rfl, l, _, rfl, .inl (SqL.of hl), fun q hq => ?_⟩
    have sq : Same H (upd H q (.lst (prt t s b e))) := Same.upd (Same.refl _) hq
    refine ⟨_, rfl, r, _, rfl, hr0.same sq, by decide, by decide, fun H1 d x1 d0 d1 => ?_⟩
    have x01 : Ext r H H1 := (Ext.of hr0 sq).trans x1
    have nqr := hr0.ne hq
    have hq1 : H1 q = some (.lst (prt t s b e)) := x1.keep _ _ nqr upd_same
    refine ⟨fun σ' H' => ∃ (t2 s2 b2 : Int) (e2 : Option Int), σ' = [some (.ref r), some (.ref p), some (.ref l), some (.ref q), some (.int d), none, none, none] ∧ Ext r H H' ∧ H' q = some (.lst (prt t2 s2 b2 e2)) ∧ OkV t2 s2 b2 e2, ?_, ?_⟩
    · refine ⟨_, rfl, q, _, _, _, rfl, rfl, SqL.of hq1, rfl, .inl ⟨_, rfl, _, _, rfl, rfl, (by show (0 : Int) < 12; decide), _, _, rfl, rfl, ?_⟩⟩
      refine ⟨_, rfl, q, _, _, _, rfl, rfl, SqL.of hq1, rfl, _, _, rfl, _, _, rfl, rfl, ?_⟩
      refine ⟨_, rfl, q, _, _, _, rfl, rfl, SqL.of hq1, rfl, _, _, rfl, rfl, _, _, rfl, ?_⟩
      refine ⟨(by show 4 ≤ sizeLine; decide), fun q2 hq2 => ?_⟩
      have nq2 : q ≠ q2 := ne_of_none hq1 hq2
      have hq3 : ∀ o, upd H1 q2 o q = some (.lst (prt t s b e)) := fun o => by rw [upd_ne nq2]; exact hq1
      have x3 : ∀ o u, Ext r H (upd (upd H1 q2 o) q u) := fun o u => (x01.same (Same.upd (Same.refl _) hq2)).put hq nqr
      rcases (show d = 0 ∨ d = 1 ∨ d = 2 ∨ d = 3 by omega) with rfl | rfl | rfl | rfl
      · refine ⟨_, rfl, q2, _, _, _, rfl, rfl, SqL.of upd_same, rfl, _, rfl, _, rfl, q, _, _, 0, rfl, rfl, hq3 _, rfl, t % 12 + 1, s, b, e, rfl, x3 _ _, upd_same, ?_⟩
        have z1 := Int.emod_nonneg t (show (12 : Int) ≠ 0 by decide)
        have z2 := Int.emod_lt_of_pos t (show (0 : Int) < 12 by decide)
        exact ⟨by omega, by omega, s0, s1, b0, b1, eb, e1⟩
      · refine ⟨_, rfl, q2, _, _, _, rfl, rfl, SqL.of upd_same, rfl, _, rfl, _, rfl, q, _, _, 1, rfl, rfl, hq3 _, rfl, t, 1001 - (if s > 1 then s else 1), b, e, rfl, x3 _ _, upd_same, ?_⟩
        exact ⟨t0, t1, by split <;> omega, by split <;> omega, b0, b1, eb, e1⟩
      · refine ⟨_, rfl, q2, _, _, _, rfl, rfl, SqL.of upd_same, rfl, _, rfl, _, rfl, q, _, _, 2, rfl, rfl, hq3 _, rfl, t, s, (if b - 1 > 0 then b - 1 else 0), e, rfl, x3 _ _, upd_same, ?_⟩
        exact ⟨t0, t1, s0, s1, by split <;> omega, by split <;> omega, fun x hx => by have := eb x hx; split <;> omega, e1⟩
      · refine ⟨_, rfl, q2, _, _, _, rfl, rfl, SqL.of upd_same, rfl, _, rfl, _, rfl, q, _, _, 3, rfl, rfl, hq3 _, rfl, t, s, b, none, rfl, x3 _ _, upd_same, ?_⟩
        exact ⟨t0, t1, s0, s1, b0, b1, (fun x hx => by cases hx), (fun x hx => by cases hx)⟩
    · rintro σ' H' ⟨t2, s2, b2, e2, rfl, x2, hq2, ok2⟩
      have hl2 := x2.keep _ _ nlr hl
      obtain ⟨dx, hp⟩ := id hv
      refine ⟨_, rfl, l, t, s, b, e, rfl, SqL.of hl2, ok, fun H3 p3 s3 hp3 v3 => ?_⟩
      refine ⟨_, rfl, q, t2, s2, b2, e2, rfl, SqL.of (s3 _ _ hq2), ok2, fun H4 p4 s4 hp4 v4 => ⟨_, _, rfl, ?_⟩⟩
      have x4 : Ext r H H4 := (x2.same s3).same s4
      have hp4' := x4.keep _ _ npr hp
      have v3' := v3.same s4
      obtain ⟨dx3, hd3⟩ := id v3'
      obtain ⟨dx4, hd4⟩ := id v4
      have es : (decide (t = t) && (decide (s = s) && (decide (b = b) && decide (oV e = oV e)))) = true := by simp
      refine ⟨_, rfl, _, rfl, p, dx, _, _, rfl, hp4', T.ic_Visit.typ T.clVisit hd3, VN.notFirst_own, p, t, s, b, e, _, rfl, ⟨dx, hp4'⟩, .inl ⟨p3, t, s, b, e, rfl, v3', _, rfl, _, rfl, ?_⟩⟩
      rw [es]
      refine iteF ⟨_, rfl, _, rfl, p, dx, _, _, rfl, hp4', T.ic_Visit.typ T.clVisit hd3, VN.notFirst_own, p, t, s, b, e, _, rfl, ⟨dx, hp4'⟩, .inl ⟨p3, t, s, b, e, rfl, v3', _, rfl, _, rfl, ?_⟩⟩
      rw [es]
      refine iteF ⟨_, rfl, _, rfl, p, dx, _, _, rfl, hp4', T.ic_Visit.typ T.clVisit hd4, VN.notFirst_own, p, t, s, b, e, _, rfl, ⟨dx, hp4'⟩, .inl ⟨p4, t2, s2, b2, e2, rfl, v4, _, rfl, ?_⟩⟩
      refine ⟨_, rfl, _, rfl, _, _, dpPrt (SqL.of (s4 _ _ (s3 _ _ hq2))), dpPrt (SqL.of (x4.keep _ _ nlr hl)), shaped_prt _ _ _ _, shaped_prt _ _ _ _, rfl, _, rfl, ?_⟩
      refine iteNB ((swap_dec t s b t2 s2 b2 e e2).trans (eqv_prt t2 s2 b2 t s b e2 e).symm) ?_
      have hl4 := x4.keep _ _ nlr hl
      refine ⟨_, rfl, _, rfl, l, _, rfl, .inl ⟨SqL.of hl4, fun q5 hq5 => ?_⟩⟩
      have s5 : Same H4 (upd H4 q5 (.tup (prt t s b e))) := Same.upd (Same.refl _) hq5
      refine ⟨_, rfl, p, dx, _, rfl, s5 _ _ hp4', p, t, s, b, e, rfl, ⟨dx, s5 _ _ hp4'⟩, ok, _, rfl, fun q6 hq6 => ?_⟩
      have s6 : Same H4 (upd (upd H4 q5 (.tup (prt t s b e))) q6 (.dK [])) := Same.upd s5 (s5.free hq6)
      refine ⟨(by show 7 ≤ sizeLine; decide), fun q7 hq7 => ?_⟩
      have h75 : upd (upd H4 q5 (.tup (prt t s b e))) q6 (.dK []) q5 = some (.tup (prt t s b e)) := by
        rw [upd_ne (ne_of_none (upd_same : upd H4 q5 (.tup (prt t s b e)) q5 = some _) hq6)]; exact upd_same
      have h76 : upd (upd H4 q5 (.tup (prt t s b e))) q6 (.dK []) q6 = some (.dK []) := upd_same
      generalize upd (upd H4 q5 (.tup (prt t s b e))) q6 (.dK []) = H6 at *
      have s7 : Same H6 (upd H6 q7 (.lst [.non, .int 0, .str "", .ref l, .ref q5, .str (visS t s b e), .ref q6])) := Same.upd (Same.refl _) hq7
      have h77 : upd H6 q7 (.lst [.non, .int 0, .str "", .ref l, .ref q5, .str (visS t s b e), .ref q6]) q7 = some (.lst [.non, .int 0, .str "", .ref l, .ref q5, .str (visS t s b e), .ref q6]) := upd_same
      generalize upd H6 q7 (.lst [.non, .int 0, .str "", .ref l, .ref q5, .str (visS t s b e), .ref q6]) = H7 at *
      have s47 : Same H4 H7 := s6.trans s7
      refine ⟨q7, rfl, ⟨_, SqL.of h77⟩, for_list (K := K) (a := q7) (xs := [.non, .int 0, .str "", .ref l, .ref q5, .str (visS t s b e), .ref q6])
        (fun i σ H' => ∃ v7, σ = [some (.ref r), some (.ref p), some (.ref l), some (.ref q), some (.int d), some (.ref p3), some (.ref p4), v7] ∧ H' = H7)
        ⟨_, rfl, rfl⟩ (fun i σ H' _ ⟨_, _, z⟩ => by rw [z]; exact SqL.of h77) ?_ ?_⟩
      · rintro i x σ H' hx ⟨v7, rfl, rfl⟩
        have hp7 := s47 _ _ hp4'
        have ty : ∃ n, TyX K H' x (.type n) ∧ n ∈ VN.kinds := by
          have hx' := List.mem_of_getElem? hx
          simp only [List.mem_cons, List.not_mem_nil, or_false] at hx'
          rcases hx' with rfl | rfl | rfl | rfl | rfl | rfl | rfl
          · exact ⟨_, .base .non, by decide⟩
          · exact ⟨_, .base (.int _), by decide⟩
          · exact ⟨_, .base (.str _), by decide⟩
          · exact ⟨_, .base (.lst (s47 _ _ hl4)), by decide⟩
          · exact ⟨_, .base (.tup (s7 _ _ h75)), by decide⟩
          · exact ⟨_, .base (.str _), by decide⟩
          · exact ⟨_, .base (.dK (s7 _ _ h76)), by decide⟩
        obtain ⟨n, ty, hn⟩ := ty
        refine ⟨_, rfl, _, rfl, p, dx, _, _, rfl, hp7, ty, VN.notFirst_ty hn, p, t, s, b, e, _, rfl, ⟨dx, hp7⟩, .inr ⟨n, ty, hn, _, rfl, _, rfl, ?_⟩⟩
        refine iteF ⟨_, rfl, _, rfl, p, dx, _, _, rfl, hp7, ty, VN.notFirst_ty hn, p, t, s, b, e, _, rfl, ⟨dx, hp7⟩, .inr ⟨n, ty, hn, _, rfl, _, rfl, iteF ?_⟩⟩
        exact ⟨_, rfl, rfl⟩
      · rintro σ H' ⟨v7, rfl, rfl⟩
        exact k _ (x4.same s47)
end
end VK


namespace VK
open PySem PySem.Spec PyProof.Rows L2 VM
theorem kb_vis1 {K : PySem.W.Frag} {mg : Str → Option Value} {A : Ad} (T : Txt K mg A) : ∃ mv : List Value, KBn K A.d_Visit_init ["self", "time", "shift", "begin", "end"] 1 ["time"] (fun us ws => us ++ (ws ++ mv)) (fun vs zs => vs ++ (zs ++ [V.int 0, V.int 0, V.non])) := by
  obtain ⟨mv, h⟩ := T.F_Visit_init.kbinds0 (ps := ["self", "time", "shift", "begin", "end"]) 1 ["time"] [("shift", .int 0), ("begin", .int 0), ("end", .non)] (fun us mv ws => us ++ (ws ++ mv)) (by simp) (by simp) (fun a b c => a.append (c.append b))
    (fun D doc pm an cdv ct us mv ws h1 h2 h3 => match us, mv, ws, h1, h2, h3 with | [_], [_, _, _], [_], _, _, _ => ⟨_, _, _, _, _, _, rfl, rfl, ⟨_, _, _, _, _, _, rfl, rfl, ⟨_, _, _, _, _, _, rfl, rfl, rfl⟩⟩⟩)
  exact ⟨mv, h⟩
theorem kb_str {x qual : Str} {st : Stmt} {f : Addr} {fd : FuncData} {K : PySem.W.Frag} {a b c : Str} (F : Fun K x qual st f fd)
    (h : ∀ (kV doc pm : Value) (an : Option Addr) (cdv ct : Value) (u v z : Value), bindArgs (PySem.W.fnOf x qual (defArgs st) (defBody st) (defScope st) .none kV doc pm an cdv ct) ⟨[u], [(c, v), (b, z)]⟩ = pure [(a, u), (b, z), (c, v)]) :
    KBn K fd [a, b, c] 1 [c, b] (fun us ws => us ++ (ws.drop 1 ++ ws.take 1)) (fun vs zs => vs ++ (zs.drop 1 ++ zs.take 1)) :=
  VG.kb_of F (fun us ws => us ++ (ws.drop 1 ++ ws.take 1)) (fun a c => a.append ((c.drop 1).append (c.take 1)))
    (fun kV doc pm an cdv ct us ws h1 h2 => match us, ws, h1, h2 with | [u], [v, z], _, _ => h kV doc pm an cdv ct u v z)
def sp_l_right (_ : PySem.W.Frag) (_ : Ad) : Sp := fun vs H Q _ => ∃ (r : Addr), vs = [.ref r] ∧ Rng H r ∧ ∀ H', Ext r H H' → Q (.bl true) H'
def spL (K : PySem.W.Frag) : Sp := fun vs H Q _ => ∃ (a : Addr) (ns : List Int), vs = [.ref a] ∧ SqL K H a (ns.map V.int) ∧ ns.length ≤ 63 ∧ ∀ H', Q (.bl true) H'
def sp_law (K : PySem.W.Frag) (_ : Ad) : Sp := spL K
theorem duo_szB {o : Option (Int × Int)} (h : ∀ a b, o = some (a, b) → a.natAbs < 10 ^ 100 ∧ b.natAbs < 10 ^ 100) : VR.Sz 1 400 (dDuo o) := by
  cases o with
  | none => exact VR.Sz.none.mono (by decide) (by decide)
  | some z =>
    obtain ⟨a, b⟩ := z
    obtain ⟨h1, h2⟩ := h a b rfl
    refine (VR.Sz.tuple (k := 0) (L := 101) (n := 2) (fun d hd => ?_) (Nat.le_refl _)).mono (by decide) (by decide)
    simp only [List.mem_cons, List.not_mem_nil, or_false] at hd
    rcases hd with rfl | rfl
    · exact .int h1
    · exact .int h2
theorem two_sz {d : PyData} (h : VR.Sz 1 400 d) : VR.Sz 2 2000 (.list [d, d]) := by
  refine (VR.Sz.list (k := 1) (L := 400) (n := 2) (fun e he => ?_) (Nat.le_refl _)).mono (by decide) (by decide)
  simp only [List.mem_cons, List.not_mem_nil, or_false] at he
  rcases he with rfl | rfl <;> exact h
theorem stM_bd {b f h a c : Int} {e : Option Int} (hb : 0 ≤ b) (hh : h ≤ 100000) (z : stM b e f h = some (a, c)) : a.natAbs < 10 ^ 100 ∧ c.natAbs < 10 ^ 100 := by
  have p1 : (100000 : Nat) < 10 ^ 100 := by decide +kernel
  have le : eB e h ≤ h := by
    cases e with
    | none => exact Int.le_refl _
    | some x => show (if h < x then h else x) ≤ h; split <;> omega
  have hF : b ≤ (if b < f then f else b) := by split <;> omega
  unfold stM at z
  by_cases w : eB e h ≤ (if b < f then f else b)
  · rw [if_pos w] at z; cases z
  · rw [if_neg w] at z
    cases z
    constructor <;> omega
section
variable {P : Program} {w : World} {K : PySem.W.Frag} {mg : Str → Option Value} {base : Heap} {A : Ad}
theorem ok_l_right (T : Txt K mg A) : VG.FnG P w K mg base CX0 9 A.f_l_right A.d_l_right ["_law_rng_here"] (sp_l_right K A) := by
  have G_Visit_begin := ok_Visit_begin (P := P) (w := w) (base := base) T
  have G_Visit_end := ok_Visit_end (P := P) (w := w) (base := base) T
  have G_Visit_init := ok_Visit_init (P := P) (w := w) (base := base) T
  have G_Visit_repr := ok_Visit_repr (P := P) (w := w) (base := base) T
  have G_l_draw := ok_l_draw (P := P) (w := w) (base := base) T
  have G_l_due := ok_l_due (P := P) (w := w) (base := base) T
  have G_l_equal_right := ok_l_equal_right (P := P) (w := w) (base := base) T
  have G_l_made := ok_l_made (P := P) (w := w) (base := base) T
  have G_l_parts := ok_l_parts (P := P) (w := w) (base := base) T
  have G_l_told_right := ok_l_told_right (P := P) (w := w) (base := base) T
  have G_stretch := ok_stretch (P := P) (w := w) (base := base) T
  obtain ⟨mv1, kb_Visit_shift_begin_end⟩ := kb_vis3 T
  obtain ⟨mv2, kb_Visit_time⟩ := kb_vis1 T
  have kb_stretch_end_start := kb_str (a := "visit") (b := "start") (c := "end") T.F_stretch (fun _ _ _ _ _ _ _ _ _ => rfl)
  refine VG.okG0 T.F_l_right sc_l_right (fun vs H Q E h => ?_) (fun cdv A0 outer s H vs Q E hA hr h => ?_)
  · obtain ⟨r, rfl, hr0, k⟩ := h
    rfl
  · obtain ⟨r, rfl, hr0, k⟩ := h
    refine ⟨_, (pss_cons (ps_set (i := 1) sc_l_right.nd rfl (by first | exact Or.inl rfl | exact Or.inr rfl) (pe_call G_l_parts (hr.mono (by decide)) rfl T.m_l_parts T.k_l_parts T.b_l_parts .nil pass0 (pa_cons (pv 0) pa_nil)))
    (pss_cons (ps_set (i := 2) sc_l_right.nd rfl (by first | exact Or.inl rfl | exact Or.inr rfl) (pe_call G_l_made (hr.mono (by decide)) rfl T.m_l_made T.k_l_made T.b_l_made .nil pass0 (pa_cons (pv 1) pa_nil)))
    (pss_cons (ps_for PassesOwn.never rfl (pi_range1 rfl T.range (pa_cons pe_int pa_nil)) (pg_name (i := 3) sc_l_right.nd rfl (by first | exact Or.inl rfl | exact Or.inr rfl))
      (pss_cons (ps_set (i := 4) sc_l_right.nd rfl (by first | exact Or.inl rfl | exact Or.inr rfl) (pe_callB (call_max2 rfl) (by rfl) T.max (by decide +kernel) (pa_cons pe_int (pa_cons (pe_op op_add (pe_op op_sub (pe_op op_add (pe_ix (r := rIxL K) ix_list (pv 1) pe_int (fun _ _ => rfl)) (pe_ix (r := rIxL K) ix_list (pv 1) pe_int (fun _ _ => rfl))) pe_int) (pe_call G_l_draw (hr.mono (by decide)) rfl T.m_l_draw T.k_l_draw T.b_l_draw .nil pass0 (pa_cons (pv 0) (pa_cons pe_int pa_nil)))) pa_nil))))
    (pss_cons (ps_set (i := 5) sc_l_right.nd rfl (by first | exact Or.inl rfl | exact Or.inr rfl) (pe_op op_add (pe_op op_add (pv 4) pe_int) (pe_call G_l_draw (hr.mono (by decide)) rfl T.m_l_draw T.k_l_draw T.b_l_draw .nil pass0 (pa_cons (pv 0) (pa_cons pe_int pa_nil)))))
    (pss_cons (ps_set (i := 6) sc_l_right.nd rfl (by first | exact Or.inl rfl | exact Or.inr rfl) (pe_call G_l_due (hr.mono (by decide)) rfl T.m_l_due T.k_l_due T.b_l_due .nil pass0 (pa_cons (pv 1) (pa_cons (pv 4) (pa_cons (pv 5) pa_nil)))))
    (pss_one (ps_if (pt_cmpR op_ne (pe_callB (r := VG.rRepr K) (VG.call_repr hA hr.units) (by rfl) T.repr (by decide +kernel) (pa_cons (pe_lst (pa_cons (pe_call G_stretch (hr.mono (by decide)) rfl T.m_stretch T.k_stretch T.b_stretch .nil pass0 (pa_cons (pv 2) (pa_cons (pv 4) (pa_cons (pv 5) pa_nil)))) (pa_cons (pe_callN (n := 1) G_stretch (hr.mono (by decide)) rfl T.m_stretch T.k_stretch kb_stretch_end_start pass0 (pa_cons (pv 2) pa_nil) (pk_cons (pv 5) (pk_cons (pv 4) pk_nil))) pa_nil))) pa_nil)) (pe_callB (r := VG.rRepr K) (VG.call_repr hA hr.units) (by rfl) T.repr (by decide +kernel) (pa_cons (pe_lst (pa_cons (pv 6) (pa_cons (pv 6) pa_nil))) pa_nil)) (nomark _)) (pss_one (ps_ret pe_bl)) pss_nil))))))
    (pss_cons (ps_set (i := 7) sc_l_right.nd rfl (by first | exact Or.inl rfl | exact Or.inr rfl) (pe_makeK0 T.M_Visit G_Visit_init (hr.mono (by decide)) rfl T.m_Visit kb_Visit_time pass0 (pk_cons (pe_ix (r := rIxL K) ix_list (pv 1) pe_int (fun _ _ => rfl)) pk_nil)))
    (pss_cons (ps_if (PW.pt (pw_or (pt_cmpR op_ne (pe_callB (VN.call_reprOwn (C := A.Visit) G_Visit_repr (hr.mono (by decide)) T.me___repr__ T.b_Visit_repr pass0) (by rfl) T.repr (by decide +kernel) (pa_cons (pv 7) pa_nil)) (pe_callB (VN.call_reprOwn (C := A.Visit) G_Visit_repr (hr.mono (by decide)) T.me___repr__ T.b_Visit_repr pass0) (by rfl) T.repr (by decide +kernel) (pa_cons (pe_makeK (n := 1) T.M_Visit G_Visit_init (hr.mono (by decide)) rfl T.m_Visit kb_Visit_shift_begin_end pass0 (pa_cons (pe_ix (r := rIxL K) ix_list (pv 1) pe_int (fun _ _ => rfl)) pa_nil) (pk_cons pe_int (pk_cons pe_int (pk_cons pe_non pk_nil)))) pa_nil)) (nomark _)) (pw_or1 (pt_cmpR (op_neD hr.units) (pe_lst (pa_cons (pe_prop (pv 7) T.clVisit T.pr_Visit_begin G_Visit_begin (hr.mono (by decide)) T.b_Visit_begin .nil pass0 rfl) (pa_cons (pe_prop (pv 7) T.clVisit T.pr_Visit_end G_Visit_end (hr.mono (by decide)) T.b_Visit_end .nil pass0 rfl) pa_nil))) (pe_lst (pa_cons pe_int (pa_cons pe_non pa_nil))) (nomark _))))) (pss_one (ps_ret pe_bl)) pss_nil)
    (pss_one (ps_ret (pe_and (VG.pe_callG G_l_told_right hA (hr.mono (by decide)) rfl T.m_l_told_right T.k_l_told_right T.b_l_told_right pass0 (pa_cons (pv 2) (pa_cons (pv 1) pa_nil))) (pe_one (pe_call G_l_equal_right (hr.mono (by decide)) rfl T.m_l_equal_right T.k_l_equal_right T.b_l_equal_right .nil pass0 (pa_cons (pv 0) (pa_cons (pv 2) (pa_cons (pv 1) pa_nil))))))))))))), ?_⟩
    refine ⟨_, rfl, r, rfl, hr0, fun H1 l t s b e x1 hl0 nlr hl ok => ?_⟩
    have hr1 := x1.rng
    refine ⟨_, rfl, l, t, s, b, e, rfl, SqL.of hl, ok, fun H2 p s2 hp2 v2 => ?_⟩
    have hl2 := s2 _ _ hl
    have npr : p ≠ r := hr1.ne hp2
    obtain ⟨dx, hpo⟩ := id v2
    have X02 : Ext r H H2 := x1.same s2
    have hp0 : H p = none := x1.free hp2
    obtain ⟨t0, t1, s0, s1, b0, b1, eb, e1⟩ := id ok
    refine ⟨_, rfl, by decide, by decide, for_range (lo := 0) (n := 4) (fun i σ H' => ∃ v3 v4 v5 v6, σ = [some (.ref r), some (.ref l), some (.ref p), v3, v4, v5, v6, none] ∧ Ext r H2 H')
      ⟨_, _, _, _, rfl, Ext.refl X02.rng⟩ ?_ ?_⟩
    · rintro i σ H' hi ⟨v3, v4, v5, v6, rfl, x3⟩
      have S3 := SqL.of (K := K) (x3.keep _ _ nlr hl2)
      refine ⟨_, rfl, l, _, _, _, rfl, rfl, S3, rfl, _, rfl, l, _, _, _, rfl, rfl, S3, rfl, _, _, rfl, rfl, _, _, rfl, rfl, ?_⟩
      refine ⟨_, rfl, r, _, rfl, x3.rng, by decide, by decide, fun H3 d x4 d0 d1 => ⟨_, _, rfl, rfl, _, _, rfl, ?_⟩⟩
      have hx : 0 ≤ (if s + b - 4 + d > 0 then s + b - 4 + d else 0) ∧ (if s + b - 4 + d > 0 then s + b - 4 + d else 0) ≤ 3000 := by split <;> omega
      generalize (if s + b - 4 + d > 0 then s + b - 4 + d else 0) = x at *
      obtain ⟨hx0, hx1⟩ := hx
      refine ⟨_, rfl, _, _, rfl, rfl, _, rfl, r, _, rfl, x4.rng, by decide, by decide, fun H4 d2 x5 d20 d21 => ⟨_, _, rfl, rfl, ?_⟩⟩
      have x25 := (x3.trans x4).trans x5
      have S5 := SqL.of (K := K) (x25.keep _ _ nlr hl2)
      refine ⟨_, rfl, _, rfl, _, rfl, l, t, s, b, e, x, x + 1 + d2, rfl, S5, ok, hx0, by omega, fun H5 v s5 dv => ?_⟩
      have V5 : VisAt A H5 p t s b e := ⟨dx, s5 _ _ (x25.keep _ _ npr hpo)⟩
      refine ⟨_, rfl, _, rfl, _, rfl, p, t, s, b, e, x, x + 1 + d2, rfl, V5, hx0, by omega, fun H6 w1 s6 dw1 => ?_⟩
      refine ⟨_, rfl, _, rfl, _, rfl, rfl, rfl, p, t, s, b, e, x, x + 1 + d2, rfl, V5.same s6, hx0, by omega, fun H7 w2 s7 dw2 => ?_⟩
      refine ⟨(by show 2 ≤ sizeLine; decide), fun q hq => ?_⟩
      have so : VR.Sz 1 400 (dDuo (stM b e (x - s) (x + 1 + d2 - t - s + 1))) := duo_szB fun a c z => stM_bd b0 (by omega) z
      obtain ⟨g1, g2, g3⟩ := big (two_sz so) (by decide) (by decide)
      generalize stM b e (x - s) (x + 1 + d2 - t - s + 1) = o at *
      have s8 : Same H7 (upd H7 q (.lst [w1, w2])) := Same.upd (Same.refl _) hq
      refine ⟨.ref q, .list [dDuo o, dDuo o], rfl, .lst (SqL.of upd_same) (.cons (dw1.dp (s7.trans s8)) (.cons (dw2.dp s8) .nil)), g1, g2, g3, ?_⟩
      have s58 := s6.trans (s7.trans s8)
      refine ⟨_, rfl, _, rfl, (by show 2 ≤ sizeLine; decide), fun q2 hq2 => ?_⟩
      have s9 : Same H5 (upd (upd H7 q (.lst [w1, w2])) q2 (.lst [v, v])) := Same.upd s58 (s58.free hq2)
      refine ⟨.ref q2, .list [dDuo o, dDuo o], rfl, .lst (SqL.of upd_same) (.cons (dv.dp s9) (.cons (dv.dp s9) .nil)), g1, g2, g3, rfl, _, rfl, iteNS rfl ?_⟩
      exact ⟨_, _, _, _, rfl, (x25.same s5).same s9⟩
    · rintro σ H' ⟨v3, v4, v5, v6, rfl, x3⟩
      have hl3 := x3.keep _ _ nlr hl2
      have ok0 : OkV t 0 0 none := ⟨t0, t1, by decide, by decide, by decide, by decide, (fun x hx => by cases hx), (fun x hx => by cases hx)⟩
      refine ⟨_, rfl, l, _, _, _, rfl, rfl, SqL.of hl3, rfl, rfl, rfl, fun x dy hx hdx hne => ?_⟩
      refine ⟨x, dy, t, 0, 0, none, rfl, upd_same, ok0, rfl, ?_⟩
      rw [upd_upd]
      have s4 : Same H' (upd (upd H' dy (.own x)) x (.ins A.Visit dy (vfs t 0 0 (oV none)))) := Same.upd (Same.upd (Same.refl _) hdx) hx
      have vx : upd (upd H' dy (.own x)) x (.ins A.Visit dy (vfs t 0 0 (oV none))) x = some (.ins A.Visit dy (vfs t 0 0 (oV none))) := upd_same
      generalize upd (upd H' dy (.own x)) x (.ins A.Visit dy (vfs t 0 0 (oV none))) = H4 at *
      refine ⟨_, rfl, x, dy, _, rfl, vx, x, t, 0, 0, none, rfl, ⟨dy, vx⟩, ok0, _, rfl, ?_⟩
      refine ⟨_, rfl, l, _, _, _, rfl, rfl, SqL.of (s4 _ _ hl3), rfl, rfl, rfl, fun x2 dy2 hx2 hdx2 hne2 => ?_⟩
      refine ⟨x2, dy2, t, 0, 0, none, rfl, upd_same, ok0, rfl, ?_⟩
      rw [upd_upd]
      have s5 : Same H4 (upd (upd H4 dy2 (.own x2)) x2 (.ins A.Visit dy2 (vfs t 0 0 (oV none)))) := Same.upd (Same.upd (Same.refl _) hdx2) hx2
      have vx2 : upd (upd H4 dy2 (.own x2)) x2 (.ins A.Visit dy2 (vfs t 0 0 (oV none))) x2 = some (.ins A.Visit dy2 (vfs t 0 0 (oV none))) := upd_same
      generalize upd (upd H4 dy2 (.own x2)) x2 (.ins A.Visit dy2 (vfs t 0 0 (oV none))) = H5 at *
      refine ⟨x2, dy2, _, rfl, vx2, x2, t, 0, 0, none, rfl, ⟨dy2, vx2⟩, ok0, ?_⟩
      generalize visS t 0 0 none = Z
      refine ⟨_, rfl, rfl, _, rfl, iteNS rfl ?_⟩
      have vx5 := s5 _ _ vx
      refine ⟨_, rfl, x, dy, _, rfl, vx5, x, t, 0, 0, none, rfl, ⟨dy, vx5⟩, _, rfl, x, dy, _, rfl, vx5, x, t, 0, 0, none, rfl, ⟨dy, vx5⟩, (by show 2 ≤ sizeLine; decide), fun q3 hq3 => ?_⟩
      refine ⟨(by show 2 ≤ sizeLine; decide), fun q4 hq4 => ?_⟩
      have h34 : upd (upd H5 q3 (.lst [.int 0, oV none])) q4 (.lst [.int 0, .non]) q3 = some (.lst [.int 0, .non]) := by
        rw [upd_ne (ne_of_none (upd_same : upd H5 q3 (.lst [.int 0, oV none]) q3 = some _) hq4)]; exact upd_same
      refine ⟨.list [.int 0, .none], .list [.int 0, .none], .lst (SqL.of h34) (.cons (.int 0) (.cons .non .nil)), .lst (SqL.of upd_same) (.cons (.int 0) (.cons .non .nil)), rfl, rfl, _, rfl, ?_⟩
      have ee : PyData.eqv (.list [.int 0, .none]) (.list [.int 0, .none]) = true := by decide +kernel
      rw [ee]
      refine iteF ?_
      have s6 : Same H' (upd (upd H5 q3 (.lst [.int 0, oV none])) q4 (.lst [.int 0, .non])) := by
        have s35 := s4.trans s5
        have s36 := Same.upd (o := .lst [.int 0, oV none]) s35 (s35.free hq3)
        exact Same.upd s36 (s36.free hq4)
      generalize upd (upd H5 q3 (.lst [.int 0, oV none])) q4 (.lst [.int 0, .non]) = H6 at *
      have x6 := x3.same s6
      refine ⟨_, rfl, _, rfl, p, l, t, s, b, e, rfl, ⟨dx, x6.keep _ _ npr hpo⟩, SqL.of (x6.keep _ _ nlr hl2), ok, fun H7 s7 => ⟨_, rfl, iteT ?_⟩⟩
      have x7 := x6.same s7
      refine ⟨_, rfl, _, rfl, _, rfl, r, p, l, t, s, b, e, rfl, x7.rng, ⟨dx, x7.keep _ _ npr hpo⟩, npr, nlr, x7.keep _ _ nlr hl2, ok, fun H8 x8 => ?_⟩
      exact k _ ((X02.trans x7).trans x8)
theorem ok_law (T : Txt K mg A) : VG.FnG P w K mg base CX0 10 A.f_law A.d_law ["_law_script"] (sp_law K A) := by
  have G_l_right := ok_l_right (P := P) (w := w) (base := base) T
  have G_l_rng := ok_l_rng (P := P) (w := w) (base := base) T
  refine VG.okG0 T.F_law sc_law (fun vs H Q E h => ?_) (fun cdv A0 outer s H vs Q E hA hr h => ?_)
  · obtain ⟨a, ns, rfl, hS, hn, k⟩ := h
    rfl
  · obtain ⟨a, ns, rfl, hS, hn, k⟩ := h
    refine ⟨_, (pss_one (ps_ret (pe_callB (r := rAll K) (cr_all rfl) (by rfl) T.all (by decide +kernel) (pa_cons (pe_lc (own := [("_law_k", 1)]) (g := gName 1) (tt := tYes) rfl sc_law.nd (pi_range1 rfl T.range (pa_cons (pe_callB (call_max2 rfl) (by rfl) T.max (by decide +kernel) (pa_cons pe_int (pa_cons (pe_callB (call_min2 rfl) (by rfl) T.min (by decide +kernel) (pa_cons (pe_callB (r := VG.rLen K) VG.call_len (by rfl) T.len (by decide +kernel) (pa_cons (pv 0) pa_nil)) (pa_cons pe_int pa_nil))) pa_nil))) pa_nil)) (blkOk_by (own := [("_law_k", 1)]) (N := ["_law_script", "_law_k"]) (sc := defScope s_law) (by decide +kernel)) (fun _ _ _ _ _ => pg_name (i := 1) sc_law.nd rfl (Or.inl rfl)) (fun _ _ _ _ _ => pts_nil) (fun _ _ _ _ _ => (VG.pe_callG G_l_right hA (hr.mono (by decide)) rfl T.m_l_right T.k_l_right T.b_l_right pass0 (pa_cons (pe_call G_l_rng (hr.mono (by decide)) rfl T.m_l_rng T.k_l_rng T.b_l_rng .nil pass0 (pa_cons (pv 0) (pa_cons (pv 1) pa_nil))) pa_nil)))) pa_nil)))), ?_⟩
    refine ⟨_, rfl, a, _, rfl, .inl hS, _, _, rfl, _, _, rfl, _, rfl, ?_⟩
    have b6 : (if (if (4 : Int) < ((ns.map V.int).length : Int) then (4 : Int) else ((ns.map V.int).length : Int)) > 1 then (if (4 : Int) < ((ns.map V.int).length : Int) then (4 : Int) else ((ns.map V.int).length : Int)) else 1) ≤ 4 := by
      split <;> split <;> omega
    have b0 : 0 ≤ (if (if (4 : Int) < ((ns.map V.int).length : Int) then (4 : Int) else ((ns.map V.int).length : Int)) > 1 then (if (4 : Int) < ((ns.map V.int).length : Int) then (4 : Int) else ((ns.map V.int).length : Int)) else 1) := by
      split <;> split <;> omega
    generalize (if (if (4 : Int) < ((ns.map V.int).length : Int) then (4 : Int) else ((ns.map V.int).length : Int)) > 1 then (if (4 : Int) < ((ns.map V.int).length : Int) then (4 : Int) else ((ns.map V.int).length : Int)) else 1) = N at *
    refine ⟨by omega, by omega, fun D hD => lc_range (lo := 0) (n := N.toNat) (fun j H' => H' D = some (.lst ((List.replicate j true).map V.bl)) ∧ Same H H') ⟨upd_same, Same.upd (Same.refl _) hD⟩ ?_ ?_⟩
    · rintro j H' hj ⟨hD2, s2⟩
      refine ⟨rfl, _, rfl, _, rfl, a, ns, _, rfl, s2.seq hS, by omega, by omega, fun H1 p s3 hp0 hp => ⟨p, rfl, hp, fun H2 e2 => ?_⟩⟩
      have nDp : D ≠ p := ne_of_none hD2 hp0
      refine ⟨_, e2.keep _ _ nDp (s3 _ _ hD2), small (by rw [List.length_map, List.length_replicate]; omega), ?_, ?_⟩
      · rw [upd_same, List.replicate_succ', List.map_append]; rfl
      · intro b o e
        rw [upd_ne (ne_of_none e hD)]
        exact e2.keep b o (ne_of_none (s2 _ _ e) hp0) (s3 _ _ (s2 _ _ e))
    · rintro H' ⟨hD2, s2⟩
      refine ⟨D, _, rfl, SqL.of hD2, ?_⟩
      have e : (List.replicate N.toNat true).all id = true := by
        rw [List.all_eq_true]
        intro x hx
        exact (List.eq_of_mem_replicate hx)
      rw [e]
      exact k H'
end
end VK


namespace VK
open PySem PySem.Spec PyProof.Rows L2 VM
theorem all_mk {l : PySem.W.OpenLaw} {w : World} {K : PySem.W.Frag} {h : Heap} {mg : Str → Option Value} {fa : Addr} (X : K.In h) (G : h.Ns mainGlobals mg) (hfa : mg "law" = some (.ref fa))
    {C_Visit : Addr}
    {f_is_integer : Addr} {od_is_integer an_is_integer : Option Addr} {sl_is_integer : Array (Option Value)} {oc_is_integer kV_is_integer dc_is_integer pm_is_integer cd_is_integer ct_is_integer : Value}
    {f_is_count : Addr} {od_is_count an_is_count : Option Addr} {sl_is_count : Array (Option Value)} {oc_is_count kV_is_count dc_is_count pm_is_count cd_is_count ct_is_count : Value}
    {f_is_count_to : Addr} {od_is_count_to an_is_count_to : Option Addr} {sl_is_count_to : Array (Option Value)} {oc_is_count_to kV_is_count_to dc_is_count_to pm_is_count_to cd_is_count_to ct_is_count_to : Value}
    {f_is_window : Addr} {od_is_window an_is_window : Option Addr} {sl_is_window : Array (Option Value)} {oc_is_window kV_is_window dc_is_window pm_is_window cd_is_window ct_is_window : Value}
    {f_require_window : Addr} {od_require_window an_require_window : Option Addr} {sl_require_window : Array (Option Value)} {oc_require_window kV_require_window dc_require_window pm_require_window cd_require_window ct_require_window : Value}
    {f_urgent_stretch : Addr} {od_urgent_stretch an_urgent_stretch : Option Addr} {sl_urgent_stretch : Array (Option Value)} {oc_urgent_stretch kV_urgent_stretch dc_urgent_stretch pm_urgent_stretch cd_urgent_stretch ct_urgent_stretch : Value}
    {f_stretch_from : Addr} {od_stretch_from an_stretch_from : Option Addr} {sl_stretch_from : Array (Option Value)} {oc_stretch_from kV_stretch_from dc_stretch_from pm_stretch_from cd_stretch_from ct_stretch_from : Value}
    {f_Visit_init : Addr} {od_Visit_init an_Visit_init : Option Addr} {sl_Visit_init : Array (Option Value)} {oc_Visit_init dc_Visit_init pm_Visit_init cd_Visit_init ct_Visit_init : Value}
    {D_Visit_init : Addr}
    {t_Visit_init_shift : Tok}
    {t_Visit_init_begin : Tok}
    {f_Visit_eq : Addr} {od_Visit_eq an_Visit_eq : Option Addr} {sl_Visit_eq : Array (Option Value)} {oc_Visit_eq kV_Visit_eq dc_Visit_eq pm_Visit_eq cd_Visit_eq ct_Visit_eq : Value}
    {f_Visit_repr : Addr} {od_Visit_repr an_Visit_repr : Option Addr} {sl_Visit_repr : Array (Option Value)} {oc_Visit_repr kV_Visit_repr dc_Visit_repr pm_Visit_repr cd_Visit_repr ct_Visit_repr : Value}
    {f_Visit_time : Addr} {od_Visit_time an_Visit_time : Option Addr} {sl_Visit_time : Array (Option Value)} {oc_Visit_time kV_Visit_time dc_Visit_time pm_Visit_time cd_Visit_time ct_Visit_time : Value}
    {p_Visit_time : Addr} {r_Visit_time : List Value}
    {f_Visit_shift : Addr} {od_Visit_shift an_Visit_shift : Option Addr} {sl_Visit_shift : Array (Option Value)} {oc_Visit_shift kV_Visit_shift dc_Visit_shift pm_Visit_shift cd_Visit_shift ct_Visit_shift : Value}
    {p_Visit_shift : Addr} {r_Visit_shift : List Value}
    {f_Visit_begin : Addr} {od_Visit_begin an_Visit_begin : Option Addr} {sl_Visit_begin : Array (Option Value)} {oc_Visit_begin kV_Visit_begin dc_Visit_begin pm_Visit_begin cd_Visit_begin ct_Visit_begin : Value}
    {p_Visit_begin : Addr} {r_Visit_begin : List Value}
    {f_Visit_end : Addr} {od_Visit_end an_Visit_end : Option Addr} {sl_Visit_end : Array (Option Value)} {oc_Visit_end kV_Visit_end dc_Visit_end pm_Visit_end cd_Visit_end ct_Visit_end : Value}
    {p_Visit_end : Addr} {r_Visit_end : List Value}
    {f_stretch : Addr} {od_stretch an_stretch : Option Addr} {sl_stretch : Array (Option Value)} {oc_stretch kV_stretch dc_stretch pm_stretch cd_stretch ct_stretch : Value}
    {f_find_visit_problem : Addr} {od_find_visit_problem an_find_visit_problem : Option Addr} {sl_find_visit_problem : Array (Option Value)} {oc_find_visit_problem kV_find_visit_problem dc_find_visit_problem pm_find_visit_problem cd_find_visit_problem ct_find_visit_problem : Value}
    {f_l_rng : Addr} {od_l_rng an_l_rng : Option Addr} {sl_l_rng : Array (Option Value)} {oc_l_rng kV_l_rng dc_l_rng pm_l_rng cd_l_rng ct_l_rng : Value}
    {f_l_draw : Addr} {od_l_draw an_l_draw : Option Addr} {sl_l_draw : Array (Option Value)} {oc_l_draw kV_l_draw dc_l_draw pm_l_draw cd_l_draw ct_l_draw : Value}
    {f_l_choice : Addr} {od_l_choice an_l_choice : Option Addr} {sl_l_choice : Array (Option Value)} {oc_l_choice kV_l_choice dc_l_choice pm_l_choice cd_l_choice ct_l_choice : Value}
    {f_l_parts : Addr} {od_l_parts an_l_parts : Option Addr} {sl_l_parts : Array (Option Value)} {oc_l_parts kV_l_parts dc_l_parts pm_l_parts cd_l_parts ct_l_parts : Value}
    {f_l_made : Addr} {od_l_made an_l_made : Option Addr} {sl_l_made : Array (Option Value)} {oc_l_made kV_l_made dc_l_made pm_l_made cd_l_made ct_l_made : Value}
    {f_l_due : Addr} {od_l_due an_l_due : Option Addr} {sl_l_due : Array (Option Value)} {oc_l_due kV_l_due dc_l_due pm_l_due cd_l_due ct_l_due : Value}
    {f_l_told_right : Addr} {od_l_told_right an_l_told_right : Option Addr} {sl_l_told_right : Array (Option Value)} {oc_l_told_right kV_l_told_right dc_l_told_right pm_l_told_right cd_l_told_right ct_l_told_right : Value}
    {f_l_equal_right : Addr} {od_l_equal_right an_l_equal_right : Option Addr} {sl_l_equal_right : Array (Option Value)} {oc_l_equal_right kV_l_equal_right dc_l_equal_right pm_l_equal_right cd_l_equal_right ct_l_equal_right : Value}
    {f_l_right : Addr} {od_l_right an_l_right : Option Addr} {sl_l_right : Array (Option Value)} {oc_l_right kV_l_right dc_l_right pm_l_right cd_l_right ct_l_right : Value}
    {f_law : Addr} {od_law an_law : Option Addr} {sl_law : Array (Option Value)} {oc_law kV_law dc_law pm_law cd_law ct_law : Value}
    {t_MAX_TICK : Tok}
    {t_MAX_TIME : Tok}
    (g_Visit : PySem.W.nsIn K mainGlobals "Visit" = some (some (.ref C_Visit)))
    (pg_Visit : PySem.W.plainGet K C_Visit Str.empty = true)
    (hd_Visit : PySem.W.hasDictIn K C_Visit = true)
    (po_Visit : PySem.W.plainOver K C_Visit = true)
    (sa_Visit : PySem.W.findIn K (.ref C_Visit) "__setattr__" = some (some (.builtin "object.__setattr__")))
    (mk_Visit : PySem.W.makesIn K C_Visit = true)
    (kc_Visit : PySem.W.keepIn K (.ref C_Visit) = true)
    (ic_Visit : PySem.W.isClsIn K C_Visit = true)
    (it_Visit : PySem.W.typeIn K (.ref C_Visit) = some (.type "type"))
    (ig_Visit : PySem.W.findIn K (.ref C_Visit) "__class__" = some (some (.builtin "object.__class__")))
    (io_Visit : PySem.W.mroIn K C_Visit (.type "object") = some true)
    (ie_Visit : PySem.W.findIn K (.ref C_Visit) "__ne__" = some (some (.builtin "object.__ne__")))
    (i_gn : PySem.W.specialIn K (.builtin "object.__class__") "__get__" = some (some (.builtin "getset_descriptor.__get__")))
    (i_tk : PySem.W.takesIn K (.builtin "object.__class__") = some true)
    (n_Visit_time : PySem.W.findIn K (.ref C_Visit) "_time" = some none)
    (n_Visit_shift : PySem.W.findIn K (.ref C_Visit) "_shift" = some none)
    (n_Visit_begin : PySem.W.findIn K (.ref C_Visit) "_begin" = some none)
    (n_Visit_end : PySem.W.findIn K (.ref C_Visit) "_end" = some none)
    (a_is_integer : PySem.W.nsIn K mainGlobals "is_integer" = some (some (.ref f_is_integer)))
    (l_is_integer : K.lookup f_is_integer = some ⟨oc_is_integer, od_is_integer, .func (PySem.W.fnOf "is_integer" "is_integer" (defArgs s_is_integer) (defBody s_is_integer) (defScope s_is_integer) .none kV_is_integer dc_is_integer pm_is_integer an_is_integer cd_is_integer ct_is_integer), sl_is_integer⟩)
    (c_is_integer : PySem.W.codeIn K cd_is_integer "is_integer" = true)
    (k_is_integer : PySem.W.keepIn K (.ref f_is_integer) = true)
    (a_is_count : PySem.W.nsIn K mainGlobals "is_count" = some (some (.ref f_is_count)))
    (l_is_count : K.lookup f_is_count = some ⟨oc_is_count, od_is_count, .func (PySem.W.fnOf "is_count" "is_count" (defArgs s_is_count) (defBody s_is_count) (defScope s_is_count) .none kV_is_count dc_is_count pm_is_count an_is_count cd_is_count ct_is_count), sl_is_count⟩)
    (c_is_count : PySem.W.codeIn K cd_is_count "is_count" = true)
    (k_is_count : PySem.W.keepIn K (.ref f_is_count) = true)
    (a_is_count_to : PySem.W.nsIn K mainGlobals "is_count_to" = some (some (.ref f_is_count_to)))
    (l_is_count_to : K.lookup f_is_count_to = some ⟨oc_is_count_to, od_is_count_to, .func (PySem.W.fnOf "is_count_to" "is_count_to" (defArgs s_is_count_to) (defBody s_is_count_to) (defScope s_is_count_to) .none kV_is_count_to dc_is_count_to pm_is_count_to an_is_count_to cd_is_count_to ct_is_count_to), sl_is_count_to⟩)
    (c_is_count_to : PySem.W.codeIn K cd_is_count_to "is_count_to" = true)
    (k_is_count_to : PySem.W.keepIn K (.ref f_is_count_to) = true)
    (a_is_window : PySem.W.nsIn K mainGlobals "is_window" = some (some (.ref f_is_window)))
    (l_is_window : K.lookup f_is_window = some ⟨oc_is_window, od_is_window, .func (PySem.W.fnOf "is_window" "is_window" (defArgs s_is_window) (defBody s_is_window) (defScope s_is_window) .none kV_is_window dc_is_window pm_is_window an_is_window cd_is_window ct_is_window), sl_is_window⟩)
    (c_is_window : PySem.W.codeIn K cd_is_window "is_window" = true)
    (k_is_window : PySem.W.keepIn K (.ref f_is_window) = true)
    (a_require_window : PySem.W.nsIn K mainGlobals "require_window" = some (some (.ref f_require_window)))
    (l_require_window : K.lookup f_require_window = some ⟨oc_require_window, od_require_window, .func (PySem.W.fnOf "require_window" "require_window" (defArgs s_require_window) (defBody s_require_window) (defScope s_require_window) .none kV_require_window dc_require_window pm_require_window an_require_window cd_require_window ct_require_window), sl_require_window⟩)
    (c_require_window : PySem.W.codeIn K cd_require_window "require_window" = true)
    (k_require_window : PySem.W.keepIn K (.ref f_require_window) = true)
    (a_urgent_stretch : PySem.W.nsIn K mainGlobals "urgent_stretch" = some (some (.ref f_urgent_stretch)))
    (l_urgent_stretch : K.lookup f_urgent_stretch = some ⟨oc_urgent_stretch, od_urgent_stretch, .func (PySem.W.fnOf "urgent_stretch" "urgent_stretch" (defArgs s_urgent_stretch) (defBody s_urgent_stretch) (defScope s_urgent_stretch) .none kV_urgent_stretch dc_urgent_stretch pm_urgent_stretch an_urgent_stretch cd_urgent_stretch ct_urgent_stretch), sl_urgent_stretch⟩)
    (c_urgent_stretch : PySem.W.codeIn K cd_urgent_stretch "urgent_stretch" = true)
    (k_urgent_stretch : PySem.W.keepIn K (.ref f_urgent_stretch) = true)
    (a_stretch_from : PySem.W.nsIn K mainGlobals "stretch_from" = some (some (.ref f_stretch_from)))
    (l_stretch_from : K.lookup f_stretch_from = some ⟨oc_stretch_from, od_stretch_from, .func (PySem.W.fnOf "stretch_from" "stretch_from" (defArgs s_stretch_from) (defBody s_stretch_from) (defScope s_stretch_from) .none kV_stretch_from dc_stretch_from pm_stretch_from an_stretch_from cd_stretch_from ct_stretch_from), sl_stretch_from⟩)
    (c_stretch_from : PySem.W.codeIn K cd_stretch_from "stretch_from" = true)
    (k_stretch_from : PySem.W.keepIn K (.ref f_stretch_from) = true)
    (a_Visit_init : PySem.W.findIn K (.ref C_Visit) "__init__" = some (some (.ref f_Visit_init)))
    (i_Visit_init : PySem.W.isFn K (.ref f_Visit_init) = true)
    (l_Visit_init : K.lookup f_Visit_init = some ⟨oc_Visit_init, od_Visit_init, .func (PySem.W.fnOf "__init__" "Visit.__init__" (defArgs s_Visit_init) (defBody s_Visit_init) (defScope s_Visit_init) .none (.ref D_Visit_init) dc_Visit_init pm_Visit_init an_Visit_init cd_Visit_init ct_Visit_init), sl_Visit_init⟩)
    (c_Visit_init : PySem.W.codeIn K cd_Visit_init "Visit.__init__" = true)
    (k_Visit_init : PySem.W.keepIn K (.ref f_Visit_init) = true)
    (d_Visit_init_shift : PySem.W.nsIn K D_Visit_init "shift" = some (some (.int 0 t_Visit_init_shift)))
    (d_Visit_init_begin : PySem.W.nsIn K D_Visit_init "begin" = some (some (.int 0 t_Visit_init_begin)))
    (d_Visit_init_end : PySem.W.nsIn K D_Visit_init "end" = some (some .none))
    (a_Visit_eq : PySem.W.findIn K (.ref C_Visit) "__eq__" = some (some (.ref f_Visit_eq)))
    (i_Visit_eq : PySem.W.isFn K (.ref f_Visit_eq) = true)
    (l_Visit_eq : K.lookup f_Visit_eq = some ⟨oc_Visit_eq, od_Visit_eq, .func (PySem.W.fnOf "__eq__" "Visit.__eq__" (defArgs s_Visit_eq) (defBody s_Visit_eq) (defScope s_Visit_eq) .none kV_Visit_eq dc_Visit_eq pm_Visit_eq an_Visit_eq cd_Visit_eq ct_Visit_eq), sl_Visit_eq⟩)
    (c_Visit_eq : PySem.W.codeIn K cd_Visit_eq "Visit.__eq__" = true)
    (k_Visit_eq : PySem.W.keepIn K (.ref f_Visit_eq) = true)
    (a_Visit_repr : PySem.W.findIn K (.ref C_Visit) "__repr__" = some (some (.ref f_Visit_repr)))
    (i_Visit_repr : PySem.W.isFn K (.ref f_Visit_repr) = true)
    (l_Visit_repr : K.lookup f_Visit_repr = some ⟨oc_Visit_repr, od_Visit_repr, .func (PySem.W.fnOf "__repr__" "Visit.__repr__" (defArgs s_Visit_repr) (defBody s_Visit_repr) (defScope s_Visit_repr) .none kV_Visit_repr dc_Visit_repr pm_Visit_repr an_Visit_repr cd_Visit_repr ct_Visit_repr), sl_Visit_repr⟩)
    (c_Visit_repr : PySem.W.codeIn K cd_Visit_repr "Visit.__repr__" = true)
    (k_Visit_repr : PySem.W.keepIn K (.ref f_Visit_repr) = true)
    (a_Visit_time : PySem.W.findIn K (.ref C_Visit) "time" = some (some (.ref p_Visit_time)))
    (pg_Visit_time : PySem.W.specialIn K (.ref p_Visit_time) "__get__" = some (some (.builtin "property.__get__")))
    (pt_Visit_time : PySem.W.takesIn K (.ref p_Visit_time) = some true)
    (pr_Visit_time : PySem.W.recIn K p_Visit_time "property" = some (.ref f_Visit_time :: r_Visit_time))
    (l_Visit_time : K.lookup f_Visit_time = some ⟨oc_Visit_time, od_Visit_time, .func (PySem.W.fnOf "time" "Visit.time" (defArgs s_Visit_time) (defBody s_Visit_time) (defScope s_Visit_time) .none kV_Visit_time dc_Visit_time pm_Visit_time an_Visit_time cd_Visit_time ct_Visit_time), sl_Visit_time⟩)
    (c_Visit_time : PySem.W.codeIn K cd_Visit_time "Visit.time" = true)
    (k_Visit_time : PySem.W.keepIn K (.ref f_Visit_time) = true)
    (a_Visit_shift : PySem.W.findIn K (.ref C_Visit) "shift" = some (some (.ref p_Visit_shift)))
    (pg_Visit_shift : PySem.W.specialIn K (.ref p_Visit_shift) "__get__" = some (some (.builtin "property.__get__")))
    (pt_Visit_shift : PySem.W.takesIn K (.ref p_Visit_shift) = some true)
    (pr_Visit_shift : PySem.W.recIn K p_Visit_shift "property" = some (.ref f_Visit_shift :: r_Visit_shift))
    (l_Visit_shift : K.lookup f_Visit_shift = some ⟨oc_Visit_shift, od_Visit_shift, .func (PySem.W.fnOf "shift" "Visit.shift" (defArgs s_Visit_shift) (defBody s_Visit_shift) (defScope s_Visit_shift) .none kV_Visit_shift dc_Visit_shift pm_Visit_shift an_Visit_shift cd_Visit_shift ct_Visit_shift), sl_Visit_shift⟩)
    (c_Visit_shift : PySem.W.codeIn K cd_Visit_shift "Visit.shift" = true)
    (k_Visit_shift : PySem.W.keepIn K (.ref f_Visit_shift) = true)
    (a_Visit_begin : PySem.W.findIn K (.ref C_Visit) "begin" = some (some (.ref p_Visit_begin)))
    (pg_Visit_begin : PySem.W.specialIn K (.ref p_Visit_begin) "__get__" = some (some (.builtin "property.__get__")))
    (pt_Visit_begin : PySem.W.takesIn K (.ref p_Visit_begin) = some true)
    (pr_Visit_begin : PySem.W.recIn K p_Visit_begin "property" = some (.ref f_Visit_begin :: r_Visit_begin))
    (l_Visit_begin : K.lookup f_Visit_begin = some ⟨oc_Visit_begin, od_Visit_begin, .func (PySem.W.fnOf "begin" "Visit.begin" (defArgs s_Visit_begin) (defBody s_Visit_begin) (defScope s_Visit_begin) .none kV_Visit_begin dc_Visit_begin pm_Visit_begin an_Visit_begin cd_Visit_begin ct_Visit_begin), sl_Visit_begin⟩)
    (c_Visit_begin : PySem.W.codeIn K cd_Visit_begin "Visit.begin" = true)
    (k_Visit_begin : PySem.W.keepIn K (.ref f_Visit_begin) = true)
    (a_Visit_end : PySem.W.findIn K (.ref C_Visit) "end" = some (some (.ref p_Visit_end)))
    (pg_Visit_end : PySem.W.specialIn K (.ref p_Visit_end) "__get__" = some (some (.builtin "property.__get__")))
    (pt_Visit_end : PySem.W.takesIn K (.ref p_Visit_end) = some true)
    (pr_Visit_end : PySem.W.recIn K p_Visit_end "property" = some (.ref f_Visit_end :: r_Visit_end))
    (l_Visit_end : K.lookup f_Visit_end = some ⟨oc_Visit_end, od_Visit_end, .func (PySem.W.fnOf "end" "Visit.end" (defArgs s_Visit_end) (defBody s_Visit_end) (defScope s_Visit_end) .none kV_Visit_end dc_Visit_end pm_Visit_end an_Visit_end cd_Visit_end ct_Visit_end), sl_Visit_end⟩)
    (c_Visit_end : PySem.W.codeIn K cd_Visit_end "Visit.end" = true)
    (k_Visit_end : PySem.W.keepIn K (.ref f_Visit_end) = true)
    (a_stretch : PySem.W.nsIn K mainGlobals "stretch" = some (some (.ref f_stretch)))
    (l_stretch : K.lookup f_stretch = some ⟨oc_stretch, od_stretch, .func (PySem.W.fnOf "stretch" "stretch" (defArgs s_stretch) (defBody s_stretch) (defScope s_stretch) .none kV_stretch dc_stretch pm_stretch an_stretch cd_stretch ct_stretch), sl_stretch⟩)
    (c_stretch : PySem.W.codeIn K cd_stretch "stretch" = true)
    (k_stretch : PySem.W.keepIn K (.ref f_stretch) = true)
    (a_find_visit_problem : PySem.W.nsIn K mainGlobals "find_visit_problem" = some (some (.ref f_find_visit_problem)))
    (l_find_visit_problem : K.lookup f_find_visit_problem = some ⟨oc_find_visit_problem, od_find_visit_problem, .func (PySem.W.fnOf "find_visit_problem" "find_visit_problem" (defArgs s_find_visit_problem) (defBody s_find_visit_problem) (defScope s_find_visit_problem) .none kV_find_visit_problem dc_find_visit_problem pm_find_visit_problem an_find_visit_problem cd_find_visit_problem ct_find_visit_problem), sl_find_visit_problem⟩)
    (c_find_visit_problem : PySem.W.codeIn K cd_find_visit_problem "find_visit_problem" = true)
    (k_find_visit_problem : PySem.W.keepIn K (.ref f_find_visit_problem) = true)
    (a_l_rng : PySem.W.nsIn K mainGlobals "_law_rng" = some (some (.ref f_l_rng)))
    (l_l_rng : K.lookup f_l_rng = some ⟨oc_l_rng, od_l_rng, .func (PySem.W.fnOf "_law_rng" "_law_rng" (defArgs s_l_rng) (defBody s_l_rng) (defScope s_l_rng) .none kV_l_rng dc_l_rng pm_l_rng an_l_rng cd_l_rng ct_l_rng), sl_l_rng⟩)
    (c_l_rng : PySem.W.codeIn K cd_l_rng "_law_rng" = true)
    (k_l_rng : PySem.W.keepIn K (.ref f_l_rng) = true)
    (a_l_draw : PySem.W.nsIn K mainGlobals "_law_draw" = some (some (.ref f_l_draw)))
    (l_l_draw : K.lookup f_l_draw = some ⟨oc_l_draw, od_l_draw, .func (PySem.W.fnOf "_law_draw" "_law_draw" (defArgs s_l_draw) (defBody s_l_draw) (defScope s_l_draw) .none kV_l_draw dc_l_draw pm_l_draw an_l_draw cd_l_draw ct_l_draw), sl_l_draw⟩)
    (c_l_draw : PySem.W.codeIn K cd_l_draw "_law_draw" = true)
    (k_l_draw : PySem.W.keepIn K (.ref f_l_draw) = true)
    (a_l_choice : PySem.W.nsIn K mainGlobals "_law_choice" = some (some (.ref f_l_choice)))
    (l_l_choice : K.lookup f_l_choice = some ⟨oc_l_choice, od_l_choice, .func (PySem.W.fnOf "_law_choice" "_law_choice" (defArgs s_l_choice) (defBody s_l_choice) (defScope s_l_choice) .none kV_l_choice dc_l_choice pm_l_choice an_l_choice cd_l_choice ct_l_choice), sl_l_choice⟩)
    (c_l_choice : PySem.W.codeIn K cd_l_choice "_law_choice" = true)
    (k_l_choice : PySem.W.keepIn K (.ref f_l_choice) = true)
    (a_l_parts : PySem.W.nsIn K mainGlobals "_law_parts" = some (some (.ref f_l_parts)))
    (l_l_parts : K.lookup f_l_parts = some ⟨oc_l_parts, od_l_parts, .func (PySem.W.fnOf "_law_parts" "_law_parts" (defArgs s_l_parts) (defBody s_l_parts) (defScope s_l_parts) .none kV_l_parts dc_l_parts pm_l_parts an_l_parts cd_l_parts ct_l_parts), sl_l_parts⟩)
    (c_l_parts : PySem.W.codeIn K cd_l_parts "_law_parts" = true)
    (k_l_parts : PySem.W.keepIn K (.ref f_l_parts) = true)
    (a_l_made : PySem.W.nsIn K mainGlobals "_law_made" = some (some (.ref f_l_made)))
    (l_l_made : K.lookup f_l_made = some ⟨oc_l_made, od_l_made, .func (PySem.W.fnOf "_law_made" "_law_made" (defArgs s_l_made) (defBody s_l_made) (defScope s_l_made) .none kV_l_made dc_l_made pm_l_made an_l_made cd_l_made ct_l_made), sl_l_made⟩)
    (c_l_made : PySem.W.codeIn K cd_l_made "_law_made" = true)
    (k_l_made : PySem.W.keepIn K (.ref f_l_made) = true)
    (a_l_due : PySem.W.nsIn K mainGlobals "_law_due" = some (some (.ref f_l_due)))
    (l_l_due : K.lookup f_l_due = some ⟨oc_l_due, od_l_due, .func (PySem.W.fnOf "_law_due" "_law_due" (defArgs s_l_due) (defBody s_l_due) (defScope s_l_due) .none kV_l_due dc_l_due pm_l_due an_l_due cd_l_due ct_l_due), sl_l_due⟩)
    (c_l_due : PySem.W.codeIn K cd_l_due "_law_due" = true)
    (k_l_due : PySem.W.keepIn K (.ref f_l_due) = true)
    (a_l_told_right : PySem.W.nsIn K mainGlobals "_law_told_right" = some (some (.ref f_l_told_right)))
    (l_l_told_right : K.lookup f_l_told_right = some ⟨oc_l_told_right, od_l_told_right, .func (PySem.W.fnOf "_law_told_right" "_law_told_right" (defArgs s_l_told_right) (defBody s_l_told_right) (defScope s_l_told_right) .none kV_l_told_right dc_l_told_right pm_l_told_right an_l_told_right cd_l_told_right ct_l_told_right), sl_l_told_right⟩)
    (c_l_told_right : PySem.W.codeIn K cd_l_told_right "_law_told_right" = true)
    (k_l_told_right : PySem.W.keepIn K (.ref f_l_told_right) = true)
    (a_l_equal_right : PySem.W.nsIn K mainGlobals "_law_equal_right" = some (some (.ref f_l_equal_right)))
    (l_l_equal_right : K.lookup f_l_equal_right = some ⟨oc_l_equal_right, od_l_equal_right, .func (PySem.W.fnOf "_law_equal_right" "_law_equal_right" (defArgs s_l_equal_right) (defBody s_l_equal_right) (defScope s_l_equal_right) .none kV_l_equal_right dc_l_equal_right pm_l_equal_right an_l_equal_right cd_l_equal_right ct_l_equal_right), sl_l_equal_right⟩)
    (c_l_equal_right : PySem.W.codeIn K cd_l_equal_right "_law_equal_right" = true)
    (k_l_equal_right : PySem.W.keepIn K (.ref f_l_equal_right) = true)
    (a_l_right : PySem.W.nsIn K mainGlobals "_law_right" = some (some (.ref f_l_right)))
    (l_l_right : K.lookup f_l_right = some ⟨oc_l_right, od_l_right, .func (PySem.W.fnOf "_law_right" "_law_right" (defArgs s_l_right) (defBody s_l_right) (defScope s_l_right) .none kV_l_right dc_l_right pm_l_right an_l_right cd_l_right ct_l_right), sl_l_right⟩)
    (c_l_right : PySem.W.codeIn K cd_l_right "_law_right" = true)
    (k_l_right : PySem.W.keepIn K (.ref f_l_right) = true)
    (a_law : PySem.W.nsIn K mainGlobals "law" = some (some (.ref f_law)))
    (l_law : K.lookup f_law = some ⟨oc_law, od_law, .func (PySem.W.fnOf "law" "law" (defArgs s_law) (defBody s_law) (defScope s_law) .none kV_law dc_law pm_law an_law cd_law ct_law), sl_law⟩)
    (c_law : PySem.W.codeIn K cd_law "law" = true)
    (k_law : PySem.W.keepIn K (.ref f_law) = true)
    (v_MAX_TICK : PySem.W.nsIn K mainGlobals "MAX_TICK" = some (some (.int 1000 t_MAX_TICK)))
    (v_MAX_TIME : PySem.W.nsIn K mainGlobals "MAX_TIME" = some (some (.int 12 t_MAX_TIME)))
    (z_abs : PySem.W.nsIn K mainGlobals "abs" = some none)
    (z_all : PySem.W.nsIn K mainGlobals "all" = some none)
    (z_bool : PySem.W.nsIn K mainGlobals "bool" = some none)
    (z_divmod : PySem.W.nsIn K mainGlobals "divmod" = some none)
    (z_int : PySem.W.nsIn K mainGlobals "int" = some none)
    (z_isinstance : PySem.W.nsIn K mainGlobals "isinstance" = some none)
    (z_len : PySem.W.nsIn K mainGlobals "len" = some none)
    (z_list : PySem.W.nsIn K mainGlobals "list" = some none)
    (z_max : PySem.W.nsIn K mainGlobals "max" = some none)
    (z_min : PySem.W.nsIn K mainGlobals "min" = some none)
    (z_range : PySem.W.nsIn K mainGlobals "range" = some none)
    (z_repr : PySem.W.nsIn K mainGlobals "repr" = some none)
    (z_str : PySem.W.nsIn K mainGlobals "str" = some none)
    (z_tuple : PySem.W.nsIn K mainGlobals "tuple" = some none)
    : ∃ fd : FuncData, (∀ (s : Shared) (v : Value), BindsTo s fd ⟨[v], []⟩ [("_law_script", v)]) ∧ ∀ base : Heap, K.In base → base.Ns mainGlobals mg → VG.FnG l.prog w K mg base CX0 10 fa fd ["_law_script"] (spL K) := by
  have e := hfa.symm.trans (PySem.W.mg_of X G a_law)
  cases e
  let A : Ad := {
    Visit := C_Visit,
    f_is_integer := f_is_integer,
    d_is_integer := PySem.W.fnOf "is_integer" "is_integer" (defArgs s_is_integer) (defBody s_is_integer) (defScope s_is_integer) .none kV_is_integer dc_is_integer pm_is_integer an_is_integer cd_is_integer ct_is_integer,
    f_is_count := f_is_count,
    d_is_count := PySem.W.fnOf "is_count" "is_count" (defArgs s_is_count) (defBody s_is_count) (defScope s_is_count) .none kV_is_count dc_is_count pm_is_count an_is_count cd_is_count ct_is_count,
    f_is_count_to := f_is_count_to,
    d_is_count_to := PySem.W.fnOf "is_count_to" "is_count_to" (defArgs s_is_count_to) (defBody s_is_count_to) (defScope s_is_count_to) .none kV_is_count_to dc_is_count_to pm_is_count_to an_is_count_to cd_is_count_to ct_is_count_to,
    f_is_window := f_is_window,
    d_is_window := PySem.W.fnOf "is_window" "is_window" (defArgs s_is_window) (defBody s_is_window) (defScope s_is_window) .none kV_is_window dc_is_window pm_is_window an_is_window cd_is_window ct_is_window,
    f_require_window := f_require_window,
    d_require_window := PySem.W.fnOf "require_window" "require_window" (defArgs s_require_window) (defBody s_require_window) (defScope s_require_window) .none kV_require_window dc_require_window pm_require_window an_require_window cd_require_window ct_require_window,
    f_urgent_stretch := f_urgent_stretch,
    d_urgent_stretch := PySem.W.fnOf "urgent_stretch" "urgent_stretch" (defArgs s_urgent_stretch) (defBody s_urgent_stretch) (defScope s_urgent_stretch) .none kV_urgent_stretch dc_urgent_stretch pm_urgent_stretch an_urgent_stretch cd_urgent_stretch ct_urgent_stretch,
    f_stretch_from := f_stretch_from,
    d_stretch_from := PySem.W.fnOf "stretch_from" "stretch_from" (defArgs s_stretch_from) (defBody s_stretch_from) (defScope s_stretch_from) .none kV_stretch_from dc_stretch_from pm_stretch_from an_stretch_from cd_stretch_from ct_stretch_from,
    f_Visit_init := f_Visit_init,
    d_Visit_init := PySem.W.fnOf "__init__" "Visit.__init__" (defArgs s_Visit_init) (defBody s_Visit_init) (defScope s_Visit_init) .none (.ref D_Visit_init) dc_Visit_init pm_Visit_init an_Visit_init cd_Visit_init ct_Visit_init,
    f_Visit_eq := f_Visit_eq,
    d_Visit_eq := PySem.W.fnOf "__eq__" "Visit.__eq__" (defArgs s_Visit_eq) (defBody s_Visit_eq) (defScope s_Visit_eq) .none kV_Visit_eq dc_Visit_eq pm_Visit_eq an_Visit_eq cd_Visit_eq ct_Visit_eq,
    f_Visit_repr := f_Visit_repr,
    d_Visit_repr := PySem.W.fnOf "__repr__" "Visit.__repr__" (defArgs s_Visit_repr) (defBody s_Visit_repr) (defScope s_Visit_repr) .none kV_Visit_repr dc_Visit_repr pm_Visit_repr an_Visit_repr cd_Visit_repr ct_Visit_repr,
    p_Visit_time := p_Visit_time,
    f_Visit_time := f_Visit_time,
    d_Visit_time := PySem.W.fnOf "time" "Visit.time" (defArgs s_Visit_time) (defBody s_Visit_time) (defScope s_Visit_time) .none kV_Visit_time dc_Visit_time pm_Visit_time an_Visit_time cd_Visit_time ct_Visit_time,
    p_Visit_shift := p_Visit_shift,
    f_Visit_shift := f_Visit_shift,
    d_Visit_shift := PySem.W.fnOf "shift" "Visit.shift" (defArgs s_Visit_shift) (defBody s_Visit_shift) (defScope s_Visit_shift) .none kV_Visit_shift dc_Visit_shift pm_Visit_shift an_Visit_shift cd_Visit_shift ct_Visit_shift,
    p_Visit_begin := p_Visit_begin,
    f_Visit_begin := f_Visit_begin,
    d_Visit_begin := PySem.W.fnOf "begin" "Visit.begin" (defArgs s_Visit_begin) (defBody s_Visit_begin) (defScope s_Visit_begin) .none kV_Visit_begin dc_Visit_begin pm_Visit_begin an_Visit_begin cd_Visit_begin ct_Visit_begin,
    p_Visit_end := p_Visit_end,
    f_Visit_end := f_Visit_end,
    d_Visit_end := PySem.W.fnOf "end" "Visit.end" (defArgs s_Visit_end) (defBody s_Visit_end) (defScope s_Visit_end) .none kV_Visit_end dc_Visit_end pm_Visit_end an_Visit_end cd_Visit_end ct_Visit_end,
    f_stretch := f_stretch,
    d_stretch := PySem.W.fnOf "stretch" "stretch" (defArgs s_stretch) (defBody s_stretch) (defScope s_stretch) .none kV_stretch dc_stretch pm_stretch an_stretch cd_stretch ct_stretch,
    f_find_visit_problem := f_find_visit_problem,
    d_find_visit_problem := PySem.W.fnOf "find_visit_problem" "find_visit_problem" (defArgs s_find_visit_problem) (defBody s_find_visit_problem) (defScope s_find_visit_problem) .none kV_find_visit_problem dc_find_visit_problem pm_find_visit_problem an_find_visit_problem cd_find_visit_problem ct_find_visit_problem,
    f_l_rng := f_l_rng,
    d_l_rng := PySem.W.fnOf "_law_rng" "_law_rng" (defArgs s_l_rng) (defBody s_l_rng) (defScope s_l_rng) .none kV_l_rng dc_l_rng pm_l_rng an_l_rng cd_l_rng ct_l_rng,
    f_l_draw := f_l_draw,
    d_l_draw := PySem.W.fnOf "_law_draw" "_law_draw" (defArgs s_l_draw) (defBody s_l_draw) (defScope s_l_draw) .none kV_l_draw dc_l_draw pm_l_draw an_l_draw cd_l_draw ct_l_draw,
    f_l_choice := f_l_choice,
    d_l_choice := PySem.W.fnOf "_law_choice" "_law_choice" (defArgs s_l_choice) (defBody s_l_choice) (defScope s_l_choice) .none kV_l_choice dc_l_choice pm_l_choice an_l_choice cd_l_choice ct_l_choice,
    f_l_parts := f_l_parts,
    d_l_parts := PySem.W.fnOf "_law_parts" "_law_parts" (defArgs s_l_parts) (defBody s_l_parts) (defScope s_l_parts) .none kV_l_parts dc_l_parts pm_l_parts an_l_parts cd_l_parts ct_l_parts,
    f_l_made := f_l_made,
    d_l_made := PySem.W.fnOf "_law_made" "_law_made" (defArgs s_l_made) (defBody s_l_made) (defScope s_l_made) .none kV_l_made dc_l_made pm_l_made an_l_made cd_l_made ct_l_made,
    f_l_due := f_l_due,
    d_l_due := PySem.W.fnOf "_law_due" "_law_due" (defArgs s_l_due) (defBody s_l_due) (defScope s_l_due) .none kV_l_due dc_l_due pm_l_due an_l_due cd_l_due ct_l_due,
    f_l_told_right := f_l_told_right,
    d_l_told_right := PySem.W.fnOf "_law_told_right" "_law_told_right" (defArgs s_l_told_right) (defBody s_l_told_right) (defScope s_l_told_right) .none kV_l_told_right dc_l_told_right pm_l_told_right an_l_told_right cd_l_told_right ct_l_told_right,
    f_l_equal_right := f_l_equal_right,
    d_l_equal_right := PySem.W.fnOf "_law_equal_right" "_law_equal_right" (defArgs s_l_equal_right) (defBody s_l_equal_right) (defScope s_l_equal_right) .none kV_l_equal_right dc_l_equal_right pm_l_equal_right an_l_equal_right cd_l_equal_right ct_l_equal_right,
    f_l_right := f_l_right,
    d_l_right := PySem.W.fnOf "_law_right" "_law_right" (defArgs s_l_right) (defBody s_l_right) (defScope s_l_right) .none kV_l_right dc_l_right pm_l_right an_l_right cd_l_right ct_l_right,
    f_law := fa,
    d_law := PySem.W.fnOf "law" "law" (defArgs s_law) (defBody s_law) (defScope s_law) .none kV_law dc_law pm_law an_law cd_law ct_law,
    t_MAX_TICK := t_MAX_TICK,
    t_MAX_TIME := t_MAX_TIME }
  have T : Txt K mg A := {
    m_Visit := PySem.W.mg_of X G g_Visit,
    clVisit := ⟨pg_Visit, hd_Visit, po_Visit, sa_Visit⟩,
    M_Visit := ⟨mk_Visit, a_Visit_init, i_Visit_init, kc_Visit⟩,
    ic_Visit := ⟨ic_Visit, it_Visit, ig_Visit, i_gn, i_tk, io_Visit, ie_Visit⟩,
    n_time := n_Visit_time,
    n_shift := n_Visit_shift,
    n_begin := n_Visit_begin,
    n_end := n_Visit_end,
    F_is_integer := fun_mk (st := s_is_integer) l_is_integer c_is_integer k_is_integer,
    m_is_integer := PySem.W.mg_of X G a_is_integer,
    k_is_integer := k_is_integer,
    b_is_integer := ((fun_mk (st := s_is_integer) l_is_integer c_is_integer k_is_integer).binds (ps := ["value"]) fun _ _ _ _ _ _ us hl => match us, hl with | [_], _ => rfl),
    F_is_count := fun_mk (st := s_is_count) l_is_count c_is_count k_is_count,
    m_is_count := PySem.W.mg_of X G a_is_count,
    k_is_count := k_is_count,
    b_is_count := ((fun_mk (st := s_is_count) l_is_count c_is_count k_is_count).binds (ps := ["value"]) fun _ _ _ _ _ _ us hl => match us, hl with | [_], _ => rfl),
    F_is_count_to := fun_mk (st := s_is_count_to) l_is_count_to c_is_count_to k_is_count_to,
    m_is_count_to := PySem.W.mg_of X G a_is_count_to,
    k_is_count_to := k_is_count_to,
    b_is_count_to := ((fun_mk (st := s_is_count_to) l_is_count_to c_is_count_to k_is_count_to).binds (ps := ["value", "most"]) fun _ _ _ _ _ _ us hl => match us, hl with | [_, _], _ => rfl),
    F_is_window := fun_mk (st := s_is_window) l_is_window c_is_window k_is_window,
    m_is_window := PySem.W.mg_of X G a_is_window,
    k_is_window := k_is_window,
    b_is_window := ((fun_mk (st := s_is_window) l_is_window c_is_window k_is_window).binds (ps := ["start", "end"]) fun _ _ _ _ _ _ us hl => match us, hl with | [_, _], _ => rfl),
    F_require_window := fun_mk (st := s_require_window) l_require_window c_require_window k_require_window,
    m_require_window := PySem.W.mg_of X G a_require_window,
    k_require_window := k_require_window,
    b_require_window := ((fun_mk (st := s_require_window) l_require_window c_require_window k_require_window).binds (ps := ["start", "end"]) fun _ _ _ _ _ _ us hl => match us, hl with | [_, _], _ => rfl),
    F_urgent_stretch := fun_mk (st := s_urgent_stretch) l_urgent_stretch c_urgent_stretch k_urgent_stretch,
    m_urgent_stretch := PySem.W.mg_of X G a_urgent_stretch,
    k_urgent_stretch := k_urgent_stretch,
    b_urgent_stretch := ((fun_mk (st := s_urgent_stretch) l_urgent_stretch c_urgent_stretch k_urgent_stretch).binds (ps := ["visit", "start", "end"]) fun _ _ _ _ _ _ us hl => match us, hl with | [_, _, _], _ => rfl),
    F_stretch_from := fun_mk (st := s_stretch_from) l_stretch_from c_stretch_from k_stretch_from,
    m_stretch_from := PySem.W.mg_of X G a_stretch_from,
    k_stretch_from := k_stretch_from,
    b_stretch_from := ((fun_mk (st := s_stretch_from) l_stretch_from c_stretch_from k_stretch_from).binds (ps := ["visit", "first", "behind"]) fun _ _ _ _ _ _ us hl => match us, hl with | [_, _, _], _ => rfl),
    F_Visit_init := ⟨⟨_, _, _, _, _, _, _, _, _, _, rfl, l_Visit_init, c_Visit_init, .inl ⟨rfl, rfl⟩, .inr ⟨D_Visit_init, rfl, by
      intro q hq
      simp only [List.mem_cons, List.not_mem_nil, or_false] at hq
      rcases hq with rfl | rfl | rfl
      · exact ⟨_, d_Visit_init_shift, ⟨_, rfl⟩⟩
      · exact ⟨_, d_Visit_init_begin, ⟨_, rfl⟩⟩
      · exact ⟨_, d_Visit_init_end, rfl⟩⟩⟩, k_Visit_init⟩,
    F_Visit_eq := fun_mk (st := s_Visit_eq) l_Visit_eq c_Visit_eq k_Visit_eq,
    b_Visit_eq := ((fun_mk (st := s_Visit_eq) l_Visit_eq c_Visit_eq k_Visit_eq).binds (ps := ["self", "other"]) fun _ _ _ _ _ _ us hl => match us, hl with | [_, _], _ => rfl),
    me___eq__ := ⟨a_Visit_eq, i_Visit_eq, k_Visit_eq⟩,
    F_Visit_repr := fun_mk (st := s_Visit_repr) l_Visit_repr c_Visit_repr k_Visit_repr,
    b_Visit_repr := ((fun_mk (st := s_Visit_repr) l_Visit_repr c_Visit_repr k_Visit_repr).binds (ps := ["self"]) fun _ _ _ _ _ _ us hl => match us, hl with | [_], _ => rfl),
    me___repr__ := ⟨a_Visit_repr, i_Visit_repr, k_Visit_repr⟩,
    F_Visit_time := fun_mk (st := s_Visit_time) l_Visit_time c_Visit_time k_Visit_time,
    b_Visit_time := ((fun_mk (st := s_Visit_time) l_Visit_time c_Visit_time k_Visit_time).binds (ps := ["self"]) fun _ _ _ _ _ _ us hl => match us, hl with | [_], _ => rfl),
    pr_Visit_time := ⟨a_Visit_time, pg_Visit_time, pt_Visit_time, _, pr_Visit_time⟩,
    F_Visit_shift := fun_mk (st := s_Visit_shift) l_Visit_shift c_Visit_shift k_Visit_shift,
    b_Visit_shift := ((fun_mk (st := s_Visit_shift) l_Visit_shift c_Visit_shift k_Visit_shift).binds (ps := ["self"]) fun _ _ _ _ _ _ us hl => match us, hl with | [_], _ => rfl),
    pr_Visit_shift := ⟨a_Visit_shift, pg_Visit_shift, pt_Visit_shift, _, pr_Visit_shift⟩,
    F_Visit_begin := fun_mk (st := s_Visit_begin) l_Visit_begin c_Visit_begin k_Visit_begin,
    b_Visit_begin := ((fun_mk (st := s_Visit_begin) l_Visit_begin c_Visit_begin k_Visit_begin).binds (ps := ["self"]) fun _ _ _ _ _ _ us hl => match us, hl with | [_], _ => rfl),
    pr_Visit_begin := ⟨a_Visit_begin, pg_Visit_begin, pt_Visit_begin, _, pr_Visit_begin⟩,
    F_Visit_end := fun_mk (st := s_Visit_end) l_Visit_end c_Visit_end k_Visit_end,
    b_Visit_end := ((fun_mk (st := s_Visit_end) l_Visit_end c_Visit_end k_Visit_end).binds (ps := ["self"]) fun _ _ _ _ _ _ us hl => match us, hl with | [_], _ => rfl),
    pr_Visit_end := ⟨a_Visit_end, pg_Visit_end, pt_Visit_end, _, pr_Visit_end⟩,
    F_stretch := fun_mk (st := s_stretch) l_stretch c_stretch k_stretch,
    m_stretch := PySem.W.mg_of X G a_stretch,
    k_stretch := k_stretch,
    b_stretch := ((fun_mk (st := s_stretch) l_stretch c_stretch k_stretch).binds (ps := ["visit", "start", "end"]) fun _ _ _ _ _ _ us hl => match us, hl with | [_, _, _], _ => rfl),
    F_find_visit_problem := fun_mk (st := s_find_visit_problem) l_find_visit_problem c_find_visit_problem k_find_visit_problem,
    m_find_visit_problem := PySem.W.mg_of X G a_find_visit_problem,
    k_find_visit_problem := k_find_visit_problem,
    b_find_visit_problem := ((fun_mk (st := s_find_visit_problem) l_find_visit_problem c_find_visit_problem k_find_visit_problem).binds (ps := ["time", "shift", "begin", "end"]) fun _ _ _ _ _ _ us hl => match us, hl with | [_, _, _, _], _ => rfl),
    F_l_rng := fun_mk (st := s_l_rng) l_l_rng c_l_rng k_l_rng,
    m_l_rng := PySem.W.mg_of X G a_l_rng,
    k_l_rng := k_l_rng,
    b_l_rng := ((fun_mk (st := s_l_rng) l_l_rng c_l_rng k_l_rng).binds (ps := ["_law_script", "_law_k"]) fun _ _ _ _ _ _ us hl => match us, hl with | [_, _], _ => rfl),
    F_l_draw := fun_mk (st := s_l_draw) l_l_draw c_l_draw k_l_draw,
    m_l_draw := PySem.W.mg_of X G a_l_draw,
    k_l_draw := k_l_draw,
    b_l_draw := ((fun_mk (st := s_l_draw) l_l_draw c_l_draw k_l_draw).binds (ps := ["_law_rng_here", "_law_many"]) fun _ _ _ _ _ _ us hl => match us, hl with | [_, _], _ => rfl),
    F_l_choice := fun_mk (st := s_l_choice) l_l_choice c_l_choice k_l_choice,
    m_l_choice := PySem.W.mg_of X G a_l_choice,
    k_l_choice := k_l_choice,
    b_l_choice := ((fun_mk (st := s_l_choice) l_l_choice c_l_choice k_l_choice).binds (ps := ["_law_rng_here", "_law_some"]) fun _ _ _ _ _ _ us hl => match us, hl with | [_, _], _ => rfl),
    F_l_parts := fun_mk (st := s_l_parts) l_l_parts c_l_parts k_l_parts,
    m_l_parts := PySem.W.mg_of X G a_l_parts,
    k_l_parts := k_l_parts,
    b_l_parts := ((fun_mk (st := s_l_parts) l_l_parts c_l_parts k_l_parts).binds (ps := ["_law_rng_here"]) fun _ _ _ _ _ _ us hl => match us, hl with | [_], _ => rfl),
    F_l_made := fun_mk (st := s_l_made) l_l_made c_l_made k_l_made,
    m_l_made := PySem.W.mg_of X G a_l_made,
    k_l_made := k_l_made,
    b_l_made := ((fun_mk (st := s_l_made) l_l_made c_l_made k_l_made).binds (ps := ["_law_parts_here"]) fun _ _ _ _ _ _ us hl => match us, hl with | [_], _ => rfl),
    F_l_due := fun_mk (st := s_l_due) l_l_due c_l_due k_l_due,
    m_l_due := PySem.W.mg_of X G a_l_due,
    k_l_due := k_l_due,
    b_l_due := ((fun_mk (st := s_l_due) l_l_due c_l_due k_l_due).binds (ps := ["_law_parts_here", "_law_low", "_law_high"]) fun _ _ _ _ _ _ us hl => match us, hl with | [_, _, _], _ => rfl),
    F_l_told_right := fun_mk (st := s_l_told_right) l_l_told_right c_l_told_right k_l_told_right,
    m_l_told_right := PySem.W.mg_of X G a_l_told_right,
    k_l_told_right := k_l_told_right,
    b_l_told_right := ((fun_mk (st := s_l_told_right) l_l_told_right c_l_told_right k_l_told_right).binds (ps := ["_law_visit", "_law_parts_here"]) fun _ _ _ _ _ _ us hl => match us, hl with | [_, _], _ => rfl),
    F_l_equal_right := fun_mk (st := s_l_equal_right) l_l_equal_right c_l_equal_right k_l_equal_right,
    m_l_equal_right := PySem.W.mg_of X G a_l_equal_right,
    k_l_equal_right := k_l_equal_right,
    b_l_equal_right := ((fun_mk (st := s_l_equal_right) l_l_equal_right c_l_equal_right k_l_equal_right).binds (ps := ["_law_rng_here", "_law_visit", "_law_parts_here"]) fun _ _ _ _ _ _ us hl => match us, hl with | [_, _, _], _ => rfl),
    F_l_right := fun_mk (st := s_l_right) l_l_right c_l_right k_l_right,
    m_l_right := PySem.W.mg_of X G a_l_right,
    k_l_right := k_l_right,
    b_l_right := ((fun_mk (st := s_l_right) l_l_right c_l_right k_l_right).binds (ps := ["_law_rng_here"]) fun _ _ _ _ _ _ us hl => match us, hl with | [_], _ => rfl),
    F_law := fun_mk (st := s_law) l_law c_law k_law,
    m_law := PySem.W.mg_of X G a_law,
    k_law := k_law,
    b_law := ((fun_mk (st := s_law) l_law c_law k_law).binds (ps := ["_law_script"]) fun _ _ _ _ _ _ us hl => match us, hl with | [_], _ => rfl),
    v_MAX_TICK := PySem.W.mg_of X G v_MAX_TICK,
    v_MAX_TIME := PySem.W.mg_of X G v_MAX_TIME,
    abs := PySem.W.mg_none_of X G z_abs,
    all := PySem.W.mg_none_of X G z_all,
    bool := PySem.W.mg_none_of X G z_bool,
    divmod := PySem.W.mg_none_of X G z_divmod,
    int := PySem.W.mg_none_of X G z_int,
    isinstance := PySem.W.mg_none_of X G z_isinstance,
    len := PySem.W.mg_none_of X G z_len,
    list := PySem.W.mg_none_of X G z_list,
    max := PySem.W.mg_none_of X G z_max,
    min := PySem.W.mg_none_of X G z_min,
    range := PySem.W.mg_none_of X G z_range,
    repr := PySem.W.mg_none_of X G z_repr,
    str := PySem.W.mg_none_of X G z_str,
    tuple := PySem.W.mg_none_of X G z_tuple }
  exact ⟨_, fun s v => .of_eq rfl, fun base _ _ => ok_law (P := l.prog) (w := w) (base := base) T⟩
end VK

open PySem PySem.W PyProof.Rows in
set_option maxRecDepth 100000 in
set_option maxHeartbeats 0 in
theorem PySem.Challenge.cw_dueways_k31_stretches_holds : PySem.Challenge.rw_dueways_k31_stretches.Holds := by
  w_on; o_law; k_head; (case hw => w_witness2)
  k_fill
  refine VG.walkG (n := 63) (k := 10) (x := "_law_script") (CX := fun _ => L2.CX0) (sp := fun w => VK.spL _) rfl (by decide) rfl ⟨rfl, by decide, by decide⟩ (fun w h Y => PySem.W.kIn_of Y) ?F (fun _ _ a ns hl _ hS => ⟨a, ns, rfl, hS, hl, fun _ => rfl⟩) fun _ _ _ _ _ z => z
  case F =>
    intro w mg fa h KX G hmg
    refine' VK.all_mk KX G hmg ?g_Visit ?pg_Visit ?hd_Visit ?po_Visit ?sa_Visit ?mk_Visit ?kc_Visit ?ic_Visit ?it_Visit ?ig_Visit ?io_Visit ?ie_Visit ?i_gn ?i_tk ?n_Visit_time ?n_Visit_shift ?n_Visit_begin ?n_Visit_end ?a_is_integer ?l_is_integer ?c_is_integer ?k_is_integer ?a_is_count ?l_is_count ?c_is_count ?k_is_count ?a_is_count_to ?l_is_count_to ?c_is_count_to ?k_is_count_to ?a_is_window ?l_is_window ?c_is_window ?k_is_window ?a_require_window ?l_require_window ?c_require_window ?k_require_window ?a_urgent_stretch ?l_urgent_stretch ?c_urgent_stretch ?k_urgent_stretch ?a_stretch_from ?l_stretch_from ?c_stretch_from ?k_stretch_from ?a_Visit_init ?i_Visit_init ?l_Visit_init ?c_Visit_init ?k_Visit_init ?d_Visit_init_shift ?d_Visit_init_begin ?d_Visit_init_end ?a_Visit_eq ?i_Visit_eq ?l_Visit_eq ?c_Visit_eq ?k_Visit_eq ?a_Visit_repr ?i_Visit_repr ?l_Visit_repr ?c_Visit_repr ?k_Visit_repr ?a_Visit_time ?pg_Visit_time ?pt_Visit_time ?pr_Visit_time ?l_Visit_time ?c_Visit_time ?k_Visit_time ?a_Visit_shift ?pg_Visit_shift ?pt_Visit_shift ?pr_Visit_shift ?l_Visit_shift ?c_Visit_shift ?k_Visit_shift ?a_Visit_begin ?pg_Visit_begin ?pt_Visit_begin ?pr_Visit_begin ?l_Visit_begin ?c_Visit_begin ?k_Visit_begin ?a_Visit_end ?pg_Visit_end ?pt_Visit_end ?pr_Visit_end ?l_Visit_end ?c_Visit_end ?k_Visit_end ?a_stretch ?l_stretch ?c_stretch ?k_stretch ?a_find_visit_problem ?l_find_visit_problem ?c_find_visit_problem ?k_find_visit_problem ?a_l_rng ?l_l_rng ?c_l_rng ?k_l_rng ?a_l_draw ?l_l_draw ?c_l_draw ?k_l_draw ?a_l_choice ?l_l_choice ?c_l_choice ?k_l_choice ?a_l_parts ?l_l_parts ?c_l_parts ?k_l_parts ?a_l_made ?l_l_made ?c_l_made ?k_l_made ?a_l_due ?l_l_due ?c_l_due ?k_l_due ?a_l_told_right ?l_l_told_right ?c_l_told_right ?k_l_told_right ?a_l_equal_right ?l_l_equal_right ?c_l_equal_right ?k_l_equal_right ?a_l_right ?l_l_right ?c_l_right ?k_l_right ?a_law ?l_law ?c_law ?k_law ?v_MAX_TICK ?v_MAX_TIME ?z_abs ?z_all ?z_bool ?z_divmod ?z_int ?z_isinstance ?z_len ?z_list ?z_max ?z_min ?z_range ?z_repr ?z_str ?z_tuple
    (case g_Visit => k_is)
    (case pg_Visit => k_is)
    (case hd_Visit => k_is)
    (case po_Visit => k_is)
    (case sa_Visit => k_is)
    (case mk_Visit => k_is)
    (case kc_Visit => k_is)
    (case ic_Visit => k_is)
    (case it_Visit => k_is)
    (case ig_Visit => k_is)
    (case io_Visit => k_is)
    (case ie_Visit => k_is)
    (case i_gn => k_is)
    (case i_tk => k_is)
    (case n_Visit_time => k_is)
    (case n_Visit_shift => k_is)
    (case n_Visit_begin => k_is)
    (case n_Visit_end => k_is)
    (case a_is_integer => k_is)
    (case l_is_integer => k_is)
    (case c_is_integer => k_is)
    (case k_is_integer => k_is)
    (case a_is_count => k_is)
    (case l_is_count => k_is)
    (case c_is_count => k_is)
    (case k_is_count => k_is)
    (case a_is_count_to => k_is)
    (case l_is_count_to => k_is)
    (case c_is_count_to => k_is)
    (case k_is_count_to => k_is)
    (case a_is_window => k_is)
    (case l_is_window => k_is)
    (case c_is_window => k_is)
    (case k_is_window => k_is)
    (case a_require_window => k_is)
    (case l_require_window => k_is)
    (case c_require_window => k_is)
    (case k_require_window => k_is)
    (case a_urgent_stretch => k_is)
    (case l_urgent_stretch => k_is)
    (case c_urgent_stretch => k_is)
    (case k_urgent_stretch => k_is)
    (case a_stretch_from => k_is)
    (case l_stretch_from => k_is)
    (case c_stretch_from => k_is)
    (case k_stretch_from => k_is)
    (case a_Visit_init => k_is)
    (case i_Visit_init => k_is)
    (case l_Visit_init => k_is)
    (case c_Visit_init => k_is)
    (case k_Visit_init => k_is)
    (case d_Visit_init_shift => k_is)
    (case d_Visit_init_begin => k_is)
    (case d_Visit_init_end => k_is)
    (case a_Visit_eq => k_is)
    (case i_Visit_eq => k_is)
    (case l_Visit_eq => k_is)
    (case c_Visit_eq => k_is)
    (case k_Visit_eq => k_is)
    (case a_Visit_repr => k_is)
    (case i_Visit_repr => k_is)
    (case l_Visit_repr => k_is)
    (case c_Visit_repr => k_is)
    (case k_Visit_repr => k_is)
    (case a_Visit_time => k_is)
    (case pg_Visit_time => k_is)
    (case pt_Visit_time => k_is)
    (case pr_Visit_time => k_is)
    (case l_Visit_time => k_is)
    (case c_Visit_time => k_is)
    (case k_Visit_time => k_is)
    (case a_Visit_shift => k_is)
    (case pg_Visit_shift => k_is)
    (case pt_Visit_shift => k_is)
    (case pr_Visit_shift => k_is)
    (case l_Visit_shift => k_is)
    (case c_Visit_shift => k_is)
    (case k_Visit_shift => k_is)
    (case a_Visit_begin => k_is)
    (case pg_Visit_begin => k_is)
    (case pt_Visit_begin => k_is)
    (case pr_Visit_begin => k_is)
    (case l_Visit_begin => k_is)
    (case c_Visit_begin => k_is)
    (case k_Visit_begin => k_is)
    (case a_Visit_end => k_is)
    (case pg_Visit_end => k_is)
    (case pt_Visit_end => k_is)
    (case pr_Visit_end => k_is)
    (case l_Visit_end => k_is)
    (case c_Visit_end => k_is)
    (case k_Visit_end => k_is)
    (case a_stretch => k_is)
    (case l_stretch => k_is)
    (case c_stretch => k_is)
    (case k_stretch => k_is)
    (case a_find_visit_problem => k_is)
    (case l_find_visit_problem => k_is)
    (case c_find_visit_problem => k_is)
    (case k_find_visit_problem => k_is)
    (case a_l_rng => k_is)
    (case l_l_rng => k_is)
    (case c_l_rng => k_is)
    (case k_l_rng => k_is)
    (case a_l_draw => k_is)
    (case l_l_draw => k_is)
    (case c_l_draw => k_is)
    (case k_l_draw => k_is)
    (case a_l_choice => k_is)
    (case l_l_choice => k_is)
    (case c_l_choice => k_is)
    (case k_l_choice => k_is)
    (case a_l_parts => k_is)
    (case l_l_parts => k_is)
    (case c_l_parts => k_is)
    (case k_l_parts => k_is)
    (case a_l_made => k_is)
    (case l_l_made => k_is)
    (case c_l_made => k_is)
    (case k_l_made => k_is)
    (case a_l_due => k_is)
    (case l_l_due => k_is)
    (case c_l_due => k_is)
    (case k_l_due => k_is)
    (case a_l_told_right => k_is)
    (case l_l_told_right => k_is)
    (case c_l_told_right => k_is)
    (case k_l_told_right => k_is)
    (case a_l_equal_right => k_is)
    (case l_l_equal_right => k_is)
    (case c_l_equal_right => k_is)
    (case k_l_equal_right => k_is)
    (case a_l_right => k_is)
    (case l_l_right => k_is)
    (case c_l_right => k_is)
    (case k_l_right => k_is)
    (case a_law => k_is)
    (case l_law => k_is)
    (case c_law => k_is)
    (case k_law => k_is)
    (case v_MAX_TICK => k_is)
    (case v_MAX_TIME => k_is)
    (case z_abs => k_is)
    (case z_all => k_is)
    (case z_bool => k_is)
    (case z_divmod => k_is)
    (case z_int => k_is)
    (case z_isinstance => k_is)
    (case z_len => k_is)
    (case z_list => k_is)
    (case z_max => k_is)
    (case z_min => k_is)
    (case z_range => k_is)
    (case z_repr => k_is)
    (case z_str => k_is)
    (case z_tuple => k_is)


