import PyProof.Rows.All
import Wide.All
import OpenK.AllK
import Wide.FinOn
import PyProof.ReprRoads
import HandS.Base
import HandS.Call
import HandS.List
import HandS.Comp
import HandS.Ends
import HandS.Words
import HandS.WordsList
import HandS.Defaults
import PyProof.ReprLen
import HandS.Iter
import HandS.Walk
import KE.GoesEnumKw
import KE.GoesRev
import HandS.MakeKwOnly
import HandS.Property
import PyProof.InstNe
import PyProof.FString2
import PyProof.FString5
import HandS.IsInst
import HandS.FStr
import KE.KExcInit
import KE.KExcIs
import HandS.Exc
import HandS.ExcInit
import HandS.ExcField
import HandS.ExcIs
import HandS.WordsExc
import HandS.Gcd
import HandS.Dict
import HandS.ExcOwn
import KE.GoesMore
import KE.KCallOwn
import HandS.Text
import HandS.Star
import HandS.ClsMeth
import PyProof.EnumMake
import PyProof.ReprNest
import KE.KIntText
import PyProof.TwoTypes
import PyProof.NeKinds
import PyProof.FactsAll.bool
import PyProof.FactsAll.int
import PyProof.FactsAll.subtypes_1
import HandS.ForMost
import HandS.Conv
import HandS.Style
import HandS.Deep
import HandS.TupLe
import HandS.NoneIn
import HandS.TryOnly
import HandS.More
import HandS.Flow
import HandS.DeepEq
import PySem.Challenge.RW_dueways_k12_invalid_curves_in_sequence
set_option Elab.async false
set_option linter.all false
set_option maxRecDepth 100000
set_option maxHeartbeats 4000000
/-! A def's promise where no repr runs around it (guards are known to be empty), so that repr of data may be asked inside. -/
namespace VG
open PySem PySem.Spec PyProof.Rows L2

/-- repr of data -/
def rRepr (K : PySem.W.Frag) : List V → Hp → VK → Prop := fun xs H Q =>
  ∃ v d, xs = [v] ∧ Dp K H v d ∧ d.showable = true ∧ d.depth ≤ 60 ∧ d.shown.length ≤ sizeLine ∧ Q (.str d.shown) H

theorem dp_noDict (K : PySem.W.Frag) (H : Hp) : (∀ d v, Dp K H v d → d.hasDict = false) ∧ (∀ ds vs, DpAll K H vs ds → PyData.hasDictAll ds = false) := by
  have one : ∀ n, (∀ d v, sizeOf d < n → Dp K H v d → d.hasDict = false) ∧
      (∀ ds vs, sizeOf ds < n → DpAll K H vs ds → PyData.hasDictAll ds = false) := by
    intro n
    induction n with
    | zero => exact ⟨fun _ _ h => absurd h (Nat.not_lt_zero _), fun _ _ h => absurd h (Nat.not_lt_zero _)⟩
    | succ n ih =>
      refine ⟨fun d v hz h => ?_, fun ds vs hz h => ?_⟩
      · cases h with
        | non => rfl
        | bl => rfl
        | int => rfl
        | str => rfl
        | lst _ ha =>
          simp only [PyData.hasDict]
          exact ih.2 _ _ (by simp at hz; omega) ha
        | tup _ ha =>
          simp only [PyData.hasDict]
          exact ih.2 _ _ (by simp at hz; omega) ha
      · cases h with
        | nil => rfl
        | cons h1 h2 =>
          simp only [PyData.hasDictAll]
          rw [ih.1 _ _ (by simp at hz; omega) h1, ih.2 _ _ (by simp at hz; omega) h2]
          rfl
  exact ⟨fun d v => (one (sizeOf d + 1)).1 d v (Nat.lt_succ_self _), fun ds vs => (one (sizeOf ds + 1)).2 ds vs (Nat.lt_succ_self _)⟩

theorem call_repr {X : Cx} (hg : X.A.guards = some []) (hu : X.A.units + 64 < cLine) : CallR X (.builtin "repr") (rRepr X.K) := by
  intro pins s σ H xs us Q I r h
  obtain ⟨v, d, rfl, hd, hs, hdep, hz, q⟩ := h
  obtain ⟨u, rfl, rv⟩ := vals1 r
  have keep : ∀ (h' : Heap) (t' : Nat), (∀ b o, s.heap.get? b = some o → h'.get? b = some o) → Inv X pins σ H { s with heap := h', toks := t' } :=
    fun h' t' k => I.kept (t' := t') k
  have nd := (dp_noDict X.K H).1 d v hd
  obtain ⟨as, rd⟩ := Dp.reads I d v u hd rv
  cases hd with
  | non =>
    cases rv
    exact PySem.P.repr_of_none ⟨.str _, H, I.tok _, ⟨_, rfl⟩, q⟩
  | bl b =>
    cases rv
    refine PySem.P.repr_of_bool ⟨.str _, H, I.tok _, ⟨_, rfl⟩, ?_⟩
    exact q
  | int i =>
    obtain ⟨t, rfl⟩ := rv
    exact PySem.P.repr_of_int (by simpa [PyData.showable] using hs) ⟨.str _, H, I.tok _, ⟨_, rfl⟩, q⟩
  | str x =>
    obtain ⟨t, rfl⟩ := rv
    exact PySem.P.repr_of_str ⟨.str _, H, I.tok _, ⟨_, rfl⟩, q⟩ hz
  | lst _ _ =>
    cases rv
    exact repr_of_reads' rd hs (fun e => by rw [nd] at e; cases e) hg (by omega) (fun _ _ e => e) (fun h' w tk k => ⟨.str _, H, keep h' tk k, ⟨_, rfl⟩, q⟩) hz
  | tup _ _ =>
    cases rv
    exact repr_of_reads' rd hs (fun e => by rw [nd] at e; cases e) hg (by omega) (fun _ _ e => e) (fun h' w tk k => ⟨.str _, H, keep h' tk k, ⟨_, rfl⟩, q⟩) hz

def rLen (K : PySem.W.Frag) : List V → Hp → VK → Prop := fun xs H Q =>
  ∃ p ys, xs = [.ref p] ∧ (SqL K H p ys ∨ SqT K H p ys) ∧ Q (.int ys.length) H
theorem call_len {X : Cx} : CallR X (.builtin "len") (rLen X.K) := call_len_seq
def rListOf (K : PySem.W.Frag) : List V → Hp → VK → Prop := fun xs H Q =>
  ∃ p ys, xs = [.ref p] ∧ (SqL K H p ys ∨ SqT K H p ys) ∧ ∀ l, H l = none → Q (.ref l) (upd H l (.lst ys))
theorem call_listOf {X : Cx} : CallR X (.type "list") (rListOf X.K) := call_list_of

/-- a def's promise, asked only where guards are empty -/
structure FnG (P : Program) (w : World) (K : PySem.W.Frag) (mg : Str → Option Value) (base : Heap) (CX : CXT)
    (k : Nat) (f : Addr) (fd : FuncData) (ps : List Str) (sp : Sp) : Prop where
  arity : ∀ as H Q E, sp as H Q E → as.length = ps.length
  go : ∀ (A : Around) (outer : List Env) (s : Shared) (H : Hp) (args : Args) (us : List Value) (as : List V) (Q : VK) (E : XK),
    A.guards = some [] → Room k A → Env0 P w K mg base A outer s H → BindsTo s fd args (ps.zip us) → Vals as us → sp as H Q E →
      codeAny (model P w) A (.call (.ref f) args) (CR CX outer P w H s Q E) s

section
variable {P : Program} {w : World} {K : PySem.W.Frag} {mg : Str → Option Value} {base : Heap} {CX : CXT}
theorem FnG.of {k : Nat} {f : Addr} {fd : FuncData} {ps : List Str} {sp : Sp} (F : FnOk P w K mg base CX k f fd ps sp) :
    FnG P w K mg base CX k f fd ps sp :=
  ⟨F.len, fun A outer s H args us as Q E _ => F.run A outer s H args us as Q E⟩

/-- a def by its body -/
theorem okG {x qual : Str} {st : Stmt} {f : Addr} {fd : FuncData} {N ps : List Str} {k : Nat} {sp : Sp}
    (F : Fun K x qual st f fd) (S : FnScope N ps (defScope st)) (len : ∀ as H Q E, sp as H Q E → as.length = ps.length)
    (body : ∀ (cdv : Value) (A : Around) (outer : List Env) (s : Shared) (H : Hp) (as : List V) (Q : VK) (E : XK),
      (A.deeper (envOfC qual (defScope st) s.heap.objs.size f cdv)).guards = some [] →
      Room k (A.deeper (envOfC qual (defScope st) s.heap.objs.size f cdv)) → sp as H Q E →
      ∃ t, PSs (cxOf CX P w K mg base N qual (defScope st) f cdv A outer s H E) (defBody st) t ∧
        t { nx := fun _ H' => Q .non H', rt := Q } (start N as) H) :
    FnG P w K mg base CX (k + 1) f fd ps sp := by
  obtain ⟨oc, od, kV, doc, pm, an, cdv, ct, osl, rfl, lk, hcd⟩ := F.ex
  refine ⟨len, fun A outer s H args us as Q E hA hr e0 hb r hsp => ?_⟩
  have hl := len _ _ _ _ hsp
  have KX : K.In s.heap := e0.mod.kin.keeps fun b o e => (e0.bs b o e).1
  have lim : s.heap.NoLimit := e0.mod.nolimit.keeps fun b o e => (e0.bs b o e).1
  have kinds : ∀ y ∈ ps.zip us, (defScope st).names.lookup y.1 = some .local ∨
      ((defScope st).names.lookup y.1 = some .cell ∧ ((cellsFrom (s.heap.objs.size + 1) (defScope st).names []).lookup y.1).isSome = true) := by
    rintro ⟨n, v⟩ hy
    rcases S.par n (List.of_mem_zip hy).1 with q | q
    · exact .inl q
    · exact .inr ⟨q, PySem.W.cellsFrom_some _ _ _ (.inl q)⟩
  refine codeAny_call_function hr.depth (KX _ _ lk) rfl S.co S.gen rfl (PySem.W.codeRec_of KX hcd) (hb _ _ _ _ ?_)
  refine wpAny_newFunctionEnv_cells S.kind kinds fun env he s1 z => ?_
  subst he
  refine ⟨lim.keeps z.toInCall.keep, codeAny_func ?_⟩
  obtain ⟨t, ht, hq⟩ := body cdv A outer s H as Q E hA (hr.deeper _) hsp
  have I0 : Inv (cxOf CX P w K mg base N qual (defScope st) f cdv A outer s H E) [] (start N as) H s1 :=
    inv_start S hr.hd e0 hl r z
  refine wpAny_mono (ht.run [] s1 (start N as) H _ I0 hq) ?_ fun e s' hs => hs
  intro fl s' hs
  have done : ∀ (σ' : L2.St) (H' : Hp) (v : V) (u : Value), Inv (cxOf CX P w K mg base N qual (defScope st) f cdv A outer s H E) [] σ' H' s' →
      RelV v u → Q v H' → CE outer P w H s Q u s' := fun σ' H' v u J rv q => ⟨v, H', J.os, J.bare, J.base, J.hok, rv, q⟩
  cases fl with
  | ret u =>
    obtain ⟨v, σ', H', J, rv, q⟩ := hs
    exact done σ' H' v u J rv q
  | next =>
    obtain ⟨σ', H', J, q⟩ := hs
    exact done σ' H' V.non Value.none J rfl q
  | brk => exact hs.elim fun _ h => h.elim fun _ h => False.elim h.2
  | cont => exact hs.elim fun _ h => h.elim fun _ h => False.elim h.2
end

section
variable {P : Program} {w : World} {K : PySem.W.Frag} {mg : Str → Option Value} {base : Heap}
/-- .. that lets nothing out -/
theorem okG0 {x qual : Str} {st : Stmt} {f : Addr} {fd : FuncData} {N ps : List Str} {k : Nat} {sp : Sp}
    (F : Fun K x qual st f fd) (S : FnScope N ps (defScope st)) (len : ∀ as H Q E, sp as H Q E → as.length = ps.length)
    (body : ∀ (cdv : Value) (A : Around) (outer : List Env) (s : Shared) (H : Hp) (as : List V) (Q : VK) (E : XK),
      (A.deeper (envOfC qual (defScope st) s.heap.objs.size f cdv)).guards = some [] →
      Room k (A.deeper (envOfC qual (defScope st) s.heap.objs.size f cdv)) → sp as H Q E →
      ∃ t, PSs (cxOf CX0 P w K mg base N qual (defScope st) f cdv A outer s H E).nox (defBody st) t ∧
        t { nx := fun _ H' => Q .non H', rt := Q } (start N as) H) :
    FnG P w K mg base CX0 (k + 1) f fd ps sp :=
  okG F S len fun cdv A outer s H as Q E hA hr h =>
    let ⟨t, h1, h2⟩ := body cdv A outer s H as Q E hA hr h
    ⟨t, h1.nox, h2⟩
end

section
variable {X : Cx} {CX : CXT} {k : Nat} {f : Addr} {fd : FuncData} {ps : List Str} {sp : Sp} {E : XK} {x : Str} {p pos : Pos} {e : Expr} {es : List Expr} {t : TA}
theorem runG {pins : List (Addr × Obj)} {σ : L2.St} {H : Hp} {s : Shared} {Q : VK} {us : List Value} {as : List V}
    (F : FnG X.prog X.w X.K X.mg X.base CX k f fd ps sp) (hA : X.A.guards = some []) (hr : Room k X.A) (hb : Binds X.K fd ps [])
    (hx : Passes CX X E) (I : Inv X pins σ H s) (r : Vals as us) (h : sp as H Q E) :
    wpAny (model X.prog X.w) X.A (call (.ref f) us) (EP X pins σ Q) X.xe s := by
  have hn : us.length = ps.length := r.length.symm.trans (F.arity _ _ _ _ h)
  have bind := hb s us I.kIn (by rw [List.append_nil]; exact hn)
  rw [List.append_nil] at bind
  refine wpAny_call (codeAny_mono (F.go X.A X.stack s H ⟨us, []⟩ us as Q E hA hr I.env0 bind r h) ?_)
  intro res s' hq
  match res, hq with
  | .error e, hq => exact hx pins σ H s e s' I hq
  | .ok (.ret u), hq => exact I.after hq
  | .ok .next, hq => exact False.elim hq
  | .ok .brk, hq => exact False.elim hq
  | .ok .cont, hq => exact False.elim hq
/-- f(e, ..) -/
theorem pe_callG (F : FnG X.prog X.w X.K X.mg X.base CX k f fd ps sp) (hA : X.A.guards = some []) (hr : Room k X.A) (hg : Gl X x)
    (hm : X.mg x = some (.ref f)) (hk : PySem.W.keepIn X.K (.ref f) = true) (hb : Binds X.K fd ps []) (hx : Passes CX X E) (ha : PA X (e :: es) t)
    (hdb : (x == ("__debug__" : Str)) = false := by decide) (he : starEach (e :: es) X.env = (false, eval e X.env) :: starEach es X.env := by rfl)
    (hpl : (backTo pos (starEach es X.env)).any (·.1) = false := by rfl) :
    PE X (.Call (.Name x p) (e :: es) [] pos) (tCall sp [] E t) := by
  constructor
  intro pins s σ H Q I h
  refine wpAny_Call_Name_kw (ld_glob I hg hm ?_ hdb)
  have args := ha.run pos pins s σ H _ I h
  refine PySem.W.callWith_K (h₀ := X.base) I.ok.mod.kin hk (thn args ?_) he hpl
  rintro us s1 ⟨as, H1, I1, r, q⟩
  rw [List.append_nil] at q
  exact ⟨I1.kIn, runG F hA hr hb hx I1 r q⟩
theorem pe_callG0 (F : FnG X.prog X.w X.K X.mg X.base CX k f fd ps sp) (hA : X.A.guards = some []) (hr : Room k X.A) (hg : Gl X x)
    (hm : X.mg x = some (.ref f)) (hk : PySem.W.keepIn X.K (.ref f) = true) (hb : Binds X.K fd ps []) (hx : Passes CX X E)
    (hdb : (x == ("__debug__" : Str)) = false := by decide) : PE X (.Call (.Name x p) [] [] pos) (tCall sp [] E tNil) := by
  constructor
  intro pins s σ H Q I h
  refine wpAny_Call_Name_kw (ld_glob I hg hm ?_ hdb)
  exact PySem.W.callWith_K0 I.kIn hk (runG (us := []) (as := []) F hA hr hb hx I .nil h)
end

/-- a statement, then the rest, joined by a word: the rest is read once -/
def tJoin (t u : TS) : TS := fun D σ H => ∃ M : L2.St → Hp → Prop, t { D with nx := M } σ H ∧ ∀ σ' H', M σ' H' → u D σ' H'
theorem pss_join {X : Cx} {st : Stmt} {more : List Stmt} {t u : TS} (h1 : PS X st t) (h2 : PSs X more u) : PSs X (st :: more) (tJoin t u) := by
  constructor
  intro pins s σ H D I h
  obtain ⟨M, hm, hu⟩ := h
  refine wpAny_execs_cons (thn (h1.run pins s σ H _ I hm) ?_)
  intro fl s1 q
  match fl, q with
  | .next, ⟨σ', H', I', q⟩ => exact h2.run pins s1 σ' H' D I' (hu σ' H' q)
  | .ret v, q => exact q
  | .brk, q => exact q
  | .cont, q => exact q
/-- f(k = v, ..), keywords alone -/
def tKw (m : Nat) (sp : Sp) (gV : List V → List V → List V) (E : XK) (tk : TA) : TE := fun σ H Q => tk σ H fun zs H2 => zs.length = m ∧ sp (gV [] zs) H2 Q E
theorem pe_callK0 {X : Cx} {CX : CXT} {k : Nat} {f : Addr} {fd : FuncData} {ps ks : List Str} {sp : Sp} {E : XK} {x : Str} {p pos : Pos} {kws : List Keyword} {tk : TA}
    {g : List Value → List Value → List Value} {gV : List V → List V → List V}
    (F : FnOk X.prog X.w X.K X.mg X.base CX k f fd ps sp) (hr : Room k X.A) (hg : Gl X x) (hm : X.mg x = some (.ref f)) (hk : PySem.W.keepIn X.K (.ref f) = true)
    (hb : KBn X.K fd ps 0 ks g gV) (hx : Passes CX X E) (hkw : PK X kws tk) (hall : (backToKw pos (keywordEach kws X.env)).all (·.1.isSome) = true := by rfl)
    (hks : (backToKw pos (keywordEach kws X.env)).filterMap (·.1) = ks := by rfl) (hdb : (x == ("__debug__" : Str)) = false := by decide)
    (hpl : ((backTo pos (starEach [] X.env)).any (·.1) || (backToKw pos (keywordEach kws X.env)).any (·.1.isNone)) = false := by rfl) :
    PE X (.Call (.Name x p) [] kws pos) (tKw ks.length sp gV E tk) := by
  constructor
  intro pins s σ H Q I h
  refine wpAny_Call_Name_kw (ld_glob I hg hm ?_ hdb)
  refine PySem.W.callWith_KW0 (h₀ := X.base) I.ok.mod.kin hk hall ?_ hpl
  refine thn (hkw.run pos pins s σ H _ I h) ?_
  rintro ws s2 ⟨zs, H2, I2, rz, len, q⟩
  refine ⟨I2.kIn, ?_⟩
  rw [hks]
  have rel := hb.rel (vs := []) (us := []) .nil rz
  have bind := hb.to s2 [] ws I2.kIn rfl (rz.length.symm.trans len)
  refine wpAny_call (codeAny_mono (F.run X.A X.stack s2 H2 ⟨[], ks.zip ws⟩ _ _ Q E hr I2.env0 bind rel q) ?_)
  intro res s' hq
  match res, hq with
  | .error e, hq => exact hx pins σ H2 s2 e s' I2 hq
  | .ok (.ret u), hq => exact I2.after hq
  | .ok .next, hq => exact False.elim hq
  | .ok .brk, hq => exact False.elim hq
  | .ok .cont, hq => exact False.elim hq
/-- how keywords bind for a def without defaults -/
theorem kb_of {K : PySem.W.Frag} {x qual : Str} {st : Stmt} {f : Addr} {fd : FuncData} {ps ks : List Str} {n : Nat} (F : Fun K x qual st f fd)
    (g : {α : Type} → List α → List α → List α) (rel : ∀ {vs zs : List V} {us ws : List Value}, Vals vs us → Vals zs ws → Vals (g vs zs) (g us ws))
    (h : ∀ (kV doc pm : Value) (an : Option Addr) (cdv ct : Value) (us ws : List Value), us.length = n → ws.length = ks.length →
      bindArgs (PySem.W.fnOf x qual (defArgs st) (defBody st) (defScope st) .none kV doc pm an cdv ct) ⟨us, ks.zip ws⟩ = pure (ps.zip (g us ws))) :
    KBn K fd ps n ks (fun us ws => g us ws) (fun vs zs => g vs zs) := by
  obtain ⟨oc, od, kV, doc, pm, an, cdv, ct, osl, rfl, lk, hcd⟩ := F.ex
  exact ⟨fun s us ws _ h1 h2 => .of_eq (h kV doc pm an cdv ct us ws h1 h2), fun a b => rel a b⟩

/-- a law's call: the script is all that may be tracked -/
theorem lawG {P : Program} {w : World} {K : PySem.W.Frag} {mg mb : Str → Option Value} {CX : CXT} {k : Nat} {fa a : Addr} {fd : FuncData} {x : Str}
    {sp : Sp} {s1 : Shared} {vs : List Value} {ns : List Int} (KX : K.In s1.heap) (hns : s1.heap.Ns mainGlobals mg) (hb : s1.heap.Ns builtinsNs mb)
    (hbb : ∀ y : Str, y ≠ "__name__" → mb y = bootBuiltins y) (hlim : s1.heap.NoLimit) (hg : s1.gens = #[])
    (ha : s1.heap.get? a = some { cls := .type "list", data := .seq vs.toArray }) (hi : IntsAre vs ns) (hl : ns.length ≤ sizeLine) (hr : Room k callerA)
    (F : ∀ base : Heap, K.In base → base.Ns mainGlobals mg → FnG P w K mg base CX k fa fd [x] sp)
    (hbind : ∀ (s : Shared) (u : Value), BindsTo s fd ⟨[u], []⟩ [(x, u)])
    (hsp : ∀ H : Hp, Only H → SqL K H a (ns.map V.int) → sp [.ref a] H (fun v _ => v = .bl true) fun _ _ _ => False)
    (hCX : ∀ H e s', CX [] H s1 (fun _ _ _ => False) e s' → False) :
    codeAny (model P w) callerA (.call (.ref fa) ⟨[.ref a], []⟩)
      (fun r s' => r = .ok (.ret (.bool true)) ∧ OldK s1.heap s'.heap ∧ s'.os = s1.os ∧ AllBare s'.gens) s1 := by
  have inner : ∀ H : Hp, Only H → SqL K H a (ns.map V.int) → HOk P w H s1.heap → (∀ b, H b ≠ none → b = a) → (H a ≠ none → K.lookup a = none) →
      codeAny (model P w) callerA (.call (.ref fa) ⟨[.ref a], []⟩)
        (fun r s' => r = .ok (.ret (.bool true)) ∧ OldK s1.heap s'.heap ∧ s'.os = s1.os ∧ AllBare s'.gens) s1 := by
    intro H hO hS hok only noK
    have nodict : ∀ {b : Addr} {o : Obj} {es : Array DictEntry} {ep : Nat}, s1.heap.get? b = some o → o.data = .dict es ep → H b = none := by
      intro b o es ep e d
      by_cases q : H b = none
      · exact q
      · have eb := only b q
        subst eb
        rw [ha] at e
        cases e
        cases d
    have names : ∀ {b : Addr} {m : Str → Option Value}, s1.heap.Ns b m → (hidT s1.heap H).Ns b m := by
      rintro b m ⟨o, es, ep, e, d, r⟩
      exact ⟨o, es, ep, hidT_get e (nodict e d), d, r⟩
    have kin : K.In (hidT s1.heap H) := by
      intro b o e
      refine hidT_get (KX b o e) ?_
      by_cases q : H b = none
      · exact q
      · have eb := only b q
        subst eb
        rw [noK q] at e
        cases e
    have modul : Mod K mg (hidT s1.heap H) := by
      obtain ⟨mc, l1, l2⟩ := hlim
      exact ⟨kin, names hns, ⟨mb, names hb, hbb⟩, ⟨mc, names l1, l2⟩⟩
    have nil : ∀ b : Addr, ¬ b ∈ ([] : List Addr) := fun b z => by cases z
    have env : Env0 P w K mg (hidT s1.heap H) callerA [] s1 H :=
      ⟨rfl, modul, fun b o e => of_hidT e, Nat.le_of_eq (hidT_size _ _), trivial, fun b z => absurd z (nil b), hok, .of_eq hg⟩
    have ran := (F _ kin (names hns)).go callerA [] s1 H ⟨[.ref a], []⟩ [.ref a] [.ref a] _ _ rfl hr env (hbind s1 (.ref a)) (.cons rfl .nil) (hsp H hO hS)
    refine codeAny_mono ran ?_
    intro res s' h
    match res, h with
    | .error e, h => exact (hCX H e s' h).elim
    | .ok .next, h => exact False.elim h
    | .ok .brk, h => exact False.elim h
    | .ok .cont, h => exact False.elim h
    | .ok (.ret u), h =>
      obtain ⟨v, H', os, bare, un, hok', rv, rfl⟩ := h
      obtain rfl : u = Value.bool true := rv
      refine ⟨rfl, OldK.of_keep fun b o e => ?_, os, bare⟩
      rcases hO b with z | ⟨ob, xs, z⟩
      · exact un.keep b o e z (nil b) (nil b)
      · obtain ⟨e1, _⟩ := hok b _ z
        obtain ⟨e2, _⟩ := hok' b _ (un.frzs b ob _ z)
        rw [e] at e1
        cases e1
        exact e2
  have rv := vals_ints hi
  have len := hi.length
  cases hk : K.lookup a with
  | some o =>
    have e := KX a o hk
    rw [ha] at e
    cases e
    have seen : SqL K (fun _ => none) a (ns.map V.int) :=
      .inr ⟨_, vs.toArray, _, hk, rfl, rfl, rfl, by rw [List.size_toArray, len]; exact hl, by simpa using rv⟩
    exact inner (fun _ => none) (fun _ => .inl rfl) seen (fun b u z => by cases z) (fun b z => absurd rfl z) fun z => absurd rfl z
  | none =>
    have at_a : (if a = a then some (HO.frz { cls := .type "list", data := .seq vs.toArray } (.lst (ns.map V.int))) else none) = some (HO.frz { cls := .type "list", data := .seq vs.toArray } (.lst (ns.map V.int))) := if_pos rfl
    refine inner (fun b => if b = a then some (.frz { cls := .type "list", data := .seq vs.toArray } (.lst (ns.map V.int))) else none) ?_ (.inl (.inr ⟨_, at_a⟩)) ?_ ?_ fun _ => hk
    · intro b
      by_cases hb : b = a
      · exact .inr ⟨_, _, if_pos hb⟩
      · exact .inl (if_neg hb)
    · intro b u z
      have z' : (if b = a then some (HO.frz { cls := .type "list", data := .seq vs.toArray } (.lst (ns.map V.int))) else none) = some u := z
      by_cases hb : b = a
      · rw [if_pos hb] at z'
        cases z'
        subst hb
        exact ⟨ha, by rw [List.length_map]; exact hl, vs, _, rv, ha⟩
      · rw [if_neg hb] at z'
        cases z'
    · intro b z
      by_cases hb : b = a
      · exact hb
      · exact absurd (if_neg hb) z

theorem walkG {l : PySem.W.OpenLaw} {n k : Nat} {q : Program} {loose : List Str} {XP : (Str → Option Value) → Heap → Prop} {YP : World → Heap → Prop}
    {d : DefRec} {K : Params → PySem.W.Frag} {CX : World → CXT} {sp : World → Sp} {x : Str}
    (hn : l.most = some n) (hn2 : n ≤ sizeLine) (hdf : d.params.defaults = []) (hr : Room k callerA) (hY : ∀ (w : World) (h : Heap), YP w h → (K w.params).In h)
    (F : ∀ (w : World) (mg : Str → Option Value) (fa : Addr) (h : Heap), (K w.params).In h → h.Ns mainGlobals mg → mg d.name = some (.ref fa) →
      ∃ fd : FuncData, (∀ (s : Shared) (u : Value), BindsTo s fd ⟨[u], []⟩ [(x, u)]) ∧ ∀ base : Heap, (K w.params).In base → base.Ns mainGlobals mg →
        FnG l.prog w (K w.params) mg base (CX w) k fa fd [x] (sp w))
    (hsp : ∀ (w : World) (H : Hp) (a : Addr) (ns : List Int), ns.length ≤ n → Only H → SqL (K w.params) H a (ns.map V.int) →
      sp w [.ref a] H (fun v _ => v = .bl true) fun _ _ _ => False)
    (hCX : ∀ (w : World) (H : Hp) (s : Shared) (e : Value) (s' : Shared), CX w [] H s (fun _ _ _ => False) e s' → False) :
    PySem.W.WalkO q loose XP YP l.row.toRowW d [] (fun f vs => PySem.call f vs) := by
  refine Att.attach_call hn hdf ?_
  intro w s0 s1 mg mb fa o pm cd doc a vs ns G Y ho hd hcd hmg hobj hints hlen hg
  obtain ⟨fd, hb, hF⟩ := F w mg fa _ (hY w _ Y) G.T.g hmg
  exact lawG (hY w _ Y) G.T.g G.T.b G.T.builtins G.T.nolimit hg hobj hints (Nat.le_trans hlen hn2) hr hF hb
    (fun H hO hS => hsp w H a ns hlen hO hS) fun H e s' => hCX w H s1 e s'
end VG

/-! Curves as they are written: values, a period, a gain; plain Lean. -/
namespace VM
/-- the value at t of the curve written so -/
def cvAt (vs : List Int) (p g t : Int) : Int :=
  if t = 0 then 0 else if t ≤ (vs.length : Int) then vs.getD (t - 1).toNat 0 else
    vs.getD (t - (t - vs.length + p - 1) / p * p - 1).toNat 0 + (t - vs.length + p - 1) / p * g

theorem cvAt_zero {vs : List Int} {p g : Int} : cvAt vs p g 0 = 0 := by simp [cvAt]
theorem cvAt_in {vs : List Int} {p g t : Int} (h : 0 < t) (h1 : t ≤ vs.length) : cvAt vs p g t = vs.getD (t - 1).toNat 0 := by
  unfold cvAt
  rw [if_neg (by omega), if_pos h1]

/-- the rounds: between them t lies in the last period -/
theorem rounds_spec {n p t : Int} (hp : 0 < p) (ht : n < t) :
    0 < (t - n + p - 1) / p ∧ n - p < t - (t - n + p - 1) / p * p ∧ t - (t - n + p - 1) / p * p ≤ n := by
  have e := Int.emod_add_mul_ediv (t - n + p - 1) p
  have l := Int.emod_nonneg (t - n + p - 1) (show p ≠ 0 by omega)
  have u := Int.emod_lt_of_pos (t - n + p - 1) hp
  have c : (t - n + p - 1) / p * p = p * ((t - n + p - 1) / p) := Int.mul_comm _ _
  have q1 : 1 ≤ (t - n + p - 1) / p := by
    have := (Int.le_ediv_iff_mul_le (c := p) hp (a := 1) (b := t - n + p - 1)).mpr (by omega)
    exact this
  exact ⟨by omega, by omega, by omega⟩
theorem rounds_step {n p t : Int} (hp : 0 < p) : (t - p - n + p - 1) / p = (t - n + p - 1) / p - 1 := by
  have : t - p - n + p - 1 = (t - n + p - 1) + (-1) * p := by omega
  rw [this, Int.add_mul_ediv_right _ _ (by omega)]
  omega
/-- behind the values: one period back, and the gain -/
theorem cvAt_back {vs : List Int} {p g t : Int} (hp : 0 < p) (hpn : p ≤ vs.length) (ht : (vs.length : Int) < t) : cvAt vs p g t = cvAt vs p g (t - p) + g := by
  obtain ⟨r1, r2, r3⟩ := rounds_spec hp ht
  have st := rounds_step (n := (vs.length : Int)) (p := p) (t := t) hp
  unfold cvAt
  rw [if_neg (by omega), if_neg (by omega), if_neg (show ¬ t - p = 0 by omega)]
  by_cases h : t - p ≤ (vs.length : Int)
  · rw [if_pos h]
    have r : (t - vs.length + p - 1) / p = 1 := by
      have a : (t - vs.length + p - 1) / p < 2 := Int.ediv_lt_of_lt_mul hp (by omega)
      omega
    rw [r, Int.one_mul, Int.one_mul]
  · rw [if_neg h, st]
    have e : t - p - ((t - vs.length + p - 1) / p - 1) * p - 1 = t - (t - vs.length + p - 1) / p * p - 1 := by
      rw [Int.sub_mul, Int.one_mul]; omega
    rw [e, Int.sub_mul, Int.one_mul]
    omega

/-- a function that repeats behind n: with period p and gain g -/
def Rep (f : Int → Int) (n p g : Int) : Prop := ∀ t, n < t → f t = f (t - p) + g
theorem Rep.cvAt {vs : List Int} {p g : Int} (hp : 0 < p) (hpn : p ≤ vs.length) : Rep (cvAt vs p g) vs.length p g := fun _ ht => cvAt_back hp hpn ht

/-- the steps over d, in one period behind n, are all the first one -/
def stepsEq (f : Int → Int) (n p d : Int) : Bool := (List.range p.toNat).all fun (i : Nat) => decide (f (n + 1 + i) - f (n + 1 + i - d) = f (n + 1) - f (n + 1 - d))
/-- the least period from d on that divides p, and its gain -/
def leastFrom (f : Int → Int) (n p : Int) : Nat → Int → Int × Int
  | 0, _ => (p, f (n + p) - f n)
  | k + 1, d => if p % d = 0 ∧ stepsEq f n p d = true then (d, f (n + 1) - f (n + 1 - d)) else leastFrom f n p k (d + 1)
def leastP (f : Int → Int) (n p : Int) : Int × Int := leastFrom f n p (p - 1).toNat 1
/-- how many values must be written -/
def shr (f : Int → Int) (d s : Int) : Nat → Nat
  | 0 => 0
  | m + 1 => if d < (m + 1 : Nat) ∧ f ((m + 1 : Nat) : Int) = f ((m + 1 : Nat) - d) + s then shr f d s m else m + 1
/-- f's values at 1 to m -/
def vals (f : Int → Int) (m : Nat) : List Int := (List.range m).map fun (i : Nat) => f (i + 1)
theorem vals_length {f : Int → Int} {m : Nat} : (vals f m).length = m := by simp [vals]
theorem vals_getD {f : Int → Int} {m i : Nat} (h : i < m) : (vals f m).getD i 0 = f (i + 1) := by
  unfold vals
  rw [List.getD_eq_getElem?_getD, List.getElem?_map, List.getElem?_range h]
  rfl

theorem stepsEq_at {f : Int → Int} {n p d : Int} (h : stepsEq f n p d = true) {t : Int} (h1 : n < t) (h2 : t ≤ n + p) : f t = f (t - d) + (f (n + 1) - f (n + 1 - d)) := by
  unfold stepsEq at h
  rw [List.all_eq_true] at h
  have := h (t - n - 1).toNat (List.mem_range.mpr (by omega))
  have e : n + 1 + ((t - n - 1).toNat : Int) = t := by omega
  rw [e] at this
  have := of_decide_eq_true this
  omega
/-- one round decides -/
theorem Rep.of_steps {f : Int → Int} {n p g d : Int} (R : Rep f n p g) (hd : 0 < d) (hdp : d ≤ p) (h : stepsEq f n p d = true) : Rep f n d (f (n + 1) - f (n + 1 - d)) := by
  have key : ∀ (k : Nat) (t : Int), n < t → t ≤ n + k → f t = f (t - d) + (f (n + 1) - f (n + 1 - d)) := by
    intro k
    induction k with
    | zero => intro t h1 h2; omega
    | succ k ih =>
      intro t h1 h2
      by_cases c : t ≤ n + p
      · exact stepsEq_at h h1 c
      · have a := R t h1
        have b := R (t - d) (by omega)
        have e := ih (t - p) (by omega) (by omega)
        have z : t - d - p = t - p - d := by omega
        rw [z] at b
        omega
  intro t ht
  exact key (t - n).toNat t ht (by omega)
theorem leastFrom_spec {f : Int → Int} {n p g : Int} (R : Rep f n p g) (hp : 0 < p) : ∀ (k : Nat) (d : Int), 0 < d → d + k = p →
    0 < (leastFrom f n p k d).1 ∧ (leastFrom f n p k d).1 ≤ p ∧ Rep f n (leastFrom f n p k d).1 (leastFrom f n p k d).2
  | 0, d, hd, e => by
    unfold leastFrom
    refine ⟨hp, Int.le_refl _, fun t ht => ?_⟩
    have a := R (n + p) (by omega)
    have z : n + p - p = n := by omega
    rw [z] at a
    have b := R t ht
    show f t = f (t - p) + (f (n + p) - f n)
    omega
  | k + 1, d, hd, e => by
    unfold leastFrom
    by_cases c : p % d = 0 ∧ stepsEq f n p d = true
    · rw [if_pos c]
      exact ⟨hd, by show d ≤ p; omega, R.of_steps hd (by omega) c.2⟩
    · rw [if_neg c]
      exact leastFrom_spec R hp k (d + 1) (by omega) (by omega)
theorem leastP_spec {f : Int → Int} {n p g : Int} (R : Rep f n p g) (hp : 0 < p) : 0 < (leastP f n p).1 ∧ (leastP f n p).1 ≤ p ∧ Rep f n (leastP f n p).1 (leastP f n p).2 :=
  leastFrom_spec R hp _ 1 (by omega) (by omega)
theorem shr_spec {f : Int → Int} {d s : Int} (hd : 0 < d) : ∀ (m : Nat), d ≤ m → Rep f m d s → d ≤ shr f d s m ∧ shr f d s m ≤ m ∧ Rep f (shr f d s m) d s
  | 0, h, _ => by omega
  | m + 1, h, R => by
    unfold shr
    by_cases c : d < (m + 1 : Nat) ∧ f ((m + 1 : Nat) : Int) = f ((m + 1 : Nat) - d) + s
    · rw [if_pos c]
      have R' : Rep f m d s := fun t ht => by
        by_cases e : t = ((m + 1 : Nat) : Int)
        · rw [e]; exact c.2
        · exact R t (by omega)
      obtain ⟨a, b, z⟩ := shr_spec hd m (by omega) R'
      exact ⟨a, by omega, z⟩
    · rw [if_neg c]
      exact ⟨h, Nat.le_refl _, R⟩
/-- what repeats behind m is the curve written by its first m values -/
theorem cvAt_vals {f : Int → Int} {m : Nat} {d s : Int} (hd : 0 < d) (hdm : d ≤ m) (h0 : f 0 = 0) (R : Rep f m d s) : ∀ t, 0 ≤ t → cvAt (vals f m) d s t = f t := by
  have key : ∀ (k : Nat) (t : Int), 0 ≤ t → t ≤ k → cvAt (vals f m) d s t = f t := by
    intro k
    induction k with
    | zero =>
      intro t h1 h2
      have : t = 0 := by omega
      rw [this, cvAt_zero, h0]
    | succ k ih =>
      intro t h1 h2
      by_cases z : t = 0
      · rw [z, cvAt_zero, h0]
      · by_cases c : t ≤ (m : Int)
        · rw [cvAt_in (by omega) (by rw [vals_length]; exact c), vals_getD (by omega)]
          congr 1; omega
        · rw [cvAt_back hd (by rw [vals_length]; exact hdm) (by rw [vals_length]; omega), R t (by omega), ih (t - d) (by omega) (by omega)]
  intro t ht
  exact key t.toNat t ht (by omega)
/-- the form: period, gain, values -/
def formP (vs : List Int) (p g : Int) : Int × Int := leastP (cvAt vs p g) vs.length p
def formM (vs : List Int) (p g : Int) : Nat := shr (cvAt vs p g) (formP vs p g).1 (formP vs p g).2 vs.length
def formV (vs : List Int) (p g : Int) : List Int := vals (cvAt vs p g) (formM vs p g)
theorem form_spec {vs : List Int} {p g : Int} (hp : 0 < p) (hpn : p ≤ vs.length) :
    0 < (formP vs p g).1 ∧ (formP vs p g).1 ≤ p ∧ (formP vs p g).1 ≤ (formV vs p g).length ∧ (formV vs p g).length ≤ vs.length ∧
      ∀ t, 0 ≤ t → cvAt (formV vs p g) (formP vs p g).1 (formP vs p g).2 t = cvAt vs p g t := by
  obtain ⟨a, b, R⟩ := leastP_spec (Rep.cvAt (g := g) hp hpn) hp
  obtain ⟨c, d, R'⟩ := shr_spec a vs.length (show (formP vs p g).1 ≤ _ from Int.le_trans b hpn) R
  refine ⟨a, b, ?_, ?_, ?_⟩
  · unfold formV; rw [vals_length]; exact c
  · unfold formV; rw [vals_length]; exact d
  · exact cvAt_vals a c cvAt_zero R'
end VM

/-! Records: sums of windows; plain Lean. -/
namespace VM
/-- the units ahead of tick i -/
def pre (us : List Int) (i : Int) : Int := (us.take i.toNat).sum
def win (us : List Int) (s k : Int) : Int := pre us (s + k) - pre us s
/-- the sum of a slice -/
theorem sum_cut (us : List Int) (s k : Nat) : ((us.drop s).take k).sum = win us s k := by
  unfold win pre
  have e : (((s : Int) + k).toNat) = s + k := by omega
  have e2 : ((s : Int).toNat) = s := by omega
  rw [e, e2, List.take_add, List.sum_append]
  omega
theorem pre_zero (us : List Int) : pre us 0 = 0 := by simp [pre]
theorem pre_all (us : List Int) : pre us us.length = us.sum := by
  unfold pre
  rw [show ((us.length : Nat) : Int).toNat = us.length by omega, List.take_length]
theorem pre_step {us : List Int} {i : Nat} (h : i < us.length) : pre us ((i : Int) + 1) = pre us i + us.getD i 0 := by
  unfold pre
  rw [show ((i : Int) + 1).toNat = i + 1 by omega, show ((i : Int)).toNat = i by omega, List.take_add_one, List.sum_append]
  rw [List.getD_eq_getElem?_getD, List.getElem?_eq_getElem h]
  simp
/-- the first i from a on, of k many, of which P -/
def firstN (p : Nat → Bool) : Nat → Nat → Option Nat
  | 0, _ => none
  | k + 1, i => if p i = true then some i else firstN p k (i + 1)
/-- windows by their length: the first with more than f allows -/
def brk (f : Int → Int) (us : List Int) : Nat → Nat → Option (Int × Int × Int)
  | 0, _ => none
  | k + 1, len => match firstN (fun s => decide (f len < win us s len)) (us.length + 1 - len) 0 with
    | some s => some (len, s, win us s len - f len)
    | none => brk f us k (len + 1)
def breachM (f : Int → Int) (us : List Int) : Option (Int × Int × Int) := brk f us us.length 1
theorem brk_congr {f g : Int → Int} {us : List Int} : ∀ (k len : Nat), (∀ t : Int, (len : Int) ≤ t → t < len + k → f t = g t) → brk f us k len = brk g us k len
  | 0, _, _ => rfl
  | k + 1, len, h => by
    unfold brk
    rw [h len (by omega) (by omega), brk_congr k (len + 1) fun t h1 h2 => h t (by omega) (by omega)]
theorem breachM_congr {f g : Int → Int} {us : List Int} (h : ∀ t : Int, 1 ≤ t → t ≤ us.length → f t = g t) : breachM f us = breachM g us :=
  brk_congr _ _ fun t h1 h2 => h t (by omega) (by omega)
def IsMax (l : List Int) (m : Int) : Prop := m ∈ l ∧ ∀ y ∈ l, y ≤ m
theorem IsMax.eq {l : List Int} {m n : Int} (a : IsMax l m) (b : IsMax l n) : m = n := by
  have h1 := a.2 n b.1
  have h2 := b.2 m a.1
  omega
end VM

/-! Records that enter as early as a curve allows; plain Lean. -/
namespace VM
theorem snoc_ind {P : List Int → Prop} (h0 : P []) (h1 : ∀ l x, P l → P (l ++ [x])) (l : List Int) : P l := by
  have a : ∀ r : List Int, P r.reverse := fun r => by
    induction r with
    | nil => exact h0
    | cons a r ih => rw [List.reverse_cons]; exact h1 _ _ ih
  have b := a l.reverse
  rwa [List.reverse_reverse] at b
/-- the last k units -/
def tl (us : List Int) (k : Nat) : Int := win us ((us.length : Int) - k) k
theorem tl_zero {us : List Int} : tl us 0 = 0 := by
  unfold tl win
  rw [show (us.length : Int) - ((0 : Nat) : Int) + ((0 : Nat) : Int) = (us.length : Int) - ((0 : Nat) : Int) by omega]
  omega
theorem pre_push {e : List Int} {x i : Int} (h : i ≤ e.length) : pre (e ++ [x]) i = pre e i := by
  unfold pre
  rw [List.take_append_of_le_length (by omega)]
theorem pre_last {e : List Int} {x i : Int} (h : i = (e.length : Int) + 1) : pre (e ++ [x]) i = pre e e.length + x := by
  unfold pre
  rw [List.take_of_length_le (by rw [List.length_append, List.length_singleton]; omega), List.take_of_length_le (by omega), List.sum_append]
  simp
theorem tl_push {e : List Int} {x : Int} {k : Nat} (h : k ≤ e.length) : tl (e ++ [x]) (k + 1) = tl e k + x := by
  unfold tl win
  rw [List.length_append, List.length_singleton, pre_last (by omega), pre_push (by omega)]
  rw [show ((e.length + 1 : Nat) : Int) - ((k + 1 : Nat) : Int) = (e.length : Int) - k by omega, show (e.length : Int) - (k : Int) + (k : Int) = e.length by omega]
  omega
/-- one tick further back -/
theorem tl_step {us : List Int} {k : Nat} (h : k < us.length) : tl us (k + 1) = tl us k + us.getD (us.length - 1 - k) 0 := by
  unfold tl win
  rw [show (us.length : Int) - ((k + 1 : Nat) : Int) + ((k + 1 : Nat) : Int) = us.length by omega, show (us.length : Int) - ((k : Nat) : Int) + ((k : Nat) : Int) = us.length by omega]
  have e := pre_step (us := us) (i := us.length - 1 - k) (by omega)
  rw [show ((us.length - 1 - k : Nat) : Int) + 1 = (us.length : Int) - (k : Nat) by omega] at e
  rw [show (us.length : Int) - ((k + 1 : Nat) : Int) = ((us.length - 1 - k : Nat) : Int) by omega]
  omega
/-- how many may enter behind us, as the windows up to k + 1 tell -/
def freeK (f : Int → Int) (us : List Int) : Nat → Int
  | 0 => f 1
  | k + 1 => min (freeK f us k) (f ((k : Int) + 2) - tl us (k + 1))
def freeM (f : Int → Int) (us : List Int) : Int := freeK f us us.length
theorem le_freeK {f : Int → Int} {us : List Int} {c : Int} : ∀ {n : Nat}, c ≤ freeK f us n ↔ ∀ k : Nat, k ≤ n → tl us k + c ≤ f ((k : Int) + 1)
  | 0 => by
    constructor
    · intro h k hk
      have : k = 0 := by omega
      subst this
      rw [tl_zero]
      have : c ≤ f 1 := h
      show 0 + c ≤ f 1
      omega
    · intro h
      have := h 0 (Nat.le_refl _)
      rw [tl_zero] at this
      have e : 0 + c ≤ f 1 := this
      show c ≤ f 1
      omega
  | n + 1 => by
    have ih := le_freeK (f := f) (us := us) (c := c) (n := n)
    constructor
    · intro h k hk
      unfold freeK at h
      by_cases z : k = n + 1
      · subst z
        rw [show ((n + 1 : Nat) : Int) + 1 = (n : Int) + 2 by omega]
        omega
      · exact ih.mp (by omega) k (by omega)
    · intro h
      have a := ih.mpr fun k hk => h k (by omega)
      have b := h (n + 1) (Nat.le_refl _)
      rw [show ((n + 1 : Nat) : Int) + 1 = (n : Int) + 2 by omega] at b
      unfold freeK
      omega
theorem le_free {f : Int → Int} {us : List Int} {c : Int} : c ≤ freeM f us ↔ ∀ k : Nat, k ≤ us.length → tl us k + c ≤ f ((k : Int) + 1) := le_freeK
/-- no window has too many -/
def Kept (f : Int → Int) (us : List Int) : Prop := ∀ s k : Nat, 1 ≤ k → s + k ≤ us.length → win us s k ≤ f k
theorem Kept.push {f : Int → Int} {e : List Int} {x : Int} (h : Kept f e) (hx : x ≤ freeM f e) : Kept f (e ++ [x]) := by
  intro s k h1 h2
  rw [List.length_append, List.length_singleton] at h2
  by_cases c : s + k ≤ e.length
  · have := h s k h1 c
    unfold win at this ⊢
    rw [pre_push (by omega), pre_push (by omega)]
    exact this
  · have a := le_free.mp hx (k - 1) (by omega)
    have b := tl_push (e := e) (x := x) (k := k - 1) (by omega)
    rw [show k - 1 + 1 = k by omega] at b
    unfold tl at b
    rw [List.length_append, List.length_singleton, show ((e.length + 1 : Nat) : Int) - (k : Int) = (s : Int) by omega] at b
    rw [show ((k - 1 : Nat) : Int) + 1 = (k : Int) by omega] at a
    rw [b]
    exact a
theorem Kept.front {f : Int → Int} {e : List Int} {x : Int} (h : Kept f (e ++ [x])) : Kept f e := by
  intro s k h1 h2
  have a := h s k h1 (by rw [List.length_append, List.length_singleton]; omega)
  unfold win at a ⊢
  rw [pre_push (by omega), pre_push (by omega)] at a
  exact a
theorem Kept.free {f : Int → Int} {e : List Int} {x : Int} (h : Kept f (e ++ [x])) : x ≤ freeM f e := by
  refine le_free.mpr fun k hk => ?_
  have a := h (e.length - k) (k + 1) (by omega) (by rw [List.length_append, List.length_singleton]; omega)
  have b := tl_push (e := e) (x := x) (k := k) hk
  unfold tl at b
  rw [List.length_append, List.length_singleton, show ((e.length + 1 : Nat) : Int) - ((k + 1 : Nat) : Int) = ((e.length - k : Nat) : Int) by omega] at b
  rw [b] at a
  have z : ((k + 1 : Nat) : Int) = (k : Int) + 1 := by omega
  rw [z] at a
  exact a
theorem Kept.nil {f : Int → Int} : Kept f [] := fun s k h1 h2 => by
  have : s + k ≤ 0 := h2
  omega
theorem firstN_none {p : Nat → Bool} : ∀ {k i : Nat}, firstN p k i = none ↔ ∀ j, i ≤ j → j < i + k → p j = false
  | 0, i => ⟨fun _ => fun j a b => absurd b (by omega), fun _ => rfl⟩
  | k + 1, i => by
    have ih := firstN_none (p := p) (k := k) (i := i + 1)
    unfold firstN
    by_cases c : p i = true
    · rw [if_pos c]
      refine ⟨fun h => (by cases h), fun h => ?_⟩
      rw [h i (Nat.le_refl _) (by omega)] at c
      cases c
    · rw [if_neg c, ih]
      refine ⟨fun h j a b => ?_, fun h j a b => h j (by omega) (by omega)⟩
      by_cases z : j = i
      · rw [z]; simpa using c
      · exact h j (by omega) (by omega)
theorem brk_none {f : Int → Int} {us : List Int} : ∀ {k len : Nat}, brk f us k len = none ↔ ∀ t : Nat, len ≤ t → t < len + k → ∀ s : Nat, s < us.length + 1 - t → win us s t ≤ f t
  | 0, len => ⟨fun _ => fun t a b => absurd b (by omega), fun _ => rfl⟩
  | k + 1, len => by
    have ih := brk_none (f := f) (us := us) (k := k) (len := len + 1)
    have fn := firstN_none (p := fun s => decide (f len < win us s len)) (k := us.length + 1 - len) (i := 0)
    unfold brk
    cases hh : firstN (fun s => decide (f len < win us s len)) (us.length + 1 - len) 0 with
    | some s =>
      refine ⟨fun h => (by cases h), fun h => ?_⟩
      have : firstN (fun s => decide (f len < win us s len)) (us.length + 1 - len) 0 = none := fn.mpr fun j _ b => by
        have := h len (Nat.le_refl _) (by omega) j (by omega)
        exact decide_eq_false (by omega)
      rw [hh] at this; cases this
    | none =>
      show brk f us k (len + 1) = none ↔ _
      rw [ih]
      refine ⟨fun h t a b s hs => ?_, fun h t a b s hs => h t (by omega) (by omega) s hs⟩
      by_cases z : t = len
      · subst z
        have := fn.mp hh s (Nat.zero_le _) (by omega)
        have := of_decide_eq_false this
        omega
      · exact h t (by omega) (by omega) s hs
theorem kept_iff {f : Int → Int} {us : List Int} : breachM f us = none ↔ Kept f us := by
  unfold breachM
  rw [brk_none]
  exact ⟨fun h s k h1 h2 => h k h1 (by omega) s (by omega), fun h t a b s hs => h s t a (by omega)⟩
/-! ### shaped -/
def shS (f : Int → Int) (st : List Int × Int) (u : Int) : List Int × Int := (st.1 ++ [min (st.2 + u) (freeM f st.1)], st.2 + u - min (st.2 + u) (freeM f st.1))
def shG (f : Int → Int) (us : List Int) : List Int × Int := us.foldl (shS f) ([], 0)
def shapedM (f : Int → Int) (us : List Int) : List Int := (shG f us).1
theorem shG_push {f : Int → Int} {us : List Int} {u : Int} : shG f (us ++ [u]) = shS f (shG f us) u := by
  unfold shG; rw [List.foldl_append]; rfl
theorem shG_take {f : Int → Int} {us : List Int} {i : Nat} (h : i < us.length) : shG f (us.take (i + 1)) = shS f (shG f (us.take i)) (us.getD i 0) := by
  rw [← shG_push, List.take_add_one, List.getElem?_eq_getElem h, List.getD_eq_getElem?_getD, List.getElem?_eq_getElem h]
  rfl
theorem shG_length {f : Int → Int} (us : List Int) : (shG f us).1.length = us.length := by
  refine snoc_ind (P := fun us => (shG f us).1.length = us.length) rfl (fun l x ih => ?_) us
  show (shG f (l ++ [x])).1.length = (l ++ [x]).length
  rw [shG_push]
  unfold shS
  rw [List.length_append, List.length_append, ih]
  rfl
theorem shaped_length {f : Int → Int} (us : List Int) : (shapedM f us).length = us.length := shG_length us
theorem shaped_kept {f : Int → Int} (us : List Int) : Kept f (shapedM f us) := by
  refine snoc_ind (P := fun us => Kept f (shapedM f us)) Kept.nil (fun l x ih => ?_) us
  show Kept f (shG f (l ++ [x])).1
  rw [shG_push]
  exact Kept.push ih (by show min _ _ ≤ _; unfold shapedM at *; omega)
theorem kept_shaped {f : Int → Int} {us : List Int} (h : Kept f us) : shG f us = (us, 0) := by
  revert h
  refine snoc_ind (P := fun us => Kept f us → shG f us = (us, 0)) (fun _ => rfl) (fun l x ih h => ?_) us
  have a := h.free
  rw [shG_push, ih h.front]
  unfold shS
  simp only
  rw [show min (0 + x) (freeM f l) = x by omega]
  congr 1
  omega
/-- rising values from 1 on -/
structure Up (f : Int → Int) : Prop where
  one : 0 ≤ f 1
  up : ∀ k : Nat, 1 ≤ k → f k ≤ f ((k : Int) + 1)
theorem Up.free {f : Int → Int} (U : Up f) {e : List Int} (h : Kept f e) : 0 ≤ freeM f e := by
  refine le_free.mpr fun k hk => ?_
  by_cases z : k = 0
  · subst z
    rw [tl_zero]
    have := U.one
    show 0 + 0 ≤ f 1
    omega
  · have a := h (e.length - k) k (by omega) (by omega)
    have b := U.up k (by omega)
    unfold tl
    rw [show (e.length : Int) - (k : Int) = ((e.length - k : Nat) : Int) by omega]
    omega
theorem sum_snoc {l : List Int} {x : Int} : (l ++ [x]).sum = l.sum + x := by rw [List.sum_append]; simp
/-- what entered and waits: counts, together what came -/
theorem shG_bound {f : Int → Int} (U : Up f) {us : List Int} (h : ∀ u ∈ us, 0 ≤ u) : 0 ≤ (shG f us).2 ∧ (shG f us).1.sum + (shG f us).2 = us.sum ∧ ∀ x ∈ (shG f us).1, 0 ≤ x ∧ x ≤ us.sum := by
  revert h
  refine snoc_ind (P := fun us => (∀ u ∈ us, 0 ≤ u) → 0 ≤ (shG f us).2 ∧ (shG f us).1.sum + (shG f us).2 = us.sum ∧ ∀ x ∈ (shG f us).1, 0 ≤ x ∧ x ≤ us.sum) (fun _ => ⟨Int.le_refl _, rfl, fun x hx => by cases hx⟩) (fun l u ih h => ?_) us
  have hu := h u (by simp)
  obtain ⟨a, b, c⟩ := ih fun y hy => h y (List.mem_append_left _ hy)
  have fr := U.free (shaped_kept (f := f) l)
  unfold shapedM at fr
  have ps : 0 ≤ (shG f l).1.sum := by
    have : ∀ r : List Int, (∀ x ∈ r, 0 ≤ x) → 0 ≤ r.sum := fun r => by
      induction r with
      | nil => intro _; decide
      | cons z r ih => intro q; rw [List.sum_cons]; have := q z List.mem_cons_self; have := ih fun y hy => q y (List.mem_cons_of_mem _ hy); omega
    exact this _ fun x hx => (c x hx).1
  rw [shG_push, sum_snoc]
  unfold shS
  simp only [sum_snoc]
  refine ⟨by omega, by omega, fun x hx => ?_⟩
  rcases List.mem_append.mp hx with q | q
  · have := c x q; omega
  · cases List.mem_singleton.mp q
    omega
theorem shaped_front {f : Int → Int} {us vs : List Int} : (shapedM f (us ++ vs)).take us.length = shapedM f us := by
  refine snoc_ind (P := fun vs => (shapedM f (us ++ vs)).take us.length = shapedM f us) ?_ (fun l x ih => ?_) vs
  · show (shapedM f (us ++ [])).take us.length = shapedM f us
    rw [List.append_nil, ← shaped_length (f := f) us, List.take_length]
  · show (shapedM f (us ++ (l ++ [x]))).take us.length = shapedM f us
    rw [← List.append_assoc]
    unfold shapedM at ih ⊢
    rw [shG_push]
    unfold shS
    rw [List.take_append_of_le_length (by rw [shG_length, List.length_append]; omega)]
    exact ih
theorem freeK_congr {f g : Int → Int} {e : List Int} : ∀ {n : Nat}, (∀ t : Int, 1 ≤ t → t ≤ (n : Int) + 1 → f t = g t) → freeK f e n = freeK g e n
  | 0, h => h 1 (by omega) (by omega)
  | n + 1, h => by
    unfold freeK
    rw [freeK_congr (n := n) fun t a b => h t a (by omega), h ((n : Int) + 2) (by omega) (by omega)]
theorem shG_congr {f g : Int → Int} {us : List Int} (h : ∀ t : Int, 1 ≤ t → t ≤ us.length → f t = g t) : shG f us = shG g us := by
  revert h
  refine snoc_ind (P := fun us => (∀ t : Int, 1 ≤ t → t ≤ us.length → f t = g t) → shG f us = shG g us) (fun _ => rfl) (fun l x ih h => ?_) us
  rw [List.length_append, List.length_singleton] at h
  rw [shG_push, shG_push, ih fun t a b => h t a (by omega)]
  unfold shS freeM
  rw [freeK_congr fun t a b => h t a (by rw [shG_length] at b; omega)]
/-- a curve that rises where it is written rises -/
theorem up_cv {vs : List Int} {p g : Int} (hp : 0 < p) (hpn : p ≤ vs.length) (h0 : 0 ≤ vs.getD 0 0) (up : ∀ i, i + 1 < vs.length → vs.getD i 0 ≤ vs.getD (i + 1) 0) (last : vs.getD (vs.length - 1) 0 ≤ vs.getD (vs.length - p.toNat) 0 + g) : Up (cvAt vs p g) := by
  refine ⟨by rw [cvAt_in (by decide) (by omega)]; exact h0, fun k => ?_⟩
  induction k using Nat.strongRecOn with
  | ind k ih =>
    intro h1
    by_cases c : k < vs.length
    · rw [cvAt_in (by omega) (by omega), cvAt_in (by omega) (by omega), show ((k : Int) - 1).toNat = k - 1 by omega, show ((k : Int) + 1 - 1).toNat = k - 1 + 1 by omega]
      exact up (k - 1) (by omega)
    · by_cases d : k = vs.length
      · rw [cvAt_back (t := (k : Int) + 1) hp hpn (by omega), cvAt_in (by omega) (by omega), cvAt_in (by omega) (by omega), show ((k : Int) - 1).toNat = vs.length - 1 by omega, show ((k : Int) + 1 - p - 1).toNat = vs.length - p.toNat by omega]
        exact last
      · rw [cvAt_back (t := (k : Int) + 1) hp hpn (by omega), cvAt_back (t := (k : Int)) hp hpn (by omega)]
        have := ih (k - p.toNat) (by omega) (by omega)
        rw [show ((k - p.toNat : Nat) : Int) = (k : Int) - p by omega] at this
        rw [show (k : Int) + 1 - p = (k : Int) - p + 1 by omega]
        omega
/-- no pair of lengths up to n shows a break -/
def goodB (f : Int → Int) (n : Nat) : Bool := (List.range n).all fun a => (List.range (a + 1)).all fun b => decide (f ((a : Int) + 1 + ((b : Int) + 1)) ≤ f ((a : Int) + 1) + f ((b : Int) + 1))
theorem good_at {f : Int → Int} {n : Nat} (h : goodB f n = true) {a b : Int} (h1 : 1 ≤ b) (h2 : b ≤ a) (h3 : a ≤ n) : f (a + b) ≤ f a + f b := by
  unfold goodB at h
  rw [List.all_eq_true] at h
  have x := h (a - 1).toNat (List.mem_range.mpr (by omega))
  rw [List.all_eq_true] at x
  have y := of_decide_eq_true (x (b - 1).toNat (List.mem_range.mpr (by omega)))
  rw [show (((a - 1).toNat : Nat) : Int) + 1 = a by omega, show (((b - 1).toNat : Nat) : Int) + 1 = b by omega] at y
  exact y
end VM

/-! shaped is the greatest; curves that are good at all lengths; greedy records; plain Lean. -/
namespace VM
/-- no unit of vs enters ahead of its coming in us -/
def Behind (us vs : List Int) : Prop := vs.length = us.length ∧ ∀ i : Nat, i ≤ us.length → pre vs i ≤ pre us i
theorem pre_take {us : List Int} {i : Nat} : pre us i = (us.take i).sum := by
  unfold pre; rw [Int.toNat_natCast]
theorem pre_len {us : List Int} {i : Int} (h : (us.length : Int) ≤ i) : pre us i = us.sum := by
  unfold pre; rw [List.take_of_length_le (by omega)]
theorem tl_pre {us : List Int} {k : Nat} (h : k ≤ us.length) : tl us k = us.sum - pre us ((us.length : Int) - k) := by
  unfold tl win
  rw [show (us.length : Int) - (k : Int) + (k : Int) = us.length by omega, pre_all]
/-- free is one of the windows -/
theorem freeK_some {f : Int → Int} {us : List Int} : ∀ n : Nat, ∃ k : Nat, k ≤ n ∧ freeK f us n = f ((k : Int) + 1) - tl us k
  | 0 => ⟨0, Nat.le_refl _, by rw [tl_zero]; show f 1 = f ((0 : Int) + 1) - 0; rw [Int.zero_add]; omega⟩
  | n + 1 => by
    obtain ⟨k, hk, e⟩ := freeK_some (f := f) (us := us) n
    unfold freeK
    by_cases c : freeK f us n ≤ f ((n : Int) + 2) - tl us (n + 1)
    · exact ⟨k, by omega, by omega⟩
    · refine ⟨n + 1, Nat.le_refl _, ?_⟩
      rw [show ((n + 1 : Nat) : Int) + 1 = (n : Int) + 2 by omega]
      omega
theorem shG_front {f : Int → Int} {us : List Int} {i : Nat} (h : i ≤ us.length) : (shG f (us.take i)).1 = (shapedM f us).take i := by
  have e : us.take i ++ us.drop i = us := List.take_append_drop i us
  have s := shaped_front (f := f) (us := us.take i) (vs := us.drop i)
  rw [e, List.length_take, Nat.min_eq_left h] at s
  exact s.symm
theorem shG_sum {f : Int → Int} (us : List Int) : (shG f us).1.sum + (shG f us).2 = us.sum := by
  refine snoc_ind (P := fun us => (shG f us).1.sum + (shG f us).2 = us.sum) rfl (fun l u ih => ?_) us
  show (shG f (l ++ [u])).1.sum + (shG f (l ++ [u])).2 = (l ++ [u]).sum
  rw [shG_push, sum_snoc]
  unfold shS
  simp only [sum_snoc]
  omega
/-- the units so far of the shaped record -/
theorem shaped_pre {f : Int → Int} {us : List Int} {i : Nat} (h : i ≤ us.length) : pre (shapedM f us) i = (shG f (us.take i)).1.sum := by
  rw [shG_front h, pre_take]
theorem shaped_greatest {f : Int → Int} {us vs : List Int} (B : Behind us vs) (K : Kept f vs) : ∀ i : Nat, i ≤ us.length → pre vs i ≤ pre (shapedM f us) i := by
  intro i
  induction i using Nat.strongRecOn with
  | ind i ih =>
    intro hi
    match i with
    | 0 => rw [show ((0 : Nat) : Int) = 0 from rfl, pre_zero, pre_zero]; exact Int.le_refl _
    | i + 1 =>
      have st := shG_take (f := f) (us := us) (i := i) (by omega)
      have sm := shG_sum (f := f) (us.take i)
      have p1 := shaped_pre (f := f) (us := us) (i := i + 1) hi
      have p0 := shaped_pre (f := f) (us := us) (i := i) (by omega)
      have lg : (shG f (us.take i)).1.length = i := by rw [shG_length, List.length_take]; omega
      rw [p1, st]
      have us1 := pre_step (us := us) (i := i) (by omega)
      have ut : (us.take i).sum = pre us i := pre_take.symm
      have bi := B.2 (i + 1) hi
      rw [show ((i + 1 : Nat) : Int) = (i : Int) + 1 by omega] at bi ⊢
      unfold shS
      simp only [sum_snoc]
      by_cases c : (shG f (us.take i)).2 + us.getD i 0 ≤ freeM f (shG f (us.take i)).1
      · omega
      · obtain ⟨k, hk, e⟩ := freeK_some (f := f) (us := (shG f (us.take i)).1) (shG f (us.take i)).1.length
        rw [lg] at hk
        have tp := tl_pre (us := (shG f (us.take i)).1) (k := k) (by omega)
        rw [lg] at tp
        have pk : pre (shG f (us.take i)).1 ((i : Int) - k) = pre (shapedM f us) ((i - k : Nat) : Int) := by
          rw [shG_front (by omega), show (i : Int) - (k : Int) = ((i - k : Nat) : Int) by omega, pre_take, pre_take, List.take_take, Nat.min_eq_left (by omega)]
        have q := ih (i - k) (by omega) (by omega)
        have w := K (i - k) (k + 1) (by omega) (by rw [B.1]; omega)
        unfold win at w
        rw [show ((i - k : Nat) : Int) + ((k + 1 : Nat) : Int) = (i : Int) + 1 by omega, show ((k + 1 : Nat) : Int) = (k : Int) + 1 by omega] at w
        have fm : freeM f (shG f (us.take i)).1 = f ((k : Int) + 1) - tl (shG f (us.take i)).1 k := e
        omega
/-- the shaped record is behind what comes -/
theorem shaped_behind {f : Int → Int} {us : List Int} (U : Up f) (h : ∀ u ∈ us, 0 ≤ u) : Behind us (shapedM f us) := by
  refine ⟨shaped_length us, fun i hi => ?_⟩
  have a := shG_bound (f := f) U (us := us.take i) fun u hu => h u (List.mem_of_mem_take hu)
  rw [shaped_pre hi, pre_take]
  omega
/-- good at the lengths of the form: good at all lengths -/
theorem good_all {f : Int → Int} {n p g : Int} (R : Rep f n p g) (hp : 0 < p) (hpn : p ≤ n) (h0 : f 0 = 0) (G : ∀ a b : Int, 1 ≤ b → b ≤ a → a ≤ n → f (a + b) ≤ f a + f b) : ∀ a b : Int, 0 ≤ a → 0 ≤ b → f (a + b) ≤ f a + f b := by
  have half : ∀ (k : Nat) (a b : Int), 0 ≤ b → b ≤ a → a + b = k → f (a + b) ≤ f a + f b := by
    intro k
    induction k using Nat.strongRecOn with
    | ind k ih =>
      intro a b hb hba e
      by_cases z : b = 0
      · subst z; rw [h0, Int.add_zero]; omega
      · by_cases c : a ≤ n
        · exact G a b (by omega) hba c
        · have r1 := R a (by omega)
          have r2 := R (a + b) (by omega)
          rw [show a + b - p = a - p + b by omega] at r2
          have : f (a - p + b) ≤ f (a - p) + f b := by
            by_cases d : b ≤ a - p
            · exact ih (a - p + b).toNat (by omega) (a - p) b hb d (by omega)
            · have := ih (a - p + b).toNat (by omega) b (a - p) (by omega) (by omega) (by omega)
              rw [show b + (a - p) = a - p + b by omega] at this
              omega
          omega
  intro a b ha hb
  by_cases c : b ≤ a
  · exact half (a + b).toNat a b hb c (by omega)
  · have := half (a + b).toNat b a ha (by omega) (by omega)
    rw [show b + a = a + b by omega] at this
    omega
/-- the greedy record of n ticks -/
def greedyM (f : Int → Int) (n : Nat) : List Int := (List.range n).map fun t : Nat => f ((t : Int) + 1) - f t
theorem greedy_length {f : Int → Int} {n : Nat} : (greedyM f n).length = n := by simp [greedyM]
theorem greedy_succ {f : Int → Int} {n : Nat} : greedyM f (n + 1) = greedyM f n ++ [f ((n : Int) + 1) - f n] := by
  unfold greedyM; rw [List.range_succ, List.map_append]; rfl
theorem greedy_sum {f : Int → Int} (h0 : f 0 = 0) : ∀ n : Nat, (greedyM f n).sum = f n
  | 0 => by show (0 : Int) = f 0; omega
  | n + 1 => by
    rw [greedy_succ, sum_snoc, greedy_sum h0 n, show ((n + 1 : Nat) : Int) = (n : Int) + 1 by omega]
    omega
theorem greedy_take {f : Int → Int} {n i : Nat} (h : i ≤ n) : (greedyM f n).take i = greedyM f i := by
  unfold greedyM; rw [← List.map_take, List.take_range, Nat.min_eq_left h]
theorem greedy_pre {f : Int → Int} (h0 : f 0 = 0) {n i : Nat} (h : i ≤ n) : pre (greedyM f n) i = f i := by
  rw [pre_take, greedy_take h, greedy_sum h0]
theorem greedy_kept {f : Int → Int} (h0 : f 0 = 0) (G : ∀ a b : Int, 0 ≤ a → 0 ≤ b → f (a + b) ≤ f a + f b) (n : Nat) : Kept f (greedyM f n) := by
  intro s k h1 h2
  rw [greedy_length] at h2
  unfold win
  rw [show (s : Int) + (k : Int) = ((s + k : Nat) : Int) by omega, greedy_pre h0 h2, greedy_pre h0 (by omega)]
  have := G s k (by omega) (by omega)
  rw [show ((s + k : Nat) : Int) = (s : Int) + (k : Int) by omega]
  omega
/-- ahead of every record that keeps the curve -/
theorem greedy_ahead {f : Int → Int} (h0 : f 0 = 0) {vs : List Int} (K : Kept f vs) {n i : Nat} (hn : vs.length = n) (hi : i ≤ n) : pre vs i ≤ pre (greedyM f n) i := by
  rw [greedy_pre h0 hi]
  by_cases z : i = 0
  · subst z
    rw [show ((0 : Nat) : Int) = 0 from rfl, pre_zero, h0]
    exact Int.le_refl _
  · have := K 0 i (by omega) (by omega)
    unfold win at this
    rw [show ((0 : Nat) : Int) + (i : Int) = i by omega, show ((0 : Nat) : Int) = 0 from rfl, pre_zero] at this
    omega
end VM

/-! What repr may be asked of: shown, not deep, not long. -/
namespace VR
open PySem
structure Sz (k L : Nat) (d : PyData) : Prop where
  sh : d.showable = true
  dp : d.depth ≤ k
  ln : d.shown.length ≤ L
theorem Sz.mono {k L k' L' : Nat} {d : PyData} (h : Sz k L d) (a : k ≤ k') (b : L ≤ L') : Sz k' L' d := ⟨h.sh, Nat.le_trans h.dp a, Nat.le_trans h.ln b⟩
theorem Sz.none : Sz 0 5 .none := ⟨rfl, Nat.zero_le _, by decide⟩
theorem Sz.bool (b : Bool) : Sz 0 5 (.bool b) := ⟨rfl, Nat.zero_le _, by cases b <;> decide⟩
theorem log_small {n : Nat} (h : n < 10 ^ 100) : n.log2 < 1920 := by
  by_cases z : n = 0
  · subst z; decide
  · exact (Nat.log2_lt z).mpr (Nat.lt_trans h (by decide +kernel))
theorem Sz.int {i : Int} (h : i.natAbs < 10 ^ 100) : Sz 0 101 (.int i) := by
  refine ⟨by simp only [PyData.showable]; exact decide_eq_true (log_small h), Nat.zero_le _, ?_⟩
  have e := int_text_length_le10 (k := 100) (by decide) h
  show (Str.ofString (toString i)).length ≤ 101
  rw [ofString_length]; exact e
theorem all_show {k L : Nat} : ∀ {ds : List PyData}, (∀ d ∈ ds, Sz k L d) → PyData.showableAll ds = true
  | [], _ => rfl
  | d :: ds, h => by
    simp only [PyData.showableAll]
    rw [(h d List.mem_cons_self).sh, all_show fun e he => h e (List.mem_cons_of_mem _ he)]
    rfl
theorem all_depth {k L : Nat} : ∀ {ds : List PyData}, (∀ d ∈ ds, Sz k L d) → PyData.depthAll ds ≤ k
  | [], _ => Nat.zero_le _
  | d :: ds, h => by
    simp only [PyData.depthAll]
    exact Nat.max_le.mpr ⟨(h d List.mem_cons_self).dp, all_depth fun e he => h e (List.mem_cons_of_mem _ he)⟩
theorem all_len {k L : Nat} : ∀ {ds : List PyData}, (∀ d ∈ ds, Sz k L d) → ((PyData.shownAll ds).map (·.length)).sum ≤ L * ds.length ∧ (PyData.shownAll ds).length = ds.length
  | [], _ => ⟨Nat.zero_le _, rfl⟩
  | d :: ds, h => by
    have a := (h d List.mem_cons_self).ln
    obtain ⟨b, c⟩ := all_len (ds := ds) fun e he => h e (List.mem_cons_of_mem _ he)
    simp only [PyData.shownAll, List.map_cons, List.sum_cons, List.length_cons]
    refine ⟨?_, by omega⟩
    rw [Nat.mul_add, Nat.mul_one]
    omega
theorem Sz.list {k L n : Nat} {ds : List PyData} (h : ∀ d ∈ ds, Sz k L d) (hn : ds.length ≤ n) : Sz (k + 1) ((L + 2) * n + 3) (.list ds) := by
  refine ⟨by simp only [PyData.showable]; exact all_show h, by simp only [PyData.depth]; have := all_depth h; omega, ?_⟩
  obtain ⟨a, b⟩ := all_len h
  have c := listText_len_le (PyData.shownAll ds)
  simp only [PyData.shown]
  rw [b] at c
  have m : (L + 2) * ds.length ≤ (L + 2) * n := Nat.mul_le_mul_left _ hn
  rw [Nat.add_mul] at m
  omega
theorem Sz.tuple {k L n : Nat} {ds : List PyData} (h : ∀ d ∈ ds, Sz k L d) (hn : ds.length ≤ n) : Sz (k + 1) ((L + 2) * n + 3) (.tuple ds) := by
  refine ⟨by simp only [PyData.showable]; exact all_show h, by simp only [PyData.depth]; have := all_depth h; omega, ?_⟩
  obtain ⟨a, b⟩ := all_len h
  have c := tupleText_len_le (PyData.shownAll ds)
  simp only [PyData.shown]
  rw [b] at c
  have m : (L + 2) * ds.length ≤ (L + 2) * n := Nat.mul_le_mul_left _ hn
  rw [Nat.add_mul] at m
  omega
theorem Sz.ints {n : Nat} {us : List Int} (h : ∀ u ∈ us, u.natAbs < 10 ^ 100) (hn : us.length ≤ n) : Sz 1 (103 * n + 3) (.list (us.map PyData.int)) := by
  refine Sz.list (k := 0) (L := 101) (fun d hd => ?_) (by rw [List.length_map]; exact hn)
  obtain ⟨u, hu, rfl⟩ := List.mem_map.mp hd
  exact .int (h u hu)
end VR

/-! for i, x in enumerate(xs, start=k), and over reversed(xs). -/
namespace VE
open PySem PySem.Spec PyProof.Rows L2
section
variable {prog : Program} {w : World} {A : Around} {E : Value → Shared → Prop} {s : Shared}
theorem next_rev {it l : Addr} {i : Nat} {items : Array Value} {x : Value} {Q : Value → Shared → Prop} (hit : s.heap.IsRevIter it l (i : Int)) (hl : s.heap.IsList l items)
    (hx : items[i]? = some x) (hQ : ∀ h', h'.IsRevIter it l ((i : Int) - 1) → Heap.SameBut it s.heap h' → Q x { s with heap := h' }) :
    wpAny (model prog w) A (Builtin.SmallTypes.nextOf (.ref it)) Q E s := by
  obtain ⟨ob, g1, g2, g3⟩ := id hit
  obtain ⟨ol, k1, _, nl, k2⟩ := hl
  have slot := F.slot_lri_next
  unfold Builtin.SmallTypes.nextOf
  refine wpAny_bind (wpAny_callSpecial?_slot (name := Str.ofString "__next__") hit.typeIs slot (wpAny_call_entry slot hit.typeIs F.entry_lri_next ?_ (F.args_lri_next_1 _)))
  unfold Builtin.«list_reverseiterator.__next__» ; refine wpAny_bind (wpAny_of_eq (a := (Value.ref it, [])) rfl ?_)
  try dsimp only
  refine wpAny_bind (wpAny_field g1 g3 (x := rawInt (i : Int)) rfl ?_)
  show wpAny _ A.in1 (if (i : Int) < 0 then _ else _) _ _ s
  rw [if_neg (show ¬ (i : Int) < 0 by omega)]
  show wpAny _ A.in1 (field (.ref it) 0 >>= _) _ _ s
  refine wpAny_bind (wpAny_field g1 g3 (x := .ref l) rfl ?_)
  show wpAny _ A.in1 (seqItems? (.ref l) >>= _) _ _ s
  refine wpAny_bind (wpAny_seqItems k1 k2 ?_)
  simp only [Int.toNat_natCast, hx]
  refine wpAny_bind (wpAny_setField g1 g3 (by simp) ?_)
  have here : (s.heap.update it fun o => o.mapFields fun vs => vs.setIfInBounds 1 (rawInt ((i : Int) - 1))).IsRevIter it l ((i : Int) - 1) := by
    refine ⟨_, Heap.get?_update_self _ g1 (Obj.isFreed_of_fields (Obj.data_mapFields g3 _)), (Obj.cls_mapFields ..).trans g2, ?_⟩
    rw [Obj.data_mapFields g3]
    simp
  first
  | exact wpAny_pure ⟨x, rfl, wpAny_pure (hQ _ here (Heap.SameBut.update ..))⟩
  | exact wpAny_bind (wpAny_pure (wpAny_pure ⟨x, rfl, wpAny_pure (hQ _ here (Heap.SameBut.update ..))⟩))
theorem next_rev_end {it l : Addr} {Q : Value → Shared → Prop} (hh : A.handled = none) (hit : s.heap.IsRevIter it l (-1))
    (hE : ∀ h' e, Heap.ExtBut it s.heap h' → (∃ o, h'.get? e = some o ∧ o.cls = .type "StopIteration") → E (.ref e) { s with heap := h' }) :
    wpAny (model prog w) A (Builtin.SmallTypes.nextOf (.ref it)) Q E s := by
  obtain ⟨ob, g1, g2, g3⟩ := id hit
  have slot := F.slot_lri_next
  unfold Builtin.SmallTypes.nextOf
  refine wpAny_bind (wpAny_callSpecial?_slot (name := Str.ofString "__next__") hit.typeIs slot (wpAny_call_entry slot hit.typeIs F.entry_lri_next ?_ (F.args_lri_next_1 _)))
  unfold Builtin.«list_reverseiterator.__next__» ; refine wpAny_bind (wpAny_of_eq (a := (Value.ref it, [])) rfl ?_)
  try dsimp only
  refine wpAny_bind (wpAny_field g1 g3 (x := rawInt (-1)) rfl ?_)
  show wpAny _ A.in1 (if (-1 : Int) < 0 then _ else _) _ _ s
  rw [if_pos (show (-1 : Int) < 0 by decide)]
  refine wpAny_bind (wpAny_rule ?_)
  first
  | show wpAny _ A.in1 (newExc (.type "StopIteration") [] >>= _) _ _ _
  | (refine wpAny_bind ?_; show wpAny _ A.in1 (newExc (.type "StopIteration") [] >>= _) _ _ _)
  refine wpAny_bind ?_
  simp only [newExc, newTuple]
  refine wpAny_bind (wpAny_newObj_type ?_ (by size_fits)) ; refine wpAny_bind (m := firstArgMember _ _) (wpAny_of_eq (a := Value.none) (by first | rfl | (simp only [firstArgMember]; rfl)) ?_)
  refine wpAny_newObj_type ?_ (by size_fits)
  simp only [raiseNew]
  refine wpAny_bind (wpAny_handled ?_)
  first | rw [show A.in1.handled = none from hh] | rw [hh]
  refine wpAny_bind (wpAny_pure (wpAny_throw ?_))
  exact hE _ _ (((Heap.ExtBut.refl _ _).push _).push _) ⟨_, Heap.get?_push_size _ rfl, rfl⟩
end
theorem draws_rev {prog : Program} {w : World} {A : Around} (hh : A.handled = none) (it l : Addr) (hne : l ≠ it) (items : Array Value) :
    Draws prog w A it [it, l] items.size (fun i v => items[items.size - 1 - i]? = some v)
      (fun i h => i ≤ items.size ∧ h.IsRevIter it l ((items.size : Int) - 1 - (i : Int)) ∧ h.IsList l items) where
  live := fun _ _ st => let ⟨o, ho, _⟩ := st.2.1; ⟨o, ho⟩
  frame := fun _ _ _ st k => ⟨st.1, st.2.1.at fun o e => k it (by simp) o e, st.2.2.at fun o e => k l (by simp) o e⟩
  item := fun i s Q E hi st hQ => by
    obtain ⟨_, hit, hl⟩ := st
    rw [show (items.size : Int) - 1 - (i : Int) = ((items.size - 1 - i : Nat) : Int) by omega] at hit
    have hx : items[items.size - 1 - i]? = some (items[items.size - 1 - i]'(by omega)) := Array.getElem?_eq_getElem (by omega)
    refine next_rev hit hl hx fun h' hit' sb => hQ _ h' s.toks hx ⟨hi, ?_, hl.extBut sb.extBut hne⟩ sb
    rw [show (items.size : Int) - 1 - ((i + 1 : Nat) : Int) = ((items.size - 1 - i : Nat) : Int) - 1 by omega]
    exact hit'
  done := fun s Q E st hE => by
    obtain ⟨_, hit, _⟩ := st
    rw [show (items.size : Int) - 1 - (items.size : Int) = -1 by omega] at hit
    exact next_rev_end hh hit hE

/-- what may be iterated as it is: iter(v) is v -/
structure Self (v : Value) (H : Heap → Prop) : Prop where
  iter : ∀ (prog : Program) (w : World) (A : Around) (E : Value → Shared → Prop) (s : Shared) (Q : Value → Shared → Prop), H s.heap → Q v s → wpAny (model prog w) A (pyIter v) Q E s
theorem self_rev (it l : Addr) (i : Int) : Self (.ref it) fun h => h.IsRevIter it l i := ⟨fun _ _ _ _ _ _ h q => wpAny_pyIter_revIter h q⟩
set_option maxHeartbeats 4000000 in
theorem new_enum {v : Value} {H : Heap → Prop} (B : Self v H) (k : Int) (t : Tok) (hfit : Builtin.SmallTypes.fitsIndex k = true) :
    Meets (Builtin.«enumerate.__new__» ⟨[.type "enumerate", v], [(Str.ofString "start", .int k t)]⟩) (fun _ R s => H s.heap ∧
      R (.ok (.ret (.ref s.heap.objs.size))) { s with heap := s.heap.push { cls := .type "enumerate", data := .fields #[.none, .bool false, v, rawInt k, .none, .none] } }) := by
  refine .of_wp fun prog w A R s h => ?_
  obtain ⟨hp, g, d, tk, os⟩ := s
  obtain ⟨h1, h⟩ := h
  have hsub := sub_enumerate
  have hnf : (!Builtin.SmallTypes.fitsIndex k) = false := by rw [hfit] ; rfl
  have q1 : ∀ {A' : Around} {E : Value → Shared → Prop} {Q : Value → Shared → Prop}, Q v ⟨hp, g, d, tk, os⟩ → wpAny (model prog w) A' (pyIter v) Q E ⟨hp, g, d, tk, os⟩ := fun q => B.iter prog w _ _ _ _ h1 q
  have a1 : (Str.ofString "start" == ("start" : Str)) = true := by decide +kernel
  have a2 : (Str.ofString "start" != ("start" : Str)) = false := by decide +kernel
  have a3 : (Str.ofString "start" != ("iterable" : Str)) = true := by decide +kernel
  have a4 : (("start" : Str) == Str.ofString "start") = true := by decide +kernel
  have a5 : (("iterable" : Str) == Str.ofString "start") = false := by decide +kernel
  wp_walk using q1
  refine wpAny_stack_any fun st => wpAny_pure ?_
  split
  · rename_i c _ _ _ _ _
    cases (c == Value.type "enumerate")
    · wp_walk using q1
      exact ⟨_, rfl, h⟩
    · wp_walk using q1
      exact ⟨_, rfl, h⟩
  · wp_walk using q1
    exact ⟨_, rfl, h⟩
theorem call_enum {prog : Program} {w : World} {A : Around} {E : Value → Shared → Prop} {s : Shared} {v : Value} {H : Heap → Prop} {k : Int} {t : Tok} {Q : Value → Shared → Prop} (B : Self v H) (h1 : H s.heap)
    (b0 : -(2 ^ 63) ≤ k) (b1 : k < 2 ^ 63) (h : Q (.ref s.heap.objs.size) { s with heap := s.heap.push { cls := .type "enumerate", data := .fields #[.none, .bool false, v, rawInt k, .none, .none] } }) :
    wpAny (model prog w) A (call (.type "enumerate") [v] [(Str.ofString "start", .int k t)]) Q E s := by
  refine callType_newKw F.called_enumerate (by decide) (F.typeCall_enumerate_start _ _) (F.newCall_enumerate_start _ _) (fun obj => F.args_object_init_start obj _ _) F.entry_enumerate_new (new_enum B k t (fits_start b0 b1)) ⟨h1, ?_⟩
  exact ⟨⟨_, Heap.get?_push_size _ rfl, rfl⟩, h⟩
end VE
namespace VE
open PySem PySem.Spec PyProof.Rows L2
/-- k, k + 1, .. with the list at a (n items, which the loop leaves there) from its end, in new pairs -/
def Iter' (K : PySem.W.Frag) (a : Addr) (n : Nat) (k : Int) : It :=
  ⟨fun i H => i < n ∧ ∃ xs : List V, SqL K H a xs ∧ xs.length = n, fun i H v H' => ∃ T x, v = .ref T ∧ H T = none ∧ H' = upd H T (.tup [.int (k + (i : Nat)), x]) ∧ ∀ xs, SqL K H a xs → xs[n - 1 - i]? = some x,
    fun i H => n ≤ i ∧ ∃ xs : List V, SqL K H a xs ∧ xs.length = n⟩
theorem turn_enumRev {P : Program} {w : World} {K : PySem.W.Frag} {elts : List Expr} {kk : Nat} {tpos : Pos} (a e it : Addr) (n : Nat) (k : Int) (hai : a ≠ it) (hei : e ≠ it) (hea : e ≠ a) :
    Turn P w K (.Tuple elts kk tpos) (Iter' K a n k) [e, it] e (fun i h => (∃ old, IsEnum h e it (k + (i : Nat)) old) ∧ i ≤ n ∧ h.IsRevIter it a ((n : Int) - 1 - (i : Nat))) where
  mem := by simp
  obj := fun i h st b hb => by
    obtain ⟨⟨old, he⟩, _, o, ho, hc, hd⟩ := st
    have e' : b = e ∨ b = it := by simpa using hb
    rcases e' with z | z
    · rw [z]; exact ⟨_, he, fun v q => nomatch q⟩
    · rw [z]; exact ⟨o, ho, fun v q => by rw [hd] at q; cases q⟩
  keep := fun i h h' st kp => let ⟨⟨old, he⟩, hn, hi⟩ := st; ⟨⟨old, kp e (by simp) _ he⟩, hn, hi.at fun o q => kp it (by simp) o q⟩
  item := by
    intro X hP hw hK hc i pins s σ H E I hf st hg
    subst hP hw hK
    obtain ⟨⟨old, he⟩, hin, hit⟩ := st
    obtain ⟨hlt, xs, hq, hl⟩ := hg
    obtain ⟨its, rv, p, hz⟩ := I.list hq
    have hn : its.toArray.size = n := by rw [List.size_toArray, ← rv.length]; exact hl
    have hh : X.A.in1.handled = none := I.ok.hd hc
    have hel : e < s.heap.objs.size := Heap.lt_size he
    have hil : it < s.heap.objs.size := by obtain ⟨_, q, _⟩ := hit; exact Heap.lt_size q
    have D := draws_rev (prog := X.prog) (w := X.w) (A := X.A.in1) hh it a hai its.toArray
    rw [hn] at D
    refine wpAny_pyNext_enum_itemC D he ⟨hin, hit, p.isList⟩ hlt hei (by simp [hei, hea]) fun u h' tk hP ho hs' hT hsz hkp => ?_
    obtain ⟨_, hit', _⟩ := hs'
    have hx : xs[n - 1 - i]? = some (xs[n - 1 - i]'(by omega)) := List.getElem?_eq_getElem (by omega)
    obtain ⟨u', hu', ru⟩ := rv.get hx
    have hP' : its[n - 1 - i]? = some u := by simpa using hP
    have euu : u' = u := by rw [hP'] at hu'; exact (Option.some.inj hu').symm
    subst euu
    refine ⟨_, rfl, wpAny_letOwnedTupleGo_enum (s := { s with heap := h', toks := tk + 1 }) ho fun h'' he' sb => ?_⟩
    have hT2 : h''.get? s.heap.objs.size = some { cls := .type "tuple", data := .seq #[.int (k + (i : Nat)) tk, u'] } := (sb.2 _ (Nat.ne_of_gt hel)).trans hT
    have new : ObjOk X.prog X.w (upd H s.heap.objs.size (.tup [.int (k + (i : Nat)), xs[n - 1 - i]'(by omega)])) h'' s.heap.objs.size (.tup [.int (k + (i : Nat)), xs[n - 1 - i]'(by omega)]) :=
      ⟨by show 2 ≤ sizeLine; decide, [.int (k + (i : Nat)) tk, u'], .cons ⟨_, rfl⟩ (.cons ru .nil), ⟨_, hT2, rfl, _, rfl⟩⟩
    have I1 : Inv X pins σ (upd H s.heap.objs.size (.tup [.int (k + (i : Nat)), xs[n - 1 - i]'(by omega)])) { s with heap := h'', toks := tk + 1 } :=
      I.turnedNew (ch := [e, it]) (fun b ob hb q => (sb.2 b (fun z => hb (by simp [z]))).trans (hkp b ob (fun z => hb (by simp [z])) (fun z => hb (by simp [z])) q)) hf (Nat.le_refl _) new
    refine ⟨.ref s.heap.objs.size, _, I1, rfl, ⟨_, _, rfl, I.hok.fresh (Nat.le_refl _), rfl, fun ys hy => by rw [I.list_inj hy hq]; exact hx⟩, ⟨⟨u', ?_⟩, hlt, hit'.at fun o q => (sb.2 it (Ne.symm hei)).trans q⟩, fun b hb => ?_⟩
    · have e1 : k + ((i + 1 : Nat) : Int) = k + (i : Int) + 1 := by omega
      rw [e1]; exact he'
    · have hb' : b < s.heap.objs.size := by
        have e' : b = e ∨ b = it := by simpa using hb
        rcases e' with z | z
        · rw [z]; exact hel
        · rw [z]; exact hil
      rw [upd_ne (Nat.ne_of_lt hb')]
      exact (hf b hb).1
  done := by
    intro X hP hw hK hc i pins s σ H E I hf st hg
    subst hP hw hK
    obtain ⟨⟨old, he⟩, hin, hit⟩ := st
    obtain ⟨hge, xs, hq, hl⟩ := hg
    obtain ⟨its, rv, p, hz⟩ := I.list hq
    have hn : its.toArray.size = n := by rw [List.size_toArray, ← rv.length]; exact hl
    have hh : X.A.in1.handled = none := I.ok.hd hc
    obtain ⟨f0, f1, f2, f3, f4, f5⟩ := hf it (by simp)
    have D := draws_rev (prog := X.prog) (w := X.w) (A := X.A.in1) hh it a hai its.toArray
    rw [hn] at D
    have ei : i = n := by omega
    subst ei
    exact wpAny_pyNext_enum_endD D he ⟨Nat.le_refl _, hit, p.isList⟩ fun h' eb => ⟨rfl, I.turned (t' := s.toks) (fun b o hb q => eb b o hb q) f0 f1 f3 f4 f5⟩
  self := fun A i s Q E st h => let ⟨⟨_, he⟩, _⟩ := st; wpAny_pyIter_enum he h
theorem walk_enumRev {K : PySem.W.Frag} {a : Addr} {xs : List V} {k : Int} : Walk (Iter' K a xs.length k) xs.length (fun H => SqL K H a xs) (YPair (fun i => some (.int (k + (i : Nat)))) (fun i => xs[xs.length - 1 - i]?)) := by
  refine ⟨fun i _ hi q => ⟨hi, xs, q, rfl⟩, fun _ q => ⟨Nat.le_refl _, xs, q, rfl⟩, fun i H v H' _ q y => ?_⟩
  obtain ⟨T, x, h1, h2, h3, h4⟩ := y
  exact ⟨T, .int (k + (i : Nat)), x, h1, h2, h3, rfl, h4 xs q⟩
def iEnumRev (K : PySem.W.Frag) (ta : TA) (k : Int) : TI := fun σ H R => ta σ H fun vs H1 => ∃ (a : Addr) (xs : List V), vs = [.ref a] ∧ SqL K H1 a xs ∧ R (Iter' K a xs.length k) H1
section
variable {M : Model} {A : Around} {E : Value → Shared → Prop} {s : Shared} {env : Env}
theorem callWith_typeKw {pos : Pos} {T : String} {e : Expr} {rest : List Expr} {kws : List Keyword} {Q : Value → Shared → Prop} (hall : (backToKw pos (keywordEach kws env)).all (·.1.isSome) = true)
    (h : wpAny M A (spliced (backTo pos (starEach (e :: rest) env))) (fun vs s₁ => wpAny M A (evalAll ((backToKw pos (keywordEach kws env)).map (·.2)))
      (fun ks s₂ => wpAny M A (call (.type T) vs (((backToKw pos (keywordEach kws env)).filterMap (·.1)).zip ks)) Q E s₂) E s₁) E s)
    (hplain : ((backTo pos (starEach (e :: rest) env)).any (·.1) || (backToKw pos (keywordEach kws env)).any (·.1.isNone)) = false) (he : starEach (e :: rest) env = (false, eval e env) :: starEach rest env) :
    wpAny M A (callWith pos (.type T) [] (backTo pos (starEach (e :: rest) env)) (backToKw pos (keywordEach kws env))) Q E s := by
  unfold callWith
  refine wpAny_bind (wpAny_holding (wpAny_mono (evalArgs_kw2 (f := .type T) (Q := fun a s₁ => wpAny M A (call (.type T) a.pos a.kw) Q E s₁) hall h he) (fun a s₁ h₁ => wpAny_bind (wpAny_standAt ?_)) fun _ _ x => x))
  simp only [hplain]
  refine wpAny_bind (wpAny_pure ?_)
  exact wpAny_bind (wpAny_mono h₁ (fun r s₂ hr => wpAny_bind (wpAny_holding (wpAny_point (wpAny_pure hr)))) fun _ _ x => x)
theorem Call_kws {func : Expr} {args : List Expr} {kws : List Keyword} {pos : Pos} {Q : Value → Shared → Prop}
    (h : wpAny M A (eval func env) (fun f s₁ => wpAny M A (callWith pos f [] (backTo pos (starEach args env)) (backToKw pos (keywordEach kws env))) Q E s₁) E s)
    (he : eval (.Call func args kws pos) env = (do callWith pos (← eval func env) [] (backTo pos (starEach args env)) (backToKw pos (keywordEach kws env))) := by rfl) :
    wpAny M A (eval (.Call func args kws pos) env) Q E s := by
  rw [he]; exact wpAny_bind h
end
theorem pi_enumRev {X : Cx} {e : Expr} {ta : TA} {p p2 pos pos2 kp jp tpos : Pos} {j : Nat} {k : Int} {elts : List Expr} {kk : Nat} (hk0 : -(2 ^ 63) ≤ k) (hk1 : k < 2 ^ 63) (hg : Gl X "enumerate") (hm : X.mg "enumerate" = none) (hg2 : Gl X "reversed") (hm2 : X.mg "reversed" = none) (ha : PA X [e] ta)
    (hs : starEach [e] X.env = [(false, eval e X.env)] := by rfl)
    (hs2 : starEach [.Call (.Name "reversed" p2) [e] [] pos2] X.env = (false, eval (.Call (.Name "reversed" p2) [e] [] pos2) X.env) :: starEach [] X.env := by rfl)
    (hst : ∀ q, (backTo q (starEach [.Call (.Name "reversed" p2) [e] [] pos2] X.env)).any (·.1) = false := by exact fun _ => rfl)
    (hbs : eval (.Call (.Name "reversed" p2) [e] [] pos2) X.env = (do callWith pos2 (← eval (.Name "reversed" p2) X.env) [] (backTo pos2 (starEach [e] X.env)) (backToKw pos2 (keywordEach [] X.env))) := by rfl) :
    PI X (.Tuple elts kk tpos) (.Call (.Name "enumerate" p) [.Call (.Name "reversed" p2) [e] [] pos2] [⟨some "start", .Constant (.int k) j jp, kp⟩] pos) (iEnumRev X.K ta k) := by
  refine ⟨fun pins s σ H R I h => ?_⟩
  refine Call_kws (ld_blt I hg hm boot_enumerate (callWith_typeKw rfl (args_cons ?_ hs2) (by rw [hst]; rfl) hs2))
  refine Call_ (ld_blt I hg2 hm2 PyProof.Rows.boot_reversed (PyProof.Rows.callWith_type1 (thn (ha.run pos2 pins s σ H _ I h) fun us s1 ⟨vs, H1, I1, r1, q1⟩ => ?_) hs rfl)) hbs
  obtain ⟨a, xs, ex, hq, q⟩ := q1
  subst ex
  cases r1 with
  | cons r rr =>
    cases rr
    cases r
    obtain ⟨its, rv, p', hz⟩ := I1.list hq
    have hl := rv.length
    have hal : a < s1.heap.objs.size := by obtain ⟨_, _, z, _⟩ := p'; exact Heap.lt_size z
    refine call_reversed_list p'.isList (args_nil (kws_cons (wpAny_Constant_int (kws_nil ?_))))
    have sz1 : (s1.heap.push { cls := .type "list_reverseiterator", data := .fields #[.ref a, rawInt (((its.toArray.size : Nat) : Int) - 1)] }).objs.size = s1.heap.objs.size + 1 := Heap.size_push ..
    have hit0 : (s1.heap.push { cls := .type "list_reverseiterator", data := .fields #[.ref a, rawInt (((its.toArray.size : Nat) : Int) - 1)] }).IsRevIter s1.heap.objs.size a (((its.toArray.size : Nat) : Int) - 1) := ⟨_, Heap.get?_push_size _ rfl, rfl, rfl⟩
    refine call_enum (self_rev s1.heap.objs.size a (((its.toArray.size : Nat) : Int) - 1)) hit0 hk0 hk1 ?_
    have he : IsEnum ((s1.heap.push { cls := .type "list_reverseiterator", data := .fields #[.ref a, rawInt (((its.toArray.size : Nat) : Int) - 1)] }).push { cls := .type "enumerate", data := .fields #[.none, .bool false, .ref s1.heap.objs.size, rawInt k, .none, .none] }) (s1.heap.objs.size + 1) s1.heap.objs.size k .none := by
      have := Heap.get?_push_size (s1.heap.push { cls := .type "list_reverseiterator", data := .fields #[.ref a, rawInt (((its.toArray.size : Nat) : Int) - 1)] }) (o := { cls := .type "enumerate", data := .fields #[.none, .bool false, .ref s1.heap.objs.size, rawInt k, .none, .none] }) rfl
      rw [sz1] at this; exact this
    show wpAny _ _ (pyIter (.ref (s1.heap.push { cls := .type "list_reverseiterator", data := .fields #[.ref a, rawInt (((its.toArray.size : Nat) : Int) - 1)] }).objs.size)) _ _ _
    rw [sz1]
    refine wpAny_pyIter_enum he ?_
    have hit1 := hit0.at (h' := (s1.heap.push { cls := .type "list_reverseiterator", data := .fields #[.ref a, rawInt (((its.toArray.size : Nat) : Int) - 1)] }).push { cls := .type "enumerate", data := .fields #[.none, .bool false, .ref s1.heap.objs.size, rawInt k, .none, .none] }) fun o q => Heap.get?_push_of_some _ q
    refine ⟨s1.heap.objs.size + 1, [s1.heap.objs.size + 1, s1.heap.objs.size], _, _, H1, rfl, ?_, turn_enumRev a (s1.heap.objs.size + 1) s1.heap.objs.size xs.length k (Nat.ne_of_lt hal) (Nat.succ_ne_self _) (Nat.ne_of_gt (Nat.lt_succ_of_lt hal)), ⟨⟨.none, ?_⟩, Nat.zero_le _, ?_⟩, fun b hb => ?_, q⟩
    · exact I1.kept fun b ob q => Heap.get?_push_of_some _ (Heap.get?_push_of_some _ q)
    · rw [show k + ((0 : Nat) : Int) = k by omega]; exact he
    · rw [show (xs.length : Int) - 1 - ((0 : Nat) : Int) = ((its.toArray.size : Nat) : Int) - 1 by rw [List.size_toArray]; omega]; exact hit1
    · have e' : b = s1.heap.objs.size + 1 ∨ b = s1.heap.objs.size := by simpa using hb
      have hle : s1.heap.objs.size ≤ b := by
        rcases e' with z | z
        · rw [z]; exact Nat.le_add_right _ _
        · rw [z]; exact Nat.le_refl _
      exact I1.fpOk hle (I1.hok.fresh hle)
end VE

/-! A method called with keywords. -/
namespace VP
open PySem PySem.Spec PyProof.Rows L2
/-- o.m(e, .., k = v, ..) -/
def tMethKw (C : Addr) (m : Str) (n j : Nat) (sp : Sp) (gV : List V → List V → List V) (E : XK) (ta : TE) (t tk : TA) : TE := fun σ H Q =>
  ta σ H fun x H1 => ∃ a dx fs, x = .ref a ∧ H1 a = some (.ins C dx fs) ∧ fs.lookup m = none ∧
    t σ H1 fun vs H2 => tk σ H2 fun zs H3 => vs.length = n ∧ zs.length = j ∧ sp (gV (x :: vs) zs) H3 Q E
theorem pe_methKw {X : Cx} {CX : CXT} {k n : Nat} {f C : Addr} {fd : FuncData} {ps ks : List Str} {sp : Sp} {E : XK} {m : Str} {pos apos : Pos} {o e : Expr} {es : List Expr} {kws : List Keyword} {ta : TE} {t tk : TA}
    {g : List Value → List Value → List Value} {gV : List V → List V → List V} {pl : Sem Bool}
    (he : PE X o ta) (c : Cls X.K C) (hm : Meth X.K C m f) (F : FnOk X.prog X.w X.K X.mg X.base CX k f fd ps sp) (hr : Room k X.A)
    (hb : KBn X.K fd ps (n + 1) ks g gV) (hx : Passes CX X E) (ha : PA X (e :: es) t) (hkw : PK X kws tk)
    (hall : (backToKw pos (keywordEach kws X.env)).all (·.1.isSome) = true := by rfl) (hks : (backToKw pos (keywordEach kws X.env)).filterMap (·.1) = ks := by rfl)
    (hst : starEach (e :: es) X.env = (false, eval e X.env) :: starEach es X.env := by rfl)
    (hpl : ((backTo pos (starEach (e :: es) X.env)).any (·.1) || (backToKw pos (keywordEach kws X.env)).any (·.1.isNone)) = false := by rfl)
    (ht : eval (.Call (.Attribute o m apos) (e :: es) kws pos) X.env = (do
      let ov ← eval o X.env
      standAt apos.atName
      let (f, first) ← holding [ov] (getMethod ov m pl)
      callWith pos f first (backTo pos (starEach (e :: es) X.env)) (backToKw pos (keywordEach kws X.env))) := by rfl) :
    PE X (.Call (.Attribute o m apos) (e :: es) kws pos) (tMethKw C m n ks.length sp gV E ta t tk) := by
  constructor
  intro pins s σ H Q I h
  refine PySem.W.methodCall_KW (pl := pl) (thn (he.run pins s σ H _ I h) ?_) ht
  rintro u s1 ⟨x, H1, I1, rx, a, dx, fs, ex, ea, l, q⟩
  subst ex
  obtain rfl : u = Value.ref a := rx
  refine getmeth_ok I1 ea c hm l ?_
  refine PySem.W.callWith_KW (first := [.ref a]) (h₀ := X.base) I.ok.mod.kin hm.kp hall (thn (ha.run pos pins s1 σ H1 _ I1 q) ?_) hpl hst
  rintro us s2 ⟨vs, H2, I2, r, q2⟩
  refine thn (hkw.run pos pins s2 σ H2 _ I2 q2) ?_
  rintro ws s3 ⟨zs, H3, I3, rz, l1, l2, q3⟩
  refine ⟨I3.kIn, ?_⟩
  rw [hks]
  have r1 : Vals (V.ref a :: vs) (Value.ref a :: us) := .cons rfl r
  have rel := hb.rel r1 rz
  have len : (Value.ref a :: us).length = n + 1 := by rw [List.length_cons, ← r.length, l1]
  have bind := hb.to s3 (Value.ref a :: us) ws I3.kIn len (rz.length.symm.trans l2)
  show wpAny _ _ (call (.ref f) (Value.ref a :: us) (ks.zip ws)) _ _ _
  refine wpAny_call (codeAny_mono (F.run X.A X.stack s3 H3 ⟨Value.ref a :: us, ks.zip ws⟩ _ _ Q E hr I3.env0 bind rel q3) ?_)
  intro res s' hq
  match res, hq with
  | .error e, hq => exact hx pins σ H3 s3 e s' I3 hq
  | .ok (.ret u), hq => exact I3.after hq
  | .ok .next, hq => exact False.elim hq
  | .ok .brk, hq => exact False.elim hq
  | .ok .cont, hq => exact False.elim hq
end VP

/-! == and != by an own __eq__ whatever stands on the right, repr by an own __repr__, None in an f-string. -/
namespace VN
open PySem PySem.Spec PyProof.Rows L2

section
variable {prog : Program} {w : World} {A : Around} {E : Value → Shared → Prop} {s : Shared} {K : PySem.W.Frag} {x C L f : Addr} {h₀ : Heap} {m : Str → Option Value} {ox : Obj} {od : Option Obj} {b tb : Value}
theorem bound_builtin {M : Model} {name : Str} {id : String} {args : List Value} {Q : Option Value → Shared → Prop} (X : K.In s.heap) (I : PySem.W.InstAt s.heap x ox C od) (hs : PySem.W.findIn K (.ref C) name = some (some (.builtin id)))
    (hb : ∀ self, bindSpecial (.builtin id) self = pure (.builtin id, [self]))
    (h : wpAny M A (call (.builtin id) (.ref x :: args)) (fun v => Q (some v)) E s) : wpAny M A (callSpecialIfBound? (.ref x) name args) Q E s := by
  simp only [callSpecialIfBound?, bindSpecialIfBound?]
  refine wpAny_holding (wpAny_bind (wpAny_bind (wpAny_bind (I.type.here ((PySem.W.looks_findIn X hs).here ?_)))))
  refine wpAny_bind (wpAny_askSetting (wpAny_ite ?_))
  have fin : wpAny M A (call (.builtin id) ([.ref x] ++ args) >>= fun v => pure (some v)) Q E s := wpAny_bind (wpAny_mono h (fun v s' h' => wpAny_pure h') fun _ _ h' => h')
  split
  · exact wpAny_bind ((PySem.W.Looks.of_pure (hb _)).here (wpAny_pure (by exact fin)))
  · exact wpAny_tryCatch (wpAny_bind ((PySem.W.Looks.of_pure (hb _)).here (wpAny_pure (by exact fin))))
open Builtin in
theorem obj_ne {Q : Value → Shared → Prop} (hu : A.in1.units < cLine) (X : K.In s.heap) (I : PySem.W.InstAt s.heap x ox C od) (hm : PySem.W.mroIn K C (.type "object") = some true)
    (hs : PySem.W.findIn K (.ref C) "__eq__" = some (some (.ref f))) (hf : PySem.W.isFn K (.ref f) = true)
    (h : wpAny (model prog w) A.in1 (call (.ref f) [.ref x, b]) (fun v s' => ∃ r, v = .bool r ∧ Q (.bool (!r)) s') E s) : wpAny (model prog w) A (call (.builtin "object.__ne__") [.ref x, b]) Q E s := by
  refine wpAny_call (codeAny_call_builtin PySem.F.slot_zip_ne.plain PySem.F.cmpEntry_ne (PySem.W.check_slot (i := "object.__ne__") (owner := "object") (n := "__ne__") PySem.F.cmpKind_ne PySem.F.cmpSplit_ne (I.type.andThen (PySem.W.looks_mroIn X hm)) (PySem.F.cmpArgs_ne _ _) ?_))
  unfold Builtin.«object.__ne__»
  refine wpAny_bind (m := slotArgs "__ne__" 1 _) (wpAny_pure ?_)
  refine wpAny_bind (m := cRoomFor _ _) (wpAny_cRoomFor hu ?_)
  refine wpAny_bind (m := callSpecialIfBound? (.ref x) (Str.ofString "__eq__") _) (PySem.W.ifBound_K X I hs hf (wpAny_mono h (fun r s' hq => ?_) fun _ _ y => y))
  obtain ⟨r, rfl, hq⟩ := hq
  exact wpAny_bind (wpAny_truthy_bool (wpAny_pure hq))
theorem ne_K {Q : Value → Shared → Prop} (hu : A.units + 1 < cLine) (F : PyProof.Rows.Fr h₀ L s.heap m) (X₀ : K.In h₀) (I : PySem.W.InstAt s.heap x ox C od) (hb : PySem.W.Looks (model prog w) s.heap (typeOf b) tb) (hn : PySem.W.notFirst K C tb = true)
    (hne : PySem.W.findIn K (.ref C) "__ne__" = some (some (.builtin "object.__ne__"))) (hm : PySem.W.mroIn K C (.type "object") = some true)
    (hs : PySem.W.findIn K (.ref C) "__eq__" = some (some (.ref f))) (hf : PySem.W.isFn K (.ref f) = true)
    (h : wpAny (model prog w) A.in1 (call (.ref f) [.ref x, b]) (fun v s' => ∃ r, v = .bool r ∧ Q (.bool (!r)) s') E s) : wpAny (model prog w) A (richCompare .NotEq (.ref x) b) Q E s := by
  have X := X₀.keeps F.keep
  have hu1 : A.in1.units < cLine := by show A.units + 1 < _; exact hu
  have one : wpAny (model prog w) A (tryCompare (.ref x) (cmpInfo .NotEq).2.1 b) (fun r s' => ∃ v, r = some v ∧ Q v s') E s := by
    unfold tryCompare
    refine wpAny_bind (bound_builtin X I hne PySem.F.slot_zip_ne.bind (obj_ne hu1 X I hm hs hf (wpAny_mono h (fun v s' hv => ?_) fun _ _ e => e)))
    obtain ⟨r, rfl, q⟩ := hv
    exact ⟨r, rfl, wpAny_pure ⟨_, rfl, q⟩⟩
  unfold richCompare
  simp only [oneThing_ref]
  refine wpAny_holding (wpAny_bind (wpAny_cRoomFor (by omega) ?_))
  refine wpAny_bind (I.type.here (wpAny_bind (hb.here ?_)))
  split
  · rename_i q
    have e : PySem.W.subIn K tb (.ref C) = some false := by
      rcases Bool.or_eq_true_iff.mp hn with e | e
      · rw [beq_iff_eq.mp e] at q; simp at q
      · exact beq_iff_eq.mp e
    refine wpAny_bind ((PySem.W.looks_subIn X e).here ?_)
    simp only [Bool.false_eq_true, if_false]
    refine wpAny_bind (wpAny_mono one (fun r s' z => ?_) fun _ _ e => e)
    obtain ⟨v, rfl, hq⟩ := z
    exact wpAny_pure hq
  · refine wpAny_bind (wpAny_pure ?_)
    simp only [Bool.false_eq_true, if_false]
    refine wpAny_bind (wpAny_mono one (fun r s' z => ?_) fun _ _ e => e)
    obtain ⟨v, rfl, hq⟩ := z
    exact wpAny_pure hq
end

/-- what of the text is true of an own class that is only a class: its instances' type, isinstance, != -/
structure IsC (K : PySem.W.Frag) (C : Addr) : Prop where
  ic : PySem.W.isClsIn K C = true
  ty : PySem.W.typeIn K (.ref C) = some (.type "type")
  gc : PySem.W.findIn K (.ref C) "__class__" = some (some (.builtin "object.__class__"))
  gn : PySem.W.specialIn K (.builtin "object.__class__") "__get__" = some (some (.builtin "getset_descriptor.__get__"))
  tk : PySem.W.takesIn K (.builtin "object.__class__") = some true
  ob : PySem.W.mroIn K C (.type "object") = some true
  ne : PySem.W.findIn K (.ref C) "__ne__" = some (some (.builtin "object.__ne__"))
/-- the built-in classes of the values that occur -/
def kinds : List String := ["NoneType", "bool", "int", "str", "list", "tuple", "dict"]
def allTy (l : List Value) : Bool := l.all fun v => match v with | .type _ => true | _ => false
theorem kinds_mro : kinds.all (fun n => (PySem.fastBuiltinMro n).any allTy) = true := by decide +kernel
theorem sub_ty {K : PySem.W.Frag} {C : Addr} {n : String} (h : n ∈ kinds) : PySem.W.subIn K (.type n) (.ref C) = some false := by
  have k := List.all_eq_true.mp kinds_mro n h
  show Option.map (fun x => List.contains x (Value.ref C)) (PySem.fastBuiltinMro n) = some false
  cases e : PySem.fastBuiltinMro n with
  | none => rw [e] at k; cases k
  | some l =>
    rw [e] at k
    have k : allTy l = true := k
    show some (List.contains l (Value.ref C)) = some false
    congr 1
    rw [List.contains_eq_any_beq, List.any_eq_false]
    intro y hy c
    have e2 := eq_of_beq c
    have := List.all_eq_true.mp k y hy
    rw [← e2] at this
    cases this
theorem notFirst_ty {K : PySem.W.Frag} {C : Addr} {n : String} (h : n ∈ kinds) : PySem.W.notFirst K C (.type n) = true := by
  unfold PySem.W.notFirst
  rw [sub_ty h]
  simp
theorem notFirst_own {K : PySem.W.Frag} {C : Addr} : PySem.W.notFirst K C (.ref C) = true := by
  unfold PySem.W.notFirst
  simp
theorem kit_self {K : PySem.W.Frag} {C : Addr} : PySem.W.kitOne K (.ref C) (.ref C) = some true := by
  unfold PySem.W.kitOne
  rw [if_pos (by simp)]
theorem kit_no {K : PySem.W.Frag} {C : Addr} {n : String} (c : IsC K C) (h : n ∈ kinds) : PySem.W.kitOne K (.type n) (.ref C) = some false := by
  have hc : (PySem.W.clsIn K C).isSome = true := c.ic
  unfold PySem.W.kitOne
  rw [if_neg (by simp)]
  unfold PySem.W.kitCls
  show (if ((PySem.W.clsIn K C).isSome && PySem.W.typeIn K (.ref C) == some (.type "type")) = true then PySem.W.subIn K (.type n) (.ref C) else none) = some false
  rw [hc, c.ty, if_pos (by simp), sub_ty h]
theorem IsC.typ {K : PySem.W.Frag} {C a dx : Addr} {H : Hp} {fs : List (Str × V)} (c : IsC K C) (cl : Cls K C) (e : H a = some (.ins C dx fs)) : TyX K H (.ref a) (.ref C) := .base (.ins e cl c.gc c.gn c.tk c.ob)
def rOwn (K : PySem.W.Frag) (C : Addr) (sp : Sp) (E : XK) : R2 := fun x y H Q => ∃ a dx fs t, x = .ref a ∧ H a = some (.ins C dx fs) ∧ TyX K H y t ∧ PySem.W.notFirst K C t = true ∧ sp [x, y] H (fun v H' => ∃ b, v = .bl b ∧ Q (.bl b) H') E
def rOwnN (K : PySem.W.Frag) (C : Addr) (sp : Sp) (E : XK) : R2 := fun x y H Q => ∃ a dx fs t, x = .ref a ∧ H a = some (.ins C dx fs) ∧ TyX K H y t ∧ PySem.W.notFirst K C t = true ∧ sp [x, y] H (fun v H' => ∃ b, v = .bl b ∧ Q (.bl (!b)) H') E
def rReprOwn (C : Addr) (sp : Sp) (E : XK) : List V → Hp → VK → Prop := fun xs H Q => ∃ a dx fs, xs = [.ref a] ∧ H a = some (.ins C dx fs) ∧ sp [.ref a] H (fun v H' => ∃ y, v = .str y ∧ Q (.str y) H') E
section
variable {X : Cx} {CX : CXT} {k : Nat} {f C : Addr} {fd : FuncData} {ps : List Str} {sp : Sp} {E : XK}
theorem op_eqOwn (F : FnOk X.prog X.w X.K X.mg X.base CX k f fd ps sp) (hr : Room k X.A) (o : Meth X.K C "__eq__" f) (c : IsC X.K C) (hb : Binds X.K fd ps []) (hx : Passes CX X E) : OpR X (compareOp .Eq) (rOwn X.K C sp E) := by
  intro pins s σ H x y v u Q I rx ry h
  obtain ⟨a, dx, fs, t, rfl, ea, ty, nf, hsp⟩ := h
  obtain rfl : v = Value.ref a := rx
  obtain ⟨mA, J, _⟩ := ins_get I.hok ea
  obtain ⟨od, J, _⟩ := J.look
  obtain ⟨m, hF⟩ := I.fr
  obtain ⟨P, Z, p, _⟩ := kit_of I ry ty
  show wpAny (model X.prog X.w) X.A (richCompare .Eq (.ref a) u) (EP X pins σ Q) X.xe s
  refine PySem.W.cmp_K (op := .Eq) (tb := t) hr.units0 hF I.ok.mod.kin J (Z.ty _ _ I.kIn p) nf o.at_ o.fn ?_
  have hl := F.len _ _ _ _ hsp
  have r2 : Vals [V.ref a, y] [Value.ref a, u] := .cons rfl (.cons ry .nil)
  refine wpAny_call (codeAny_mono (F.run X.A X.stack s H ⟨[.ref a, u], []⟩ [.ref a, u] [.ref a, y] _ E hr I.env0 (by
    have := hb s [.ref a, u] I.kIn (by simpa using hl)
    simpa using this) r2 hsp) fun r s' hq => ?_)
  cases r with
  | error e => exact hx pins σ H s e s' I hq
  | ok fl =>
    cases fl with
    | ret w =>
      obtain ⟨z, H', I', rz, b, ez, q⟩ := I.after hq
      subst ez
      cases rz
      exact ⟨.bl b, H', I', rfl, q⟩
    | next => exact False.elim hq
    | brk => exact False.elim hq
    | cont => exact False.elim hq
theorem op_neOwn (F : FnOk X.prog X.w X.K X.mg X.base CX k f fd ps sp) (hr : Room (k + 1) X.A) (o : Meth X.K C "__eq__" f) (c : IsC X.K C) (hb : Binds X.K fd ps []) (hx : Passes CX X E) : OpR X (compareOp .NotEq) (rOwnN X.K C sp E) := by
  intro pins s σ H x y v u Q I rx ry h
  obtain ⟨a, dx, fs, t, rfl, ea, ty, nf, hsp⟩ := h
  obtain rfl : v = Value.ref a := rx
  obtain ⟨mA, J, _⟩ := ins_get I.hok ea
  obtain ⟨od, J, _⟩ := J.look
  obtain ⟨m, hF⟩ := I.fr
  obtain ⟨P, Z, p, _⟩ := kit_of I ry ty
  show wpAny (model X.prog X.w) X.A (richCompare .NotEq (.ref a) u) (EP X pins σ Q) X.xe s
  refine ne_K (tb := t) (by have := hr.un; omega) hF I.ok.mod.kin J (Z.ty _ _ I.kIn p) nf c.ne c.ob o.at_ o.fn ?_
  have hl := F.len _ _ _ _ hsp
  have r2 : Vals [V.ref a, y] [Value.ref a, u] := .cons rfl (.cons ry .nil)
  refine wpAny_call (codeAny_mono (F.run X.A.in1 X.stack s H ⟨[.ref a, u], []⟩ [.ref a, u] [.ref a, y] _ E hr.in1 I.env0.in1 (by
    have := hb s [.ref a, u] I.kIn (by simpa using hl)
    simpa using this) r2 hsp) fun r s' hq => ?_)
  cases r with
  | error e => exact hx pins σ H s e s' I hq
  | ok fl =>
    cases fl with
    | ret w =>
      obtain ⟨z, H', I', rz, b, ez, q⟩ := I.after hq
      subst ez
      cases rz
      exact ⟨b, rfl, .bl (!b), H', I', rfl, q⟩
    | next => exact False.elim hq
    | brk => exact False.elim hq
    | cont => exact False.elim hq
theorem call_reprOwn (F : FnOk X.prog X.w X.K X.mg X.base CX k f fd ps sp) (hr : Room (k + 1) X.A) (o : Meth X.K C "__repr__" f) (hb : Binds X.K fd ps []) (hx : Passes CX X E) :
    CallR X (.builtin "repr") (rReprOwn C sp E) := by
  intro pins s σ H xs us Q I r h
  obtain ⟨a, dx, fs, rfl, ea, hsp⟩ := h
  obtain ⟨u, rfl, ru⟩ := vals1 r
  obtain rfl : u = Value.ref a := ru
  obtain ⟨mA, J, _⟩ := ins_get I.hok ea
  obtain ⟨od, J, _⟩ := J.look
  obtain ⟨m, hF⟩ := I.fr
  refine PySem.W.repr_K hr.in1.units0 hF I.ok.mod.kin J o.at_ o.fn ?_
  have hl := F.len _ _ _ _ hsp
  refine wpAny_call (codeAny_mono (F.run X.A.in1 X.stack s H ⟨[.ref a], []⟩ [.ref a] [.ref a] _ E hr.in1 I.env0.in1 (by
    have := hb s [.ref a] I.kIn (by simpa using hl)
    simpa using this) (.cons rfl .nil) hsp) fun r s' hq => ?_)
  cases r with
  | error e => exact hx pins σ H s e s' I hq
  | ok fl =>
    cases fl with
    | ret w =>
      obtain ⟨z, H', I', rz, y, ez, q⟩ := I.after hq
      subst ez
      obtain ⟨t, rfl⟩ := rz
      exact ⟨.str y, H', I', ⟨t, rfl⟩, q⟩
    | next => exact False.elim hq
    | brk => exact False.elim hq
    | cont => exact False.elim hq
theorem units1 {k : Nat} {A : Around} (hr : Room k A) : A.units + 1 < cLine := by
  have := hr.un
  omega
/-- {x}: a text, an int or None -/
def tFmtN (te : TE) : TE := fun σ H Q => te σ H fun x H1 => (∃ y : Str, x = .str y ∧ y.length ≤ sizeLine ∧ Q (.str y) H1) ∨ (∃ i : Int, x = .int i ∧ i.natAbs.log2 < 1920 ∧ Q (.str (toString i)) H1) ∨ (x = .non ∧ Q (.str "None") H1)
theorem pe_fmtN {e : Expr} {te : TE} {pos : Pos} (he : PE X e te) : PE X (.FormattedValue e (-1) none pos) (tFmtN te) := by
  refine ⟨fun pins s σ H Q I h => ?_⟩
  refine wpAny_FormattedValue_plain (thn (he.run pins s σ H _ I h) fun v s1 hv => ?_)
  obtain ⟨x, H1, I1, r1, q⟩ := hv
  rcases q with ⟨y, rfl, hz, q⟩ | ⟨i, rfl, hz, q⟩ | ⟨rfl, q⟩
  · obtain ⟨t, rfl⟩ := r1
    exact wpAny_formatField_str ⟨.str y, H1, I1, ⟨t, rfl⟩, q⟩ ⟨.str y, H1, I1.tok _, ⟨_, rfl⟩, q⟩ hz
  · obtain ⟨t, rfl⟩ := r1
    exact wpAny_formatField_int hz ⟨.str (toString i), H1, I1.tok _, ⟨_, rfl⟩, q⟩
  · cases r1
    exact wpAny_formatField_none ⟨.str "None", H1, I1.tok _, ⟨_, rfl⟩, q⟩
/-- str(None), str(int) -/
def rStrIN : List V → Hp → VK → Prop := fun xs H Q => (∃ i : Int, xs = [.int i] ∧ i.natAbs.log2 < 1920 ∧ Q (.str (toString i)) H) ∨ (xs = [.non] ∧ Q (.str "None") H)
theorem call_strIN : CallR X (.type "str") rStrIN := by
  intro pins s σ H xs us Q I r h
  rcases h with ⟨i, rfl, hz, q⟩ | ⟨rfl, q⟩
  · obtain ⟨u, rfl, t, rfl⟩ := vals1 r
    exact PySem.P.str_of_int hz ⟨.str _, H, I.tok _, ⟨_, rfl⟩, q⟩
  · obtain ⟨u, rfl, ru⟩ := vals1 r
    cases ru
    exact PySem.P.str_of_none ⟨.str _, H, I.tok _, ⟨_, rfl⟩, q⟩
end
end VN

/-! Own errors over any built-in base, with an __init__ that is walked as a def: made, raised, asked. -/
namespace VX
open PySem PySem.Spec PyProof.Rows L2
/-- a built-in base of errors -/
structure Bs (B newId initId : String) (bmB : List Value) : Prop where
  bs : ExcBaseFacts B newId initId bmB
  st : StoreFacts B bmB "object.__setattr__" "object"
theorem bsV : Bs "ValueError" "ValueError.__new__" "ValueError.__init__" [.type "ValueError", .type "Exception", .type "BaseException", .type "object"] := ⟨F.excBase_ValueError, F.store_ValueError⟩
theorem bsR : Bs "RuntimeError" "RuntimeError.__new__" "RuntimeError.__init__" [.type "RuntimeError", .type "Exception", .type "BaseException", .type "object"] := ⟨F.excBase_RuntimeError, F.store_RuntimeError⟩
theorem bsL : Bs "LookupError" "LookupError.__new__" "LookupError.__init__" [.type "LookupError", .type "Exception", .type "BaseException", .type "object"] := ⟨F.excBase_LookupError, F.store_LookupError⟩
theorem bsA : Bs "ArithmeticError" "ArithmeticError.__new__" "ArithmeticError.__init__" [.type "ArithmeticError", .type "Exception", .type "BaseException", .type "object"] := ⟨F.excBase_ArithmeticError, F.store_ArithmeticError⟩
/-- what the written part says of an own class of errors -/
structure Own (K : PySem.W.Frag) (C : Addr) : Prop where
  base : ∃ B newId initId bmB, Bs B newId initId bmB ∧ PySem.W.excInitIn K C bmB newId = true ∧ PySem.W.excOver K C bmB = true
  hasD : PySem.W.hasDictIn K C = true
  setA : PySem.W.findIn K (.ref C) "__setattr__" = some (some (.builtin "object.__setattr__"))
  isE : PySem.W.subIn K (.ref C) (.type "BaseException") = some true
  isT : PySem.W.typeIn K (.ref C) = some (.type "type")
  keep : PySem.W.keepIn K (.ref C) = true

section
variable {prog : Program} {w : World} {A : Around} {R : Result → Shared → Prop} {hp : Heap} {g : Array GenState} {d : Drawn} {t : Nat} {os : OsState} {K : PySem.W.Frag} {x C : Addr} {f : Str} {tk : Tok} {v : Value} {fv : Array Value}
open Builtin Builtin.ObjectAttr PySem.W PySem.Calls
theorem own_cls (O : Own K C) : ∃ cd, clsIn K C = some cd ∧ cd.hasDict = true := any_some O.hasD
/-- the first field: the dict is laid -/
theorem st_first (O : Own K C) (X : K.In hp) (hx : hp.get? x = some { cls := .ref C, data := .fields fv }) (no : findIn K (.ref C) f = some none)
    (q : ∀ h2 tk2 dj, (∀ b o, b ≠ x → hp.get? b = some o → h2.get? b = some o) → hp.objs.size ≤ dj → dj ≠ x → h2.get? x = some { cls := .ref C, dict := some dj, data := .fields fv } →
      h2.Ns1 dj (fun y => if y = f then some v else none) → R (.ok (.ret .none)) ⟨h2, g, d, tk2, os⟩) :
    codeAny (model prog w) A (.call (.builtin "object.__setattr__") ⟨[.ref x, .str f tk, v], []⟩) R ⟨hp, g, d, t, os⟩ := by
  obtain ⟨B, nI, iI, bmB, S, _, ov⟩ := O.base
  obtain ⟨cd, hc, hh⟩ := own_cls O
  have J : InstAt hp x { cls := .ref C, data := .fields fv } C none := ⟨hx, rfl, rfl, trivial⟩
  have far : x ≠ hp.objs.size := Nat.ne_of_lt (Heap.lt_size hx)
  have look : Looks (model prog w) hp (classData C) cd := looks_clsIn X hc
  refine osa_openX (r := none) S.st X J ov (by unfold takerIn; rw [no]; rfl) fun b => ?_
  obtain ⟨nm, bs, mro, ns, qn, hd, sn, sb, ab, col, del⟩ := cd
  dsimp only at hh
  subst hh
  show wpAny _ _ (storeInOwnDict (.ref x) (.ref C) (.str f tk) f v b) _ _ _
  unfold storeInOwnDict ownDictForStores
  repeat (first | with_reducible refine HandSPX.store_in_new ?_ ?_ | with_reducible refine wpAny_loadPart_at hx ?_ | with_reducible refine look.at ?_ | wp_step)
  · exact ⟨_, #[], _, (Heap.get?_update_ne _ _ _ _ far.symm).trans (Heap.get?_push_at rfl rfl), rfl, fun e he => absurd he (by simp), fun _ => rfl⟩
  · intro h2 tk2 ns2 same
    have there : (hp.push { cls := .type "dict", data := .dict #[] }).get? x = some { cls := .ref C, data := .fields fv } := Heap.get?_push_of_some _ hx
    exact q h2 tk2 hp.objs.size
      (fun b o nb e => (same.2 b (Nat.ne_of_lt (Heap.lt_size e))).trans ((Heap.get?_update_ne _ _ _ _ nb).trans (Heap.get?_push_of_some _ e)))
      (Nat.le_refl _) far.symm ((same.2 x far).trans (Heap.get?_update_self _ there rfl)) ns2
/-- a further field -/
theorem st_more {dj : Addr} {m0 : Str → Option Value} {nl : List Str} (O : Own K C) (X : K.In hp) (hx : hp.get? x = some { cls := .ref C, dict := some dj, data := .fields fv }) (hn : hp.Ns1 dj m0) (hw : Within m0 nl) (hz : nl.length ≤ 1000)
    (no : findIn K (.ref C) f = some none)
    (q : ∀ h2 tk2, (∀ b o, b ≠ dj → hp.get? b = some o → h2.get? b = some o) → h2.Ns1 dj (fun y => if y = f then some v else m0 y) → R (.ok (.ret .none)) ⟨h2, g, d, tk2, os⟩) :
    codeAny (model prog w) A (.call (.builtin "object.__setattr__") ⟨[.ref x, .str f tk, v], []⟩) R ⟨hp, g, d, t, os⟩ := by
  obtain ⟨B, nI, iI, bmB, S, _, ov⟩ := O.base
  obtain ⟨cd, hc, hh⟩ := own_cls O
  obtain ⟨od, _, _, hod, _, _⟩ := hn.count hw
  have J : InstAt hp x { cls := .ref C, dict := some dj, data := .fields fv } C (some od) := ⟨hx, rfl, rfl, hod⟩
  have look : Looks (model prog w) hp (classData C) cd := looks_clsIn X hc
  refine osa_openX (r := none) S.st X J ov (by unfold takerIn; rw [no]; rfl) fun b => ?_
  obtain ⟨nm, bs, mro, ns, qn, hd, sn, sb, ab, col, del⟩ := cd
  dsimp only at hh
  subst hh
  show wpAny _ _ (storeInOwnDict (.ref x) (.ref C) (.str f tk) f v b) _ _ _
  unfold storeInOwnDict ownDictForStores
  repeat (first | with_reducible refine OEX.store_in_old hn hw hz ?_ | with_reducible refine wpAny_loadPart_at hx ?_ | with_reducible refine look.at ?_ | wp_step)
  exact fun h2 tk2 ns2 same => q h2 tk2 (fun b o nb e => (same.2 b nb).trans e) ns2
end

section
variable {X : Cx} {pins : List (Addr × Obj)} {σ : L2.St} {H : Hp} {s : Shared} {a C dj : Addr} {f : Str} {y : V} {u : Value} {fs : List (Str × V)} {Q : Unit → Shared → Prop} {E : Value → Shared → Prop} {A : Around}
/-- self.f = y on a new error -/
theorem put_first (O : Own X.K C) (I : Inv X pins σ H s) (e : H a = some (exo a C none)) (no : PySem.W.findIn X.K (.ref C) f = some none) (ry : RelV y u)
    (k : ∀ dj s2, H dj = none → dj ≠ a → Inv X pins σ (upd (upd H dj (exd dj [(f, y)])) a (exo a C (some dj))) s2 → Q () s2) : wpAny (model X.prog X.w) A (setAttr (.ref a) f u) Q E s := by
  obtain ⟨t1, ho⟩ := exo_at I.hok e
  obtain ⟨hp, g, d, t, os⟩ := s
  refine PySem.W.set_plain I.kIn (od := none) ⟨ho, rfl, rfl, trivial⟩ O.setA (st_first O I.kIn ho no fun h2 tk2 dj kp big nda hx hn => ?_)
  have free : H dj = none := I.hok.fresh big
  have far : ∀ {b : Addr} {o : Obj}, hp.get? b = some o → b ≠ dj := fun q => Nat.ne_of_lt (Nat.lt_of_lt_of_le (Heap.lt_size q) big)
  have nota : ∀ {b : Addr}, H b = none → b ≠ a := fun n z => by rw [z, e] at n; cases n
  have same : ∀ b u0, b ≠ a → H b = some u0 → upd (upd H dj (exd dj [(f, y)])) a (exo a C (some dj)) b = some u0 := fun b u0 nb q => by rw [upd_ne nb, upd_ne (ne_of_none q free)]; exact q
  refine k dj _ free nda (I.un (t' := tk2) ⟨fun b o q n _ _ => kp b o (nota n) q, fun b o q n _ _ => ⟨o.slots, kp b o (nota n) q⟩,
    fun b o q n _ => by rw [upd_ne (nota n), upd_ne (far q)]; exact n,
    fun b o q _ => if z : b = a then ⟨_, z ▸ hx⟩ else ⟨o, kp b o z q⟩,
    fun b xs q => same b _ (at_ne e q exo_tup) q, fun b o v q => same b _ (at_ne e q exo_frz) q, fun b ps q => ⟨#[], by rw [same b _ (at_ne e q exo_tbl) q]; simp⟩⟩ fun b o q => ?_)
  by_cases z : b = a
  · subst z; rw [upd_same] at q; cases q; exact exo_ok hx
  · rw [upd_ne z] at q
    by_cases z2 : b = dj
    · subst z2; rw [upd_same] at q; cases q
      exact exd_ok hn (relO_put (fs := []) ry fun _ => True.intro)
    · rw [upd_ne z2] at q
      refine (I.hok b o q).stay (fun c v hc w => kp c v ?_ w) (fun c hc => same c _ (at_ne e hc exo_own) hc) fun c xs hc => same c _ (at_ne e hc exo_tup) hc
      rcases hc with hc | hc
      · rw [hc]; exact z
      · exact at_ne e hc exo_own
/-- self.f = y, a further field -/
theorem put_more (O : Own X.K C) (I : Inv X pins σ H s) (e : H a = some (exo a C (some dj))) (ed : H dj = some (exd dj fs)) (hl : fs.length ≤ 900) (no : PySem.W.findIn X.K (.ref C) f = some none) (ry : RelV y u)
    (k : ∀ s2, Inv X pins σ (upd H dj (exd dj ((f, y) :: fs))) s2 → Q () s2) : wpAny (model X.prog X.w) A (setAttr (.ref a) f u) Q E s := by
  obtain ⟨t1, ho⟩ := exo_at I.hok e
  obtain ⟨mA, hn, rel⟩ := exd_at I.hok ed
  have hw := within_of rel
  obtain ⟨hp, g, d, t, os⟩ := s
  obtain ⟨od, _, _, hod, _, _⟩ := hn.count hw
  refine PySem.W.set_plain I.kIn (od := some od) ⟨ho, rfl, rfl, hod⟩ O.setA (st_more O I.kIn ho hn hw (by rw [List.length_map]; omega) no fun h2 tk2 kp hn2 => ?_)
  have hd : ∃ o, h2.get? dj = some o := by obtain ⟨o, _, _, z, _⟩ := hn2; exact ⟨o, z⟩
  exact k _ (I.write (t' := tk2) (x := dj) (e := dj) (by rw [ed]; exact True.intro) (.inl rfl) kp hd (exd_ok hn2 (relO_put ry rel)))
end

/-- self.f = e in an error's __init__ -/
def tPut (K : PySem.W.Frag) (f : Str) (to te : TE) : TS := fun D σ H => te σ H fun y H1 => to σ H1 fun x H2 => ∃ a C : Addr, x = .ref a ∧ Own K C ∧ PySem.W.findIn K (.ref C) f = some none ∧
  ((H2 a = some (exo a C none) ∧ ∀ dj, H2 dj = none → dj ≠ a → D.nx σ (upd (upd H2 dj (exd dj [(f, y)])) a (exo a C (some dj)))) ∨
    ∃ (dj : Addr) (fs : List (Str × V)), H2 a = some (exo a C (some dj)) ∧ H2 dj = some (exd dj fs) ∧ fs.length ≤ 900 ∧ D.nx σ (upd H2 dj (exd dj ((f, y) :: fs))))
/-- C(e, ..), by C's own __init__ -/
def tNew (C : Addr) (sp : Sp) (ta : TA) : L2.St → Hp → XK → Prop := fun σ H Q => ta σ H fun vs H1 => vs.length ≤ 1000 ∧ ∀ a, H1 a = none → sp (.ref a :: vs) (upd H1 a (exo a C none))
  (fun v H2 => v = .non ∧ ∃ (d : Addr) (fs : List (Str × V)), H2 a = some (exo a C (some d)) ∧ H2 d = some (exd d fs) ∧ H1 d = none ∧ Q (.ref C) (some d) (upd (del H2 a) d (.xd fs))) (fun _ _ _ => False)
section
variable {X : Cx} {o e : Expr} {es : List Expr} {to te : TE} {ta : TA} {f : Str} {p p' pos : Pos}
theorem ps_put (ho : PE X o to) (he : PE X e te) (hs : swapsWith e (some (.Attribute o f p')) pos.line X.env = pure false := by rfl) : PS X (.Assign [.Attribute o f p'] e pos) (tPut X.K f to te) := by
  refine ⟨fun pins s σ H D I h => plainObj_wpAny_Assign_Attribute (thn (he.run pins s σ H _ I h) ?_) hs⟩
  rintro v s1 ⟨y, H1, I1, r1, q1⟩
  refine thn (ho.run pins s1 σ H1 _ I1 q1) ?_
  rintro u s2 ⟨x, H2, I2, r2, a, C, rfl, O, no, q⟩
  obtain rfl : u = Value.ref a := r2
  rcases q with ⟨ea, q⟩ | ⟨dj, fs, ea, ed, hl, q⟩
  · exact put_first O I2 ea no r1 fun dj s3 n ne J => ⟨σ, _, J, q dj n ne⟩
  · exact put_more O I2 ea ed hl no r1 fun s3 J => ⟨σ, _, J, q⟩
theorem pmk_new {CX : CXT} {x : Str} {C fI : Addr} {k : Nat} {fd : FuncData} {ps : List Str} {sp : Sp} (O : Own X.K C) (iC : PySem.W.findIn X.K (.ref C) "__init__" = some (some (.ref fI))) (tI : PySem.W.typeIn X.K (.ref fI) = some (.type "function"))
    (Fi : FnOk X.prog X.w X.K X.mg X.base CX k fI fd ps sp) (hr : Room (k + 1) X.A) (hb : Binds X.K fd ps []) (hx : Passes CX X (fun _ _ _ => False)) (hg : Gl X x) (hm : X.mg x = some (.ref C)) (ha : PA X (e :: es) ta)
    (hdb : (x == ("__debug__" : Str)) = false := by decide) (he : starEach (e :: es) X.env = (false, eval e X.env) :: starEach es X.env := by rfl) (hpl : (backTo pos (starEach es X.env)).any (·.1) = false := by rfl) :
    PMk X (.Call (.Name x p) (e :: es) [] pos) (tNew C sp ta) := by
  intro pins s σ H Q I h
  obtain ⟨B, nI, iI, bmB, S, ini, _⟩ := O.base
  refine wpAny_Call_Name_kw (ld_glob I hg hm ?_ hdb)
  refine PySem.W.callWith_K (h₀ := X.base) I.ok.mod.kin O.keep (thn (ha.run pos pins s σ H _ I h) ?_) he hpl
  rintro us ⟨hp, g, dr, tk, os⟩ ⟨vs, H1, I1, r1, hz, q1⟩
  refine ⟨I1.kIn, ?_⟩
  show wpAny _ _ (call (.ref C) us) _ _ _
  obtain ⟨nm, N, qn, bs, bm, hdct, sn, sub, ab, col, dd, k0, k1, k2, k3, k5, hC, tail⟩ := PySem.W.excInit_of I1.kIn ini
  have up : hp.objs.size ≤ hp.objs.size + 1 := Nat.le_succ _
  have want := q1 (hp.objs.size + 1) (I1.hok.fresh up)
  have kept : ∀ b o, hp.get? b = some o → ((hp.push (PySem.W.kdv_tup us)).push (HandSPX.excO C hp.objs.size)).get? b = some o := fun b o z => Heap.get?_push_of_some _ (Heap.get?_push_of_some _ z)
  have new : ((hp.push (PySem.W.kdv_tup us)).push (HandSPX.excO C hp.objs.size)).get? (hp.objs.size + 1) = some (HandSPX.excO C hp.objs.size) := by heap_get
  have J : Inv X pins σ (upd H1 (hp.objs.size + 1) (exo (hp.objs.size + 1) C none)) ⟨(hp.push (PySem.W.kdv_tup us)).push (HandSPX.excO C hp.objs.size), g, dr, tk, os⟩ := I1.laid (t' := tk) kept up (exo_ok new)
  have rel : Vals (V.ref (hp.objs.size + 1) :: vs) (Value.ref (hp.objs.size + 1) :: us) := .cons rfl r1
  have len : (Value.ref (hp.objs.size + 1) :: us).length = ps.length := rel.length.symm.trans (Fi.len _ _ _ _ want)
  have bind := hb _ (Value.ref (hp.objs.size + 1) :: us) J.kIn (by rw [List.append_nil]; exact len)
  rw [List.append_nil] at bind
  refine wpAny_call (HandSPX.call_own S.bs tail hC (PySem.W.looks_findIn I1.kIn iC) (fun self => PySem.W.bind_fn I1.kIn self tI) (by rw [← Paired.length r1, sizeLine_eq]; omega)
    (codeAny_mono (Fi.run _ X.stack _ _ ⟨Value.ref (hp.objs.size + 1) :: us, []⟩ _ _ _ (fun _ _ _ => False) (hr.make C us []) (J.env0.make C us []) bind rel want) ?_))
  intro r s' w
  match r, w with
  | .error er, w => exact hx pins σ _ _ er s' J w
  | .ok .next, w => exact False.elim w
  | .ok .brk, w => exact False.elim w
  | .ok .cont, w => exact False.elim w
  | .ok (.ret u), w =>
    obtain ⟨v, H2, os2, bare2, un2, hok2, rv, rfl, d, fs, ea, ed, free, q2⟩ := w
    obtain ⟨h2, g2, d2, t2, os'⟩ := s'
    exact ⟨rv, mk_end (raises_own O.isE O.isT) I1 up kept un2 hok2 os2 bare2 ea ed free q2⟩
end

/-! ### what is asked of a caught error -/
structure Asked (K : PySem.W.Frag) (D : Addr) : Prop where
  cl : (PySem.W.clsIn K D).isSome = true
  ga : PySem.W.findIn K (.ref D) "__getattribute__" = some (some (.builtin "BaseException.__getattribute__"))
  gt : PySem.W.findIn K (.ref D) "__getattr__" = some none
  sb : PySem.W.subIn K (.ref D) (.type "BaseException") = some true
  cc : PySem.W.findIn K (.ref D) "__class__" = some (some (.builtin "object.__class__"))
  gn : PySem.W.specialIn K (.builtin "object.__class__") "__get__" = some (some (.builtin "getset_descriptor.__get__"))
  tk : PySem.W.takesIn K (.builtin "object.__class__") = some true
  mr : PySem.W.mroIn K D (.type "object") = some true
theorem isC {K : PySem.W.Frag} {C : Addr} (h : PySem.W.hasDictIn K C = true) : (PySem.W.clsIn K C).isSome = true := by
  obtain ⟨cd, e, _⟩ := PySem.W.any_some h
  rw [e]
  rfl
/-- isinstance(e, c), isinstance(e, (c, ..)) -/
def rAsk (K : PySem.W.Frag) (a : Addr) (cls : Value) (d : Option Addr) (D : Addr) : List V → Hp → VK → Prop := fun xs H Q => cls = .ref D ∧ ∃ (dj : Addr) (fs : List (Str × V)) (c : V) (b : Bool), d = some dj ∧ H dj = some (.xd fs) ∧ xs = [.ref a, c] ∧
  ((∃ cv, (∀ u, RelV c u → u = cv) ∧ PySem.W.kitOne K (.ref D) cv = some b) ∨ ∃ (tp : Addr) (cs : List V) (us : List Value), c = .ref tp ∧ H tp = some (.tup cs) ∧ (∀ ws, Vals cs ws → ws = us) ∧ PySem.W.kitAny K (.ref D) us = some b) ∧ Q (.bl b) H
theorem call_ask {X : Cx} {a D : Addr} {oe : Obj} {cls : Value} {d : Option Addr} {pn : List (Addr × Obj)} (C : Asked X.K D) (hz : Zc cls d oe) (hf : ∃ vs, oe.data = .fields vs) : CallR (X.suite a ((a, oe) :: pn)) (.builtin "isinstance") (rAsk X.K a cls d D) := by
  intro pins s σ H xs us Q I r h
  obtain ⟨rfl, dj, fs, c, b, rfl, hd, rfl, ask, q⟩ := h
  obtain ⟨u1, u2, rfl, r1, r2⟩ := vals2 r
  obtain rfl : u1 = Value.ref a := r1
  obtain ⟨there, _⟩ := I.pin (a, oe) (List.mem_append.mpr (.inl List.mem_cons_self))
  obtain ⟨vs, hv⟩ := hf
  have low : ObjOk X.prog X.w H s.heap dj (.xd fs) := I.hok dj _ hd
  obtain ⟨mA, ⟨od, es, ep, ho, _⟩, _⟩ := low
  have J : PySem.W.InstAt s.heap a oe D (some od) := ⟨there, hz.1, by unfold PySem.W.notCls; rw [hv] <;> rfl, by rw [hz.2]; exact ho⟩
  have Z := PySem.W.kitx_exc (x := a) (ox := oe) (od := some od) C.cl C.ga C.gt C.sb C.cc C.gn C.tk C.mr
  have fin : ∀ tk : Nat, EP (X.suite a ((a, oe) :: pn)) pins σ Q (.bool b) { s with toks := tk } := fun tk => ⟨.bl b, H, I.kept (t' := tk) fun _ _ z => z, rfl, q⟩
  rcases ask with ⟨cv, hc, e⟩ | ⟨tp, cs, ws, rfl, ht, hc, e⟩
  · rw [hc u2 r2]
    exact PySem.W.kia_one Z I.kIn J e (fun z => nomatch z) fin
  · obtain rfl : u2 = Value.ref tp := r2
    have tup : ObjOk X.prog X.w H s.heap tp (.tup cs) := I.hok tp _ ht
    obtain ⟨_, its, rv, o, h1, h2, n, h3⟩ := tup
    rw [← hc its rv] at e
    obtain ⟨oc, oda, dt, sl⟩ := o
    simp only at h2 h3
    subst h2 h3
    exact PySem.W.kia_tup Z I.kIn J h1 e (fun z => nomatch z) fin
end VX

/-! The greatest number of units in windows; the form of such a curve; curves at most others; plain Lean. -/
namespace VM
def maxTo (g : Nat → Int) : Nat → Int
  | 0 => g 0
  | n + 1 => max (maxTo g n) (g (n + 1))
theorem maxTo_ge {g : Nat → Int} : ∀ {n i : Nat}, i ≤ n → g i ≤ maxTo g n
  | 0, i, h => by have : i = 0 := by omega
                  subst this; exact Int.le_refl _
  | n + 1, i, h => by
    unfold maxTo
    by_cases c : i = n + 1
    · subst c; omega
    · have := maxTo_ge (g := g) (n := n) (i := i) (by omega)
      omega
theorem maxTo_at {g : Nat → Int} : ∀ n : Nat, ∃ i, i ≤ n ∧ maxTo g n = g i
  | 0 => ⟨0, Nat.le_refl _, rfl⟩
  | n + 1 => by
    obtain ⟨i, hi, e⟩ := maxTo_at (g := g) n
    unfold maxTo
    by_cases c : maxTo g n ≤ g (n + 1)
    · exact ⟨n + 1, Nat.le_refl _, by omega⟩
    · exact ⟨i, by omega, by omega⟩
theorem maxTo_is {g : Nat → Int} {n : Nat} {m : Int} (h : m ∈ (List.range (n + 1)).map g) (h2 : ∀ y ∈ (List.range (n + 1)).map g, y ≤ m) : m = maxTo g n := by
  obtain ⟨i, hi, e⟩ := maxTo_at (g := g) n
  obtain ⟨j, hj, ej⟩ := List.mem_map.mp h
  have a := h2 (g i) (List.mem_map.mpr ⟨i, List.mem_range.mpr (by omega), rfl⟩)
  have b := maxTo_ge (g := g) (n := n) (i := j) (by have := List.mem_range.mp hj; omega)
  omega
/-- the greatest number of units in k successive ticks -/
def mostM (us : List Int) (k : Nat) : Int := if us.length ≤ k then us.sum else maxTo (fun s => win us s k) (us.length - k)
theorem win_all {us : List Int} : win us ((0 : Nat) : Int) us.length = us.sum := by
  unfold win
  rw [show ((0 : Nat) : Int) + (us.length : Int) = us.length by omega, pre_all, show ((0 : Nat) : Int) = 0 from rfl, pre_zero]
  omega
theorem most_ge {us : List Int} {s k : Nat} (h : s + k ≤ us.length) : win us s k ≤ mostM us k := by
  unfold mostM
  by_cases c : us.length ≤ k
  · rw [if_pos c]
    have e : s = 0 := by omega
    have e2 : k = us.length := by omega
    subst e e2
    rw [win_all]
    exact Int.le_refl _
  · rw [if_neg c]
    exact maxTo_ge (g := fun s => win us s k) (n := us.length - k) (i := s) (by omega)
theorem most_at {us : List Int} {k : Nat} (h : k ≤ us.length) : ∃ s : Nat, s + k ≤ us.length ∧ mostM us k = win us s k := by
  unfold mostM
  by_cases c : us.length ≤ k
  · rw [if_pos c]
    have e2 : k = us.length := by omega
    subst e2
    exact ⟨0, by omega, win_all.symm⟩
  · rw [if_neg c]
    obtain ⟨s, hs, e⟩ := maxTo_at (g := fun s : Nat => win us s k) (us.length - k)
    exact ⟨s, by omega, e⟩
theorem most_far {us : List Int} {k : Nat} (h : us.length ≤ k) : mostM us k = us.sum := by unfold mostM; rw [if_pos h]
theorem pre_mono {us : List Int} (N : ∀ u ∈ us, 0 ≤ u) (i : Nat) (h : i < us.length) : pre us i ≤ pre us ((i : Int) + 1) := by
  rw [pre_step h]
  have := N us[i] (List.getElem_mem h)
  rw [List.getD_eq_getElem?_getD, List.getElem?_eq_getElem h]
  show _ ≤ _ + us[i]
  omega
theorem most_zero {us : List Int} : mostM us 0 = 0 := by
  obtain ⟨s, hs, e⟩ := most_at (us := us) (k := 0) (Nat.zero_le _)
  rw [e]
  unfold win
  rw [show (s : Int) + ((0 : Nat) : Int) = s by omega]
  omega
theorem most_up {us : List Int} (N : ∀ u ∈ us, 0 ≤ u) (k : Nat) : mostM us k ≤ mostM us (k + 1) := by
  by_cases c : us.length ≤ k
  · rw [most_far c, most_far (by omega)]
    exact Int.le_refl _
  · obtain ⟨s, hs, e⟩ := most_at (us := us) (k := k) (by omega)
    rw [e]
    by_cases d : s + (k + 1) ≤ us.length
    · have a := most_ge (us := us) (s := s) (k := k + 1) d
      have b := pre_mono N (s + k) (by omega)
      unfold win at a ⊢
      rw [show (s : Int) + ((k + 1 : Nat) : Int) = ((s + k : Nat) : Int) + 1 by omega] at a
      rw [show (s : Int) + (k : Int) = ((s + k : Nat) : Int) by omega]
      omega
    · have a := most_ge (us := us) (s := s - 1) (k := k + 1) (by omega)
      have b := pre_mono N (s - 1) (by omega)
      unfold win at a ⊢
      rw [show ((s - 1 : Nat) : Int) + ((k + 1 : Nat) : Int) = (s : Int) + k by omega] at a
      rw [show ((s - 1 : Nat) : Int) + 1 = (s : Int) by omega] at b
      omega
theorem most_mono {us : List Int} (N : ∀ u ∈ us, 0 ≤ u) (a : Nat) : ∀ d : Nat, mostM us a ≤ mostM us (a + d)
  | 0 => Int.le_refl _
  | d + 1 => Int.le_trans (most_mono N a d) (most_up N (a + d))
theorem most_nn {us : List Int} (N : ∀ u ∈ us, 0 ≤ u) (a : Nat) : 0 ≤ mostM us a := by
  have := most_mono N 0 a
  rw [most_zero, Nat.zero_add] at this
  exact this
theorem most_sum {us : List Int} (N : ∀ u ∈ us, 0 ≤ u) (a : Nat) : mostM us a ≤ us.sum := by
  by_cases c : us.length ≤ a
  · rw [most_far c]; exact Int.le_refl _
  · have := most_mono N a (us.length - a)
    rw [most_far (us := us) (k := a + (us.length - a)) (by omega)] at this
    exact this
/-- the function of the tightest curve -/
def tF (us : List Int) (t : Int) : Int := mostM us t.toNat
theorem tF_zero {us : List Int} : tF us 0 = 0 := most_zero
theorem tF_nat {us : List Int} {k : Nat} : tF us k = mostM us k := by unfold tF; rw [Int.toNat_natCast]
theorem most_add {us : List Int} (N : ∀ u ∈ us, 0 ≤ u) (a b : Nat) : mostM us (a + b) ≤ mostM us a + mostM us b := by
  have key : ∀ k a b : Nat, k ≤ us.length → k = a + b → mostM us k ≤ mostM us a + mostM us b := fun k a b hk e => by
    obtain ⟨s, hs, q⟩ := most_at (us := us) hk
    have w1 := most_ge (us := us) (s := s) (k := a) (by omega)
    have w2 := most_ge (us := us) (s := s + a) (k := b) (by omega)
    rw [q]
    unfold win at *
    rw [show ((s + a : Nat) : Int) + (b : Int) = (s : Int) + k by omega] at w2
    rw [show ((s + a : Nat) : Int) = (s : Int) + a by omega] at w2
    omega
  by_cases c : a + b ≤ us.length
  · exact key _ a b c rfl
  · by_cases d : us.length ≤ a
    · have := most_nn N b
      rw [most_far (by omega), most_far d]
      omega
    · have z := key us.length a (us.length - a) (Nat.le_refl _) (by omega)
      have y := most_mono N (us.length - a) (b - (us.length - a))
      rw [show us.length - a + (b - (us.length - a)) = b by omega] at y
      rw [most_far (us := us) (k := a + b) (by omega)]
      rw [most_far (us := us) (k := us.length) (Nat.le_refl _)] at z
      omega
/-- the values that the package writes first -/
def tV (us : List Int) : List Int := if us = [] then [0] else vals (tF us) us.length
theorem tV_length {us : List Int} : (tV us).length = max us.length 1 := by
  unfold tV
  by_cases c : us = []
  · subst c; rfl
  · rw [if_neg c, vals_length]
    have : us.length ≠ 0 := fun z => c (List.length_eq_zero_iff.mp z)
    omega
theorem tV_at {us : List Int} : ∀ t : Int, 0 ≤ t → cvAt (tV us) 1 0 t = tF us t := by
  have R : Rep (tF us) (max us.length 1 : Nat) 1 0 := fun t ht => by
    unfold tF
    rw [most_far (by omega), most_far (by omega)]
    omega
  by_cases c : us = []
  · intro t ht
    subst c
    have e : tF [] = fun _ => 0 := by funext t; unfold tF; rw [most_far (Nat.zero_le _)]; rfl
    rw [e]
    have R0 : Rep (cvAt (tV []) 1 0) ((tV []).length : Nat) 1 0 := Rep.cvAt (by decide) (by decide)
    obtain ⟨n, rfl⟩ : ∃ n : Nat, t = n := ⟨t.toNat, by omega⟩
    induction n with
    | zero => exact cvAt_zero
    | succ n ih =>
      by_cases z : n = 0
      · subst z; rfl
      · rw [R0 _ (by show (((tV []).length : Nat) : Int) < _; rw [tV_length]; show ((max 0 1 : Nat) : Int) < _; omega), show ((n + 1 : Nat) : Int) - 1 = n by omega, ih (by omega)]
        rfl
  · have n0 : us.length ≠ 0 := fun z => c (List.length_eq_zero_iff.mp z)
    unfold tV
    rw [if_neg c]
    rw [show max us.length 1 = us.length by omega] at R
    exact cvAt_vals (by decide) (by omega) tF_zero R
theorem tV_p {us : List Int} : formP (tV us) 1 0 = (1, 0) := by
  show leastFrom _ _ _ (1 - 1 : Int).toNat 1 = _
  rw [show ((1 : Int) - 1).toNat = 0 from rfl]
  unfold leastFrom
  have R0 : Rep (cvAt (tV us) 1 0) ((tV us).length : Nat) 1 0 := Rep.cvAt (by decide) (by rw [tV_length]; omega)
  rw [R0 _ (by omega), show (((tV us).length : Nat) : Int) + 1 - 1 = (tV us).length by omega]
  congr 1
  omega
theorem shr_congr {f g : Int → Int} {s : Int} : ∀ m : Nat, (∀ t : Int, 0 ≤ t → f t = g t) → shr f 1 s m = shr g 1 s m
  | 0, _ => rfl
  | m + 1, h => by
    unfold shr
    rw [h _ (by omega), h (((m + 1 : Nat) : Int) - 1) (by omega), shr_congr m h]
theorem vals_congr {f g : Int → Int} {m : Nat} (h : ∀ t : Int, 0 ≤ t → f t = g t) : vals f m = vals g m := by
  unfold vals
  exact List.map_congr_left fun i _ => h _ (by omega)
/-- the form of the tightest curve -/
def tM (us : List Int) : Nat := shr (tF us) 1 0 (us.length + 1)
def tW (us : List Int) : List Int := vals (tF us) (tM us)
theorem tM_eq {us : List Int} : formM (tV us) 1 0 = tM us := by
  unfold formM tM
  rw [tV_p, shr_congr (g := tF us) _ tV_at, tV_length]
  by_cases c : us.length = 0
  · rw [c]; rfl
  · have : shr (tF us) 1 0 (us.length + 1) = shr (tF us) 1 0 us.length := by
      show (if (1 : Int) < ((us.length + 1 : Nat) : Int) ∧ _ then _ else _) = _
      rw [if_pos]
      refine ⟨by omega, ?_⟩
      rw [tF_nat, show ((us.length + 1 : Nat) : Int) - 1 = ((us.length : Nat) : Int) by omega, tF_nat, most_far (by omega), most_far (Nat.le_refl _)]
      omega
    rw [this, show max us.length 1 = us.length by omega]
theorem tW_eq {us : List Int} : formV (tV us) 1 0 = tW us := by
  unfold formV tW
  rw [tM_eq]
  exact vals_congr tV_at
theorem shr_pos {f : Int → Int} : ∀ m : Nat, 1 ≤ m → 1 ≤ shr f 1 0 m ∧ shr f 1 0 m ≤ m
  | 0, h => absurd h (by decide)
  | m + 1, _ => by
    unfold shr
    by_cases c : (1 : Int) < ((m + 1 : Nat) : Int) ∧ f ((m + 1 : Nat) : Int) = f (((m + 1 : Nat) : Int) - 1) + 0
    · rw [if_pos c]
      have := shr_pos (f := f) m (by omega)
      omega
    · rw [if_neg c]; omega
theorem tW_at {us : List Int} : ∀ t : Int, 0 ≤ t → cvAt (tW us) 1 0 t = tF us t := fun t ht => by
  obtain ⟨_, _, _, _, h⟩ := form_spec (vs := tV us) (p := 1) (g := 0) (by decide) (by rw [tV_length]; omega)
  have := h t ht
  rw [tW_eq, tV_p] at this
  rw [this, tV_at t ht]
theorem tW_len {us : List Int} : 1 ≤ (tW us).length ∧ (tW us).length ≤ us.length + 1 := by
  unfold tW
  rw [vals_length]
  exact shr_pos _ (by omega)
theorem tW_kept {us : List Int} : Kept (cvAt (tW us) 1 0) us := fun s k h1 h2 => by
  rw [tW_at _ (by omega), tF_nat]
  exact most_ge h2
theorem tW_good {us : List Int} (N : ∀ u ∈ us, 0 ≤ u) (a b : Int) (ha : 0 ≤ a) (hb : 0 ≤ b) : cvAt (tW us) 1 0 (a + b) ≤ cvAt (tW us) 1 0 a + cvAt (tW us) 1 0 b := by
  rw [tW_at _ (by omega), tW_at _ ha, tW_at _ hb]
  have := most_add N a.toNat b.toNat
  unfold tF
  rw [show (a + b).toNat = a.toNat + b.toNat by omega]
  exact this
/-! ### the record turned round, with an empty tick behind -/
theorem sum_rev (us : List Int) : us.reverse.sum = us.sum := by
  induction us with
  | nil => rfl
  | cons u us ih => rw [List.reverse_cons, List.sum_append, ih, List.sum_cons]; simp; omega
theorem pre_rev {us : List Int} {i : Nat} (h : i ≤ us.length) : pre us.reverse i = us.sum - pre us ((us.length - i : Nat) : Int) := by
  unfold pre
  rw [Int.toNat_natCast, Int.toNat_natCast, List.take_reverse, sum_rev]
  have e := List.take_append_drop (us.length - i) us
  have s : us.sum = (us.take (us.length - i)).sum + (us.drop (us.length - i)).sum := by rw [← List.sum_append, e]
  omega
theorem win_rev {us : List Int} {s k : Nat} (h : s + k ≤ us.length) : win us.reverse s k = win us ((us.length - s - k : Nat) : Int) k := by
  unfold win
  rw [show (s : Int) + (k : Int) = ((s + k : Nat) : Int) by omega, pre_rev h, pre_rev (by omega), show ((us.length - s - k : Nat) : Int) + (k : Int) = ((us.length - s : Nat) : Int) by omega, show us.length - (s + k) = us.length - s - k by omega]
  omega
theorem win_push {us : List Int} {x : Int} {s k : Nat} (h : s + k ≤ us.length) : win (us ++ [x]) s k = win us s k := by
  unfold win
  rw [pre_push (by omega), pre_push (by omega)]
theorem most_back {us : List Int} (N : ∀ u ∈ us, 0 ≤ u) (k : Nat) : mostM (us.reverse ++ [0]) k = mostM us k := by
  have len : (us.reverse ++ [0]).length = us.length + 1 := by rw [List.length_append, List.length_reverse]; rfl
  have sm : (us.reverse ++ [0]).sum = us.sum := by rw [List.sum_append, sum_rev]; simp
  by_cases c : us.length < k
  · rw [most_far (by omega), most_far (by omega), sm]
  · apply Int.le_antisymm
    · obtain ⟨s, hs, e⟩ := most_at (us := us.reverse ++ [0]) (k := k) (by omega)
      rw [len] at hs
      rw [e]
      by_cases d : s + k ≤ us.length
      · rw [win_push (by rw [List.length_reverse]; exact d), win_rev d]
        exact most_ge (by omega)
      · by_cases k0 : k = 0
        · subst k0
          rw [most_zero]
          unfold win
          rw [show (s : Int) + ((0 : Nat) : Int) = s by omega]
          omega
        · have p1 : pre (us.reverse ++ [0]) ((s : Int) + k) = us.sum := by
            rw [pre_last (by rw [List.length_reverse]; omega), pre_all, sum_rev]
            omega
          have p2 : pre (us.reverse ++ [0]) s = us.sum - pre us ((us.length - s : Nat) : Int) := by
            rw [pre_push (by rw [List.length_reverse]; omega), pre_rev (by omega)]
          have w : win (us.reverse ++ [0]) s k = win us ((0 : Nat) : Int) (k - 1 : Nat) := by
            unfold win
            rw [p1, p2, show ((0 : Nat) : Int) + ((k - 1 : Nat) : Int) = ((us.length - s : Nat) : Int) by omega, show ((0 : Nat) : Int) = 0 from rfl, pre_zero]
            omega
          rw [w]
          have a := most_ge (us := us) (s := 0) (k := k - 1) (by omega)
          have b := most_up N (k - 1)
          rw [show k - 1 + 1 = k by omega] at b
          omega
    · obtain ⟨s, hs, e⟩ := most_at (us := us) (k := k) (by omega)
      rw [e]
      have a := most_ge (us := us.reverse ++ [0]) (s := us.length - s - k) (k := k) (by omega)
      rw [win_push (by rw [List.length_reverse]; omega), win_rev (by omega), show us.length - (us.length - s - k) - k = s by omega] at a
      exact a
theorem tW_back {us : List Int} (N : ∀ u ∈ us, 0 ≤ u) : tW (us.reverse ++ [0]) = tW us := by
  have F : tF (us.reverse ++ [0]) = tF us := by
    funext t
    unfold tF
    exact most_back N t.toNat
  have M : tM (us.reverse ++ [0]) = tM us := by
    unfold tM
    rw [F, List.length_append, List.length_reverse]
    show shr (tF us) 1 0 (us.length + 1 + 1) = _
    show (if (1 : Int) < ((us.length + 1 + 1 : Nat) : Int) ∧ _ then _ else _) = _
    rw [if_pos]
    refine ⟨by omega, ?_⟩
    rw [tF_nat, show ((us.length + 1 + 1 : Nat) : Int) - 1 = ((us.length + 1 : Nat) : Int) by omega, tF_nat, most_far (by omega), most_far (by omega)]
    omega
  unfold tW
  rw [F, M]
/-! ### at most -/
/-- is one curve at most another one, as the package looks -/
def amN (n1 n2 : Nat) (p1 p2 : Int) : Nat := (max ((n1 : Int) - p1) ((n2 : Int) - p2) + (Nat.lcm p1.toNat p2.toNat : Nat)).toNat
def amM (f1 f2 : Int → Int) (n1 n2 : Nat) (p1 g1 p2 g2 : Int) : Bool :=
  if g2 * ((Nat.lcm p1.toNat p2.toNat : Nat) / p2) < g1 * ((Nat.lcm p1.toNat p2.toNat : Nat) / p1) then false else
    (List.range (amN n1 n2 p1 p2)).all fun i : Nat => decide (f1 ((i : Int) + 1) ≤ f2 ((i : Int) + 1))
theorem all_iff {n : Nat} {f g : Int → Int} : ((List.range n).all fun i : Nat => decide (f ((i : Int) + 1) ≤ g ((i : Int) + 1))) = true ↔ ∀ t : Int, 1 ≤ t → t ≤ n → f t ≤ g t := by
  rw [List.all_eq_true]
  constructor
  · intro h t h1 h2
    have := of_decide_eq_true (h (t - 1).toNat (List.mem_range.mpr (by omega)))
    rw [show (((t - 1).toNat : Nat) : Int) + 1 = t by omega] at this
    exact this
  · intro h i hi
    exact decide_eq_true (h _ (by omega) (by have := List.mem_range.mp hi; omega))
/-- the tightest curve is at most a curve exactly if the record keeps it -/
theorem am_tight {us : List Int} (N : ∀ u ∈ us, 0 ≤ u) {f : Int → Int} {n2 : Nat} {p g : Int} (hp : 0 < p) (hpn : p ≤ n2) (hg : 0 ≤ g) (h0 : 0 ≤ f 1) (up : ∀ k : Nat, 1 ≤ k → f k ≤ f ((k : Int) + 1)) :
    amM (cvAt (tW us) 1 0) f (tW us).length n2 1 0 p g = (List.range us.length).all fun i : Nat => decide (tF us ((i : Int) + 1) ≤ f ((i : Int) + 1)) := by
  have L : Nat.lcm (1 : Int).toNat p.toNat = p.toNat := by rw [show (1 : Int).toNat = 1 from rfl]; exact Nat.lcm_one_left _
  have fm : ∀ (d k : Nat), 1 ≤ k → f k ≤ f ((k + d : Nat) : Int) := fun d k hk => by
    induction d with
    | zero => exact Int.le_refl _
    | succ d ih =>
      have := up (k + d) (by omega)
      rw [show ((k + d : Nat) : Int) + 1 = ((k + (d + 1) : Nat) : Int) by omega] at this
      omega
  have fmi : ∀ a b : Int, 1 ≤ a → a ≤ b → f a ≤ f b := fun a b h1 h2 => by
    have := fm (b - a).toNat a.toNat (by omega)
    rw [show ((a.toNat + (b - a).toNat : Nat) : Int) = b by omega, show ((a.toNat : Nat) : Int) = a by omega] at this
    exact this
  obtain ⟨l1, l2⟩ := tW_len (us := us)
  have gg : ¬ g * ((Nat.lcm (1 : Int).toNat p.toNat : Nat) / p) < 0 * ((Nat.lcm (1 : Int).toNat p.toNat : Nat) / (1 : Int)) := by
    rw [L, Int.zero_mul, show ((p.toNat : Nat) : Int) = p by omega, Int.ediv_self (by omega)]
    omega
  unfold amM
  rw [if_neg gg, Bool.eq_iff_iff, all_iff, all_iff]
  have nn : ((amN (tW us).length n2 1 p : Nat) : Int) = max (((tW us).length : Int) - 1) ((n2 : Int) - p) + p := by
    unfold amN
    rw [L]
    omega
  constructor
  · intro h t h1 h2
    rw [← tW_at _ (by omega)]
    by_cases c : t ≤ (amN (tW us).length n2 1 p : Nat)
    · exact h t h1 c
    · have R : Rep (cvAt (tW us) 1 0) (tW us).length 1 0 := Rep.cvAt (by decide) (by omega)
      have flat : ∀ d : Nat, cvAt (tW us) 1 0 (((tW us).length + d : Nat) : Int) = cvAt (tW us) 1 0 (tW us).length := fun d => by
        induction d with
        | zero => rfl
        | succ d ih =>
          rw [R _ (by omega), show (((tW us).length + (d + 1) : Nat) : Int) - 1 = (((tW us).length + d : Nat) : Int) by omega, ih]
          omega
      have e := flat (t - (tW us).length).toNat
      rw [show (((tW us).length + (t - (tW us).length).toNat : Nat) : Int) = t by omega] at e
      rw [e]
      exact Int.le_trans (h _ (by omega) (by omega)) (fmi _ _ (by omega) (by omega))
  · intro h t h1 h2
    rw [tW_at _ (by omega)]
    by_cases c : t ≤ us.length
    · exact h t h1 c
    · unfold tF
      rw [most_far (by omega)]
      by_cases z : us.length = 0
      · have : us = [] := List.length_eq_zero_iff.mp z
        subst this
        exact Int.le_trans h0 (fmi 1 t (by decide) h1)
      · have a := h us.length (by omega) (Int.le_refl _)
        rw [tF_nat, most_far (Nat.le_refl _)] at a
        exact Int.le_trans a (fmi _ _ (by omega) (by omega))
end VM

/-! Data in an f-string, repr by an own __repr__ that shows data, lcm. -/
namespace VQ
open PySem PySem.Spec PyProof.Rows L2
section
variable {X : Cx}
/-- {x}: data that repr may be asked of -/
def tFmtD (K : PySem.W.Frag) (te : TE) : TE := fun σ H Q => te σ H fun x H1 => ∃ (a : Addr) (d : PyData), x = .ref a ∧ Dp K H1 x d ∧ d.showable = true ∧ d.depth ≤ 60 ∧ d.shown.length ≤ sizeLine ∧ Q (.str d.shown) H1
theorem pe_fmtD {e : Expr} {te : TE} {pos : Pos} (hg : X.A.guards = some []) (hu : X.A.units + 64 < cLine) (he : PE X e te) : PE X (.FormattedValue e (-1) none pos) (tFmtD X.K te) := by
  refine ⟨fun pins s σ H Q I h => wpAny_FormattedValue_plain (thn (he.run pins s σ H _ I h) ?_)⟩
  rintro v s1 ⟨x, H1, I1, r1, a, d, rfl, dp, sh, de, sz, q⟩
  obtain rfl : v = Value.ref a := r1
  have nd := (VG.dp_noDict X.K H1).1 d _ dp
  obtain ⟨as, rd⟩ := Dp.reads I1 d _ _ dp rfl
  exact formatField_of_reads rd sh (fun z => by rw [nd] at z; cases z) hg (by omega) (fun _ _ z => z) (fun h' u tk k => ⟨.str _, H1, I1.kept (t' := tk) k, ⟨_, rfl⟩, q⟩) sz
variable {CX : CXT} {k : Nat} {f C : Addr} {fd : FuncData} {ps : List Str} {sp : Sp} {E : XK}
/-- repr of an instance whose own __repr__ asks for empty guards -/
theorem call_reprOwnG (F : VG.FnG X.prog X.w X.K X.mg X.base CX k f fd ps sp) (hA : X.A.guards = some []) (hr : Room (k + 1) X.A) (o : Meth X.K C "__repr__" f) (hb : Binds X.K fd ps []) (hx : Passes CX X E) :
    CallR X (.builtin "repr") (VN.rReprOwn C sp E) := by
  intro pins s σ H xs us Q I r h
  obtain ⟨a, dx, fs, rfl, ea, hsp⟩ := h
  obtain ⟨u, rfl, ru⟩ := vals1 r
  obtain rfl : u = Value.ref a := ru
  obtain ⟨mA, J, _⟩ := ins_get I.hok ea
  obtain ⟨od, J, _⟩ := J.look
  obtain ⟨m, hF⟩ := I.fr
  have len := F.arity _ _ _ _ hsp
  have bind := hb s [.ref a] I.kIn (by simpa using len)
  rw [List.append_nil] at bind
  refine PySem.W.repr_K hr.in1.units0 hF I.ok.mod.kin J o.at_ o.fn (wpAny_call (codeAny_mono (F.go X.A.in1 X.stack s H ⟨[.ref a], []⟩ [.ref a] [.ref a] _ E hA hr.in1 I.env0.in1 bind (.cons rfl .nil) hsp) ?_))
  intro res s' hq
  match res, hq with
  | .error e, hq => exact hx pins σ H s e s' I hq
  | .ok .next, hq => exact False.elim hq
  | .ok .brk, hq => exact False.elim hq
  | .ok .cont, hq => exact False.elim hq
  | .ok (.ret w), hq =>
    obtain ⟨z, H', J', rz, y, rfl, q⟩ := I.after hq
    obtain ⟨t, rfl⟩ := rz
    exact ⟨.str y, H', J', ⟨t, rfl⟩, q⟩
/-- lcm of small numbers -/
def rLcm : List V → Hp → VK → Prop := fun vs H Q => ∃ a b : Int, vs = [.int a, .int b] ∧ 0 < a ∧ a ≤ 1000 ∧ 0 < b ∧ b ≤ 1000 ∧ Q (.int ((Nat.lcm a.toNat b.toNat : Nat) : Int)) H
theorem cr_lcm : CallR X (.builtin "math.lcm") rLcm := by
  intro pins s σ H vs us Q I r h
  obtain ⟨a, b, rfl, a0, a1, b0, b1, q⟩ := h
  obtain ⟨t, u, rfl⟩ := Vals.int2 r
  have ea : a.natAbs = a.toNat := by omega
  have eb : b.natAbs = b.toNat := by omega
  have z : (Nat.lcm 1 a.natAbs).lcm b.natAbs = Nat.lcm a.toNat b.toNat := by rw [Nat.lcm_one_left, ea, eb]
  have big : Nat.lcm a.toNat b.toNat ≤ 1000000 := by
    have p : Nat.lcm a.toNat b.toNat ∣ a.toNat * b.toNat := Nat.lcm_dvd_mul _ _
    have m := Nat.le_of_dvd (Nat.mul_pos (by omega) (by omega)) p
    have y : a.toNat * b.toNat ≤ 1000 * 1000 := Nat.mul_le_mul (by omega) (by omega)
    omega
  have lg : (Nat.lcm a.toNat b.toNat).log2 < 64 := by
    by_cases n0 : Nat.lcm a.toNat b.toNat = 0
    · rw [n0]; decide
    · exact (Nat.log2_lt n0).mpr (Nat.lt_of_le_of_lt big (by decide))
  refine PySem.W.mg_lcm (by omega) (by omega) ?_ ⟨.int _, H, I.tok _, ⟨_, rfl⟩, ?_⟩
  · rw [z, Int.natAbs_natCast]
    exact Nat.lt_trans lg (by decide)
  · rw [z]; exact q
end
end VQ

/-! The sum of two objects of an own class, by its own __add__. -/
namespace VO
open PySem PySem.Spec PyProof.Rows L2
def rAddOwn (C : Addr) (sp : Sp) (E : XK) : R2 := fun x y H Q => ∃ a dx fs b dy gs, x = .ref a ∧ H a = some (.ins C dx fs) ∧ y = .ref b ∧ H b = some (.ins C dy gs) ∧ sp [x, y] H (fun v H' => ∃ c, v = .ref c ∧ Q (.ref c) H') E
section
variable {X : Cx} {CX : CXT} {k : Nat} {f C : Addr} {fd : FuncData} {ps : List Str} {sp : Sp} {E : XK}
theorem op_addOwn (F : FnOk X.prog X.w X.K X.mg X.base CX k f fd ps sp) (hr : Room k X.A) (o : Meth X.K C "__add__" f) (c : PySem.W.selfFirst X.K C = true) (hb : Binds X.K fd ps []) (hx : Passes CX X E) : OpR X (binaryOp .Add) (rAddOwn C sp E) := by
  intro pins s σ H x y v u Q I rx ry h
  obtain ⟨a, dx, fs, b, dy, gs, rfl, ea, rfl, eb, hsp⟩ := h
  obtain rfl : v = Value.ref a := rx
  obtain rfl : u = Value.ref b := ry
  obtain ⟨mA, J, _⟩ := ins_get I.hok ea
  obtain ⟨od, J, _⟩ := J.look
  obtain ⟨mB, J2, _⟩ := ins_get I.hok eb
  obtain ⟨od2, J2, _⟩ := J2.look
  obtain ⟨m, hF⟩ := I.fr
  show wpAny (model X.prog X.w) X.A (binaryOp .Add (.ref a) (.ref b)) (EP X pins σ Q) X.xe s
  refine PySem.W.binop_K (op := .Add) hF I.ok.mod.kin J J2.type c o.at_ o.fn ?_
  have hl := F.len _ _ _ _ hsp
  have r2 : Vals [V.ref a, V.ref b] [Value.ref a, Value.ref b] := .cons rfl (.cons rfl .nil)
  refine wpAny_call (codeAny_mono (F.run X.A X.stack s H ⟨[.ref a, .ref b], []⟩ [.ref a, .ref b] [.ref a, .ref b] _ E hr I.env0 (by
    have := hb s [.ref a, .ref b] I.kIn (by simpa using hl)
    simpa using this) r2 hsp) fun r s' hq => ?_)
  cases r with
  | error e => exact hx pins σ H s e s' I hq
  | ok fl =>
    cases fl with
    | ret w =>
      obtain ⟨z, H', I', rz, b, ez, q⟩ := I.after hq
      subst ez
      cases rz
      exact ⟨.ref b, H', I', rfl, q⟩
    | next => exact False.elim hq
    | brk => exact False.elim hq
    | cont => exact False.elim hq
end
end VO

/-! The first break of a curve; a curve later; the sum of two. -/
namespace VM
theorem least_nat {P : Nat → Prop} (h : ∃ n, P n) : ∃ n, P n ∧ ∀ m, m < n → ¬ P m := by
  obtain ⟨n, hn⟩ := h
  induction n using Nat.strongRecOn with
  | ind n ih =>
    by_cases z : ∃ m, m < n ∧ P m
    · obtain ⟨m, hm, pm⟩ := z
      exact ih m hm pm
    · exact ⟨n, hn, fun m hm pm => z ⟨m, hm, pm⟩⟩
/-- the first break among all pairs, or that there is none -/
def First (f : Int → Int) : Option (Int × Int) → Prop
  | none => ∀ a b : Int, 1 ≤ a → a ≤ b → f (a + b) ≤ f a + f b
  | some (a, b) => 1 ≤ a ∧ a ≤ b ∧ f a + f b < f (a + b) ∧ ∀ x y : Int, 1 ≤ x → x ≤ y → (x + y < a + b ∨ (x + y = a + b ∧ x < a)) → f (x + y) ≤ f x + f y
theorem first_ex (f : Int → Int) : ∃ o, First f o := by
  by_cases h : ∃ s : Nat, ∃ a : Nat, 1 ≤ a ∧ 2 * a ≤ s ∧ f a + f (s - a) < f s
  · obtain ⟨s, ⟨a0, ha0⟩, hs⟩ := least_nat h
    obtain ⟨a, ⟨a1, a2, a3⟩, ha⟩ := least_nat (P := fun a : Nat => 1 ≤ a ∧ 2 * a ≤ s ∧ f a + f (s - a) < f s) ⟨a0, ha0⟩
    refine ⟨some ((a : Int), (s : Int) - a), by omega, by omega, ?_, fun x y hx hxy lt => ?_⟩
    · rw [show (a : Int) + (s - a) = s by omega]; exact a3
    · by_cases c : f (x + y) ≤ f x + f y
      · exact c
      · exfalso
        have e1 : ((x.toNat : Nat) : Int) = x := by omega
        have e2 : (((x + y).toNat : Nat) : Int) = x + y := by omega
        have key : 1 ≤ x.toNat ∧ 2 * x.toNat ≤ (x + y).toNat ∧ f (x.toNat : Nat) + f (((x + y).toNat : Nat) - (x.toNat : Nat) : Int) < f ((x + y).toNat : Nat) := by
          refine ⟨by omega, by omega, ?_⟩
          rw [e1, e2, show x + y - x = y by omega]
          omega
        rcases lt with lt | ⟨lt, lt2⟩
        · exact hs (x + y).toNat (by omega) ⟨x.toNat, key⟩
        · refine ha x.toNat (by omega) ?_
          have e3 : (x + y).toNat = s := by omega
          rw [e3] at key
          exact key
  · refine ⟨none, fun a b ha hab => ?_⟩
    by_cases c : f (a + b) ≤ f a + f b
    · exact c
    · exfalso
      apply h
      refine ⟨(a + b).toNat, a.toNat, by omega, by omega, ?_⟩
      rw [show ((a.toNat : Nat) : Int) = a by omega, show (((a + b).toNat : Nat) : Int) = a + b by omega, show a + b - a = b by omega]
      omega
theorem First.congr {f h : Int → Int} {o : Option (Int × Int)} (e : ∀ t : Int, 0 ≤ t → f t = h t) (F : First f o) : First h o := by
  cases o with
  | none => exact fun a b h1 h2 => by rw [← e (a + b) (by omega), ← e a (by omega), ← e b (by omega)]; exact F a b h1 h2
  | some ab =>
    obtain ⟨a, b⟩ := ab
    obtain ⟨a1, a2, a3, a4⟩ := F
    refine ⟨a1, a2, ?_, fun x y h1 h2 lt => ?_⟩
    · rw [← e (a + b) (by omega), ← e a (by omega), ← e b (by omega)]; exact a3
    · rw [← e (x + y) (by omega), ← e x (by omega), ← e y (by omega)]; exact a4 x y h1 h2 lt
/-- neither length of the first break is greater than the number of values -/
theorem first_le {f : Int → Int} {n p g a b : Int} (R : Rep f n p g) (hp : 0 < p) (hpn : p ≤ n) (F : First f (some (a, b))) : b ≤ n := by
  obtain ⟨a1, a2, a3, a4⟩ := F
  by_cases c : b ≤ n
  · exact c
  exfalso
  have r1 := R b (by omega)
  have r2 := R (a + b) (by omega)
  by_cases z : a ≤ b - p
  · have := a4 a (b - p) a1 z (.inl (by omega))
    rw [show a + (b - p) = a + b - p by omega] at this
    omega
  · have := a4 (b - p) a (by omega) (by omega) (.inl (by omega))
    rw [show b - p + a = a + b - p by omega] at this
    omega
/-- a function later by n -/
def laterF (f : Int → Int) (n : Int) (t : Int) : Int := if t ≤ n then 0 else f (t - n)
theorem later_vals {f : Int → Int} {n m : Nat} : List.replicate n (0 : Int) ++ vals f m = vals (laterF f n) (n + m) := by
  refine List.ext_getElem? fun i => ?_
  by_cases h : i < n
  · rw [List.getElem?_append_left (by rw [List.length_replicate]; exact h), List.getElem?_replicate, if_pos h]
    unfold vals
    rw [List.getElem?_map, List.getElem?_range (by omega)]
    show some (0 : Int) = some (laterF f n ((i : Int) + 1))
    unfold laterF
    rw [if_pos (by omega)]
  · rw [List.getElem?_append_right (by rw [List.length_replicate]; omega), List.length_replicate]
    unfold vals
    by_cases c : i < n + m
    · rw [List.getElem?_map, List.getElem?_map, List.getElem?_range (by omega), List.getElem?_range (by omega)]
      show some (f (((i - n : Nat) : Int) + 1)) = some (laterF f n ((i : Int) + 1))
      unfold laterF
      rw [if_neg (by omega), show ((i - n : Nat) : Int) + 1 = (i : Int) + 1 - n by omega]
    · rw [List.getElem?_eq_none (by simp; omega), List.getElem?_eq_none (by simp; omega)]
theorem later_rep {f : Int → Int} {n m p g : Int} (R : Rep f m p g) (hp : 0 < p) (hpm : p ≤ m) (hn : 0 ≤ n) (h0 : f 0 = 0) : Rep (laterF f n) (n + m) p g := by
  intro t ht
  unfold laterF
  by_cases c : t - p ≤ n
  · rw [if_neg (by omega), if_pos c]
    have := R (t - n) (by omega)
    rw [show t - n - p = 0 by omega, h0] at this
    exact this
  · rw [if_neg (by omega), if_neg c, R (t - n) (by omega), show t - n - p = t - p - n by omega]
theorem later_zero {f : Int → Int} {n : Int} (hn : 0 ≤ n) : laterF f n 0 = 0 := by unfold laterF; rw [if_pos hn]
theorem vals_self {cs : List Int} {p g : Int} : vals (cvAt cs p g) cs.length = cs := by
  refine List.ext_getElem? fun i => ?_
  unfold vals
  by_cases h : i < cs.length
  · rw [List.getElem?_map, List.getElem?_range h, List.getElem?_eq_getElem h]
    show some (cvAt cs p g ((i : Int) + 1)) = _
    rw [cvAt_in (by omega) (by omega), show ((i : Int) + 1 - 1).toNat = i by omega, List.getD_eq_getElem?_getD, List.getElem?_eq_getElem h]
    rfl
  · rw [List.getElem?_eq_none (by simp; omega), List.getElem?_eq_none (by omega)]
/-- zeros in front: the curve later -/
theorem cvAt_later {cs : List Int} {p g : Int} {n : Nat} (hp : 0 < p) (hpn : p ≤ cs.length) {t : Int} (ht : 0 ≤ t) :
    cvAt (List.replicate n 0 ++ cs) p g t = laterF (cvAt cs p g) n t := by
  have e : List.replicate n (0 : Int) ++ cs = vals (laterF (cvAt cs p g) n) (n + cs.length) := by
    rw [← later_vals, vals_self]
  rw [e]
  refine cvAt_vals hp (by omega) (later_zero (by omega)) ?_ t ht
  have := later_rep (n := (n : Int)) (Rep.cvAt (g := g) hp hpn) hp hpn (by omega) cvAt_zero
  rw [show (((n + cs.length : Nat)) : Int) = (n : Int) + cs.length by omega]
  exact this
theorem Rep.times {f : Int → Int} {n p g : Int} (R : Rep f n p g) (hp : 0 < p) (k : Nat) : ∀ t, n + (k : Int) * p < t + p → f t = f (t - k * p) + k * g := by
  induction k with
  | zero => intro t ht; simp
  | succ k ih =>
    intro t ht
    have e1 : ((k + 1 : Nat) : Int) * p = k * p + p := by rw [show ((k + 1 : Nat) : Int) = (k : Int) + 1 by omega, Int.add_mul, Int.one_mul]
    have e2 : ((k + 1 : Nat) : Int) * g = k * g + g := by rw [show ((k + 1 : Nat) : Int) = (k : Int) + 1 by omega, Int.add_mul, Int.one_mul]
    rw [e1] at ht ⊢
    rw [e2, ih t (by omega), R (t - k * p) (by omega), show t - k * p - p = t - (k * p + p) by omega]
    omega
/-- with a multiple of the period -/
theorem Rep.mul {f : Int → Int} {n p g N P : Int} (R : Rep f n p g) (hp : 0 < p) (hd : p ∣ P) (hP : 0 < P) (hN : n - p + P ≤ N) : Rep f N P (g * (P / p)) := by
  intro t ht
  obtain ⟨k, rfl⟩ := hd
  have k0 : 0 < k := by
    by_cases z : 0 < k
    · exact z
    · exfalso
      have := Int.mul_nonpos_of_nonneg_of_nonpos (show 0 ≤ p by omega) (show k ≤ 0 by omega)
      omega
  obtain ⟨m, rfl⟩ : ∃ m : Nat, k = (m : Int) := ⟨k.toNat, by omega⟩
  have := R.times hp m t (by rw [Int.mul_comm p] at hN; omega)
  rw [Int.mul_ediv_cancel_left _ (by omega : p ≠ 0), Int.mul_comm p, this, Int.mul_comm g]
theorem Rep.add {f h : Int → Int} {N P g1 g2 : Int} (R : Rep f N P g1) (S : Rep h N P g2) : Rep (fun t => f t + h t) N P (g1 + g2) := by
  intro t ht
  show f t + h t = f (t - P) + h (t - P) + (g1 + g2)
  rw [R t ht, S t ht]
  omega
end VM

/-! repr of data, or of an empty dict. -/
namespace VZ
open PySem PySem.Spec PyProof.Rows L2
def Dz (K : PySem.W.Frag) (H : Hp) (v : V) (d : PyData) : Prop := Dp K H v d ∨ ∃ a, v = .ref a ∧ H a = some (.dK []) ∧ d = .dict []
def rReprZ (K : PySem.W.Frag) : List V → Hp → VK → Prop := fun xs H Q =>
  ∃ v d, xs = [v] ∧ Dz K H v d ∧ d.showable = true ∧ d.depth ≤ 60 ∧ d.shown.length ≤ sizeLine ∧ Q (.str d.shown) H
theorem empty_show : (PyData.dict []).showable = true ∧ (PyData.dict []).depth ≤ 60 ∧ (PyData.dict []).shown.length ≤ sizeLine := ⟨rfl, by decide, by decide⟩
theorem call_reprZ {X : Cx} (hg : X.A.guards = some []) (hu : X.A.units + 64 < cLine) : CallR X (.builtin "repr") (rReprZ X.K) := by
  intro pins s σ H xs us Q I r h
  obtain ⟨v, d, rfl, hd, hs, hdep, hz, q⟩ := h
  rcases hd with hd | ⟨a, rfl, ha, rfl⟩
  · exact VG.call_repr hg hu pins s σ H _ us Q I r ⟨v, d, rfl, hd, hs, hdep, hz, q⟩
  · obtain ⟨u, rfl, rv⟩ := vals1 r
    cases rv
    obtain ⟨_, ns, vs, kv, o, es, ep, e1, e2, e3, e4, e5, e6⟩ := (show ObjOk X.prog X.w H s.heap a (.dK []) from I.hok a _ ha)
    cases kv
    have e0 : es.toList = [] := by
      cases h : es.toList with
      | nil => rfl
      | cons z zs => rw [h] at e5; cases e5
    have rd : Reads s.heap (.ref a) (.dict []) (a :: [] ++ []) := Reads.dict (es := es) e1 e2.1 e3 (by rw [e0]; exact .nil) (by rw [e0]; exact .nil)
    have keep : ∀ (h' : Heap) (t' : Nat), (∀ b o, s.heap.get? b = some o → h'.get? b = some o) → Inv X pins σ H { s with heap := h', toks := t' } :=
      fun h' t' k => I.kept (t' := t') k
    exact repr_of_reads' rd hs (fun _ m => by simp at m; subst m; simp at ns) hg (by omega) (fun _ _ e => e) (fun h' w tk k => ⟨.str _, H, keep h' tk k, ⟨_, rfl⟩, q⟩) hz
end VZ

/-! A method of an own class that may raise, called where errors are caught. -/
namespace VX
open PySem PySem.Spec PyProof.Rows L2
/-- a statement behind which nothing comes -/
def tStop (t : TS) : TS := fun D σ H => t { D with nx := fun _ _ => False } σ H
theorem pss_stop {X : Cx} {st : Stmt} {more : List Stmt} {t : TS} (h1 : PS X st t) : PSs X (st :: more) (tStop t) := by
  constructor
  intro pins s σ H D I hm
  refine wpAny_execs_cons (thn (h1.run pins s σ H _ I hm) ?_)
  intro fl s1 q
  match fl, q with
  | .next, ⟨σ', H', I', q⟩ => exact q.elim
  | .ret v, q => exact q
  | .brk, q => exact q
  | .cont, q => exact q
def tMethS (C : Addr) (m : Str) (sp : Sp) (E : L2.St → XK) (ta : TE) (t : TA) : TE := fun σ H Q => ta σ H fun x H1 => ∃ a dx fs, x = .ref a ∧ H1 a = some (.ins C dx fs) ∧ fs.lookup m = none ∧ t σ H1 fun vs H2 => sp (x :: vs) H2 Q (E σ)
theorem pe_fldK {X : Cx} {K' : PySem.W.Frag} {e : Expr} {ta : TE} {f : Str} {pos : Pos} (he : PE X e ta) (hb : attributeBase e f X.env (eval e X.env) = eval e X.env) (hK : X.K = K') : PE X (.Attribute e f pos) (tFld K' ta f) := by
  subst hK
  exact pe_fld he hb
section
variable {X : Cx} {CX : CXT} {k : Nat} {f C : Addr} {fd : FuncData} {ps : List Str} {sp : Sp} {E : L2.St → XK} {x m : Str} {p pos apos : Pos} {e o : Expr} {es : List Expr} {ta : TE} {t : TA}
theorem pe_methS {pl : Sem Bool} (he : PE X o ta) (c : Cls X.K C) (hm : Meth X.K C m f) (F : FnOk X.prog X.w X.K X.mg X.base CX k f fd ps sp) (hr : Room k X.A) (hb : Binds X.K fd ps []) (hx : ∀ σ, PassesAt CX X σ (E σ)) (ha : PA X (e :: es) t)
    (hst : starEach (e :: es) X.env = (false, eval e X.env) :: starEach es X.env := by rfl) (hpl : (backTo pos (starEach es X.env)).any (·.1) = false := by rfl)
    (ht : eval (.Call (.Attribute o m apos) (e :: es) [] pos) X.env = (do
      let ov ← eval o X.env
      standAt apos.atName
      let (f, first) ← holding [ov] (getMethod ov m pl)
      callWith pos f first (backTo pos (starEach (e :: es) X.env)) (backToKw pos (keywordEach [] X.env))) := by rfl) :
    PE X (.Call (.Attribute o m apos) (e :: es) [] pos) (tMethS C m sp E ta t) := by
  refine ⟨fun pins s σ H Q I h => ?_⟩
  refine PySem.W.methodCall_KW (pl := pl) (thn (he.run pins s σ H _ I h) fun u s1 ⟨x, H1, I1, rx, a, dx, fs, ex, ea, l, q⟩ => ?_) ht
  subst ex
  obtain rfl : u = Value.ref a := rx
  refine getmeth_ok I1 ea c hm l ?_
  refine PySem.W.callWith_K (first := [.ref a]) (h₀ := X.base) I.ok.mod.kin hm.kp (thn (ha.run pos pins s1 σ H1 _ I1 q) fun us s2 ⟨vs, H2, I2, r, q2⟩ => ⟨I2.kIn, ?_⟩) hst hpl
  exact run_fnS (us := .ref a :: us) (vs := .ref a :: vs) F hr hb (hx σ) I2 (.cons rfl r) q2
end
end VX

/-! The least length with something, of a function that repeats. -/
namespace VM
/-- the least length from lo on where h is positive, or that there is none -/
def LeastR (h : Int → Int) (lo : Int) : Option Int → Prop
  | none => ∀ t : Int, lo ≤ t → h t ≤ 0
  | some t => lo ≤ t ∧ 0 < h t ∧ ∀ s : Int, lo ≤ s → s < t → h s ≤ 0
theorem LeastR.uniq {h : Int → Int} {lo : Int} {o o' : Option Int} (a : LeastR h lo o) (b : LeastR h lo o') : o = o' := by
  cases o with
  | none =>
    cases o' with
    | none => rfl
    | some t => have := a t b.1; have := b.2.1; omega
  | some s =>
    cases o' with
    | none => have := b s a.1; have := a.2.1; omega
    | some t =>
      by_cases c : s < t
      · have := b.2.2 s a.1 c; have := a.2.1; omega
      · by_cases c2 : t < s
        · have := a.2.2 t b.1 c2; have := b.2.1; omega
        · rw [show s = t by omega]
theorem least_ex (h : Int → Int) (lo : Int) : ∃ o, LeastR h lo o := by
  by_cases c : ∃ n : Nat, 0 < h (lo + n)
  · obtain ⟨n, hn, no⟩ := least_nat c
    refine ⟨some (lo + n), by omega, hn, fun s h1 h2 => ?_⟩
    have := no (s - lo).toNat (by omega)
    rw [show lo + ((s - lo).toNat : Int) = s by omega] at this
    omega
  · refine ⟨none, fun t ht => ?_⟩
    by_cases z : 0 < h t
    · exact absurd ⟨(t - lo).toNat, by rw [show lo + ((t - lo).toNat : Int) = t by omega]; exact z⟩ c
    · omega
theorem filt_none {P : Nat → Bool} : ∀ {n : Nat}, (∀ i, i < n → P i = false) → (List.range n).filter P = []
  | n, h => by
    rw [List.filter_eq_nil_iff]
    intro i hi
    rw [h i (List.mem_range.mp hi)]
    decide
theorem filt_some {P : Nat → Bool} {t : Nat} (ht : P t = true) (no : ∀ i, i < t → P i = false) : ∀ {n : Nat}, t < n → ∃ ys, (List.range n).filter P = t :: ys := by
  intro n
  induction n with
  | zero => intro h; omega
  | succ n ih =>
    intro h
    rw [List.range_succ, List.filter_append]
    by_cases c : t < n
    · obtain ⟨ys, e⟩ := ih c
      rw [e]
      exact ⟨_, rfl⟩
    · have e : t = n := by omega
      subst e
      rw [filt_none no]
      refine ⟨[], ?_⟩
      simp [List.filter, ht]
theorem LeastR.congr {h k : Int → Int} {lo : Int} {o : Option Int} (e : ∀ t : Int, lo ≤ t → h t = k t) (a : LeastR h lo o) : LeastR k lo o := by
  cases o with
  | none => exact fun t ht => by rw [← e t ht]; exact a t ht
  | some t => exact ⟨a.1, by rw [← e t a.1]; exact a.2.1, fun s hs hst => by rw [← e s hs]; exact a.2.2 s hs hst⟩
/-- each length behind n is one of the last period and some periods more -/
theorem last_of {n p t : Int} (hp : 0 < p) (ht : n < t) : ∃ (l : Int) (k : Nat), 1 ≤ k ∧ n - p < l ∧ l ≤ n ∧ t = l + k * p := by
  obtain ⟨r1, r2, r3⟩ := rounds_spec hp ht
  refine ⟨t - (t - n + p - 1) / p * p, ((t - n + p - 1) / p).toNat, by omega, by omega, by omega, ?_⟩
  rw [Int.toNat_of_nonneg (by omega)]
  omega
theorem Rep.at_ {h : Int → Int} {n p G l : Int} (R : Rep h n p G) (hp : 0 < p) (h1 : n - p < l) (k : Nat) : h (l + k * p) = h l + k * G := by
  have := R.times hp k (l + k * p) (by omega)
  rw [show l + (k : Int) * p - k * p = l by omega] at this
  exact this
theorem least_none {h : Int → Int} {n p G lo : Int} (R : Rep h n p G) (hp : 0 < p) (hlo : lo ≤ n - p + 1) (hG : G ≤ 0) (no : ∀ t : Int, lo ≤ t → t ≤ n → h t ≤ 0) : LeastR h lo none := by
  intro t ht
  by_cases c : t ≤ n
  · exact no t ht c
  · obtain ⟨l, k, k1, l1, l2, rfl⟩ := last_of (n := n) hp (show n < t by omega)
    rw [R.at_ hp l1 k]
    have := no l (by omega) l2
    have := Int.mul_nonpos_of_nonneg_of_nonpos (show (0 : Int) ≤ k by omega) hG
    omega
/-- when a length of the last period comes up -/
def candM (h : Int → Int) (p G l : Int) : Int := l + p * (-(h l) / G + 1)
theorem least_min {h : Int → Int} {n p G lo m : Int} (R : Rep h n p G) (hp : 0 < p) (hlo : lo ≤ n - p + 1) (hG : 0 < G) (no : ∀ t : Int, lo ≤ t → t ≤ n → h t ≤ 0)
    (hm : ∃ l : Int, n - p < l ∧ l ≤ n ∧ m = candM h p G l) (hx : ∀ l : Int, n - p < l → l ≤ n → m ≤ candM h p G l) : LeastR h lo (some m) := by
  obtain ⟨l, l1, l2, rfl⟩ := hm
  have hl := no l (by omega) l2
  have q0 : 0 ≤ -(h l) / G := Int.ediv_nonneg (by omega) (by omega)
  have e : candM h p G l = l + ((-(h l) / G + 1).toNat : Nat) * p := by
    unfold candM
    rw [Int.toNat_of_nonneg (by omega), Int.mul_comm]
  have pos : 0 < p * (-(h l) / G + 1) := Int.mul_pos hp (by omega)
  refine ⟨by unfold candM; omega, ?_, fun s hs hst => ?_⟩
  · rw [e, R.at_ hp l1, Int.toNat_of_nonneg (by omega)]
    have := Int.lt_ediv_add_one_mul_self (-(h l)) hG
    omega
  · by_cases c : s ≤ n
    · exact no s hs c
    · obtain ⟨l', k, k1, l1', l2', rfl⟩ := last_of (n := n) hp (show n < s by omega)
      rw [R.at_ hp l1' k]
      by_cases z : h l' + k * G ≤ 0
      · exact z
      · exfalso
        have hl' := no l' (by omega) l2'
        have x := hx l' l1' l2'
        have ge : -(h l') / G + 1 ≤ k := by
          have : -(h l') / G < k := Int.ediv_lt_of_lt_mul hG (by omega)
          omega
        have m1 := Int.mul_le_mul_of_nonneg_left ge (show 0 ≤ p by omega)
        unfold candM at x hst
        rw [Int.mul_comm (k : Int) p] at hst
        omega
/-- it comes within the first lengths, where each dozen more adds nothing -/
theorem least_low {h : Int → Int} {N P D lo t : Int} (R : Rep h N P D) (hP : 0 < P) (hlo : lo ≤ N + 1 - P) (hD : D ≤ 0) (F : LeastR h lo (some t)) : t ≤ N := by
  by_cases c : t ≤ N
  · exact c
  · exfalso
    have r := R t (by omega)
    have := F.2.2 (t - P) (by omega) (by omega)
    have := F.2.1
    omega
theorem least_high {h : Int → Int} {N P D lo t : Int} (R : Rep h N P D) (hP : 0 < P) (hlo : lo ≤ N) (hD : 1 ≤ D) (k : Nat) (hk : 1 ≤ h N + k) (F : LeastR h lo (some t)) : t ≤ N + k * P := by
  by_cases c : t ≤ N + k * P
  · exact c
  · exfalso
    have r := R.at_ hP (show N - P < N by omega) k
    have k2 := Int.mul_le_mul_of_nonneg_left hD (show (0 : Int) ≤ k by omega)
    have k3 := Int.mul_nonneg (show (0 : Int) ≤ k by omega) (show (0 : Int) ≤ P by omega)
    have := F.2.2 (N + k * P) (by omega) (by omega)
    omega
/-- the sum of some curves that are later -/
structure RowD where
  xs : List Int
  p : Int
  g : Int
  k : Nat
def rowF (r : RowD) (t : Int) : Int := laterF (cvAt r.xs r.p r.g) r.k t
def sumF : List RowD → Int → Int
  | [], _ => 0
  | r :: rs, t => rowF r t + sumF rs t
def dozM : List RowD → Int
  | [] => 0
  | r :: rs => r.g * (12 / r.p) + dozM rs
structure RowD.Ok (r : RowD) : Prop where
  p0 : 0 < r.p
  pn : r.p ≤ r.xs.length
  dv : r.p ∣ 12
theorem sum_rep : ∀ {rs : List RowD} {N : Int}, (∀ r ∈ rs, r.Ok) → (∀ r ∈ rs, (r.xs.length : Int) + r.k + 12 ≤ N) → Rep (sumF rs) N 12 (dozM rs)
  | [], N, _, _ => fun t _ => by simp [sumF, dozM]
  | r :: rs, N, h, hN => by
    have o := h r (List.mem_cons_self ..)
    have b := hN r (List.mem_cons_self ..)
    have R1 := (later_rep (n := (r.k : Int)) (Rep.cvAt (g := r.g) o.p0 o.pn) o.p0 o.pn (by omega) cvAt_zero).mul (N := N) o.p0 o.dv (by decide) (by have := o.p0; omega)
    exact R1.add (sum_rep (fun x hx => h x (List.mem_cons_of_mem _ hx)) (fun x hx => hN x (List.mem_cons_of_mem _ hx)))
end VM

/-! for i, x in enumerate(xs, start=k) -/
namespace VE
open PySem PySem.Spec PyProof.Rows L2
/-- k, k + 1, .. with the list at a (n items, which the loop leaves there), in new pairs -/
def Itk (K : PySem.W.Frag) (a : Addr) (n : Nat) (k : Int) : It :=
  ⟨fun i H => i < n ∧ ∃ xs : List V, SqL K H a xs ∧ xs.length = n, fun i H v H' => ∃ T x, v = .ref T ∧ H T = none ∧ H' = upd H T (.tup [.int (k + (i : Nat)), x]) ∧ ∀ xs, SqL K H a xs → xs[i]? = some x,
    fun i H => n ≤ i ∧ ∃ xs : List V, SqL K H a xs ∧ xs.length = n⟩
theorem turn_enumK {P : Program} {w : World} {K : PySem.W.Frag} {elts : List Expr} {kk : Nat} {tpos : Pos} (a e it : Addr) (n : Nat) (k : Int) (hai : a ≠ it) (hei : e ≠ it) (hea : e ≠ a) :
    Turn P w K (.Tuple elts kk tpos) (Itk K a n k) [e, it] e (fun i h => (∃ old, IsEnum h e it (k + (i : Nat)) old) ∧ i ≤ n ∧ h.IsListIter it a i) where
  mem := by simp
  obj := fun i h st b hb => by
    obtain ⟨⟨old, he⟩, _, o, ho, hc, hd⟩ := st
    have e' : b = e ∨ b = it := by simpa using hb
    rcases e' with z | z
    · rw [z]; exact ⟨_, he, fun v q => nomatch q⟩
    · rw [z]; exact ⟨o, ho, fun v q => by rw [hd] at q; cases q⟩
  keep := fun i h h' st kp => let ⟨⟨old, he⟩, hn, hi⟩ := st; ⟨⟨old, kp e (by simp) _ he⟩, hn, hi.at fun o q => kp it (by simp) o q⟩
  item := by
    intro X hP hw hK hc i pins s σ H E I hf st hg
    subst hP hw hK
    obtain ⟨⟨old, he⟩, hin, hit⟩ := st
    obtain ⟨hlt, xs, hq, hl⟩ := hg
    have hx : xs[i]? = some (xs[i]'(by omega)) := List.getElem?_eq_getElem (by omega)
    obtain ⟨its, rv, p, hz⟩ := I.list hq
    have hh : X.A.in1.handled = none := I.ok.hd hc
    have hel : e < s.heap.objs.size := Heap.lt_size he
    have hil : it < s.heap.objs.size := by obtain ⟨_, q, _⟩ := hit; exact Heap.lt_size q
    obtain ⟨u', hu', ru⟩ := rv.get hx
    have hn : its.toArray.size = n := by rw [List.size_toArray, ← rv.length]; exact hl
    have D := Draws.list (prog := X.prog) (w := X.w) (A := X.A.in1) hh it a hai its.toArray
    rw [hn] at D
    refine wpAny_pyNext_enum_itemC D he ⟨hit, p.isList⟩ hlt hei (by simp [hei, hea]) fun u h' tk hP ho hs' hT hsz hkp => ?_
    obtain ⟨hit', _⟩ := hs'
    have hP' : its[i]? = some u := by simpa using hP
    have euu : u' = u := by rw [hP'] at hu'; exact (Option.some.inj hu').symm
    subst euu
    refine ⟨_, rfl, wpAny_letOwnedTupleGo_enum (s := { s with heap := h', toks := tk + 1 }) ho fun h'' he' sb => ?_⟩
    have hT2 : h''.get? s.heap.objs.size = some { cls := .type "tuple", data := .seq #[.int (k + (i : Nat)) tk, u'] } := (sb.2 _ (Nat.ne_of_gt hel)).trans hT
    have new : ObjOk X.prog X.w (upd H s.heap.objs.size (.tup [.int (k + (i : Nat)), xs[i]'(by omega)])) h'' s.heap.objs.size (.tup [.int (k + (i : Nat)), xs[i]'(by omega)]) :=
      ⟨by show 2 ≤ sizeLine; decide, [.int (k + (i : Nat)) tk, u'], .cons ⟨_, rfl⟩ (.cons ru .nil), ⟨_, hT2, rfl, _, rfl⟩⟩
    have I1 : Inv X pins σ (upd H s.heap.objs.size (.tup [.int (k + (i : Nat)), xs[i]'(by omega)])) { s with heap := h'', toks := tk + 1 } :=
      I.turnedNew (ch := [e, it]) (fun b ob hb q => (sb.2 b (fun z => hb (by simp [z]))).trans (hkp b ob (fun z => hb (by simp [z])) (fun z => hb (by simp [z])) q)) hf (Nat.le_refl _) new
    refine ⟨.ref s.heap.objs.size, _, I1, rfl, ⟨_, _, rfl, I.hok.fresh (Nat.le_refl _), rfl, fun ys hy => by rw [I.list_inj hy hq]; exact hx⟩, ⟨⟨u', ?_⟩, hlt, hit'.at fun o q => (sb.2 it (Ne.symm hei)).trans q⟩, fun b hb => ?_⟩
    · have e1 : k + ((i + 1 : Nat) : Int) = k + (i : Int) + 1 := by omega
      rw [e1]; exact he'
    · have hb' : b < s.heap.objs.size := by
        have e' : b = e ∨ b = it := by simpa using hb
        rcases e' with z | z
        · rw [z]; exact hel
        · rw [z]; exact hil
      rw [upd_ne (Nat.ne_of_lt hb')]
      exact (hf b hb).1
  done := by
    intro X hP hw hK hc i pins s σ H E I hf st hg
    subst hP hw hK
    obtain ⟨⟨old, he⟩, hin, hit⟩ := st
    obtain ⟨hge, xs, hq, hl⟩ := hg
    obtain ⟨its, rv, p, hz⟩ := I.list hq
    have hn : its.toArray.size = n := by rw [List.size_toArray, ← rv.length]; exact hl
    have hh : X.A.in1.handled = none := I.ok.hd hc
    obtain ⟨f0, f1, f2, f3, f4, f5⟩ := hf it (by simp)
    have D := Draws.list (prog := X.prog) (w := X.w) (A := X.A.in1) hh it a hai its.toArray
    rw [hn] at D
    have ei : i = n := by omega
    subst ei
    exact wpAny_pyNext_enum_endD D he ⟨hit, p.isList⟩ fun h' eb => ⟨rfl, I.turned (t' := s.toks) (fun b o hb q => eb b o hb q) f0 f1 f3 f4 f5⟩
  self := fun A i s Q E st h => let ⟨⟨_, he⟩, _⟩ := st; wpAny_pyIter_enum he h
theorem walk_enumK {K : PySem.W.Frag} {a : Addr} {xs : List V} {k : Int} : Walk (Itk K a xs.length k) xs.length (fun H => SqL K H a xs) (YPair (fun i => some (.int (k + (i : Nat)))) (fun i => xs[i]?)) := by
  refine ⟨fun i _ hi q => ⟨hi, xs, q, rfl⟩, fun _ q => ⟨Nat.le_refl _, xs, q, rfl⟩, fun i H v H' _ q y => ?_⟩
  obtain ⟨T, x, h1, h2, h3, h4⟩ := y
  exact ⟨T, .int (k + (i : Nat)), x, h1, h2, h3, rfl, h4 xs q⟩
def iEnumK (K : PySem.W.Frag) (ta : TA) (k : Int) : TI := fun σ H R => ta σ H fun vs H1 => ∃ (a : Addr) (xs : List V), vs = [.ref a] ∧ SqL K H1 a xs ∧ R (Itk K a xs.length k) H1
theorem pi_enumK {X : Cx} {e : Expr} {ta : TA} {p pos kp jp tpos : Pos} {j : Nat} {k : Int} {elts : List Expr} {kk : Nat} (hk0 : -(2 ^ 63) ≤ k) (hk1 : k < 2 ^ 63) (hg : Gl X "enumerate") (hm : X.mg "enumerate" = none) (ha : PA X [e] ta)
    (hs : starEach [e] X.env = (false, eval e X.env) :: starEach [] X.env := by rfl)
    (hst : ∀ q, (backTo q (starEach [e] X.env)).any (·.1) = false := by exact fun _ => rfl) :
    PI X (.Tuple elts kk tpos) (.Call (.Name "enumerate" p) [e] [⟨some "start", .Constant (.int k) j jp, kp⟩] pos) (iEnumK X.K ta k) := by
  refine ⟨fun pins s σ H R I h => ?_⟩
  refine Call_kws (ld_blt I hg hm boot_enumerate (callWith_typeKw rfl ?_ (by rw [hst]; rfl) hs))
  refine thn (ha.run pos pins s σ H _ I h) fun us s1 ⟨vs, H1, I1, r1, q1⟩ => ?_
  obtain ⟨a, xs, ex, hq, q⟩ := q1
  subst ex
  cases r1 with
  | cons r rr =>
    cases rr
    cases r
    obtain ⟨its, rv, p', hz⟩ := I1.list hq
    have hal : a < s1.heap.objs.size := by obtain ⟨_, _, z, _⟩ := p'; exact Heap.lt_size z
    refine kws_cons (wpAny_Constant_int (kws_nil ?_))
    refine enum_begins_start (begins_list a its.toArray) p'.isList hk0 hk1 fun h' he hit hsz hkp => wpAny_pyIter_enum he ?_
    have I2 : Inv X pins σ H1 { s1 with heap := h', toks := s1.toks + 1 } := I1.kept hkp
    refine ⟨s1.heap.objs.size + 1, [s1.heap.objs.size + 1, s1.heap.objs.size], _, _, H1, rfl, I2, turn_enumK a (s1.heap.objs.size + 1) s1.heap.objs.size xs.length k (Nat.ne_of_lt hal) (Nat.succ_ne_self _) (Nat.ne_of_gt (Nat.lt_succ_of_lt hal)), ⟨⟨.none, ?_⟩, Nat.zero_le _, ⟨_, hit, rfl, rfl⟩⟩, fun b hb => ?_, q⟩
    · rw [show k + ((0 : Nat) : Int) = k by omega]; exact he
    · have e' : b = s1.heap.objs.size + 1 ∨ b = s1.heap.objs.size := by simpa using hb
      have hle : s1.heap.objs.size ≤ b := by
        rcases e' with z | z
        · rw [z]; exact Nat.le_add_right _ _
        · rw [z]; exact Nat.le_refl _
      exact I1.fpOk hle (I1.hok.fresh hle)
end VE

/-! Curves with the same values have the same form. -/
namespace VM
theorem Rep.congr {f h : Int → Int} {n p g : Int} (e : ∀ t : Int, 0 ≤ t → f t = h t) (hp : 0 < p) (hpn : p ≤ n) (R : Rep f n p g) : Rep h n p g := fun t ht => by
  rw [← e t (by omega), ← e (t - p) (by omega)]; exact R t ht
theorem Rep.weak {f : Int → Int} {n m p g : Int} (R : Rep f n p g) (h : n ≤ m) : Rep f m p g := fun t ht => R t (by omega)
/-- from somewhere on each d further lengths add the same -/
def Per (f : Int → Int) (d : Nat) : Prop := 0 < d ∧ ∃ N s : Int, Rep f N d s
theorem rep_gain {f : Int → Int} {n m p g e : Int} (R : Rep f n p g) (S : Rep f m p e) : g = e := by
  by_cases c : n ≤ m
  · have a := R (m + 1) (by omega)
    have b := S (m + 1) (by omega)
    omega
  · have a := R (n + 1) (by omega)
    have b := S (n + 1) (by omega)
    omega
/-- the least one divides each -/
theorem per_dvd' {f : Int → Int} {d : Nat} (D : Per f d) (no : ∀ c, Per f c → d ≤ c) {p : Nat} (P : Per f p) : d ∣ p := by
  by_cases z : p % d = 0
  · exact Nat.dvd_of_mod_eq_zero z
  exfalso
  obtain ⟨d0, N, s, R⟩ := D
  obtain ⟨p0, M, g, S⟩ := P
  have lt := Nat.mod_lt p d0
  have eq := Nat.div_add_mod p d
  have hc : Per f (p % d) := by
    refine ⟨by omega, max (N + (p / d : Nat) * (d : Int) + p) M, g - (p / d : Nat) * s, fun t ht => ?_⟩
    have a := S t (by omega)
    have b := R.times (by omega) (p / d) (t - ((p % d : Nat) : Int)) (by omega)
    have e2 : ((p / d : Nat) : Int) * (d : Int) + ((p % d : Nat) : Int) = (p : Int) := by
      have : d * (p / d) + p % d = p := eq
      rw [Nat.mul_comm] at this
      exact_mod_cast this
    rw [show t - ((p % d : Nat) : Int) - ((p / d : Nat) : Int) * (d : Int) = t - p by omega] at b
    omega
  have := no _ hc
  omega
theorem steps_of {f : Int → Int} {n p d s : Int} (h : ∀ t : Int, n < t → t ≤ n + p → f t = f (t - d) + s) : stepsEq f n p d = true := by
  unfold stepsEq
  rw [List.all_eq_true]
  intro i hi
  have hi := List.mem_range.mp hi
  have a := h (n + 1 + i) (by omega) (by omega)
  have b := h (n + 1) (by omega) (by omega)
  exact decide_eq_true (by omega)
/-- what holds from somewhere on holds behind n -/
theorem per_now {f : Int → Int} {n p g N d s : Int} (R : Rep f n p g) (hp : 0 < p) (S : Rep f N d s) (hd : 0 < d) (hdp : d ≤ p) : Rep f n d s := by
  intro t ht
  obtain ⟨k, hk⟩ : ∃ k : Nat, N < t + (k : Int) * p := by
    refine ⟨(N - t + 1).toNat, ?_⟩
    have := Int.mul_le_mul_of_nonneg_left (show (1 : Int) ≤ p by omega) (show (0 : Int) ≤ ((N - t + 1).toNat : Int) by omega)
    omega
  have a := R.times hp k (t + k * p) (by omega)
  have b := R.times hp k (t - d + k * p) (by omega)
  have c := S (t + k * p) hk
  rw [show t + (k : Int) * p - k * p = t by omega] at a
  rw [show t - d + (k : Int) * p - k * p = t - d by omega] at b
  rw [show t + (k : Int) * p - d = t - d + k * p by omega] at c
  omega
theorem leastFrom_is {f : Int → Int} {n p g : Int} {d : Nat} (R : Rep f n p g) (hp : 0 < p) (D : Per f d) (no : ∀ c, Per f c → d ≤ c) (dv : (d : Int) ∣ p) : ∀ (k : Nat) (c : Int), 0 < c → c + k = p → c ≤ d → (leastFrom f n p k c).1 = d
  | 0, c, hc, e, hcd => by
    have := Int.le_of_dvd hp dv
    unfold leastFrom
    show p = d
    omega
  | k + 1, c, hc, e, hcd => by
    have dp := Int.le_of_dvd hp dv
    unfold leastFrom
    by_cases z : p % c = 0 ∧ stepsEq f n p c = true
    · rw [if_pos z]
      have pc : Per f c.toNat := ⟨by omega, n, _, by rw [Int.toNat_of_nonneg (by omega)]; exact R.of_steps hc (by omega) z.2⟩
      have := no _ pc
      show c = d
      omega
    · rw [if_neg z]
      refine leastFrom_is R hp D no dv k (c + 1) (by omega) (by omega) ?_
      by_cases y : c = d
      · exfalso
        apply z
        subst y
        obtain ⟨d0, N, s, S⟩ := D
        exact ⟨Int.emod_eq_zero_of_dvd dv, steps_of fun t h1 h2 => per_now R hp S (by omega) dp t h1⟩
      · omega
theorem shr_min {f : Int → Int} {d s : Int} : ∀ m : Nat, shr f d s m = 0 ∨ (shr f d s m : Int) ≤ d ∨ f (shr f d s m) ≠ f ((shr f d s m : Nat) - d) + s
  | 0 => .inl rfl
  | m + 1 => by
    unfold shr
    by_cases c : d < (m + 1 : Nat) ∧ f ((m + 1 : Nat) : Int) = f ((m + 1 : Nat) - d) + s
    · rw [if_pos c]; exact shr_min m
    · rw [if_neg c]
      refine .inr ?_
      by_cases z : ((m + 1 : Nat) : Int) ≤ d
      · exact .inl z
      · exact .inr fun y => c ⟨by omega, y⟩
theorem shr_uniq {f : Int → Int} {d s : Int} (hd : 0 < d) {m k : Nat} (h1 : d ≤ m) (h2 : d ≤ k) (R : Rep f m d s) (S : Rep f k d s) : shr f d s m = shr f d s k := by
  obtain ⟨a1, a2, a3⟩ := shr_spec hd m h1 R
  obtain ⟨b1, b2, b3⟩ := shr_spec hd k h2 S
  have m1 := shr_min (f := f) (d := d) (s := s) m
  have m2 := shr_min (f := f) (d := d) (s := s) k
  by_cases c : shr f d s m < shr f d s k
  · exfalso
    rcases m2 with h | h | h
    · omega
    · omega
    · exact h (a3 _ (by omega))
  · by_cases c2 : shr f d s k < shr f d s m
    · exfalso
      rcases m1 with h | h | h
      · omega
      · omega
      · exact h (b3 _ (by omega))
    · omega
theorem shr_cong {f h : Int → Int} {d s : Int} (e : ∀ t : Int, 0 ≤ t → f t = h t) : ∀ m : Nat, shr f d s m = shr h d s m
  | 0 => rfl
  | m + 1 => by
    unfold shr
    by_cases c : d < (m + 1 : Nat)
    · rw [e _ (by omega), e ((m + 1 : Nat) - d) (by omega), shr_cong e m]
    · rw [if_neg (fun z => c z.1), if_neg (fun z => c z.1)]
/-- curves with the same values have the same form -/
theorem form_unique {vs ws : List Int} {p g q e : Int} (hp : 0 < p) (hpn : p ≤ vs.length) (hq : 0 < q) (hqn : q ≤ ws.length) (eq : ∀ t : Int, 0 ≤ t → cvAt vs p g t = cvAt ws q e t) :
    formP vs p g = formP ws q e ∧ formV vs p g = formV ws q e := by
  have R : Rep (cvAt vs p g) vs.length p g := Rep.cvAt hp hpn
  have S : Rep (cvAt ws q e) ws.length q e := Rep.cvAt hq hqn
  have S' : Rep (cvAt vs p g) ws.length q e := S.congr (fun t ht => (eq t ht).symm) hq hqn
  have Pp : Per (cvAt vs p g) p.toNat := ⟨by omega, _, _, by rw [Int.toNat_of_nonneg (by omega)]; exact R⟩
  have Pq : Per (cvAt vs p g) q.toNat := ⟨by omega, _, _, by rw [Int.toNat_of_nonneg (by omega)]; exact S'⟩
  obtain ⟨d, D, no⟩ := least_nat ⟨p.toNat, Pp⟩
  have no' : ∀ c, Per (cvAt vs p g) c → d ≤ c := fun c hc => by
    by_cases z : d ≤ c
    · exact z
    · exact absurd hc (no c (by omega))
  have toI : ∀ {x : Int}, 0 < x → d ∣ x.toNat → (d : Int) ∣ x := fun {x} hx h => by
    have := Int.natCast_dvd_natCast.mpr h
    rwa [Int.toNat_of_nonneg (by omega)] at this
  have dvp := toI hp (per_dvd' D no' Pp)
  have dvq := toI hq (per_dvd' D no' Pq)
  have D' : Per (cvAt ws q e) d := by
    obtain ⟨d0, N, s, T⟩ := D
    have dq := Int.le_of_dvd hq dvq
    exact ⟨d0, ws.length, s, (per_now S' hq T (by omega) dq).congr eq (by omega) (by omega)⟩
  have no2 : ∀ c, Per (cvAt ws q e) c → d ≤ c := fun c hc => by
    obtain ⟨c0, N, s, T⟩ := hc
    refine no' c ⟨c0, max N c, s, Rep.congr (fun t ht => (eq t ht).symm) (by omega) (by omega) (T.weak (by omega))⟩
  have e1 : (formP vs p g).1 = d := leastFrom_is R hp D no' dvp _ 1 (by omega) (by omega) (by have := D.1; omega)
  have e2 : (formP ws q e).1 = d := leastFrom_is S hq D' no2 dvq _ 1 (by omega) (by omega) (by have := D.1; omega)
  obtain ⟨a1, a2, a3⟩ := leastP_spec R hp
  obtain ⟨b1, b2, b3⟩ := leastP_spec S hq
  have a3 : Rep (cvAt vs p g) vs.length (formP vs p g).1 (formP vs p g).2 := a3
  have b3 : Rep (cvAt ws q e) ws.length (formP ws q e).1 (formP ws q e).2 := b3
  have a2 : (formP vs p g).1 ≤ p := a2
  have b2 : (formP ws q e).1 ≤ q := b2
  have a1 : 0 < (formP vs p g).1 := a1
  have b1 : 0 < (formP ws q e).1 := b1
  have b3' : Rep (cvAt vs p g) ws.length (formP ws q e).1 (formP ws q e).2 := b3.congr (fun t ht => (eq t ht).symm) b1 (by omega)
  have ep : (formP vs p g).1 = (formP ws q e).1 := by rw [e1, e2]
  rw [← ep] at b3' b2
  have eg : (formP vs p g).2 = (formP ws q e).2 := rep_gain a3 b3'
  rw [← eg] at b3'
  have E : formP vs p g = formP ws q e := Prod.ext ep eg
  refine ⟨E, ?_⟩
  unfold formV formM
  rw [← E, ← shr_cong eq ws.length, shr_uniq a1 (by omega) (by omega) a3 b3']
  exact vals_congr eq
end VM

/-! str(x) of an object with an own __str__ -/
namespace VO
open PySem PySem.Spec PyProof.Rows L2
section
variable {X : Cx} {CX : CXT} {k : Nat} {f C : Addr} {fd : FuncData} {ps : List Str} {sp : Sp} {E : XK}
theorem call_strOwn (F : FnOk X.prog X.w X.K X.mg X.base CX k f fd ps sp) (hr : Room (k + 2) X.A) (o : Meth X.K C "__str__" f) (hb : Binds X.K fd ps []) (hx : Passes CX X E) :
    CallR X (.type "str") (VN.rReprOwn C sp E) := by
  intro pins s σ H xs us Q I r h
  obtain ⟨a, dx, fs, rfl, ea, hsp⟩ := h
  obtain ⟨u, rfl, ru⟩ := vals1 r
  obtain rfl : u = Value.ref a := ru
  obtain ⟨mA, J, _⟩ := ins_get I.hok ea
  obtain ⟨od, J, _⟩ := J.look
  refine PySem.W.kso_call hr.in1.in1.units0 I.kIn J o.at_ o.fn ?_
  have hl := F.len _ _ _ _ hsp
  refine wpAny_call (codeAny_mono (F.run X.A.in1.in1 X.stack s H ⟨[.ref a], []⟩ [.ref a] [.ref a] _ E hr.in1.in1 I.env0.in1.in1 (by
    have := hb s [.ref a] I.kIn (by simpa using hl)
    simpa using this) (.cons rfl .nil) hsp) fun r s' hq => ?_)
  cases r with
  | error e => exact hx pins σ H s e s' I hq
  | ok fl =>
    cases fl with
    | ret w =>
      obtain ⟨z, H', I', rz, y, ez, q⟩ := I.after hq
      subst ez
      obtain ⟨t, rfl⟩ := rz
      exact ⟨.str y, H', I', ⟨t, rfl⟩, q⟩
    | next => exact False.elim hq
    | brk => exact False.elim hq
    | cont => exact False.elim hq
end
end VO

/-! Texts made of plain texts: how long their repr may be. -/
namespace VT
open PySem PySem.Spec PyProof.Rows L2
def Asc (x : Str) : Prop := ∀ c ∈ x.cps.toList, c < 16 ^ 8
theorem Asc.app {a b : Str} (h : Asc a) (k : Asc b) : Asc (a ++ b) := fun c hc => by
  rw [PySem.Str.cps_append, Array.toList_append, List.mem_append] at hc
  exact hc.elim (h c) (k c)
theorem Asc.of (s : String) : Asc (Str.ofString s) := fun c hc => by
  rw [PySem.Str.ofString_eq_toList] at hc
  simp only [List.mem_map] at hc
  obtain ⟨y, _, rfl⟩ := hc
  have h : y.val.toNat < 1114112 := by
    rcases y.valid with h | ⟨_, h⟩
    · exact Nat.lt_trans h (by decide)
    · exact h
  exact Nat.lt_of_lt_of_le h (by decide)
theorem Asc.int (i : Int) : Asc ((toString i : String) : Str) := Asc.of _
theorem Asc.from_ : ∀ (ts : List Str) (k : Nat) (acc : Str), Asc acc → (∀ t ∈ ts, Asc t) → Asc (textFrom k acc ts)
  | [], k, acc, h, _ => h
  | t :: ts, k, acc, h, ht => by
    unfold textFrom
    refine Asc.from_ ts _ _ ?_ fun x hx => ht x (List.mem_cons_of_mem _ hx)
    exact (h.app (Asc.of _)).app (ht t (List.mem_cons_self ..))
theorem Asc.list {ts : List Str} (h : ∀ t ∈ ts, Asc t) : Asc (listText ts) := (Asc.from_ ts 0 "[" (Asc.of _) h).app (Asc.of _)
theorem Asc.sjoin {sep : Str} (hs : Asc sep) : ∀ {l : List Str}, (∀ t ∈ l, Asc t) → Asc (Str.join sep l)
  | [], _ => Asc.of ""
  | [x], h => h x (by simp)
  | x :: y :: l, h => by
    show Asc (x ++ sep ++ Str.join sep (y :: l))
    exact ((h x (by simp)).app hs).app (Asc.sjoin hs fun t ht => h t (List.mem_cons_of_mem _ ht))
theorem Asc.join {sep : Str} (hs : Asc sep) {l : List Str} (h : ∀ t ∈ l, Asc t) : Asc (Txt.join sep l) := by
  cases l with
  | nil => exact Asc.of ""
  | cons a r =>
    have e : Txt.join sep (a :: r) = Str.join sep (a :: r) := StrLaws.glued_eq_join ..
    rw [e]
    exact Asc.sjoin hs h
theorem Asc.ints (us : List Int) : Asc (PyData.shown (.list (us.map PyData.int))) := by
  simp only [PyData.shown]
  refine Asc.list fun t ht => ?_
  have e : ∀ us : List Int, PyData.shownAll (us.map PyData.int) = us.map fun i => (toString i : Str) := by
    intro us
    induction us with
    | nil => rfl
    | cons u us ih => simp only [List.map_cons, PyData.shownAll, ih, PyData.shown]
  rw [e] at ht
  obtain ⟨u, _, rfl⟩ := List.mem_map.mp ht
  exact Asc.int u
theorem Sz.str {x : Str} {n : Nat} (h : Asc x) (hn : x.length ≤ n) : VR.Sz 0 (10 * n + 2) (.str x) :=
  ⟨rfl, Nat.zero_le _, by
    have := StrLaws.reprText_len x h
    show (reprText x).length ≤ _
    omega⟩
end VT

/-! A method called with keywords alone; further rules. -/
namespace VP
open PySem PySem.Spec PyProof.Rows L2
def tMethKw0 (C : Addr) (m : Str) (j : Nat) (sp : Sp) (gV : List V → List V → List V) (E : XK) (ta : TE) (tk : TA) : TE := fun σ H Q =>
  ta σ H fun x H1 => ∃ a dx fs, x = .ref a ∧ H1 a = some (.ins C dx fs) ∧ fs.lookup m = none ∧ tk σ H1 fun zs H3 => zs.length = j ∧ sp (gV [x] zs) H3 Q E
theorem pe_methKw0 {X : Cx} {CX : CXT} {k : Nat} {f C : Addr} {fd : FuncData} {ps ks : List Str} {sp : Sp} {E : XK} {m : Str} {pos apos : Pos} {o : Expr} {kws : List Keyword} {ta : TE} {tk : TA}
    {g : List Value → List Value → List Value} {gV : List V → List V → List V} {pl : Sem Bool}
    (he : PE X o ta) (c : Cls X.K C) (hm : Meth X.K C m f) (F : FnOk X.prog X.w X.K X.mg X.base CX k f fd ps sp) (hr : Room k X.A)
    (hb : KBn X.K fd ps 1 ks g gV) (hx : Passes CX X E) (hkw : PK X kws tk)
    (hall : (backToKw pos (keywordEach kws X.env)).all (·.1.isSome) = true := by rfl) (hks : (backToKw pos (keywordEach kws X.env)).filterMap (·.1) = ks := by rfl)
    (hpl : ((backTo pos (starEach [] X.env)).any (·.1) || (backToKw pos (keywordEach kws X.env)).any (·.1.isNone)) = false := by rfl)
    (ht : eval (.Call (.Attribute o m apos) [] kws pos) X.env = (do
      let ov ← eval o X.env
      standAt apos.atName
      let (f, first) ← holding [ov] (getMethod ov m pl)
      callWith pos f first (backTo pos (starEach [] X.env)) (backToKw pos (keywordEach kws X.env))) := by rfl) :
    PE X (.Call (.Attribute o m apos) [] kws pos) (tMethKw0 C m ks.length sp gV E ta tk) := by
  constructor
  intro pins s σ H Q I h
  refine PySem.W.methodCall_KW (pl := pl) (thn (he.run pins s σ H _ I h) ?_) ht
  rintro u s1 ⟨x, H1, I1, rx, a, dx, fs, ex, ea, l, q⟩
  subst ex
  obtain rfl : u = Value.ref a := rx
  refine getmeth_ok I1 ea c hm l ?_
  refine PySem.W.callWith_KW0 (first := [.ref a]) (h₀ := X.base) I1.ok.mod.kin hm.kp hall ?_ hpl
  refine thn (hkw.run pos pins s1 σ H1 _ I1 q) ?_
  rintro ws s3 ⟨zs, H3, I3, rz, l2, q3⟩
  refine ⟨I3.kIn, ?_⟩
  rw [hks]
  have r1 : Vals [V.ref a] [Value.ref a] := .cons rfl .nil
  have rel := hb.rel r1 rz
  have bind := hb.to s3 [Value.ref a] ws I3.kIn rfl (rz.length.symm.trans l2)
  show wpAny _ _ (call (.ref f) [Value.ref a] (ks.zip ws)) _ _ _
  refine wpAny_call (codeAny_mono (F.run X.A X.stack s3 H3 ⟨[Value.ref a], ks.zip ws⟩ _ _ Q E hr I3.env0 bind rel q3) ?_)
  intro res s' hq
  match res, hq with
  | .error e, hq => exact hx pins σ H3 s3 e s' I3 hq
  | .ok (.ret u), hq => exact I3.after hq
  | .ok .next, hq => exact False.elim hq
  | .ok .brk, hq => exact False.elim hq
  | .ok .cont, hq => exact False.elim hq
/-- c(e, .., k = v, ..), where the i-th slot holds the class at C -/
def tMakeKL (i : Nat) (C : Addr) (n m : Nat) (sp : Sp) (gV : List V → List V → List V) (E : XK) (t tk : TA) : TE := fun σ H Q => σ[i]? = some (some (.ref C)) ∧ tMakeK C n m sp gV E t tk σ H Q
theorem pe_makeKL {X : Cx} {CX : CXT} {k n i : Nat} {f C : Addr} {fd : FuncData} {ps ks : List Str} {sp : Sp} {E : XK} {x : Str} {p pos : Pos} {e : Expr} {es : List Expr} {kws : List Keyword} {t tk : TA}
    {g : List Value → List Value → List Value} {gV : List V → List V → List V} (M : Mk X.K C f) (F : FnOk X.prog X.w X.K X.mg X.base CX k f fd ps sp) (hr : Room (k + 1) X.A) (hN : X.N[i]? = some x) (hv : Vis X.env.scope x)
    (hb : KBn X.K fd ps (n + 1) ks g gV) (hx : Passes CX X E) (ha : PA X (e :: es) t) (hkw : PK X kws tk)
    (hall : (backToKw pos (keywordEach kws X.env)).all (·.1.isSome) = true := by rfl) (hks : (backToKw pos (keywordEach kws X.env)).filterMap (·.1) = ks := by rfl) (hdb : (x == ("__debug__" : Str)) = false := by decide) (hcd : (x == ("__classdict__" : Str)) = false := by decide)
    (he : starEach (e :: es) X.env = (false, eval e X.env) :: starEach es X.env := by rfl) (hpl : ((backTo pos (starEach (e :: es) X.env)).any (·.1) || (backToKw pos (keywordEach kws X.env)).any (·.1.isNone)) = false := by rfl) :
    PE X (.Call (.Name x p) (e :: es) kws pos) (tMakeKL i C n ks.length sp gV E t tk) := by
  refine ⟨fun pins s σ H Q I h => ?_⟩
  obtain ⟨hs, ht⟩ := h
  refine wpAny_Call_Name_kw (thn ((pe_var (pos := p) hN hv hdb hcd).run pins s σ H (fun v H1 => v = .ref C ∧ H1 = H) I ⟨.ref C, hs, rfl, rfl⟩) fun u s1 ⟨v, H1, I1, r1, q1⟩ => ?_)
  obtain ⟨rfl, rfl⟩ := q1
  cases r1
  refine PySem.W.callWith_KW (h₀ := X.base) I.ok.mod.kin M.kp hall (thn (ha.run pos pins s1 σ _ _ I1 ht) fun us s1 ⟨vs, H1, I1, r, q⟩ => ?_) hpl he
  refine thn (hkw.run pos pins s1 σ H1 _ I1 q) fun ws s2 ⟨zs, H2, I2, rz, l1, l2, q2⟩ => ⟨I2.kIn, ?_⟩
  rw [hks]
  exact run_makeK M F hr hb hx I2 r rz l1 l2 q2
/-- a def f(a, *v), no exception leaves it -/
theorem okStar {P : Program} {w : World} {K : PySem.W.Frag} {mg : Str → Option Value} {base : Heap} {x qual p1 pv : Str} {st : Stmt} {f : Addr} {fd : FuncData} {N : List Str} {k : Nat} {sp : Sp} (F : Fun K x qual st f fd) (S : FnScope N [p1, pv] (defScope st))
    (h0 : ∀ kV doc pm an cdv ct a, bindArgs (PySem.W.fnOf x qual (defArgs st) (defBody st) (defScope st) .none kV doc pm an cdv ct) ⟨[a], []⟩ = (newTuple [] >>= fun t => pure [(p1, a), (pv, t)]))
    (h1 : ∀ kV doc pm an cdv ct a r rs, bindArgs (PySem.W.fnOf x qual (defArgs st) (defBody st) (defScope st) .none kV doc pm an cdv ct) ⟨a :: r :: rs, []⟩ = (newTuple (r :: rs) >>= fun t => pure [(p1, a), (pv, t)]))
    (hbody : ∀ (cdv : Value) (A : Around) (outer : List Env) (s : Shared) (H : Hp) (vs : List V) (Q : VK) (E : XK), Room k (A.deeper (envOfC qual (defScope st) s.heap.objs.size f cdv)) → sp vs H Q E →
      ∃ t, PSs (cxOf CX0 P w K mg base N qual (defScope st) f cdv A outer s H E).nox (defBody st) t ∧ t { nx := fun _ H' => Q .non H', rt := Q } (start N vs) H) :
    FnR P w K mg base CX0 (k + 1) f (fun vs H Q E => ∃ a rest, vs = a :: rest ∧ rest.length ≤ sizeLine ∧ ∀ p, H p = Option.none → sp [a, V.ref p] (upd H p (.tup rest)) Q E) := by
  obtain ⟨oc, od, kV, doc, pm, an, cdv, ct, osl, rfl, lk, hcd⟩ := F.ex
  refine (StX.fn_star (ps := [p1]) lk hcd S StX.cxUp_none (fun us rest hl => StX.bind_star1 (B := fun vs => bindArgs _ ⟨vs, []⟩) (fun a => h0 _ _ _ _ _ _ a) (fun a r rs => h1 _ _ _ _ _ _ a r rs) us rest hl) (fun A outer s H vs Q E hr hsp => ?_)).imp fun vs H Q E ⟨a, rest, e, hz, hq⟩ => ⟨[a], rest, e, rfl, hz, hq⟩
  obtain ⟨t, h, q⟩ := hbody cdv A outer s H vs Q E hr hsp
  exact ⟨t, h.nox, q⟩
/-- .. exceptions may leave it -/
theorem okStarX {P : Program} {w : World} {K : PySem.W.Frag} {mg : Str → Option Value} {base : Heap} {x qual p1 pv : Str} {st : Stmt} {f : Addr} {fd : FuncData} {N : List Str} {k : Nat} {sp : Sp} (F : Fun K x qual st f fd) (S : FnScope N [p1, pv] (defScope st))
    (h0 : ∀ kV doc pm an cdv ct a, bindArgs (PySem.W.fnOf x qual (defArgs st) (defBody st) (defScope st) .none kV doc pm an cdv ct) ⟨[a], []⟩ = (newTuple [] >>= fun t => pure [(p1, a), (pv, t)]))
    (h1 : ∀ kV doc pm an cdv ct a r rs, bindArgs (PySem.W.fnOf x qual (defArgs st) (defBody st) (defScope st) .none kV doc pm an cdv ct) ⟨a :: r :: rs, []⟩ = (newTuple (r :: rs) >>= fun t => pure [(p1, a), (pv, t)]))
    (hbody : ∀ (cdv : Value) (A : Around) (outer : List Env) (s : Shared) (H : Hp) (vs : List V) (Q : VK) (E : XK), Room k (A.deeper (envOfC qual (defScope st) s.heap.objs.size f cdv)) → sp vs H Q E →
      ∃ t, PSs (cxOf (L2.CX P w) P w K mg base N qual (defScope st) f cdv A outer s H E) (defBody st) t ∧ t { nx := fun _ H' => Q .non H', rt := Q } (start N vs) H) :
    FnR P w K mg base (L2.CX P w) (k + 1) f (fun vs H Q E => ∃ a rest, vs = a :: rest ∧ rest.length ≤ sizeLine ∧ ∀ p, H p = Option.none → sp [a, V.ref p] (upd H p (.tup rest)) Q E) := by
  obtain ⟨oc, od, kV, doc, pm, an, cdv, ct, osl, rfl, lk, hcd⟩ := F.ex
  refine (StX.fn_star (ps := [p1]) lk hcd S StX.cxUp (fun us rest hl => StX.bind_star1 (B := fun vs => bindArgs _ ⟨vs, []⟩) (fun a => h0 _ _ _ _ _ _ a) (fun a r rs => h1 _ _ _ _ _ _ a r rs) us rest hl) (fun A outer s H vs Q E hr hsp => ?_)).imp fun vs H Q E ⟨a, rest, e, hz, hq⟩ => ⟨[a], rest, e, rfl, hz, hq⟩
  exact hbody cdv A outer s H vs Q E hr hsp
theorem pi_listK {X : Cx} {K' : PySem.W.Frag} {tg l : Expr} {tl : TE} (hl : PE X l tl) (hK : X.K = K') : PI X tg l (iList K' tl) := by
  subst hK; exact pi_list hl
theorem pi_tupK {X : Cx} {K' : PySem.W.Frag} {tg l : Expr} {tl : TE} (hl : PE X l tl) (hK : X.K = K') : PI X tg l (iTup K' tl) := by
  subst hK; exact pi_tup hl
/-- C.m(), m a classmethod of the class at C -/
theorem pe_cmeth0 {X : Cx} {CX : CXT} {k : Nat} {C p g : Addr} {mc : Value} {sp : Sp} {E : XK} {o : Expr} {m : Str} {pos apos : Pos} {ta : TE} {pl : Sem Bool} (he : PE X o ta) (r : ClX.CRead X.K C mc) (c : ClX.CMet X.K C mc m p g) (F : FnR X.prog X.w X.K X.mg X.base CX k g sp) (hr : Room k X.A) (hx : Passes CX X E)
    (ht : eval (.Call (.Attribute o m apos) [] [] pos) X.env = (do
      let ov ← eval o X.env
      standAt apos.atName
      let (f, first) ← holding [ov] (getMethod ov m pl)
      callWith pos f first (backTo pos (starEach [] X.env)) (backToKw pos (keywordEach [] X.env))) := by rfl) :
    PE X (.Call (.Attribute o m apos) [] [] pos) (ClX.tCMeth C sp E ta tNil) := by
  refine ⟨fun pins s σ H Q I h => ?_⟩
  refine PySem.W.methodCall_KW (pl := pl) (thn (he.run pins s σ H _ I h) fun u s1 ⟨x, H1, I1, rx, ex, q⟩ => ?_) ht
  subst ex
  obtain rfl : u = Value.ref C := rx
  refine ClX.getmethcm_ok I1 r c fun s2 I2 => ?_
  exact PySem.W.callWith_M0 (first := []) ⟨ClX.pin_at I2, I2.kIn⟩ c.fi (ClX.run_cm (us := []) (vs := []) F hr hx I2 .nil q)
end VP

/-! for i, x in enumerate(t), t a tuple -/
namespace PySem
open Sem (wp)
open AutoSeq1 (wpAny_loadPart')
set_option maxHeartbeats 1000000 in
theorem meets_enumerate_one {v : Value} {o : Obj} {H : Heap → Prop} (B : Begins v o H) :
    Meets (Builtin.«enumerate.__new__» ⟨[.type "enumerate", v], []⟩) (fun _ R s => H s.heap ∧
      R (.ok (.ret (.ref (s.heap.push o).objs.size))) { s with heap := (s.heap.push o).push { cls := .type "enumerate", data := .fields #[.none, .bool false, .ref s.heap.objs.size, rawInt 0, .none, .none] } }) :=
  .of_wp fun prog w A R s h => by
    obtain ⟨hp, g, d, tk, os⟩ := s; obtain ⟨h1, h⟩ := h
    have hsub := sub_enumerate
    have q1 : ∀ {A' : Around} {E : Value → Shared → Prop} {Q : Value → Shared → Prop}, Q (.ref hp.objs.size) ⟨hp.push o, g, d, tk, os⟩ → wpAny (model prog w) A' (pyIter v) Q E ⟨hp, g, d, tk, os⟩ :=
      fun q => B.iter prog w _ _ ⟨hp, g, d, tk, os⟩ _ h1 q
    wp_walk using q1
    refine wpAny_stack_any fun st => wpAny_pure ?_
    split
    · rename_i c _ _ _ _ _
      cases (c == Value.type "enumerate")
      · wp_walk using q1
        exact ⟨_, rfl, h⟩
      · wp_walk using q1
        exact ⟨_, rfl, h⟩
    · wp_walk using q1
      exact ⟨_, rfl, h⟩
theorem call_enumerate_one {prog : Program} {w : World} {A : Around} {E : Value → Shared → Prop} {s : Shared} {v : Value} {o : Obj} {H : Heap → Prop} {Q : Value → Shared → Prop} (B : Begins v o H) (h1 : H s.heap)
    (h : ∀ h', IsEnum h' (s.heap.objs.size + 1) s.heap.objs.size 0 .none → h'.get? s.heap.objs.size = some o → h'.objs.size = s.heap.objs.size + 2 →
      (∀ b o, s.heap.get? b = some o → h'.get? b = some o) → Q (.ref (s.heap.objs.size + 1)) { s with heap := h' }) :
    wpAny (model prog w) A (call (.type "enumerate") [v]) Q E s := by
  refine callType_new F.called_enumerate (by decide) (F.typeCall_enumerate_1 _) (F.newCall_enumerate_1 _) (fun obj => F.args_object_init_2 obj _) F.entry_enumerate_new
    (meets_enumerate_one B) ⟨h1, ?_⟩
  have hz : (s.heap.push o).objs.size = s.heap.objs.size + 1 := Heap.size_push ..
  show _ ∧ _
  rw [hz]
  have he : IsEnum ((s.heap.push o).push { cls := .type "enumerate", data := .fields #[.none, .bool false, .ref s.heap.objs.size, rawInt 0, .none, .none] }) (s.heap.objs.size + 1) s.heap.objs.size 0 .none := by
    have := Heap.get?_push_size (s.heap.push o) (o := { cls := .type "enumerate", data := .fields #[.none, .bool false, .ref s.heap.objs.size, rawInt 0, .none, .none] }) rfl
    rw [hz] at this; exact this
  refine ⟨⟨_, he, rfl⟩, h _ he (Heap.get?_push_of_some _ (Heap.get?_push_size _ B.free)) (by rw [Heap.size_push, hz]) fun b o x => Heap.get?_push_of_some _ (Heap.get?_push_of_some _ x)⟩
end PySem
namespace VE
open PySem PySem.Spec PyProof.Rows L2
/-- k, k + 1, .. with the list at a (n items, which the loop leaves there), in new pairs -/
def Itt_ (K : PySem.W.Frag) (a : Addr) (n : Nat) (k : Int) : It :=
  ⟨fun i H => i < n ∧ ∃ xs : List V, SqT K H a xs ∧ xs.length = n, fun i H v H' => ∃ T x, v = .ref T ∧ H T = none ∧ H' = upd H T (.tup [.int (k + (i : Nat)), x]) ∧ ∀ xs, SqT K H a xs → xs[i]? = some x,
    fun i H => n ≤ i ∧ ∃ xs : List V, SqT K H a xs ∧ xs.length = n⟩
theorem turn_enumT {P : Program} {w : World} {K : PySem.W.Frag} {elts : List Expr} {kk : Nat} {tpos : Pos} (a e it : Addr) (n : Nat) (k : Int) (hai : a ≠ it) (hei : e ≠ it) (hea : e ≠ a) :
    Turn P w K (.Tuple elts kk tpos) (Itt_ K a n k) [e, it] e (fun i h => (∃ old, IsEnum h e it (k + (i : Nat)) old) ∧ i ≤ n ∧ h.IsTupleIter it a i) where
  mem := by simp
  obj := fun i h st b hb => by
    obtain ⟨⟨old, he⟩, _, o, ho, hc, hd⟩ := st
    have e' : b = e ∨ b = it := by simpa using hb
    rcases e' with z | z
    · rw [z]; exact ⟨_, he, fun v q => nomatch q⟩
    · rw [z]; exact ⟨o, ho, fun v q => by rw [hd] at q; cases q⟩
  keep := fun i h h' st kp => let ⟨⟨old, he⟩, hn, hi⟩ := st; ⟨⟨old, kp e (by simp) _ he⟩, hn, hi.at fun o q => kp it (by simp) o q⟩
  item := by
    intro X hP hw hK hc i pins s σ H E I hf st hg
    subst hP hw hK
    obtain ⟨⟨old, he⟩, hin, hit⟩ := st
    obtain ⟨hlt, xs, hq, hl⟩ := hg
    have hx : xs[i]? = some (xs[i]'(by omega)) := List.getElem?_eq_getElem (by omega)
    obtain ⟨its, rv, p, hz⟩ := I.tuple hq
    have hh : X.A.in1.handled = none := I.ok.hd hc
    have hel : e < s.heap.objs.size := Heap.lt_size he
    have hil : it < s.heap.objs.size := by obtain ⟨_, q, _⟩ := hit; exact Heap.lt_size q
    obtain ⟨u', hu', ru⟩ := rv.get hx
    have hn : its.toArray.size = n := by rw [List.size_toArray, ← rv.length]; exact hl
    have D := Draws.tuple (prog := X.prog) (w := X.w) (A := X.A.in1) hh it a hai its.toArray
    rw [hn] at D
    refine wpAny_pyNext_enum_itemC D he ⟨hit, p⟩ hlt hei (by simp [hei, hea]) fun u h' tk hP ho hs' hT hsz hkp => ?_
    obtain ⟨hit', _⟩ := hs'
    have hP' : its[i]? = some u := by simpa using hP
    have euu : u' = u := by rw [hP'] at hu'; exact (Option.some.inj hu').symm
    subst euu
    refine ⟨_, rfl, wpAny_letOwnedTupleGo_enum (s := { s with heap := h', toks := tk + 1 }) ho fun h'' he' sb => ?_⟩
    have hT2 : h''.get? s.heap.objs.size = some { cls := .type "tuple", data := .seq #[.int (k + (i : Nat)) tk, u'] } := (sb.2 _ (Nat.ne_of_gt hel)).trans hT
    have new : ObjOk X.prog X.w (upd H s.heap.objs.size (.tup [.int (k + (i : Nat)), xs[i]'(by omega)])) h'' s.heap.objs.size (.tup [.int (k + (i : Nat)), xs[i]'(by omega)]) :=
      ⟨by show 2 ≤ sizeLine; decide, [.int (k + (i : Nat)) tk, u'], .cons ⟨_, rfl⟩ (.cons ru .nil), ⟨_, hT2, rfl, _, rfl⟩⟩
    have I1 : Inv X pins σ (upd H s.heap.objs.size (.tup [.int (k + (i : Nat)), xs[i]'(by omega)])) { s with heap := h'', toks := tk + 1 } :=
      I.turnedNew (ch := [e, it]) (fun b ob hb q => (sb.2 b (fun z => hb (by simp [z]))).trans (hkp b ob (fun z => hb (by simp [z])) (fun z => hb (by simp [z])) q)) hf (Nat.le_refl _) new
    refine ⟨.ref s.heap.objs.size, _, I1, rfl, ⟨_, _, rfl, I.hok.fresh (Nat.le_refl _), rfl, fun ys hy => by rw [I.tuple_inj hy hq]; exact hx⟩, ⟨⟨u', ?_⟩, hlt, hit'.at fun o q => (sb.2 it (Ne.symm hei)).trans q⟩, fun b hb => ?_⟩
    · have e1 : k + ((i + 1 : Nat) : Int) = k + (i : Int) + 1 := by omega
      rw [e1]; exact he'
    · have hb' : b < s.heap.objs.size := by
        have e' : b = e ∨ b = it := by simpa using hb
        rcases e' with z | z
        · rw [z]; exact hel
        · rw [z]; exact hil
      rw [upd_ne (Nat.ne_of_lt hb')]
      exact (hf b hb).1
  done := by
    intro X hP hw hK hc i pins s σ H E I hf st hg
    subst hP hw hK
    obtain ⟨⟨old, he⟩, hin, hit⟩ := st
    obtain ⟨hge, xs, hq, hl⟩ := hg
    obtain ⟨its, rv, p, hz⟩ := I.tuple hq
    have hn : its.toArray.size = n := by rw [List.size_toArray, ← rv.length]; exact hl
    have hh : X.A.in1.handled = none := I.ok.hd hc
    obtain ⟨f0, f1, f2, f3, f4, f5⟩ := hf it (by simp)
    have D := Draws.tuple (prog := X.prog) (w := X.w) (A := X.A.in1) hh it a hai its.toArray
    rw [hn] at D
    have ei : i = n := by omega
    subst ei
    exact wpAny_pyNext_enum_endD D he ⟨hit, p⟩ fun h' eb => ⟨rfl, I.turned (t' := s.toks) (fun b o hb q => eb b o hb q) f0 f1 f3 f4 f5⟩
  self := fun A i s Q E st h => let ⟨⟨_, he⟩, _⟩ := st; wpAny_pyIter_enum he h
theorem walk_enumT {K : PySem.W.Frag} {a : Addr} {xs : List V} {k : Int} : Walk (Itt_ K a xs.length k) xs.length (fun H => SqT K H a xs) (YPair (fun i => some (.int (k + (i : Nat)))) (fun i => xs[i]?)) := by
  refine ⟨fun i _ hi q => ⟨hi, xs, q, rfl⟩, fun _ q => ⟨Nat.le_refl _, xs, q, rfl⟩, fun i H v H' _ q y => ?_⟩
  obtain ⟨T, x, h1, h2, h3, h4⟩ := y
  exact ⟨T, .int (k + (i : Nat)), x, h1, h2, h3, rfl, h4 xs q⟩
def iEnumT (K : PySem.W.Frag) (ta : TA) (k : Int) : TI := fun σ H R => ta σ H fun vs H1 => ∃ (a : Addr) (xs : List V), vs = [.ref a] ∧ SqT K H1 a xs ∧ R (Itt_ K a xs.length k) H1
theorem pi_enumT {X : Cx} {e : Expr} {ta : TA} {p pos tpos : Pos} {elts : List Expr} {kk : Nat} (hg : Gl X "enumerate") (hm : X.mg "enumerate" = none) (ha : PA X [e] ta) (hs : starEach [e] X.env = [(false, eval e X.env)] := by rfl) :
    PI X (.Tuple elts kk tpos) (.Call (.Name "enumerate" p) [e] [] pos) (iEnumT X.K ta 0) := by
  refine ⟨fun pins s σ H R I h => ?_⟩
  refine Call_ (ld_blt I hg hm boot_enumerate (PyProof.Rows.callWith_type1 (thn (ha.run pos pins s σ H _ I h) fun us s1 ⟨vs, H1, I1, r1, q1⟩ => ?_) hs rfl))
  obtain ⟨a, xs, ex, hq, q⟩ := q1
  subst ex
  cases r1 with
  | cons r rr =>
    cases rr
    cases r
    obtain ⟨its, rv, p', hz⟩ := I1.tuple hq
    have hT : s1.heap.IsTuple a its.toArray := p'
    have hal : a < s1.heap.objs.size := by obtain ⟨_, z, _⟩ := hT; exact Heap.lt_size z
    refine call_enumerate_one (begins_tuple a its.toArray) hT fun h' he hit hsz hkp => wpAny_pyIter_enum he ?_
    have I2 : Inv X pins σ H1 { s1 with heap := h' } := I1.kept (t' := s1.toks) hkp
    refine ⟨s1.heap.objs.size + 1, [s1.heap.objs.size + 1, s1.heap.objs.size], _, _, H1, rfl, I2, turn_enumT a (s1.heap.objs.size + 1) s1.heap.objs.size xs.length 0 (Nat.ne_of_lt hal) (Nat.succ_ne_self _) (Nat.ne_of_gt (Nat.lt_succ_of_lt hal)), ⟨⟨.none, ?_⟩, Nat.zero_le _, ⟨_, hit, rfl, rfl⟩⟩, fun b hb => ?_, q⟩
    · rw [show (0 : Int) + ((0 : Nat) : Int) = 0 by omega]; exact he
    · have e' : b = s1.heap.objs.size + 1 ∨ b = s1.heap.objs.size := by simpa using hb
      have hle : s1.heap.objs.size ≤ b := by
        rcases e' with z | z
        · rw [z]; exact Nat.le_add_right _ _
        · rw [z]; exact Nat.le_refl _
      exact I1.fpOk hle (I1.hok.fresh hle)
end VE

/-! Lines: what pieces of curves allow. -/
namespace VM
structure Pc where
  b : Int
  u : Int
  t : Int
structure Pc.Ok (q : Pc) : Prop where
  b0 : 0 ≤ q.b
  b1 : q.b ≤ 60
  u0 : 0 ≤ q.u
  u1 : q.u ≤ 60
  t_ : q.t = 1 ∨ q.t = 2 ∨ q.t = 3 ∨ q.t = 4 ∨ q.t = 6 ∨ q.t = 12
def Pc.at (q : Pc) (x : Int) : Int := q.b + (q.u * x + q.t - 1) / q.t
/-- units in twelve ticks -/
def Pc.r (q : Pc) : Int := q.u * 12 / q.t
theorem Pc.Ok.r0 {q : Pc} (h : q.Ok) : 0 ≤ q.r ∧ q.r ≤ 720 := by
  have a := h.u0
  have b := h.u1
  unfold Pc.r
  rcases h.t_ with e | e | e | e | e | e <;> rw [e] <;> omega
theorem Pc.Ok.at_eq {q : Pc} (h : q.Ok) (x : Int) : q.at x = q.b + (q.r * x + 11) / 12 := by
  unfold Pc.at Pc.r
  rcases h.t_ with e | e | e | e | e | e <;> rw [e]
  · rw [show q.u * 12 / 1 = 12 * q.u by omega, Int.mul_assoc]; omega
  · rw [show q.u * 12 / 2 = 6 * q.u by omega, Int.mul_assoc]; omega
  · rw [show q.u * 12 / 3 = 4 * q.u by omega, Int.mul_assoc]; omega
  · rw [show q.u * 12 / 4 = 3 * q.u by omega, Int.mul_assoc]; omega
  · rw [show q.u * 12 / 6 = 2 * q.u by omega, Int.mul_assoc]; omega
  · rw [show q.u * 12 / 12 = 1 * q.u by omega, Int.mul_assoc]; omega
/-- rounded down of the negative, subtracted -/
theorem Pc.Ok.at_neg {q : Pc} (h : q.Ok) (x : Int) : q.b - (-q.u * x) / q.t = q.at x := by
  unfold Pc.at
  rw [Int.neg_mul]
  rcases h.t_ with e | e | e | e | e | e <;> rw [e] <;> omega
/-- rounded down, one more for a rest -/
theorem Pc.Ok.at_rest {q : Pc} (h : q.Ok) (x : Int) : q.b + (q.u * x) / q.t + (if (q.u * x) % q.t > 0 then 1 else 0) = q.at x := by
  unfold Pc.at
  rcases h.t_ with e | e | e | e | e | e <;> rw [e] <;> split <;> omega
theorem Pc.Ok.up {q : Pc} (h : q.Ok) (x : Int) : q.at x ≤ q.at (x + 1) := by
  have := h.r0.1
  rw [h.at_eq, h.at_eq, Int.mul_add]
  omega
theorem Pc.Ok.nn {q : Pc} (h : q.Ok) {x : Int} (hx : 0 ≤ x) : 0 ≤ q.at x := by
  have := Int.mul_nonneg h.r0.1 hx
  have := h.b0
  rw [h.at_eq]
  omega
theorem Pc.Ok.hi {q : Pc} (h : q.Ok) {x : Int} (hx : 0 ≤ x) : q.at x ≤ 60 + 60 * x := by
  have := Int.mul_le_mul_of_nonneg_right h.r0.2 hx
  have := h.b1
  rw [h.at_eq]
  omega
theorem Pc.Ok.far {q : Pc} (h : q.Ok) (x : Int) : q.at (x + 12) = q.at x + q.r := by
  rw [h.at_eq, h.at_eq, Int.mul_add]
  omega
def minOf {α : Type} (f : α → Int) : List α → Int
  | [] => 0
  | [a] => f a
  | a :: b :: l => min (f a) (minOf f (b :: l))
theorem minOf_is {α : Type} (f : α → Int) : ∀ {l : List α}, l ≠ [] → (∃ a ∈ l, minOf f l = f a) ∧ ∀ a ∈ l, minOf f l ≤ f a
  | [], h => absurd rfl h
  | [a], _ => ⟨⟨a, List.mem_singleton.mpr rfl, rfl⟩, fun b hb => by rw [List.mem_singleton.mp hb]; exact Int.le_refl _⟩
  | a :: b :: l, _ => by
    obtain ⟨⟨c, hc, e⟩, lo⟩ := minOf_is f (l := b :: l) (by simp)
    have d : minOf f (a :: b :: l) = min (f a) (minOf f (b :: l)) := rfl
    rw [d]
    refine ⟨?_, fun x hx => ?_⟩
    · by_cases z : f a ≤ minOf f (b :: l)
      · exact ⟨a, List.mem_cons_self, by omega⟩
      · exact ⟨c, List.mem_cons_of_mem _ hc, by omega⟩
    · rcases List.mem_cons.mp hx with h | h
      · subst h; omega
      · have := lo x h; omega
theorem minOf_eq {α : Type} {f : α → Int} {l : List α} {m : Int} (hm : m ∈ l.map f) (h : ∀ y ∈ l.map f, m ≤ y) : m = minOf f l := by
  have ne : l ≠ [] := fun z => by subst z; cases hm
  obtain ⟨⟨a, ha, e⟩, lo⟩ := minOf_is f ne
  obtain ⟨c, hc, rfl⟩ := List.mem_map.mp hm
  have := lo c hc
  have := h (f a) (List.mem_map.mpr ⟨a, ha, rfl⟩)
  omega
def maxOf {α : Type} (f : α → Int) (l : List α) : Int := -(minOf (fun a => -(f a)) l)
theorem maxOf_is {α : Type} (f : α → Int) {l : List α} (h : l ≠ []) : (∃ a ∈ l, maxOf f l = f a) ∧ ∀ a ∈ l, f a ≤ maxOf f l := by
  obtain ⟨⟨a, ha, e⟩, lo⟩ := minOf_is (fun a => -(f a)) h
  unfold maxOf
  exact ⟨⟨a, ha, by omega⟩, fun c hc => by have := lo c hc; omega⟩
theorem maxOf_eq {α : Type} {f : α → Int} {l : List α} {m : Int} (hm : m ∈ l.map f) (h : ∀ y ∈ l.map f, y ≤ m) : m = maxOf f l := by
  have ne : l ≠ [] := fun z => by subst z; cases hm
  obtain ⟨⟨a, ha, e⟩, lo⟩ := maxOf_is f ne
  obtain ⟨c, hc, rfl⟩ := List.mem_map.mp hm
  have := lo c hc
  have := h (f a) (List.mem_map.mpr ⟨a, ha, rfl⟩)
  omega
/-- the least of the lines -/
def lnF (qs : List Pc) (x : Int) : Int := if x = 0 then 0 else minOf (fun q => q.at x) qs
theorem lnF_pos {qs : List Pc} {x : Int} (h : 0 < x) : lnF qs x = minOf (fun q => q.at x) qs := by unfold lnF; rw [if_neg (by omega)]
theorem lnF_zero {qs : List Pc} : lnF qs 0 = 0 := by unfold lnF; rw [if_pos rfl]
/-- how many values are written, and the gain in twelve ticks -/
def lnN (qs : List Pc) : Int := 12 * (maxOf Pc.b qs + 2)
def lnG (qs : List Pc) : Int := minOf Pc.r qs
theorem lnN_b {qs : List Pc} (ne : qs ≠ []) (ok : ∀ q ∈ qs, q.Ok) : 24 ≤ lnN qs ∧ lnN qs ≤ 744 := by
  obtain ⟨⟨a, ha, e⟩, _⟩ := maxOf_is Pc.b ne
  have := (ok a ha).b0
  have := (ok a ha).b1
  unfold lnN
  omega
theorem lnG_b {qs : List Pc} (ne : qs ≠ []) (ok : ∀ q ∈ qs, q.Ok) : 0 ≤ lnG qs ∧ lnG qs ≤ 720 := by
  obtain ⟨⟨a, ha, e⟩, _⟩ := minOf_is Pc.r ne
  have := (ok a ha).r0
  unfold lnG
  omega
theorem ln_rep {qs : List Pc} (ne : qs ≠ []) (ok : ∀ q ∈ qs, q.Ok) : Rep (lnF qs) (lnN qs) 12 (lnG qs) := fun t ht => by
  have nb := lnN_b ne ok
  obtain ⟨⟨q0, h0, e0⟩, l0⟩ := minOf_is Pc.r ne
  obtain ⟨_, lb⟩ := maxOf_is Pc.b ne
  have hN : lnN qs = 12 * (maxOf Pc.b qs + 2) := rfl
  obtain ⟨s, rfl⟩ : ∃ s, t = s + 12 := ⟨t - 12, by omega⟩
  rw [show s + 12 - 12 = s by omega, lnF_pos (by omega), lnF_pos (by omega)]
  obtain ⟨⟨q1, h1, e1⟩, l1⟩ := minOf_is (fun q : Pc => q.at (s + 12)) ne
  obtain ⟨⟨q2, h2, e2⟩, l2⟩ := minOf_is (fun q : Pc => q.at s) ne
  show _ = _ + minOf Pc.r qs
  have r2 : q2.r = q0.r := by
    have a := l0 q2 h2
    rw [e0] at a
    by_cases z : q2.r = q0.r
    · exact z
    · exfalso
      have m := Int.mul_le_mul_of_nonneg_right (show q0.r + 1 ≤ q2.r by omega) (show 0 ≤ s by omega)
      rw [Int.add_mul, Int.one_mul] at m
      have c := l2 q0 h0
      rw [e2] at c
      have c : q2.at s ≤ q0.at s := c
      rw [(ok q2 h2).at_eq, (ok q0 h0).at_eq] at c
      have := (ok q2 h2).b0
      have := lb q0 h0
      omega
  have f1 := (ok q1 h1).far s
  have f2 := (ok q2 h2).far s
  have c1 := l1 q2 h2
  have c2 := l2 q1 h1
  have c3 := l0 q1 h1
  have c1 : minOf (fun q : Pc => q.at (s + 12)) qs ≤ q2.at (s + 12) := c1
  have c2 : minOf (fun q : Pc => q.at s) qs ≤ q1.at s := c2
  have e1 : minOf (fun q : Pc => q.at (s + 12)) qs = q1.at (s + 12) := e1
  have e2 : minOf (fun q : Pc => q.at s) qs = q2.at s := e2
  omega
theorem ln_up {qs : List Pc} (ne : qs ≠ []) (ok : ∀ q ∈ qs, q.Ok) (x : Int) (hx : 0 ≤ x) : lnF qs x ≤ lnF qs (x + 1) := by
  obtain ⟨⟨q1, h1, e1⟩, l1⟩ := minOf_is (fun q : Pc => q.at (x + 1)) ne
  rw [lnF_pos (show 0 < x + 1 by omega), e1]
  have u := (ok q1 h1).up x
  by_cases z : x = 0
  · subst z
    rw [lnF_zero]
    exact (ok q1 h1).nn (by omega)
  · rw [lnF_pos (by omega)]
    obtain ⟨_, l2⟩ := minOf_is (fun q : Pc => q.at x) ne
    exact Int.le_trans (l2 q1 h1) u
theorem ln_nn {qs : List Pc} (ne : qs ≠ []) (ok : ∀ q ∈ qs, q.Ok) (x : Int) (hx : 0 ≤ x) : 0 ≤ lnF qs x := by
  by_cases z : x = 0
  · subst z; rw [lnF_zero]; exact Int.le_refl _
  · rw [lnF_pos (by omega)]
    obtain ⟨⟨q1, h1, e1⟩, _⟩ := minOf_is (fun q : Pc => q.at x) ne
    rw [e1]
    exact (ok q1 h1).nn hx
theorem ln_hi {qs : List Pc} (ne : qs ≠ []) (ok : ∀ q ∈ qs, q.Ok) (x : Int) (hx : 0 ≤ x) : lnF qs x ≤ 60 + 60 * x := by
  by_cases z : x = 0
  · subst z; rw [lnF_zero]; decide
  · rw [lnF_pos (by omega)]
    obtain ⟨⟨q1, h1, e1⟩, _⟩ := minOf_is (fun q : Pc => q.at x) ne
    rw [e1]
    exact (ok q1 h1).hi hx
theorem Pc.Ok.sub {p q : Pc} (hp : p.Ok) (hq : q.Ok) (h : p.r ≤ q.r) {a b : Int} (ha : 0 ≤ a) (hb : 0 ≤ b) : p.at (a + b) ≤ p.at a + q.at b := by
  have m := Int.mul_le_mul_of_nonneg_right h hb
  have := hq.b0
  rw [hp.at_eq, hp.at_eq, hq.at_eq, Int.mul_add]
  omega
/-- the least of lines is good -/
theorem ln_good {qs : List Pc} (ne : qs ≠ []) (ok : ∀ q ∈ qs, q.Ok) {a b : Int} (ha : 0 ≤ a) (hb : 0 ≤ b) : lnF qs (a + b) ≤ lnF qs a + lnF qs b := by
  by_cases za : a = 0
  · subst za; rw [lnF_zero, Int.zero_add, Int.zero_add]; exact Int.le_refl _
  by_cases zb : b = 0
  · subst zb; rw [lnF_zero, Int.add_zero, Int.add_zero]; exact Int.le_refl _
  rw [lnF_pos (show 0 < a + b by omega), lnF_pos (show 0 < a by omega), lnF_pos (show 0 < b by omega)]
  obtain ⟨_, l⟩ := minOf_is (fun q : Pc => q.at (a + b)) ne
  obtain ⟨⟨p, hp, ep⟩, _⟩ := minOf_is (fun q : Pc => q.at a) ne
  obtain ⟨⟨q, hq, eq⟩, _⟩ := minOf_is (fun q : Pc => q.at b) ne
  rw [ep, eq]
  by_cases c : p.r ≤ q.r
  · exact Int.le_trans (l p hp) ((ok p hp).sub (ok q hq) c ha hb)
  · refine Int.le_trans (l q hq) ?_
    have := (ok q hq).sub (ok p hp) (show q.r ≤ p.r by omega) hb ha
    show q.at (a + b) ≤ p.at a + q.at b
    rw [Int.add_comm a b, Int.add_comm (p.at a)]
    exact this
/-- more pieces, less -/
theorem ln_le {qs : List Pc} {q : Pc} (h : q ∈ qs) (x : Int) : lnF qs x ≤ lnF [q] x := by
  by_cases z : x = 0
  · subst z; rw [lnF_zero, lnF_zero]; exact Int.le_refl _
  · unfold lnF
    rw [if_neg z, if_neg z]
    exact (minOf_is (fun q : Pc => q.at x) (fun e => by subst e; cases h)).2 q h
/-- the same pieces, the same -/
theorem minOf_same {α : Type} {f : α → Int} {l m : List α} (h : ∀ a, a ∈ l ↔ a ∈ m) : minOf f l = minOf f m := by
  by_cases z : l = []
  · subst z
    have : m = [] := by
      cases m with
      | nil => rfl
      | cons a m => exact absurd ((h a).mpr List.mem_cons_self) (by simp)
    subst this; rfl
  · have z2 : m ≠ [] := fun e => by
      subst e
      obtain ⟨⟨a, ha, _⟩, _⟩ := minOf_is f z
      exact absurd ((h a).mp ha) (by simp)
    obtain ⟨⟨a, ha, ea⟩, la⟩ := minOf_is f z
    obtain ⟨⟨b, hb, eb⟩, lb⟩ := minOf_is f z2
    have := la b ((h b).mpr hb)
    have := lb a ((h a).mp ha)
    omega
theorem ln_same {qs rs : List Pc} (h : ∀ q, q ∈ qs ↔ q ∈ rs) (x : Int) : lnF qs x = lnF rs x := by
  unfold lnF
  rw [minOf_same h]
/-! forms of functions that repeat from somewhere on, with a period that divides twelve -/
def per6 (p : Int) : Prop := p = 1 ∨ p = 2 ∨ p = 3 ∨ p = 4 ∨ p = 6 ∨ p = 12
def cyc6 (i : Nat) : Int := ([1, 2, 3, 4, 6, 12] : List Int).getD i 0
theorem cyc6_lt {i k : Nat} (h : i < k) (hk : k < 6) : cyc6 i < cyc6 k := by
  have : ∀ k, k < 6 → ∀ i, i < k → cyc6 i < cyc6 k := by decide +kernel
  exact this k hk i h
theorem cyc6_b {i : Nat} (h : i < 6) : 0 < cyc6 i ∧ cyc6 i ≤ 12 := by
  have : ∀ i, i < 6 → 0 < cyc6 i ∧ cyc6 i ≤ 12 := by decide +kernel
  exact this i h
theorem cyc6_per {d : Int} (h : per6 d) : ∃ k, k < 6 ∧ cyc6 k = d := by
  rcases h with h | h | h | h | h | h <;> subst h
  · exact ⟨0, by decide, rfl⟩
  · exact ⟨1, by decide, rfl⟩
  · exact ⟨2, by decide, rfl⟩
  · exact ⟨3, by decide, rfl⟩
  · exact ⟨4, by decide, rfl⟩
  · exact ⟨5, by decide, rfl⟩
theorem per6_dvd {d p : Int} (d0 : 0 < d) (hp : per6 p) (h : d ∣ p) : per6 d := by
  have h12 : d ∣ 12 := Int.dvd_trans h (by rcases hp with h | h | h | h | h | h <;> subst h <;> decide)
  have le := Int.le_of_dvd (by decide) h12
  obtain ⟨e, he⟩ := h12
  have : d = 1 ∨ d = 2 ∨ d = 3 ∨ d = 4 ∨ d = 5 ∨ d = 6 ∨ d = 7 ∨ d = 8 ∨ d = 9 ∨ d = 10 ∨ d = 11 ∨ d = 12 := by omega
  unfold per6
  rcases this with h | h | h | h | h | h | h | h | h | h | h | h <;> subst h <;> omega
/-- what the form's period is -/
theorem fm_least {xs : List Int} {p g : Int} (hp : 0 < p) (hpn : p ≤ xs.length) : (formP xs p g).1 ∣ p ∧ ∀ c : Int, 0 < c → c < (formP xs p g).1 → ∀ N s : Int, ¬ Rep (cvAt xs p g) N c s := by
  have R : Rep (cvAt xs p g) xs.length p g := Rep.cvAt hp hpn
  have Pp : Per (cvAt xs p g) p.toNat := ⟨by omega, _, _, by rw [Int.toNat_of_nonneg (by omega)]; exact R⟩
  obtain ⟨d, D, no⟩ := least_nat ⟨p.toNat, Pp⟩
  have no' : ∀ c, Per (cvAt xs p g) c → d ≤ c := fun c hc => by
    by_cases z : d ≤ c
    · exact z
    · exact absurd hc (no c (by omega))
  have dvp : (d : Int) ∣ p := by
    have := Int.natCast_dvd_natCast.mpr (per_dvd' D no' Pp)
    rwa [Int.toNat_of_nonneg (by omega)] at this
  have e1 : (formP xs p g).1 = d := leastFrom_is R hp D no' dvp _ 1 (by omega) (by omega) (by have := D.1; omega)
  rw [e1]
  refine ⟨dvp, fun c c0 cd N s hc => ?_⟩
  have := no' c.toNat ⟨by omega, N, s, by rw [Int.toNat_of_nonneg (by omega)]; exact hc⟩
  omega
theorem fm_rep {xs : List Int} {p g : Int} (hp : 0 < p) (hpn : p ≤ xs.length) : Rep (cvAt xs p g) (formV xs p g).length (formP xs p g).1 (formP xs p g).2 := by
  obtain ⟨a, b, R⟩ := leastP_spec (Rep.cvAt (g := g) hp hpn) hp
  have a : 0 < (formP xs p g).1 := a
  have b : (formP xs p g).1 ≤ p := b
  have R : Rep (cvAt xs p g) xs.length (formP xs p g).1 (formP xs p g).2 := R
  obtain ⟨c1, c2, c3⟩ := shr_spec a xs.length (by omega) R
  unfold formV
  rw [vals_length]
  exact c3
/-- the last length that does not follow from the one a period before, of c + 1, .., c + j; c if there is none -/
def lastOdd (f : Int → Int) (c s : Int) : Nat → Int
  | 0 => c
  | j + 1 => if f (c + 1 + j) = f (c + 1 + j - c) + s then lastOdd f c s j else c + 1 + j
theorem lastOdd_is (f : Int → Int) (c s : Int) : ∀ j : Nat, c ≤ lastOdd f c s j ∧ lastOdd f c s j ≤ c + j ∧ (∀ t, lastOdd f c s j < t → t ≤ c + j → f t = f (t - c) + s) ∧ (c < lastOdd f c s j → f (lastOdd f c s j) ≠ f (lastOdd f c s j - c) + s)
  | 0 => ⟨Int.le_refl _, by show c ≤ c + 0; omega, fun t h1 h2 => by have h1 : c < t := h1; omega, fun h => by have h : c < c := h; omega⟩
  | j + 1 => by
    obtain ⟨a, b, d, e⟩ := lastOdd_is f c s j
    by_cases z : f (c + 1 + j) = f (c + 1 + j - c) + s
    · have q : lastOdd f c s (j + 1) = lastOdd f c s j := if_pos z
      rw [q]
      refine ⟨a, by omega, fun t h1 h2 => ?_, e⟩
      by_cases w : t = c + 1 + j
      · rw [w]; exact z
      · exact d t h1 (by omega)
    · have q : lastOdd f c s (j + 1) = c + 1 + j := if_neg z
      rw [q]
      exact ⟨by omega, by omega, fun t h1 h2 => by omega, fun _ => z⟩
/-- with the form's period: the number of its values -/
theorem lastOdd_form {xs : List Int} {p g : Int} {j : Nat} (hp : 0 < p) (hpn : p ≤ xs.length) (hj : (xs.length : Int) ≤ (formP xs p g).1 + j) : lastOdd (cvAt xs p g) (formP xs p g).1 (formP xs p g).2 j = formM xs p g := by
  obtain ⟨f1, f2, f3, f4, f5⟩ := form_spec (vs := xs) (g := g) hp hpn
  have R := fm_rep (g := g) hp hpn
  have ml : (formV xs p g).length = formM xs p g := by unfold formV; rw [vals_length]
  have mn := shr_min (f := cvAt xs p g) (d := (formP xs p g).1) (s := (formP xs p g).2) xs.length
  have eM : shr (cvAt xs p g) (formP xs p g).1 (formP xs p g).2 xs.length = formM xs p g := rfl
  rw [eM] at mn
  rw [ml] at R f3 f4
  obtain ⟨a, b, d, e⟩ := lastOdd_is (cvAt xs p g) (formP xs p g).1 (formP xs p g).2 j
  generalize lastOdd (cvAt xs p g) (formP xs p g).1 (formP xs p g).2 j = L at *
  generalize formM xs p g = m at *
  by_cases c1 : (m : Int) < L
  · exact absurd (R L c1) (e (by omega))
  · by_cases c2 : L < m
    · rcases mn with h | h | h
      · omega
      · omega
      · exact absurd (d m c2 (by omega)) h
    · omega
/-- with a lesser one it lies far out -/
theorem lastOdd_far {xs : List Int} {p g c s : Int} {j : Nat} (hp : 0 < p) (hpn : p ≤ xs.length) (c0 : 0 < c) (cd : c < (formP xs p g).1) (hj : (xs.length : Int) + p ≤ c + j) : (xs.length : Int) < lastOdd (cvAt xs p g) c s j := by
  obtain ⟨a, b, d, e⟩ := lastOdd_is (cvAt xs p g) c s j
  obtain ⟨f1, f2, f3, f4, f5⟩ := form_spec (vs := xs) (g := g) hp hpn
  by_cases z : (xs.length : Int) < lastOdd (cvAt xs p g) c s j
  · exact z
  · exfalso
    have S : stepsEq (cvAt xs p g) xs.length p c = true := steps_of (s := s) fun t h1 h2 => d t (by omega) (by omega)
    exact (fm_least (g := g) hp hpn).2 c c0 cd _ _ ((Rep.cvAt (g := g) hp hpn).of_steps c0 (by omega) S)
/-- written by its form a curve has this form -/
theorem fm_idem {xs : List Int} {p g : Int} (hp : 0 < p) (hpn : p ≤ xs.length) : formV (formV xs p g) (formP xs p g).1 (formP xs p g).2 = formV xs p g ∧ formP (formV xs p g) (formP xs p g).1 (formP xs p g).2 = formP xs p g := by
  obtain ⟨f1, f2, f3, f4, f5⟩ := form_spec (vs := xs) (g := g) hp hpn
  have u := form_unique (g := (formP xs p g).2) (e := g) f1 f3 hp hpn f5
  first | exact u | exact ⟨u.2, u.1⟩ | exact ⟨u.1, u.2⟩
/-- what is known of such a function's form -/
theorem fm_vals {F : Int → Int} {n : Nat} {G : Int} (R : Rep F n 12 G) (hn : 12 ≤ n) (F0 : F 0 = 0) : ∀ t : Int, 0 ≤ t → cvAt (vals F n) 12 G t = F t :=
  fun t ht => cvAt_vals (by decide) (by omega) F0 R t ht
theorem form_get {xs : List Int} {p g : Int} {i : Nat} (h : i < (formV xs p g).length) : (formV xs p g).getD i 0 = cvAt xs p g ((i : Int) + 1) := by
  unfold formV at h ⊢
  rw [vals_length] at h
  exact vals_getD h
/-- at most: what the package looks at is enough -/
theorem am_iff {f h : Int → Int} {n1 n2 : Nat} {p1 g1 p2 g2 : Int} (R : Rep f n1 p1 g1) (S : Rep h n2 p2 g2) (a0 : 0 < p1) (a1 : p1 ≤ n1) (b0 : 0 < p2) (b1 : p2 ≤ n2) :
    amM f h n1 n2 p1 g1 p2 g2 = true ↔ ∀ t : Int, 1 ≤ t → f t ≤ h t := by
  have d1 : p1 ∣ ((Nat.lcm p1.toNat p2.toNat : Nat) : Int) := by
    have := Int.natCast_dvd_natCast.mpr (Nat.dvd_lcm_left p1.toNat p2.toNat)
    rwa [Int.toNat_of_nonneg (by omega)] at this
  have d2 : p2 ∣ ((Nat.lcm p1.toNat p2.toNat : Nat) : Int) := by
    have := Int.natCast_dvd_natCast.mpr (Nat.dvd_lcm_right p1.toNat p2.toNat)
    rwa [Int.toNat_of_nonneg (by omega)] at this
  have l0 : 0 < Nat.lcm p1.toNat p2.toNat := Nat.lcm_pos (by omega) (by omega)
  unfold amM
  have eN : ((amN n1 n2 p1 p2 : Nat) : Int) = max ((n1 : Int) - p1) ((n2 : Int) - p2) + (Nat.lcm p1.toNat p2.toNat : Nat) := by unfold amN; omega
  have R2 : Rep f (amN n1 n2 p1 p2 : Nat) (Nat.lcm p1.toNat p2.toNat : Nat) (g1 * ((Nat.lcm p1.toNat p2.toNat : Nat) / p1)) := R.mul a0 d1 (by omega) (by omega)
  have S2 : Rep h (amN n1 n2 p1 p2 : Nat) (Nat.lcm p1.toNat p2.toNat : Nat) (g2 * ((Nat.lcm p1.toNat p2.toNat : Nat) / p2)) := S.mul b0 d2 (by omega) (by omega)
  have N1 : 1 ≤ amN n1 n2 p1 p2 := by omega
  have NL : Nat.lcm p1.toNat p2.toNat ≤ amN n1 n2 p1 p2 := by omega
  generalize g1 * ((Nat.lcm p1.toNat p2.toNat : Nat) / p1) = G1 at *
  generalize g2 * ((Nat.lcm p1.toNat p2.toNat : Nat) / p2) = G2 at *
  generalize amN n1 n2 p1 p2 = N at *
  generalize Nat.lcm p1.toNat p2.toNat = L at *
  by_cases c : G2 < G1
  · rw [if_pos c]
    refine ⟨fun z => (nomatch z), fun z => ?_⟩
    exfalso
    obtain ⟨K, hK⟩ : ∃ K : Nat, h N - f N < K := ⟨(h N - f N).toNat + 1, by omega⟩
    have e1 := R2.times (by omega) K ((N : Int) + K * L) (by omega)
    have e2 := S2.times (by omega) K ((N : Int) + K * L) (by omega)
    rw [show (N : Int) + K * L - K * L = N by omega] at e1 e2
    have nn : (0 : Int) ≤ (K : Int) * L := Int.mul_nonneg (by omega) (by omega)
    have q := z ((N : Int) + K * L) (by omega)
    have m := Int.mul_le_mul_of_nonneg_left (show G2 + 1 ≤ G1 by omega) (show (0 : Int) ≤ K by omega)
    rw [Int.mul_add, Int.mul_one] at m
    omega
  · rw [if_neg c, all_iff]
    refine ⟨fun z => ?_, fun z t h1 _ => z t h1⟩
    have key : ∀ m : Nat, ∀ t : Int, 1 ≤ t → t ≤ m → f t ≤ h t := by
      intro m
      induction m with
      | zero => intro t h1 h2; omega
      | succ m ih =>
        intro t h1 h2
        by_cases w : t ≤ N
        · exact z t h1 w
        · rw [R2 t (by omega), S2 t (by omega)]
          have := ih (t - L) (by omega) (by omega)
          omega
    intro t ht
    exact key t.toNat t ht (by omega)
end VM

/-! repr of a list of own objects: their own __repr__ runs under the list's guard. -/
namespace VL
open PySem PySem.Spec PyProof.Rows L2
/-- the guards are of S alone -/
def Gd (S : Addr) (A : Around) : Prop := ∃ g, A.guards = some g ∧ ∀ b, b ≠ S → Clear g b
/-- a def's promise, asked where the guards are of one list alone -/
structure FnC (P : Program) (w : World) (K : PySem.W.Frag) (mg : Str → Option Value) (base : Heap) (CX : CXT)
    (k : Nat) (f : Addr) (fd : FuncData) (ps : List Str) (sp : Addr → Sp) : Prop where
  arity : ∀ S as H Q E, sp S as H Q E → as.length = ps.length
  go : ∀ (S : Addr) (A : Around) (outer : List Env) (s : Shared) (H : Hp) (args : Args) (us : List Value) (as : List V) (Q : VK) (E : XK),
    Gd S A → Room k A → Env0 P w K mg base A outer s H → BindsTo s fd args (ps.zip us) → Vals as us → sp S as H Q E →
      codeAny (model P w) A (.call (.ref f) args) (CR CX outer P w H s Q E) s
section
variable {P : Program} {w : World} {K : PySem.W.Frag} {mg : Str → Option Value} {base : Heap} {CX : CXT}
theorem okC {x qual : Str} {st : Stmt} {f : Addr} {fd : FuncData} {N ps : List Str} {k : Nat} {sp : Addr → Sp}
    (F : Fun K x qual st f fd) (Sc : FnScope N ps (defScope st)) (len : ∀ S as H Q E, sp S as H Q E → as.length = ps.length)
    (body : ∀ (S : Addr) (cdv : Value) (A : Around) (outer : List Env) (s : Shared) (H : Hp) (as : List V) (Q : VK) (E : XK),
      Gd S (A.deeper (envOfC qual (defScope st) s.heap.objs.size f cdv)) →
      Room k (A.deeper (envOfC qual (defScope st) s.heap.objs.size f cdv)) → sp S as H Q E →
      ∃ t, PSs (cxOf CX P w K mg base N qual (defScope st) f cdv A outer s H E) (defBody st) t ∧
        t { nx := fun _ H' => Q .non H', rt := Q } (start N as) H) :
    FnC P w K mg base CX (k + 1) f fd ps sp := by
  obtain ⟨oc, od, kV, doc, pm, an, cdv, ct, osl, rfl, lk, hcd⟩ := F.ex
  refine ⟨len, fun S A outer s H args us as Q E hA hr e0 hb r hsp => ?_⟩
  have hl := len _ _ _ _ _ hsp
  have KX : K.In s.heap := e0.mod.kin.keeps fun b o e => (e0.bs b o e).1
  have lim : s.heap.NoLimit := e0.mod.nolimit.keeps fun b o e => (e0.bs b o e).1
  have kinds : ∀ y ∈ ps.zip us, (defScope st).names.lookup y.1 = some .local ∨
      ((defScope st).names.lookup y.1 = some .cell ∧ ((cellsFrom (s.heap.objs.size + 1) (defScope st).names []).lookup y.1).isSome = true) := by
    rintro ⟨n, v⟩ hy
    rcases Sc.par n (List.of_mem_zip hy).1 with q | q
    · exact .inl q
    · exact .inr ⟨q, PySem.W.cellsFrom_some _ _ _ (.inl q)⟩
  refine codeAny_call_function hr.depth (KX _ _ lk) rfl Sc.co Sc.gen rfl (PySem.W.codeRec_of KX hcd) (hb _ _ _ _ ?_)
  refine wpAny_newFunctionEnv_cells Sc.kind kinds fun env he s1 z => ?_
  subst he
  refine ⟨lim.keeps z.toInCall.keep, codeAny_func ?_⟩
  obtain ⟨t, ht, hq⟩ := body S cdv A outer s H as Q E hA (hr.deeper _) hsp
  have I0 : Inv (cxOf CX P w K mg base N qual (defScope st) f cdv A outer s H E) [] (start N as) H s1 :=
    inv_start Sc hr.hd e0 hl r z
  refine wpAny_mono (ht.run [] s1 (start N as) H _ I0 hq) ?_ fun e s' hs => hs
  intro fl s' hs
  have done : ∀ (σ' : L2.St) (H' : Hp) (v : V) (u : Value), Inv (cxOf CX P w K mg base N qual (defScope st) f cdv A outer s H E) [] σ' H' s' →
      RelV v u → Q v H' → CE outer P w H s Q u s' := fun σ' H' v u J rv q => ⟨v, H', J.os, J.bare, J.base, J.hok, rv, q⟩
  cases fl with
  | ret u =>
    obtain ⟨v, σ', H', J, rv, q⟩ := hs
    exact done σ' H' v u J rv q
  | next =>
    obtain ⟨σ', H', J, q⟩ := hs
    exact done σ' H' V.non Value.none J rfl q
  | brk => exact hs.elim fun _ h => h.elim fun _ h => False.elim h.2
  | cont => exact hs.elim fun _ h => h.elim fun _ h => False.elim h.2
end
section
variable {P : Program} {w : World} {K : PySem.W.Frag} {mg : Str → Option Value} {base : Heap}
theorem okC0 {x qual : Str} {st : Stmt} {f : Addr} {fd : FuncData} {N ps : List Str} {k : Nat} {sp : Addr → Sp}
    (F : Fun K x qual st f fd) (Sc : FnScope N ps (defScope st)) (len : ∀ S as H Q E, sp S as H Q E → as.length = ps.length)
    (body : ∀ (S : Addr) (cdv : Value) (A : Around) (outer : List Env) (s : Shared) (H : Hp) (as : List V) (Q : VK) (E : XK),
      Gd S (A.deeper (envOfC qual (defScope st) s.heap.objs.size f cdv)) →
      Room k (A.deeper (envOfC qual (defScope st) s.heap.objs.size f cdv)) → sp S as H Q E →
      ∃ t, PSs (cxOf CX0 P w K mg base N qual (defScope st) f cdv A outer s H E).nox (defBody st) t ∧
        t { nx := fun _ H' => Q .non H', rt := Q } (start N as) H) :
    FnC P w K mg base CX0 (k + 1) f fd ps sp :=
  okC F Sc len fun S cdv A outer s H as Q E hA hr h =>
    let ⟨t, h1, h2⟩ := body S cdv A outer s H as Q E hA hr h
    ⟨t, h1.nox, h2⟩
end
theorem ints_all {prog : Program} {w : World} {h₀ : Heap} {d : Nat} : ∀ (us : List Int) (its : List Value), Vals (us.map V.int) its → PyData.showableAll (us.map PyData.int) = true → ReprAllK prog w [] h₀ d its (PyData.shownAll (us.map PyData.int))
  | [], its, rv, _ => by
    cases rv
    simp only [List.map_nil, PyData.shownAll]
    exact .nil
  | u :: us, its, rv, sh => by
    cases rv with
    | cons r1 r =>
      obtain ⟨t, rfl⟩ := r1
      have sh' : (PyData.int u).showable = true ∧ PyData.showableAll (us.map PyData.int) = true := by simpa [PyData.showableAll] using sh
      have hl : u.natAbs.log2 < 1920 := by simpa [PyData.showable] using sh'.1
      simp only [List.map_cons, PyData.shownAll, PyData.shown]
      exact .cons (ReprK.of_is (ReprIs.int t hl) _ _ _) (ints_all us _ r sh'.2)
section
variable {X : Cx}
/-- {x} of a list of ints, in an f-string, under the guard of another list -/
def tFmtC (K : PySem.W.Frag) (S : Addr) (te : TE) : TE := fun σ H Q => te σ H fun x H1 => ∃ (a : Addr) (u : Int) (us : List Int), x = .ref a ∧ a ≠ S ∧ H1 a = some (.lst ((u :: us).map V.int)) ∧ (PyData.list ((u :: us).map PyData.int)).showable = true ∧ (PyData.list ((u :: us).map PyData.int)).shown.length ≤ sizeLine ∧ Q (.str (PyData.list ((u :: us).map PyData.int)).shown) H1
theorem pe_fmtC {S : Addr} {e : Expr} {te : TE} {pos : Pos} (hg : Gd S X.A) (hu : X.A.units + 64 < cLine) (he : PE X e te) : PE X (.FormattedValue e (-1) none pos) (tFmtC X.K S te) := by
  refine ⟨fun pins s σ H Q I h => wpAny_FormattedValue_plain (thn (he.run pins s σ H _ I h) ?_)⟩
  rintro v s1 ⟨x, H1, I1, r1, a, u, us, rfl, na, ha, sh, sz, q⟩
  obtain rfl : v = Value.ref a := r1
  obtain ⟨g, hgg, hcl⟩ := hg
  obtain ⟨zl, its, n, rv, ll, hget⟩ := I1.lstM ha
  have shA : PyData.showableAll ((u :: us).map PyData.int) = true := by simpa [PyData.showable] using sh
  have all := ints_all (prog := X.prog) (w := X.w) (h₀ := s1.heap) (d := 0) (u :: us) its rv shA
  have hs : (PyData.list ((u :: us).map PyData.int)).shown = listText (PyData.shownAll ((u :: us).map PyData.int)) := by simp only [PyData.shown]
  rw [hs] at sz q
  cases its with
  | nil => cases rv
  | cons y l =>
    refine wpAny_formatField_slot (fun _ _ => nofun) (by omega) ⟨_, hget, rfl⟩ F.slot_list_format F.slot_list_str F.slot_list_repr.toG ?_
    refine call_list_reprK (as := []) (h₀ := s1.heap) (d := 0) hget rfl rfl (by simp) (by simpa using all.length_eq) (fun i z e => all.item i z (by simpa using e)) (A := X.A.in1.in1) (g := g) hgg (fun b hb => ?_) (by show X.A.units + 1 + 1 + (0 + 1) < cLine; omega) (fun _ _ e => e) (fun h' w tk k => ⟨_, _, rfl, .str _, H1, I1.kept (t' := tk) k, ⟨_, rfl⟩, q⟩) sz
    rw [List.mem_singleton.mp hb]
    exact hcl a na

theorem ifBoundBy_K {M : Model} {K : PySem.W.Frag} {A : Around} {E : Value → Shared → Prop} {s : Shared} {x C f : Addr} {od : Option Obj} {ox : Obj} {name : Str} {last : Value → List Value → Sem Value} {Q : Option Value → Shared → Prop} (X : K.In s.heap) (I : PySem.W.InstAt s.heap x ox C od) (hs : PySem.W.findIn K (.ref C) name = some (some (.ref f))) (hf : PySem.W.isFn K (.ref f) = true)
    (h : wpAny M A (last (.ref f) [.ref x]) (fun v => Q (some v)) E s) : wpAny M A (callSpecialIfBoundBy? last (.ref x) name) Q E s := by
  simp only [callSpecialIfBoundBy?, bindSpecialIfBound?]
  refine wpAny_holding (wpAny_bind (wpAny_bind (wpAny_bind (I.type.here ((PySem.W.looks_findIn X hs).here ?_)))))
  refine wpAny_bind (wpAny_askSetting (wpAny_ite ?_))
  have fin : wpAny M A (last (.ref f) [.ref x] >>= fun v => pure (some v)) Q E s := wpAny_bind (wpAny_mono h (fun v s' h' => wpAny_pure h') fun _ _ h' => h')
  split
  · exact wpAny_bind ((PySem.W.bind_fn X _ (beq_iff_eq.mp hf)).here (wpAny_pure (by exact fin)))
  · exact wpAny_tryCatch (wpAny_bind ((PySem.W.bind_fn X _ (beq_iff_eq.mp hf)).here (wpAny_pure (by exact fin))))
variable {CX : CXT} {k : Nat} {f C : Addr} {fd : FuncData} {ps : List Str} {sp : Addr → Sp} {E : XK}
theorem own_under (F : FnC X.prog X.w X.K X.mg X.base CX k f fd ps sp) (o : Meth X.K C "__repr__" f) (hb : Binds X.K fd ps []) (hx : Passes CX X E)
    {S : Addr} {A' : Around} (fr : A'.frames = X.A.frames) (gd : Gd S A') (hr : Room k A') {pins : List (Addr × Obj)} {σ : L2.St} {H : Hp} {s : Shared} (I : Inv X pins σ H s) {a dx : Addr} {fs : List (Str × V)} (ea : H a = some (.ins C dx fs)) {R : Str → Hp → Prop}
    (h : sp S [.ref a] H (fun v H' => ∃ t, v = .str t ∧ R t H') E) {b : Nat} (hb2 : b ≤ sizeLine) :
    wpAny (model X.prog X.w) A' (pyReprUnder b (.ref a)) (fun t s' => ∃ H', Inv X pins σ H' s' ∧ R t H') X.xe s := by
  refine wpAny_pyReprUnder_ref hb2 ?_
  unfold pyReprObjUnder pyReprObjBy
  refine wpAny_bind (wpAny_cRoomFor hr.units0 ?_)
  obtain ⟨mA, J, _⟩ := ins_get I.hok ea
  obtain ⟨od, J, _⟩ := J.look
  have KX := I.kIn
  refine wpAny_bind (wpAny_bind (J.type.here ((PySem.W.looks_findIn KX o.at_).here ?_)))
  show wpAny _ _ (if (some (Value.ref f)).isNone = true then _ else _) _ _ _
  rw [if_neg (by simp)]
  refine wpAny_bind (ifBoundBy_K KX J o.at_ o.fn ?_)
  have len := F.arity _ _ _ _ _ h
  have bind := hb s [.ref a] I.kIn (by simpa using len)
  rw [List.append_nil] at bind
  have e0 := I.env0
  refine wpAny_call (codeAny_mono (F.go S A' X.stack s H ⟨[.ref a], []⟩ [.ref a] [.ref a] _ E gd hr ⟨fr.trans e0.frames, e0.mod, e0.bs, e0.bsz, e0.funs, e0.frf, e0.hok, e0.bare⟩ bind (.cons rfl .nil) h) ?_)
  intro res s' hq
  match res, hq with
  | .error e, hq => exact hx pins σ H s e s' I hq
  | .ok .next, hq => exact False.elim hq
  | .ok .brk, hq => exact False.elim hq
  | .ok .cont, hq => exact False.elim hq
  | .ok (.ret w), hq =>
    obtain ⟨z, H', J', rz, t, rfl, q⟩ := I.after hq
    obtain ⟨u, rfl⟩ := rz
    exact wpAny_bind (wpAny_isInstance (typeIs_str _ _ _) isSubtype_str_str (wpAny_pure ⟨t, u, rfl, H', J', q⟩))

theorem vals_ref_eq : ∀ {xs : List Addr} {its : List Value}, Vals (xs.map V.ref) its → its = xs.map Value.ref
  | [], its, r => by cases r; rfl
  | x :: xs, its, r => by
    cases r with
    | cons r1 r => cases r1; rw [vals_ref_eq r]; rfl
theorem vals_str_eq : ∀ {ts : List Str} {its : List Value}, Vals (ts.map V.str) its → ∃ done : List (Str × Tok), its = strValues done ∧ done.map (·.1) = ts
  | [], its, r => by cases r; exact ⟨[], rfl, rfl⟩
  | t :: ts, its, r => by
    cases r with
    | cons r1 r =>
      obtain ⟨u, rfl⟩ := r1
      obtain ⟨done, e, m⟩ := vals_str_eq r
      exact ⟨(t, u) :: done, by rw [e]; rfl, by rw [List.map_cons, m]⟩
theorem loop_depth {A : Around} {args : Args} : (A.under (.builtin "list.__repr__.loop" args)).depth = A.depth + 1 := by
  first | rfl | simp [Around.under, Code.weight, Code.isCreation, Code.isGuard, Code.isCaller, Code.frames, Code.isFrame, guardIds]
/-- what is shown of x -/
def Shows (C : Addr) (sp : Addr → Sp) (E : XK) (a : Addr) (H0 : Hp) (x : Addr) (t : Str) : Prop :=
  ∃ dx fs, H0 x = some (.ins C dx fs) ∧ ∀ H' : Hp, (∀ b o, H0 b = some o → H' b = some o) → sp a [.ref x] H' (fun v H'' => ∃ u, v = .str u ∧ (u = t ∧ H'' = H')) E
theorem loop_own (F : FnC X.prog X.w X.K X.mg X.base CX k f fd ps sp) (o : Meth X.K C "__repr__" f) (hb : Binds X.K fd ps []) (hx : Passes CX X E)
    {A0 : Around} (fr : A0.frames = X.A.frames) (hg : A0.guards = some []) (hr : Room (k + 1) A0) {pins : List (Addr × Obj)} {σ : L2.St} {a P : Addr} {R : Result → Shared → Prop} (hE : ∀ e s', X.xe e s' → R (.error e) s')
    {H0 : Hp} {xs : List Addr} {ts : List Str} (len : ts.length = xs.length) (all : ∀ (i : Nat) (x : Addr) (t : Str), xs[i]? = some x → ts[i]? = some t → Shows C sp E a H0 x t)
    (ha0 : H0 a = some (.lst (xs.map V.ref))) (nP : H0 P = none) (hsz : (listText ts).length ≤ sizeLine)
    (hR : ∀ s' H' u, Inv X pins σ H' s' → (∀ b o, H0 b = some o → H' b = some o) → R (.ok (.ret (.str (listText ts) u))) s') :
    ∀ (n i : Nat) (H : Hp) (s : Shared), xs.length - i = n → i ≤ xs.length → Inv X pins σ H s → (∀ b o, H0 b = some o → H b = some o) → H P = some (.lst ((ts.take i).map V.str)) →
      codeAny (model X.prog X.w) A0 (.builtin "list.__repr__.loop" ⟨[.ref a, rawInt i, .ref P, rawInt ((piled (ts.take i) : Nat) : Int)], []⟩) R s := by
  have hp3 := piled_le_listText ts
  have hL := textFrom_len ts 0 "["
  have hX : (listText ts).length = (textFrom 0 "[" ts).length + 1 := by
    show (textFrom 0 "[" ts ++ "]").length = _
    rw [strLen_append]; rfl
  have hsz2 : ∀ t ∈ ts, t.length ≤ sizeLine := fun t ht => by
    have h2 := hL.2.1 t ht
    omega
  intro n
  induction n with
  | zero =>
    intro i H s hn hi I k0 hP
    have hin : i = xs.length := by omega
    obtain ⟨_, its, na, rv, ll, hget⟩ := I.lstM (k0 _ _ ha0)
    obtain rfl := vals_ref_eq rv
    obtain ⟨_, its2, nb, rv2, ll2, hget2⟩ := I.lstM hP
    obtain ⟨done, rfl, hdone⟩ := vals_str_eq rv2
    refine codeAny_builtin PySem.F.entry_list_repr_loop ?_
    show wpAny _ _ (Builtin.«list.__repr__.loop» ⟨[.ref a, .int i 0, .ref P, .int ((piled (ts.take i) : Nat) : Int) 0], []⟩) _ _ s
    rw [repr_loop_tree]
    refine wpAny_bind (wpAny_listItems hget rfl ?_)
    have hnone : (xs.map Value.ref).toArray[(i : Int).toNat]? = none := by simp [hin]
    simp only [hnone]
    unfold reprEnd
    refine wpAny_bind (wpAny_listItems hget2 rfl ?_)
    have et : (strValues done).toArray.toList = strValues done := by simp
    rw [et, repr_fold]
    refine wpAny_bind (wpAny_pure ?_)
    have hall : done.map (·.1) = ts := by rw [hdone, hin, ← len, List.take_length]
    rw [hall]
    refine wpAny_bind (wpAny_mkStr (wpAny_pure ?_) hsz)
    exact hR _ H _ (I.tok _) k0
  | succ n ih =>
    intro i H s hn hi I k0 hP
    have hlt : i < xs.length := by omega
    obtain ⟨_, its, na, rv, ll, hget⟩ := I.lstM (k0 _ _ ha0)
    obtain rfl := vals_ref_eq rv
    have ex : xs[i]? = some xs[i] := List.getElem?_eq_getElem hlt
    have et : ts[i]? = some ts[i] := List.getElem?_eq_getElem (by omega)
    obtain ⟨dx, fs, hx0, hsp⟩ := all i _ _ ex et
    generalize xs[i] = x at *
    generalize ts[i] = t at *
    have hp1 := piled_take_succ et
    have hp2 := piled_take_le ts (i + 1)
    refine codeAny_builtin PySem.F.entry_list_repr_loop ?_
    show wpAny _ _ (Builtin.«list.__repr__.loop» ⟨[.ref a, .int i 0, .ref P, .int ((piled (ts.take i) : Nat) : Int) 0], []⟩) _ _ s
    rw [repr_loop_tree]
    refine wpAny_bind (wpAny_listItems hget rfl ?_)
    have hsome : (xs.map Value.ref).toArray[(i : Int).toNat]? = some (.ref x) := by simp [ex]
    simp only [hsome]
    rw [Int.toNat_natCast]
    refine wpAny_bind (wpAny_holding (wpAny_mono (own_under F o hb hx (S := a) ?_ ?_ ?_ I (k0 _ _ hx0) (hsp H k0) (b := piled (ts.take i) + 1) (by omega)) ?_ fun e s' h => hE e s' h))
    · first | exact fr | (simpa [Around.under, Code.envs, Code.isFrame, pushEnvs] using fr)
    · exact ⟨_, guards_under_guard (isGuard_list_loop _) hg, fun b nb => (Clear.nil b).cons (Ne.symm nb)⟩
    · refine ⟨hr.hd, ?_, ?_⟩
      · have := hr.dp
        rw [loop_depth]
        omega
      · have := hr.un
        rw [units_under_list_loop]
        omega
    rintro t2 s2 ⟨H2, I2, rfl, rfl⟩
    refine wpAny_bind (wpAny_mkStr ?_ (hsz2 t2 (List.mem_of_getElem? et)))
    refine wpAny_bind ?_
    show wpAny _ _ (updateSeq P _) _ _ _
    obtain ⟨zP, its2, nb, rv2, ll2, hget2⟩ := I2.lstM hP
    have lz : ts.length ≤ sizeLine := by
      have h1 := hL.1
      rw [if_neg (Nat.lt_irrefl 0)] at h1
      omega
    refine wpAny_updateSeq hget2 rfl (wpAny_pure ⟨PySem.F.quiet_list_repr_loop _, ?_⟩) (by rw [List.size_toArray, ← ll2, List.length_map, List.length_take]; omega)
    have e1 : ((i : Int) + 1) = ((i + 1 : Nat) : Int) := by omega
    have e2 : piled (ts.take i) + (t2.length + 2) = piled (ts.take (i + 1)) := by omega
    have et2 : (ts.take (i + 1)).map V.str = (ts.take i).map V.str ++ [V.str t2] := by rw [List.take_add_one, et, List.map_append]; rfl
    have J := (I2.tok (s2.toks + 1)).lset (t' := s2.toks + 1) (its' := its2 ++ [.str t2 s2.toks]) (f := fun r => r.push (.str t2 s2.toks)) hP hget2 (by simp) (ys := (ts.take (i + 1)).map V.str) (by rw [et2]; exact rv2.append (.cons ⟨_, rfl⟩ .nil)) (by rw [List.length_map, List.length_take]; omega)
    rw [e1, e2]
    refine ih (i + 1) _ _ (by omega) hlt J (fun b o e => ?_) upd_same
    rw [upd_ne (fun z => by rw [z, nP] at e; cases e)]
    exact k0 b o e

/-- repr of a list of own objects -/
def rReprLO (C : Addr) (sp : Addr → Sp) (E : XK) : List V → Hp → VK → Prop := fun vs H Q => ∃ (a : Addr) (xs : List Addr) (ts : List Str), vs = [.ref a] ∧ H a = some (.lst (xs.map V.ref)) ∧ xs ≠ [] ∧ ts.length = xs.length ∧
  (∀ (i : Nat) (x : Addr) (t : Str), xs[i]? = some x → ts[i]? = some t → Shows C sp E a H x t) ∧ (listText ts).length ≤ sizeLine ∧ ∀ H' : Hp, (∀ b o, H b = some o → H' b = some o) → Q (.str (listText ts)) H'
theorem call_reprLO (F : FnC X.prog X.w X.K X.mg X.base CX k f fd ps sp) (hA : X.A.guards = some []) (hr : Room (k + 3) X.A) (o : Meth X.K C "__repr__" f) (hb : Binds X.K fd ps []) (hx : Passes CX X E) :
    CallR X (.builtin "repr") (rReprLO C sp E) := by
  intro pins s σ H vs us Q I r h
  obtain ⟨a, xs, ts, rfl, ha, ne, len, all, hsz, q⟩ := h
  obtain ⟨u, rfl, ru⟩ := vals1 r
  obtain rfl : u = Value.ref a := ru
  obtain ⟨_, its, na, rv, ll, hget⟩ := I.lstM ha
  obtain rfl := vals_ref_eq rv
  cases xs with
  | nil => exact absurd rfl ne
  | cons x xs =>
    have hT : s.TypeIs (.ref a) "list" := ⟨_, hget, rfl⟩
    have un := hr.un
    refine call_repr_slot (by omega) hT PySem.F.slot_list_repr.toG ?_
    refine wpAny_call (codeAny_call_builtin PySem.F.slot_list_repr.plain PySem.F.entry_list_repr (PySem.F.slot_list_repr.check _ _ _ _ _ _ _ _ hT (PySem.F.args_list_repr_1 _) ?_))
    refine wpAny_list_repr_head (A := X.A.in1.in1) (g := []) hA (fun v rest kw hm => nomatch hm) hget rfl ?_
    refine wpAny_bind (m := newList []) (wpAny_newObj_type ?_)
    refine wpAny_pure ⟨PySem.F.quiet_list_repr_loop _, ?_⟩
    have J := I.lnew (t' := s.toks) (its := []) (ys := []) .nil (by show 0 ≤ sizeLine; decide)
    have hr1 : Room (k + 1) X.A.in1 := (hr.mono (show k + 2 ≤ k + 3 by omega)).in1
    refine loop_own (k := k) F o hb hx (A0 := X.A.in1) rfl hA hr1 (fun e s' h => h) len all ha (I.fresh) hsz (fun s' H' u J' k' => ⟨_, _, rfl, .str _, H', J', ⟨_, rfl⟩, q H' k'⟩) _ 0 _ _ rfl (Nat.zero_le _) J (fun b o e => ?_) ?_
    · rw [upd_ne (fun z => by rw [z, I.fresh] at e; cases e)]; exact e
    · exact upd_same
end
end VL

/-! What repr writes tells the ints that are written: lists of ints and ints in a row. -/
namespace IJ
open PySem PySem.Spec PyProof.Rows L2
def dig (i : Int) : List Nat := ((toString i : String) : Str).cps.toList
def D (c : Nat) : Prop := c = 45 ∨ (48 ≤ c ∧ c ≤ 57)
theorem dig_D {i : Int} : ∀ c ∈ dig i, D c := fun c hc => by
  by_cases h : c ≠ 45 ∧ (c < 48 ∨ 57 < c)
  · exact absurd hc (int_text_free' c h i)
  · unfold D; omega
theorem dig_nat (m : Nat) : dig (m : Int) = (Nat.toDigits 10 m).map Char.toNat := PySem.W.KIN.signs_num m
theorem nat_inj {m n : Nat} (h : (Nat.toDigits 10 m).map Char.toNat = (Nat.toDigits 10 n).map Char.toNat) : m = n := by
  have a := PySem.W.KIN.val_back m
  have b := PySem.W.KIN.val_back n
  rw [h] at a
  exact a.symm.trans b
theorem dig_neg (m : Nat) : dig (Int.negSucc m) = 45 :: (Nat.toDigits 10 (m + 1)).map Char.toNat := by
  unfold dig
  show (Str.ofString _).cps.toList = _
  rw [signs_ofString]
  show (String.append "-" (Nat.repr (m + 1))).toList.map Char.toNat = _
  rw [show String.append "-" (Nat.repr (m + 1)) = "-" ++ Nat.repr (m + 1) from rfl, String.toList_append, List.map_append, Nat.toList_repr]
  rfl
theorem digs_ne (m : Nat) : (Nat.toDigits 10 m).map Char.toNat ≠ [] := fun h => by
  have e := congrArg List.length h
  rw [List.length_map] at e
  have := Nat.length_toDigits_pos (b := 10) (n := m)
  rw [List.length_nil] at e
  omega
theorem digs_48 (m : Nat) : ∀ c ∈ (Nat.toDigits 10 m).map Char.toNat, c ≠ 45 := fun c hc => by
  obtain ⟨ch, hch, e⟩ := List.mem_map.mp hc
  have r := digit_range (Nat.isDigit_of_mem_toDigits (by decide) (by decide) hch)
  omega
theorem dig_ne (i : Int) : dig i ≠ [] := by
  cases i with
  | ofNat m => have := digs_ne m; rwa [← dig_nat] at this
  | negSucc m => rw [dig_neg]; exact fun h => nomatch h
theorem dig_inj {a b : Int} (h : dig a = dig b) : a = b := by
  cases a with
  | ofNat m =>
    cases b with
    | ofNat n =>
      have h : dig (m : Int) = dig (n : Int) := h
      rw [dig_nat, dig_nat] at h
      rw [nat_inj h]
    | negSucc n =>
      have h : dig (m : Int) = dig (Int.negSucc n) := h
      rw [dig_nat, dig_neg] at h
      exact absurd rfl (digs_48 m 45 (h ▸ List.mem_cons_self ..))
  | negSucc m =>
    cases b with
    | ofNat n =>
      have h : dig (Int.negSucc m) = dig (n : Int) := h
      rw [dig_nat, dig_neg] at h
      exact absurd rfl (digs_48 n 45 (h ▸ List.mem_cons_self ..))
    | negSucc n =>
      rw [dig_neg, dig_neg] at h
      injection h with _ h
      have := nat_inj h
      rw [show m = n by omega]
theorem cut : ∀ {a b : List Nat} {c d : Nat} {x y : List Nat}, (∀ z ∈ a, D z) → (∀ z ∈ b, D z) → ¬ D c → ¬ D d → a ++ c :: x = b ++ d :: y → a = b ∧ c = d ∧ x = y
  | [], [], c, d, x, y, _, _, _, _, e => by injection e with e1 e2; exact ⟨rfl, e1, e2⟩
  | [], w :: b, c, d, x, y, _, hb, hc, _, e => by
    injection e with e1 e2
    exact absurd (e1 ▸ hb w (List.mem_cons_self ..)) hc
  | w :: a, [], c, d, x, y, ha, _, _, hd, e => by
    injection e with e1 e2
    exact absurd (e1 ▸ ha w (List.mem_cons_self ..)) hd
  | w :: a, v :: b, c, d, x, y, ha, hb, hc, hd, e => by
    injection e with e1 e2
    obtain ⟨q1, q2, q3⟩ := cut (fun z hz => ha z (List.mem_cons_of_mem _ hz)) (fun z hz => hb z (List.mem_cons_of_mem _ hz)) hc hd e2
    exact ⟨by rw [e1, q1], q2, q3⟩
theorem cut_int {a b : Int} {c d : Nat} {x y : List Nat} (hc : ¬ D c) (hd : ¬ D d) (e : dig a ++ c :: x = dig b ++ d :: y) : a = b ∧ c = d ∧ x = y := by
  obtain ⟨h1, h2, h3⟩ := cut dig_D dig_D hc hd e
  exact ⟨dig_inj h1, h2, h3⟩
/-- the signs behind "[" of a list of ints, "]" too -/
def ilF : List Int → List Nat
  | [] => [93]
  | [a] => dig a ++ [93]
  | a :: b :: l => dig a ++ 44 :: 32 :: ilF (b :: l)
theorem n93 : ¬ D 93 := by unfold D; omega
theorem n44 : ¬ D 44 := by unfold D; omega
theorem n41 : ¬ D 41 := by unfold D; omega
theorem ilF_cut : ∀ {xs ys : List Int} {u v : List Nat}, ilF xs ++ u = ilF ys ++ v → xs = ys ∧ u = v
  | [], [], u, v, e => by injection e with _ e; exact ⟨rfl, e⟩
  | [], [b], u, v, e => by
    simp only [ilF, List.append_assoc, List.cons_append, List.nil_append] at e
    have := cut (a := []) (b := dig b) (fun z h => nomatch h) dig_D n93 n93 e
    exact absurd this.1.symm (dig_ne b)
  | [], b :: c :: l, u, v, e => by
    simp only [ilF, List.append_assoc, List.cons_append, List.nil_append] at e
    have := cut (a := []) (b := dig b) (fun z h => nomatch h) dig_D n93 n44 e
    exact absurd this.1.symm (dig_ne b)
  | [a], [], u, v, e => by
    simp only [ilF, List.append_assoc, List.cons_append, List.nil_append] at e
    have := cut (a := dig a) (b := []) dig_D (fun z h => nomatch h) n93 n93 e
    exact absurd this.1 (dig_ne a)
  | [a], [b], u, v, e => by
    simp only [ilF, List.append_assoc, List.cons_append, List.nil_append] at e
    obtain ⟨h1, _, h3⟩ := cut_int n93 n93 e
    exact ⟨by rw [h1], h3⟩
  | [a], b :: c :: l, u, v, e => by
    simp only [ilF, List.append_assoc, List.cons_append, List.nil_append] at e
    have := cut_int n93 n44 e
    omega
  | a :: c :: l, [], u, v, e => by
    simp only [ilF, List.append_assoc, List.cons_append, List.nil_append] at e
    have := cut (a := dig a) (b := []) dig_D (fun z h => nomatch h) n44 n93 e
    exact absurd this.1 (dig_ne a)
  | a :: c :: l, [b], u, v, e => by
    simp only [ilF, List.append_assoc, List.cons_append, List.nil_append] at e
    have := cut_int n44 n93 e
    omega
  | a :: c :: l, b :: d :: m, u, v, e => by
    simp only [ilF, List.append_assoc, List.cons_append, List.nil_append] at e
    obtain ⟨h1, _, h3⟩ := cut_int n44 n44 e
    injection h3 with _ h3
    obtain ⟨h4, h5⟩ := ilF_cut h3
    exact ⟨by rw [h1, h4], h5⟩
/-- the texts of a list, behind the first sign -/
def tlF : List Str → List Nat
  | [] => []
  | t :: ts => 44 :: 32 :: (t.cps.toList ++ tlF ts)
theorem sep_codes : ((", " : String) : Str).cps.toList = [44, 32] := by rw [signs_ofString]; rfl
theorem from_codes : ∀ (ts : List Str) (k : Nat) (acc : Str), 0 < k → (textFrom k acc ts).cps.toList = acc.cps.toList ++ tlF ts
  | [], k, acc, _ => by simp [textFrom, tlF]
  | t :: ts, k, acc, hk => by
    unfold textFrom
    rw [from_codes ts (k + 1) _ (Nat.succ_pos _), cps_toList_append, cps_toList_append, if_pos hk, sep_codes]
    simp [tlF]
theorem list_codes (t : Str) (ts : List Str) : (listText (t :: ts)).cps.toList = 91 :: (t.cps.toList ++ (tlF ts ++ [93])) := by
  unfold listText textFrom
  rw [cps_toList_append, from_codes ts 1 _ (by decide), cps_toList_append, cps_toList_append]
  have e1 : (("[" : String) : Str).cps.toList = [91] := by rw [signs_ofString]; rfl
  have e2 : (("]" : String) : Str).cps.toList = [93] := by rw [signs_ofString]; rfl
  have e3 : ((if 0 > 0 then ", " else "" : String) : Str).cps.toList = [] := by rw [signs_ofString]; rfl
  rw [e1, e2, e3]
  simp
theorem shownAll_ints (us : List Int) : PyData.shownAll (us.map PyData.int) = us.map fun i => (toString i : Str) := by
  induction us with
  | nil => rfl
  | cons u us ih => simp only [List.map_cons, PyData.shownAll, ih, PyData.shown]
theorem tlF_ints : ∀ (a : Int) (us : List Int), dig a ++ (tlF (us.map fun i => (toString i : Str)) ++ [93]) = ilF (a :: us)
  | a, [] => by simp [tlF, ilF]
  | a, b :: us => by
    have ih := tlF_ints b us
    simp only [List.map_cons, tlF, ilF, List.cons_append, List.append_assoc]
    rw [← ih]
    rfl
theorem ints_codes (us : List Int) : (PyData.shown (.list (us.map PyData.int))).cps.toList = 91 :: ilF us := by
  simp only [PyData.shown]
  rw [shownAll_ints]
  cases us with
  | nil => 
    show (listText []).cps.toList = _
    unfold listText textFrom
    rw [cps_toList_append]
    have e1 : (("[" : String) : Str).cps.toList = [91] := by rw [signs_ofString]; rfl
    have e2 : (("]" : String) : Str).cps.toList = [93] := by rw [signs_ofString]; rfl
    rw [e1, e2]
    rfl
  | cons a us =>
    rw [List.map_cons, list_codes]
    exact congrArg _ (tlF_ints a us)
theorem ints_inj {xs ys : List Int} (h : PyData.shown (.list (xs.map PyData.int)) = PyData.shown (.list (ys.map PyData.int))) : xs = ys := by
  have e := congrArg (fun x : Str => x.cps.toList) h
  simp only [ints_codes] at e
  injection e with _ e
  exact (ilF_cut (u := []) (v := []) (by rw [List.append_nil, List.append_nil]; exact e)).1
theorem sh_list (l : List PyData) : PyData.shown (.list l) = listText (PyData.shownAll l) := by simp only [PyData.shown]
/-- a list of ints, two ints, and more: what is written tells them -/
theorem form_inj {xs ys : List Int} {p q g e : Int} {a b : PyData} {ds es : List PyData}
    (h : PyData.shown (.list (.list (xs.map PyData.int) :: .int p :: .int g :: a :: ds)) = PyData.shown (.list (.list (ys.map PyData.int) :: .int q :: .int e :: b :: es))) : xs = ys ∧ p = q ∧ g = e := by
  have h := congrArg (fun x : Str => x.cps.toList) h
  rw [sh_list, sh_list] at h
  simp only [PyData.shownAll] at h
  rw [list_codes, list_codes] at h
  injection h with _ h
  rw [ints_codes, ints_codes] at h
  simp only [List.cons_append, tlF, PyData.shown] at h
  injection h with _ h
  obtain ⟨h1, h⟩ := ilF_cut h
  injection h with _ h
  injection h with _ h
  rw [List.append_assoc, List.append_assoc] at h
  obtain ⟨h2, _, h⟩ := cut_int (a := p) (b := q) n44 n44 h
  injection h with _ h
  rw [show ∀ l m : List Nat, l.append m = l ++ m from fun _ _ => rfl, show ∀ l m : List Nat, l.append m = l ++ m from fun _ _ => rfl, List.append_assoc, List.append_assoc] at h
  obtain ⟨h3, _, h⟩ := cut_int (a := g) (b := e) n44 n44 h
  exact ⟨h1, h2, h3⟩
end IJ

/-! Rows as they are drawn, rows near them, and what 900 values tell. -/
namespace VM
theorem getD_left {xs : List Int} {v : Int} {i : Nat} (h : i < xs.length) : (xs ++ [v]).getD i 0 = xs.getD i 0 := by
  rw [List.getD_eq_getElem?_getD, List.getD_eq_getElem?_getD, List.getElem?_append_left h]
theorem getD_end {xs : List Int} {v : Int} {i : Nat} (h : i = xs.length) : (xs ++ [v]).getD i 0 = v := by
  subst h
  rw [List.getD_eq_getElem?_getD, List.getElem?_append_right (Nat.le_refl _), Nat.sub_self]
  rfl
/-- values in steps of at most four -/
structure Wr (xs : List Int) : Prop where
  lo : ∀ i, i < xs.length → 0 ≤ xs.getD i 0
  hi : ∀ i, i < xs.length → xs.getD i 0 ≤ 4 * ((i : Int) + 1)
  up : ∀ i, i + 1 < xs.length → xs.getD i 0 ≤ xs.getD (i + 1) 0 ∧ xs.getD (i + 1) 0 ≤ xs.getD i 0 + 4
theorem Wr.nil : Wr [] := ⟨fun i h => absurd h (by simp), fun i h => absurd h (by simp), fun i h => absurd h (by simp)⟩
theorem Wr.push {xs : List Int} {d : Int} (h : Wr xs) (d0 : 0 ≤ d) (d1 : d ≤ 4) : Wr (xs ++ [((0 : Int) :: xs).getD xs.length 0 + d]) := by
  have last : 0 ≤ ((0 : Int) :: xs).getD xs.length 0 ∧ ((0 : Int) :: xs).getD xs.length 0 ≤ 4 * (xs.length : Int) ∧ (∀ i, i + 1 = xs.length → ((0 : Int) :: xs).getD xs.length 0 = xs.getD i 0) := by
    cases e : xs.length with
    | zero => exact ⟨Int.le_refl _, Int.le_refl _, fun i hi => by omega⟩
    | succ n =>
      have a := h.lo n (by omega)
      have b := h.hi n (by omega)
      refine ⟨a, ?_, fun i hi => ?_⟩
      · show xs.getD n 0 ≤ _
        omega
      · rw [show i = n by omega]; rfl
  generalize ((0 : Int) :: xs).getD xs.length 0 = z at *
  refine ⟨fun i hi => ?_, fun i hi => ?_, fun i hi => ?_⟩ <;> rw [List.length_append, List.length_singleton] at hi
  · by_cases c : i < xs.length
    · rw [getD_left c]; exact h.lo i c
    · rw [getD_end (by omega)]; omega
  · by_cases c : i < xs.length
    · rw [getD_left c]; exact h.hi i c
    · rw [getD_end (by omega)]; omega
  · rw [getD_left (by omega)]
    by_cases c : i + 1 < xs.length
    · rw [getD_left c]; exact h.up i c
    · rw [getD_end (by omega)]
      have := last.2.2 i (by omega)
      omega
/-- a row as it is drawn -/
structure Dr (xs : List Int) (p g : Int) : Prop where
  w : Wr xs
  n1 : 1 ≤ xs.length
  n2 : xs.length ≤ 7
  per : p = 1 ∨ p = 2 ∨ p = 3 ∨ p = 4 ∨ p = 6
  pn : p ≤ xs.length
  g0 : xs.getD (xs.length - 1) 0 - xs.getD (xs.length - p.toNat) 0 ≤ g
  g1 : g ≤ xs.getD (xs.length - 1) 0 - xs.getD (xs.length - p.toNat) 0 + 2
theorem at_far {xs : List Int} {p g t : Int} {k i : Nat} (p0 : 0 < p) (pn : p ≤ xs.length) (h : (xs.length : Int) + k * p < t + p) (e : t = (i : Int) + 1 + k * p) (hi : i < xs.length) :
    cvAt xs p g t = xs.getD i 0 + k * g := by
  rw [(Rep.cvAt p0 pn).times p0 k t h, show t - (k : Int) * p = (i : Int) + 1 by omega, cvAt_in (by omega) (by omega), show ((i : Int) + 1 - 1).toNat = i by omega]
/-- the places that 900 and 899 take in a row, what stands there -/
structure Far (xs : List Int) (p g : Int) where
  q : Nat
  k : Nat
  i : Nat
  m : Nat
  k' : Nat
  i' : Nat
  m' : Nat
  qp : (q : Int) * p = 12
  km : k + m = 75 * q
  km' : k' + m' = 75 * q
  h : (xs.length : Int) + k * p < 900 + p
  e : (900 : Int) = (i : Int) + 1 + k * p
  hi : i < xs.length
  h' : (xs.length : Int) + k' * p < 899 + p
  e' : (899 : Int) = (i' : Int) + 1 + k' * p
  hi' : i' < xs.length
  first : p < xs.length → 1 ≤ i
  lo : -21 + (m : Int) ≤ xs.getD i 0 - m * g
  up : xs.getD i 0 - m * g ≤ 28
  lo' : -21 ≤ xs.getD i' 0 - m' * g
  few : (m : Int) ≤ 7
  few2 : p ≠ 1 → (m : Int) ≤ 3
theorem Dr.far {xs : List Int} {p g : Int} (D : Dr xs p g) : Nonempty (Far xs p g) := by
  obtain ⟨w, n1, n2, per, pn, g0, g1⟩ := D
  have l0 := w.lo 0; have u0 := w.hi 0
  have s0 := w.up 0; have s1 := w.up 1; have s2 := w.up 2; have s3 := w.up 3; have s4 := w.up 4; have s5 := w.up 5
  simp only [Nat.reduceAdd] at s0 s1 s2 s3 s4 s5
  have hn : xs.length = 1 ∨ xs.length = 2 ∨ xs.length = 3 ∨ xs.length = 4 ∨ xs.length = 5 ∨ xs.length = 6 ∨ xs.length = 7 := by omega
  clear w
  rcases per with rfl | rfl | rfl | rfl | rfl
  · rcases hn with n | n | n | n | n | n | n <;> rw [n] at g0 g1 s0 s1 s2 s3 s4 s5 l0 u0 pn <;> simp only [Nat.reduceSub, Nat.reduceLT, Nat.reduceAdd, true_implies, false_implies, Int.reduceToNat, Int.toNat_one] at g0 g1 s0 s1 s2 s3 s4 s5 l0 u0
    · exact ⟨⟨12, 899, 0, 1, 898, 0, 2, by omega, by omega, by omega, by omega, by omega, by omega, by omega, by omega, by omega, by omega, by omega, by omega, by omega, by omega, by omega⟩⟩
    · exact ⟨⟨12, 898, 1, 2, 897, 1, 3, by omega, by omega, by omega, by omega, by omega, by omega, by omega, by omega, by omega, by omega, by omega, by omega, by omega, by omega, by omega⟩⟩
    · exact ⟨⟨12, 897, 2, 3, 896, 2, 4, by omega, by omega, by omega, by omega, by omega, by omega, by omega, by omega, by omega, by omega, by omega, by omega, by omega, by omega, by omega⟩⟩
    · exact ⟨⟨12, 896, 3, 4, 895, 3, 5, by omega, by omega, by omega, by omega, by omega, by omega, by omega, by omega, by omega, by omega, by omega, by omega, by omega, by omega, by omega⟩⟩
    · exact ⟨⟨12, 895, 4, 5, 894, 4, 6, by omega, by omega, by omega, by omega, by omega, by omega, by omega, by omega, by omega, by omega, by omega, by omega, by omega, by omega, by omega⟩⟩
    · exact ⟨⟨12, 894, 5, 6, 893, 5, 7, by omega, by omega, by omega, by omega, by omega, by omega, by omega, by omega, by omega, by omega, by omega, by omega, by omega, by omega, by omega⟩⟩
    · exact ⟨⟨12, 893, 6, 7, 892, 6, 8, by omega, by omega, by omega, by omega, by omega, by omega, by omega, by omega, by omega, by omega, by omega, by omega, by omega, by omega, by omega⟩⟩
  · rcases hn with n | n | n | n | n | n | n <;> rw [n] at g0 g1 s0 s1 s2 s3 s4 s5 l0 u0 pn <;> simp only [Nat.reduceSub, Nat.reduceLT, Nat.reduceAdd, true_implies, false_implies, Int.reduceToNat, Int.toNat_one] at g0 g1 s0 s1 s2 s3 s4 s5 l0 u0
    · exact absurd pn (by decide)
    · exact ⟨⟨6, 449, 1, 1, 449, 0, 1, by omega, by omega, by omega, by omega, by omega, by omega, by omega, by omega, by omega, by omega, by omega, by omega, by omega, by omega, by omega⟩⟩
    · exact ⟨⟨6, 449, 1, 1, 448, 2, 2, by omega, by omega, by omega, by omega, by omega, by omega, by omega, by omega, by omega, by omega, by omega, by omega, by omega, by omega, by omega⟩⟩
    · exact ⟨⟨6, 448, 3, 2, 448, 2, 2, by omega, by omega, by omega, by omega, by omega, by omega, by omega, by omega, by omega, by omega, by omega, by omega, by omega, by omega, by omega⟩⟩
    · exact ⟨⟨6, 448, 3, 2, 447, 4, 3, by omega, by omega, by omega, by omega, by omega, by omega, by omega, by omega, by omega, by omega, by omega, by omega, by omega, by omega, by omega⟩⟩
    · exact ⟨⟨6, 447, 5, 3, 447, 4, 3, by omega, by omega, by omega, by omega, by omega, by omega, by omega, by omega, by omega, by omega, by omega, by omega, by omega, by omega, by omega⟩⟩
    · exact ⟨⟨6, 447, 5, 3, 446, 6, 4, by omega, by omega, by omega, by omega, by omega, by omega, by omega, by omega, by omega, by omega, by omega, by omega, by omega, by omega, by omega⟩⟩
  · rcases hn with n | n | n | n | n | n | n <;> rw [n] at g0 g1 s0 s1 s2 s3 s4 s5 l0 u0 pn <;> simp only [Nat.reduceSub, Nat.reduceLT, Nat.reduceAdd, true_implies, false_implies, Int.reduceToNat, Int.toNat_one] at g0 g1 s0 s1 s2 s3 s4 s5 l0 u0
    · exact absurd pn (by decide)
    · exact absurd pn (by decide)
    · exact ⟨⟨4, 299, 2, 1, 299, 1, 1, by omega, by omega, by omega, by omega, by omega, by omega, by omega, by omega, by omega, by omega, by omega, by omega, by omega, by omega, by omega⟩⟩
    · exact ⟨⟨4, 299, 2, 1, 299, 1, 1, by omega, by omega, by omega, by omega, by omega, by omega, by omega, by omega, by omega, by omega, by omega, by omega, by omega, by omega, by omega⟩⟩
    · exact ⟨⟨4, 299, 2, 1, 298, 4, 2, by omega, by omega, by omega, by omega, by omega, by omega, by omega, by omega, by omega, by omega, by omega, by omega, by omega, by omega, by omega⟩⟩
    · exact ⟨⟨4, 298, 5, 2, 298, 4, 2, by omega, by omega, by omega, by omega, by omega, by omega, by omega, by omega, by omega, by omega, by omega, by omega, by omega, by omega, by omega⟩⟩
    · exact ⟨⟨4, 298, 5, 2, 298, 4, 2, by omega, by omega, by omega, by omega, by omega, by omega, by omega, by omega, by omega, by omega, by omega, by omega, by omega, by omega, by omega⟩⟩
  · rcases hn with n | n | n | n | n | n | n <;> rw [n] at g0 g1 s0 s1 s2 s3 s4 s5 l0 u0 pn <;> simp only [Nat.reduceSub, Nat.reduceLT, Nat.reduceAdd, true_implies, false_implies, Int.reduceToNat, Int.toNat_one] at g0 g1 s0 s1 s2 s3 s4 s5 l0 u0
    · exact absurd pn (by decide)
    · exact absurd pn (by decide)
    · exact absurd pn (by decide)
    · exact ⟨⟨3, 224, 3, 1, 224, 2, 1, by omega, by omega, by omega, by omega, by omega, by omega, by omega, by omega, by omega, by omega, by omega, by omega, by omega, by omega, by omega⟩⟩
    · exact ⟨⟨3, 224, 3, 1, 224, 2, 1, by omega, by omega, by omega, by omega, by omega, by omega, by omega, by omega, by omega, by omega, by omega, by omega, by omega, by omega, by omega⟩⟩
    · exact ⟨⟨3, 224, 3, 1, 224, 2, 1, by omega, by omega, by omega, by omega, by omega, by omega, by omega, by omega, by omega, by omega, by omega, by omega, by omega, by omega, by omega⟩⟩
    · exact ⟨⟨3, 224, 3, 1, 223, 6, 2, by omega, by omega, by omega, by omega, by omega, by omega, by omega, by omega, by omega, by omega, by omega, by omega, by omega, by omega, by omega⟩⟩
  · rcases hn with n | n | n | n | n | n | n <;> rw [n] at g0 g1 s0 s1 s2 s3 s4 s5 l0 u0 pn <;> simp only [Nat.reduceSub, Nat.reduceLT, Nat.reduceAdd, true_implies, false_implies, Int.reduceToNat, Int.toNat_one] at g0 g1 s0 s1 s2 s3 s4 s5 l0 u0
    · exact absurd pn (by decide)
    · exact absurd pn (by decide)
    · exact absurd pn (by decide)
    · exact absurd pn (by decide)
    · exact absurd pn (by decide)
    · exact ⟨⟨2, 149, 5, 1, 149, 4, 1, by omega, by omega, by omega, by omega, by omega, by omega, by omega, by omega, by omega, by omega, by omega, by omega, by omega, by omega, by omega⟩⟩
    · exact ⟨⟨2, 149, 5, 1, 149, 4, 1, by omega, by omega, by omega, by omega, by omega, by omega, by omega, by omega, by omega, by omega, by omega, by omega, by omega, by omega, by omega⟩⟩
/-- rows near the drawn ones -/
structure Nr (xs : List Int) (p g : Int) : Prop where
  n1 : 1 ≤ xs.length
  n2 : xs.length ≤ 13
  lo0 : 0 ≤ xs.getD 0 0
  hi0 : xs.getD 0 0 ≤ 5
  st : ∀ i, i + 1 < xs.length → xs.getD i 0 ≤ xs.getD (i + 1) 0 ∧ xs.getD (i + 1) 0 ≤ xs.getD i 0 + 5
  per : p = 1 ∨ p = 2 ∨ p = 3 ∨ p = 4 ∨ p = 6
  pn : p ≤ xs.length
  wr : xs.getD (xs.length - 1) 0 ≤ xs.getD (xs.length - p.toNat) 0 + g ∧ xs.getD (xs.length - p.toNat) 0 + g ≤ xs.getD (xs.length - 1) 0 + 3
theorem Nr.p0 {xs : List Int} {p g : Int} (N : Nr xs p g) : 0 < p ∧ p ≤ 6 := by rcases N.per with h | h | h | h | h <;> omega
theorem Nr.vs {xs : List Int} {p g : Int} (N : Nr xs p g) : ∀ i, i < xs.length → 0 ≤ xs.getD i 0 ∧ xs.getD i 0 ≤ 5 * ((i : Int) + 1)
  | 0, _ => ⟨N.lo0, by have := N.hi0; omega⟩
  | i + 1, h => by
    have := N.vs i (by omega)
    have := N.st i h
    omega
theorem Nr.mono {xs : List Int} {p g : Int} (N : Nr xs p g) : ∀ (d i : Nat), i + d < xs.length → xs.getD i 0 ≤ xs.getD (i + d) 0
  | 0, i, _ => Int.le_refl _
  | d + 1, i, h => by
    have := N.mono d i (by omega)
    have := N.st (i + d) (by omega)
    rw [show i + (d + 1) = i + d + 1 by omega]
    omega
theorem Nr.g_ {xs : List Int} {p g : Int} (N : Nr xs p g) : 0 ≤ g ∧ g ≤ 100 := by
  have n1 := N.n1
  have n2 := N.n2
  have p0 := N.p0
  have pn := N.pn
  have a := N.vs (xs.length - 1) (by omega)
  have b := N.vs (xs.length - p.toNat) (by omega)
  have c := N.mono (p.toNat - 1) (xs.length - p.toNat) (by omega)
  rw [show xs.length - p.toNat + (p.toNat - 1) = xs.length - 1 by omega] at c
  have w := N.wr
  omega
theorem Nr.step {xs : List Int} {p g : Int} (N : Nr xs p g) : ∀ t : Nat, cvAt xs p g t ≤ cvAt xs p g ((t : Int) + 1) ∧ cvAt xs p g ((t : Int) + 1) ≤ cvAt xs p g t + 5 := by
  have n1 := N.n1
  have p0 := N.p0
  have pn := N.pn
  intro t
  induction t using Nat.strongRecOn with
  | ind t ih =>
    by_cases c : t < xs.length
    · rw [cvAt_in (t := (t : Int) + 1) (by omega) (by omega), show ((t : Int) + 1 - 1).toNat = t by omega]
      cases t with
      | zero =>
        rw [show ((0 : Nat) : Int) = 0 from rfl, cvAt_zero]
        exact ⟨N.lo0, by have := N.hi0; omega⟩
      | succ k =>
        rw [cvAt_in (by omega) (by omega), show (((k + 1 : Nat) : Int) - 1).toNat = k by omega]
        exact N.st k c
    · rw [cvAt_back (t := (t : Int) + 1) p0.1 pn (by omega)]
      by_cases d : t = xs.length
      · rw [cvAt_in (t := (t : Int)) (by omega) (by omega), cvAt_in (t := (t : Int) + 1 - p) (by omega) (by omega), show ((t : Int) - 1).toNat = xs.length - 1 by omega, show ((t : Int) + 1 - p - 1).toNat = xs.length - p.toNat by omega]
        have := N.wr
        omega
      · rw [cvAt_back (t := (t : Int)) p0.1 pn (by omega)]
        have := ih (t - p.toNat) (by omega)
        rw [show ((t - p.toNat : Nat) : Int) = t - p by omega, show (t : Int) - p + 1 = t + 1 - p by omega] at this
        omega
theorem Nr.bd {xs : List Int} {p g : Int} (N : Nr xs p g) : ∀ t : Nat, 0 ≤ cvAt xs p g t ∧ cvAt xs p g t ≤ 5 * (t : Int)
  | 0 => by rw [show ((0 : Nat) : Int) = 0 from rfl, cvAt_zero]; omega
  | t + 1 => by
    have := N.bd t
    have := N.step t
    rw [show ((t + 1 : Nat) : Int) = (t : Int) + 1 by omega]
    omega
def stp (p : Int) : Int := if p = 1 then 3 else 5
theorem Nr.far_step {xs : List Int} {p g : Int} (N : Nr xs p g) (t : Nat) (h : 13 ≤ t) : cvAt xs p g t ≤ cvAt xs p g ((t : Int) + 1) ∧ cvAt xs p g ((t : Int) + 1) ≤ cvAt xs p g t + stp p := by
  have := N.step t
  have n2 := N.n2
  have pn := N.pn
  unfold stp
  by_cases c : p = 1
  · subst c
    have w := N.wr
    rw [show (1 : Int).toNat = 1 from rfl] at w
    rw [cvAt_back (t := (t : Int) + 1) (by decide) pn (by omega), show (t : Int) + 1 - 1 = t by omega, if_pos rfl]
    omega
  · rw [if_neg c]; exact this
/-- how much a row grows in so many ticks far out -/
theorem Nr.far_steps {xs : List Int} {p g : Int} (N : Nr xs p g) (t : Nat) (h : 13 ≤ t) : ∀ d : Nat, cvAt xs p g t ≤ cvAt xs p g ((t : Int) + d) ∧ cvAt xs p g ((t : Int) + d) ≤ cvAt xs p g t + stp p * d
  | 0 => by rw [show ((0 : Nat) : Int) = 0 from rfl, Int.add_zero, Int.mul_zero]; omega
  | d + 1 => by
    have a := N.far_steps t h d
    have b := N.far_step (t + d) (by omega)
    rw [show ((t + d : Nat) : Int) = (t : Int) + d by omega] at b
    rw [show (t : Int) + ((d + 1 : Nat) : Int) = (t : Int) + d + 1 by omega, show ((d + 1 : Nat) : Int) = (d : Int) + 1 by omega, Int.mul_add, Int.mul_one]
    omega
theorem Dr.nr {xs : List Int} {p g : Int} (D : Dr xs p g) : Nr xs p g := by
  obtain ⟨w, n1, n2, per, pn, g0, g1⟩ := D
  exact ⟨n1, by omega, w.lo 0 (by omega), by have := w.hi 0 (by omega); omega, fun i h => by have := w.up i h; omega, per, pn, by omega⟩
/-- what may be made of a drawn row by the law -/
inductive Near (xs : List Int) (p g : Int) : List Int → Int → Prop
  | last : Near xs p g (xs.set (xs.length - 1) (xs.getD (xs.length - 1) 0 + 1)) (g + 1)
  | gain : Near xs p g xs (g + 1)
  | long : Near xs p g (vals (cvAt xs p g) (xs.length + p.toNat)) g
  | late : Near xs p g (0 :: xs) g
  | less (h : p < xs.length) : Near xs p g (xs.set 0 (max 0 (xs.getD 0 0 - 1))) g
  | same : Near xs p g xs g
theorem set_same {xs : List Int} {i : Nat} {v : Int} (h : i < xs.length) : (xs.set i v).getD i 0 = v := by
  rw [List.getD_eq_getElem?_getD, List.getElem?_set_self h]; rfl
theorem set_ne {xs : List Int} {i j : Nat} {v : Int} (h : i ≠ j) : (xs.set i v).getD j 0 = xs.getD j 0 := by
  rw [List.getD_eq_getElem?_getD, List.getD_eq_getElem?_getD, List.getElem?_set_ne h]
theorem Near.nr {xs ys : List Int} {p g h : Int} (D : Dr xs p g) (H : Near xs p g ys h) : Nr ys p h := by
  have N := D.nr
  have n1 := D.n1
  have n2 := D.n2
  have pn := D.pn
  have p0 := N.p0
  have g0 := D.g0
  have g1 := D.g1
  cases H with
  | last =>
    refine ⟨by rw [List.length_set]; exact n1, by rw [List.length_set]; omega, ?_, ?_, fun i hi => ?_, D.per, by rw [List.length_set]; exact pn, ?_⟩
    · by_cases c : xs.length - 1 = 0
      · rw [c, set_same (by omega)]; have := D.w.lo 0 (by omega); omega
      · rw [set_ne c]; exact D.w.lo 0 (by omega)
    · by_cases c : xs.length - 1 = 0
      · rw [c, set_same (by omega)]; have := D.w.hi 0 (by omega); omega
      · rw [set_ne c]; have := D.w.hi 0 (by omega); omega
    · rw [List.length_set] at hi
      have u := D.w.up i hi
      rw [set_ne (by omega)]
      by_cases c : xs.length - 1 = i + 1
      · rw [c, set_same (by omega)]; omega
      · rw [set_ne c]; omega
    · rw [List.length_set, set_same (by omega)]
      by_cases c : xs.length - 1 = xs.length - p.toNat
      · rw [← c, set_same (by omega)]; rw [← c] at g0 g1; omega
      · rw [set_ne c]; omega
  | gain => exact ⟨N.n1, N.n2, N.lo0, N.hi0, N.st, N.per, N.pn, by omega⟩
  | same => exact N
  | late =>
    refine ⟨by simp, by simp; omega, by simp, by simp, fun i hi => ?_, D.per, by simp; omega, ?_⟩
    · cases i with
      | zero => exact ⟨N.lo0, by have := N.hi0; show xs.getD 0 0 ≤ 0 + 5; omega⟩
      | succ k => exact N.st k (by simpa using hi)
    · rw [List.length_cons, show xs.length + 1 - 1 = (xs.length - 1) + 1 by omega, show xs.length + 1 - p.toNat = (xs.length - p.toNat) + 1 by omega]
      exact N.wr
  | less c =>
    have u0 := D.w.up 0 (by omega)
    have l0 := D.w.lo 0 (by omega)
    have h0 := D.w.hi 0 (by omega)
    refine ⟨by rw [List.length_set]; exact n1, by rw [List.length_set]; omega, by rw [set_same (by omega)]; omega, by rw [set_same (by omega)]; omega, fun i hi => ?_, D.per, by rw [List.length_set]; exact pn, ?_⟩
    · rw [List.length_set] at hi
      rw [set_ne (j := i + 1) (by omega)]
      cases i with
      | zero => rw [set_same (by omega)]; simp only [Nat.zero_add] at u0 ⊢; omega
      | succ k => rw [set_ne (by omega)]; exact N.st _ hi
    · rw [List.length_set, set_ne (by omega), set_ne (by omega)]
      exact N.wr
  | long =>
    have s0 := N.step 0
    rw [show ((0 : Nat) : Int) = 0 from rfl, cvAt_zero] at s0
    have w := N.wr
    refine ⟨by rw [vals_length]; omega, by rw [vals_length]; omega, by rw [vals_getD (by omega)]; exact s0.1, by rw [vals_getD (by omega)]; have := s0.2; simp only [Int.zero_add] at this ⊢; exact this, fun i hi => ?_, D.per, by rw [vals_length]; omega, ?_⟩
    · rw [vals_length] at hi
      rw [vals_getD (by omega), vals_getD (by omega)]
      exact N.step (i + 1)
    · rw [vals_length, vals_getD (by omega), vals_getD (by omega)]
      rw [show ((xs.length + p.toNat - 1 : Nat) : Int) + 1 = xs.length + p by omega, show ((xs.length + p.toNat - p.toNat : Nat) : Int) + 1 = (xs.length : Int) + 1 by omega]
      rw [cvAt_back (t := (xs.length : Int) + p) p0.1 pn (by omega), cvAt_back (t := (xs.length : Int) + 1) p0.1 pn (by omega), show (xs.length : Int) + p - p = xs.length by omega, cvAt_in (by omega) (by omega), cvAt_in (by omega) (by omega)]
      rw [show ((xs.length : Int) + 1 - p - 1).toNat = xs.length - p.toNat by omega, show ((xs.length : Int) - 1).toNat = xs.length - 1 by omega]
      omega
/-- by how much a function is ahead of its rate at 900 -/
def off (f : Int → Int) (a : Int) : Int := f 900 - 75 * a
def gn (p g : Int) : Int := g * (12 / p)
structure Sp2 (e1 e2 m s : Int) : Prop where
  l1 : -21 ≤ e1
  u1 : e1 ≤ 28
  l2 : -21 ≤ e2
  le : e2 ≤ e1
  ge : e1 ≤ e2 + m
  ms : m + 8 * s ≤ 46
  s3 : 3 ≤ s
  s5 : s ≤ 5
theorem Nr.rep {xs : List Int} {p g : Int} (N : Nr xs p g) : Rep (cvAt xs p g) 880 12 (gn p g) := by
  have p0 := N.p0
  have pn := N.pn
  have n2 := N.n2
  exact (Rep.cvAt p0.1 pn).mul p0.1 (by rcases N.per with h | h | h | h | h <;> subst h <;> decide) (by decide) (by omega)
theorem off_at {xs : List Int} {p g : Int} {k i m q : Nat} (p0 : 0 < p) (pn : p ≤ xs.length) (qp : (q : Int) * p = 12) (km : k + m = 75 * q) (h : (xs.length : Int) + k * p < 900 + p) (e : (900 : Int) = (i : Int) + 1 + k * p) (hi : i < xs.length) :
    off (cvAt xs p g) (gn p g) = xs.getD i 0 - m * g := by
  unfold off gn
  rw [at_far p0 pn h e hi]
  have e1 : (12 : Int) / p = q := by rw [← qp]; exact Int.mul_ediv_cancel _ (by omega)
  have e2 : (k : Int) = 75 * q - m := by omega
  rw [e1, e2, Int.sub_mul, Int.mul_comm g, ← Int.mul_assoc]
  omega
theorem Near.spec {xs ys : List Int} {p g h : Int} (D : Dr xs p g) (H : Near xs p g ys h) : Sp2 (off (cvAt xs p g) (gn p g)) (off (cvAt ys p h) (gn p h)) (if p = 1 then 7 else 6) (stp p) := by
  obtain ⟨F⟩ := D.far
  have N := D.nr
  have p0 := N.p0
  have pn := D.pn
  have n1 := D.n1
  have e1 := off_at (g := g) p0.1 pn F.qp F.km F.h F.e F.hi
  have g0 := N.g_.1
  have lo := F.lo
  have up := F.up
  have m1 := F.few
  have m2 := F.few2
  have s_ : (if p = 1 then (7 : Int) else 6) + 8 * stp p ≤ 46 ∧ 3 ≤ stp p ∧ stp p ≤ 5 ∧ F.m ≤ (if p = 1 then (7 : Int) else 6) ∧ stp p ≤ (if p = 1 then (7 : Int) else 6) := by
    unfold stp
    by_cases c : p = 1
    · simp only [if_pos c]; omega
    · simp only [if_neg c]; have := m2 c; omega
  have mk : ∀ e2 : Int, -21 ≤ e2 → e2 ≤ xs.getD F.i 0 - F.m * g → xs.getD F.i 0 - F.m * g ≤ e2 + (if p = 1 then (7 : Int) else 6) → Sp2 (off (cvAt xs p g) (gn p g)) e2 (if p = 1 then 7 else 6) (stp p) := fun e2 h1 h2 h3 =>
    ⟨by omega, by omega, h1, by omega, by omega, s_.1, s_.2.1, s_.2.2.1⟩
  cases H with
  | same => rw [e1]; rw [e1] at mk; exact mk _ (by omega) (Int.le_refl _) (by omega)
  | gain =>
    rw [off_at (g := g + 1) p0.1 pn F.qp F.km F.h F.e F.hi, Int.mul_add, Int.mul_one]
    exact mk _ (by omega) (by omega) (by omega)
  | last =>
    rw [off_at (g := g + 1) p0.1 (by rw [List.length_set]; exact pn) F.qp F.km (by rw [List.length_set]; exact F.h) F.e (by rw [List.length_set]; exact F.hi), Int.mul_add, Int.mul_one]
    have fm : 1 ≤ F.m := by
      have a := F.km
      have b := F.e
      have c := F.qp
      have d : (900 : Int) = 75 * (F.q * p) := by rw [c]; decide
      rw [← Int.mul_assoc] at d
      have e : ((F.k : Int) + F.m) * p = 75 * F.q * p := by rw [show ((F.k : Int) + F.m) = 75 * F.q by omega]
      rw [Int.add_mul] at e
      cases z : F.m with
      | zero => rw [z] at e; simp at e; omega
      | succ k => omega
    by_cases c : xs.length - 1 = F.i
    · rw [c, set_same F.hi]
      exact mk _ (by omega) (by omega) (by omega)
    · rw [set_ne c]
      exact mk _ (by omega) (by omega) (by omega)
  | long =>
    have e : off (cvAt (vals (cvAt xs p g) (xs.length + p.toNat)) p g) (gn p g) = off (cvAt xs p g) (gn p g) := by
      unfold off
      rw [cvAt_vals p0.1 (by omega) cvAt_zero ((Rep.cvAt p0.1 pn).weak (by omega)) 900 (by decide)]
    rw [e, e1]; rw [e1] at mk; exact mk _ (by omega) (Int.le_refl _) (by omega)
  | late =>
    have e : off (cvAt (0 :: xs) p g) (gn p g) = cvAt xs p g 899 - 75 * gn p g := by
      unfold off
      rw [show (0 : Int) :: xs = List.replicate 1 0 ++ xs from rfl, cvAt_later (n := 1) p0.1 pn (by decide)]
      unfold laterF
      rw [if_neg (by decide)]
      rfl
    have f := N.far_step 899 (by decide)
    rw [show ((899 : Nat) : Int) + 1 = 900 from rfl, show ((899 : Nat) : Int) = 899 from rfl] at f
    have e0 : off (cvAt xs p g) (gn p g) = cvAt xs p g 900 - 75 * gn p g := rfl
    have lo' := F.lo'
    have e2 : cvAt xs p g 899 - 75 * gn p g = xs.getD F.i' 0 - F.m' * g := by
      rw [at_far p0.1 pn F.h' F.e' F.hi']
      unfold gn
      have e1 : (12 : Int) / p = F.q := by rw [← F.qp]; exact Int.mul_ediv_cancel _ (by omega)
      have e2 : (F.k' : Int) = 75 * F.q - F.m' := by have := F.km'; omega
      rw [e1, e2, Int.sub_mul, Int.mul_comm g, ← Int.mul_assoc]
      omega
    rw [e]
    exact mk _ (by omega) (by omega) (by omega)
  | less c =>
    rw [off_at (xs := xs.set 0 (max 0 (xs.getD 0 0 - 1))) (g := g) p0.1 (by rw [List.length_set]; exact pn) F.qp F.km (by rw [List.length_set]; exact F.h) F.e (by rw [List.length_set]; exact F.hi)]
    have := F.first c
    rw [set_ne (by omega)]
    exact mk _ (by omega) (by omega) (by omega)
/-- a function of a made curve: it repeats far out, and at 900 it lies near a row's, or near nothing -/
def Fit (e1 e2 s : Int) (F : Int → Int) : Prop := ∃ a, Rep F 888 12 a ∧
  ((∃ e, (e = e1 ∨ e = e2) ∧ e - 8 * s ≤ off F a ∧ off F a ≤ e + 28) ∨ (0 ≤ off F a ∧ off F a ≤ 10))
theorem Fit.down {e1 e2 s : Int} {F : Int → Int} (h : Fit e1 e2 s F) : ∃ a, Rep F 888 12 a := h.elim fun a h => ⟨a, h.1⟩
theorem far_down {F : Int → Int} {a : Int} (R : Rep F 888 12 a) : ∀ t : Nat, 900 < t → ∃ (u j : Nat), 888 < u ∧ u ≤ 900 ∧ t = u + 12 * j ∧ F t = F u + j * a := by
  intro t
  induction t using Nat.strongRecOn with
  | ind t ih =>
    intro ht
    by_cases c : t ≤ 912
    · refine ⟨t - 12, 1, by omega, by omega, by omega, ?_⟩
      rw [R t (by omega), show ((t - 12 : Nat) : Int) = (t : Int) - 12 by omega, show ((1 : Nat) : Int) = 1 from rfl, Int.one_mul]
    · obtain ⟨u, j, h1, h2, h3, h4⟩ := ih (t - 12) (by omega) (by omega)
      refine ⟨u, j + 1, h1, h2, by omega, ?_⟩
      rw [R t (by omega), show (t : Int) - 12 = ((t - 12 : Nat) : Int) by omega, h4, show ((j + 1 : Nat) : Int) = (j : Int) + 1 by omega, Int.add_mul, Int.one_mul]
      omega
/-- below at 900 lengths is below at all -/
theorem Fit.le {e1 e2 m s : Int} (S : Sp2 e1 e2 m s) {F G : Int → Int} (hF : Fit e1 e2 s F) (hG : Fit e1 e2 s G) (h : ∀ t : Int, 1 ≤ t → t ≤ 900 → F t ≤ G t) : ∀ t : Int, 1 ≤ t → F t ≤ G t := by
  obtain ⟨a, R, hF⟩ := hF
  obtain ⟨b, S2, hG⟩ := hG
  have h9 := h 900 (by decide) (by decide)
  obtain ⟨l1, u1, l2, le, ge, ms, s3, s5⟩ := S
  unfold off at hF hG
  have ab : a ≤ b := by
    rcases hF with ⟨e, he, f1, f2⟩ | ⟨f1, f2⟩ <;> rcases hG with ⟨d, hd, g1, g2⟩ | ⟨g1, g2⟩
    · rcases he with rfl | rfl <;> rcases hd with rfl | rfl <;> omega
    · rcases he with rfl | rfl <;> omega
    · rcases hd with rfl | rfl <;> omega
    · omega
  intro t ht
  by_cases c : t ≤ 900
  · exact h t ht c
  · obtain ⟨n, rfl⟩ : ∃ n : Nat, t = (n : Int) := ⟨t.toNat, by omega⟩
    obtain ⟨u, j, h1, h2, h3, h4⟩ := far_down R n (by omega)
    have h5 : ∀ k : Nat, G ((u : Int) + 12 * k) = G u + k * b := by
      intro k
      induction k with
      | zero => simp
      | succ k ih =>
        rw [S2 _ (by omega), show (u : Int) + 12 * ((k + 1 : Nat) : Int) - 12 = (u : Int) + 12 * k by omega, ih, show ((k + 1 : Nat) : Int) = (k : Int) + 1 by omega, Int.add_mul, Int.one_mul]
        omega
    have h6 := h5 j
    rw [show (u : Int) + 12 * (j : Int) = (n : Int) by omega] at h6
    have h7 := h u (by omega) (by omega)
    have h8 : (j : Int) * a ≤ j * b := Int.mul_le_mul_of_nonneg_left ab (by omega)
    rw [h4, h6]
    omega
/-- the same at 900 lengths is the same at all -/
theorem Fit.eq {e1 e2 m s : Int} (S : Sp2 e1 e2 m s) {F G : Int → Int} (hF : Fit e1 e2 s F) (hG : Fit e1 e2 s G) (z : F 0 = G 0) (h : ∀ t : Int, 1 ≤ t → t ≤ 900 → F t = G t) : ∀ t : Int, 0 ≤ t → F t = G t := fun t ht => by
  by_cases c : t = 0
  · rw [c]; exact z
  · have a := Fit.le S hF hG (fun t h1 h2 => by have := h t h1 h2; omega) t (by omega)
    have b := Fit.le S hG hF (fun t h1 h2 => by have := h t h1 h2; omega) t (by omega)
    omega
/-! ### each way of making -/
theorem Fit.row {xs : List Int} {p g e1 e2 s e : Int} (N : Nr xs p g) (s3 : 3 ≤ s) (he : e = e1 ∨ e = e2) (h : off (cvAt xs p g) (gn p g) = e) : Fit e1 e2 s (cvAt xs p g) :=
  ⟨gn p g, N.rep.weak (by decide), .inl ⟨e, he, by omega, by omega⟩⟩
theorem Fit.late {xs : List Int} {p g e1 e2 e : Int} {n : Nat} (N : Nr xs p g) (s3 : 3 ≤ stp p) (he : e = e1 ∨ e = e2) (h : off (cvAt xs p g) (gn p g) = e) (hn : n ≤ 8) : Fit e1 e2 (stp p) (laterF (cvAt xs p g) n) := by
  have a := N.far_steps (900 - n) (by omega) n
  rw [show ((900 - n : Nat) : Int) = 900 - n by omega, show (900 : Int) - n + n = 900 by omega] at a
  refine ⟨gn p g, (later_rep N.rep (by decide) (by decide) (by omega) cvAt_zero).weak (by omega), .inl ⟨e, he, ?_, ?_⟩⟩
  · unfold off at h ⊢
    unfold laterF
    rw [if_neg (by omega)]
    have : stp p * (n : Int) ≤ stp p * 8 := Int.mul_le_mul_of_nonneg_left (by omega) (by omega)
    omega
  · unfold off at h ⊢
    unfold laterF
    rw [if_neg (by omega)]
    omega
theorem Rep.add12 {f h : Int → Int} {N g1 g2 : Int} (R : Rep f N 12 g1) (S : Rep h N 12 g2) : Rep (fun t => f t + h t) N 12 (g1 + g2) := R.add S
theorem Dr.off_ {xs : List Int} {p g : Int} (D : Dr xs p g) : -21 ≤ off (cvAt xs p g) (gn p g) ∧ off (cvAt xs p g) (gn p g) ≤ 28 := by
  have := Near.spec D .same
  exact ⟨this.l1, this.u1⟩
theorem Fit.sum {xs ys : List Int} {p g q c e1 e2 s e : Int} (N : Nr xs p g) (D : Dr ys q c) (s3 : 3 ≤ s) (he : e = e1 ∨ e = e2) (h : off (cvAt xs p g) (gn p g) = e) : Fit e1 e2 s (fun t => cvAt ys q c t + cvAt xs p g t) := by
  have o := D.off_
  refine ⟨gn q c + gn p g, Rep.add12 (D.nr.rep.weak (by decide)) (N.rep.weak (by decide)), .inl ⟨e, he, ?_, ?_⟩⟩ <;> (unfold off at *; show _ ≤ _; simp only []; omega)
/-- a small piece -/
structure PcS (q : Pc) : Prop where
  b0 : 0 ≤ q.b
  b3 : q.b ≤ 3
  u0 : 0 ≤ q.u
  u2 : q.u ≤ 2
  t_ : q.t = 1 ∨ q.t = 2 ∨ q.t = 4
theorem PcS.ok {q : Pc} (h : PcS q) : q.Ok := ⟨h.b0, by have := h.b3; omega, h.u0, by have := h.u2; omega, by rcases h.t_ with e | e | e <;> omega⟩
theorem PcS.r_ {q : Pc} (h : PcS q) : q.r = 0 ∨ q.r = 3 ∨ q.r = 6 ∨ q.r = 12 ∨ q.r = 24 := by
  have a := h.u0
  have b := h.u2
  unfold Pc.r
  rcases h.t_ with e | e | e <;> rw [e] <;> (rcases (show q.u = 0 ∨ q.u = 1 ∨ q.u = 2 by omega) with z | z | z <;> rw [z] <;> omega)
/-- two small lines: from 13 on one of the lesser rate is the lower -/
theorem two_far {a b : Pc} (ha : PcS a) (hb : PcS b) : ∃ q : Pc, (q = a ∨ q = b) ∧ q.r = lnG [a, b] ∧ ∀ t : Int, 12 ≤ t → lnF [a, b] t = q.at t := by
  have e1 : lnG [a, b] = min a.r b.r := by
    obtain ⟨⟨q, h, e⟩, l⟩ := minOf_is Pc.r (l := [a, b]) (by simp)
    have x := l a (by simp)
    have y := l b (by simp)
    simp only [List.mem_cons, List.not_mem_nil, or_false] at h
    unfold lnG
    rcases h with rfl | rfl <;> omega
  have e2 : ∀ t : Int, 12 ≤ t → lnF [a, b] t = min (a.at t) (b.at t) := fun t ht => by
    rw [lnF_pos (by omega)]
    obtain ⟨⟨q, h, e⟩, l⟩ := minOf_is (fun q : Pc => q.at t) (l := [a, b]) (by simp)
    have x := l a (by simp)
    have y := l b (by simp)
    simp only [List.mem_cons, List.not_mem_nil, or_false] at h
    rcases h with rfl | rfl <;> omega
  have key : ∀ c d : Pc, PcS c → PcS d → c.r < d.r → ∀ t : Int, 12 ≤ t → c.at t ≤ d.at t := fun c d hc hd lt t ht => by
    rw [hc.ok.at_eq, hd.ok.at_eq]
    have b1 := hc.b3
    have b2 := hd.b0
    have h3 : c.r + 3 ≤ d.r := by rcases hc.r_ with z | z | z | z | z <;> rcases hd.r_ with y | y | y | y | y <;> omega
    have m := Int.mul_le_mul_of_nonneg_right h3 (show 0 ≤ t by omega)
    rw [Int.add_mul] at m
    omega
  rcases (show a.r < b.r ∨ b.r < a.r ∨ a.r = b.r by omega) with c | c | c
  · exact ⟨a, .inl rfl, by omega, fun t ht => by rw [e2 t ht]; have := key a b ha hb c t ht; omega⟩
  · exact ⟨b, .inr rfl, by omega, fun t ht => by rw [e2 t ht]; have := key b a hb ha c t ht; omega⟩
  · by_cases d : a.b ≤ b.b
    · refine ⟨a, .inl rfl, by omega, fun t ht => ?_⟩
      rw [e2 t ht, ha.ok.at_eq, hb.ok.at_eq, c]
      omega
    · refine ⟨b, .inr rfl, by omega, fun t ht => ?_⟩
      rw [e2 t ht, ha.ok.at_eq, hb.ok.at_eq, c]
      omega
theorem two_rep {a b : Pc} (ha : PcS a) (hb : PcS b) : Rep (lnF [a, b]) 24 12 (lnG [a, b]) := fun t ht => by
  obtain ⟨q, hq, hr, h⟩ := two_far ha hb
  have ok : q.Ok := hq.elim (fun z => z ▸ ha.ok) (fun z => z ▸ hb.ok)
  rw [h t (by omega), h (t - 12) (by omega), ← hr]
  have := ok.far (t - 12)
  rw [show t - 12 + 12 = t by omega] at this
  exact this
theorem Fit.lines {a b : Pc} {e1 e2 s : Int} (ha : PcS a) (hb : PcS b) : Fit e1 e2 s (lnF [a, b]) := by
  obtain ⟨q, hq, hr, h⟩ := two_far ha hb
  have ok : PcS q := hq.elim (fun z => z ▸ ha) (fun z => z ▸ hb)
  refine ⟨lnG [a, b], (two_rep ha hb).weak (by decide), .inr ?_⟩
  unfold off
  rw [h 900 (by decide), ← hr, ok.ok.at_eq]
  have := ok.b0
  have := ok.b3
  omega
theorem fm_short {F : Int → Int} {n k : Nat} {G : Int} (R : Rep F n 12 G) (hn : 12 ≤ n) (F0 : F 0 = 0) (hk : 12 ≤ k) (S : Rep F k 12 G) : (formV (vals F n) 12 G).length ≤ k := by
  have h12 : (12 : Int) ≤ (vals F n).length := by rw [vals_length]; omega
  have FV := fm_vals R hn F0
  have RR : Rep (cvAt (vals F n) 12 G) (vals F n).length 12 G := Rep.cvAt (by decide) h12
  obtain ⟨a1, a2, a3⟩ := leastP_spec RR (by decide)
  have S2 : Rep (cvAt (vals F n) 12 G) k 12 G := S.congr (fun t ht => (FV t ht).symm) (by decide) (by omega)
  have S3 := per_now S2 (by decide) a3 a1 a2
  have u := shr_uniq (m := (vals F n).length) (k := k) a1 (by omega) (by omega) a3 S3
  obtain ⟨_, b2, _⟩ := shr_spec a1 k (by omega) S3
  unfold formV
  rw [vals_length]
  show shr _ _ _ _ ≤ k
  exact Nat.le_trans (Nat.le_of_eq u) b2
theorem two_short {a b : Pc} (ha : PcS a) (hb : PcS b) : (formV (vals (lnF [a, b]) (lnN [a, b]).toNat) 12 (lnG [a, b])).length ≤ 24 := by
  have ne : [a, b] ≠ [] := by simp
  have ok : ∀ q ∈ [a, b], q.Ok := fun q hq => by
    simp only [List.mem_cons, List.not_mem_nil, or_false] at hq
    exact hq.elim (fun z => z ▸ ha.ok) (fun z => z ▸ hb.ok)
  have nb := lnN_b ne ok
  refine fm_short (k := 24) ?_ (by omega) lnF_zero (by decide) (two_rep ha hb)
  rw [Int.toNat_of_nonneg (by omega)]
  exact ln_rep ne ok
theorem Fit.tight {us : List Int} {e1 e2 s : Int} (N : ∀ u ∈ us, 0 ≤ u) (hl : us.length ≤ 5) (hs : us.sum ≤ 10) : Fit e1 e2 s (tF us) := by
  have z : ∀ t : Int, 5 ≤ t → tF us t = us.sum := fun t ht => by unfold tF; exact most_far (by omega)
  refine ⟨0, fun t ht => by rw [z t (by omega), z (t - 12) (by omega)]; omega, .inr ?_⟩
  unfold off
  rw [z 900 (by decide)]
  have : 0 ≤ us.sum := by
    have := most_nn N us.length
    rwa [most_far (Nat.le_refl _)] at this
  omega
theorem sum_le2 : ∀ {us : List Int}, (∀ u ∈ us, u ≤ 2) → us.sum ≤ 2 * (us.length : Int)
  | [], _ => by simp
  | a :: l, h => by
    have := sum_le2 (us := l) fun u hu => h u (List.mem_cons_of_mem _ hu)
    have := h a (List.mem_cons_self ..)
    rw [List.sum_cons, List.length_cons]
    omega
/-! ### rows of values -/
theorem vals_take {f : Int → Int} {n m : Nat} (h : m ≤ n) : (vals f n).take m = vals f m := by
  unfold vals
  rw [← List.map_take, List.take_range, Nat.min_eq_left h]
theorem vals_eq {f h : Int → Int} {n : Nat} (e : ∀ t : Int, 1 ≤ t → t ≤ n → f t = h t) : vals f n = vals h n := by
  unfold vals
  refine List.map_congr_left fun i hi => ?_
  have := List.mem_range.mp hi
  exact e _ (by omega) (by omega)
theorem vals_inj {f h : Int → Int} {n : Nat} (e : vals f n = vals h n) : ∀ t : Int, 1 ≤ t → t ≤ n → f t = h t := fun t h1 h2 => by
  have this : (vals f n).getD (t - 1).toNat 0 = (vals h n).getD (t - 1).toNat 0 := by rw [e]
  rw [vals_getD (by omega), vals_getD (by omega), show ((t - 1).toNat : Int) + 1 = t by omega] at this
  exact this
theorem tight_vals {us : List Int} (h : us.length ≤ 5) : ((vals (tF us) us.length) ++ List.replicate 900 (us.sum)).take 900 = vals (tF us) 900 := by
  have e : List.replicate 900 us.sum = (List.range 900).map fun i => tF us ((us.length + i : Nat) + 1) := by
    apply List.ext_getElem (by simp)
    intro i h1 h2
    rw [List.getElem_replicate, List.getElem_map, List.getElem_range]
    unfold tF
    exact (most_far (by omega)).symm
  have e2 : vals (tF us) us.length ++ List.replicate 900 us.sum = vals (tF us) (us.length + 900) := by
    rw [e]
    unfold vals
    rw [List.range_add, List.map_append, List.map_map]
    rfl
  rw [e2, vals_take (by omega)]
end VM

/-! Numbers that change at ticks: a first value and steps. -/
namespace VM
def atF (c : Int) : List (Int × Int) → Int → Int
  | [], _ => c
  | (s, a) :: r, t => atF (if s ≤ t then a else c) r t
/-- the last value that the ticks so far tell -/
theorem atF_filter (c : Int) (t : Int) : ∀ S : List (Int × Int), atF c S t = ((c :: (S.filter fun z => decide (z.1 ≤ t)).map (·.2)).getLast (by simp)) := by
  intro S
  induction S generalizing c with
  | nil => rfl
  | cons z S ih =>
    obtain ⟨s, a⟩ := z
    show atF (if s ≤ t then a else c) S t = _
    rw [ih]
    by_cases h : s ≤ t
    · simp [List.filter_cons, h]
    · simp [List.filter_cons, h]
def Srt : Int → List (Int × Int) → Prop
  | _, [] => True
  | b, (s, _) :: r => b < s ∧ Srt s r
theorem Srt.weak : ∀ {S : List (Int × Int)} {b c : Int}, c ≤ b → Srt b S → Srt c S
  | [], _, _, _, _ => trivial
  | (s, a) :: r, b, c, h, ⟨h1, h2⟩ => ⟨by omega, h2⟩
theorem Srt.push : ∀ {S : List (Int × Int)} {b : Int} {s a : Int}, Srt b S → (∀ z ∈ S, z.1 < s) → b < s → Srt b (S ++ [(s, a)])
  | [], b, s, a, _, _, h => ⟨h, trivial⟩
  | (q, e) :: r, b, s, a, ⟨h1, h2⟩, h, _ => ⟨h1, Srt.push h2 (fun z hz => h z (List.mem_cons_of_mem _ hz)) (h (q, e) (List.mem_cons_self ..))⟩
theorem Srt.gt : ∀ {S : List (Int × Int)} {b : Int}, Srt b S → ∀ z ∈ S, b < z.1
  | [], _, _, z, hz => by cases hz
  | (q, e) :: r, b, ⟨h1, h2⟩, z, hz => by
    rcases List.mem_cons.mp hz with rfl | hz
    · exact h1
    · have := Srt.gt h2 z hz; omega
theorem Srt.left : ∀ {S R : List (Int × Int)} {b : Int}, Srt b (S ++ R) → Srt b S
  | [], _, _, _ => trivial
  | (q, e) :: r, R, b, ⟨h1, h2⟩ => ⟨h1, Srt.left h2⟩
theorem Srt.right : ∀ {S R : List (Int × Int)} {b : Int}, Srt b (S ++ R) → Srt b R
  | [], _, _, h => h
  | (q, e) :: r, R, b, ⟨h1, h2⟩ => Srt.weak (by omega) (Srt.right h2)
theorem Srt.mid {S R : List (Int × Int)} {b s a : Int} (h : Srt b (S ++ (s, a) :: R)) : Srt s R ∧ b < s ∧ ∀ z ∈ S, z.1 < s := by
  induction S generalizing b with
  | nil => exact ⟨h.2, h.1, fun z hz => by cases hz⟩
  | cons q S ih =>
    obtain ⟨h1, h2⟩ := h
    obtain ⟨i1, i2, i3⟩ := ih h2
    refine ⟨i1, by omega, fun z hz => ?_⟩
    rcases List.mem_cons.mp hz with rfl | hz
    · exact i2
    · exact i3 z hz
theorem Srt.drop1 {S R : List (Int × Int)} {b s a : Int} (h : Srt b (S ++ (s, a) :: R)) : Srt b (S ++ R) := by
  induction S generalizing b with
  | nil => exact h.2.weak (Int.le_of_lt h.1)
  | cons q S ih => exact ⟨h.1, ih h.2⟩
theorem Srt.swap {S R : List (Int × Int)} {b s a e : Int} (h : Srt b (S ++ (s, a) :: R)) : Srt b (S ++ (s, e) :: R) := by
  induction S generalizing b with
  | nil => exact h
  | cons q S ih => exact ⟨h.1, ih h.2⟩
theorem atF_low {S : List (Int × Int)} : ∀ {b c t : Int}, Srt b S → t ≤ b → atF c S t = c := by
  induction S with
  | nil => intros; rfl
  | cons z S ih =>
    obtain ⟨s, a⟩ := z
    intro b c t ⟨h1, h2⟩ ht
    show atF (if s ≤ t then a else c) S t = c
    rw [if_neg (by omega)]
    exact ih h2 (by omega)
theorem atF_app (c : Int) (S R : List (Int × Int)) (t : Int) : atF c (S ++ R) t = atF (atF c S t) R t := by
  induction S generalizing c with
  | nil => rfl
  | cons z S ih => obtain ⟨s, a⟩ := z; exact ih _
/-- the steps that change something -/
def keptS : Int → List (Int × Int) → List (Int × Int)
  | _, [] => []
  | c, (s, a) :: r => if a ≠ c then (s, a) :: keptS a r else keptS a r
theorem keptS_srt {S : List (Int × Int)} : ∀ {b c : Int}, Srt b S → Srt b (keptS c S) := by
  induction S with
  | nil => intros; trivial
  | cons z S ih =>
    obtain ⟨s, a⟩ := z
    intro b c ⟨h1, h2⟩
    unfold keptS
    split
    · exact ⟨h1, ih h2⟩
    · exact (ih h2).weak (Int.le_of_lt h1)
theorem keptS_at {S : List (Int × Int)} : ∀ {b c : Int}, Srt b S → ∀ t, atF c (keptS c S) t = atF c S t := by
  induction S with
  | nil => intros; rfl
  | cons z S ih =>
    obtain ⟨s, a⟩ := z
    intro b c ⟨h1, h2⟩ t
    unfold keptS
    split
    · show atF (if s ≤ t then a else c) (keptS a S) t = atF (if s ≤ t then a else c) S t
      by_cases q : s ≤ t
      · rw [if_pos q]; exact ih h2 t
      · rw [if_neg q, atF_low (keptS_srt h2) (by omega), atF_low h2 (by omega)]
    · rename_i h
      have h : a = c := by simpa using h
      subst h
      show _ = atF (if s ≤ t then a else a) S t
      rw [ite_self]
      exact ih h2 t
theorem keptS_mem {S : List (Int × Int)} : ∀ {c : Int}, ∀ z ∈ keptS c S, z ∈ S := by
  induction S with
  | nil => intro c z h; cases h
  | cons q S ih =>
    obtain ⟨s, a⟩ := q
    intro c z h
    unfold keptS at h
    split at h
    · rcases List.mem_cons.mp h with rfl | h
      · exact List.mem_cons_self ..
      · exact List.mem_cons_of_mem _ (ih z h)
    · exact List.mem_cons_of_mem _ (ih z h)
theorem keptS_len {S : List (Int × Int)} : ∀ {c : Int}, (keptS c S).length ≤ S.length := by
  induction S with
  | nil => intro c; exact Nat.le_refl _
  | cons q S ih =>
    obtain ⟨s, a⟩ := q
    intro c
    unfold keptS
    split
    · simp only [List.length_cons]; have := ih (c := a); omega
    · simp only [List.length_cons]; have := ih (c := a); omega
/-- the value behind the steps so far -/
def lastV (c : Int) : List (Int × Int) → Int
  | [] => c
  | (_, a) :: r => lastV a r
def lastT (b : Int) : List (Int × Int) → Int
  | [] => b
  | (s, _) :: r => lastT s r
theorem lastV_push (c : Int) (S : List (Int × Int)) (s a : Int) : lastV c (S ++ [(s, a)]) = a := by
  induction S generalizing c with
  | nil => rfl
  | cons z S ih => exact ih _
theorem lastT_push (b : Int) (S : List (Int × Int)) (s a : Int) : lastT b (S ++ [(s, a)]) = s := by
  induction S generalizing b with
  | nil => rfl
  | cons z S ih => exact ih _
theorem keptS_app (c : Int) (S R : List (Int × Int)) : keptS c (S ++ R) = keptS c S ++ keptS (lastV c S) R := by
  induction S generalizing c with
  | nil => rfl
  | cons z S ih =>
    obtain ⟨s, a⟩ := z
    show keptS c ((s, a) :: (S ++ R)) = keptS c ((s, a) :: S) ++ keptS (lastV a S) R
    by_cases h : a = c
    · simp only [keptS, h, ne_eq, not_true_eq_false, if_false, ih]
    · simp only [keptS, ne_eq, h, not_false_eq_true, if_true, ih, List.cons_append]
theorem at_last {S : List (Int × Int)} : ∀ {b c t : Int}, Srt b S → lastT b S ≤ t → atF c S t = lastV c S := by
  induction S with
  | nil => intros; rfl
  | cons z S ih =>
    obtain ⟨s, a⟩ := z
    intro b c t ⟨h1, h2⟩ ht
    have hs : s ≤ lastT s S := by
      clear ih ht h1
      induction S generalizing s a with
      | nil => exact Int.le_refl _
      | cons q S ih2 =>
        obtain ⟨u, v⟩ := q
        have := ih2 u v h2.2
        show s ≤ lastT u S
        have := h2.1
        omega
    show atF (if s ≤ t then a else c) S t = lastV a S
    rw [if_pos (show s ≤ t from Int.le_trans hs ht)]
    exact ih h2 ht
theorem lastT_ge {S : List (Int × Int)} : ∀ {b : Int}, Srt b S → b ≤ lastT b S := by
  induction S with
  | nil => intro b _; exact Int.le_refl _
  | cons z S ih =>
    obtain ⟨s, a⟩ := z
    intro b ⟨h1, h2⟩
    have := ih h2
    show b ≤ lastT s S
    omega
/-- steps that all change something -/
def Rd : Int → List (Int × Int) → Prop
  | _, [] => True
  | c, (_, a) :: r => a ≠ c ∧ Rd a r
theorem keptS_rd {S : List (Int × Int)} : ∀ {c : Int}, Rd c (keptS c S) := by
  induction S with
  | nil => intro c; trivial
  | cons z S ih =>
    obtain ⟨s, a⟩ := z
    intro c
    unfold keptS
    split
    · rename_i h; exact ⟨h, ih⟩
    · rename_i h
      have h : a = c := by simpa using h
      subst h
      exact ih
theorem rd_uniq : ∀ {R S : List (Int × Int)} {b c : Int}, Srt b R → Srt b S → Rd c R → Rd c S → (∀ t, b ≤ t → atF c R t = atF c S t) → R = S
  | [], [], _, _, _, _, _, _, _ => rfl
  | [], (s, a) :: S, b, c, _, ⟨h1, h2⟩, _, ⟨r1, _⟩, e => by
    have := e s (by omega)
    have q : atF c ((s, a) :: S) s = a := by
      show atF (if s ≤ s then a else c) S s = a
      rw [if_pos (Int.le_refl _)]
      exact atF_low h2 (Int.le_refl _)
    rw [q] at this
    exact absurd this.symm r1
  | (s, a) :: R, [], b, c, ⟨h1, h2⟩, _, ⟨r1, _⟩, _, e => by
    have := e s (by omega)
    have q : atF c ((s, a) :: R) s = a := by
      show atF (if s ≤ s then a else c) R s = a
      rw [if_pos (Int.le_refl _)]
      exact atF_low h2 (Int.le_refl _)
    rw [q] at this
    exact absurd this r1
  | (s, a) :: R, (u, d) :: S, b, c, ⟨h1, h2⟩, ⟨k1, k2⟩, ⟨r1, r2⟩, ⟨q1, q2⟩, e => by
    have ea : ∀ (s a : Int) (R : List (Int × Int)), Srt s R → atF c ((s, a) :: R) s = a := fun s a R h => by
      show atF (if s ≤ s then a else c) R s = a
      rw [if_pos (Int.le_refl _)]
      exact atF_low h (Int.le_refl _)
    have el : ∀ (s a : Int) (R : List (Int × Int)) (t : Int), Srt s R → t < s → atF c ((s, a) :: R) t = c := fun s a R t h ht => by
      show atF (if s ≤ t then a else c) R t = c
      rw [if_neg (by omega)]
      exact atF_low h (by omega)
    have su : s = u := by
      rcases Int.lt_trichotomy s u with l | l | l
      · have := e s (by omega)
        rw [ea s a R h2, el u d S s k2 l] at this
        exact absurd this r1
      · exact l
      · have := e u (by omega)
        rw [ea u d S k2, el s a R u h2 l] at this
        exact absurd this.symm q1
    subst su
    have ad : a = d := by
      have := e s (by omega)
      rwa [ea s a R h2, ea s d S k2] at this
    subst ad
    have := rd_uniq h2 k2 r2 q2 fun t ht => by
      have := e t (by omega)
      have x : ∀ R : List (Int × Int), atF c ((s, a) :: R) t = atF a R t := fun R => by
        show atF (if s ≤ t then a else c) R t = _
        rw [if_pos ht]
      rwa [x, x] at this
    rw [this]
/-- between its ticks it stands: what it is at t is what it is at 0 or at a tick of its own up to t -/
theorem at_tick {S : List (Int × Int)} : ∀ {b c : Int}, Srt b S → ∀ t, b ≤ t → ∀ u, b ≤ u → u ≤ t → (∀ z ∈ S, z.1 ≤ t → z.1 ≤ u) → atF c S u = atF c S t := by
  induction S with
  | nil => intros; rfl
  | cons z S ih =>
    obtain ⟨s, a⟩ := z
    intro b c ⟨h1, h2⟩ t ht u hu hut hz
    show atF (if s ≤ u then a else c) S u = atF (if s ≤ t then a else c) S t
    by_cases q : s ≤ t
    · have := hz (s, a) (List.mem_cons_self ..) q
      rw [if_pos q, if_pos this]
      exact ih h2 t q u this hut fun z hz' => hz z (List.mem_cons_of_mem _ hz')
    · rw [if_neg q, if_neg (by omega), atF_low h2 (by omega), atF_low h2 (by omega)]
/-- the same at 0 and at all ticks of both is the same at all -/
theorem same_at {S R : List (Int × Int)} {c d : Int} (hS : Srt 0 S) (hR : Srt 0 R) (h0 : atF c S 0 = atF d R 0) (h : ∀ z ∈ S ++ R, atF c S z.1 = atF d R z.1) : ∀ t, 0 ≤ t → atF c S t = atF d R t := by
  intro t ht
  -- the last of 0 and all ticks up to t
  have ex : ∀ L : List (Int × Int), (∀ z ∈ L, 0 < z.1) → ∃ u, 0 ≤ u ∧ u ≤ t ∧ (u = 0 ∨ ∃ z ∈ L, z.1 = u) ∧ ∀ z ∈ L, z.1 ≤ t → z.1 ≤ u := by
    intro L
    induction L with
    | nil => exact fun _ => ⟨0, Int.le_refl _, ht, .inl rfl, fun z hz => by cases hz⟩
    | cons q L ih =>
      intro hp
      obtain ⟨u, u0, ut, uz, hu⟩ := ih fun z hz => hp z (List.mem_cons_of_mem _ hz)
      by_cases k : q.1 ≤ t ∧ u < q.1
      · refine ⟨q.1, by omega, k.1, .inr ⟨q, List.mem_cons_self .., rfl⟩, fun z hz hz2 => ?_⟩
        rcases List.mem_cons.mp hz with rfl | hz
        · exact Int.le_refl _
        · have := hu z hz hz2; omega
      · refine ⟨u, u0, ut, ?_, fun z hz hz2 => ?_⟩
        · rcases uz with uz | ⟨z, hz, e⟩
          · exact .inl uz
          · exact .inr ⟨z, List.mem_cons_of_mem _ hz, e⟩
        · rcases List.mem_cons.mp hz with rfl | hz
          · omega
          · exact hu z hz hz2
  obtain ⟨u, u0, ut, uz, hu⟩ := ex (S ++ R) fun z hz => (List.mem_append.mp hz).elim (fun h => hS.gt z h) (fun h => hR.gt z h)
  have a := at_tick (c := c) hS t ht u u0 ut fun z hz => hu z (List.mem_append_left _ hz)
  have b := at_tick (c := d) hR t ht u u0 ut fun z hz => hu z (List.mem_append_right _ hz)
  rw [← a, ← b]
  rcases uz with rfl | ⟨z, hz, rfl⟩
  · exact h0
  · exact h z hz
theorem kept_iff_at {S R : List (Int × Int)} {c d : Int} (hS : Srt 0 S) (hR : Srt 0 R) : (c = d ∧ keptS c S = keptS d R) ↔ (atF c S 0 = atF d R 0 ∧ ∀ z ∈ S ++ R, atF c S z.1 = atF d R z.1) := by
  constructor
  · rintro ⟨rfl, e⟩
    have q : ∀ t, atF c S t = atF c R t := fun t => by rw [← keptS_at hS, ← keptS_at hR, e]
    exact ⟨q 0, fun z _ => q _⟩
  · rintro ⟨h0, h⟩
    have e := same_at hS hR h0 h
    have cd : c = d := by
      have := e 0 (Int.le_refl _)
      rwa [atF_low hS (Int.le_refl _), atF_low hR (Int.le_refl _)] at this
    subst cd
    exact ⟨rfl, rd_uniq (keptS_srt hS) (keptS_srt hR) keptS_rd keptS_rd fun t ht => by rw [keptS_at hS, keptS_at hR]; exact e t ht⟩
/-- sums of the values of the ticks before -/
def PS (f : Int → Int) : Nat → Int
  | 0 => 0
  | n + 1 => PS f n + f n
def rowP (f : Int → Int) (n : Nat) : List Int := (List.range n).map (PS f)
theorem rowP_length {f : Int → Int} {n : Nat} : (rowP f n).length = n := by unfold rowP; simp
theorem rowP_succ {f : Int → Int} {n : Nat} : rowP f (n + 1) = rowP f n ++ [PS f n] := by
  unfold rowP
  rw [List.range_succ, List.map_append]
  rfl
theorem rowP_getD {f : Int → Int} {n i : Nat} (h : i < n) : (rowP f n).getD i 0 = PS f i := by
  unfold rowP
  rw [List.getD_eq_getElem?_getD, List.getElem?_map, List.getElem?_range h]
  rfl
theorem PS_far {f : Int → Int} {v : Int} {l : Nat} (h : ∀ t : Int, (l : Int) ≤ t → f t = v) (d : Nat) : PS f (l + d) = PS f l + d * v := by
  induction d with
  | zero => simp
  | succ d ih =>
    show PS f (l + d) + f ((l + d : Nat) : Int) = _
    rw [ih, h _ (by omega), show ((d + 1 : Nat) : Int) = (d : Int) + 1 by omega, Int.add_mul, Int.one_mul]
    omega
theorem PS_congr {f g : Int → Int} {n : Nat} (h : ∀ t : Int, 0 ≤ t → t < n → f t = g t) : PS f n = PS g n := by
  induction n with
  | zero => rfl
  | succ n ih =>
    show PS f n + f n = PS g n + g n
    rw [ih fun t h1 h2 => h t h1 (by omega), h n (by omega) (by omega)]
theorem PS_sum {f : Int → Int} (a : Nat) : ∀ d : Nat, ((List.range d).map fun i : Nat => f ((a : Int) + i)).sum = PS f (a + d) - PS f a
  | 0 => by simp
  | d + 1 => by
    rw [List.range_succ, List.map_append, List.sum_append, PS_sum a d]
    show _ = PS f (a + d) + f ((a + d : Nat) : Int) - PS f a
    rw [show ((a + d : Nat) : Int) = (a : Int) + d by omega]
    simp
    omega
end VM

/-! Positional defaults beside keywords; a loop over a list or a tuple. -/
namespace VD
open PySem PySem.Spec PyProof.Rows L2
section
variable {K : PySem.W.Frag} {x qual : Str} {params : Arguments} {body : List Stmt} {scope : Scope} {dvs : List V} {f : Addr} {fd : FuncData} {ps : List Str}
/-- f(e, .., k = v, ..) of a def with positional defaults alone: n positional values, keywords named ks -/
theorem kbinds1 (F : FunD K x qual params body scope dvs [] f fd) (n : Nat) (ks : List Str) (g : {α : Type} → List α → List α → List α → List α) (hd : dvs ≠ [])
    (hrel : ∀ {vs ds zs : List V} {us its ws : List Value}, Vals vs us → Vals ds its → Vals zs ws → Vals (g vs ds zs) (g us its ws))
    (h : ∀ (T : Addr) (kV doc pm : Value) (an : Option Addr) (cdv ct : Value) (us its ws : List Value), us.length = n → its.length = dvs.length → ws.length = ks.length →
      ∃ k, bindArgs (PySem.W.fnOf x qual params body scope (.ref T) kV doc pm an cdv ct) ⟨us, ks.zip ws⟩ = seqItems? (.ref T) >>= k ∧ k (some its.toArray) = pure (ps.zip (g us its ws))) :
    ∃ its : List Value, KBn K fd ps n ks (fun us ws => g us its ws) (fun vs zs => g vs dvs zs) := by
  obtain ⟨oc, od, dV, kV, doc, pm, an, cdv, ct, osl, rfl, lk, hcd, hD, hK⟩ := F.ex
  rcases hD with ⟨e, _⟩ | ⟨_, T, o, its, m, rfl, lT, oT, rT⟩
  · exact absurd e hd
  · refine ⟨its, ⟨fun s us ws X l1 l2 => ?_, fun r1 r2 => hrel r1 rT r2⟩⟩
    obtain ⟨k, e1, e2⟩ := h T kV doc pm an cdv ct us its ws l1 rT.length.symm l2
    refine BindsTo.of_looks fun M => ?_
    rw [e1]
    exact looks_items X lT oT (.of_pure e2)
end
/-- one way to go round, or another -/
theorem pi_or {X : Cx} {tg it : Expr} {t1 t2 : TI} (p : PI X tg it t1) (q : PI X tg it t2) : PI X tg it (fun σ H R => t1 σ H R ∨ t2 σ H R) :=
  ⟨fun pins s σ H R I h => h.elim (p.run pins s σ H R I) (q.run pins s σ H R I)⟩
theorem op_or {X : Cx} {o : Value → Value → Sem Value} {r1 r2 : R2} (p : OpR X o r1) (q : OpR X o r2) : OpR X o (fun x y H Q => r1 x y H Q ∨ r2 x y H Q) := by
  intro pins s σ H x y v u Q I rx ry h
  exact h.elim (p pins s σ H x y v u Q I rx ry) (q pins s σ H x y v u Q I rx ry)
theorem Same.seqT {K : PySem.W.Frag} {H H' : Hp} {a : Addr} {xs : List V} (e : Same H H') (h : SqT K H a xs) : SqT K H' a xs := by
  rcases h with (h | ⟨o, h⟩) | h
  · exact .inl (.inl (e _ _ h))
  · exact .inl (.inr ⟨o, e _ _ h⟩)
  · exact .inr h
/-- a list or a tuple -/
def SqB (K : PySem.W.Frag) (H : Hp) (a : Addr) (xs : List V) : Prop := SqL K H a xs ∨ SqT K H a xs
theorem SqB.same {K : PySem.W.Frag} {H H' : Hp} {a : Addr} {xs : List V} (h : SqB K H a xs) (e : Same H H') : SqB K H' a xs := h.imp e.seq (Same.seqT e)
theorem tfor_sq {K : PySem.W.Frag} {tl : TE} {g : TG} {tb : TS} {D : Ends} {σ : L2.St} {H0 H : Hp} {a : Addr} {xs : List V} (hq : SqB K H0 a xs) (s0 : Same H0 H) (he : ∀ Q : VK, Q (.ref a) H → tl σ H Q)
    (Pv : Nat → L2.St → Hp → Prop) (h0 : Pv 0 σ H) (hsame : ∀ i σ H', Pv i σ H' → Same H0 H')
    (hs : ∀ i x σ H, xs[i]? = some x → Pv i σ H → g x σ H fun σ2 H2 => tb { D with nx := Pv (i + 1), ct := Pv (i + 1), bk := D.nx } σ2 H2) (hd : ∀ σ H, Pv xs.length σ H → D.nx σ H) :
    tFor (fun σ H R => iList K tl σ H R ∨ iTup K tl σ H R) g tb D σ H := by
  rcases hq with h | h
  · exact .inl (he _ ⟨a, rfl, ⟨xs, s0.seq h⟩, for_list Pv h0 (fun i σ H' _ p => (hsame i σ H' p).seq h) hs hd⟩)
  · exact .inr (he _ ⟨a, rfl, ⟨xs, Same.seqT s0 h⟩, for_tup Pv h0 (fun i σ H' _ p => Same.seqT (hsame i σ H' p) h) hs hd⟩)
theorem tfor_en {K : PySem.W.Frag} {tl : TE} {g : TG} {tb : TS} {D : Ends} {σ : L2.St} {H0 H : Hp} {a : Addr} {xs : List V} (hq : SqB K H0 a xs) (s0 : Same H0 H) (he : ∀ Q : VK, Q (.ref a) H → tl σ H Q)
    (Pv : Nat → L2.St → Hp → Prop) (h0 : Pv 0 σ H) (hsame : ∀ i σ H', Pv i σ H' → Same H0 H')
    (hs : ∀ i y σ H T H', xs[i]? = some y → Pv i σ H → H T = none → H' = upd H T (.tup [.int (i : Nat), y]) → g (.ref T) σ H' fun σ2 H2 => tb { D with nx := Pv (i + 1), ct := Pv (i + 1), bk := D.nx } σ2 H2) (hd : ∀ σ H, Pv xs.length σ H → D.nx σ H) :
    tFor (fun σ H R => iEnum K (tCons tl tNil) σ H R ∨ VE.iEnumT K (tCons tl tNil) 0 σ H R) g tb D σ H := by
  rcases hq with h | h
  · exact .inl (he _ ⟨a, xs, rfl, s0.seq h, for_it (walk_enum (K := K) (a := a) (xs := xs)) Pv h0 (fun i σ H' _ p => (hsame i σ H' p).seq h) (fun i x σ H H' hi p ⟨T, u, v, e1, hT, e2, ea, eb⟩ => by
      cases ea
      subst e1
      exact hs i v σ H T H' eb p hT e2) hd⟩)
  · exact .inr (he _ ⟨a, xs, rfl, Same.seqT s0 h, for_it (VE.walk_enumT (K := K) (a := a) (xs := xs) (k := 0)) Pv h0 (fun i σ H' _ p => Same.seqT (hsame i σ H' p) h) (fun i x σ H H' hi p ⟨T, u, v, e1, hT, e2, ea, eb⟩ => by
      cases ea
      subst e1
      rw [Int.zero_add] at e2
      exact hs i v σ H T H' eb p hT e2) hd⟩)

def tMethKw0 (C : Addr) (m : Str) (j : Nat) (sp : Sp) (gV : List V → List V → List V) (E : XK) (ta : TE) (tk : TA) : TE := fun σ H Q =>
  ta σ H fun x H1 => ∃ a dx fs, x = .ref a ∧ H1 a = some (.ins C dx fs) ∧ fs.lookup m = none ∧ tk σ H1 fun zs H3 => zs.length = j ∧ sp (gV [x] zs) H3 Q E
theorem pe_methKw0 {X : Cx} {CX : CXT} {k : Nat} {f C : Addr} {fd : FuncData} {ps ks : List Str} {sp : Sp} {E : XK} {m : Str} {pos apos : Pos} {o : Expr} {kws : List Keyword} {ta : TE} {tk : TA}
    {g : List Value → List Value → List Value} {gV : List V → List V → List V} {pl : Sem Bool}
    (he : PE X o ta) (c : Cls X.K C) (hm : Meth X.K C m f) (F : FnOk X.prog X.w X.K X.mg X.base CX k f fd ps sp) (hr : Room k X.A)
    (hb : KBn X.K fd ps 1 ks g gV) (hx : Passes CX X E) (hkw : PK X kws tk)
    (hall : (backToKw pos (keywordEach kws X.env)).all (·.1.isSome) = true := by rfl) (hks : (backToKw pos (keywordEach kws X.env)).filterMap (·.1) = ks := by rfl)
    (hpl : ((backTo pos (starEach [] X.env)).any (·.1) || (backToKw pos (keywordEach kws X.env)).any (·.1.isNone)) = false := by rfl)
    (ht : eval (.Call (.Attribute o m apos) [] kws pos) X.env = (do
      let ov ← eval o X.env
      standAt apos.atName
      let (f, first) ← holding [ov] (getMethod ov m pl)
      callWith pos f first (backTo pos (starEach [] X.env)) (backToKw pos (keywordEach kws X.env))) := by rfl) :
    PE X (.Call (.Attribute o m apos) [] kws pos) (tMethKw0 C m ks.length sp gV E ta tk) := by
  constructor
  intro pins s σ H Q I h
  refine PySem.W.methodCall_KW (pl := pl) (thn (he.run pins s σ H _ I h) ?_) ht
  rintro u s1 ⟨x, H1, I1, rx, a, dx, fs, ex, ea, l, q⟩
  subst ex
  obtain rfl : u = Value.ref a := rx
  refine getmeth_ok I1 ea c hm l ?_
  refine PySem.W.callWith_KW0 (first := [.ref a]) (h₀ := X.base) I1.ok.mod.kin hm.kp hall ?_ hpl
  refine thn (hkw.run pos pins s1 σ H1 _ I1 q) ?_
  rintro ws s3 ⟨zs, H3, I3, rz, l2, q3⟩
  refine ⟨I3.kIn, ?_⟩
  rw [hks]
  have r1 : Vals [V.ref a] [Value.ref a] := .cons rfl .nil
  have rel := hb.rel r1 rz
  have bind := hb.to s3 [Value.ref a] ws I3.kIn rfl (rz.length.symm.trans l2)
  show wpAny _ _ (call (.ref f) [Value.ref a] (ks.zip ws)) _ _ _
  refine wpAny_call (codeAny_mono (F.run X.A X.stack s3 H3 ⟨[Value.ref a], ks.zip ws⟩ _ _ Q E hr I3.env0 bind rel q3) ?_)
  intro res s' hq
  match res, hq with
  | .error e, hq => exact hx pins σ H3 s3 e s' I3 hq
  | .ok (.ret u), hq => exact I3.after hq
  | .ok .next, hq => exact False.elim hq
  | .ok .brk, hq => exact False.elim hq
  | .ok .cont, hq => exact False.elim hq
end VD

/-! repr of data with dicts in it. -/
namespace VQ
open PySem PySem.Spec PyProof.Rows L2
def kD : Key → PyData
  | .inl i => .int i
  | .inr x => .str x
mutual
inductive Dm (K : PySem.W.Frag) (H : Hp) : V → PyData → Prop
  | flat {v : V} {d : PyData} : Dp K H v d → Dm K H v d
  | lst {a : Addr} {xs : List V} {ds : List PyData} : SqL K H a xs → DmAll K H xs ds → Dm K H (.ref a) (.list ds)
  | tup {a : Addr} {xs : List V} {ds : List PyData} : SqT K H a xs → DmAll K H xs ds → Dm K H (.ref a) (.tuple ds)
  | dct {a : Addr} {kvs : List (Key × V)} {ds : List PyData} : H a = some (.dK kvs) → DmAll K H (kvs.map (·.2)) ds → Dm K H (.ref a) (.dict ((kvs.map fun e => kD e.1).zip ds))
inductive DmAll (K : PySem.W.Frag) (H : Hp) : List V → List PyData → Prop
  | nil : DmAll K H [] []
  | cons {v : V} {vs : List V} {d : PyData} {ds : List PyData} : Dm K H v d → DmAll K H vs ds → DmAll K H (v :: vs) (d :: ds)
end
theorem DmAll.length {K : PySem.W.Frag} {H : Hp} : ∀ {vs : List V} {ds : List PyData}, DmAll K H vs ds → vs.length = ds.length
  | _, _, .nil => rfl
  | _, _, .cons _ h => by simp [h.length]
section
variable {X : Cx} {pins : List (Addr × Obj)} {σ : L2.St} {H : Hp} {s : Shared}
/-- what a thing shows, one level below -/
def Sh (P : Program) (w : World) (h : Heap) (u : Value) (d : PyData) : Prop :=
  (∃ as, Reads h u d as) ∧ (d.showable = true → d.shown.length ≤ sizeLine → ∃ bs, ReadAtMost h d.depth bs ∧ ReprK P w bs h d.depth u d.shown)
def ShAll (P : Program) (w : World) (h : Heap) (us : List Value) (ds : List PyData) : Prop :=
  (∃ as, ReadsAll h us ds as) ∧ (PyData.showableAll ds = true → (∀ t ∈ PyData.shownAll ds, t.length ≤ sizeLine) → ∃ bs, ReadAtMost h (PyData.depthAll ds) bs ∧ ReprAllK P w bs h (PyData.depthAll ds) us (PyData.shownAll ds))
theorem ShAll.nil {P : Program} {w : World} {h : Heap} : ShAll P w h [] [] :=
  ⟨⟨_, .nil⟩, fun _ _ => ⟨[], (fun _ h => nomatch h), by simp only [PyData.shownAll]; exact .nil⟩⟩
theorem ShAll.cons {P : Program} {w : World} {h : Heap} {u : Value} {us : List Value} {d : PyData} {ds : List PyData} (a : Sh P w h u d) (b : ShAll P w h us ds) : ShAll P w h (u :: us) (d :: ds) := by
  obtain ⟨⟨as, ra⟩, fa⟩ := a
  obtain ⟨⟨bs, rb⟩, fb⟩ := b
  refine ⟨⟨_, .cons ra rb⟩, fun hs hz => ?_⟩
  have hs' : d.showable = true ∧ PyData.showableAll ds = true := by simpa [PyData.showableAll] using hs
  obtain ⟨b1, m1, k1⟩ := fa hs'.1 (hz _ (by simp only [PyData.shownAll]; exact List.mem_cons_self ..))
  obtain ⟨b2, m2, k2⟩ := fb hs'.2 (fun t ht => hz t (by simp only [PyData.shownAll]; exact List.mem_cons_of_mem _ ht))
  have l1 : d.depth ≤ PyData.depthAll (d :: ds) := by simp only [PyData.depthAll]; omega
  have l2 : PyData.depthAll ds ≤ PyData.depthAll (d :: ds) := by simp only [PyData.depthAll]; omega
  refine ⟨b1 ++ b2, (m1.mono l1).append (m2.mono l2), ?_⟩
  have q1 : ReprK P w (b1 ++ b2) h (PyData.depthAll (d :: ds)) u d.shown := (k1.more fun b hb => List.mem_append_left _ hb).level_le l1
  have q2 : ReprAllK P w (b1 ++ b2) h (PyData.depthAll (d :: ds)) us (PyData.shownAll ds) := k2.more_le (fun b hb => List.mem_append_right _ hb) l2
  rw [show PyData.shownAll (d :: ds) = d.shown :: PyData.shownAll ds by simp only [PyData.shownAll]]
  exact .cons q1 q2
/-- the list, the tuple, the dict: what its repr needs -/
theorem list_parts {P : Program} {w : World} {h : Heap} {us : List Value} {ds : List PyData} {a : Addr} {o : Obj} {n : Nat} (h1 : h.get? a = some o) (h2 : o.cls = .type "list") (h3 : o.data = .seq us.toArray n) (b : ShAll P w h us ds)
    (hs : (PyData.list ds).showable = true) (hz : (PyData.list ds).shown.length ≤ sizeLine) :
    ∃ bs, a ∉ bs ∧ ReadAtMost h (PyData.depthAll ds) bs ∧ ReprAllK P w bs h (PyData.depthAll ds) us (PyData.shownAll ds) := by
  have hz' : (listText (PyData.shownAll ds)).length ≤ sizeLine := by simpa only [PyData.shown] using hz
  obtain ⟨⟨as, ra⟩, f⟩ := b
  obtain ⟨bs, hb, hk⟩ := f (by simpa [PyData.showable] using hs) (fun t ht => Nat.le_trans (listText_mem_le ht) hz')
  exact ⟨bs, not_mem_of_deeper (Reads.list h1 h2 h3 (by simpa using ra)) (by simp only [PyData.depth]; omega) hb, hb, hk⟩
theorem tup_parts {P : Program} {w : World} {h : Heap} {us : List Value} {ds : List PyData} {a : Addr} {o : Obj} {n : Nat} (h1 : h.get? a = some o) (h2 : o.cls = .type "tuple") (h3 : o.data = .seq us.toArray n) (b : ShAll P w h us ds)
    (hs : (PyData.tuple ds).showable = true) (hz : (PyData.tuple ds).shown.length ≤ sizeLine) :
    ∃ bs, a ∉ bs ∧ ReadAtMost h (PyData.depthAll ds) bs ∧ ReprAllK P w bs h (PyData.depthAll ds) us (PyData.shownAll ds) := by
  have hz' : (tupleText (PyData.shownAll ds)).length ≤ sizeLine := by simpa only [PyData.shown] using hz
  obtain ⟨⟨as, ra⟩, f⟩ := b
  obtain ⟨bs, hb, hk⟩ := f (by simpa [PyData.showable] using hs) (fun t ht => Nat.le_trans (tupleText_mem_le ht) hz')
  exact ⟨bs, not_mem_of_deeper (Reads.tuple h1 h2 h3 (by simpa using ra)) (by simp only [PyData.depth]; omega) hb, hb, hk⟩
theorem dct_parts {P : Program} {w : World} {h : Heap} {es : Array DictEntry} {kvs : List (PyData × PyData)} {a : Addr} {o : Obj} {n : Nat} (h1 : h.get? a = some o) (h2 : o.cls = .type "dict") (h3 : o.data = .dict es n)
    (b : ShAll P w h (es.toList.map (·.key)) (kvs.map (·.1))) (c : ShAll P w h (es.toList.map (·.val)) (kvs.map (·.2))) (hs : (PyData.dict kvs).showable = true) (hz : (PyData.dict kvs).shown.length ≤ sizeLine) :
    ∃ bs, a ∉ bs ∧ ReadAtMost h (PyData.depthKv kvs) bs ∧ ReprEntriesK P w bs h (PyData.depthKv kvs) es.toList (PyData.shownKv kvs) := by
  have hz' : (dictText (PyData.shownKv kvs)).length ≤ sizeLine := by simpa only [PyData.shown] using hz
  obtain ⟨⟨as, ra⟩, f⟩ := b
  obtain ⟨⟨cs, rc⟩, g⟩ := c
  obtain ⟨s1, s2⟩ := PyData.showableKv_split kvs (by simpa [PyData.showable] using hs)
  obtain ⟨b1, m1, k1⟩ := f s1 (fun t ht => let ⟨p, hp, hl⟩ := PyData.shownKv_key_le kvs t ht; Nat.le_trans hl (Nat.le_trans (dictText_mem_le hp) hz'))
  obtain ⟨b2, m2, k2⟩ := g s2 (fun t ht => let ⟨p, hp, hl⟩ := PyData.shownKv_val_le kvs t ht; Nat.le_trans hl (Nat.le_trans (dictText_mem_le hp) hz'))
  have hb : ReadAtMost h (PyData.depthKv kvs) (b1 ++ b2) := (m1.mono (PyData.depthAll_keys_le kvs)).append (m2.mono (PyData.depthAll_vals_le kvs))
  refine ⟨b1 ++ b2, not_mem_of_deeper (Reads.dict h1 h2 h3 ra rc) (by simp only [PyData.depth]; omega) hb, hb, ?_⟩
  rw [PyData.shownKv_eq]
  exact ReprEntriesK.of_two es.toList _ _ (k1.more_le (fun b hb => List.mem_append_left _ hb) (PyData.depthAll_keys_le kvs)) (k2.more_le (fun b hb => List.mem_append_right _ hb) (PyData.depthAll_vals_le kvs))
theorem sh_list {P : Program} {w : World} {h : Heap} {us : List Value} {ds : List PyData} {a : Addr} {o : Obj} {n : Nat} (h1 : h.get? a = some o) (h2 : o.cls = .type "list") (h3 : o.data = .seq us.toArray n) (b : ShAll P w h us ds) : Sh P w h (.ref a) (.list ds) := by
  have r : ∃ as, Reads h (.ref a) (.list ds) as := by obtain ⟨⟨as, ra⟩, _⟩ := b; exact ⟨_, .list h1 h2 h3 (by simpa using ra)⟩
  refine ⟨r, fun hs hz => ?_⟩
  obtain ⟨as, r⟩ := r
  obtain ⟨bs, hna, hb, hk⟩ := list_parts h1 h2 h3 b hs hz
  refine ⟨a :: bs, ReadAtMost.cons r (by simp only [PyData.depth]; omega) hb, ?_⟩
  simp only [PyData.depth, PyData.shown]
  cases us with
  | nil =>
    have e : ds = [] := by cases ds with
      | nil => rfl
      | cons _ _ => have := hk.length_eq; simp [PyData.shownAll] at this
    subst e
    simp only [PyData.shownAll, listText_nil]
    exact ReprK.listEmpty h1 h2 h3
  | cons x l => exact ReprK.list h1 h2 h3 hna (by simpa using hk.length_eq) (fun i y e => hk.item i y (by simpa using e))
theorem sh_tup {P : Program} {w : World} {h : Heap} {us : List Value} {ds : List PyData} {a : Addr} {o : Obj} {n : Nat} (h1 : h.get? a = some o) (h2 : o.cls = .type "tuple") (h3 : o.data = .seq us.toArray n) (b : ShAll P w h us ds) : Sh P w h (.ref a) (.tuple ds) := by
  have r : ∃ as, Reads h (.ref a) (.tuple ds) as := by obtain ⟨⟨as, ra⟩, _⟩ := b; exact ⟨_, .tuple h1 h2 h3 (by simpa using ra)⟩
  refine ⟨r, fun hs hz => ?_⟩
  obtain ⟨as, r⟩ := r
  obtain ⟨bs, hna, hb, hk⟩ := tup_parts h1 h2 h3 b hs hz
  refine ⟨a :: bs, ReadAtMost.cons r (by simp only [PyData.depth]; omega) hb, ?_⟩
  simp only [PyData.depth, PyData.shown]
  exact ReprK.tuple h1 h2 h3 hna (by simpa using hk)
theorem sh_dct {P : Program} {w : World} {h : Heap} {es : Array DictEntry} {kvs : List (PyData × PyData)} {a : Addr} {o : Obj} {n : Nat} (h1 : h.get? a = some o) (h2 : o.cls = .type "dict") (h3 : o.data = .dict es n) (ns : (a == sysModules) = false)
    (b : ShAll P w h (es.toList.map (·.key)) (kvs.map (·.1))) (c : ShAll P w h (es.toList.map (·.val)) (kvs.map (·.2))) : Sh P w h (.ref a) (.dict kvs) := by
  have r : ∃ as, Reads h (.ref a) (.dict kvs) as := by obtain ⟨⟨_, ra⟩, _⟩ := b; obtain ⟨⟨_, rc⟩, _⟩ := c; exact ⟨_, .dict h1 h2 h3 ra rc⟩
  refine ⟨r, fun hs hz => ?_⟩
  obtain ⟨as, r⟩ := r
  obtain ⟨bs, hna, hb, hk⟩ := dct_parts h1 h2 h3 b c hs hz
  refine ⟨a :: bs, ReadAtMost.cons r (by simp only [PyData.depth]; omega) hb, ?_⟩
  simp only [PyData.depth, PyData.shown]
  exact ReprK.dict h1 h2 h3 ns hna hk
theorem sh_flat (I : Inv X pins σ H s) {v : V} {d : PyData} {u : Value} (h : Dp X.K H v d) (r : RelV v u) : Sh X.prog X.w s.heap u d := by
  obtain ⟨as, rd⟩ := Dp.reads I d v u h r
  have nd := (VG.dp_noDict X.K H).1 d v h
  exact ⟨⟨as, rd⟩, fun hs hz => ReprK.of_reads rd hs (fun e => by rw [nd] at e; cases e) hz⟩
theorem sh_keys {P : Program} {w : World} {h : Heap} : ∀ {es : List DictEntry} {vs : List (Key × Value)}, Pairs (mixKind P w) es vs → ShAll P w h (es.map (·.key)) (vs.map fun e => kD e.1)
  | _, _, .nil => .nil
  | _, _, .cons (e := e) (kv := kv) h1 _ t => by
    refine ShAll.cons ?_ (sh_keys t)
    rcases keyIs_shape (show keyIs kv.1 e.key = true from h1) with ⟨i, t, e1, e2⟩ | ⟨x, t, e1, e2⟩
    · show Sh P w h e.key (kD kv.1)
      rw [e1, e2]
      exact ⟨⟨_, Reads.int i t⟩, fun hs hz => ReprK.of_reads (Reads.int i t) hs (fun e => by cases e) hz⟩
    · show Sh P w h e.key (kD kv.1)
      rw [e1, e2]
      exact ⟨⟨_, Reads.str x t⟩, fun hs hz => ReprK.of_reads (Reads.str x t) hs (fun e => by cases e) hz⟩
theorem pairs_val {P : Program} {w : World} : ∀ {es : List DictEntry} {vs : List (Key × Value)}, Pairs (mixKind P w) es vs → es.map (·.val) = vs.map (·.2)
  | _, _, .nil => rfl
  | _, _, .cons _ h2 t => by rw [List.map_cons, List.map_cons, h2, pairs_val t]
theorem kv_keys : ∀ {kvs : List (Key × V)} {vs : List (Key × Value)}, KV kvs vs → kvs.map (fun e => kD e.1) = vs.map (fun e => kD e.1)
  | _, _, .nil => rfl
  | _, _, .cons h t => by rw [List.map_cons, List.map_cons, h.1, kv_keys t]
theorem kv_vals : ∀ {kvs : List (Key × V)} {vs : List (Key × Value)}, KV kvs vs → Vals (kvs.map (·.2)) (vs.map (·.2))
  | _, _, .nil => .nil
  | _, _, .cons h t => .cons h.2 (kv_vals t)
mutual
theorem Dm.sh (I : Inv X pins σ H s) : ∀ {v : V} {d : PyData} {u : Value}, Dm X.K H v d → RelV v u → Sh X.prog X.w s.heap u d
  | _, _, _, .flat h, r => sh_flat I h r
  | _, _, _, .lst hs ha, r => by
    cases r
    obtain ⟨its, rv, ⟨o, n, ho, hc, _, hd⟩, _⟩ := I.list hs
    exact sh_list ho hc hd (DmAll.sh I ha rv)
  | _, _, _, .tup hs ha, r => by
    cases r
    obtain ⟨its, rv, ⟨o, ho, hc, n, hd⟩, _⟩ := I.tuple hs
    exact sh_tup ho hc hd (DmAll.sh I ha rv)
  | _, _, _, .dct (kvs := kvs) (ds := ds) he ha, r => by
    cases r
    obtain ⟨_, ns, vs, kv, o, es, ep, e1, e2, e3, e4, e5, e6⟩ := (show ObjOk X.prog X.w H s.heap _ (.dK kvs) from I.hok _ _ he)
    have hl : (kvs.map (·.2)).length = ds.length := ha.length
    rw [List.length_map] at hl
    have z1 : ((kvs.map fun e => kD e.1).zip ds).map (·.1) = kvs.map fun e => kD e.1 := by
      rw [List.map_fst_zip]; rw [List.length_map]; omega
    have z2 : ((kvs.map fun e => kD e.1).zip ds).map (·.2) = ds := by
      rw [List.map_snd_zip]; rw [List.length_map]; omega
    refine sh_dct e1 e2.1 e3 ns ?_ ?_
    · rw [z1, kv_keys kv]; exact sh_keys e5
    · rw [z2, pairs_val e5]; exact DmAll.sh I ha (kv_vals kv)
theorem DmAll.sh (I : Inv X pins σ H s) : ∀ {vs : List V} {ds : List PyData} {us : List Value}, DmAll X.K H vs ds → Vals vs us → ShAll X.prog X.w s.heap us ds
  | _, _, _, .nil, r => by cases r; exact .nil
  | _, _, _, .cons h hs, r => by
    cases r with
    | cons r rs => exact .cons (Dm.sh I h r) (DmAll.sh I hs rs)
end
end
def rReprM (K : PySem.W.Frag) : List V → Hp → VK → Prop := fun xs H Q =>
  ∃ v d, xs = [v] ∧ Dm K H v d ∧ d.showable = true ∧ d.depth ≤ 60 ∧ d.shown.length ≤ sizeLine ∧ Q (.str d.shown) H
theorem call_reprM {X : Cx} (hg : X.A.guards = some []) (hu : X.A.units + 64 < cLine) : CallR X (.builtin "repr") (rReprM X.K) := by
  intro pins s σ H xs us Q I r h
  obtain ⟨v, d, rfl, hd, hs, hdep, hz, q⟩ := h
  have keep : ∀ (h' : Heap) (t' : Nat), (∀ b o, s.heap.get? b = some o → h'.get? b = some o) → Inv X pins σ H { s with heap := h', toks := t' } :=
    fun h' t' k => I.kept (t' := t') k
  cases hd with
  | flat hd => exact VG.call_repr hg hu pins s σ H _ us Q I r ⟨v, d, rfl, hd, hs, hdep, hz, q⟩
  | lst hl ha =>
    obtain ⟨u, rfl, rv⟩ := vals1 r
    cases rv
    rename_i a xs ds
    obtain ⟨its, rv, ⟨o, n, ho, hc, hp, hd⟩, _⟩ := I.list hl
    obtain ⟨bs, hna, hb, hk⟩ := list_parts ho hc hd (DmAll.sh I ha rv) hs hz
    refine call_repr_slot (by omega) (show s.TypeIs (.ref a) "list" from ⟨o, ho, hc⟩) F.slot_list_repr.toG ?_
    simp only [PyData.depth] at hdep
    simp only [PyData.shown] at q hz
    cases its with
    | nil =>
      have e : ds = [] := by cases ds with
        | nil => rfl
        | cons _ _ => have := hk.length_eq; simp [PyData.shownAll] at this
      subst e
      simp only [PyData.shownAll, listText_nil] at q
      exact call_list_repr_empty ⟨o, ho, hc⟩ ho hd ⟨_, _, rfl, .str _, H, keep s.heap _ fun _ _ e => e, ⟨_, rfl⟩, q⟩
    | cons x l => exact call_list_reprK ho hc hd hna (by simpa using hk.length_eq) (fun i y e => hk.item i y (by simpa using e)) hg (fun b _ => Clear.nil b) (by show X.A.units + 1 + _ < cLine; omega) (fun _ _ e => e) (fun h' u tk k => ⟨_, _, rfl, .str _, H, keep h' tk k, ⟨_, rfl⟩, q⟩) hz
  | tup hl ha =>
    obtain ⟨u, rfl, rv⟩ := vals1 r
    cases rv
    rename_i a xs ds
    obtain ⟨its, rv, ⟨o, ho, hc, n, hd⟩, _⟩ := I.tuple hl
    obtain ⟨bs, hna, hb, hk⟩ := tup_parts ho hc hd (DmAll.sh I ha rv) hs hz
    refine call_repr_slot (by omega) (show s.TypeIs (.ref a) "tuple" from ⟨o, ho, hc⟩) F.slot_tuple_repr ?_
    simp only [PyData.depth] at hdep
    simp only [PyData.shown] at q hz
    exact call_tuple_reprK ho hc hd hna (by simpa using hk) hg (fun b _ => Clear.nil b) (by show X.A.units + 1 + _ < cLine; omega) (fun _ _ e => e) (fun h' u tk k => ⟨_, _, rfl, .str _, H, keep h' tk k, ⟨_, rfl⟩, q⟩) hz
  | dct he ha =>
    obtain ⟨u, rfl, rv⟩ := vals1 r
    have sh := Dm.sh I (.dct he ha) rv
    cases rv
    rename_i a kvs ds
    obtain ⟨_, ns, vs, kv, o, es, ep, e1, e2, e3, e4, e5, e6⟩ := (show ObjOk X.prog X.w H s.heap _ (.dK kvs) from I.hok _ _ he)
    have hl : (kvs.map (·.2)).length = ds.length := ha.length
    rw [List.length_map] at hl
    have z1 : ((kvs.map fun e => kD e.1).zip ds).map (·.1) = kvs.map fun e => kD e.1 := by
      rw [List.map_fst_zip]; rw [List.length_map]; omega
    have z2 : ((kvs.map fun e => kD e.1).zip ds).map (·.2) = ds := by
      rw [List.map_snd_zip]; rw [List.length_map]; omega
    obtain ⟨bs, hna, hb, hk⟩ := dct_parts e1 e2.1 e3 (by rw [z1, kv_keys kv]; exact sh_keys e5) (by rw [z2, pairs_val e5]; exact DmAll.sh I ha (kv_vals kv)) hs hz
    refine call_repr_slot (by omega) (show s.TypeIs (.ref a) "dict" from ⟨o, e1, e2.1⟩) F.slot_dict_repr ?_
    simp only [PyData.depth] at hdep
    simp only [PyData.shown] at q hz
    exact call_dict_reprK e1 e2.1 e3 ns hna hk hg (fun b _ => Clear.nil b) (by show X.A.units + 1 + _ < cLine; omega) (fun _ _ e => e) (fun h' u tk k => ⟨_, _, rfl, .str _, H, keep h' tk k, ⟨_, rfl⟩, q⟩) hz
end VQ

/-! an int or a bool minus an int, and its minus; a list beside an empty one. -/
namespace VB
open PySem PySem.Spec PyProof.Rows L2
theorem sub_bi (a : Bool) (b : Int) (u : Tok) : Gives (Builtin.«int.__sub__» ⟨[.bool a, .int b u], []⟩) (.int ((if a = true then (1 : Int) else 0) - b)) :=
  .of_wp fun M A E s Q h => by obtain ⟨hp, g, d, tk, os⟩ := s; wp_walk; exact ⟨_, rfl, h⟩
theorem neg_b (a : Bool) : Gives (Builtin.«int.__neg__» ⟨[.bool a], []⟩) (.int (-(if a = true then (1 : Int) else 0))) :=
  .of_wp fun M A E s Q h => by obtain ⟨hp, g, d, tk, os⟩ := s; wp_walk; exact ⟨_, rfl, h⟩
/-- the int that an int or a bool is -/
def nI : V → Option Int
  | .int i => some i
  | .bl b => some (if b = true then 1 else 0)
  | _ => none
section
variable {X : Cx}
theorem op_subI : OpR X (binaryOp .Sub) (fun x y H Q => ∃ i j, nI x = some i ∧ y = .int j ∧ Q (.int (i - j)) H) := by
  intro pins s σ H x y v u Q I rx ry h
  obtain ⟨i, j, hx, rfl, q⟩ := h
  obtain ⟨t, rfl⟩ := ry
  cases x <;> try (cases hx; done)
  · rename_i b
    obtain rfl := Option.some.inj hx
    cases rx
    exact binaryOp_left_gives (op := .Sub) (T := "bool") (U := "int") (by decide) (PySem.typeIs_bool s b) (fun s' => PySem.typeIs_int s' j t) F.fills_bool_sub F.fills_int_sub F.sub_int_bool F.slot_bool_sub F.slot_int_rsub F.entry_int_sub (F.args_int_sub_2 _ _)
      (sub_bi b j t) trivial ⟨.int _, H, I.tok _, ⟨_, rfl⟩, q⟩
  · obtain rfl := Option.some.inj hx
    obtain ⟨t', rfl⟩ := rx
    exact P.sub_int ⟨.int _, H, I.tok _, ⟨_, rfl⟩, q⟩
theorem un_negI : UnR X (unaryOp .USub) (fun x H Q => ∃ i, nI x = some i ∧ Q (.int (-i)) H) := by
  intro pins s σ H x v Q I rx h
  obtain ⟨i, hx, q⟩ := h
  cases x <;> try (cases hx; done)
  · rename_i b
    obtain rfl := Option.some.inj hx
    cases rx
    exact unaryOp_gives (op := .USub) (PySem.typeIs_bool s b) rfl F.slot_bool_neg F.entry_int_neg (F.args_int_neg_1 _) (neg_b b) ⟨.int _, H, I.tok _, ⟨_, rfl⟩, q⟩
  · obtain rfl := Option.some.inj hx
    obtain ⟨t', rfl⟩ := rx
    exact P.neg_int ⟨.int _, H, I.tok _, ⟨_, rfl⟩, q⟩
/-- a list != [] -/
theorem op_neNil (hu : X.A.units + 64 < cLine) : OpR X (compareOp .NotEq) (fun x y H Q => ∃ a b xs, x = .ref a ∧ y = .ref b ∧ SqL X.K H a xs ∧ SqL X.K H b [] ∧ Q (.bl (decide (xs ≠ []))) H) := by
  intro pins s σ H x y v u Q I rx ry h
  obtain ⟨a, b, xs, rfl, rfl, ha, hb, q⟩ := h
  cases rx
  cases ry
  obtain ⟨us, r1, p1, _⟩ := I.list ha
  obtain ⟨ws, r2, p2, _⟩ := I.list hb
  cases r2
  have n1 := r1.length
  by_cases e : xs = []
  · subst e
    cases r1
    have k := SeqAt.RcNeAt.lists (A := X.A) (s := s) (e := fun _ => true) p1.isList p2.isList rfl (by omega) (fun j j1 j2 => absurd j1 (by simp))
    refine k _ _ _ _ ?_
    exact ⟨.bl _, H, I, rfl, q⟩
  · have k := SeqAt.RcNeAt.lists_lengths (A := X.A) (s := s) p1.isList p2.isList (by
      cases us with
      | nil => exact absurd (List.length_eq_zero_iff.mp (by rw [n1]; rfl)) e
      | cons _ _ => simp) (by omega)
    refine k _ _ _ _ ⟨.bl true, H, I, rfl, ?_⟩
    rw [decide_eq_true e] at q
    exact q
end
end VB

/-! A new instance whose __init__ may raise, made where errors are caught. -/
namespace VX
open PySem PySem.Spec PyProof.Rows L2
def tMakeKS (C : Addr) (n m : Nat) (sp : Sp) (gV : List V → List V → List V) (E : L2.St → XK) (t tk : TA) : TE := fun σ H Q => L2.tMakeK C n m sp gV (E σ) t tk σ H Q
section
variable {X : Cx} {CX : CXT} {k n : Nat} {f C : Addr} {fd : FuncData} {ps ks : List Str} {sp : Sp} {E : L2.St → XK} {x : Str} {p pos : Pos} {e : Expr} {es : List Expr} {kws : List Keyword} {t tk : TA} {g : List Value → List Value → List Value} {gV : List V → List V → List V}
theorem run_makeKS {pins : List (Addr × Obj)} {σ : L2.St} {H : Hp} {s : Shared} {Q : VK} {us ws : List Value} {vs zs : List V} {E : XK} (M : Mk X.K C f) (F : FnOk X.prog X.w X.K X.mg X.base CX k f fd ps sp) (hr : Room (k + 1) X.A) (hb : KBn X.K fd ps (n + 1) ks g gV)
    (hx : PassesAt CX X σ E) (I : Inv X pins σ H s) (r : Vals vs us) (rz : Vals zs ws) (l1 : vs.length = n) (l2 : zs.length = ks.length)
    (h : ∀ x dx, H x = none → H dx = none → dx ≠ x → sp (gV (.ref x :: vs) zs) (upd (upd H dx (.own x)) x (.ins C dx [])) (fun v H2 => v = .non ∧ Q (.ref x) H2) E) :
    wpAny (model X.prog X.w) X.A (call (.ref C) us (ks.zip ws)) (EP X pins σ Q) X.xe s := by
  have fr1 : H (s.heap.objs.size + 1) = none := I.hok.fresh (Nat.le_succ _)
  have fr0 : H s.heap.objs.size = none := I.hok.fresh (Nat.le_refl _)
  have goal := h (s.heap.objs.size + 1) s.heap.objs.size fr1 fr0 (Nat.ne_of_lt (Nat.lt_succ_self _))
  have J := Inv.made (C := C) I
  have ra : Vals (V.ref (s.heap.objs.size + 1) :: vs) (Value.ref (s.heap.objs.size + 1) :: us) := .cons rfl r
  have n1 : (Value.ref (s.heap.objs.size + 1) :: us).length = n + 1 := by rw [List.length_cons, ← r.length, l1]
  have run := F.run _ X.stack _ _ ⟨Value.ref (s.heap.objs.size + 1) :: us, ks.zip ws⟩ _ _ _ E (hr.make C us (ks.zip ws)) (J.env0.make C us (ks.zip ws)) (hb.to _ _ ws J.kIn n1 (rz.length.symm.trans l2)) (hb.rel ra rz) goal
  refine wpAny_call (make_map (f := f) I.kIn M.makes M.init (beq_iff_eq.mp M.fn) (codeAny_mono run fun r s' hq' => ?_))
  match r, hq' with
  | .error e, hq' => exact hx pins _ _ e s' J hq'
  | .ok (.ret u), hq' =>
    obtain ⟨v, H', I3, rv, ev, q3⟩ := J.after hq'
    subst ev
    exact ⟨rv, ⟨V.ref (s.heap.objs.size + 1), H', I3, rfl, q3⟩⟩
  | .ok .next, hq' => exact False.elim hq'
  | .ok .brk, hq' => exact False.elim hq'
  | .ok .cont, hq' => exact False.elim hq'
theorem pe_makeKS (M : Mk X.K C f) (F : FnOk X.prog X.w X.K X.mg X.base CX k f fd ps sp) (hr : Room (k + 1) X.A) (hg : Gl X x) (hm : X.mg x = some (.ref C)) (hb : KBn X.K fd ps (n + 1) ks g gV) (hx : ∀ σ, PassesAt CX X σ (E σ)) (ha : PA X (e :: es) t) (hkw : PK X kws tk)
    (hall : (backToKw pos (keywordEach kws X.env)).all (·.1.isSome) = true := by rfl) (hks : (backToKw pos (keywordEach kws X.env)).filterMap (·.1) = ks := by rfl) (hdb : (x == ("__debug__" : Str)) = false := by decide)
    (he : starEach (e :: es) X.env = (false, eval e X.env) :: starEach es X.env := by rfl) (hpl : ((backTo pos (starEach (e :: es) X.env)).any (·.1) || (backToKw pos (keywordEach kws X.env)).any (·.1.isNone)) = false := by rfl) :
    PE X (.Call (.Name x p) (e :: es) kws pos) (tMakeKS C n ks.length sp gV E t tk) := by
  refine ⟨fun pins s σ H Q I h => ?_⟩
  refine wpAny_Call_Name_kw (ld_glob I hg hm ?_ hdb)
  refine PySem.W.callWith_KW (h₀ := X.base) I.ok.mod.kin M.kp hall (thn (ha.run pos pins s σ H _ I h) fun us s1 ⟨vs, H1, I1, r, q⟩ => ?_) hpl he
  refine thn (hkw.run pos pins s1 σ H1 _ I1 q) fun ws s2 ⟨zs, H2, I2, rz, l1, l2, q2⟩ => ⟨I2.kIn, ?_⟩
  rw [hks]
  exact run_makeKS M F hr hb (hx σ) I2 r rz l1 l2 q2
end
end VX
namespace L2
open PySem PySem.Spec PyProof.Rows
/-- a def with defaults that may raise -/
theorem FunD.okX {P : Program} {w : World} {K : PySem.W.Frag} {mg : Str → Option Value} {base : Heap} {x qual : Str} {params : Arguments} {body : List Stmt} {scope : Scope} {dvs : List V} {kws : List (Str × V)} {f : Addr} {fd : FuncData} {N ps : List Str} {k : Nat} {sp : Sp}
    (F : FunD K x qual params body scope dvs kws f fd) (S : FnScope N ps scope) (len : ∀ vs H Q E, sp vs H Q E → vs.length = ps.length)
    (hbody : ∀ (cdv : Value) (A : Around) (outer : List Env) (s : Shared) (H : Hp) (vs : List V) (Q : VK) (E : XK), Room k (A.deeper (envOfC qual scope s.heap.objs.size f cdv)) → sp vs H Q E →
      ∃ t, PSs (cxOf (L2.CX P w) P w K mg base N qual scope f cdv A outer s H E) body t ∧ t { nx := fun _ H' => Q .non H', rt := Q } (start N vs) H) : FnOk P w K mg base (L2.CX P w) (k + 1) f fd ps sp :=
  F.ok S len hbody
end L2

namespace VK
open PySem PySem.Spec PyProof.Rows L2 VM
def top (i : Nat) : Stmt := PySem.Challenge.pw_dueways_k12_invalid_curves_in_sequence.main.body.getD i (.Pass ⟨0, 0, 0, 0⟩)
abbrev s_InvalidCurve_init : Stmt := inClass (top 4) 0
theorem sc_InvalidCurve_init : FnScope ["self", "problem", "position"] ["self", "problem", "position"] (defScope s_InvalidCurve_init) := ⟨rfl, rfl, rfl, by decide +kernel, rfl, by decide +kernel, by decide +kernel⟩
abbrev s_is_integer : Stmt := top 12
theorem sc_is_integer : FnScope ["value"] ["value"] (defScope s_is_integer) := ⟨rfl, rfl, rfl, by decide +kernel, rfl, by decide +kernel, by decide +kernel⟩
abbrev s_is_count : Stmt := top 13
theorem sc_is_count : FnScope ["value"] ["value"] (defScope s_is_count) := ⟨rfl, rfl, rfl, by decide +kernel, rfl, by decide +kernel, by decide +kernel⟩
abbrev s_is_count_to : Stmt := top 14
theorem sc_is_count_to : FnScope ["value", "most"] ["value", "most"] (defScope s_is_count_to) := ⟨rfl, rfl, rfl, by decide +kernel, rfl, by decide +kernel, by decide +kernel⟩
abbrev s_rounded_up : Stmt := top 15
theorem sc_rounded_up : FnScope ["units", "parts"] ["units", "parts"] (defScope s_rounded_up) := ⟨rfl, rfl, rfl, by decide +kernel, rfl, by decide +kernel, by decide +kernel⟩
abbrev s_value_at : Stmt := top 17
theorem sc_value_at : FnScope ["values", "period", "gain", "length", "rounds"] ["values", "period", "gain", "length"] (defScope s_value_at) := ⟨rfl, rfl, rfl, by decide +kernel, rfl, by decide +kernel, by decide +kernel⟩
abbrev s_least_form : Stmt := top 18
theorem sc_least_form : FnScope ["values", "period", "gain", "many", "row", "least", "step", "length"] ["values", "period", "gain"] (defScope s_least_form) := ⟨rfl, rfl, rfl, by decide +kernel, rfl, by decide +kernel, by decide +kernel⟩
abbrev s_least_period : Stmt := top 19
theorem sc_least_period : FnScope ["row", "many", "period", "least", "steps", "length"] ["row", "many", "period"] (defScope s_least_period) := ⟨rfl, rfl, rfl, by decide +kernel, rfl, by decide +kernel, by decide +kernel⟩
abbrev s_C_init : Stmt := inClass (top 24) 0
theorem sc_C_init : FnScope ["self", "values", "period", "gain", "wrong", "form", "least", "step"] ["self", "values", "period", "gain"] (defScope s_C_init) := ⟨rfl, rfl, rfl, by decide +kernel, rfl, by decide +kernel, by decide +kernel⟩
abbrev s_find_problem : Stmt := top 26
theorem sc_find_problem : FnScope ["values", "period", "gain", "before", "position", "value"] ["values", "period", "gain"] (defScope s_find_problem) := ⟨rfl, rfl, rfl, by decide +kernel, rfl, by decide +kernel, by decide +kernel⟩
abbrev s_l_rng : Stmt := top 30
theorem sc_l_rng : FnScope ["_law_script", "_law_k", "_law_cell"] ["_law_script", "_law_k"] (defScope s_l_rng) := ⟨rfl, rfl, rfl, by decide +kernel, rfl, by decide +kernel, by decide +kernel⟩
abbrev s_l_draw : Stmt := top 31
theorem sc_l_draw : FnScope ["_law_rng_here", "_law_many", "_law_digit"] ["_law_rng_here", "_law_many"] (defScope s_l_draw) := ⟨rfl, rfl, rfl, by decide +kernel, rfl, by decide +kernel, by decide +kernel⟩
abbrev s_l_choice : Stmt := top 32
theorem sc_l_choice : FnScope ["_law_rng_here", "_law_some"] ["_law_rng_here", "_law_some"] (defScope s_l_choice) := ⟨rfl, rfl, rfl, by decide +kernel, rfl, by decide +kernel, by decide +kernel⟩
abbrev s_l_written : Stmt := top 33
theorem sc_l_written : FnScope ["_law_rng_here", "_law_many", "_law_told_here", "_law_k", "_law_cycle", "_law_low"] ["_law_rng_here"] (defScope s_l_written) := ⟨rfl, rfl, rfl, by decide +kernel, rfl, by decide +kernel, by decide +kernel⟩
abbrev s_l_odd_value : Stmt := top 34
theorem sc_l_odd_value : FnScope ["_law_rng_here", "_law_before", "_law_known", "_law_some"] ["_law_rng_here", "_law_before"] (defScope s_l_odd_value) := ⟨rfl, rfl, rfl, by decide +kernel, rfl, by decide +kernel, by decide +kernel⟩
abbrev s_l_spoilt : Stmt := top 35
theorem sc_l_spoilt : FnScope ["_law_rng_here", "_law_row", "_law_way", "_law_told_here", "_law_at", "_law_k"] ["_law_rng_here", "_law_row"] (defScope s_l_spoilt) := ⟨rfl, rfl, rfl, by decide +kernel, rfl, by decide +kernel, by decide +kernel⟩
abbrev s_l_is_count : Stmt := top 36
theorem sc_l_is_count : FnScope ["_law_thing"] ["_law_thing"] (defScope s_l_is_count) := ⟨rfl, rfl, rfl, by decide +kernel, rfl, by decide +kernel, by decide +kernel⟩
abbrev s_l_due : Stmt := top 37
theorem sc_l_due : FnScope ["_law_row", "_law_told_here", "_law_cycle", "_law_more", "_law_before", "_law_at", "_law_one", "_law_k"] ["_law_row"] (defScope s_l_due) := ⟨rfl, rfl, rfl, by decide +kernel, rfl, by decide +kernel, by decide +kernel⟩
abbrev s_l_told : Stmt := top 38
theorem sc_l_told : FnScope ["_law_row", "_law_found", "e", "_law_others"] ["_law_row"] (defScope s_l_told) := ⟨rfl, rfl, rfl, by decide +kernel, rfl, by decide +kernel, by decide +kernel⟩
abbrev s_l_right : Stmt := top 39
theorem sc_l_right : FnScope ["_law_rng_here", "_law_row", "_law_turn", "_law_due_here", "_law_shown"] ["_law_rng_here"] (defScope s_l_right) := ⟨rfl, rfl, rfl, by decide +kernel, rfl, by decide +kernel, by decide +kernel⟩
abbrev s_law : Stmt := top 40
theorem sc_law : FnScope ["_law_script", "_law_k", "_law_rng_here", "_law_some", "_law_turn", "_law_row"] ["_law_script"] (defScope s_law) := ⟨rfl, rfl, rfl, by decide +kernel, rfl, by decide +kernel, by decide +kernel⟩
structure Ad where
  InvalidCurve : Addr
  DueError : Addr
  InvalidCount : Addr
  InvalidLength : Addr
  InvalidPiece : Addr
  InvalidRecord : Addr
  NotGood : Addr
  TooLong : Addr
  f_InvalidCurve_init : Addr
  d_InvalidCurve_init : FuncData
  f_is_integer : Addr
  d_is_integer : FuncData
  f_is_count : Addr
  d_is_count : FuncData
  f_is_count_to : Addr
  d_is_count_to : FuncData
  f_rounded_up : Addr
  d_rounded_up : FuncData
  f_value_at : Addr
  d_value_at : FuncData
  f_least_form : Addr
  d_least_form : FuncData
  f_least_period : Addr
  d_least_period : FuncData
  f_C_init : Addr
  d_C_init : FuncData
  f_find_problem : Addr
  d_find_problem : FuncData
  f_l_rng : Addr
  d_l_rng : FuncData
  f_l_draw : Addr
  d_l_draw : FuncData
  f_l_choice : Addr
  d_l_choice : FuncData
  f_l_written : Addr
  d_l_written : FuncData
  f_l_odd_value : Addr
  d_l_odd_value : FuncData
  f_l_spoilt : Addr
  d_l_spoilt : FuncData
  f_l_is_count : Addr
  d_l_is_count : FuncData
  f_l_due : Addr
  d_l_due : FuncData
  f_l_told : Addr
  d_l_told : FuncData
  f_l_right : Addr
  d_l_right : FuncData
  f_law : Addr
  d_law : FuncData
  Curve : Addr
  t_MAX_VALUES : Tok
  t_MAX_VALUE : Tok
  a_PERIODS : Addr
structure Txt (K : PySem.W.Frag) (mg : Str → Option Value) (A : Ad) : Prop where
  m_DueError : mg "DueError" = some (.ref A.DueError)
  m_InvalidCount : mg "InvalidCount" = some (.ref A.InvalidCount)
  m_InvalidLength : mg "InvalidLength" = some (.ref A.InvalidLength)
  m_InvalidPiece : mg "InvalidPiece" = some (.ref A.InvalidPiece)
  m_InvalidRecord : mg "InvalidRecord" = some (.ref A.InvalidRecord)
  m_NotGood : mg "NotGood" = some (.ref A.NotGood)
  m_TooLong : mg "TooLong" = some (.ref A.TooLong)
  m_InvalidCurve : mg "InvalidCurve" = some (.ref A.InvalidCurve)
  O_InvalidCurve : VX.Own K A.InvalidCurve
  xf_InvalidCurve : XfC K A.InvalidCurve
  as_InvalidCurve : VX.Asked K A.InvalidCurve
  ex_InvalidCurve : PySem.W.exmOne K (.ref A.InvalidCurve) (.ref A.InvalidCurve) = some true
  iC_InvalidCurve : PySem.W.findIn K (.ref A.InvalidCurve) "__init__" = some (some (.ref A.f_InvalidCurve_init))
  tI_InvalidCurve : PySem.W.typeIn K (.ref A.f_InvalidCurve_init) = some (.type "function")
  n_InvalidCurve_problem : PySem.W.findIn K (.ref A.InvalidCurve) "problem" = some none
  n_InvalidCurve_position : PySem.W.findIn K (.ref A.InvalidCurve) "position" = some none
  kt_InvalidCurve_DueError : PySem.W.kitOne K (.ref A.InvalidCurve) (.ref A.DueError) = some true
  kt_InvalidCurve_ValueError : PySem.W.kitOne K (.ref A.InvalidCurve) (.type "ValueError") = some true
  kt_InvalidCurve_InvalidCount_InvalidLength_InvalidPiece_InvalidRecord_NotGood_TooLong : PySem.W.kitAny K (.ref A.InvalidCurve) [.ref A.InvalidCount, .ref A.InvalidLength, .ref A.InvalidPiece, .ref A.InvalidRecord, .ref A.NotGood, .ref A.TooLong] = some false
  F_InvalidCurve_init : Fun K "__init__" "InvalidCurve.__init__" s_InvalidCurve_init A.f_InvalidCurve_init A.d_InvalidCurve_init
  b_InvalidCurve_init : Binds K A.d_InvalidCurve_init ["self", "problem", "position"] []
  F_is_integer : Fun K "is_integer" "is_integer" s_is_integer A.f_is_integer A.d_is_integer
  m_is_integer : mg "is_integer" = some (.ref A.f_is_integer)
  k_is_integer : PySem.W.keepIn K (.ref A.f_is_integer) = true
  b_is_integer : Binds K A.d_is_integer ["value"] []
  F_is_count : Fun K "is_count" "is_count" s_is_count A.f_is_count A.d_is_count
  m_is_count : mg "is_count" = some (.ref A.f_is_count)
  k_is_count : PySem.W.keepIn K (.ref A.f_is_count) = true
  b_is_count : Binds K A.d_is_count ["value"] []
  F_is_count_to : Fun K "is_count_to" "is_count_to" s_is_count_to A.f_is_count_to A.d_is_count_to
  m_is_count_to : mg "is_count_to" = some (.ref A.f_is_count_to)
  k_is_count_to : PySem.W.keepIn K (.ref A.f_is_count_to) = true
  b_is_count_to : Binds K A.d_is_count_to ["value", "most"] []
  F_rounded_up : Fun K "rounded_up" "rounded_up" s_rounded_up A.f_rounded_up A.d_rounded_up
  m_rounded_up : mg "rounded_up" = some (.ref A.f_rounded_up)
  k_rounded_up : PySem.W.keepIn K (.ref A.f_rounded_up) = true
  b_rounded_up : Binds K A.d_rounded_up ["units", "parts"] []
  F_value_at : Fun K "value_at" "value_at" s_value_at A.f_value_at A.d_value_at
  m_value_at : mg "value_at" = some (.ref A.f_value_at)
  k_value_at : PySem.W.keepIn K (.ref A.f_value_at) = true
  b_value_at : Binds K A.d_value_at ["values", "period", "gain", "length"] []
  F_least_form : Fun K "least_form" "least_form" s_least_form A.f_least_form A.d_least_form
  m_least_form : mg "least_form" = some (.ref A.f_least_form)
  k_least_form : PySem.W.keepIn K (.ref A.f_least_form) = true
  b_least_form : Binds K A.d_least_form ["values", "period", "gain"] []
  F_least_period : Fun K "least_period" "least_period" s_least_period A.f_least_period A.d_least_period
  m_least_period : mg "least_period" = some (.ref A.f_least_period)
  k_least_period : PySem.W.keepIn K (.ref A.f_least_period) = true
  b_least_period : Binds K A.d_least_period ["row", "many", "period"] []
  F_find_problem : Fun K "find_problem" "find_problem" s_find_problem A.f_find_problem A.d_find_problem
  m_find_problem : mg "find_problem" = some (.ref A.f_find_problem)
  k_find_problem : PySem.W.keepIn K (.ref A.f_find_problem) = true
  b_find_problem : Binds K A.d_find_problem ["values", "period", "gain"] []
  F_l_rng : Fun K "_law_rng" "_law_rng" s_l_rng A.f_l_rng A.d_l_rng
  m_l_rng : mg "_law_rng" = some (.ref A.f_l_rng)
  k_l_rng : PySem.W.keepIn K (.ref A.f_l_rng) = true
  b_l_rng : Binds K A.d_l_rng ["_law_script", "_law_k"] []
  F_l_draw : Fun K "_law_draw" "_law_draw" s_l_draw A.f_l_draw A.d_l_draw
  m_l_draw : mg "_law_draw" = some (.ref A.f_l_draw)
  k_l_draw : PySem.W.keepIn K (.ref A.f_l_draw) = true
  b_l_draw : Binds K A.d_l_draw ["_law_rng_here", "_law_many"] []
  F_l_choice : Fun K "_law_choice" "_law_choice" s_l_choice A.f_l_choice A.d_l_choice
  m_l_choice : mg "_law_choice" = some (.ref A.f_l_choice)
  k_l_choice : PySem.W.keepIn K (.ref A.f_l_choice) = true
  b_l_choice : Binds K A.d_l_choice ["_law_rng_here", "_law_some"] []
  F_l_written : Fun K "_law_written" "_law_written" s_l_written A.f_l_written A.d_l_written
  m_l_written : mg "_law_written" = some (.ref A.f_l_written)
  k_l_written : PySem.W.keepIn K (.ref A.f_l_written) = true
  b_l_written : Binds K A.d_l_written ["_law_rng_here"] []
  F_l_odd_value : Fun K "_law_odd_value" "_law_odd_value" s_l_odd_value A.f_l_odd_value A.d_l_odd_value
  m_l_odd_value : mg "_law_odd_value" = some (.ref A.f_l_odd_value)
  k_l_odd_value : PySem.W.keepIn K (.ref A.f_l_odd_value) = true
  b_l_odd_value : Binds K A.d_l_odd_value ["_law_rng_here", "_law_before"] []
  F_l_spoilt : Fun K "_law_spoilt" "_law_spoilt" s_l_spoilt A.f_l_spoilt A.d_l_spoilt
  m_l_spoilt : mg "_law_spoilt" = some (.ref A.f_l_spoilt)
  k_l_spoilt : PySem.W.keepIn K (.ref A.f_l_spoilt) = true
  b_l_spoilt : Binds K A.d_l_spoilt ["_law_rng_here", "_law_row"] []
  F_l_is_count : Fun K "_law_is_count" "_law_is_count" s_l_is_count A.f_l_is_count A.d_l_is_count
  m_l_is_count : mg "_law_is_count" = some (.ref A.f_l_is_count)
  k_l_is_count : PySem.W.keepIn K (.ref A.f_l_is_count) = true
  b_l_is_count : Binds K A.d_l_is_count ["_law_thing"] []
  F_l_due : Fun K "_law_due" "_law_due" s_l_due A.f_l_due A.d_l_due
  m_l_due : mg "_law_due" = some (.ref A.f_l_due)
  k_l_due : PySem.W.keepIn K (.ref A.f_l_due) = true
  b_l_due : Binds K A.d_l_due ["_law_row"] []
  F_l_told : Fun K "_law_told" "_law_told" s_l_told A.f_l_told A.d_l_told
  m_l_told : mg "_law_told" = some (.ref A.f_l_told)
  k_l_told : PySem.W.keepIn K (.ref A.f_l_told) = true
  b_l_told : Binds K A.d_l_told ["_law_row"] []
  F_l_right : Fun K "_law_right" "_law_right" s_l_right A.f_l_right A.d_l_right
  m_l_right : mg "_law_right" = some (.ref A.f_l_right)
  k_l_right : PySem.W.keepIn K (.ref A.f_l_right) = true
  b_l_right : Binds K A.d_l_right ["_law_rng_here"] []
  F_law : Fun K "law" "law" s_law A.f_law A.d_law
  m_law : mg "law" = some (.ref A.f_law)
  k_law : PySem.W.keepIn K (.ref A.f_law) = true
  b_law : Binds K A.d_law ["_law_script"] []
  ValueError : mg "ValueError" = none
  abs : mg "abs" = none
  all : mg "all" = none
  bool : mg "bool" = none
  dict : mg "dict" = none
  divmod : mg "divmod" = none
  enumerate : mg "enumerate" = none
  int : mg "int" = none
  isinstance : mg "isinstance" = none
  len : mg "len" = none
  list : mg "list" = none
  max : mg "max" = none
  min : mg "min" = none
  range : mg "range" = none
  repr : mg "repr" = none
  tuple : mg "tuple" = none
  v_MAX_VALUES : mg "MAX_VALUES" = some (.int 24 A.t_MAX_VALUES)
  v_MAX_VALUE : mg "MAX_VALUE" = some (.int 2000 A.t_MAX_VALUE)
  v_PERIODS : mg "PERIODS" = some (.ref A.a_PERIODS)
  periods : ∀ H, SqT K H A.a_PERIODS [.int 1, .int 2, .int 3, .int 4, .int 6, .int 12]
  m_Curve : mg "Curve" = some (.ref A.Curve)
  cl : Cls K A.Curve
  n_values : NoAttr K A.Curve "_values"
  n_period : NoAttr K A.Curve "_period"
  n_gain : NoAttr K A.Curve "_gain"
  n_was_searched : NoAttr K A.Curve "_was_searched"
  n_break : NoAttr K A.Curve "_break"
  F_C_init : FunD K "__init__" "Curve.__init__" (defArgs s_C_init) (defBody s_C_init) (defScope s_C_init) [] [("period", .int 1), ("gain", .int 0)] A.f_C_init A.d_C_init
  M_Curve : Mk K A.Curve A.f_C_init
/-! ### counts -/
/-- the built-in classes of the values that occur -/
def kinds : List String := ["NoneType", "bool", "int", "str", "list", "tuple", "dict"]
def Kd (K : PySem.W.Frag) (H : Hp) (v : V) (n : String) : Prop := TyX K H v (.type n) ∧ n ∈ kinds
theorem Kd.int {K : PySem.W.Frag} {H : Hp} (i : Int) : Kd K H (.int i) "int" := ⟨.base (.int i), by decide⟩
theorem Kd.is_int {K : PySem.W.Frag} {H : Hp} {v : V} (h : Kd K H v "int") : ∃ i, v = .int i := by
  obtain ⟨h, _⟩ := h
  generalize e : Value.type "int" = t at h
  cases h with
  | base b => cases b <;> first | exact ⟨_, rfl⟩ | (injection e with e; exact absurd e (by decide)) | cases e
  | _ => first | (injection e with e; exact absurd e (by decide)) | cases e
/-- a count -/
def cnt : V → Bool
  | .int i => decide (0 ≤ i)
  | _ => false
def cntTo (m : Int) : V → Bool
  | .int i => decide (0 ≤ i ∧ i ≤ m)
  | _ => false
def sp_is_integer (K : PySem.W.Frag) (_ : Ad) : Sp := fun vs H Q _ => ∃ v n, vs = [v] ∧ Kd K H v n ∧ Q (.bl (n == "int")) H
def sp_is_count (K : PySem.W.Frag) (_ : Ad) : Sp := fun vs H Q _ => ∃ v n, vs = [v] ∧ Kd K H v n ∧ Q (.bl (cnt v)) H
def sp_is_count_to (K : PySem.W.Frag) (_ : Ad) : Sp := fun vs H Q _ => ∃ v n m, vs = [v, .int m] ∧ Kd K H v n ∧ Q (.bl (cntTo m v)) H
def sp_rounded_up (_ : PySem.W.Frag) (_ : Ad) : Sp := fun vs H Q _ => ∃ (u p : Int), vs = [.int u, .int p] ∧ 0 < p ∧ p < 1073741824 ∧ Q (.int ((u + p - 1) / p)) H
section
variable {P : Program} {w : World} {K : PySem.W.Frag} {mg : Str → Option Value} {base : Heap} {A : Ad}
theorem kitI {n : String} (h : n ∈ kinds) : PySem.W.kitOne K (.type n) (.type "int") = some (n == "int" || n == "bool") := by
  simp only [kinds, List.mem_cons, List.not_mem_nil, or_false] at h
  rcases h with rfl | rfl | rfl | rfl | rfl | rfl | rfl <;> exact kit_ty (by decide +kernel)
theorem kitB' {n : String} (h : n ∈ kinds) : PySem.W.kitOne K (.type n) (.type "bool") = some (n == "bool") := by
  simp only [kinds, List.mem_cons, List.not_mem_nil, or_false] at h
  rcases h with rfl | rfl | rfl | rfl | rfl | rfl | rfl <;> exact kit_ty (by decide +kernel)
theorem ok_is_integer (T : Txt K mg A) : FnOk P w K mg base CX0 1 A.f_is_integer A.d_is_integer ["value"] (sp_is_integer K A) := by
  refine T.F_is_integer.ok sc_is_integer (fun vs H Q E h => ?_) (fun cdv A0 outer s H vs Q E hr h => ?_)
  · obtain ⟨v, n, rfl, hk, q⟩ := h
    rfl
  · obtain ⟨v, n, rfl, hk, q⟩ := h
    refine ⟨_, (pss_one (ps_ret (pe_and (pe_callB (r := rIsi K) call_isi (by rfl) T.isinstance (by decide +kernel) (pa_cons (pv 0) (pa_cons (pe_bltn (v := .ty "int") (u := .type "int") (by rfl) T.int (by decide +kernel) (by exact rfl)) pa_nil))) (pe_one (pe_not (pe_callB (r := rIsi K) call_isi (by rfl) T.isinstance (by decide +kernel) (pa_cons (pv 0) (pa_cons (pe_bltn (v := .ty "bool") (u := .type "bool") (by rfl) T.bool (by decide +kernel) (by exact rfl)) pa_nil)))))))), ?_⟩
    refine ⟨_, rfl, v, .ty "int", _, _, _, rfl, .ty _, hk.1, kitI hk.2, _, rfl, ?_⟩
    refine ite2 (fun c => ?_) (fun c => ?_)
    · refine ⟨_, rfl, v, .ty "bool", _, _, _, rfl, .ty _, hk.1, kitB' hk.2, _, rfl, ?_⟩
      by_cases e : n = "bool"
      · subst e; exact q
      · have e1 : (n == "bool") = false := by simpa using e
        rw [e1] at c ⊢
        simp at c
        subst c
        exact q
    · simp at c
      have e1 : (n == "int") = false := by simpa using c.1
      rw [e1] at q
      exact q
theorem ok_is_count (T : Txt K mg A) : FnOk P w K mg base CX0 2 A.f_is_count A.d_is_count ["value"] (sp_is_count K A) := by
  have G_is_integer := ok_is_integer (P := P) (w := w) (base := base) T
  refine T.F_is_count.ok sc_is_count (fun vs H Q E h => ?_) (fun cdv A0 outer s H vs Q E hr h => ?_)
  · obtain ⟨v, n, rfl, hk, q⟩ := h
    rfl
  · obtain ⟨v, n, rfl, hk, q⟩ := h
    refine ⟨_, (pss_one (ps_ret (pe_and (pe_call G_is_integer (hr.mono (by decide)) rfl T.m_is_integer T.k_is_integer T.b_is_integer .nil pass0 (pa_cons (pv 0) pa_nil)) (pe_one (pe_cmpR op_ge (pv 0) pe_int (nomark _)))))), ?_⟩
    refine ⟨_, rfl, v, n, rfl, hk, _, rfl, ?_⟩
    refine ite2 (fun c => ?_) (fun c => ?_)
    · have e : n = "int" := by simpa using c
      subst e
      obtain ⟨i, rfl⟩ := hk.is_int
      exact ⟨_, rfl, _, _, rfl, rfl, q⟩
    · have e : cnt v = false := by
        cases v <;> first | rfl | skip
        obtain ⟨h, _⟩ := hk
        generalize et : Value.type n = t at h
        cases h with
        | base b => cases b; injection et with et; subst et; exact absurd rfl c
      rw [e] at q
      exact q
theorem ok_is_count_to (T : Txt K mg A) : FnOk P w K mg base CX0 3 A.f_is_count_to A.d_is_count_to ["value", "most"] (sp_is_count_to K A) := by
  have G_is_count := ok_is_count (P := P) (w := w) (base := base) T
  refine T.F_is_count_to.ok sc_is_count_to (fun vs H Q E h => ?_) (fun cdv A0 outer s H vs Q E hr h => ?_)
  · obtain ⟨v, n, m, rfl, hk, q⟩ := h
    rfl
  · obtain ⟨v, n, m, rfl, hk, q⟩ := h
    refine ⟨_, (pss_one (ps_ret (pe_and (pe_call G_is_count (hr.mono (by decide)) rfl T.m_is_count T.k_is_count T.b_is_count .nil pass0 (pa_cons (pv 0) pa_nil)) (pe_one (pe_cmpR op_le (pv 0) (pv 1) (nomark _)))))), ?_⟩
    refine ⟨_, rfl, v, n, rfl, hk, _, rfl, ?_⟩
    refine ite2 (fun c => ?_) (fun c => ?_)
    · cases v with
      | int i =>
        have c : 0 ≤ i := by simpa [cnt] using c
        refine ⟨_, rfl, _, rfl, _, _, rfl, rfl, ?_⟩
        have e : cntTo m (.int i) = decide (i ≤ m) := by unfold cntTo; simp [c]
        rw [e] at q
        exact q
      | _ => simp [cnt] at c
    · have e : cntTo m v = false := by
        cases v <;> first | rfl | skip
        rename_i i
        have c : ¬ 0 ≤ i := by simpa [cnt] using c
        unfold cntTo; simp [c]
      rw [e] at q
      exact q
theorem ok_rounded_up (T : Txt K mg A) : FnOk P w K mg base CX0 1 A.f_rounded_up A.d_rounded_up ["units", "parts"] (sp_rounded_up K A) := by
  refine T.F_rounded_up.ok sc_rounded_up (fun vs H Q E h => ?_) (fun cdv A0 outer s H vs Q E hr h => ?_)
  · obtain ⟨u, p, rfl, h1, h2, q⟩ := h
    rfl
  · obtain ⟨u, p, rfl, h1, h2, q⟩ := h
    refine ⟨_, (pss_one (ps_ret (pe_op op_fdiv (pe_op op_sub (pe_op op_add (pv 0) (pv 1)) pe_int) (pv 1)))), ?_⟩
    exact ⟨_, rfl, _, rfl, _, _, rfl, rfl, _, _, rfl, rfl, _, rfl, _, _, rfl, rfl, ⟨h1, h2⟩, q⟩
end
end VK


namespace VK
open PySem PySem.Spec PyProof.Rows L2 VM
theorem getD_map {xs : List Int} {j : Nat} (h : j < xs.length) : (xs.map V.int)[j]? = some (.int (xs.getD j 0)) := by
  rw [List.getElem?_map, List.getD_eq_getElem?_getD, List.getElem?_eq_getElem h]
  rfl
theorem at_map {xs : List Int} {i : Int} (h0 : 0 ≤ i) (h : i < xs.length) : atI (xs.map V.int) i = some (.int (xs.getD i.toNat 0)) := by
  have e : i = ((i.toNat : Nat) : Int) := by omega
  rw [e]
  exact atI_nat (getD_map (by omega))
theorem at_back {xs : List Int} {i : Int} (h0 : i < 0) (h : -(xs.length : Int) ≤ i) : atI (xs.map V.int) i = some (.int (xs.getD (i + xs.length).toNat 0)) := by
  unfold atI ixN
  rw [if_neg (by omega), List.length_map, if_pos h]
  show (xs.map V.int)[_]? = _
  exact getD_map (by omega)
theorem deq_int {a b : Int} : decide (V.int a = V.int b) = decide (a = b) := by
  by_cases h : a = b
  · subst h; simp
  · rw [decide_eq_false h, decide_eq_false (fun q => h (V.int.inj q))]
/-- a test of two ints on equality -/
theorem ifEq {a b : Int} {X Y : Prop} (h1 : a = b → X) (h2 : a ≠ b → Y) : if decide (V.int a = V.int b) = true then X else Y := by
  rw [deq_int]
  exact ite2 (fun c => h1 (of_decide_eq_true c)) fun c => h2 fun e => c (decide_eq_true e)
theorem ifD {c X Y : Prop} [Decidable c] (h1 : c → X) (h2 : ¬ c → Y) : if decide c = true then X else Y :=
  ite2 (fun e => h1 (of_decide_eq_true e)) fun e => h2 fun q => e (decide_eq_true q)
def sp_value_at (K : PySem.W.Frag) (_ : Ad) : Sp := fun vs H Q _ => ∃ (l : Addr) (xs : List Int) (p g t : Int), vs = [.ref l, .int p, .int g, .int t] ∧
  SqL K H l (xs.map V.int) ∧ 0 < p ∧ p ≤ xs.length ∧ xs.length ≤ 1000 ∧ 0 ≤ t ∧ t < 2 ^ 62 ∧ Q (.int (cvAt xs p g t)) H
section
variable {P : Program} {w : World} {K : PySem.W.Frag} {mg : Str → Option Value} {base : Heap} {A : Ad}
theorem ok_value_at (T : Txt K mg A) : FnOk P w K mg base CX0 2 A.f_value_at A.d_value_at ["values", "period", "gain", "length"] (sp_value_at K A) := by
  have G_rounded_up := ok_rounded_up (P := P) (w := w) (base := base) T
  refine T.F_value_at.ok sc_value_at (fun vs H Q E h => ?_) (fun cdv A0 outer s H vs Q E hr h => ?_)
  · obtain ⟨l, xs, p, g, t, rfl, hS, hp, hpn, hn, ht, htb, q⟩ := h
    rfl
  · obtain ⟨l, xs, p, g, t, rfl, hS, hp, hpn, hn, ht, htb, q⟩ := h
    refine ⟨_, (pss_cons (ps_if (pt_cmpR op_eq (pv 3) pe_int (nomark _)) (pss_one (ps_ret pe_int)) pss_nil)
    (pss_cons (ps_if (pt_cmpR op_le (pv 3) (pe_callB (r := VG.rLen K) VG.call_len (by rfl) T.len (by decide +kernel) (pa_cons (pv 0) pa_nil)) (nomark _)) (pss_one (ps_ret (pe_ix (r := rIxL K) ix_list (pv 0) (pe_op op_sub (pv 3) pe_int) (fun _ _ => rfl)))) pss_nil)
    (pss_cons (ps_set (i := 4) sc_value_at.nd rfl (by first | exact Or.inl rfl | exact Or.inr rfl) (pe_call G_rounded_up (hr.mono (by decide)) rfl T.m_rounded_up T.k_rounded_up T.b_rounded_up .nil pass0 (pa_cons (pe_op op_sub (pv 3) (pe_callB (r := VG.rLen K) VG.call_len (by rfl) T.len (by decide +kernel) (pa_cons (pv 0) pa_nil))) (pa_cons (pv 1) pa_nil))))
    (pss_one (ps_ret (pe_op op_add (pe_ix (r := rIxL K) ix_list (pv 0) (pe_op op_sub (pe_op op_sub (pv 3) (pe_op op_mul (pv 4) (pv 1))) pe_int) (fun _ _ => rfl)) (pe_op op_mul (pv 4) (pv 2)))))))), ?_⟩
    refine ⟨_, rfl, rfl, _, rfl, ifEq (fun c => ?_) (fun c => ?_)⟩
    · subst c
      rw [cvAt_zero] at q
      exact q
    refine ⟨_, rfl, _, rfl, l, _, rfl, .inl hS, _, _, rfl, rfl, _, rfl, ifD (fun c1 => ?_) (fun c1 => ?_)⟩
    · rw [List.length_map] at c1
      rw [cvAt_in (by omega) c1] at q
      exact ⟨_, rfl, _, rfl, _, _, rfl, rfl, l, _, _, _, rfl, rfl, hS, at_map (by omega) (by omega), q⟩
    · rw [List.length_map] at c1
      obtain ⟨r1, r2, r3⟩ := rounds_spec (n := (xs.length : Int)) (t := t) hp (by omega)
      have rb : (t - (xs.length : Int) + p - 1) / p ≤ t := by
        have := Int.ediv_le_self p (show 0 ≤ t - (xs.length : Int) + p - 1 by omega)
        omega
      refine ⟨_, rfl, _, rfl, l, _, rfl, .inl hS, _, _, rfl, rfl, _, rfl, _, _, rfl, hp, by omega, ?_⟩
      rw [List.length_map]
      refine ⟨_, rfl, _, rfl, _, rfl, _, rfl, _, _, rfl, rfl, .inl ⟨by omega, by omega⟩, _, _, rfl, rfl, _, _, rfl, rfl, l, _, _, _, rfl, rfl, hS, at_map (by omega) (by omega),
        _, rfl, _, rfl, _, _, rfl, rfl, .inl ⟨by omega, by omega⟩, _, _, rfl, rfl, ?_⟩
      unfold cvAt at q
      rw [if_neg c, if_neg c1] at q
      exact q
end
end VK


namespace VK
open PySem PySem.Spec PyProof.Rows L2 VM
/-- f's values at 0, 1, .. below m -/
def row (f : Int → Int) (m : Nat) : List Int := (List.range m).map fun (i : Nat) => f i
theorem row_length {f : Int → Int} {m : Nat} : (row f m).length = m := by simp [row]
theorem row_getD {f : Int → Int} {m i : Nat} (h : i < m) : (row f m).getD i 0 = f i := by
  unfold row
  rw [List.getD_eq_getElem?_getD, List.getElem?_map, List.getElem?_range h]
  rfl
theorem at_row {f : Int → Int} {m : Nat} {i : Int} (h0 : 0 ≤ i) (h : i < m) : atI ((row f m).map V.int) i = some (.int (f i)) := by
  rw [at_map h0 (by rw [row_length]; exact h), row_getD (by omega)]
  congr 3; omega
theorem row_succ {f : Int → Int} {m : Nat} : row f (m + 1) = row f m ++ [f m] := by
  unfold row; rw [List.range_succ, List.map_append]; rfl
theorem rowI_succ {f : Int → Int} {m : Nat} : (row f (m + 1)).map V.int = (row f m).map V.int ++ [V.int (f m)] := by
  rw [row_succ, List.map_append]; rfl
theorem small {n : Nat} (h : n ≤ 16777215) : n < sizeLine := by rw [sizeLine_eq]; omega
/-- a new object leaves what was tracked -/
theorem Same.upd {H H' : Hp} {p : Addr} {o : HO} (e : Same H H') (h : H p = none) : Same H (upd H' p o) := fun b u q => by
  rw [upd_ne (ne_of_none q h)]; exact e b u q
theorem steps_eq {f : Int → Int} {n p d m M : Int} (hp : 0 < p)
    (h1 : m ∈ row (fun i => f (n + 1 + i) - f (n + 1 + i - d)) p.toNat) (h2 : ∀ y ∈ row (fun i => f (n + 1 + i) - f (n + 1 + i - d)) p.toNat, m ≤ y)
    (h4 : ∀ y ∈ row (fun i => f (n + 1 + i) - f (n + 1 + i - d)) p.toNat, y ≤ M) (h3 : M ∈ row (fun i => f (n + 1 + i) - f (n + 1 + i - d)) p.toNat) :
    m = M ↔ stepsEq f n p d = true := by
  have mem : ∀ y, y ∈ row (fun i => f (n + 1 + i) - f (n + 1 + i - d)) p.toNat ↔ ∃ i : Nat, i < p.toNat ∧ f (n + 1 + i) - f (n + 1 + i - d) = y := by
    intro y
    unfold row
    rw [List.mem_map]
    exact ⟨fun ⟨i, a, b⟩ => ⟨i, List.mem_range.mp a, b⟩, fun ⟨i, a, b⟩ => ⟨i, List.mem_range.mpr a, b⟩⟩
  have f0 := (mem (f (n + 1 + (0 : Nat)) - f (n + 1 + (0 : Nat) - d))).mpr ⟨0, by omega, rfl⟩
  have z : n + 1 + ((0 : Nat) : Int) = n + 1 := by omega
  rw [z] at f0
  unfold stepsEq
  rw [List.all_eq_true]
  constructor
  · intro e i hi
    have hy := (mem _).mpr ⟨i, List.mem_range.mp hi, rfl⟩
    have a := h2 _ hy; have b := h4 _ hy
    have c := h2 _ f0; have d' := h4 _ f0
    exact decide_eq_true (by omega)
  · intro h
    obtain ⟨i, hi, ei⟩ := (mem m).mp h1
    obtain ⟨j, hj, ej⟩ := (mem M).mp h3
    have a := of_decide_eq_true (h i (List.mem_range.mpr hi))
    have b := of_decide_eq_true (h j (List.mem_range.mpr hj))
    omega
def sp_least_period (K : PySem.W.Frag) (_ : Ad) : Sp := fun vs H Q _ => ∃ (l : Addr) (f : Int → Int) (n p : Int), vs = [.ref l, .int n, .int p] ∧
  SqL K H l ((row f (n + p + 1).toNat).map V.int) ∧ 0 < p ∧ 0 ≤ n ∧ p ≤ 1000 ∧ n ≤ 1000 ∧ p ≤ n ∧
  ∀ H' t, Same H H' → H t = none → H' t = some (.tup [.int (leastP f n p).1, .int (leastP f n p).2]) → Q (.ref t) H'
section
variable {P : Program} {w : World} {K : PySem.W.Frag} {mg : Str → Option Value} {base : Heap} {A : Ad}
theorem ok_least_period (T : Txt K mg A) : FnOk P w K mg base CX0 1 A.f_least_period A.d_least_period ["row", "many", "period"] (sp_least_period K A) := by
  refine T.F_least_period.ok sc_least_period (fun vs H Q E h => ?_) (fun cdv A0 outer s H vs Q E hr h => ?_)
  · obtain ⟨l, f, n, p, rfl, hS, hp, hn, hpb, hnb, hpn, k⟩ := h
    rfl
  · obtain ⟨l, f, n, p, rfl, hS, hp, hn, hpb, hnb, hpn, k⟩ := h
    refine ⟨_, (pss_cons (ps_for PassesOwn.never rfl (pi_range2 rfl T.range (pa_cons pe_int (pa_cons (pv 2) pa_nil))) (pg_name (i := 3) sc_least_period.nd rfl (by first | exact Or.inl rfl | exact Or.inr rfl))
      (pss_one (ps_if (pt_cmpR op_eq (pe_op op_mod (pv 2) (pv 3)) pe_int (nomark _)) (pss_cons (ps_setLc (i := 4) (own := [("length", 5)]) (g := gName 5) (tt := tYes) rfl sc_least_period.nd rfl rfl (sw_true rfl rfl rfl (by decide +kernel)) (pi_range2 rfl T.range (pa_cons (pe_op op_add (pv 1) pe_int) (pa_cons (pe_op op_add (pe_op op_add (pv 1) (pv 2)) pe_int) pa_nil))) (blkOk_by (own := [("length", 5)]) (N := ["row", "many", "period", "least", "steps", "length"]) (sc := defScope s_least_period) (by decide +kernel)) (fun _ _ _ _ _ => pg_name (i := 5) sc_least_period.nd rfl (by first | exact Or.inl rfl | exact Or.inr rfl)) (fun _ _ _ _ _ => pts_nil) (fun _ _ _ _ _ => (pe_op op_sub (pe_ix (r := rIxL K) ix_list (pv 0) (pv 5) (fun _ _ => rfl)) (pe_ix (r := rIxL K) ix_list (pv 0) (pe_op op_sub (pv 5) (pv 3)) (fun _ _ => rfl)))))
    (pss_one (ps_if (pt_cmpR op_eq (pe_callB (r := rMin K) (cr_min rfl) (by rfl) T.min (by decide +kernel) (pa_cons (pv 4) pa_nil)) (pe_callB (r := rMax K) (cr_max rfl) (by rfl) T.max (by decide +kernel) (pa_cons (pv 4) pa_nil)) (nomark _)) (pss_one (ps_ret (pe_tup (pa_cons (pv 3) (pa_cons (pe_ix (r := rIxL K) ix_list (pv 4) pe_int (fun _ _ => rfl)) pa_nil))))) pss_nil))) pss_nil)))
    (pss_one (ps_ret (pe_tup (pa_cons (pv 2) (pa_cons (pe_op op_sub (pe_ix (r := rIxL K) ix_list (pv 0) (pe_op op_add (pv 1) (pv 2)) (fun _ _ => rfl)) (pe_ix (r := rIxL K) ix_list (pv 0) (pv 1) (fun _ _ => rfl))) pa_nil)))))), ?_⟩
    refine ⟨_, rfl, _, _, rfl, ⟨by omega, by omega, by omega, by omega⟩, for_range (lo := 1) (n := (p - 1).toNat)
      (fun i σ H' => ∃ v3 v4 v5, σ = [some (.ref l), some (.int n), some (.int p), v3, v4, v5] ∧ Same H H' ∧ leastP f n p = leastFrom f n p ((p - 1).toNat - i) (1 + i))
      ⟨_, _, _, rfl, Same.refl H, rfl⟩ ?_ ?_⟩
    · rintro i' σ H' hi ⟨v3, v4, v5, rfl, s0, e⟩
      have ek : (p - 1).toNat - i' = ((p - 1).toNat - (i' + 1)) + 1 := by omega
      rw [ek] at e
      unfold leastFrom at e
      refine ⟨_, rfl, _, rfl, _, _, rfl, rfl, (show (0 : Int) < 1 + i' by omega), rfl, _, rfl, ifEq (fun c => ?_) (fun c => ?_)⟩
      · refine ⟨_, rfl, _, _, rfl, rfl, _, rfl, _, rfl, _, _, rfl, rfl, _, _, rfl, rfl, _, _, rfl, ⟨by omega, by omega, by omega, by omega⟩, fun D hD => lc_range (lo := n + 1) (n := (n + p + 1 - (n + 1)).toNat)
          (fun j H2 => H2 D = some (.lst ((row (fun i => f (n + 1 + i) - f (n + 1 + i - (1 + i'))) j).map V.int)) ∧ Same H H2) ?_ ?_ ?_⟩
        · exact ⟨upd_same, Same.upd s0 (s0.free hD)⟩
        · rintro j H2 hj ⟨hD2, s2⟩
          refine ⟨rfl, _, rfl, _, rfl, l, _, _, _, rfl, rfl, s2.seq hS, at_row (by omega) (by omega), _, rfl, _, rfl, _, rfl, _, _, rfl, rfl, l, _, _, _, rfl, rfl, s2.seq hS, at_row (by omega) (by omega), _, _, rfl, rfl,
            _, hD2, small (by rw [List.length_map, row_length]; omega), ?_, ?_⟩
          · rw [upd_same, rowI_succ]
          · exact Same.upd s2 (s0.free hD)
        · rintro H2 ⟨hD2, s2⟩
          have eN : (n + p + 1 - (n + 1)).toNat = p.toNat := by omega
          rw [eN] at hD2
          have hl : 0 < (row (fun i => f (n + 1 + i) - f (n + 1 + i - (1 + i'))) p.toNat).length := by rw [row_length]; omega
          refine ⟨_, rfl, D, _, rfl, SqL.of hD2, hl, fun m hm hm2 => ?_⟩
          refine ⟨_, rfl, D, _, rfl, SqL.of hD2, hl, fun M hM hM2 => ?_⟩
          have key := steps_eq hp hm hm2 hM2 hM
          refine ⟨rfl, _, rfl, ifEq (fun c2 => ?_) (fun c2 => ?_)⟩
          · refine ⟨_, rfl, _, rfl, D, _, _, _, rfl, rfl, SqL.of hD2, at_row (by omega) (by omega), (by show 2 ≤ sizeLine; decide), fun t ht => ?_⟩
            rw [if_pos ⟨c, key.mp c2⟩] at e
            refine k _ t (Same.upd s2 (s2.free ht)) (s2.free ht) ?_
            rw [upd_same, e]
            simp
          · refine ⟨_, _, _, rfl, s2, ?_⟩
            rw [if_neg (fun z => c2 (key.mpr z.2))] at e
            rw [e]
            congr 1
      · refine ⟨_, _, _, rfl, s0, ?_⟩
        rw [if_neg (fun z => c z.1)] at e
        rw [e]
        congr 1
    · rintro σ H' ⟨v3, v4, v5, rfl, s0, e⟩
      rw [Nat.sub_self] at e
      unfold leastFrom at e
      refine ⟨_, rfl, _, rfl, _, rfl, _, rfl, _, _, rfl, rfl, l, _, _, _, rfl, rfl, s0.seq hS, at_row (by omega) (by omega), _, rfl, _, rfl, l, _, _, _, rfl, rfl, s0.seq hS, at_row (by omega) (by omega), _, _, rfl, rfl, (by show 2 ≤ sizeLine; decide), fun t ht => ?_⟩
      refine k _ t (Same.upd s0 (s0.free ht)) (s0.free ht) ?_
      rw [upd_same, e]
end
end VK


namespace VK
open PySem PySem.Spec PyProof.Rows L2 VM
theorem cut_nat {xs : List V} {a b : Nat} (h1 : a ≤ xs.length) (h2 : b ≤ xs.length) : cutV xs (some (a : Int)) (some (b : Int)) = (xs.drop a).take (b - a) := by
  unfold cutV
  rw [HT.sIx_nat, HT.sIx_nat, Nat.min_eq_left h1, Nat.min_eq_left h2]
theorem cut_row {f : Int → Int} {N m : Nat} (h : m < N) : cutV ((row f N).map V.int) (some 1) (some ((m : Int) + 1)) = (vals f m).map V.int := by
  have e1 : (1 : Int) = ((1 : Nat) : Int) := rfl
  have e2 : (m : Int) + 1 = ((m + 1 : Nat) : Int) := by omega
  rw [e2]
  rw [show (some 1 : Option Int) = some ((1 : Nat) : Int) from rfl, cut_nat (by rw [List.length_map, row_length]; omega) (by rw [List.length_map, row_length]; omega)]
  rw [← List.map_drop, ← List.map_take]
  congr 1
  apply List.ext_getElem?
  intro i
  unfold row vals
  by_cases hi : i < m
  · rw [List.getElem?_take_of_lt (by omega), List.getElem?_drop, List.getElem?_map, List.getElem?_map, List.getElem?_range (by omega), List.getElem?_range (by omega)]
    simp only [Option.map_some]
    congr 2
    omega
  · rw [List.getElem?_eq_none (by simp; omega), List.getElem?_eq_none (by simp; omega)]
def sp_least_form (K : PySem.W.Frag) (_ : Ad) : Sp := fun vs H Q _ => ∃ (l : Addr) (xs : List Int) (p g : Int), vs = [.ref l, .int p, .int g] ∧
  SqL K H l (xs.map V.int) ∧ 0 < p ∧ p ≤ xs.length ∧ xs.length ≤ 1000 ∧
  ∀ H' t l', Same H H' → H t = none → H l' = none → H' t = some (.tup [.ref l', .int (formP xs p g).1, .int (formP xs p g).2]) → H' l' = some (.lst ((formV xs p g).map V.int)) → Q (.ref t) H'
section
variable {P : Program} {w : World} {K : PySem.W.Frag} {mg : Str → Option Value} {base : Heap} {A : Ad}
theorem ok_least_form (T : Txt K mg A) : FnOk P w K mg base CX0 3 A.f_least_form A.d_least_form ["values", "period", "gain"] (sp_least_form K A) := by
  have G_least_period := ok_least_period (P := P) (w := w) (base := base) T
  have G_value_at := ok_value_at (P := P) (w := w) (base := base) T
  refine T.F_least_form.ok sc_least_form (fun vs H Q E h => ?_) (fun cdv A0 outer s H vs Q E hr h => ?_)
  · obtain ⟨l, xs, p, g, rfl, hS, hp, hpn, hn, k⟩ := h
    rfl
  · obtain ⟨l, xs, p, g, rfl, hS, hp, hpn, hn, k⟩ := h
    refine ⟨_, (pss_cons (ps_set (i := 3) sc_least_form.nd rfl (by first | exact Or.inl rfl | exact Or.inr rfl) (pe_callB (r := VG.rLen K) VG.call_len (by rfl) T.len (by decide +kernel) (pa_cons (pv 0) pa_nil)))
    (pss_cons (ps_setLc (i := 4) (own := [("length", 7)]) (g := gName 7) (tt := tYes) rfl sc_least_form.nd rfl rfl (sw_true rfl rfl rfl (by decide +kernel)) (pi_range1 rfl T.range (pa_cons (pe_op op_add (pe_op op_add (pv 3) (pv 1)) pe_int) pa_nil)) (blkOk_by (own := [("length", 7)]) (N := ["values", "period", "gain", "many", "row", "least", "step", "length"]) (sc := defScope s_least_form) (by decide +kernel)) (fun _ _ _ _ _ => pg_name (i := 7) sc_least_form.nd rfl (by first | exact Or.inl rfl | exact Or.inr rfl)) (fun _ _ _ _ _ => pts_nil) (fun _ _ _ _ _ => (pe_call G_value_at (hr.mono (by decide)) rfl T.m_value_at T.k_value_at T.b_value_at .nil pass0 (pa_cons (pv 0) (pa_cons (pv 1) (pa_cons (pv 2) (pa_cons (pv 7) pa_nil)))))))
    (pss_cons (ps_asg (pe_call G_least_period (hr.mono (by decide)) rfl T.m_least_period T.k_least_period T.b_least_period .nil pass0 (pa_cons (pv 4) (pa_cons (pv 3) (pa_cons (pv 1) pa_nil)))) (pg_tup rfl (pgs_cons (pg_name (i := 5) sc_least_form.nd rfl (by first | exact Or.inl rfl | exact Or.inr rfl)) (pgs_cons (pg_name (i := 6) sc_least_form.nd rfl (by first | exact Or.inl rfl | exact Or.inr rfl)) pgs_nil))))
    (pss_cons (ps_while PassesOwn.never (PW.pt (pw_and (pt_cmpR op_gt (pv 3) (pv 5) (nomark _)) (pw_and1 (pt_cmpR op_eq (pe_ix (r := rIxL K) ix_list (pv 4) (pv 3) (fun _ _ => rfl)) (pe_op op_add (pe_ix (r := rIxL K) ix_list (pv 4) (pe_op op_sub (pv 3) (pv 5)) (fun _ _ => rfl)) (pv 6)) (nomark _))))) (pss_one (ps_aug (i := 3) sc_least_form.nd rfl (.inl rfl) pe_int ip_sub)))
    (pss_one (ps_ret (pe_tup (pa_cons (pe_slice (r := rSlL K) sl_list (pv 4) (po_some pe_int) (po_some (pe_op op_add (pv 3) pe_int))) (pa_cons (pv 5) (pa_cons (pv 6) pa_nil)))))))))), ?_⟩
    refine ⟨_, rfl, l, _, rfl, .inl hS, ?_⟩
    rw [List.length_map]
    refine ⟨_, rfl, _, rfl, _, _, rfl, rfl, _, _, rfl, rfl, _, rfl, by omega, by omega, fun D hD => lc_range (lo := 0) (n := ((xs.length : Int) + p + 1).toNat)
      (fun j H2 => H2 D = some (.lst ((row (cvAt xs p g) j).map V.int)) ∧ Same H H2) ?_ ?_ ?_⟩
    · exact ⟨upd_same, Same.upd (Same.refl H) hD⟩
    · rintro j H2 hj ⟨hD2, s2⟩
      refine ⟨rfl, _, rfl, _, rfl, _, rfl, _, rfl, l, xs, p, g, _, rfl, s2.seq hS, hp, hpn, hn, by omega, by omega, _, hD2, small (by rw [List.length_map, row_length]; omega), ?_, ?_⟩
      · rw [upd_same, rowI_succ]
        rw [Int.zero_add]
      · exact Same.upd s2 hD
    · rintro H2 ⟨hD2, s2⟩
      refine ⟨_, rfl, _, rfl, _, rfl, D, cvAt xs p g, xs.length, p, rfl, SqL.of hD2, hp, by omega, by omega, by omega, hpn, fun H3 t s3 ht0 ht => ?_⟩
      refine ⟨t, _, rfl, .inl (.inl ht), rfl, _, _, rfl, _, _, rfl, rfl, ?_⟩
      obtain ⟨q1, q2, q3⟩ := leastP_spec (Rep.cvAt (g := g) hp hpn) hp
      have hP : formP xs p g = leastP (cvAt xs p g) xs.length p := rfl
      rw [← hP] at q1 q2 ht ⊢
      generalize hd : (formP xs p g).1 = d at *
      generalize hs : (formP xs p g).2 = st at *
      refine ⟨fun (m : Nat) (σ : L2.St) (H' : Hp) => σ = [some (.ref l), some (.int p), some (.int g), some (.int (m : Nat)), some (.ref D), some (.int d), some (.int st), none] ∧ Same H2 H' ∧ m ≤ xs.length ∧ d ≤ m ∧
        shr (cvAt xs p g) d st xs.length = shr (cvAt xs p g) d st m, ⟨xs.length, rfl, s3, Nat.le_refl _, by omega, rfl⟩, ?_⟩
      rintro m σ H4 ⟨rfl, s4, hm, hdm, e⟩
      have hD4 := s4 _ _ hD2
      have s4' : Same H H4 := s2.trans s4
      refine ⟨_, rfl, _, rfl, _, _, rfl, rfl, _, rfl, ifD (fun c => ?_) (fun c => ?_)⟩
      · refine ⟨_, rfl, _, rfl, D, _, _, _, rfl, rfl, SqL.of hD4, at_row (by omega) (by omega), _, rfl, _, rfl, _, rfl, _, _, rfl, rfl, D, _, _, _, rfl, rfl, SqL.of hD4, at_row (by omega) (by omega), _, rfl, _, _, rfl, rfl, rfl, _, rfl, ifEq (fun c2 => ?_) (fun c2 => ?_)⟩
        · refine ⟨fun σ' H' => σ' = [some (.ref l), some (.int p), some (.int g), some (.int ((m : Int) - 1)), some (.ref D), some (.int d), some (.int st), none] ∧ H' = H4, ?_, ?_⟩
          · rintro σ' H' ⟨rfl, rfl⟩
            refine ⟨m - 1, by omega, ?_, s4, by omega, by omega, ?_⟩
            · rw [show (m : Int) - 1 = ((m - 1 : Nat) : Int) by omega]
            · rw [e]
              obtain ⟨m, rfl⟩ : ∃ m', m = m' + 1 := ⟨m - 1, by omega⟩
              show shr (cvAt xs p g) d st (m + 1) = shr (cvAt xs p g) d st m
              conv => lhs; unfold shr
              rw [if_pos ⟨c, c2⟩]
          · exact ⟨_, rfl, _, _, rfl, rfl, rfl, rfl⟩
        · refine ⟨_, rfl, _, rfl, _, rfl, _, _, rfl, rfl, _, rfl, D, _, rfl, SqL.of hD4, fun l' hl' => ⟨_, rfl, _, rfl, (by show 3 ≤ sizeLine; decide), fun t' ht' => ?_⟩⟩
          have em : formM xs p g = m := by
            unfold formM
            rw [hd, hs, e]
            cases m with
            | zero => rfl
            | succ m =>
              unfold shr
              rw [if_neg (fun z => c2 z.2)]
          have nl : l' ≠ t' := fun z => by rw [← z, upd_same] at ht'; cases ht'
          have ht4 : H4 t' = none := by rw [upd_ne (Ne.symm nl)] at ht'; exact ht'
          refine k _ t' l' (Same.upd (Same.upd s4' (s4'.free hl')) (s4'.free ht4)) (s4'.free ht4) (s4'.free hl') upd_same ?_
          rw [upd_ne nl, upd_same]
          unfold formV
          rw [em, cut_row (by omega)]
      · refine ⟨_, rfl, _, rfl, _, rfl, _, _, rfl, rfl, _, rfl, D, _, rfl, SqL.of hD4, fun l' hl' => ⟨_, rfl, _, rfl, (by show 3 ≤ sizeLine; decide), fun t' ht' => ?_⟩⟩
        have em : formM xs p g = m := by
          unfold formM
          rw [hd, hs, e]
          cases m with
            | zero => rfl
            | succ m =>
              unfold shr
              rw [if_neg (fun z => c z.1)]
        have nl : l' ≠ t' := fun z => by rw [← z, upd_same] at ht'; cases ht'
        have ht4 : H4 t' = none := by rw [upd_ne (Ne.symm nl)] at ht'; exact ht'
        refine k _ t' l' (Same.upd (Same.upd s4' (s4'.free hl')) (s4'.free ht4)) (s4'.free ht4) (s4'.free hl') upd_same ?_
        rw [upd_ne nl, upd_same]
        unfold formV
        rw [em, cut_row (by omega)]
end
end VK


namespace VK
open PySem PySem.Spec PyProof.Rows L2 VM
theorem Kd.list {K : PySem.W.Frag} {H : Hp} {l : Addr} {xs : List V} (h : SqL K H l xs) : Kd K H (.ref l) "list" := by
  refine ⟨?_, by decide⟩
  rcases h with (h | ⟨o, h⟩) | ⟨o, its, n, h1, h2, _⟩
  · exact .base (.lst h)
  · exact .base (.frz h)
  · exact .kList h1 h2
/-- a curve as it may be written -/
structure OkRow (xs : List Int) (p g : Int) : Prop where
  l1 : 1 ≤ xs.length
  l2 : xs.length ≤ 24
  lo : ∀ i, i < xs.length → 0 ≤ xs.getD i 0
  hi : ∀ i, i < xs.length → xs.getD i 0 ≤ 2000
  up : ∀ i, i + 1 < xs.length → xs.getD i 0 ≤ xs.getD (i + 1) 0
  per : p = 1 ∨ p = 2 ∨ p = 3 ∨ p = 4 ∨ p = 6 ∨ p = 12
  pn : p ≤ xs.length
  g0 : 0 ≤ g
  g1 : g ≤ 2000
  last : xs.getD (xs.length - 1) 0 ≤ xs.getD (xs.length - p.toNat) 0 + g
/-! ### what is wrong with what is written -/
def vI : V → Int
  | .int i => i
  | _ => 0
def isI : V → Bool
  | .int _ => true
  | _ => false
def perV : List V := [.int 1, .int 2, .int 3, .int 4, .int 6, .int 12]
def bef (xs : List V) (i : Nat) : Int := if i = 0 then 0 else vI (xs.getD (i - 1) .non)
def gud (xs : List V) (i : Nat) : Bool := cntTo 2000 (xs.getD i .non) && decide (bef xs i ≤ vI (xs.getD i .non))
def perOk (c : V) (n : Nat) : Bool := isI c && (inV c perV && decide (vI c ≤ n))
def gainOk (xs : List V) (c m : V) : Bool := cntTo 2000 m && decide (vI (xs.getD (xs.length - 1) .non) ≤ vI (xs.getD (xs.length - (vI c).toNat) .non) + vI m)
def wrongL (xs : List V) (c m : V) : Option (Str × Nat) :=
  if 1 ≤ xs.length ∧ xs.length ≤ 24 then
    match (List.range xs.length).find? (fun i => !gud xs i) with
    | some i => some (("value" : Str), i)
    | none => if perOk c xs.length = true then (if gainOk xs c m = true then none else some (("gain" : Str), 0)) else some (("period" : Str), 0)
  else some (("count" : Str), 0)
theorem wrong_count {xs : List V} {c m : V} (h : ¬ (1 ≤ xs.length ∧ xs.length ≤ 24)) : wrongL xs c m = some (("count" : Str), 0) := by
  unfold wrongL; rw [if_neg h]
theorem wrong_value {xs : List V} {c m : V} {i : Nat} (h : 1 ≤ xs.length ∧ xs.length ≤ 24) (hi : i < xs.length) (hb : gud xs i = false) (hg : ∀ j, j < i → gud xs j = true) : wrongL xs c m = some (("value" : Str), i) := by
  unfold wrongL
  have e : (List.range xs.length).find? (fun i => !gud xs i) = some i := by
    rw [List.find?_range_eq_some]
    refine ⟨by rw [hb]; rfl, List.mem_range.mpr hi, fun j hj => ?_⟩
    rw [hg j hj]; rfl
  rw [if_pos h, e]
theorem wrong_rest {xs : List V} {c m : V} (h : 1 ≤ xs.length ∧ xs.length ≤ 24) (hg : ∀ j, j < xs.length → gud xs j = true) :
    wrongL xs c m = if perOk c xs.length = true then (if gainOk xs c m = true then none else some (("gain" : Str), 0)) else some (("period" : Str), 0) := by
  unfold wrongL
  have e : (List.range xs.length).find? (fun i => !gud xs i) = none := by
    rw [List.find?_range_eq_none]
    intro j hj
    rw [hg j hj]; rfl
  rw [if_pos h, e]
theorem gud_int {xs : List V} {i : Nat} (h : gud xs i = true) : ∃ z, xs.getD i .non = .int z := by
  unfold gud at h
  rw [Bool.and_eq_true] at h
  cases e : xs.getD i .non <;> rw [e] at h <;> first | exact ⟨_, rfl⟩ | exact nomatch h.1
theorem at_backV {xs : List V} {i : Int} (h0 : i < 0) (h : -(xs.length : Int) ≤ i) : atI xs i = some (xs.getD (i + xs.length).toNat .non) := by
  unfold atI ixN
  rw [if_neg (by omega), if_pos h]
  have hl : (i + xs.length).toNat < xs.length := by omega
  show xs[(i + xs.length).toNat]? = _
  rw [List.getD_eq_getElem?_getD, List.getElem?_eq_getElem hl]
  rfl
theorem per_of {p : Int} (h : inV (.int p) perV = true) : p = 1 ∨ p = 2 ∨ p = 3 ∨ p = 4 ∨ p = 6 ∨ p = 12 := by
  have h2 : ∃ y ∈ perV, eqV y (.int p) = true := by
    unfold inV at h
    rw [List.any_eq_true] at h
    exact h
  obtain ⟨y, hy, he⟩ := h2
  simp only [perV, List.mem_cons, List.not_mem_nil, or_false] at hy
  rcases hy with rfl | rfl | rfl | rfl | rfl | rfl <;> simp [eqV] at he <;> omega
/-- the kind of a thing, whatever is made beside it -/
def KdS (K : PySem.W.Frag) (H : Hp) (v : V) (n : String) : Prop := ∀ H', Same H H' → Kd K H' v n
theorem KdS.same {K : PySem.W.Frag} {H H' : Hp} {v : V} {n : String} (h : KdS K H v n) (s : Same H H') : KdS K H' v n := fun G t => h G (s.trans t)
theorem KdS.kd {K : PySem.W.Frag} {H : Hp} {v : V} {n : String} (h : KdS K H v n) : Kd K H v n := h H (Same.refl _)
theorem Kd.isI {K : PySem.W.Frag} {H : Hp} {v : V} {n : String} (h : Kd K H v n) : (n == "int") = isI v := by
  by_cases e : n = "int"
  · subst e
    obtain ⟨i, rfl⟩ := h.is_int
    rfl
  · have e1 : (n == "int") = false := by simpa using e
    rw [e1]
    cases v <;> first | rfl | skip
    obtain ⟨h, _⟩ := h
    generalize et : Value.type n = t at h
    cases h with
    | base b => cases b; injection et with et; exact absurd et e
/-- the values, the period, the gain as they are handed in, and what is wrong -/
def Prb (K : PySem.W.Frag) (H : Hp) (v c m : V) (W : Option (Str × Nat)) : Prop :=
  (∃ n, KdS K H v n ∧ n ≠ "list" ∧ W = some (("list" : Str), 0)) ∨
  ∃ l xs, v = .ref l ∧ H l = some (.lst xs) ∧ (∀ x ∈ xs, ∃ n, KdS K H x n) ∧ (∃ n, KdS K H c n) ∧ (∃ n, KdS K H m n) ∧ W = wrongL xs c m
theorem Prb.same {K : PySem.W.Frag} {H H' : Hp} {v c m : V} {W : Option (Str × Nat)} (h : Prb K H v c m W) (s : Same H H') : Prb K H' v c m W := by
  rcases h with ⟨n, a, b, e⟩ | ⟨l, xs, a, b, d, ⟨n, e⟩, ⟨n', f⟩, g⟩
  · exact .inl ⟨n, a.same s, b, e⟩
  · exact .inr ⟨l, xs, a, s _ _ b, fun x hx => by obtain ⟨n, q⟩ := d x hx; exact ⟨n, q.same s⟩, ⟨n, e.same s⟩, ⟨n', f.same s⟩, g⟩
/-- what is told -/
def Tol (W : Option (Str × Nat)) (Q : VK) (H : Hp) : Prop :=
  match W with
  | none => Q .non H
  | some (s, i) => ∀ t, H t = none → Q (.ref t) (upd H t (.tup [.str s, .int (i : Nat)]))
def sp_find_problem (K : PySem.W.Frag) (_ : Ad) : Sp := fun vs H Q _ => ∃ (v c m : V) (W : Option (Str × Nat)), vs = [v, c, m] ∧ Prb K H v c m W ∧ ∀ H', Same H H' → Tol W Q H'
section
variable {P : Program} {w : World} {K : PySem.W.Frag} {mg : Str → Option Value} {base : Heap} {A : Ad}
theorem kitL {n : String} (h : n ∈ kinds) : PySem.W.kitOne K (.type n) (.type "list") = some (n == "list") := by
  simp only [kinds, List.mem_cons, List.not_mem_nil, or_false] at h
  rcases h with rfl | rfl | rfl | rfl | rfl | rfl | rfl <;> exact kit_ty (by decide +kernel)
theorem ok_find_problem (T : Txt K mg A) : FnOk P w K mg base CX0 4 A.f_find_problem A.d_find_problem ["values", "period", "gain"] (sp_find_problem K A) := by
  have G_is_count_to := ok_is_count_to (P := P) (w := w) (base := base) T
  have G_is_integer := ok_is_integer (P := P) (w := w) (base := base) T
  refine T.F_find_problem.ok sc_find_problem (fun vs H Q E h => ?_) (fun cdv A0 outer s H vs Q E hr h => ?_)
  · obtain ⟨v, c, m, W, rfl, hP, k⟩ := h
    rfl
  · obtain ⟨v, c, m, W, rfl, hP, k⟩ := h
    refine ⟨_, (pss_cons (ps_if (pt_not (pt_val (pe_callB (r := rIsi K) call_isi (by rfl) T.isinstance (by decide +kernel) (pa_cons (pv 0) (pa_cons (pe_bltn (v := .ty "list") (u := .type "list") (by rfl) T.list (by decide +kernel) (by exact rfl)) pa_nil))))) (pss_one (ps_ret (pe_tup (pa_cons pe_str (pa_cons pe_int pa_nil))))) pss_nil)
    (pss_cons (ps_if (pt_not (pt_chain op_le op_le pe_int (pe_callB (r := VG.rLen K) VG.call_len (by rfl) T.len (by decide +kernel) (pa_cons (pv 0) pa_nil)) (pe_glob (v := .int 24) rfl T.v_MAX_VALUES ⟨_, rfl⟩))) (pss_one (ps_ret (pe_tup (pa_cons pe_str (pa_cons pe_int pa_nil))))) pss_nil)
    (pss_cons (ps_set (i := 3) sc_find_problem.nd rfl (by first | exact Or.inl rfl | exact Or.inr rfl) pe_int)
    (pss_cons (ps_for PassesOwn.never rfl (pi_enum (by rfl) T.enumerate (pa_cons (pv 0) pa_nil)) (pg_tup rfl (pgs_cons (pg_name (i := 4) sc_find_problem.nd rfl (by first | exact Or.inl rfl | exact Or.inr rfl)) (pgs_cons (pg_name (i := 5) sc_find_problem.nd rfl (by first | exact Or.inl rfl | exact Or.inr rfl)) pgs_nil)))
      (pss_cons (ps_if (PW.pt (pw_or (pt_not (pt_val (pe_call G_is_count_to (hr.mono (by decide)) rfl T.m_is_count_to T.k_is_count_to T.b_is_count_to .nil pass0 (pa_cons (pv 5) (pa_cons (pe_glob (v := .int 2000) rfl T.v_MAX_VALUE ⟨_, rfl⟩) pa_nil))))) (pw_or1 (pt_cmpR op_lt (pv 5) (pv 3) (nomark _))))) (pss_one (ps_ret (pe_tup (pa_cons pe_str (pa_cons (pv 4) pa_nil))))) pss_nil)
    (pss_one (ps_set (i := 3) sc_find_problem.nd rfl (by first | exact Or.inl rfl | exact Or.inr rfl) (pv 5)))))
    (pss_cons (ps_if (PW.pt (pw_or (pt_not (pt_val (pe_call G_is_integer (hr.mono (by decide)) rfl T.m_is_integer T.k_is_integer T.b_is_integer .nil pass0 (pa_cons (pv 1) pa_nil)))) (pw_or (pt_cmpR (r := rIn K true) op_notIn_seq (pv 1) (pe_glob (v := .ref A.a_PERIODS) rfl T.v_PERIODS rfl) (by rfl)) (pw_or1 (pt_cmpR op_gt (pv 1) (pe_callB (r := VG.rLen K) VG.call_len (by rfl) T.len (by decide +kernel) (pa_cons (pv 0) pa_nil)) (nomark _)))))) (pss_one (ps_ret (pe_tup (pa_cons pe_str (pa_cons pe_int pa_nil))))) pss_nil)
    (pss_cons (ps_if (PW.pt (pw_or (pt_not (pt_val (pe_call G_is_count_to (hr.mono (by decide)) rfl T.m_is_count_to T.k_is_count_to T.b_is_count_to .nil pass0 (pa_cons (pv 2) (pa_cons (pe_glob (v := .int 2000) rfl T.v_MAX_VALUE ⟨_, rfl⟩) pa_nil))))) (pw_or1 (pt_cmpR op_lt (pe_op op_add (pe_ix (r := rIxL K) ix_list (pv 0) (pe_un un_neg (pv 1)) (fun _ _ => rfl)) (pv 2)) (pe_ix (r := rIxL K) ix_list (pv 0) (pe_un un_neg pe_int) (fun _ _ => rfl)) (nomark _))))) (pss_one (ps_ret (pe_tup (pa_cons pe_str (pa_cons pe_int pa_nil))))) pss_nil)
    (pss_one (ps_ret pe_non)))))))), ?_⟩
    rcases hP with ⟨n, hk, hn, rfl⟩ | ⟨l, xs, rfl, hS0, hx, ⟨nc, hc⟩, ⟨nm, hm⟩, rfl⟩
    · refine ⟨_, rfl, v, .ty "list", _, _, _, rfl, .ty _, hk.kd.1, kitL hk.kd.2, _, rfl, ?_⟩
      have e : (n == "list") = false := by simpa using hn
      rw [e]
      exact iteT ⟨by show 2 ≤ sizeLine; decide, k H (Same.refl _)⟩
    have hS := SqL.of (K := K) hS0
    refine ⟨_, rfl, .ref l, .ty "list", _, _, _, rfl, .ty _, (Kd.list hS).1, (show PySem.W.kitOne K (.type "list") (.type "list") = some true from kit_ty (by decide +kernel)), _, rfl, iteF ?_⟩
    refine ⟨_, rfl, l, _, rfl, .inl hS, _, _, rfl, rfl, _, rfl, ?_⟩
    by_cases hlen : 1 ≤ xs.length ∧ xs.length ≤ 24
    case neg =>
      rw [wrong_count hlen] at k
      refine ifD (fun c1 => ?_) (fun c1 => ?_)
      · refine ⟨_, _, rfl, rfl, _, rfl, ?_⟩
        have e : decide ((xs.length : Int) ≤ 24) = false := decide_eq_false (by omega)
        rw [e]
        exact iteT ⟨by show 2 ≤ sizeLine; decide, k H (Same.refl _)⟩
      · refine ⟨_, rfl, iteT ⟨by show 2 ≤ sizeLine; decide, k H (Same.refl _)⟩⟩
    refine ifD (fun _ => ?_) (fun c => absurd (show (1 : Int) ≤ xs.length by omega) c)
    refine ⟨_, _, rfl, rfl, _, rfl, iteNS (by omega) ?_⟩
    refine ⟨_, rfl, l, _, rfl, hS, for_it (walk_enum (K := K) (a := l) (xs := xs)) (fun i σ H' => ∃ v5 v6, σ = [some (.ref l), some c, some m, some (.int (bef xs i)), v5, v6] ∧ Same H H' ∧ (∀ j, j < i → gud xs j = true))
      ⟨_, _, rfl, Same.refl H, fun j hj => absurd hj (Nat.not_lt_zero j)⟩ (fun i σ H' _ ⟨_, _, _, s0, _⟩ => s0.seq hS) ?_ ?_⟩
    · rintro i x σ H' H2 hi ⟨v5, v6, rfl, s0, hg⟩ ⟨t, a, b, rfl, ht, rfl, ea, eb⟩
      have eb' : xs[i]? = some b := eb
      cases ea
      have ex : xs.getD i .non = b := by rw [List.getD_eq_getElem?_getD, eb']; rfl
      obtain ⟨n, hn⟩ := hx b (List.mem_of_getElem? eb')
      have s2 : Same H (upd H' t (.tup [.int (i : Nat), b])) := Same.upd s0 (s0.free ht)
      refine ⟨t, _, rfl, SqT.of upd_same, rfl, _, _, rfl, _, _, rfl, rfl, ?_⟩
      refine ⟨_, rfl, _, n, _, rfl, hn _ s2, ?_⟩
      have bad : gud xs i = false → ∀ q, upd H' t (.tup [.int (i : Nat), b]) q = none → Q (.ref q) (upd (upd H' t (.tup [.int (i : Nat), b])) q (.tup [.str "value", .int (i : Nat)])) := by
        intro hb
        have k2 := k _ s2
        rw [wrong_value hlen hi hb hg] at k2
        exact k2
      have ge : gud xs i = (cntTo 2000 b && decide (bef xs i ≤ vI b)) := by unfold gud; rw [ex]
      refine ⟨_, rfl, ?_⟩
      cases hcn : cntTo 2000 b with
      | false => exact iteT ⟨_, rfl, by show 2 ≤ sizeLine; decide, bad (by rw [ge, hcn]; rfl)⟩
      | true =>
        obtain ⟨z, rfl⟩ : ∃ z, b = .int z := by cases b <;> first | exact ⟨_, rfl⟩ | cases hcn
        refine iteF ⟨_, rfl, _, rfl, _, _, rfl, rfl, _, rfl, ?_⟩
        refine ifD (fun c1 => ⟨_, rfl, by show 2 ≤ sizeLine; decide, bad ?_⟩) (fun c1 => ?_)
        · rw [ge, hcn, Bool.true_and]
          exact decide_eq_false (by show ¬ bef xs i ≤ z; omega)
        · refine ⟨_, rfl, some (.int (i : Nat)), some (.int z), ?_, s2, fun j hj => ?_⟩
          · have e : bef xs (i + 1) = z := by
              unfold bef
              rw [if_neg (Nat.succ_ne_zero i), show i + 1 - 1 = i from rfl, ex]
              rfl
            rw [e]
            rfl
          · by_cases e : j = i
            · subst e
              rw [ge, hcn, Bool.true_and]
              exact decide_eq_true (by show bef xs j ≤ z; omega)
            · exact hg j (by omega)
    · rintro σ H' ⟨v5, v6, rfl, s0, hg⟩
      have hS' := s0.seq hS
      rw [wrong_rest hlen hg] at k
      have pbad : perOk c xs.length = false → ∀ q, H' q = none → Q (.ref q) (upd H' q (.tup [.str "period", .int 0])) := by
        intro hb
        have k2 := k _ s0
        rw [hb, if_neg (by decide)] at k2
        exact k2
      refine ⟨_, rfl, _, nc, rfl, hc _ s0, _, rfl, ?_⟩
      rw [(hc _ s0).isI]
      have pe : perOk c xs.length = (isI c && (inV c perV && decide (vI c ≤ (xs.length : Nat)))) := rfl
      cases hci : isI c with
      | false => exact iteT ⟨by show 2 ≤ sizeLine; decide, pbad (by rw [pe, hci]; rfl)⟩
      | true =>
        obtain ⟨p, rfl⟩ : ∃ p, c = .int p := by cases c <;> first | exact ⟨_, rfl⟩ | cases hci
        rw [hci, Bool.true_and] at pe
        refine iteF ⟨_, rfl, A.a_PERIODS, _, rfl, .inr (T.periods H'), rfl, rfl, _, rfl, ?_⟩
        show if (!inV (.int p) perV) = true then _ else _
        cases hin : inV (.int p) perV with
        | false => exact iteT ⟨by show 2 ≤ sizeLine; decide, pbad (by rw [pe, hin]; rfl)⟩
        | true =>
          rw [hin, Bool.true_and] at pe
          refine iteF ⟨_, rfl, _, rfl, l, _, rfl, .inl hS', _, _, rfl, rfl, _, rfl, ?_⟩
          refine ifD (fun c1 => ⟨by show 2 ≤ sizeLine; decide, pbad (by rw [pe]; exact decide_eq_false (by show ¬ p ≤ _; omega))⟩) (fun c1 => ?_)
          have pok : perOk (.int p) xs.length = true := by rw [pe]; exact decide_eq_true (by show p ≤ _; omega)
          rw [pok, if_pos rfl] at k
          have gbad : gainOk xs (.int p) m = false → ∀ q, H' q = none → Q (.ref q) (upd H' q (.tup [.str "gain", .int 0])) := by
            intro hb
            have k2 := k _ s0
            rw [hb, if_neg (by decide)] at k2
            exact k2
          have gok : gainOk xs (.int p) m = true → Q .non H' := by
            intro hb
            have k2 := k _ s0
            rw [hb, if_pos rfl] at k2
            exact k2
          have ge : gainOk xs (.int p) m = (cntTo 2000 m && decide (vI (xs.getD (xs.length - 1) .non) ≤ vI (xs.getD (xs.length - p.toNat) .non) + vI m)) := rfl
          have pp : 1 ≤ p ∧ p ≤ 12 := by
            rcases per_of hin with h | h | h | h | h | h <;> omega
          have pn : p ≤ (xs.length : Nat) := by omega
          refine ⟨_, rfl, m, nm, _, rfl, hm _ s0, _, rfl, ?_⟩
          cases hcn : cntTo 2000 m with
          | false => exact iteT ⟨by show 2 ≤ sizeLine; decide, gbad (by rw [ge, hcn]; rfl)⟩
          | true =>
            obtain ⟨z, rfl⟩ : ∃ z, m = .int z := by cases m <;> first | exact ⟨_, rfl⟩ | cases hcn
            rw [hcn, Bool.true_and] at ge
            have l1 := hlen.1
            have i1 : xs.length - p.toNat < xs.length := by omega
            have i2 : xs.length - 1 < xs.length := by omega
            obtain ⟨y1, e1⟩ := gud_int (hg _ i1)
            obtain ⟨y2, e2⟩ := gud_int (hg _ i2)
            have a1 : atI xs (-p) = some (.int y1) := by
              rw [at_backV (by omega) (by omega), show (-p + (xs.length : Int)).toNat = xs.length - p.toNat by omega, e1]
            have a2 : atI xs (-1) = some (.int y2) := by
              rw [at_backV (by omega) (by omega), show (-1 + (xs.length : Int)).toNat = xs.length - 1 by omega, e2]
            rw [e1, e2] at ge
            refine iteF ⟨_, rfl, _, rfl, _, rfl, l, _, _, _, rfl, rfl, hS', a1, _, rfl, _, _, rfl, rfl, _, rfl, _, rfl, l, _, _, _, rfl, rfl, hS', a2, _, _, rfl, rfl, _, rfl, ?_⟩
            refine ifD (fun c1 => ⟨by show 2 ≤ sizeLine; decide, gbad ?_⟩) (fun c1 => gok ?_)
            · rw [ge]; exact decide_eq_false (by show ¬ y2 ≤ y1 + z; omega)
            · rw [ge]; exact decide_eq_true (by show y2 ≤ y1 + z; omega)
end
end VK


namespace VK
open PySem PySem.Spec PyProof.Rows L2 VM
/-- the attributes of a curve -/
def cfs (l : Addr) (p g : Int) (w : Bool) (b : V) : List (Str × V) := [("_values", V.ref l), ("_period", V.int p), ("_gain", V.int g), ("_was_searched", V.bl w), ("_break", b)]
theorem n_vp : ¬ (("_values" : Str) = "_period") := by decide +kernel
theorem n_vg : ¬ (("_values" : Str) = "_gain") := by decide +kernel
theorem n_pg : ¬ (("_period" : Str) = "_gain") := by decide +kernel
theorem n_vw : ¬ (("_values" : Str) = "_was_searched") := by decide +kernel
theorem n_pw : ¬ (("_period" : Str) = "_was_searched") := by decide +kernel
theorem n_gw : ¬ (("_gain" : Str) = "_was_searched") := by decide +kernel
theorem n_vb : ¬ (("_values" : Str) = "_break") := by decide +kernel
theorem n_pb : ¬ (("_period" : Str) = "_break") := by decide +kernel
theorem n_gb : ¬ (("_gain" : Str) = "_break") := by decide +kernel
theorem n_wb : ¬ (("_was_searched" : Str) = "_break") := by decide +kernel
theorem put1 (v : V) : putF "_values" v [] = [(("_values" : Str), v)] := rfl
theorem put2 (v u : V) : putF "_period" u [(("_values" : Str), v)] = [(("_values" : Str), v), ("_period", u)] := by
  show (if ("_values" : Str) = "_period" then _ else (("_values" : Str), v) :: putF "_period" u []) = _
  rw [if_neg n_vp]
  rfl
theorem put3 (v u z : V) : putF "_gain" z [(("_values" : Str), v), ("_period", u)] = [(("_values" : Str), v), ("_period", u), ("_gain", z)] := by
  show (if ("_values" : Str) = "_gain" then _ else (("_values" : Str), v) :: (if ("_period" : Str) = "_gain" then _ else (("_period" : Str), u) :: putF "_gain" z [])) = _
  rw [if_neg n_vg, if_neg n_pg]
  rfl
theorem put4 (v u z y : V) : putF "_was_searched" y [(("_values" : Str), v), ("_period", u), ("_gain", z)] = [(("_values" : Str), v), ("_period", u), ("_gain", z), ("_was_searched", y)] := by
  show (if ("_values" : Str) = "_was_searched" then _ else (("_values" : Str), v) :: (if ("_period" : Str) = "_was_searched" then _ else (("_period" : Str), u) :: (if ("_gain" : Str) = "_was_searched" then _ else (("_gain" : Str), z) :: putF "_was_searched" y []))) = _
  rw [if_neg n_vw, if_neg n_pw, if_neg n_gw]
  rfl
theorem put5 (v u z y x : V) : putF "_break" x [(("_values" : Str), v), ("_period", u), ("_gain", z), ("_was_searched", y)] = [(("_values" : Str), v), ("_period", u), ("_gain", z), ("_was_searched", y), ("_break", x)] := by
  show (if ("_values" : Str) = "_break" then _ else (("_values" : Str), v) :: (if ("_period" : Str) = "_break" then _ else (("_period" : Str), u) :: (if ("_gain" : Str) = "_break" then _ else (("_gain" : Str), z) :: (if ("_was_searched" : Str) = "_break" then _ else (("_was_searched" : Str), y) :: putF "_break" x [])))) = _
  rw [if_neg n_vb, if_neg n_pb, if_neg n_gb, if_neg n_wb]
  rfl
theorem cset_w (l : Addr) (p g : Int) (w : Bool) (b : V) : putF "_was_searched" (.bl true) (cfs l p g w b) = cfs l p g true b := by
  show (if ("_values" : Str) = "_was_searched" then _ else (("_values" : Str), V.ref l) :: (if ("_period" : Str) = "_was_searched" then _ else (("_period" : Str), V.int p) :: (if ("_gain" : Str) = "_was_searched" then _ else (("_gain" : Str), V.int g) :: (if ("_was_searched" : Str) = "_was_searched" then _ else _)))) = _
  rw [if_neg n_vw, if_neg n_pw, if_neg n_gw, if_pos rfl]
  rfl
theorem cset_b (l : Addr) (p g : Int) (w : Bool) (b c : V) : putF "_break" c (cfs l p g w b) = cfs l p g w c := by
  show (if ("_values" : Str) = "_break" then _ else (("_values" : Str), V.ref l) :: (if ("_period" : Str) = "_break" then _ else (("_period" : Str), V.int p) :: (if ("_gain" : Str) = "_break" then _ else (("_gain" : Str), V.int g) :: (if ("_was_searched" : Str) = "_break" then _ else (("_was_searched" : Str), V.bl w) :: (if ("_break" : Str) = "_break" then _ else _))))) = _
  rw [if_neg n_vb, if_neg n_pb, if_neg n_gb, if_neg n_wb, if_pos rfl]
  rfl
theorem cfs_v (l : Addr) (p g : Int) (w : Bool) (b : V) : (cfs l p g w b).lookup ("_values" : Str) = some (.ref l) := by
  unfold cfs; simp [List.lookup]
theorem cfs_p (l : Addr) (p g : Int) (w : Bool) (b : V) : (cfs l p g w b).lookup ("_period" : Str) = some (.int p) := by
  have h : (("_period" : Str) == "_values") = false := by decide +kernel
  unfold cfs; simp [List.lookup, h]
theorem cfs_g (l : Addr) (p g : Int) (w : Bool) (b : V) : (cfs l p g w b).lookup ("_gain" : Str) = some (.int g) := by
  have h : (("_gain" : Str) == "_values") = false := by decide +kernel
  have h2 : (("_gain" : Str) == "_period") = false := by decide +kernel
  unfold cfs; simp [List.lookup, h, h2]
theorem cfs_w (l : Addr) (p g : Int) (w : Bool) (b : V) : (cfs l p g w b).lookup ("_was_searched" : Str) = some (.bl w) := by
  have h : (("_was_searched" : Str) == "_values") = false := by decide +kernel
  have h2 : (("_was_searched" : Str) == "_period") = false := by decide +kernel
  have h3 : (("_was_searched" : Str) == "_gain") = false := by decide +kernel
  unfold cfs; simp [List.lookup, h, h2, h3]
theorem cfs_b (l : Addr) (p g : Int) (w : Bool) (b : V) : (cfs l p g w b).lookup ("_break" : Str) = some b := by
  have h : (("_break" : Str) == "_values") = false := by decide +kernel
  have h2 : (("_break" : Str) == "_period") = false := by decide +kernel
  have h3 : (("_break" : Str) == "_gain") = false := by decide +kernel
  have h4 : (("_break" : Str) == "_was_searched") = false := by decide +kernel
  unfold cfs; simp [List.lookup, h, h2, h3, h4]
theorem cfs_no (l : Addr) (p g : Int) {w : Bool} {b : V} {m : Str} (h1 : (m == ("_values" : Str)) = false) (h2 : (m == ("_period" : Str)) = false) (h3 : (m == ("_gain" : Str)) = false) (h4 : (m == ("_was_searched" : Str)) = false := by decide +kernel) (h5 : (m == ("_break" : Str)) = false := by decide +kernel) : (cfs l p g w b).lookup m = none := by
  unfold cfs; simp [List.lookup, h1, h2, h3, h4, h5]
/-- a curve whose form is this -/
def CrvAt (A : Ad) (H : Hp) (x : Addr) (vs : List Int) (p g : Int) : Prop := ∃ dx l w b, H x = some (.ins A.Curve dx (cfs l p g w b)) ∧ H l = some (.lst (vs.map V.int))
theorem CrvAt.same {A : Ad} {H H' : Hp} {x : Addr} {vs : List Int} {p g : Int} (h : CrvAt A H x vs p g) (s : Same H H') : CrvAt A H' x vs p g := by
  obtain ⟨dx, l, w, b, h1, h2⟩ := h
  exact ⟨dx, l, w, b, s _ _ h1, s _ _ h2⟩
theorem okrow {xs : List V} {c m : V} (h : wrongL xs c m = none) : ∃ (ns : List Int) (p g : Int), xs = ns.map V.int ∧ c = .int p ∧ m = .int g ∧ OkRow ns p g := by
  unfold wrongL at h
  split at h
  case isFalse => cases h
  rename_i hl
  split at h
  · cases h
  rename_i hf
  rw [List.find?_range_eq_none] at hf
  have hg : ∀ j, j < xs.length → gud xs j = true := fun j hj => by simpa using hf j hj
  split at h
  case isFalse => cases h
  rename_i hp
  split at h
  case isFalse => cases h
  rename_i hgn
  have hint : ∀ x ∈ xs, ∃ z, x = .int z := by
    intro x hx
    obtain ⟨j, hj, e⟩ := List.getElem_of_mem hx
    obtain ⟨z, ez⟩ := gud_int (hg j hj)
    rw [List.getD_eq_getElem?_getD, List.getElem?_eq_getElem hj] at ez
    exact ⟨z, by rw [← e]; exact ez⟩
  obtain ⟨ns, rfl⟩ : ∃ ns : List Int, xs = ns.map V.int := by
    clear hp hgn hf hg hl
    induction xs with
    | nil => exact ⟨[], rfl⟩
    | cons x xs ih =>
      obtain ⟨z, rfl⟩ := hint x (List.mem_cons_self ..)
      obtain ⟨ns, e⟩ := ih (fun y hy => hint y (List.mem_cons_of_mem _ hy))
      exact ⟨z :: ns, by rw [e]; rfl⟩
  rw [List.length_map] at hl hg hp
  have gD : ∀ j, j < ns.length → (ns.map V.int).getD j .non = .int (ns.getD j 0) := fun j hj => by
    rw [List.getD_eq_getElem?_getD, getD_map hj]; rfl
  have hgood : ∀ j, j < ns.length → (0 ≤ ns.getD j 0 ∧ ns.getD j 0 ≤ 2000) ∧ bef (ns.map V.int) j ≤ ns.getD j 0 := fun j hj => by
    have q := hg j hj
    unfold gud at q
    rw [gD j hj, Bool.and_eq_true] at q
    exact ⟨of_decide_eq_true q.1, of_decide_eq_true q.2⟩
  unfold perOk at hp
  rw [Bool.and_eq_true, Bool.and_eq_true] at hp
  obtain ⟨h1, h2, h3⟩ := hp
  obtain ⟨p, rfl⟩ : ∃ p, c = .int p := by cases c <;> first | exact ⟨_, rfl⟩ | cases h1
  have h3 : p ≤ ns.length := of_decide_eq_true h3
  unfold gainOk at hgn
  rw [Bool.and_eq_true] at hgn
  obtain ⟨g1, g2⟩ := hgn
  obtain ⟨g, rfl⟩ : ∃ g, m = .int g := by cases m <;> first | exact ⟨_, rfl⟩ | cases g1
  have g1 : 0 ≤ g ∧ g ≤ 2000 := of_decide_eq_true g1
  have per := per_of h2
  have pp : 1 ≤ p ∧ p ≤ 12 := by rcases per with h | h | h | h | h | h <;> omega
  rw [List.length_map] at g2
  have l1 := hl.1
  have g2 := of_decide_eq_true g2
  rw [gD _ (by omega), gD _ (by show ns.length - p.toNat < _; omega)] at g2
  refine ⟨ns, p, g, rfl, rfl, rfl, hl.1, hl.2, fun i hi => (hgood i hi).1.1, fun i hi => (hgood i hi).1.2, fun i hi => ?_, per, h3, g1.1, g1.2, g2⟩
  have q := (hgood (i + 1) hi).2
  unfold bef at q
  rw [if_neg (Nat.succ_ne_zero i), show i + 1 - 1 = i from rfl, gD i (by omega)] at q
  exact q
def sp_InvalidCurve_init (_ : PySem.W.Frag) (A : Ad) : Sp := fun vs H Q _ => ∃ (e : Addr) (y z : V), vs = [.ref e, y, z] ∧ H e = some (exo e A.InvalidCurve none) ∧
  ∀ d, H d = none → d ≠ e → Q .non (upd (upd (upd H d (exd d [("problem", y)])) e (exo e A.InvalidCurve (some d))) d (exd d [("position", z), ("problem", y)]))
/-- made, or refused -/
def sp_C_init (K : PySem.W.Frag) (A : Ad) : Sp := fun vs H Q E => ∃ (x dx : Addr) (v c m : V) (W : Option (Str × Nat)), vs = [.ref x, v, c, m] ∧ H x = some (.ins A.Curve dx []) ∧ Prb K H v c m W ∧
  match W with
  | none => ∀ H', (∀ b o, b ≠ x → H b = some o → H' b = some o) → Q .non H'
  | some (s, i) => ∀ H' d, Same H H' → H' d = some (.xd [("position", .int (i : Nat)), ("problem", .str s)]) → E (.ref A.InvalidCurve) (some d) H'
section
variable {P : Program} {w : World} {K : PySem.W.Frag} {mg : Str → Option Value} {base : Heap} {A : Ad}
theorem ok_InvalidCurve_init (T : Txt K mg A) : FnOk P w K mg base CX0 1 A.f_InvalidCurve_init A.d_InvalidCurve_init ["self", "problem", "position"] (sp_InvalidCurve_init K A) := by
  refine T.F_InvalidCurve_init.ok sc_InvalidCurve_init (fun vs H Q E h => ?_) (fun cdv A0 outer s H vs Q E hr h => ?_)
  · obtain ⟨e, y, z, rfl, he, k⟩ := h
    rfl
  · obtain ⟨e, y, z, rfl, he, k⟩ := h
    refine ⟨_, (pss_cons (VX.ps_put (pv 0) (pv 1))
    (pss_one (VX.ps_put (pv 0) (pv 2)))), ?_⟩
    refine ⟨_, rfl, _, rfl, e, A.InvalidCurve, rfl, T.O_InvalidCurve, T.n_InvalidCurve_problem, .inl ⟨he, fun d hd hde => ?_⟩⟩
    exact ⟨_, rfl, _, rfl, e, A.InvalidCurve, rfl, T.O_InvalidCurve, T.n_InvalidCurve_position, .inr ⟨d, _, upd_same, by rw [upd_ne hde]; exact upd_same, by show 1 ≤ 900; decide, k d hd hde⟩⟩
theorem ok_C_init (T : Txt K mg A) : FnOk P w K mg base (L2.CX P w) 5 A.f_C_init A.d_C_init ["self", "values", "period", "gain"] (sp_C_init K A) := by
  have G_InvalidCurve_init := ok_InvalidCurve_init (P := P) (w := w) (base := base) T
  have G_find_problem := ok_find_problem (P := P) (w := w) (base := base) T
  have G_least_form := ok_least_form (P := P) (w := w) (base := base) T
  refine T.F_C_init.okX sc_C_init (fun vs H Q E h => ?_) (fun cdv A0 outer s H vs Q E hr h => ?_)
  · obtain ⟨x, dx, v, c, m, W, rfl, hx, hP, k⟩ := h
    rfl
  · obtain ⟨x, dx, v, c, m, W, rfl, hx, hP, k⟩ := h
    refine ⟨_, (pss_cons (ps_set (i := 4) sc_C_init.nd rfl (by first | exact Or.inl rfl | exact Or.inr rfl) (pe_call G_find_problem (hr.mono (by decide)) rfl T.m_find_problem T.k_find_problem T.b_find_problem .nil pass0 (pa_cons (pv 1) (pa_cons (pv 2) (pa_cons (pv 3) pa_nil)))))
    (pss_cons (ps_if (pt_cmp (pc_notN (pv 4)) rfl) (pss_one (ps_raise rfl (takes_of rfl rfl rfl rfl) (VX.pmk_new T.O_InvalidCurve T.iC_InvalidCurve T.tI_InvalidCurve G_InvalidCurve_init (hr.mono (by decide)) T.b_InvalidCurve_init pass0 rfl T.m_InvalidCurve (pa_cons (pe_ix (r := rIxT K) ix_tup (pv 4) pe_int (fun _ _ => rfl)) (pa_cons (pe_ix (r := rIxT K) ix_tup (pv 4) pe_int (fun _ _ => rfl)) pa_nil))))) pss_nil)
    (pss_cons (ps_asg (pe_call G_least_form (hr.mono (by decide)) rfl T.m_least_form T.k_least_form T.b_least_form .nil pass0 (pa_cons (pv 1) (pa_cons (pv 2) (pa_cons (pv 3) pa_nil)))) (pg_tup rfl (pgs_cons (pg_name (i := 5) sc_C_init.nd rfl (by first | exact Or.inl rfl | exact Or.inr rfl)) (pgs_cons (pg_name (i := 6) sc_C_init.nd rfl (by first | exact Or.inl rfl | exact Or.inr rfl)) (pgs_cons (pg_name (i := 7) sc_C_init.nd rfl (by first | exact Or.inl rfl | exact Or.inr rfl)) pgs_nil)))))
    (pss_cons (ps_fld (pv 0) (pv 5) rfl)
    (pss_cons (ps_fld (pv 0) (pv 6) rfl)
    (pss_cons (ps_fld (pv 0) (pv 7) rfl)
    (pss_cons (ps_fld (pv 0) pe_bl rfl)
    (pss_one (ps_fld (pv 0) pe_non rfl))))))))), ?_⟩
    refine ⟨_, rfl, _, rfl, _, rfl, v, c, m, W, rfl, hP, fun H1 s1 => ?_⟩
    cases W with
    | none =>
      rcases hP with ⟨n, _, _, h⟩ | ⟨l, ys, rfl, hS0, _, _, _, hW⟩
      · cases h
      have hS := SqL.of (K := K) hS0
      obtain ⟨xs, p, g, rfl, rfl, rfl, R⟩ := okrow hW.symm
      have pp : 0 < p ∧ p ≤ 12 := by rcases R.per with h | h | h | h | h | h <;> omega
      unfold Tol
      refine ⟨_, rfl, _, rfl, iteF ?_⟩
      refine ⟨_, rfl, _, rfl, _, rfl, l, xs, p, g, rfl, s1.seq hS, pp.1, R.pn, by have := R.l2; omega, fun H2 t l' s2 ht0 hl0 ht hl => ?_⟩
      refine ⟨t, _, rfl, SqT.of ht, rfl, _, _, rfl, _, _, rfl, _, _, rfl, rfl, ?_⟩
      have s02 : Same H H2 := s1.trans s2
      have hx2 := s02 _ _ hx
      have nlx : l' ≠ x := fun z => by rw [z, s1 _ _ hx] at hl0; cases hl0
      refine ⟨_, rfl, _, rfl, x, _, dx, _, rfl, hx2, T.cl, T.n_values, (by show 0 < 1000; decide), ?_⟩
      refine ⟨_, rfl, _, rfl, x, _, dx, _, rfl, upd_same, T.cl, T.n_period, (by show 1 < 1000; decide), ?_⟩
      refine ⟨_, rfl, _, rfl, x, _, dx, _, rfl, upd_same, T.cl, T.n_gain, (by rw [put1, put2]; show 2 < 1000; decide), ?_⟩
      refine ⟨_, rfl, x, _, dx, _, rfl, upd_same, T.cl, T.n_was_searched, (by rw [put1, put2, put3]; show 3 < 1000; decide), ?_⟩
      refine ⟨_, rfl, x, _, dx, _, rfl, upd_same, T.cl, T.n_break, (by rw [put1, put2, put3, put4]; show 4 < 1000; decide), ?_⟩
      refine k _ (fun b o hb e => ?_)
      rw [upd_ne hb, upd_ne hb, upd_ne hb, upd_ne hb, upd_ne hb]; exact s02 _ _ e
    | some si =>
      obtain ⟨s0, i⟩ := si
      intro t ht
      have s2 : Same H (upd H1 t (.tup [.str s0, .int (i : Nat)])) := Same.upd s1 (s1.free ht)
      refine ⟨_, rfl, _, rfl, iteT ?_⟩
      refine ⟨_, rfl, t, _, _, _, rfl, rfl, SqT.of upd_same, rfl, _, rfl, t, _, _, _, rfl, rfl, SqT.of upd_same, rfl, (by show 2 ≤ 1000; decide), fun e he => ⟨e, _, _, rfl, upd_same, fun d hd hde => ⟨rfl, d, _, ?_, upd_same, ?_, ?_⟩⟩⟩
      · rw [upd_ne (Ne.symm hde)]; exact upd_same
      · rw [upd_ne hde] at hd; exact hd
      · rw [upd_ne hde] at hd
        refine k _ d (fun c o q => ?_) upd_same
        have q2 := s2 c o q
        have nd : c ≠ d := ne_of_none q2 hd
        have ne : c ≠ e := ne_of_none q2 he
        rw [upd_ne nd, del_ne ne, upd_ne nd, upd_ne ne, upd_ne nd, upd_ne ne]
        exact q2
end
end VK


namespace VK
open PySem PySem.Spec PyProof.Rows L2 VM
/-- the state of draws at r -/
def Rng (H : Hp) (r : Addr) : Prop := ∃ a b : Int, H r = some (.lst [.int a, .int b]) ∧ 0 ≤ a ∧ 0 ≤ b ∧ b < 2147483563
/-- all but the state of draws stands -/
structure Ext (r : Addr) (H H' : Hp) : Prop where
  keep : ∀ b o, b ≠ r → H b = some o → H' b = some o
  rng : Rng H' r
theorem Ext.refl {r : Addr} {H : Hp} (h : Rng H r) : Ext r H H := ⟨fun _ _ _ e => e, h⟩
theorem Ext.trans {r : Addr} {H H1 H2 : Hp} (a : Ext r H H1) (b : Ext r H1 H2) : Ext r H H2 := ⟨fun c o n e => b.keep c o n (a.keep c o n e), b.rng⟩
theorem Rng.same {r : Addr} {H H' : Hp} (h : Rng H r) (s : Same H H') : Rng H' r := by
  obtain ⟨a, b, e, h1, h2, h3⟩ := h
  exact ⟨a, b, s _ _ e, h1, h2, h3⟩
theorem Ext.of {r : Addr} {H H' : Hp} (h : Rng H r) (s : Same H H') : Ext r H H' := ⟨fun b o _ e => s b o e, h.same s⟩
theorem Ext.same {r : Addr} {H H1 H2 : Hp} (a : Ext r H H1) (s : Same H1 H2) : Ext r H H2 := a.trans (.of a.rng s)
theorem Ext.free {r : Addr} {H H' : Hp} {l : Addr} (e : Ext r H H') (h : H' l = none) : H l = none := by
  have n : l ≠ r := fun z => by
    obtain ⟨a, b, q, _⟩ := e.rng
    rw [z, q] at h; cases h
  cases q : H l with
  | none => rfl
  | some o => rw [e.keep l o n q] at h; cases h
theorem Ext.seq {K : PySem.W.Frag} {r : Addr} {H H' : Hp} {a : Addr} {xs : List V} (e : Ext r H H') (n : a ≠ r) (h : SqL K H a xs) : SqL K H' a xs := by
  rcases h with (h | ⟨o, h⟩) | h
  · exact .inl (.inl (e.keep _ _ n h))
  · exact .inl (.inr ⟨o, e.keep _ _ n h⟩)
  · exact .inr h
theorem Rng.ne {r l : Addr} {H : Hp} (h : Rng H r) (hl : H l = none) : l ≠ r := fun z => by
  obtain ⟨a, b, q, _⟩ := h
  rw [z, q] at hl; cases hl
def sp_l_rng (K : PySem.W.Frag) (_ : Ad) : Sp := fun vs H Q _ => ∃ (a : Addr) (ns : List Int) (k : Int), vs = [.ref a, .int k] ∧ SqL K H a (ns.map V.int) ∧ 0 ≤ k ∧ k ≤ 100 ∧
  ∀ H' p, Same H H' → H p = none → Rng H' p → Q (.ref p) H'
def sp_l_draw (_ : PySem.W.Frag) (_ : Ad) : Sp := fun vs H Q _ => ∃ (r : Addr) (m : Int), vs = [.ref r, .int m] ∧ Rng H r ∧ 0 < m ∧ m < 1073741824 ∧
  ∀ H' d, Ext r H H' → 0 ≤ d → d < m → Q (.int d) H'
def sp_l_choice (K : PySem.W.Frag) (_ : Ad) : Sp := fun vs H Q _ => ∃ (r l : Addr) (ys : List V), vs = [.ref r, .ref l] ∧ Rng H r ∧ SqL K H l ys ∧ l ≠ r ∧ 0 < ys.length ∧ ys.length < 1000000 ∧
  ∀ H' v, Ext r H H' → v ∈ ys → Q v H'
section
variable {P : Program} {w : World} {K : PySem.W.Frag} {mg : Str → Option Value} {base : Heap} {A : Ad}
theorem ok_l_rng (T : Txt K mg A) : FnOk P w K mg base CX0 1 A.f_l_rng A.d_l_rng ["_law_script", "_law_k"] (sp_l_rng K A) := by
  refine T.F_l_rng.ok sc_l_rng (fun vs H Q E h => ?_) (fun cdv A0 outer s H vs Q E hr h => ?_)
  · obtain ⟨a, ns, k, rfl, hS, hk, hk2, q⟩ := h
    rfl
  · obtain ⟨a, ns, k, rfl, hS, hk, hk2, q⟩ := h
    refine ⟨_, (pss_cons (ps_set (i := 2) sc_l_rng.nd rfl (by first | exact Or.inl rfl | exact Or.inr rfl) (pe_op op_add (pe_op op_mul pe_int (pv 1)) pe_int))
    (pss_cons (ps_if (pt_cmpR op_lt (pv 1) (pe_callB (r := VG.rLen K) VG.call_len (by rfl) T.len (by decide +kernel) (pa_cons (pv 0) pa_nil)) (nomark _)) (pss_one (ps_set (i := 2) sc_l_rng.nd rfl (by first | exact Or.inl rfl | exact Or.inr rfl) (pe_ix (r := rIxL K) ix_list (pv 0) (pv 1) (fun _ _ => rfl)))) pss_nil)
    (pss_one (ps_ret (pe_lst (pa_cons (pe_callB (call_max2 rfl) (by rfl) T.max (by decide +kernel) (pa_cons pe_int (pa_cons (pe_op op_sub (pe_callB call_abs (by rfl) T.abs (by decide +kernel) (pa_cons (pv 2) pa_nil)) (pe_op op_pow pe_int pe_int)) pa_nil))) (pa_cons (pe_op op_add (pe_op op_mod (pe_op op_mul (pe_callTy call_int1 (by rfl) T.int (by decide +kernel) (pa_cons (pe_op op_add (pe_op op_mod (pe_callTy call_int1 (by rfl) T.int (by decide +kernel) (pa_cons (pe_callB call_abs (by rfl) T.abs (by decide +kernel) (pa_cons (pv 2) pa_nil)) pa_nil)) pe_int) pe_int) pa_nil)) (pe_op op_pow (pe_op op_add (pe_op op_mul pe_int (pv 1)) pe_int) pe_int)) pe_int) pe_int) pa_nil))))))), ?_⟩
    refine ⟨_, rfl, _, _, rfl, rfl, .inl ⟨by decide, by decide⟩, _, _, rfl, rfl, ?_⟩
    refine ⟨_, rfl, _, rfl, a, _, rfl, .inl hS, _, _, rfl, rfl, _, rfl, ?_⟩
    rw [List.length_map]
    have b1 : (2 * k + 5).natAbs < 2 ^ 64 := by omega
    refine ifD (fun c => ?_) (fun c => ?_)
    · refine ⟨_, rfl, _, rfl, a, _, _, _, rfl, rfl, hS, at_map hk c, ?_⟩
      generalize ns.getD k.toNat 0 = c0
      refine ⟨_, rfl, _, rfl, _, _, rfl, rfl, ⟨by decide, by decide, by decide⟩, _, _, rfl, rfl, _, _, rfl, ?_⟩
      have z1 := Int.emod_nonneg (if c0 < 0 then -c0 else c0) (show (2147483549 : Int) ≠ 0 by decide)
      have z2 := Int.emod_lt_of_pos (if c0 < 0 then -c0 else c0) (show (0 : Int) < 2147483549 by decide)
      refine ⟨_, rfl, _, rfl, .inl ⟨_, rfl, _, _, rfl, rfl, (by show (0 : Int) < 2147483549; decide), _, _, rfl, rfl, .inl ⟨_, rfl, _, rfl, _, _, rfl, rfl, .inl ⟨by decide, by decide⟩, _, _, rfl, rfl, _, _, rfl, rfl, ⟨by decide, by decide, b1⟩, _, _, rfl, rfl, .inl ⟨by omega, by omega⟩, _, _, rfl, rfl, (by show (0 : Int) < 2147483543; decide), _, _, rfl, rfl, (by show 2 ≤ sizeLine; decide), fun p hp => ?_⟩⟩⟩
      have z3 := Int.emod_nonneg (((if c0 < 0 then -c0 else c0) % 2147483549 + 1) * (2 * k + 5) ^ Int.toNat 3) (show (2147483543 : Int) ≠ 0 by decide)
      have z4 := Int.emod_lt_of_pos (((if c0 < 0 then -c0 else c0) % 2147483549 + 1) * (2 * k + 5) ^ Int.toNat 3) (show (0 : Int) < 2147483543 by decide)
      refine q _ p (Same.upd (Same.refl H) hp) hp ⟨_, _, upd_same, ?_, by omega, by omega⟩
      by_cases cc : (if c0 < 0 then -c0 else c0) - 10 ^ Int.toNat 18 > 0
      · rw [if_pos cc]; omega
      · rw [if_neg cc]; omega
    · refine ⟨_, rfl, _, rfl, _, _, rfl, rfl, ⟨by decide, by decide, by decide⟩, _, _, rfl, rfl, _, _, rfl, ?_⟩
      have z1 := Int.emod_nonneg (if (7 * k + 3) < 0 then -(7 * k + 3) else (7 * k + 3)) (show (2147483549 : Int) ≠ 0 by decide)
      have z2 := Int.emod_lt_of_pos (if (7 * k + 3) < 0 then -(7 * k + 3) else (7 * k + 3)) (show (0 : Int) < 2147483549 by decide)
      refine ⟨_, rfl, _, rfl, .inl ⟨_, rfl, _, _, rfl, rfl, (by show (0 : Int) < 2147483549; decide), _, _, rfl, rfl, .inl ⟨_, rfl, _, rfl, _, _, rfl, rfl, .inl ⟨by decide, by decide⟩, _, _, rfl, rfl, _, _, rfl, rfl, ⟨by decide, by decide, b1⟩, _, _, rfl, rfl, .inl ⟨by omega, by omega⟩, _, _, rfl, rfl, (by show (0 : Int) < 2147483543; decide), _, _, rfl, rfl, (by show 2 ≤ sizeLine; decide), fun p hp => ?_⟩⟩⟩
      have z3 := Int.emod_nonneg (((if (7 * k + 3) < 0 then -(7 * k + 3) else (7 * k + 3)) % 2147483549 + 1) * (2 * k + 5) ^ Int.toNat 3) (show (2147483543 : Int) ≠ 0 by decide)
      have z4 := Int.emod_lt_of_pos (((if (7 * k + 3) < 0 then -(7 * k + 3) else (7 * k + 3)) % 2147483549 + 1) * (2 * k + 5) ^ Int.toNat 3) (show (0 : Int) < 2147483543 by decide)
      refine q _ p (Same.upd (Same.refl H) hp) hp ⟨_, _, upd_same, ?_, by omega, by omega⟩
      by_cases cc : (if (7 * k + 3) < 0 then -(7 * k + 3) else (7 * k + 3)) - 10 ^ Int.toNat 18 > 0
      · rw [if_pos cc]; omega
      · rw [if_neg cc]; omega
theorem ok_l_draw (T : Txt K mg A) : FnOk P w K mg base CX0 1 A.f_l_draw A.d_l_draw ["_law_rng_here", "_law_many"] (sp_l_draw K A) := by
  refine T.F_l_draw.ok sc_l_draw (fun vs H Q E h => ?_) (fun cdv A0 outer s H vs Q E hr h => ?_)
  · obtain ⟨r, m, rfl, ⟨a, b, hr0, ha, hb, hb2⟩, hm, hm2, q⟩ := h
    rfl
  · obtain ⟨r, m, rfl, ⟨a, b, hr0, ha, hb, hb2⟩, hm, hm2, q⟩ := h
    refine ⟨_, (pss_cons (ps_if (pt_cmpR op_gt (pe_ix (r := rIxL K) ix_list (pv 0) pe_int (fun _ _ => rfl)) pe_int (nomark _)) (pss_cons (ps_asg (pe_callB call_divmod (by rfl) T.divmod (by decide +kernel) (pa_cons (pe_ix (r := rIxL K) ix_list (pv 0) pe_int (fun _ _ => rfl)) (pa_cons (pv 1) pa_nil))) (pg_tup rfl (pgs_cons (pg_sub (pv 0) pe_int set_list) (pgs_cons (pg_name (i := 2) sc_l_draw.nd rfl (by first | exact Or.inl rfl | exact Or.inr rfl)) pgs_nil))))
    (pss_one (ps_ret (pv 2)))) pss_nil)
    (pss_cons (ps_asg (pe_op op_mod (pe_callTy call_int1 (by rfl) T.int (by decide +kernel) (pa_cons (pe_op op_add (pe_op op_mul (pe_ix (r := rIxL K) ix_list (pv 0) pe_int (fun _ _ => rfl)) pe_int) pe_int) pa_nil)) pe_int) (pg_sub (pv 0) pe_int set_list))
    (pss_one (ps_ret (pe_op op_mod (pe_op op_fdiv (pe_op op_mod (pe_callTy call_int1 (by rfl) T.int (by decide +kernel) (pa_cons (pe_op op_mul (pe_ix (r := rIxL K) ix_list (pv 0) pe_int (fun _ _ => rfl)) (pe_ix (r := rIxL K) ix_list (pv 0) pe_int (fun _ _ => rfl))) pa_nil)) pe_int) pe_int) (pv 1)))))), ?_⟩
    refine ⟨_, rfl, r, _, _, _, rfl, rfl, SqL.of hr0, rfl, _, _, rfl, rfl, _, rfl, ifD (fun c => ?_) (fun c => ?_)⟩
    · refine ⟨_, rfl, r, _, _, _, rfl, rfl, SqL.of hr0, rfl, _, rfl, _, _, rfl, ⟨hm, hm2⟩, fun t ht => ?_⟩
      have nrt : r ≠ t := ne_of_none hr0 ht
      refine ⟨t, _, rfl, SqT.of upd_same, rfl, _, _, rfl, _, rfl, r, _, _, 0, rfl, rfl, (by rw [upd_ne nrt]; exact hr0), rfl, _, _, rfl, rfl, ?_⟩
      refine ⟨_, rfl, q _ _ ⟨fun z o hz e => ?_, a / m, b, upd_same, Int.ediv_nonneg ha (by omega), hb, hb2⟩ (Int.emod_nonneg _ (by omega)) (Int.emod_lt_of_pos _ hm)⟩
      rw [upd_ne hz, upd_ne (ne_of_none e ht)]; exact e
    · refine ⟨_, rfl, r, _, _, _, rfl, rfl, SqL.of hr0, rfl, _, _, rfl, rfl, .inl ⟨by omega, by omega⟩, _, _, rfl, rfl, .inl ⟨_, rfl, _, _, rfl, rfl, (by show (0 : Int) < 2147483563; decide), ?_⟩⟩
      have e0 := Int.emod_nonneg (b * 48311 + 20011) (show (2147483563 : Int) ≠ 0 by decide)
      have e1 := Int.emod_lt_of_pos (b * 48311 + 20011) (show (0 : Int) < 2147483563 by decide)
      refine ⟨_, rfl, r, _, _, 1, rfl, rfl, hr0, rfl, ?_⟩
      have hr1 : upd H r (.lst [.int a, .int ((b * 48311 + 20011) % 2147483563)]) r = some (.lst [.int a, .int ((b * 48311 + 20011) % 2147483563)]) := upd_same
      refine ⟨_, rfl, r, [.int a, .int ((b * 48311 + 20011) % 2147483563)], _, _, rfl, rfl, SqL.of hr1, rfl, _, rfl, r, [.int a, .int ((b * 48311 + 20011) % 2147483563)], _, _, rfl, rfl, SqL.of hr1, rfl, _, _, rfl, rfl, .inl ⟨by omega, by omega⟩, .inl ⟨_, rfl, _, _, rfl, rfl, (by show (0 : Int) < 2147483497; decide), _, _, rfl, rfl, ⟨by decide, by decide⟩, _, rfl, _, _, rfl, rfl, hm, ?_⟩⟩
      exact q _ _ ⟨fun z o hz e => by rw [upd_ne hz]; exact e, a, _, hr1, ha, e0, e1⟩ (Int.emod_nonneg _ (by omega)) (Int.emod_lt_of_pos _ hm)
theorem ok_l_choice (T : Txt K mg A) : FnOk P w K mg base CX0 2 A.f_l_choice A.d_l_choice ["_law_rng_here", "_law_some"] (sp_l_choice K A) := by
  have G_l_draw := ok_l_draw (P := P) (w := w) (base := base) T
  refine T.F_l_choice.ok sc_l_choice (fun vs H Q E h => ?_) (fun cdv A0 outer s H vs Q E hr h => ?_)
  · obtain ⟨r, l, ys, rfl, hr0, hS, hl, hy, hy2, q⟩ := h
    rfl
  · obtain ⟨r, l, ys, rfl, hr0, hS, hl, hy, hy2, q⟩ := h
    refine ⟨_, (pss_one (ps_ret (pe_ix (r := rIxL K) ix_list (pv 1) (pe_call G_l_draw (hr.mono (by decide)) rfl T.m_l_draw T.k_l_draw T.b_l_draw .nil pass0 (pa_cons (pv 0) (pa_cons (pe_callB (r := VG.rLen K) VG.call_len (by rfl) T.len (by decide +kernel) (pa_cons (pv 1) pa_nil)) pa_nil))) (fun _ _ => rfl)))), ?_⟩
    refine ⟨_, rfl, _, rfl, _, rfl, l, _, rfl, .inl hS, r, _, rfl, hr0, by omega, by omega, fun H1 d e1 h0 h1 => ?_⟩
    have hd : d.toNat < ys.length := by omega
    refine ⟨l, ys, d, ys[d.toNat], rfl, rfl, e1.seq hl hS, ?_, q H1 _ e1 (List.getElem_mem hd)⟩
    exact at_of (j := d.toNat) (by omega) (List.getElem?_eq_getElem hd)
end
end VK


namespace VK
open PySem PySem.Spec PyProof.Rows L2 VM
/-- all but what lies in S stands -/
def Ex (S : List Addr) (H H' : Hp) : Prop := ∀ b o, b ∉ S → H b = some o → H' b = some o
theorem Ex.refl {S : List Addr} {H : Hp} : Ex S H H := fun _ _ _ e => e
theorem Ex.trans {S : List Addr} {H H1 H2 : Hp} (a : Ex S H H1) (b : Ex S H1 H2) : Ex S H H2 := fun c o n e => b c o n (a c o n e)
theorem Ex.same {S : List Addr} {H H' : Hp} (s : Same H H') : Ex S H H' := fun b o _ e => s b o e
theorem Ex.ext {S : List Addr} {p : Addr} {H H' : Hp} (s : Ext p H H') (hp : p ∈ S) : Ex S H H' := fun b o n e => s.keep b o (fun z => n (z ▸ hp)) e
theorem Ex.put {S : List Addr} {a : Addr} {H : Hp} {o : HO} (ha : a ∈ S) : Ex S H (upd H a o) := fun b u n e => by
  have nb : b ≠ a := fun z => n (by rw [z]; exact ha)
  rw [upd_ne nb]; exact e
theorem Ex.mono {S S' : List Addr} {H H' : Hp} (h : Ex S H H') (i : ∀ a ∈ S, a ∈ S') : Ex S' H H' := fun b o n e => h b o (fun z => n (i b z)) e
/-- a thing that is drawn: its kind, its data, whatever becomes of what lies in S -/
structure Lf (K : PySem.W.Frag) (H : Hp) (S : List Addr) (B : Int) (k L : Nat) (v : V) (d : PyData) (n : String) : Prop where
  kd : ∀ H', Ex S H H' → Kd K H' v n
  dm : ∀ H', Ex S H H' → VQ.Dm K H' v d
  sz : VR.Sz k L d
  bd : ∀ i, VB.nI v = some i → -(10 ^ 18 + B) ≤ i ∧ i ≤ 10 ^ 18 + B
theorem Lf.ex {K : PySem.W.Frag} {H H' : Hp} {S : List Addr} {B : Int} {k L : Nat} {v : V} {d : PyData} {n : String} (h : Lf K H S B k L v d n) (e : Ex S H H') : Lf K H' S B k L v d n :=
  ⟨fun G s => h.kd G (e.trans s), fun G s => h.dm G (e.trans s), h.sz, h.bd⟩
theorem Lf.mono {K : PySem.W.Frag} {H : Hp} {S : List Addr} {B B' : Int} {k k' L L' : Nat} {v : V} {d : PyData} {n : String} (h : Lf K H S B k L v d n) (hB : B ≤ B') (hk : k ≤ k') (hL : L ≤ L') : Lf K H S B' k' L' v d n :=
  ⟨h.kd, h.dm, h.sz.mono hk hL, fun i e => by have := h.bd i e; omega⟩
theorem Lf.kds {K : PySem.W.Frag} {H : Hp} {S : List Addr} {B : Int} {k L : Nat} {v : V} {d : PyData} {n : String} (h : Lf K H S B k L v d n) : KdS K H v n := fun G s => h.kd G (.same s)
section
variable {K : PySem.W.Frag} {H : Hp} {S : List Addr} {B : Int}
theorem Lf.int {i : Int} (h : -(10 ^ 18 + B) ≤ i ∧ i ≤ 10 ^ 18 + B) (hB : B ≤ 100) : Lf K H S B 1 200 (.int i) (.int i) "int" :=
  ⟨fun _ _ => Kd.int i, fun _ _ => .flat (.int i), (VR.Sz.int (by
    have a : i.natAbs ≤ 10 ^ 18 + 100 := by omega
    exact Nat.lt_of_le_of_lt a (by decide))).mono (by omega) (by omega), fun j e => by cases e; exact h⟩
theorem Lf.bl (b : Bool) (hB : 0 ≤ B) : Lf K H S B 1 200 (.bl b) (.bool b) "bool" :=
  ⟨fun _ _ => ⟨.base (.bl b), by decide⟩, fun _ _ => .flat (.bl b), (VR.Sz.bool b).mono (by omega) (by omega), fun j e => by cases b <;> cases e <;> constructor <;> simp <;> omega⟩
theorem Lf.non : Lf K H S B 1 200 .non .none "NoneType" :=
  ⟨fun _ _ => ⟨.base .non, by decide⟩, fun _ _ => .flat .non, VR.Sz.none.mono (by omega) (by omega), fun j e => by cases e⟩
theorem Lf.str {x : Str} (h : (PyData.str x).shown.length ≤ 200) : Lf K H S B 1 200 (.str x) (.str x) "str" :=
  ⟨fun _ _ => ⟨.base (.str x), by decide⟩, fun _ _ => .flat (.str x), ⟨rfl, Nat.zero_le _, h⟩, fun j e => by cases e⟩
theorem Lf.tup {a : Addr} {xs : List V} {ds : List PyData} {k L k' L' n : Nat} (h : H a = some (.tup xs)) (ha : a ∉ S) (hd : ∀ H', Ex S H H' → VQ.DmAll K H' xs ds) (sz : ∀ d ∈ ds, VR.Sz k L d) (hn : ds.length ≤ n) (hk : k + 1 ≤ k') (hL : (L + 2) * n + 3 ≤ L') :
    Lf K H S B k' L' (.ref a) (.tuple ds) "tuple" :=
  ⟨fun G s => ⟨.base (.tup (s _ _ ha h)), by decide⟩, fun G s => .tup (SqT.of (s _ _ ha h)) (hd G s), (VR.Sz.tuple sz hn).mono hk hL, fun j e => by cases e⟩
theorem Lf.lst {a : Addr} {xs : List V} {ds : List PyData} {k L k' L' n : Nat} (h : H a = some (.lst xs)) (ha : a ∉ S) (hd : ∀ H', Ex S H H' → VQ.DmAll K H' xs ds) (sz : ∀ d ∈ ds, VR.Sz k L d) (hn : ds.length ≤ n) (hk : k + 1 ≤ k') (hL : (L + 2) * n + 3 ≤ L') :
    Lf K H S B k' L' (.ref a) (.list ds) "list" :=
  ⟨fun G s => ⟨.base (.lst (s _ _ ha h)), by decide⟩, fun G s => .lst (SqL.of (s _ _ ha h)) (hd G s), (VR.Sz.list sz hn).mono hk hL, fun j e => by cases e⟩
theorem sz1 (i : Int) (h : i.natAbs < 10 ^ 100) : ∀ d ∈ [PyData.int i], VR.Sz 0 101 d := fun d hd => by
  rw [List.mem_singleton] at hd; subst hd; exact VR.Sz.int h
theorem Lf.tup1 {a : Addr} {i : Int} (h : H a = some (.tup [.int i])) (ha : a ∉ S) (hi : i.natAbs < 10 ^ 100) : Lf K H S B 1 200 (.ref a) (.tuple [.int i]) "tuple" :=
  Lf.tup h ha (fun _ _ => .cons (.flat (.int i)) .nil) (sz1 i hi) (Nat.le_refl 1) (Nat.le_refl 1) (by omega)
theorem Lf.lst1 {a : Addr} {i : Int} (h : H a = some (.lst [.int i])) (ha : a ∉ S) (hi : i.natAbs < 10 ^ 100) : Lf K H S B 1 200 (.ref a) (.list [.int i]) "list" :=
  Lf.lst h ha (fun _ _ => .cons (.flat (.int i)) .nil) (sz1 i hi) (Nat.le_refl 1) (Nat.le_refl 1) (by omega)
theorem Lf.lst0 {a : Addr} (h : H a = some (.lst [])) (ha : a ∉ S) : Lf K H S B 1 200 (.ref a) (.list []) "list" :=
  Lf.lst (k := 0) (L := 0) (n := 0) h ha (fun _ _ => .nil) (fun d hd => by cases hd) (Nat.le_refl 0) (Nat.le_refl 1) (by omega)
theorem Lf.dct0 {a : Addr} (h : H a = some (.dK [])) (ha : a ∉ S) : Lf K H S B 1 200 (.ref a) (.dict []) "dict" :=
  ⟨fun G s => ⟨.base (.dK (s _ _ ha h)), by decide⟩, fun G s => .dct (ds := []) (s _ _ ha h) .nil, ⟨rfl, by decide, by decide⟩, fun j e => by cases e⟩
theorem Lf.is_int {k L : Nat} {v : V} {d : PyData} {n : String} (h : Lf K H S B k L v d n) (e : (n == "int" || n == "bool") = true) : ∃ i, VB.nI v = some i ∧ -(10 ^ 18 + B) ≤ i ∧ i ≤ 10 ^ 18 + B := by
  obtain ⟨hk, _⟩ := h.kd H .refl
  have hb := h.bd
  rcases (by simpa using e : n = "int" ∨ n = "bool") with rfl | rfl
  · generalize et : Value.type "int" = t at hk
    cases hk with
    | base b => cases b <;> first | exact ⟨_, rfl, hb _ rfl⟩ | (injection et with et; exact absurd et (by decide)) | cases et
    | _ => first | (injection et with et; exact absurd et (by decide)) | cases et
  · generalize et : Value.type "bool" = t at hk
    cases hk with
    | base b => cases b <;> first | exact ⟨_, rfl, hb _ rfl⟩ | (injection et with et; exact absurd et (by decide)) | cases et
    | _ => first | (injection et with et; exact absurd et (by decide)) | cases et
end
end VK


namespace VK
open PySem PySem.Spec PyProof.Rows L2 VM
def sp_l_odd_value (K : PySem.W.Frag) (_ : Ad) : Sp := fun vs H Q _ => ∃ (p : Addr) (S : List Addr) (B : Int) (k L : Nat) (v : V) (d : PyData) (n : String), vs = [.ref p, v] ∧ Rng H p ∧ Lf K H S B k L v d n ∧ 0 ≤ B ∧ B ≤ 10 ∧ (∀ a ∈ S, H a ≠ none) ∧ p ∈ S ∧
  ∀ H' v' d' n', Ext p H H' → Lf K H' S (B + 1) 1 200 v' d' n' → Q v' H'
theorem odd_end {K : PySem.W.Frag} {A : Ad} {p : Addr} {S : List Addr} {B : Int} {kk L : Nat} {v : V} {d : PyData} {n : String} {H H1 : Hp} {Q : VK} {i0 : Int} {a1 a2 a3 q : Addr} {E : XK} (hR : Rng H p) (hL : Lf K H S B kk L v d n) (hB0 : 0 ≤ B) (hB1 : B ≤ 10) (hS : ∀ (a : Addr), a ∈ S → H a ≠ none) (hp : p ∈ S)
    (k : ∀ (H' : Hp) (v' : V) (d' : PyData) (n' : String), Ext p H H' → Lf K H' S (B + 1) 1 200 v' d' n' → Q v' H') (b1 : -(10 ^ 18 + B) ≤ i0) (b2 : i0 ≤ 10 ^ 18 + B) (f1 : H a1 = none) (f2 : H a2 = none) (f3 : H a3 = none)
    (u1 : H1 a1 = some (.tup [.int 1])) (u2 : H1 a2 = some (.lst [.int 1])) (u3 : H1 a3 = some (.dK [])) (sm : Same H H1) (hq : H1 q = none) :
    sp_l_choice K A [.ref p, .ref q] (upd H1 q (.lst [.int (-1), .int 2001, .bl true, .bl false, .non, .str "1", .ref a1, .ref a2, .ref a3, .int (10 ^ 18), .int (i0 - 1), .int (-i0)])) Q E := by
  have s2 := Same.upd (o := .lst [.int (-1), .int 2001, .bl true, .bl false, .non, .str "1", .ref a1, .ref a2, .ref a3, .int (10 ^ 18), .int (i0 - 1), .int (-i0)]) sm (sm.free hq)
  have nq1 : a1 ≠ q := ne_of_none u1 hq
  have nq2 : a2 ≠ q := ne_of_none u2 hq
  have nq3 : a3 ≠ q := ne_of_none u3 hq
  have nS : ∀ {a : Addr}, H a = none → a ∉ S := fun h m => hS _ m h
  refine ⟨p, q, _, rfl, hR.same s2, SqL.of upd_same, (hR.same sm).ne hq, by show 0 < 12; decide, by show 12 < 1000000; decide, fun H' v' e hv => ?_⟩
  have e0 : Ext p H H' := (Ext.of hR s2).trans e
  have w1 : H' a1 = some (.tup [.int 1]) := e.keep _ _ (fun z => by rw [z] at f1; obtain ⟨_, _, r, _⟩ := hR; rw [r] at f1; cases f1) (by rw [upd_ne nq1]; exact u1)
  have w2 : H' a2 = some (.lst [.int 1]) := e.keep _ _ (fun z => by rw [z] at f2; obtain ⟨_, _, r, _⟩ := hR; rw [r] at f2; cases f2) (by rw [upd_ne nq2]; exact u2)
  have w3 : H' a3 = some (.dK []) := e.keep _ _ (fun z => by rw [z] at f3; obtain ⟨_, _, r, _⟩ := hR; rw [r] at f3; cases f3) (by rw [upd_ne nq3]; exact u3)
  have hB : B + 1 ≤ 100 := by omega
  simp only [List.mem_cons, List.not_mem_nil, or_false] at hv
  rcases hv with rfl | rfl | rfl | rfl | rfl | rfl | rfl | rfl | rfl | rfl | rfl | rfl
  · exact k _ _ _ _ e0 (Lf.int (by omega) hB)
  · exact k _ _ _ _ e0 (Lf.int (by omega) hB)
  · exact k _ _ _ _ e0 (Lf.bl true (by omega))
  · exact k _ _ _ _ e0 (Lf.bl false (by omega))
  · exact k _ _ _ _ e0 Lf.non
  · exact k _ _ _ _ e0 (Lf.str (by decide +kernel))
  · exact k _ _ _ _ e0 (Lf.tup1 w1 (nS f1) (by decide))
  · exact k _ _ _ _ e0 (Lf.lst1 w2 (nS f2) (by decide))
  · exact k _ _ _ _ e0 (Lf.dct0 w3 (nS f3))
  · exact k _ _ _ _ e0 (Lf.int (by omega) hB)
  · exact k _ _ _ _ e0 (Lf.int (by omega) hB)
  · exact k _ _ _ _ e0 (Lf.int (by omega) hB)
section
variable {P : Program} {w : World} {K : PySem.W.Frag} {mg : Str → Option Value} {base : Heap} {A : Ad}
theorem ok_l_odd_value (T : Txt K mg A) : FnOk P w K mg base CX0 3 A.f_l_odd_value A.d_l_odd_value ["_law_rng_here", "_law_before"] (sp_l_odd_value K A) := by
  have G_l_choice := ok_l_choice (P := P) (w := w) (base := base) T
  refine T.F_l_odd_value.ok sc_l_odd_value (fun vs H Q E h => ?_) (fun cdv A0 outer s H vs Q E hr h => ?_)
  · obtain ⟨p, S, B, kk, L, v, d, n, rfl, hR, hL, hB0, hB1, hS, hp, k⟩ := h
    rfl
  · obtain ⟨p, S, B, kk, L, v, d, n, rfl, hR, hL, hB0, hB1, hS, hp, k⟩ := h
    refine ⟨_, (pss_cons (ps_set (i := 2) sc_l_odd_value.nd rfl (by first | exact Or.inl rfl | exact Or.inr rfl) (pe_ifExp (pt_val (pe_callB (r := rIsi K) call_isi (by rfl) T.isinstance (by decide +kernel) (pa_cons (pv 1) (pa_cons (pe_bltn (v := .ty "int") (u := .type "int") (by rfl) T.int (by decide +kernel) (by exact rfl)) pa_nil)))) (pv 1) pe_int))
    (pss_cons (ps_set (i := 3) sc_l_odd_value.nd rfl (by first | exact Or.inl rfl | exact Or.inr rfl) (pe_lst (pa_cons (pe_un un_neg pe_int) (pa_cons pe_int (pa_cons pe_bl (pa_cons pe_bl (pa_cons pe_non (pa_cons pe_str (pa_cons (pe_tup (pa_cons pe_int pa_nil)) (pa_cons (pe_lst (pa_cons pe_int pa_nil)) (pa_cons pe_dnewK (pa_cons (pe_op op_pow pe_int pe_int) (pa_cons (pe_op VB.op_subI (pv 2) pe_int) (pa_cons (pe_un VB.un_negI (pv 2)) pa_nil))))))))))))))
    (pss_one (ps_ret (pe_call G_l_choice (hr.mono (by decide)) rfl T.m_l_choice T.k_l_choice T.b_l_choice .nil pass0 (pa_cons (pv 0) (pa_cons (pv 3) pa_nil))))))), ?_⟩
    have hk := hL.kd H .refl
    refine ⟨_, rfl, v, .ty "int", _, _, _, rfl, .ty _, hk.1, kitI hk.2, _, rfl, ?_⟩
    refine ite2 (fun c => ?_) (fun c => ?_)
    · obtain ⟨i0, hi, b1, b2⟩ := hL.is_int c
      refine ⟨_, rfl, ?_⟩
      refine ⟨_, rfl, (by show 1 ≤ sizeLine; decide), fun a1 h1 => ⟨(by show 1 ≤ sizeLine; decide), fun a2 h2 => ?_⟩⟩
      intro a3 h3
      refine ⟨_, _, rfl, rfl, ⟨by decide, by decide⟩, _, rfl, i0, 1, hi, rfl, _, rfl, i0, hi, (by show 12 ≤ sizeLine; decide), fun q hq => ⟨_, rfl, _, rfl, ?_⟩⟩
      have u1 : upd (upd (upd H a1 (.tup [.int 1])) a2 (.lst [.int 1])) a3 (.dK []) a3 = some (.dK []) := upd_same
      have n12 : a1 ≠ a2 := fun z => by rw [← z, upd_same] at h2; cases h2
      have n13 : a1 ≠ a3 := fun z => by rw [← z, upd_ne n12, upd_same] at h3; cases h3
      have n23 : a2 ≠ a3 := fun z => by rw [← z, upd_same] at h3; cases h3
      have u2 : upd (upd (upd H a1 (.tup [.int 1])) a2 (.lst [.int 1])) a3 (.dK []) a2 = some (.lst [.int 1]) := by rw [upd_ne n23]; exact upd_same
      have u3 : upd (upd (upd H a1 (.tup [.int 1])) a2 (.lst [.int 1])) a3 (.dK []) a1 = some (.tup [.int 1]) := by rw [upd_ne n13, upd_ne n12]; exact upd_same
      have f2 : H a2 = none := by rw [upd_ne (Ne.symm n12)] at h2; exact h2
      have f3 : H a3 = none := by rw [upd_ne (Ne.symm n23), upd_ne (Ne.symm n13)] at h3; exact h3
      have sm : Same H (upd (upd (upd H a1 (.tup [.int 1])) a2 (.lst [.int 1])) a3 (.dK [])) := Same.upd (Same.upd (Same.upd (Same.refl H) h1) f2) f3
      generalize upd (upd (upd H a1 (.tup [.int 1])) a2 (.lst [.int 1])) a3 (.dK []) = H1 at *
      exact odd_end (A := A) (E := E) hR hL hB0 hB1 hS hp k b1 b2 h1 f2 f3 u3 u2 u1 sm hq
    · obtain ⟨i0, hi, b1, b2⟩ : ∃ i0, VB.nI (.int 0) = some i0 ∧ -(10 ^ 18 + B) ≤ i0 ∧ i0 ≤ 10 ^ 18 + B := ⟨0, rfl, by omega, by omega⟩
      refine ⟨_, rfl, (by show 1 ≤ sizeLine; decide), fun a1 h1 => ⟨(by show 1 ≤ sizeLine; decide), fun a2 h2 => ?_⟩⟩
      intro a3 h3
      refine ⟨_, _, rfl, rfl, ⟨by decide, by decide⟩, _, rfl, i0, 1, hi, rfl, _, rfl, i0, hi, (by show 12 ≤ sizeLine; decide), fun q hq => ⟨_, rfl, _, rfl, ?_⟩⟩
      have u1 : upd (upd (upd H a1 (.tup [.int 1])) a2 (.lst [.int 1])) a3 (.dK []) a3 = some (.dK []) := upd_same
      have n12 : a1 ≠ a2 := fun z => by rw [← z, upd_same] at h2; cases h2
      have n13 : a1 ≠ a3 := fun z => by rw [← z, upd_ne n12, upd_same] at h3; cases h3
      have n23 : a2 ≠ a3 := fun z => by rw [← z, upd_same] at h3; cases h3
      have u2 : upd (upd (upd H a1 (.tup [.int 1])) a2 (.lst [.int 1])) a3 (.dK []) a2 = some (.lst [.int 1]) := by rw [upd_ne n23]; exact upd_same
      have u3 : upd (upd (upd H a1 (.tup [.int 1])) a2 (.lst [.int 1])) a3 (.dK []) a1 = some (.tup [.int 1]) := by rw [upd_ne n13, upd_ne n12]; exact upd_same
      have f2 : H a2 = none := by rw [upd_ne (Ne.symm n12)] at h2; exact h2
      have f3 : H a3 = none := by rw [upd_ne (Ne.symm n23), upd_ne (Ne.symm n13)] at h3; exact h3
      have sm : Same H (upd (upd (upd H a1 (.tup [.int 1])) a2 (.lst [.int 1])) a3 (.dK [])) := Same.upd (Same.upd (Same.upd (Same.refl H) h1) f2) f3
      generalize upd (upd (upd H a1 (.tup [.int 1])) a2 (.lst [.int 1])) a3 (.dK []) = H1 at *
      exact odd_end (A := A) (E := E) hR hL hB0 hB1 hS hp k b1 b2 h1 f2 f3 u3 u2 u1 sm hq
end
end VK


namespace VK
open PySem PySem.Spec PyProof.Rows L2 VM
def sp_l_written (_ : PySem.W.Frag) (_ : Ad) : Sp := fun vs H Q _ => ∃ (p : Addr), vs = [.ref p] ∧ Rng H p ∧
  ∀ H' r l (ns : List Int) c m, Ext p H H' → H r = none → H l = none → r ≠ l → H' r = some (.lst [.ref l, .int c, .int m]) → H' l = some (.lst (ns.map V.int)) → (∀ x ∈ ns, 0 ≤ x ∧ x ≤ 2000) → ns.length ≤ 25 → 0 ≤ c → c ≤ 12 → -10000 ≤ m → m ≤ 10000 → Q (.ref r) H'
theorem Ext.new {r : Addr} {H H' : Hp} {l : Addr} {o : HO} (e : Ext r H H') (h : H' l = none) : Ext r H (upd H' l o) := e.same (Same.upd (Same.refl _) h)
theorem Ext.put {r : Addr} {H H' : Hp} {l : Addr} {o : HO} (e : Ext r H H') (h : H l = none) (n : l ≠ r) : Ext r H (upd H' l o) :=
  ⟨fun b u nb q => by rw [upd_ne (ne_of_none q h)]; exact e.keep b u nb q, by
    obtain ⟨a, b, q, z⟩ := e.rng
    exact ⟨a, b, by rw [upd_ne (Ne.symm n)]; exact q, z⟩⟩
theorem getD_all {ns : List Int} (C : Int → Prop) (h0 : C 0) (h : ∀ x ∈ ns, C x) (i : Nat) : C (ns.getD i 0) := by
  rw [List.getD_eq_getElem?_getD]
  cases e : ns[i]? with
  | none => exact h0
  | some x => exact h x (List.mem_of_getElem? e)
section
variable {P : Program} {w : World} {K : PySem.W.Frag} {mg : Str → Option Value} {base : Heap} {A : Ad}
theorem ok_l_written (T : Txt K mg A) : FnOk P w K mg base CX0 3 A.f_l_written A.d_l_written ["_law_rng_here"] (sp_l_written K A) := by
  have G_l_choice := ok_l_choice (P := P) (w := w) (base := base) T
  have G_l_draw := ok_l_draw (P := P) (w := w) (base := base) T
  refine T.F_l_written.ok sc_l_written (fun vs H Q E h => ?_) (fun cdv A0 outer s H vs Q E hr h => ?_)
  · obtain ⟨p, rfl, hR, k⟩ := h
    rfl
  · obtain ⟨p, rfl, hR, k⟩ := h
    refine ⟨_, (pss_cons (ps_set (i := 1) sc_l_written.nd rfl (by first | exact Or.inl rfl | exact Or.inr rfl) (pe_ix (r := rIxL K) ix_list (pe_lst (pa_cons (pe_op op_add pe_int (pe_call G_l_draw (hr.mono (by decide)) rfl T.m_l_draw T.k_l_draw T.b_l_draw .nil pass0 (pa_cons (pv 0) (pa_cons pe_int pa_nil)))) (pa_cons pe_int (pa_cons pe_int (pa_cons (pe_op op_add pe_int (pe_call G_l_draw (hr.mono (by decide)) rfl T.m_l_draw T.k_l_draw T.b_l_draw .nil pass0 (pa_cons (pv 0) (pa_cons pe_int pa_nil)))) (pa_cons pe_int pa_nil)))))) (pe_op op_fdiv (pe_call G_l_draw (hr.mono (by decide)) rfl T.m_l_draw T.k_l_draw T.b_l_draw .nil pass0 (pa_cons (pv 0) (pa_cons pe_int pa_nil))) pe_int) (fun _ _ => rfl)))
    (VG.pss_join (ps_if (PW.pt (pw_and (pt_cmpR op_eq (pv 1) pe_int (nomark _)) (pw_and1 (pt_cmpR op_gt (pe_call G_l_draw (hr.mono (by decide)) rfl T.m_l_draw T.k_l_draw T.b_l_draw .nil pass0 (pa_cons (pv 0) (pa_cons pe_int pa_nil))) pe_int (nomark _))))) (pss_one (ps_set (i := 1) sc_l_written.nd rfl (by first | exact Or.inl rfl | exact Or.inr rfl) pe_int)) pss_nil)
    (pss_cons (ps_set (i := 2) sc_l_written.nd rfl (by first | exact Or.inl rfl | exact Or.inr rfl) (pe_lst pa_nil))
    (pss_cons (ps_for PassesOwn.never rfl (pi_range1 rfl T.range (pa_cons (pv 1) pa_nil)) (pg_name (i := 3) sc_l_written.nd rfl (by first | exact Or.inl rfl | exact Or.inr rfl))
      (pss_one (ps_expr (pe_bm PySem.F.plainAttrs_list PySem.F.slot_list_append PySem.F.type_list_append mt_append (pv 2) (pa_cons (pe_callB (call_min2 rfl) (by rfl) T.min (by decide +kernel) (pa_cons pe_int (pa_cons (pe_op op_add (pe_ix (r := rIxL K) ix_list (pe_op op_cat (pe_lst (pa_cons pe_int pa_nil)) (pv 2)) (pe_un un_neg pe_int) (fun _ _ => rfl)) (pe_ix (r := rIxL K) ix_list (pe_lst (pa_cons pe_int (pa_cons pe_int (pa_cons (pe_call G_l_draw (hr.mono (by decide)) rfl T.m_l_draw T.k_l_draw T.b_l_draw .nil pass0 (pa_cons (pv 0) (pa_cons pe_int pa_nil))) (pa_cons pe_int pa_nil))))) (pe_call G_l_draw (hr.mono (by decide)) rfl T.m_l_draw T.k_l_draw T.b_l_draw .nil pass0 (pa_cons (pv 0) (pa_cons pe_int pa_nil))) (fun _ _ => rfl))) pa_nil))) pa_nil)))))
    (pss_cons (ps_set (i := 4) sc_l_written.nd rfl (by first | exact Or.inl rfl | exact Or.inr rfl) (pe_call G_l_choice (hr.mono (by decide)) rfl T.m_l_choice T.k_l_choice T.b_l_choice .nil pass0 (pa_cons (pv 0) (pa_cons (pe_lst (pa_cons pe_int (pa_cons pe_int (pa_cons pe_int (pa_cons pe_int (pa_cons pe_int (pa_cons pe_int (pa_cons pe_int pa_nil)))))))) pa_nil))))
    (pss_cons (ps_set (i := 5) sc_l_written.nd rfl (by first | exact Or.inl rfl | exact Or.inr rfl) pe_int)
    (VG.pss_join (ps_if (pt_chain op_lt op_le pe_int (pv 4) (pv 1)) (pss_one (ps_set (i := 5) sc_l_written.nd rfl (by first | exact Or.inl rfl | exact Or.inr rfl) (pe_op op_sub (pe_ix (r := rIxL K) ix_list (pv 2) (pe_un un_neg pe_int) (fun _ _ => rfl)) (pe_ix (r := rIxL K) ix_list (pe_op op_cat (pe_lst (pa_cons pe_int pa_nil)) (pv 2)) (pe_op op_sub (pe_op op_add (pv 1) pe_int) (pv 4)) (fun _ _ => rfl))))) pss_nil)
    (pss_one (ps_ret (pe_lst (pa_cons (pv 2) (pa_cons (pv 4) (pa_cons (pe_callB (call_min2 rfl) (by rfl) T.min (by decide +kernel) (pa_cons pe_int (pa_cons (pe_op op_add (pv 5) (pe_call G_l_draw (hr.mono (by decide)) rfl T.m_l_draw T.k_l_draw T.b_l_draw .nil pass0 (pa_cons (pv 0) (pa_cons pe_int pa_nil)))) pa_nil))) pa_nil))))))))))))), ?_⟩
    refine ⟨_, rfl, p, 5, rfl, hR, by decide, by decide, fun H1 d1 e1 d10 d11 => ?_⟩
    refine ⟨_, _, rfl, rfl, _, rfl, p, 24, rfl, e1.rng, by decide, by decide, fun H2 d2 e2 d20 d21 => ⟨_, _, rfl, rfl, (by show 5 ≤ sizeLine; decide), fun q hq => ?_⟩⟩
    have e02 := e1.trans e2
    have s3 : Ext p H (upd H2 q (.lst [.int (1 + d1), .int 24, .int 25, .int (1 + d2), .int 0])) := e02.same (Same.upd (Same.refl _) hq)
    have nq := e02.rng.ne hq
    refine ⟨_, rfl, p, 20, rfl, s3.rng, by decide, by decide, fun H3 d3 e3 d30 d31 => ⟨_, _, rfl, rfl, ⟨by decide, by decide⟩, ?_⟩⟩
    obtain ⟨M, hM, hM0, hM25⟩ : ∃ M, atI [V.int (1 + d1), .int 24, .int 25, .int (1 + d2), .int 0] (d3 / 4) = some (.int M) ∧ 0 ≤ M ∧ M ≤ 25 := by
      rcases (by omega : d3 / 4 = 0 ∨ d3 / 4 = 1 ∨ d3 / 4 = 2 ∨ d3 / 4 = 3 ∨ d3 / 4 = 4) with h | h | h | h | h <;> rw [h]
      · exact ⟨_, rfl, by omega, by omega⟩
      · exact ⟨_, rfl, by omega, by omega⟩
      · exact ⟨_, rfl, by omega, by omega⟩
      · exact ⟨_, rfl, by omega, by omega⟩
      · exact ⟨_, rfl, by omega, by omega⟩
    have e03 := s3.trans e3
    refine ⟨q, _, _, _, rfl, rfl, e3.seq nq (SqL.of upd_same), hM, ?_⟩
    refine ⟨fun σ G => ∃ M, σ = [some (.ref p), some (.int M), none, none, none, none] ∧ Ext p H G ∧ 0 ≤ M ∧ M ≤ 25, ?_, ?_⟩
    · refine ⟨_, rfl, rfl, _, rfl, ifEq (fun c => ?_) (fun c => ⟨_, rfl, e03, hM0, hM25⟩)⟩
      refine ⟨_, rfl, p, 3, rfl, e03.rng, by decide, by decide, fun H4 d4 e4 d40 d41 => ⟨_, _, rfl, rfl, _, rfl, ?_⟩⟩
      exact ifD (fun _ => ⟨3, rfl, e03.trans e4, by decide, by decide⟩) (fun _ => ⟨M, rfl, e03.trans e4, hM0, hM25⟩)
    · rintro σ G ⟨M, rfl, eG, m0, m25⟩
      refine ⟨(by show 0 ≤ sizeLine; decide), fun l hl => ?_⟩
      have nlp := eG.rng.ne hl
      have hlH := eG.free hl
      have e0 : Ext p H (upd G l (.lst (([] : List Int).map V.int))) := eG.new hl
      refine ⟨_, rfl, _, rfl, by omega, by omega, ?_⟩
      refine for_range (lo := 0) (n := M.toNat) (fun i σ H' => ∃ v3 ns, σ = [some (.ref p), some (.int M), some (.ref l), v3, none, none] ∧ Ext p H H' ∧ H' l = some (.lst (ns.map V.int)) ∧ ns.length = i ∧ ∀ x ∈ ns, 0 ≤ x ∧ x ≤ 2000)
        ⟨_, [], rfl, e0, upd_same, rfl, fun x hx => by cases hx⟩ ?_ ?_
      · rintro i σ H' hi ⟨v3, ns, rfl, e, hl2, hn, R⟩
        refine ⟨_, rfl, .inl ⟨rfl, _, SqL.of hl2⟩, (by show 1 ≤ sizeLine; decide), fun a ha => ?_⟩
        have l3 : upd H' a (.lst [.int 0]) l = some (.lst (ns.map V.int)) := by rw [upd_ne (ne_of_none hl2 ha)]; exact hl2
        have e3 : Ext p H (upd H' a (.lst [.int 0])) := e.new ha
        have nl : ns.length ≤ 25 := by omega
        refine ⟨_, rfl, a, l, _, _, rfl, rfl, upd_same, l3, (by rw [List.length_map, sizeLine_eq]; show 1 + ns.length ≤ _; omega), fun b hb => ?_⟩
        have l4 : upd (upd H' a (.lst [.int 0])) b (.lst (([.int 0] : List V) ++ ns.map V.int)) l = some (.lst (ns.map V.int)) := by rw [upd_ne (ne_of_none l3 hb)]; exact l3
        have e4 : Ext p H (upd (upd H' a (.lst [.int 0])) b (.lst (([.int 0] : List V) ++ ns.map V.int))) := e3.new hb
        have h4 : upd (upd H' a (.lst [.int 0])) b (.lst (([.int 0] : List V) ++ ns.map V.int)) b = some (.lst ((0 :: ns).map V.int)) := upd_same
        refine ⟨_, rfl, b, _, _, _, rfl, rfl, SqL.of h4, at_back (by decide) (by rw [List.length_cons]; show -((ns.length + 1 : Nat) : Int) ≤ -1; omega), ?_⟩
        have z0 : 0 ≤ (0 :: ns).getD (-1 + ((0 :: ns).length : Int)).toNat 0 := getD_all (fun x => 0 ≤ x) (by decide) (fun x hx => by
          rcases List.mem_cons.mp hx with rfl | hx
          · decide
          · exact (R x hx).1) _
        show tOp _ _ _ _ _ _
        generalize (0 :: ns).getD _ 0 = z at *
        generalize upd (upd H' a (.lst [.int 0])) b (.lst (([.int 0] : List V) ++ ns.map V.int)) = H5 at *
        refine ⟨_, rfl, p, 90, rfl, e4.rng, by decide, by decide, fun H6 d6 e6 d60 d61 => ⟨(by show 4 ≤ sizeLine; decide), fun c hc => ?_⟩⟩
        have l6 := e6.keep _ _ nlp l4
        have e06 := e4.trans e6
        have l7 : upd H6 c (.lst [.int 0, .int 1, .int d6, .int 2]) l = some (.lst (ns.map V.int)) := by rw [upd_ne (ne_of_none l6 hc)]; exact l6
        have ncp := e06.rng.ne hc
        have e07 : Ext p H (upd H6 c (.lst [.int 0, .int 1, .int d6, .int 2])) := e06.new hc
        refine ⟨_, rfl, p, 4, rfl, e07.rng, by decide, by decide, fun H7 d7 e7 d70 d71 => ?_⟩
        have l8 := e7.keep _ _ nlp l7
        have e08 := e07.trans e7
        obtain ⟨y, hy, hy0⟩ : ∃ y, atI [V.int 0, .int 1, .int d6, .int 2] d7 = some (.int y) ∧ 0 ≤ y := by
          rcases (by omega : d7 = 0 ∨ d7 = 1 ∨ d7 = 2 ∨ d7 = 3) with h | h | h | h <;> subst h
          · exact ⟨_, rfl, by omega⟩
          · exact ⟨_, rfl, by omega⟩
          · exact ⟨_, rfl, by omega⟩
          · exact ⟨_, rfl, by omega⟩
        refine ⟨c, _, _, _, rfl, rfl, e7.seq ncp (SqL.of upd_same), hy, _, _, rfl, rfl, _, _, rfl, l, _, _, rfl, rfl, l8, small (by rw [List.length_map]; omega), ?_⟩
        refine ⟨_, ns ++ [if z + y < 2000 then z + y else 2000], rfl, e08.put hlH nlp, ?_, by rw [List.length_append, hn]; rfl, fun x hx => ?_⟩
        · rw [upd_same, List.map_append]; rfl
        · rcases List.mem_append.mp hx with hx | hx
          · exact R x hx
          · rw [List.mem_singleton] at hx
            rw [hx]
            split <;> omega
      · rintro σ H' ⟨v3, ns, rfl, e, hl2, hn, R⟩
        refine ⟨_, rfl, (by show 7 ≤ sizeLine; decide), fun a ha => ?_⟩
        have l3 : upd H' a (.lst (([1, 1, 2, 3, 4, 6, 12] : List Int).map V.int)) l = some (.lst (ns.map V.int)) := by rw [upd_ne (ne_of_none hl2 ha)]; exact hl2
        have e3 : Ext p H (upd H' a (.lst (([1, 1, 2, 3, 4, 6, 12] : List Int).map V.int))) := e.new ha
        have nl : ns.length ≤ 25 := by omega
        refine ⟨p, a, _, rfl, e3.rng, SqL.of (show upd H' a (.lst (([1, 1, 2, 3, 4, 6, 12] : List Int).map V.int)) a = _ from upd_same), e.rng.ne ha, by decide, by decide, fun H4 v e4 hv => ?_⟩
        obtain ⟨c, hc, rfl⟩ := List.mem_map.mp hv
        have hc0 : 1 ≤ c ∧ c ≤ 12 := by
          simp only [List.mem_cons, List.not_mem_nil, or_false] at hc
          omega
        have l4 := e4.keep _ _ nlp l3
        have e04 := e3.trans e4
        refine ⟨fun σ G => ∃ v3 L, σ = [some (.ref p), some (.int M), some (.ref l), v3, some (.int c), some (.int L)] ∧ Ext p H G ∧ G l = some (.lst (ns.map V.int)) ∧ -2000 ≤ L ∧ L ≤ 2000, ?_, ?_⟩
        · refine ⟨_, rfl, _, _, rfl, rfl, _, rfl, ifD (fun _ => ?_) (fun z => absurd hc0.1 (by omega))⟩
          refine ⟨_, rfl, _, _, rfl, rfl, _, rfl, ifD (fun cM => ?_) (fun _ => ⟨_, 0, rfl, e04, l4, by decide, by decide⟩)⟩
          refine ⟨_, rfl, _, rfl, l, _, _, _, rfl, rfl, SqL.of l4, at_back (by decide) (by omega), (by show 1 ≤ sizeLine; decide), fun b hb => ?_⟩
          have l5 : upd H4 b (.lst [.int 0]) l = some (.lst (ns.map V.int)) := by rw [upd_ne (ne_of_none l4 hb)]; exact l4
          have e5 : Ext p H (upd H4 b (.lst [.int 0])) := e04.new hb
          refine ⟨_, rfl, b, l, _, _, rfl, rfl, upd_same, l5, (by rw [List.length_map, sizeLine_eq]; show 1 + ns.length ≤ _; omega), fun b2 hb2 => ?_⟩
          have l6 : upd (upd H4 b (.lst [.int 0])) b2 (.lst (([.int 0] : List V) ++ ns.map V.int)) l = some (.lst (ns.map V.int)) := by rw [upd_ne (ne_of_none l5 hb2)]; exact l5
          have e6 : Ext p H (upd (upd H4 b (.lst [.int 0])) b2 (.lst (([.int 0] : List V) ++ ns.map V.int))) := e5.new hb2
          have h6 : upd (upd H4 b (.lst [.int 0])) b2 (.lst (([.int 0] : List V) ++ ns.map V.int)) b2 = some (.lst ((0 :: ns).map V.int)) := upd_same
          have r1 : ∀ i, 0 ≤ ns.getD i 0 ∧ ns.getD i 0 ≤ 2000 := fun i => getD_all (fun x => 0 ≤ x ∧ x ≤ 2000) (by decide) R i
          have r2 : ∀ i, 0 ≤ (0 :: ns).getD i 0 ∧ (0 :: ns).getD i 0 ≤ 2000 := fun i => getD_all (fun x => 0 ≤ x ∧ x ≤ 2000) (by decide) (fun x hx => by
            rcases List.mem_cons.mp hx with rfl | hx
            · decide
            · exact R x hx) i
          refine ⟨_, rfl, _, _, rfl, rfl, _, rfl, _, _, rfl, rfl, b2, _, _, _, rfl, rfl, SqL.of h6, at_map (by omega) (by rw [List.length_cons]; omega), _, _, rfl, rfl, ?_⟩
          have q1 := r1 (-1 + (ns.length : Int)).toNat
          have q2 := r2 (M + 1 - c).toNat
          exact ⟨_, _, rfl, e6, l6, by omega, by omega⟩
        · rintro σ G2 ⟨v3', L, rfl, eG2, lG, L0, L1⟩
          refine ⟨_, rfl, _, rfl, _, rfl, _, rfl, p, 3, rfl, eG2.rng, by decide, by decide, fun H8 d8 e8 d80 d81 => ⟨_, _, rfl, rfl, _, _, rfl, (by show 3 ≤ sizeLine; decide), fun r hr8 => ?_⟩⟩
          have l8 := e8.keep _ _ nlp lG
          have e08 := eG2.trans e8
          have l9 : upd H8 r (.lst [.ref l, .int c, .int (if L + d8 < 2000 then L + d8 else 2000)]) l = some (.lst (ns.map V.int)) := by rw [upd_ne (ne_of_none l8 hr8)]; exact l8
          refine k _ r l ns c _ (e08.new hr8) (e08.free hr8) hlH (Ne.symm (ne_of_none l8 hr8)) upd_same l9 R nl (by omega) hc0.2 ?_ ?_
          · split <;> omega
          · split <;> omega
end
end VK


namespace VK
open PySem PySem.Spec PyProof.Rows L2 VM
/-- the row at r: its list is that at l, or something else stands there -/
def RowA (K : PySem.W.Frag) (H : Hp) (S : List Addr) (B : Int) (r l : Addr) : Prop :=
  ∃ (t c m : V) (dc dm : PyData) (nc nm : String), H r = some (.lst [t, c, m]) ∧ Lf K H S B 1 200 c dc nc ∧ Lf K H S B 1 200 m dm nm ∧
    ((t = .ref l ∧ ∃ xs, H l = some (.lst xs) ∧ xs.length ≤ 25 ∧ ∀ x ∈ xs, ∃ d n, Lf K H S B 1 200 x d n) ∨ ∃ dt n, Lf K H S B 2 6000 t dt n ∧ n ≠ "list")
def sp_l_spoilt (K : PySem.W.Frag) (_ : Ad) : Sp := fun vs H Q _ => ∃ (p r l : Addr) (B : Int) (c m : V) (dc dm : PyData) (nc nm : String) (xs : List V), vs = [.ref p, .ref r] ∧ Rng H p ∧ r ≠ p ∧ l ≠ p ∧ r ≠ l ∧ 0 ≤ B ∧ B ≤ 5 ∧
  H r = some (.lst [.ref l, c, m]) ∧ Lf K H [p, r, l] B 1 200 c dc nc ∧ Lf K H [p, r, l] B 1 200 m dm nm ∧ H l = some (.lst xs) ∧ xs.length ≤ 25 ∧ (∀ x ∈ xs, ∃ d n, Lf K H [p, r, l] B 1 200 x d n) ∧
  ∀ H', Ex [p, r, l] H H' → Rng H' p → RowA K H' [p, r, l] (B + 1) r l → Q .non H'
theorem paired_snoc {α β : Type} {F : α → β → Prop} : ∀ {l₁ : List α} {l₂ : List β} {a : α} {b : β}, Paired F l₁ l₂ → F a b → Paired F (l₁ ++ [a]) (l₂ ++ [b])
  | _, _, _, _, .nil, h => .cons h .nil
  | _, _, _, _, .cons h t, h2 => .cons h (paired_snoc t h2)
theorem all_dm {K : PySem.W.Frag} {H : Hp} {S : List Addr} {B : Int} : ∀ {xs : List V}, (∀ x ∈ xs, ∃ d n, Lf K H S B 1 200 x d n) → ∃ ds : List PyData, (∀ H', Ex S H H' → VQ.DmAll K H' xs ds) ∧ (∀ d ∈ ds, VR.Sz 1 200 d) ∧ ds.length = xs.length
  | [], _ => ⟨[], fun _ _ => .nil, (fun d h => by cases h), rfl⟩
  | x :: xs, h => by
    obtain ⟨d, n, q⟩ := h x (List.mem_cons_self ..)
    obtain ⟨ds, a, b, c⟩ := all_dm (xs := xs) fun y hy => h y (List.mem_cons_of_mem _ hy)
    refine ⟨d :: ds, fun G s => .cons (q.dm G s) (a G s), fun e he => ?_, by rw [List.length_cons, c]; rfl⟩
    rcases List.mem_cons.mp he with rfl | he
    · exact q.sz
    · exact b e he
theorem Lf.dct3 {K : PySem.W.Frag} {H : Hp} {S : List Addr} {B : Int} {a : Addr} (h : H a = some (.dK [(Sum.inl 0, V.int 0), (Sum.inl 1, V.int 1), (Sum.inl 2, V.int 2)])) (ha : a ∉ S) :
    Lf K H S B 2 6000 (.ref a) (.dict [(.int 0, .int 0), (.int 1, .int 1), (.int 2, .int 2)]) "dict" :=
  ⟨fun G s => ⟨.base (.dK (s _ _ ha h)), by decide⟩, fun G s => .dct (ds := [.int 0, .int 1, .int 2]) (s _ _ ha h) (.cons (.flat (.int 0)) (.cons (.flat (.int 1)) (.cons (.flat (.int 2)) .nil))), ⟨by decide +kernel, by decide, by decide +kernel⟩, fun j e => by cases e⟩
section
variable {P : Program} {w : World} {K : PySem.W.Frag} {mg : Str → Option Value} {base : Heap} {A : Ad}
theorem ok_l_spoilt (T : Txt K mg A) : FnOk P w K mg base CX0 4 A.f_l_spoilt A.d_l_spoilt ["_law_rng_here", "_law_row"] (sp_l_spoilt K A) := by
  have G_l_choice := ok_l_choice (P := P) (w := w) (base := base) T
  have G_l_draw := ok_l_draw (P := P) (w := w) (base := base) T
  have G_l_odd_value := ok_l_odd_value (P := P) (w := w) (base := base) T
  refine T.F_l_spoilt.ok sc_l_spoilt (fun vs H Q E h => ?_) (fun cdv A0 outer s H vs Q E hr h => ?_)
  · obtain ⟨p, r, l, B, c, m, dc, dm, nc, nm, xs, rfl, hR, nrp, nlp, nrl, hB0, hB1, hr0, hc, hm, hl, hx, hxs, k⟩ := h
    rfl
  · obtain ⟨p, r, l, B, c, m, dc, dm, nc, nm, xs, rfl, hR, nrp, nlp, nrl, hB0, hB1, hr0, hc, hm, hl, hx, hxs, k⟩ := h
    refine ⟨_, (pss_cons (ps_set (i := 2) sc_l_spoilt.nd rfl (by first | exact Or.inl rfl | exact Or.inr rfl) (pe_call G_l_draw (hr.mono (by decide)) rfl T.m_l_draw T.k_l_draw T.b_l_draw .nil pass0 (pa_cons (pv 0) (pa_cons pe_int pa_nil))))
    (pss_cons (ps_set (i := 3) sc_l_spoilt.nd rfl (by first | exact Or.inl rfl | exact Or.inr rfl) (pe_ix (r := rIxL K) ix_list (pv 1) pe_int (fun _ _ => rfl)))
    (pss_one (ps_if (pt_cmpR op_eq (pv 2) pe_int (nomark _)) (pss_one (ps_asg (pe_call G_l_choice (hr.mono (by decide)) rfl T.m_l_choice T.k_l_choice T.b_l_choice .nil pass0 (pa_cons (pv 0) (pa_cons (pe_lst (pa_cons (pe_callTy call_tuple_of (by rfl) T.tuple (by decide +kernel) (pa_cons (pv 3) pa_nil)) (pa_cons pe_non (pa_cons pe_str (pa_cons pe_int (pa_cons (pe_callTy (call_dictP rfl) (by rfl) T.dict (by decide +kernel) (pa_cons (pe_lc (own := [("_law_k", 5)]) (g := gName 5) (tt := tYes) rfl sc_l_spoilt.nd (pi_range1 rfl T.range (pa_cons pe_int pa_nil)) (blkOk_by (own := [("_law_k", 5)]) (N := ["_law_rng_here", "_law_row", "_law_way", "_law_told_here", "_law_at", "_law_k"]) (sc := defScope s_l_spoilt) (by decide +kernel)) (fun _ _ _ _ _ => pg_name (i := 5) sc_l_spoilt.nd rfl (by first | exact Or.inl rfl | exact Or.inr rfl)) (fun _ _ _ _ _ => pts_nil) (fun _ _ _ _ _ => (pe_tup (pa_cons (pv 5) (pa_cons (pv 5) pa_nil))))) pa_nil)) (pa_cons pe_bl pa_nil))))))) pa_nil))) (pg_sub (pv 1) pe_int set_list))) (pss_one (ps_if (PW.pt (pw_and (pt_cmpR op_lt (pv 2) pe_int (nomark _)) (pw_and1 (pt_cmpR (VB.op_neNil hr.units) (pv 3) (pe_lst pa_nil) (nomark _))))) (pss_cons (ps_set (i := 4) sc_l_spoilt.nd rfl (by first | exact Or.inl rfl | exact Or.inr rfl) (pe_call G_l_draw (hr.mono (by decide)) rfl T.m_l_draw T.k_l_draw T.b_l_draw .nil pass0 (pa_cons (pv 0) (pa_cons (pe_callB (r := VG.rLen K) VG.call_len (by rfl) T.len (by decide +kernel) (pa_cons (pv 3) pa_nil)) pa_nil))))
    (pss_one (ps_asg (pe_call G_l_odd_value (hr.mono (by decide)) rfl T.m_l_odd_value T.k_l_odd_value T.b_l_odd_value .nil pass0 (pa_cons (pv 0) (pa_cons (pe_ix (r := rIxL K) ix_list (pe_op op_cat (pe_lst (pa_cons pe_int pa_nil)) (pv 3)) (pv 4) (fun _ _ => rfl)) pa_nil))) (pg_sub (pv 3) (pv 4) set_list)))) (pss_one (ps_if (pt_cmpR op_eq (pv 2) pe_int (nomark _)) (pss_one (ps_asg (pe_call G_l_choice (hr.mono (by decide)) rfl T.m_l_choice T.k_l_choice T.b_l_choice .nil pass0 (pa_cons (pv 0) (pa_cons (pe_lst (pa_cons pe_int (pa_cons pe_int (pa_cons pe_int (pa_cons pe_int (pa_cons pe_int (pa_cons (pe_un un_neg pe_int) (pa_cons pe_bl (pa_cons pe_bl (pa_cons pe_non (pa_cons pe_str (pa_cons (pe_tup (pa_cons pe_int pa_nil)) (pa_cons pe_int (pa_cons pe_int (pa_cons pe_int (pa_cons (pe_lst (pa_cons pe_int pa_nil)) pa_nil)))))))))))))))) pa_nil))) (pg_sub (pv 1) pe_int set_list))) (pss_one (ps_if (pt_cmpR op_eq (pv 2) pe_int (nomark _)) (pss_one (ps_asg (pe_call G_l_choice (hr.mono (by decide)) rfl T.m_l_choice T.k_l_choice T.b_l_choice .nil pass0 (pa_cons (pv 0) (pa_cons (pe_lst (pa_cons (pe_un un_neg pe_int) (pa_cons pe_int (pa_cons pe_bl (pa_cons pe_bl (pa_cons pe_non (pa_cons pe_str (pa_cons (pe_op op_pow pe_int pe_int) (pa_cons (pe_tup (pa_cons pe_int pa_nil)) (pa_cons (pe_lst pa_nil) (pa_cons pe_int (pa_cons pe_int pa_nil)))))))))))) pa_nil))) (pg_sub (pv 1) pe_int set_list))) (pss_one (ps_if (PW.pt (pw_and (pt_cmpR op_eq (pv 2) pe_int (nomark _)) (pw_and1 (pt_val (pe_callB (r := rIsi K) call_isi (by rfl) T.isinstance (by decide +kernel) (pa_cons (pe_ix (r := rIxL K) ix_list (pv 1) pe_int (fun _ _ => rfl)) (pa_cons (pe_bltn (v := .ty "int") (u := .type "int") (by rfl) T.int (by decide +kernel) (by exact rfl)) pa_nil))))))) (pss_one (ps_asg (pe_op VB.op_subI (pe_ix (r := rIxL K) ix_list (pv 1) pe_int (fun _ _ => rfl)) pe_int) (pg_sub (pv 1) pe_int set_list))) pss_nil)))))))))))), ?_⟩
    have hpS : p ∈ [p, r, l] := by simp
    have hrS : r ∈ [p, r, l] := by simp
    have hlS : l ∈ [p, r, l] := by simp
    have tS : ∀ a ∈ [p, r, l], H a ≠ none := by
      intro a ha
      simp only [List.mem_cons, List.not_mem_nil, or_false] at ha
      rcases ha with rfl | rfl | rfl
      · obtain ⟨_, _, e, _⟩ := hR; rw [e]; simp
      · rw [hr0]; simp
      · rw [hl]; simp
    refine ⟨_, rfl, p, 7, rfl, hR, by decide, by decide, fun H1 d1 e1 d10 d11 => ?_⟩
    have hr1 := e1.keep _ _ nrp hr0
    have hl1 := e1.keep _ _ nlp hl
    have x1 : Ex [p, r, l] H H1 := Ex.ext e1 hpS
    have hc1 := hc.ex x1
    have hm1 := hm.ex x1
    have hxs1 : ∀ x ∈ xs, ∃ d n, Lf K H1 [p, r, l] B 1 200 x d n := fun x h => by obtain ⟨d, n, q⟩ := hxs x h; exact ⟨d, n, q.ex x1⟩
    have tS1 : ∀ a ∈ [p, r, l], H1 a ≠ none := by
      intro a ha
      simp only [List.mem_cons, List.not_mem_nil, or_false] at ha
      rcases ha with rfl | rfl | rfl
      · obtain ⟨_, _, e, _⟩ := e1.rng; rw [e]; simp
      · rw [hr1]; simp
      · rw [hl1]; simp
    refine ⟨_, rfl, r, _, _, _, rfl, rfl, SqL.of hr1, rfl, ?_⟩
    refine ⟨_, rfl, rfl, _, rfl, ifEq (fun c0 => ?_) (fun c0 => ?_)⟩
    · refine ⟨_, rfl, _, rfl, l, xs, rfl, .inl ⟨SqL.of hl1, fun t ht => ?_⟩⟩
      have tr : upd H1 t (.tup xs) r = some (.lst [.ref l, c, m]) := by rw [upd_ne (ne_of_none hr1 ht)]; exact hr1
      have e2 : Ext p H1 (upd H1 t (.tup xs)) := (Ext.refl e1.rng).new ht
      have ht2 : upd H1 t (.tup xs) t = some (.tup xs) := upd_same
      generalize upd H1 t (.tup xs) = H2 at *
      refine ⟨_, rfl, by decide, by decide, fun D hD => ?_⟩
      refine lc_range (lo := 0) (n := 3) (fun j H' => ∃ (ps : List Addr) (kvs : List (Key × V)), H' D = some (.lst (ps.map V.ref)) ∧ ps.length = j ∧ kvs = (List.range j).map (fun i => ((Sum.inl (i : Nat) : Key), V.int (i : Nat))) ∧ Paired (fun q kv => H' q = some (.tup [kV kv.1, kv.2])) ps kvs ∧ Same H2 H')
        ⟨[], [], upd_same, rfl, rfl, .nil, Same.upd (Same.refl _) hD⟩ ?_ ?_
      · rintro j H' hj ⟨ps, kvs, hD2, hn, hk, hP, s2⟩
        refine ⟨rfl, _, rfl, _, rfl, (by show 2 ≤ sizeLine; decide), fun q hq => ?_⟩
        have nDq : D ≠ q := ne_of_none hD2 hq
        refine ⟨_, by rw [upd_ne nDq]; exact hD2, small (by rw [List.length_map]; omega), ps ++ [q], kvs ++ [((Sum.inl (j : Nat) : Key), V.int (j : Nat))], ?_, by rw [List.length_append, hn]; rfl, by rw [hk, List.range_succ, List.map_append]; rfl, ?_, ?_⟩
        · rw [upd_same, List.map_append]; rfl
        · refine paired_snoc (L2.Paired.mapP hP fun a b e => ?_) ?_
          · have n1 : a ≠ q := ne_of_none e hq
            have n2 : a ≠ D := fun z => by rw [z, hD2] at e; cases e
            rw [upd_ne n2, upd_ne n1]; exact e
          · rw [upd_ne (Ne.symm nDq), upd_same, Int.zero_add]
            rfl
        · have s3 := Same.upd (o := .tup [.int (0 + (j : Nat)), .int (0 + (j : Nat))]) s2 (s2.free hq)
          exact Same.upd s3 hD
      · rintro H3 ⟨ps, kvs, hD2, hn, hk, hP, s2⟩
        refine ⟨D, ps, kvs, rfl, SqL.of hD2, L2.Paired.mapP hP (fun _ _ e => SqT.of e), fun q hq => ⟨(by show 6 ≤ sizeLine; decide), fun Y hY => ?_⟩⟩
        have ek : mergeK [] kvs = [(Sum.inl 0, V.int 0), (Sum.inl 1, V.int 1), (Sum.inl 2, V.int 2)] := by rw [hk]; rfl
        rw [ek] at hY ⊢
        have e3 : Ext p H1 H3 := e2.same s2
        have e4 : Ext p H1 (upd H3 q (.dK [(Sum.inl 0, V.int 0), (Sum.inl 1, V.int 1), (Sum.inl 2, V.int 2)])) := e3.new hq
        have e5 : Ext p H1 (upd (upd H3 q (.dK [(Sum.inl 0, V.int 0), (Sum.inl 1, V.int 1), (Sum.inl 2, V.int 2)])) Y (.lst [.ref t, .non, .str "1,2", .int 5, .ref q, .bl true])) := e4.new hY
        have t4 : upd H3 q (.dK [(Sum.inl 0, V.int 0), (Sum.inl 1, V.int 1), (Sum.inl 2, V.int 2)]) t = some (.tup xs) := by rw [upd_ne (ne_of_none (s2 _ _ ht2) hq)]; exact s2 _ _ ht2
        have t5 : upd (upd H3 q (.dK [(Sum.inl 0, V.int 0), (Sum.inl 1, V.int 1), (Sum.inl 2, V.int 2)])) Y (.lst [.ref t, .non, .str "1,2", .int 5, .ref q, .bl true]) t = some (.tup xs) := by rw [upd_ne (ne_of_none t4 hY)]; exact t4
        have q4 : upd H3 q (.dK [(Sum.inl 0, V.int 0), (Sum.inl 1, V.int 1), (Sum.inl 2, V.int 2)]) q = some (.dK [(Sum.inl 0, V.int 0), (Sum.inl 1, V.int 1), (Sum.inl 2, V.int 2)]) := upd_same
        have q5 : upd (upd H3 q (.dK [(Sum.inl 0, V.int 0), (Sum.inl 1, V.int 1), (Sum.inl 2, V.int 2)])) Y (.lst [.ref t, .non, .str "1,2", .int 5, .ref q, .bl true]) q = some (.dK [(Sum.inl 0, V.int 0), (Sum.inl 1, V.int 1), (Sum.inl 2, V.int 2)]) := by rw [upd_ne (ne_of_none q4 hY)]; exact q4
        have nqS : q ∉ [p, r, l] := fun h => tS1 q h (e3.free hq)
        have ntS : t ∉ [p, r, l] := fun h => tS1 t h ht
        have nYp : Y ≠ p := e4.rng.ne hY
        have hY5 : upd (upd H3 q (.dK [(Sum.inl 0, V.int 0), (Sum.inl 1, V.int 1), (Sum.inl 2, V.int 2)])) Y (.lst [.ref t, .non, .str "1,2", .int 5, .ref q, .bl true]) Y = some (.lst [.ref t, .non, .str "1,2", .int 5, .ref q, .bl true]) := upd_same
        generalize upd (upd H3 q (.dK [(Sum.inl 0, V.int 0), (Sum.inl 1, V.int 1), (Sum.inl 2, V.int 2)])) Y (.lst [.ref t, .non, .str "1,2", .int 5, .ref q, .bl true]) = H5 at *
        refine ⟨p, Y, _, rfl, e5.rng, SqL.of hY5, nYp, (by show 0 < 6; decide), (by show 6 < 1000000; decide), fun H6 v e6 hv => ?_⟩
        have e06 := e5.trans e6
        have r6 := e06.keep _ _ nrp hr1
        have t6 := e6.keep _ _ (fun z => ntS (by rw [z]; exact hpS)) t5
        have q6 := e6.keep _ _ (fun z => nqS (by rw [z]; exact hpS)) q5
        refine ⟨_, rfl, r, _, 0, 0, rfl, rfl, r6, rfl, ?_⟩
        have x6 : Ex [p, r, l] H1 (upd H6 r (.lst [v, c, m])) := (Ex.ext e06 hpS).trans (Ex.put hrS)
        have w6 : Ex [p, r, l] H6 (upd H6 r (.lst [v, c, m])) := Ex.put hrS
        have r7 : Rng (upd H6 r (.lst [v, c, m])) p := by
          obtain ⟨a, b, z, y⟩ := e6.rng
          exact ⟨a, b, by rw [upd_ne (Ne.symm nrp)]; exact z, y⟩
        obtain ⟨ds, hds, sds, lds⟩ := all_dm hxs
        have hB5 : B + 1 ≤ 100 := by omega
        refine k _ (x1.trans x6) r7 ⟨v, c, m, dc, dm, nc, nm, upd_same, (hc1.ex x6).mono (by omega) (Nat.le_refl _) (Nat.le_refl _), (hm1.ex x6).mono (by omega) (Nat.le_refl _) (Nat.le_refl _), .inr ?_⟩
        simp only [List.mem_cons, List.not_mem_nil, or_false] at hv
        rcases hv with rfl | rfl | rfl | rfl | rfl | rfl
        · exact ⟨_, _, Lf.tup (w6 _ _ ntS t6) ntS (fun G sG => hds G (x1.trans (x6.trans sG))) sds (show ds.length ≤ 25 by omega) (by omega) (by omega), by decide⟩
        · exact ⟨_, _, Lf.non.mono (Int.le_refl _) (by omega) (by omega), by decide⟩
        · exact ⟨_, _, (Lf.str (by decide +kernel)).mono (Int.le_refl _) (by omega) (by omega), by decide⟩
        · exact ⟨_, _, (Lf.int (by omega) hB5).mono (Int.le_refl _) (by omega) (by omega), by decide⟩
        · exact ⟨_, _, Lf.dct3 (w6 _ _ nqS q6) nqS, by decide⟩
        · exact ⟨_, _, (Lf.bl true (by omega)).mono (Int.le_refl _) (by omega) (by omega), by decide⟩
    have fin : ∀ G (c' m' : V) dc' nc' dm' nm', Ext p H1 G → Lf K G [p, r, l] (B + 1) 1 200 c' dc' nc' → Lf K G [p, r, l] (B + 1) 1 200 m' dm' nm' → Q .non (upd G r (.lst [.ref l, c', m'])) := by
      intro G c' m' dc' nc' dm' nm' eG lc lm
      have w6 : Ex [p, r, l] G (upd G r (.lst [.ref l, c', m'])) := Ex.put hrS
      have x6 : Ex [p, r, l] H1 (upd G r (.lst [.ref l, c', m'])) := (Ex.ext eG hpS).trans w6
      have r7 : Rng (upd G r (.lst [.ref l, c', m'])) p := by
        obtain ⟨a, b, z, y⟩ := eG.rng
        exact ⟨a, b, by rw [upd_ne (Ne.symm nrp)]; exact z, y⟩
      refine k _ (x1.trans x6) r7 ⟨.ref l, c', m', dc', dm', nc', nm', upd_same, lc.ex w6, lm.ex w6, .inl ⟨rfl, xs, ?_, hx, fun x h => ?_⟩⟩
      · rw [upd_ne (Ne.symm nrl)]; exact eG.keep _ _ nlp hl1
      · obtain ⟨d, n, q⟩ := hxs1 x h; exact ⟨d, n, (q.ex x6).mono (by omega) (Nat.le_refl _) (Nat.le_refl _)⟩
    have stay : ∀ G, Ext p H1 G → Q .non G := by
      intro G eG
      have x6 : Ex [p, r, l] H1 G := Ex.ext eG hpS
      refine k _ (x1.trans x6) eG.rng ⟨.ref l, c, m, dc, dm, nc, nm, eG.keep _ _ nrp hr1, (hc1.ex x6).mono (by omega) (Nat.le_refl _) (Nat.le_refl _), (hm1.ex x6).mono (by omega) (Nat.le_refl _) (Nat.le_refl _), .inl ⟨rfl, xs, eG.keep _ _ nlp hl1, hx, fun x h => ?_⟩⟩
      obtain ⟨d, n, q⟩ := hxs1 x h; exact ⟨d, n, (q.ex x6).mono (by omega) (Nat.le_refl _) (Nat.le_refl _)⟩
    have hB5 : B + 1 ≤ 100 := by omega
    refine ⟨_, rfl, _, _, rfl, rfl, _, rfl, ifD (fun c1 => ?_) (fun c1 => ?_)⟩
    · refine ⟨_, rfl, (by show 0 ≤ sizeLine; decide), fun b hb => ⟨l, b, xs, rfl, rfl, SqL.of (by rw [upd_ne (ne_of_none hl1 hb)]; exact hl1), SqL.of upd_same, _, rfl, ifD (fun c2 => ?_) (fun c2 => ?_)⟩⟩
      · have eb : Ext p H1 (upd H1 b (.lst [])) := (Ext.refl e1.rng).new hb
        have lb : upd H1 b (.lst []) l = some (.lst xs) := by rw [upd_ne (ne_of_none hl1 hb)]; exact hl1
        generalize upd H1 b (.lst []) = H2 at *
        have xl : 0 < xs.length := List.length_pos_iff.mpr c2
        refine ⟨_, rfl, _, rfl, l, xs, rfl, .inl (SqL.of lb), p, _, rfl, eb.rng, by omega, by omega, fun H3 d3 e3 d30 d31 => ?_⟩
        have l3 := e3.keep _ _ nlp lb
        have e03 := eb.trans e3
        refine ⟨_, rfl, (by show 1 ≤ sizeLine; decide), fun a ha => ?_⟩
        have l4 : upd H3 a (.lst [.int 0]) l = some (.lst xs) := by rw [upd_ne (ne_of_none l3 ha)]; exact l3
        have e4 : Ext p H1 (upd H3 a (.lst [.int 0])) := e03.new ha
        refine ⟨_, rfl, a, l, _, _, rfl, rfl, upd_same, l4, (by rw [sizeLine_eq]; show 1 + xs.length ≤ _; omega), fun b2 hb2 => ?_⟩
        have l5 : upd (upd H3 a (.lst [.int 0])) b2 (.lst (([.int 0] : List V) ++ xs)) l = some (.lst xs) := by rw [upd_ne (ne_of_none l4 hb2)]; exact l4
        have e5 : Ext p H1 (upd (upd H3 a (.lst [.int 0])) b2 (.lst (([.int 0] : List V) ++ xs))) := e4.new hb2
        have h5 : upd (upd H3 a (.lst [.int 0])) b2 (.lst (([.int 0] : List V) ++ xs)) b2 = some (.lst (.int 0 :: xs)) := upd_same
        have dn : d3.toNat < (V.int 0 :: xs).length := by rw [List.length_cons]; omega
        generalize upd (upd H3 a (.lst [.int 0])) b2 (.lst (([.int 0] : List V) ++ xs)) = H5 at *
        have x5 : Ex [p, r, l] H1 H5 := Ex.ext e5 hpS
        have tS5 : ∀ a ∈ [p, r, l], H5 a ≠ none := by
          intro a ha
          simp only [List.mem_cons, List.not_mem_nil, or_false] at ha
          rcases ha with rfl | rfl | rfl
          · obtain ⟨_, _, e, _⟩ := e5.rng; rw [e]; simp
          · rw [e5.keep _ _ nrp hr1]; simp
          · rw [l5]; simp
        obtain ⟨v, dv, nv, hv, Lv⟩ : ∃ v dv nv, (V.int 0 :: xs)[d3.toNat]? = some v ∧ Lf K H5 [p, r, l] B 1 200 v dv nv := by
          have hm := List.getElem_mem dn
          rcases List.mem_cons.mp hm with e | h
          · exact ⟨_, _, _, List.getElem?_eq_getElem dn, by rw [e]; exact Lf.int (by omega) (by omega)⟩
          · obtain ⟨d, n, q⟩ := hxs1 _ h
            exact ⟨_, _, _, List.getElem?_eq_getElem dn, q.ex x5⟩
        refine ⟨_, rfl, b2, _, d3, v, rfl, rfl, SqL.of h5, at_of (j := d3.toNat) (by omega) hv, ?_⟩
        refine ⟨p, [p, r, l], B, 1, 200, v, dv, nv, rfl, e5.rng, Lv, hB0, by omega, tS5, hpS, fun H6 v6 d6 n6 e6 L6 => ?_⟩
        have l6 := e6.keep _ _ nlp l5
        have e06 := e5.trans e6
        refine ⟨_, rfl, _, rfl, l, xs, d3, d3.toNat, rfl, rfl, l6, ?_, ?_⟩
        · unfold ixN
          rw [if_pos (by omega), if_pos (by omega)]
        have w6 : Ex [p, r, l] H6 (upd H6 l (.lst (xs.set d3.toNat v6))) := Ex.put hlS
        have x6 : Ex [p, r, l] H1 (upd H6 l (.lst (xs.set d3.toNat v6))) := (Ex.ext e06 hpS).trans w6
        have r7 : Rng (upd H6 l (.lst (xs.set d3.toNat v6))) p := by
          obtain ⟨a, b, z, y⟩ := e6.rng
          exact ⟨a, b, by rw [upd_ne (Ne.symm nlp)]; exact z, y⟩
        refine k _ (x1.trans x6) r7 ⟨.ref l, c, m, dc, dm, nc, nm, by rw [upd_ne nrl]; exact e06.keep _ _ nrp hr1, (hc1.ex x6).mono (by omega) (Nat.le_refl _) (Nat.le_refl _), (hm1.ex x6).mono (by omega) (Nat.le_refl _) (Nat.le_refl _), .inl ⟨rfl, _, upd_same, by rw [List.length_set]; exact hx, fun x h => ?_⟩⟩
        rcases List.mem_or_eq_of_mem_set h with h | rfl
        · obtain ⟨d, n, q⟩ := hxs1 x h; exact ⟨d, n, (q.ex x6).mono (by omega) (Nat.le_refl _) (Nat.le_refl _)⟩
        · exact ⟨_, _, L6.ex w6⟩
      · refine ⟨_, rfl, rfl, _, rfl, ifEq (fun z => absurd z (by omega)) (fun _ => ?_)⟩
        refine ⟨_, rfl, rfl, _, rfl, ifEq (fun z => absurd z (by omega)) (fun _ => ?_)⟩
        refine ⟨_, rfl, rfl, _, rfl, ifEq (fun z => absurd z (by omega)) (fun _ => ?_)⟩
        exact stay _ ((Ext.refl e1.rng).new hb)
    refine ⟨_, rfl, rfl, _, rfl, ifEq (fun c3 => ?_) (fun c3 => ?_)⟩
    · refine ⟨_, rfl, _, rfl, (by show 1 ≤ sizeLine; decide), fun a1 h1 => ⟨(by show 1 ≤ sizeLine; decide), fun a2 h2 => ⟨(by show 15 ≤ sizeLine; decide), fun q hq => ?_⟩⟩⟩
      have n12 : a1 ≠ a2 := fun z => by rw [← z, upd_same] at h2; cases h2
      have f2 : H1 a2 = none := by rw [upd_ne (Ne.symm n12)] at h2; exact h2
      have u1 : upd (upd H1 a1 (.tup [.int 1])) a2 (.lst [.int 1]) a1 = some (.tup [.int 1]) := by rw [upd_ne n12]; exact upd_same
      have u2 : upd (upd H1 a1 (.tup [.int 1])) a2 (.lst [.int 1]) a2 = some (.lst [.int 1]) := upd_same
      have e2 : Ext p H1 (upd (upd H1 a1 (.tup [.int 1])) a2 (.lst [.int 1])) := ((Ext.refl e1.rng).new h1).new h2
      generalize upd (upd H1 a1 (.tup [.int 1])) a2 (.lst [.int 1]) = H2 at *
      have nqp := e2.rng.ne hq
      have n1 : a1 ≠ q := ne_of_none u1 hq
      have n2 : a2 ≠ q := ne_of_none u2 hq
      have ys : H2 q = none := hq
      refine ⟨p, q, [.int 0, .int 5, .int 7, .int 8, .int 24, .int (-1), .bl true, .bl false, .non, .str "1", .ref a1, .int 12, .int 6, .int 4, .ref a2], rfl, (e2.new hq).rng, SqL.of upd_same, nqp, (by show 0 < 15; decide), (by show 15 < 1000000; decide), fun H6 v e6 hv => ?_⟩
      have e06 := (e2.new hq).trans e6
      have a1S : a1 ∉ [p, r, l] := fun h => tS1 a1 h h1
      have a2S : a2 ∉ [p, r, l] := fun h => tS1 a2 h f2
      have w1 : H6 a1 = some (.tup [.int 1]) := e6.keep _ _ (fun z => a1S (by rw [z]; exact hpS)) (by rw [upd_ne n1]; exact u1)
      have w2 : H6 a2 = some (.lst [.int 1]) := e6.keep _ _ (fun z => a2S (by rw [z]; exact hpS)) (by rw [upd_ne n2]; exact u2)
      refine ⟨_, rfl, r, _, 1, 1, rfl, rfl, e06.keep _ _ nrp hr1, rfl, ?_⟩
      have mm := (hm1.ex (Ex.ext e06 hpS)).mono (show B ≤ B + 1 by omega) (Nat.le_refl _) (Nat.le_refl _)
      obtain ⟨d, n, Lv⟩ : ∃ d n, Lf K H6 [p, r, l] (B + 1) 1 200 v d n := by
        simp only [List.mem_cons, List.not_mem_nil, or_false] at hv
        rcases hv with rfl | rfl | rfl | rfl | rfl | rfl | rfl | rfl | rfl | rfl | rfl | rfl | rfl | rfl | rfl
        · exact ⟨_, _, Lf.int (by omega) hB5⟩
        · exact ⟨_, _, Lf.int (by omega) hB5⟩
        · exact ⟨_, _, Lf.int (by omega) hB5⟩
        · exact ⟨_, _, Lf.int (by omega) hB5⟩
        · exact ⟨_, _, Lf.int (by omega) hB5⟩
        · exact ⟨_, _, Lf.int (by omega) hB5⟩
        · exact ⟨_, _, Lf.bl true (by omega)⟩
        · exact ⟨_, _, Lf.bl false (by omega)⟩
        · exact ⟨_, _, Lf.non⟩
        · exact ⟨_, _, Lf.str (by decide +kernel)⟩
        · exact ⟨_, _, Lf.tup1 w1 a1S (by decide)⟩
        · exact ⟨_, _, Lf.int (by omega) hB5⟩
        · exact ⟨_, _, Lf.int (by omega) hB5⟩
        · exact ⟨_, _, Lf.int (by omega) hB5⟩
        · exact ⟨_, _, Lf.lst1 w2 a2S (by decide)⟩
      exact fin _ _ _ _ _ _ _ e06 Lv mm
    refine ⟨_, rfl, rfl, _, rfl, ifEq (fun c4 => ?_) (fun c4 => ?_)⟩
    · refine ⟨_, rfl, _, rfl, _, _, rfl, rfl, ⟨by decide, by decide⟩, (by show 1 ≤ sizeLine; decide), fun a1 h1 => ⟨(by show 0 ≤ sizeLine; decide), fun a2 h2 => ⟨(by show 11 ≤ sizeLine; decide), fun q hq => ?_⟩⟩⟩
      have n12 : a1 ≠ a2 := fun z => by rw [← z, upd_same] at h2; cases h2
      have f2 : H1 a2 = none := by rw [upd_ne (Ne.symm n12)] at h2; exact h2
      have u1 : upd (upd H1 a1 (.tup [.int 0])) a2 (.lst []) a1 = some (.tup [.int 0]) := by rw [upd_ne n12]; exact upd_same
      have u2 : upd (upd H1 a1 (.tup [.int 0])) a2 (.lst []) a2 = some (.lst []) := upd_same
      have e2 : Ext p H1 (upd (upd H1 a1 (.tup [.int 0])) a2 (.lst [])) := ((Ext.refl e1.rng).new h1).new h2
      generalize upd (upd H1 a1 (.tup [.int 0])) a2 (.lst []) = H2 at *
      have nqp := e2.rng.ne hq
      have n1 : a1 ≠ q := ne_of_none u1 hq
      have n2 : a2 ≠ q := ne_of_none u2 hq
      have ys : H2 q = none := hq
      refine ⟨p, q, [.int (-1), .int 2001, .bl true, .bl false, .non, .str "0", .int (10 ^ 18), .ref a1, .ref a2, .int 0, .int 2000], rfl, (e2.new hq).rng, SqL.of upd_same, nqp, (by show 0 < 11; decide), (by show 11 < 1000000; decide), fun H6 v e6 hv => ?_⟩
      have e06 := (e2.new hq).trans e6
      have a1S : a1 ∉ [p, r, l] := fun h => tS1 a1 h h1
      have a2S : a2 ∉ [p, r, l] := fun h => tS1 a2 h f2
      have w1 : H6 a1 = some (.tup [.int 0]) := e6.keep _ _ (fun z => a1S (by rw [z]; exact hpS)) (by rw [upd_ne n1]; exact u1)
      have w2 : H6 a2 = some (.lst []) := e6.keep _ _ (fun z => a2S (by rw [z]; exact hpS)) (by rw [upd_ne n2]; exact u2)
      refine ⟨_, rfl, r, _, 2, 2, rfl, rfl, e06.keep _ _ nrp hr1, rfl, ?_⟩
      have mm := (hc1.ex (Ex.ext e06 hpS)).mono (show B ≤ B + 1 by omega) (Nat.le_refl _) (Nat.le_refl _)
      obtain ⟨d, n, Lv⟩ : ∃ d n, Lf K H6 [p, r, l] (B + 1) 1 200 v d n := by
        simp only [List.mem_cons, List.not_mem_nil, or_false] at hv
        rcases hv with rfl | rfl | rfl | rfl | rfl | rfl | rfl | rfl | rfl | rfl | rfl
        · exact ⟨_, _, Lf.int (by omega) hB5⟩
        · exact ⟨_, _, Lf.int (by omega) hB5⟩
        · exact ⟨_, _, Lf.bl true (by omega)⟩
        · exact ⟨_, _, Lf.bl false (by omega)⟩
        · exact ⟨_, _, Lf.non⟩
        · exact ⟨_, _, Lf.str (by decide +kernel)⟩
        · exact ⟨_, _, Lf.int (by omega) hB5⟩
        · exact ⟨_, _, Lf.tup1 w1 a1S (by decide)⟩
        · exact ⟨_, _, Lf.lst0 w2 a2S⟩
        · exact ⟨_, _, Lf.int (by omega) hB5⟩
        · exact ⟨_, _, Lf.int (by omega) hB5⟩
      exact fin _ _ _ _ _ _ _ e06 mm Lv
    refine ⟨_, rfl, rfl, _, rfl, ifEq (fun c5 => ?_) (fun _ => stay _ (Ext.refl e1.rng))⟩
    have hk := hm1.kd H1 .refl
    refine ⟨_, rfl, r, _, 2, m, rfl, rfl, SqL.of hr1, rfl, m, .ty "int", _, _, _, rfl, .ty _, hk.1, kitI hk.2, _, rfl, ite2 (fun c6 => ?_) (fun _ => stay _ (Ext.refl e1.rng))⟩
    obtain ⟨i0, hi, b1, b2⟩ := hm1.is_int c6
    refine ⟨_, rfl, r, _, 2, m, rfl, rfl, SqL.of hr1, rfl, i0, 1, hi, rfl, _, rfl, r, _, 2, 2, rfl, rfl, hr1, rfl, ?_⟩
    exact fin H1 c (.int (i0 - 1)) _ _ _ _ (Ext.refl e1.rng) (hc1.mono (by omega) (Nat.le_refl _) (Nat.le_refl _)) (Lf.int (by omega) hB5)
end
end VK


namespace VK
open PySem PySem.Spec PyProof.Rows L2 VM
def sp_l_is_count (K : PySem.W.Frag) (_ : Ad) : Sp := fun vs H Q _ => ∃ v n, vs = [v] ∧ Kd K H v n ∧ Q (.bl (cntTo 2000 v)) H
def sp_l_due (K : PySem.W.Frag) (_ : Ad) : Sp := fun vs H Q _ => ∃ (r : Addr) (v c m : V) (W : Option (Str × Nat)), vs = [.ref r] ∧ SqL K H r [v, c, m] ∧ Prb K H v c m W ∧ ∀ H', Same H H' → Tol W Q H'
def pl : List Int := [1, 2, 3, 4, 6, 12]
theorem pl_at {j : Nat} {x : V} (h : ([.int 1, .int 2, .int 3, .int 4, .int 6, .int 12] : List V)[j]? = some x) : ∃ z : Int, x = .int z ∧ pl[j]? = some z := by
  match j, h with
  | 0, h => cases h; exact ⟨1, rfl, rfl⟩
  | 1, h => cases h; exact ⟨2, rfl, rfl⟩
  | 2, h => cases h; exact ⟨3, rfl, rfl⟩
  | 3, h => cases h; exact ⟨4, rfl, rfl⟩
  | 4, h => cases h; exact ⟨6, rfl, rfl⟩
  | 5, h => cases h; exact ⟨12, rfl, rfl⟩
  | n + 6, h => exact absurd h (by simp)
section
variable {P : Program} {w : World} {K : PySem.W.Frag} {mg : Str → Option Value} {base : Heap} {A : Ad}
theorem ok_l_is_count (T : Txt K mg A) : FnOk P w K mg base CX0 1 A.f_l_is_count A.d_l_is_count ["_law_thing"] (sp_l_is_count K A) := by
  refine T.F_l_is_count.ok sc_l_is_count (fun vs H Q E h => ?_) (fun cdv A0 outer s H vs Q E hr h => ?_)
  · obtain ⟨v, n, rfl, hk, q⟩ := h
    rfl
  · obtain ⟨v, n, rfl, hk, q⟩ := h
    refine ⟨_, (pss_one (ps_ret (pe_and (pe_callB (r := rIsi K) call_isi (by rfl) T.isinstance (by decide +kernel) (pa_cons (pv 0) (pa_cons (pe_bltn (v := .ty "int") (u := .type "int") (by rfl) T.int (by decide +kernel) (by exact rfl)) pa_nil))) (pe_and (pe_not (pe_callB (r := rIsi K) call_isi (by rfl) T.isinstance (by decide +kernel) (pa_cons (pv 0) (pa_cons (pe_bltn (v := .ty "bool") (u := .type "bool") (by rfl) T.bool (by decide +kernel) (by exact rfl)) pa_nil)))) (pe_one (pe_chain op_le op_le pe_int (pv 0) pe_int)))))), ?_⟩
    refine ⟨_, rfl, v, .ty "int", _, _, _, rfl, .ty _, hk.1, kitI hk.2, _, rfl, ?_⟩
    refine ite2 (fun c => ?_) (fun c => ?_)
    · refine ⟨_, rfl, v, .ty "bool", _, _, _, rfl, .ty _, hk.1, kitB' hk.2, _, rfl, ?_⟩
      refine ⟨_, rfl, ite2 (fun c2 => ?_) (fun c2 => ?_)⟩
      · have e : n = "int" := by
          rcases (by simpa using c : n = "int" ∨ n = "bool") with h | h
          · exact h
          · subst h; exact absurd c2 (by decide)
        subst e
        obtain ⟨i, rfl⟩ := hk.is_int
        refine ⟨_, rfl, _, _, rfl, rfl, _, rfl, ?_⟩
        have e : cntTo 2000 (.int i) = (decide (0 ≤ i) && decide (i ≤ 2000)) := by
          show decide (0 ≤ i ∧ i ≤ 2000) = _
          rw [Bool.decide_and]
        refine ifD (fun c3 => ?_) (fun c3 => ?_)
        · rw [decide_eq_true c3, Bool.true_and] at e
          rw [e] at q
          exact ⟨_, _, rfl, rfl, q⟩
        · rw [decide_eq_false c3, Bool.false_and] at e
          rw [e] at q
          exact q
      · have e : n = "bool" := by simpa using c2
        have e2 : cntTo 2000 v = false := by
          cases v <;> first | rfl | skip
          have := hk.isI
          rw [e] at this
          exact absurd this (by show ¬ (("bool" == "int") = true); decide)
        rw [e2] at q
        exact q
    · have e2 : cntTo 2000 v = false := by
        cases v <;> first | rfl | skip
        have := hk.isI
        simp [isI] at this
        rw [this] at c
        exact absurd c (by decide)
      rw [e2] at q
      exact q
theorem ok_l_due (T : Txt K mg A) : FnOk P w K mg base CX0 4 A.f_l_due A.d_l_due ["_law_row"] (sp_l_due K A) := by
  have G_l_is_count := ok_l_is_count (P := P) (w := w) (base := base) T
  refine T.F_l_due.ok sc_l_due (fun vs H Q E h => ?_) (fun cdv A0 outer s H vs Q E hr h => ?_)
  · obtain ⟨r, v, c, m, W, rfl, hr0, hP, k⟩ := h
    rfl
  · obtain ⟨r, v, c, m, W, rfl, hr0, hP, k⟩ := h
    refine ⟨_, (pss_cons (ps_asg (pv 0) (pg_unl rfl (pgs_cons (pg_name (i := 1) sc_l_due.nd rfl (by first | exact Or.inl rfl | exact Or.inr rfl)) (pgs_cons (pg_name (i := 2) sc_l_due.nd rfl (by first | exact Or.inl rfl | exact Or.inr rfl)) (pgs_cons (pg_name (i := 3) sc_l_due.nd rfl (by first | exact Or.inl rfl | exact Or.inr rfl)) pgs_nil)))))
    (pss_cons (ps_if (pt_not (pt_val (pe_callB (r := rIsi K) call_isi (by rfl) T.isinstance (by decide +kernel) (pa_cons (pv 1) (pa_cons (pe_bltn (v := .ty "list") (u := .type "list") (by rfl) T.list (by decide +kernel) (by exact rfl)) pa_nil))))) (pss_one (ps_ret (pe_tup (pa_cons pe_str (pa_cons pe_int pa_nil))))) pss_nil)
    (pss_cons (ps_if (PW.pt (pw_or (pt_cmpR op_lt (pe_callB (r := VG.rLen K) VG.call_len (by rfl) T.len (by decide +kernel) (pa_cons (pv 1) pa_nil)) pe_int (nomark _)) (pw_or1 (pt_cmpR op_gt (pe_callB (r := VG.rLen K) VG.call_len (by rfl) T.len (by decide +kernel) (pa_cons (pv 1) pa_nil)) pe_int (nomark _))))) (pss_one (ps_ret (pe_tup (pa_cons pe_str (pa_cons pe_int pa_nil))))) pss_nil)
    (pss_cons (ps_set (i := 4) sc_l_due.nd rfl (by first | exact Or.inl rfl | exact Or.inr rfl) pe_int)
    (pss_cons (ps_for PassesOwn.never rfl (pi_enum (by rfl) T.enumerate (pa_cons (pv 1) pa_nil)) (pg_tup rfl (pgs_cons (pg_name (i := 5) sc_l_due.nd rfl (by first | exact Or.inl rfl | exact Or.inr rfl)) (pgs_cons (pg_name (i := 6) sc_l_due.nd rfl (by first | exact Or.inl rfl | exact Or.inr rfl)) pgs_nil)))
      (pss_cons (ps_if (PW.pt (pw_or (pt_not (pt_val (pe_call G_l_is_count (hr.mono (by decide)) rfl T.m_l_is_count T.k_l_is_count T.b_l_is_count .nil pass0 (pa_cons (pv 6) pa_nil)))) (pw_or1 (pt_cmpR op_lt (pv 6) (pv 4) (nomark _))))) (pss_one (ps_ret (pe_tup (pa_cons pe_str (pa_cons (pv 5) pa_nil))))) pss_nil)
    (pss_one (ps_set (i := 4) sc_l_due.nd rfl (by first | exact Or.inl rfl | exact Or.inr rfl) (pv 6)))))
    (pss_cons (ps_if (PW.pt (pw_or (pt_not (pt_val (pe_callB (r := rIsi K) call_isi (by rfl) T.isinstance (by decide +kernel) (pa_cons (pv 2) (pa_cons (pe_bltn (v := .ty "int") (u := .type "int") (by rfl) T.int (by decide +kernel) (by exact rfl)) pa_nil))))) (pw_or (pt_val (pe_callB (r := rIsi K) call_isi (by rfl) T.isinstance (by decide +kernel) (pa_cons (pv 2) (pa_cons (pe_bltn (v := .ty "bool") (u := .type "bool") (by rfl) T.bool (by decide +kernel) (by exact rfl)) pa_nil)))) (pw_or1 (pt_cmpR (op_eqD hr.units) (pe_lc (own := [("_law_k", 7)]) (g := gName 7) rfl sc_l_due.nd (pi_list (pe_lst (pa_cons pe_int (pa_cons pe_int (pa_cons pe_int (pa_cons pe_int (pa_cons pe_int (pa_cons pe_int pa_nil)))))))) (blkOk_by (own := [("_law_k", 7)]) (N := ["_law_row", "_law_told_here", "_law_cycle", "_law_more", "_law_before", "_law_at", "_law_one", "_law_k"]) (sc := defScope s_l_due) (by decide +kernel)) (fun _ _ _ _ _ => pg_name (i := 7) sc_l_due.nd rfl (by first | exact Or.inl rfl | exact Or.inr rfl)) (fun _ _ _ _ _ => (pts_one (pt_cmpR op_eq (pv 7) (pv 2) (nomark _)))) (fun _ _ _ _ _ => (pv 7))) (pe_lst pa_nil) (nomark _)))))) (pss_one (ps_ret (pe_tup (pa_cons pe_str (pa_cons pe_int pa_nil))))) pss_nil)
    (pss_cons (ps_if (pt_cmpR op_gt (pv 2) (pe_callB (r := VG.rLen K) VG.call_len (by rfl) T.len (by decide +kernel) (pa_cons (pv 1) pa_nil)) (nomark _)) (pss_one (ps_ret (pe_tup (pa_cons pe_str (pa_cons pe_int pa_nil))))) pss_nil)
    (pss_cons (ps_if (PW.pt (pw_or (pt_not (pt_val (pe_call G_l_is_count (hr.mono (by decide)) rfl T.m_l_is_count T.k_l_is_count T.b_l_is_count .nil pass0 (pa_cons (pv 3) pa_nil)))) (pw_or1 (pt_cmpR op_lt (pe_op op_add (pe_ix (r := rIxL K) ix_list (pe_op op_cat (pe_lst (pa_cons pe_int pa_nil)) (pv 1)) (pe_op op_sub (pe_op op_add (pe_callB (r := VG.rLen K) VG.call_len (by rfl) T.len (by decide +kernel) (pa_cons (pv 1) pa_nil)) pe_int) (pv 2)) (fun _ _ => rfl)) (pv 3)) (pe_ix (r := rIxL K) ix_list (pv 1) (pe_un un_neg pe_int) (fun _ _ => rfl)) (nomark _))))) (pss_one (ps_ret (pe_tup (pa_cons pe_str (pa_cons pe_int pa_nil))))) pss_nil)
    (pss_one (ps_ret pe_non)))))))))), ?_⟩
    refine ⟨_, rfl, r, _, rfl, hr0, rfl, ?_⟩
    rcases hP with ⟨n, hk, hn, rfl⟩ | ⟨l, xs, rfl, hS0, hx, ⟨nc, hc⟩, ⟨nm, hm⟩, rfl⟩
    · refine ⟨_, _, rfl, _, _, rfl, _, _, rfl, rfl, ?_⟩
      refine ⟨_, rfl, v, .ty "list", _, _, _, rfl, .ty _, hk.kd.1, kitL hk.kd.2, _, rfl, ?_⟩
      have e : (n == "list") = false := by simpa using hn
      rw [e]
      exact iteT ⟨by show 2 ≤ sizeLine; decide, k H (Same.refl _)⟩
    refine ⟨_, _, rfl, _, _, rfl, _, _, rfl, rfl, ?_⟩
    have hS := SqL.of (K := K) hS0
    refine ⟨_, rfl, .ref l, .ty "list", _, _, _, rfl, .ty _, (Kd.list hS).1, (show PySem.W.kitOne K (.type "list") (.type "list") = some true from kit_ty (by decide +kernel)), _, rfl, iteF ?_⟩
    refine ⟨_, rfl, l, _, rfl, .inl hS, _, _, rfl, rfl, _, rfl, ?_⟩
    by_cases hlen : 1 ≤ xs.length ∧ xs.length ≤ 24
    case neg =>
      rw [wrong_count hlen] at k
      refine ifD (fun _ => ⟨by show 2 ≤ sizeLine; decide, k H (Same.refl _)⟩) (fun c1 => ⟨_, rfl, l, _, rfl, .inl hS, _, _, rfl, rfl, _, rfl, ?_⟩)
      exact ifD (fun _ => ⟨by show 2 ≤ sizeLine; decide, k H (Same.refl _)⟩) (fun c2 => absurd ⟨by omega, by omega⟩ hlen)
    refine ifD (fun z => absurd z (by omega)) (fun _ => ⟨_, rfl, l, _, rfl, .inl hS, _, _, rfl, rfl, _, rfl, ifD (fun z => absurd z (by omega)) (fun _ => ?_)⟩)
    refine ⟨_, rfl, l, _, rfl, hS, for_it (walk_enum (K := K) (a := l) (xs := xs)) (fun i σ H' => ∃ v5 v6, σ = [some (.ref r), some (.ref l), some c, some m, some (.int (bef xs i)), v5, v6, none] ∧ Same H H' ∧ (∀ j, j < i → gud xs j = true))
      ⟨_, _, rfl, Same.refl H, fun j hj => absurd hj (Nat.not_lt_zero j)⟩ (fun i σ H' _ ⟨_, _, _, s0, _⟩ => s0.seq hS) ?_ ?_⟩
    · rintro i x σ H' H2 hi ⟨v5, v6, rfl, s0, hg⟩ ⟨t, a, b, rfl, ht, rfl, ea, eb⟩
      have eb' : xs[i]? = some b := eb
      cases ea
      have ex : xs.getD i .non = b := by rw [List.getD_eq_getElem?_getD, eb']; rfl
      obtain ⟨n, hn⟩ := hx b (List.mem_of_getElem? eb')
      have s2 : Same H (upd H' t (.tup [.int (i : Nat), b])) := Same.upd s0 (s0.free ht)
      refine ⟨t, _, rfl, SqT.of upd_same, rfl, _, _, rfl, _, _, rfl, rfl, ?_⟩
      refine ⟨_, rfl, b, n, rfl, hn _ s2, ?_⟩
      have bad : gud xs i = false → ∀ q, upd H' t (.tup [.int (i : Nat), b]) q = none → Q (.ref q) (upd (upd H' t (.tup [.int (i : Nat), b])) q (.tup [.str "value", .int (i : Nat)])) := by
        intro hb
        have k2 := k _ s2
        rw [wrong_value hlen hi hb hg] at k2
        exact k2
      have ge : gud xs i = (cntTo 2000 b && decide (bef xs i ≤ vI b)) := by unfold gud; rw [ex]
      refine ⟨_, rfl, ?_⟩
      cases hcn : cntTo 2000 b with
      | false => exact iteT ⟨_, rfl, by show 2 ≤ sizeLine; decide, bad (by rw [ge, hcn]; rfl)⟩
      | true =>
        obtain ⟨z, rfl⟩ : ∃ z, b = .int z := by cases b <;> first | exact ⟨_, rfl⟩ | cases hcn
        refine iteF ⟨_, rfl, _, rfl, _, _, rfl, rfl, _, rfl, ?_⟩
        refine ifD (fun c1 => ⟨_, rfl, by show 2 ≤ sizeLine; decide, bad ?_⟩) (fun c1 => ?_)
        · rw [ge, hcn, Bool.true_and]
          exact decide_eq_false (by show ¬ bef xs i ≤ z; omega)
        · refine ⟨_, rfl, some (.int (i : Nat)), some (.int z), ?_, s2, fun j hj => ?_⟩
          · have e : bef xs (i + 1) = z := by
              unfold bef
              rw [if_neg (Nat.succ_ne_zero i), show i + 1 - 1 = i from rfl, ex]
              rfl
            rw [e]
            rfl
          · by_cases e : j = i
            · subst e
              rw [ge, hcn, Bool.true_and]
              exact decide_eq_true (by show bef xs j ≤ z; omega)
            · exact hg j (by omega)
    · rintro σ H' ⟨v5, v6, rfl, s0, hg⟩
      have hS' := s0.seq hS
      rw [wrong_rest hlen hg] at k
      have pbad : perOk c xs.length = false → ∀ H'', Same H H'' → ∀ q, H'' q = none → Q (.ref q) (upd H'' q (.tup [.str "period", .int 0])) := by
        intro hb H'' s''
        have k2 := k _ s''
        rw [hb, if_neg (by decide)] at k2
        exact k2
      have pe : perOk c xs.length = (isI c && (inV c perV && decide (vI c ≤ (xs.length : Nat)))) := rfl
      have hkc := hc _ s0
      have hci := hkc.isI
      refine ⟨_, rfl, c, .ty "int", _, _, _, rfl, .ty _, hkc.1, kitI hkc.2, _, rfl, ?_⟩
      cases hI : isI c with
      | false =>
        rw [hI] at hci pe
        rw [hci, Bool.false_or]
        cases hb : (nc == "bool") with
        | false => exact iteT ⟨by show 2 ≤ sizeLine; decide, pbad (by rw [pe]; rfl) H' s0⟩
        | true =>
          refine iteF ⟨_, rfl, c, .ty "bool", _, _, _, rfl, .ty _, hkc.1, kitB' hkc.2, _, rfl, ?_⟩
          rw [hb]
          exact iteT ⟨by show 2 ≤ sizeLine; decide, pbad (by rw [pe]; rfl) H' s0⟩
      | true =>
        obtain ⟨p, rfl⟩ : ∃ p, c = .int p := by cases c <;> first | exact ⟨_, rfl⟩ | cases hI
        have ec : nc = "int" := by simpa using hci.trans hI
        subst ec
        rw [hI, Bool.true_and] at pe
        refine iteF ⟨_, rfl, .int p, .ty "bool", _, _, _, rfl, .ty _, hkc.1, kitB' hkc.2, _, rfl, iteF ?_⟩
        refine ⟨(by show 6 ≤ sizeLine; decide), fun a ha => ⟨a, rfl, ⟨_, SqL.of upd_same⟩, fun D hD => ?_⟩⟩
        have sa : Same H (upd H' a (.lst [.int 1, .int 2, .int 3, .int 4, .int 6, .int 12])) := Same.upd s0 (s0.free ha)
        have hpa : upd H' a (.lst [.int 1, .int 2, .int 3, .int 4, .int 6, .int 12]) a = some (.lst [.int 1, .int 2, .int 3, .int 4, .int 6, .int 12]) := upd_same
        generalize upd H' a (.lst [.int 1, .int 2, .int 3, .int 4, .int 6, .int 12]) = H1 at *
        refine lc_list (K := K) (a := a) (xs := [.int 1, .int 2, .int 3, .int 4, .int 6, .int 12]) (fun j H2 => Same H1 H2 ∧ H2 D = some (.lst (((pl.take j).filter (fun y => decide (y = p))).map V.int)))
          ⟨Same.upd (Same.refl _) hD, upd_same⟩ (fun i H2 _ ⟨s5, _⟩ => s5.seq (SqL.of hpa)) ?_ ?_
        · rintro j x H2 hj ⟨s5, hD2⟩
          obtain ⟨z, rfl, hz⟩ := pl_at hj
          have jl : ((pl.take j).filter (fun y => decide (y = p))).length ≤ 6 := Nat.le_trans (List.length_filter_le _ _) (by rw [List.length_take]; exact Nat.le_trans (Nat.min_le_right _ _) (by decide))
          refine ⟨rfl, _, rfl, _, rfl, rfl, _, rfl, ifEq (fun e => ?_) (fun e => ?_)⟩
          · refine ⟨_, rfl, _, hD2, small (by rw [List.length_map]; omega), Same.upd s5 hD, ?_⟩
            rw [upd_same, List.take_add_one, hz, List.filter_append, List.map_append]
            subst e
            simp
          · refine ⟨s5, ?_⟩
            rw [List.take_add_one, hz, List.filter_append, List.map_append, hD2]
            simp [e]
        rintro H2 ⟨s5, hD2⟩
        rw [show pl.take ([V.int 1, .int 2, .int 3, .int 4, .int 6, .int 12] : List V).length = pl from rfl] at hD2
        have s02 := sa.trans s5
        refine ⟨(by show 0 ≤ sizeLine; decide), fun b hb => ?_⟩
        have s3 : Same H (upd H2 b (.lst [])) := Same.upd s02 (s02.free hb)
        have hD3 : upd H2 b (.lst []) D = some (.lst ((pl.filter (fun y => decide (y = p))).map V.int)) := by rw [upd_ne (ne_of_none hD2 hb)]; exact hD2
        have hb3 : upd H2 b (.lst []) b = some (.lst []) := upd_same
        generalize upd H2 b (.lst []) = H3 at *
        have hS3 := s3.seq hS
        cases hin : inV (.int p) perV with
        | false =>
          have ef : pl.filter (fun y => decide (y = p)) = [] := by
            rw [List.filter_eq_nil_iff]
            intro y hy e
            have e := of_decide_eq_true e
            subst e
            have : inV (.int y) perV = true := by
              simp only [pl, List.mem_cons, List.not_mem_nil, or_false] at hy
              rcases hy with rfl | rfl | rfl | rfl | rfl | rfl <;> decide
            rw [this] at hin
            cases hin
          rw [ef] at hD3
          refine ⟨.list [], .list [], .lst (SqL.of hD3) .nil, .lst (SqL.of hb3) .nil, by decide, by decide, _, rfl, iteT ?_⟩
          exact ⟨by show 2 ≤ sizeLine; decide, pbad (by rw [pe, hin]; rfl) H3 s3⟩
        | true =>
          have ef : pl.filter (fun y => decide (y = p)) = [p] := by
            rcases per_of hin with h | h | h | h | h | h <;> subst h <;> decide
          rw [ef] at hD3
          rw [hin, Bool.true_and] at pe
          have pp : 1 ≤ p ∧ p ≤ 12 := by
            rcases per_of hin with h | h | h | h | h | h <;> omega
          refine ⟨.list [.int p], .list [], .lst (SqL.of hD3) (.cons (.int p) .nil), .lst (SqL.of hb3) .nil, by rfl, by decide, _, rfl, iteF ?_⟩
          refine ⟨_, rfl, _, rfl, l, _, rfl, .inl hS3, _, _, rfl, rfl, _, rfl, ?_⟩
          refine ifD (fun c1 => ⟨by show 2 ≤ sizeLine; decide, pbad (by rw [pe]; exact decide_eq_false (by show ¬ p ≤ _; omega)) H3 s3⟩) (fun c1 => ?_)
          have pok : perOk (.int p) xs.length = true := by rw [pe]; exact decide_eq_true (by show p ≤ _; omega)
          rw [pok, if_pos rfl] at k
          have gbad : gainOk xs (.int p) m = false → ∀ H'', Same H H'' → ∀ q, H'' q = none → Q (.ref q) (upd H'' q (.tup [.str "gain", .int 0])) := by
            intro hb H'' s''
            have k2 := k _ s''
            rw [hb, if_neg (by decide)] at k2
            exact k2
          have gok : gainOk xs (.int p) m = true → ∀ H'', Same H H'' → Q .non H'' := by
            intro hb H'' s''
            have k2 := k _ s''
            rw [hb, if_pos rfl] at k2
            exact k2
          have ge : gainOk xs (.int p) m = (cntTo 2000 m && decide (vI (xs.getD (xs.length - 1) .non) ≤ vI (xs.getD (xs.length - p.toNat) .non) + vI m)) := rfl
          refine ⟨_, rfl, m, nm, rfl, hm _ s3, _, rfl, ?_⟩
          cases hcn : cntTo 2000 m with
          | false => exact iteT ⟨by show 2 ≤ sizeLine; decide, gbad (by rw [ge, hcn]; rfl) H3 s3⟩
          | true =>
            obtain ⟨z, rfl⟩ : ∃ z, m = .int z := by cases m <;> first | exact ⟨_, rfl⟩ | cases hcn
            rw [hcn, Bool.true_and] at ge
            have l1 := hlen.1
            have pn : p ≤ (xs.length : Nat) := by omega
            have i1 : xs.length - p.toNat < xs.length := by omega
            have i2 : xs.length - 1 < xs.length := by omega
            obtain ⟨y1, e1⟩ := gud_int (hg _ i1)
            obtain ⟨y2, e2⟩ := gud_int (hg _ i2)
            refine iteF ⟨(by show 1 ≤ sizeLine; decide), fun a2 ha2 => ?_⟩
            have l2 : upd H3 a2 (.lst [.int 0]) l = some (.lst xs) := by rw [upd_ne (ne_of_none (s3 _ _ hS0) ha2)]; exact s3 _ _ hS0
            have s4 : Same H (upd H3 a2 (.lst [.int 0])) := Same.upd s3 (s3.free ha2)
            refine ⟨_, rfl, a2, l, _, _, rfl, rfl, upd_same, l2, (by rw [sizeLine_eq]; show 1 + xs.length ≤ _; omega), fun a3 ha3 => ?_⟩
            have l3 : upd (upd H3 a2 (.lst [.int 0])) a3 (.lst (([.int 0] : List V) ++ xs)) l = some (.lst xs) := by rw [upd_ne (ne_of_none l2 ha3)]; exact l2
            have h3 : upd (upd H3 a2 (.lst [.int 0])) a3 (.lst (([.int 0] : List V) ++ xs)) a3 = some (.lst (.int 0 :: xs)) := upd_same
            have s5 : Same H (upd (upd H3 a2 (.lst [.int 0])) a3 (.lst (([.int 0] : List V) ++ xs))) := Same.upd s4 (s4.free ha3)
            generalize upd (upd H3 a2 (.lst [.int 0])) a3 (.lst (([.int 0] : List V) ++ xs)) = H5 at *
            have a1 : atI (.int 0 :: xs) ((xs.length : Int) + 1 - p) = some (.int y1) := by
              refine at_of (j := xs.length - p.toNat + 1) (by omega) ?_
              rw [List.getElem?_cons_succ, List.getElem?_eq_getElem i1]
              rw [List.getD_eq_getElem?_getD, List.getElem?_eq_getElem i1] at e1
              exact congrArg some e1
            have a2' : atI xs (-1) = some (.int y2) := by
              rw [at_backV (by omega) (by omega), show (-1 + (xs.length : Int)).toNat = xs.length - 1 by omega, e2]
            rw [e1, e2] at ge
            refine ⟨_, rfl, l, _, rfl, .inl (SqL.of l3), _, _, rfl, rfl, _, rfl, _, _, rfl, rfl, a3, _, _, _, rfl, rfl, SqL.of h3, a1, _, rfl, _, _, rfl, rfl, _, rfl, _, rfl, l, _, _, _, rfl, rfl, SqL.of l3, a2', _, _, rfl, rfl, _, rfl, ?_⟩
            refine ifD (fun c1 => ⟨by show 2 ≤ sizeLine; decide, gbad ?_ H5 s5⟩) (fun c1 => gok ?_ H5 s5)
            · rw [ge]; exact decide_eq_false (by show ¬ y2 ≤ y1 + z; omega)
            · rw [ge]; exact decide_eq_true (by show y2 ≤ y1 + z; omega)
end
end VK


namespace VK
open PySem PySem.Spec PyProof.Rows L2 VM
def sp_l_told (K : PySem.W.Frag) (_ : Ad) : Sp := fun vs H Q _ => ∃ (r : Addr) (v c m : V) (W : Option (Str × Nat)), vs = [.ref r] ∧ SqL K H r [v, c, m] ∧ Prb K H v c m W ∧ ∀ H', Same H H' → Tol W Q H'
theorem kb_init2 {K : PySem.W.Frag} {mg : Str → Option Value} {A : Ad} (T : Txt K mg A) : ∃ mv : List Value, KBn K A.d_C_init ["self", "values", "period", "gain"] 2 ["period", "gain"] (fun us ws => us ++ ws) (fun vs zs => vs ++ zs) := by
  obtain ⟨mv, h⟩ := T.F_C_init.kbinds0 (ps := ["self", "values", "period", "gain"]) 2 ["period", "gain"] [] (fun us _ ws => us ++ ws) (by simp) (by simp) (fun a _ c => a.append c)
    (fun D doc pm an cdv ct us mv ws h1 h2 h3 => match us, mv, ws, h1, h2, h3 with | [_, _], [], [_, _], _, _, _ => rfl)
  exact ⟨mv, h⟩
theorem tol_at {s0 : Str} {i : Nat} {Q : VK} {H G : Hp} {t : Addr} (k : ∀ H', Same H H' → Tol (some (s0, i)) Q H') (s : Same H G) (ht : G t = some (.tup [.str s0, .int (i : Nat)])) (h0 : H t = none) : Q (.ref t) G := by
  have e : upd (fun b => if b = t then none else G b) t (.tup [.str s0, .int (i : Nat)]) = G := by
    funext b
    unfold upd
    by_cases h : b = t
    · rw [if_pos h, h, ht]
    · rw [if_neg h]; show (if b = t then none else G b) = G b; rw [if_neg h]
  have q := k (fun b => if b = t then none else G b) (fun b o hb => by
    have n : b ≠ t := ne_of_none hb h0
    show (if b = t then none else G b) = some o
    rw [if_neg n]; exact s _ _ hb) t (by show (if t = t then none else G t) = none; rw [if_pos rfl])
  rw [e] at q
  exact q
theorem refs6 {a b c d e f : Addr} {ws : List Value} (r : Vals [.ref a, .ref b, .ref c, .ref d, .ref e, .ref f] ws) : ws = [.ref a, .ref b, .ref c, .ref d, .ref e, .ref f] := by
  cases r with
  | cons r1 r => cases r with
    | cons r2 r => cases r with
      | cons r3 r => cases r with
        | cons r4 r => cases r with
          | cons r5 r => cases r with
            | cons r6 r => cases r; cases r1; cases r2; cases r3; cases r4; cases r5; cases r6; rfl
section
variable {P : Program} {w : World} {K : PySem.W.Frag} {mg : Str → Option Value} {base : Heap} {A : Ad}
theorem ok_l_told (T : Txt K mg A) : FnOk P w K mg base CX0 8 A.f_l_told A.d_l_told ["_law_row"] (sp_l_told K A) := by
  have G_C_init := ok_C_init (P := P) (w := w) (base := base) T
  obtain ⟨mv1, kb_Curve_period_gain⟩ := kb_init2 T
  refine T.F_l_told.ok sc_l_told (fun vs H Q E h => ?_) (fun cdv A0 outer s H vs Q E hr h => ?_)
  · obtain ⟨r, v, c, m, W, rfl, hr0, hP, k⟩ := h
    rfl
  · obtain ⟨r, v, c, m, W, rfl, hr0, hP, k⟩ := h
    refine ⟨_, (pss_cons (ps_set (i := 1) sc_l_told.nd rfl (by first | exact Or.inl rfl | exact Or.inr rfl) pe_non)
    (pss_cons (ps_try_as (i := 2) rfl rfl sc_l_told.nd rfl rfl ⟨rfl, by decide, .inl T.m_InvalidCurve⟩ takes0 (fun W pn xe tk _ => (pss_one (ps_expr (VX.pe_makeKS (n := 1) T.M_Curve G_C_init (hr.mono (by decide)) rfl T.m_Curve kb_Curve_period_gain (fun σ => passAt tk σ) (pa_cons (pe_ix (r := rIxL K) ix_list (pv 0) pe_int (fun _ _ => rfl)) pa_nil) (pk_cons (pe_ix (r := rIxL K) ix_list (pv 0) pe_int (fun _ _ => rfl)) (pk_cons (pe_ix (r := rIxL K) ix_list (pv 0) pe_int (fun _ _ => rfl)) pk_nil)))))) (fun a oe cls d pn hz hf => (pss_cons (ps_set (i := 1) sc_l_told.nd rfl (by first | exact Or.inl rfl | exact Or.inr rfl) (pe_tup (pa_cons (pe_xf T.xf_InvalidCurve T.n_InvalidCurve_problem hz hf (pv 2)) (pa_cons (pe_xf T.xf_InvalidCurve T.n_InvalidCurve_position hz hf (pv 2)) pa_nil))))
    (pss_cons (ps_set (i := 3) sc_l_told.nd rfl (by first | exact Or.inl rfl | exact Or.inr rfl) (pe_lst (pa_cons (pe_callB (r := VX.rAsk K _ _ _ _) (VX.call_ask T.as_InvalidCurve hz hf) (by rfl) T.isinstance (by decide +kernel) (pa_cons (pv 2) (pa_cons (pe_tup (pa_cons (pe_glob (v := .ref A.InvalidCount) rfl T.m_InvalidCount rfl) (pa_cons (pe_glob (v := .ref A.InvalidLength) rfl T.m_InvalidLength rfl) (pa_cons (pe_glob (v := .ref A.InvalidPiece) rfl T.m_InvalidPiece rfl) (pa_cons (pe_glob (v := .ref A.InvalidRecord) rfl T.m_InvalidRecord rfl) (pa_cons (pe_glob (v := .ref A.NotGood) rfl T.m_NotGood rfl) (pa_cons (pe_glob (v := .ref A.TooLong) rfl T.m_TooLong rfl) pa_nil))))))) pa_nil))) pa_nil)))
    (pss_one (ps_if (pt_cmpR (show OpR _ (compareOp .NotEq) (rNeD K) from op_neD hr.units) (pe_op op_cat (pv 3) (pe_lst (pa_cons (pe_callB (r := VX.rAsk K _ _ _ _) (VX.call_ask T.as_InvalidCurve hz hf) (by rfl) T.isinstance (by decide +kernel) (pa_cons (pv 2) (pa_cons (pe_glob (v := .ref A.DueError) rfl T.m_DueError rfl) pa_nil))) (pa_cons (pe_callB (r := VX.rAsk K _ _ _ _) (VX.call_ask T.as_InvalidCurve hz hf) (by rfl) T.isinstance (by decide +kernel) (pa_cons (pv 2) (pa_cons (pe_bltn (v := .ty "ValueError") (u := .type "ValueError") (by rfl) T.ValueError (by decide +kernel) (by exact rfl)) pa_nil))) pa_nil)))) (pe_lst (pa_cons pe_bl (pa_cons pe_bl (pa_cons pe_bl pa_nil)))) (nomark _)) (pss_one (ps_set (i := 1) sc_l_told.nd rfl (by first | exact Or.inl rfl | exact Or.inr rfl) pe_str)) pss_nil))))))
    (pss_one (ps_ret (pv 1))))), ?_⟩
    refine ⟨_, rfl, r, _, 0, v, rfl, rfl, hr0, rfl, _, rfl, r, _, 1, c, rfl, rfl, hr0, rfl, _, rfl, r, _, 2, m, rfl, rfl, hr0, rfl, rfl, rfl, fun x dx hx hdx hne => ?_⟩
    have s1 : Same H (upd (upd H dx (.own x)) x (.ins A.Curve dx [])) := Same.upd (Same.upd (Same.refl _) hdx) hx
    refine ⟨x, dx, v, c, m, W, rfl, upd_same, hP.same s1, ?_⟩
    cases W with
    | none =>
      intro H' hH
      have s2 : Same H H' := fun b o q => hH b o (ne_of_none q hx) (s1 b o q)
      exact ⟨rfl, _, rfl, k _ s2⟩
    | some si =>
      obtain ⟨s0, i⟩ := si
      intro H2 e s2 he
      refine ⟨true, T.ex_InvalidCurve, fun _ ea hea => ?_, fun z => nomatch z⟩
      have lk1 : ([(("position" : Str), V.int i), ("problem", V.str s0)] : List (Str × V)).lookup ("problem" : Str) = some (.str s0) := by
        have h : (("problem" : Str) == "position") = false := by decide +kernel
        simp [List.lookup, h]
      have lk2 : ([(("position" : Str), V.int i), ("problem", V.str s0)] : List (Str × V)).lookup ("position" : Str) = some (.int i) := by
        simp [List.lookup]
      refine ⟨_, rfl, rfl, rfl, e, _, _, rfl, he, lk1, _, rfl, rfl, rfl, e, _, _, rfl, he, lk2, (by show 2 ≤ sizeLine; decide), fun t ht => ⟨_, rfl, (by show 6 ≤ sizeLine; decide), fun tc htc => ?_⟩⟩
      have s3 : Same H (upd H2 t (.tup [.str s0, .int i])) := Same.upd (s1.trans s2) ((s1.trans s2).free ht)
      have he3 : upd H2 t (.tup [.str s0, .int i]) e = some (.xd [("position", .int i), ("problem", .str s0)]) := by rw [upd_ne (ne_of_none he ht)]; exact he
      have s23 : ∀ b o, b ≠ t → H2 b = some o → upd H2 t (.tup [.str s0, .int i]) b = some o := fun b o n q => by rw [upd_ne n]; exact q
      have ht3 : upd H2 t (.tup [.str s0, .int i]) t = some (.tup [.str s0, .int i]) := upd_same
      generalize upd H2 t (.tup [.str s0, .int i]) = H3 at *
      have he4 : upd H3 tc (.tup [.ref A.InvalidCount, .ref A.InvalidLength, .ref A.InvalidPiece, .ref A.InvalidRecord, .ref A.NotGood, .ref A.TooLong]) e = some (.xd [("position", .int i), ("problem", .str s0)]) := by rw [upd_ne (ne_of_none he3 htc)]; exact he3
      have s4 : Same H3 (upd H3 tc (.tup [.ref A.InvalidCount, .ref A.InvalidLength, .ref A.InvalidPiece, .ref A.InvalidRecord, .ref A.NotGood, .ref A.TooLong])) := Same.upd (Same.refl _) htc
      have htc4 : upd H3 tc (.tup [.ref A.InvalidCount, .ref A.InvalidLength, .ref A.InvalidPiece, .ref A.InvalidRecord, .ref A.NotGood, .ref A.TooLong]) tc = some (.tup [.ref A.InvalidCount, .ref A.InvalidLength, .ref A.InvalidPiece, .ref A.InvalidRecord, .ref A.NotGood, .ref A.TooLong]) := upd_same
      refine ⟨rfl, e, _, .ref tc, false, rfl, he4, rfl, .inr ⟨tc, _, _, rfl, htc4, fun ws r => refs6 r, T.kt_InvalidCurve_InvalidCount_InvalidLength_InvalidPiece_InvalidRecord_NotGood_TooLong⟩, (by show 1 ≤ sizeLine; decide), fun L hL => ?_⟩
      generalize upd H3 tc (.tup [.ref A.InvalidCount, .ref A.InvalidLength, .ref A.InvalidPiece, .ref A.InvalidRecord, .ref A.NotGood, .ref A.TooLong]) = H4 at *
      have s5 : Same H3 (upd H4 L (.lst [.bl false])) := Same.upd s4 (s4.free hL)
      have he5 := s5 _ _ he3
      have hL5 : upd H4 L (.lst [.bl false]) L = some (.lst [.bl false]) := upd_same
      generalize upd H4 L (.lst [.bl false]) = H5 at *
      refine ⟨_, rfl, _, rfl, rfl, e, _, .ref A.DueError, true, rfl, he5, rfl, .inl ⟨.ref A.DueError, fun u r => r, T.kt_InvalidCurve_DueError⟩, _, rfl, rfl, e, _, .ty "ValueError", true, rfl, he5, rfl, .inl ⟨.type "ValueError", fun u r => r, T.kt_InvalidCurve_ValueError⟩, (by show 2 ≤ sizeLine; decide), fun L2 hL2 => ?_⟩
      have s6 : Same H3 (upd H5 L2 (.lst [.bl true, .bl true])) := Same.upd s5 (s5.free hL2)
      have hL6 : upd H5 L2 (.lst [.bl true, .bl true]) L = some (.lst [.bl false]) := by rw [upd_ne (ne_of_none hL5 hL2)]; exact hL5
      have hM6 : upd H5 L2 (.lst [.bl true, .bl true]) L2 = some (.lst [.bl true, .bl true]) := upd_same
      generalize upd H5 L2 (.lst [.bl true, .bl true]) = H6 at *
      refine ⟨L, L2, _, _, rfl, rfl, hL6, hM6, (by show 3 ≤ sizeLine; decide), fun L3 hL3 => ⟨(by show 3 ≤ sizeLine; decide), fun L4 hL4 => ?_⟩⟩
      have s7 : Same H3 (upd H6 L3 (.lst ([.bl false] ++ [.bl true, .bl true]))) := Same.upd s6 (s6.free hL3)
      have h7 : upd H6 L3 (.lst ([.bl false] ++ [.bl true, .bl true])) L3 = some (.lst ([.bl false] ++ [.bl true, .bl true])) := upd_same
      have s8 : Same H3 (upd (upd H6 L3 (.lst ([.bl false] ++ [.bl true, .bl true]))) L4 (.lst [.bl false, .bl true, .bl true])) := Same.upd s7 (s7.free hL4)
      have h8 : upd (upd H6 L3 (.lst ([.bl false] ++ [.bl true, .bl true]))) L4 (.lst [.bl false, .bl true, .bl true]) L3 = some (.lst [.bl false, .bl true, .bl true]) := by rw [upd_ne (ne_of_none h7 hL4)]; exact h7
      refine ⟨.list [.bool false, .bool true, .bool true], .list [.bool false, .bool true, .bool true], .lst (SqL.of h8) (.cons (.bl _) (.cons (.bl _) (.cons (.bl _) .nil))), .lst (SqL.of upd_same) (.cons (.bl _) (.cons (.bl _) (.cons (.bl _) .nil))), by decide, by decide, _, rfl, iteF ?_⟩
      exact ⟨_, rfl, tol_at k (s3.trans s8) (s8 _ _ ht3) ((s1.trans s2).free ht)⟩
end
end VK


namespace VK
open PySem PySem.Spec PyProof.Rows L2 VM
def Wd : Option (Str × Nat) → PyData
  | none => .none
  | some (s, i) => .tuple [.str s, .int (i : Nat)]
theorem tol_of {K : PySem.W.Frag} {W : Option (Str × Nat)} {Q : VK} {H : Hp} (h : ∀ v G, Same H G → (∀ G', Same G G' → VQ.Dm K G' v (Wd W)) → Q v G) : Tol W Q H := by
  cases W with
  | none => exact h _ _ (Same.refl _) fun _ _ => .flat .non
  | some si =>
    obtain ⟨s, i⟩ := si
    intro t ht
    exact h _ _ (Same.upd (Same.refl _) ht) fun G' sG => .tup (SqT.of (sG _ _ upd_same)) (.cons (.flat (.str s)) (.cons (.flat (.int _)) .nil))
theorem wd_sz {s : Str} {i : Nat} (h : (PyData.str s).shown.length ≤ 100) (hi : i ≤ 100) : VR.Sz 1 5000 (Wd (some (s, i))) := by
  refine (VR.Sz.tuple (k := 0) (L := 200) (n := 2) (ds := [.str s, .int (i : Nat)]) ?_ (by show 2 ≤ 2; decide)).mono (by omega) (by omega)
  intro d hd
  simp only [List.mem_cons, List.not_mem_nil, or_false] at hd
  rcases hd with rfl | rfl
  · exact ⟨rfl, Nat.zero_le _, by omega⟩
  · exact (VR.Sz.int (by
      have : (i : Int).natAbs ≤ 100 := by omega
      exact Nat.lt_of_le_of_lt this (by decide))).mono (Nat.le_refl _) (by omega)
theorem wrong_sz {xs : List V} {c m : V} : VR.Sz 1 5000 (Wd (wrongL xs c m)) := by
  unfold wrongL
  split
  · rename_i hl
    split
    · rename_i i hi
      rw [List.find?_range_eq_some] at hi
      have := List.mem_range.mp hi.2.1
      exact wd_sz (by decide +kernel) (by omega)
    · split
      · split
        · exact VR.Sz.none.mono (by omega) (by omega)
        · exact wd_sz (by decide +kernel) (by omega)
      · exact wd_sz (by decide +kernel) (by omega)
  · exact wd_sz (by decide +kernel) (by omega)
theorem prb_sz {K : PySem.W.Frag} {H : Hp} {v c m : V} {W : Option (Str × Nat)} (h : Prb K H v c m W) : VR.Sz 1 5000 (Wd W) := by
  rcases h with ⟨n, _, _, rfl⟩ | ⟨l, xs, _, _, _, _, _, rfl⟩
  · exact wd_sz (by decide +kernel) (by omega)
  · exact wrong_sz
theorem RowA.mono {K : PySem.W.Frag} {H : Hp} {S : List Addr} {B B' : Int} {r l : Addr} (h : RowA K H S B r l) (hB : B ≤ B') : RowA K H S B' r l := by
  obtain ⟨t, c, m, dc, dm, nc, nm, a, lc, lm, q⟩ := h
  refine ⟨t, c, m, dc, dm, nc, nm, a, lc.mono hB (Nat.le_refl _) (Nat.le_refl _), lm.mono hB (Nat.le_refl _) (Nat.le_refl _), ?_⟩
  rcases q with ⟨e, xs, a1, a2, a3⟩ | ⟨dt, n, a1, a2⟩
  · exact .inl ⟨e, xs, a1, a2, fun x hx => by obtain ⟨d, n, q⟩ := a3 x hx; exact ⟨d, n, q.mono hB (Nat.le_refl _) (Nat.le_refl _)⟩⟩
  · exact .inr ⟨dt, n, a1.mono hB (Nat.le_refl _) (Nat.le_refl _), a2⟩
/-- the row as data, and what is wrong with it -/
theorem RowA.told {K : PySem.W.Frag} {H : Hp} {S : List Addr} {B : Int} {r l : Addr} (h : RowA K H S B r l) : ∃ (t c m : V) (W : Option (Str × Nat)) (d : PyData), H r = some (.lst [t, c, m]) ∧ Prb K H t c m W ∧ VR.Sz 3 40000 d ∧ ∀ H', Same H H' → VQ.Dm K H' (.ref r) d := by
  obtain ⟨t, c, m, dc, dm, nc, nm, a, lc, lm, q⟩ := h
  have main : ∀ (W : Option (Str × Nat)) (dt : PyData), Prb K H t c m W → VR.Sz 2 6000 dt → (∀ H', Same H H' → VQ.Dm K H' t dt) → ∃ (t c m : V) (W : Option (Str × Nat)) (d : PyData), H r = some (.lst [t, c, m]) ∧ Prb K H t c m W ∧ VR.Sz 3 40000 d ∧ ∀ H', Same H H' → VQ.Dm K H' (.ref r) d := by
    intro W dt hP sz hd
    refine ⟨t, c, m, W, .list [dt, dc, dm], a, hP, (VR.Sz.list (k := 2) (L := 6000) (n := 3) (ds := [dt, dc, dm]) ?_ (by show 3 ≤ 3; decide)).mono (by omega) (by omega), fun H' s => .lst (SqL.of (s _ _ a)) (.cons (hd H' s) (.cons (lc.dm H' (.same s)) (.cons (lm.dm H' (.same s)) .nil)))⟩
    intro d hd
    simp only [List.mem_cons, List.not_mem_nil, or_false] at hd
    rcases hd with rfl | rfl | rfl
    · exact sz
    · exact lc.sz.mono (by omega) (by omega)
    · exact lm.sz.mono (by omega) (by omega)
  rcases q with ⟨rfl, xs, a1, a2, a3⟩ | ⟨dt, n, a1, a2⟩
  · obtain ⟨ds, b1, b2, b3⟩ := all_dm a3
    exact main (wrongL xs c m) (.list ds) (.inr ⟨l, xs, rfl, a1, fun x hx => by obtain ⟨d, n, q⟩ := a3 x hx; exact ⟨n, q.kds⟩, ⟨nc, lc.kds⟩, ⟨nm, lm.kds⟩, rfl⟩)
      ((VR.Sz.list b2 (show ds.length ≤ 25 by omega)).mono (by omega) (by omega)) fun H' s => .lst (SqL.of (s _ _ a1)) (b1 H' (.same s))
  · exact main _ dt (.inl ⟨n, a1.kds, a2, rfl⟩) a1.sz fun H' s => a1.dm H' (.same s)
def sp_l_right (_ : PySem.W.Frag) (_ : Ad) : Sp := fun vs H Q _ => ∃ (p : Addr), vs = [.ref p] ∧ Rng H p ∧ ∀ H', Ext p H H' → Q (.bl true) H'
section
variable {P : Program} {w : World} {K : PySem.W.Frag} {mg : Str → Option Value} {base : Heap} {A : Ad}
theorem ok_l_right (T : Txt K mg A) : VG.FnG P w K mg base CX0 9 A.f_l_right A.d_l_right ["_law_rng_here"] (sp_l_right K A) := by
  have G_l_draw := ok_l_draw (P := P) (w := w) (base := base) T
  have G_l_due := ok_l_due (P := P) (w := w) (base := base) T
  have G_l_spoilt := ok_l_spoilt (P := P) (w := w) (base := base) T
  have G_l_told := ok_l_told (P := P) (w := w) (base := base) T
  have G_l_written := ok_l_written (P := P) (w := w) (base := base) T
  refine VG.okG0 T.F_l_right sc_l_right (fun vs H Q E h => ?_) (fun cdv A0 outer s H vs Q E hA hr h => ?_)
  · obtain ⟨p, rfl, hR, k⟩ := h
    rfl
  · obtain ⟨p, rfl, hR, k⟩ := h
    refine ⟨_, (pss_cons (ps_set (i := 1) sc_l_right.nd rfl (by first | exact Or.inl rfl | exact Or.inr rfl) (pe_call G_l_written (hr.mono (by decide)) rfl T.m_l_written T.k_l_written T.b_l_written .nil pass0 (pa_cons (pv 0) pa_nil)))
    (pss_cons (ps_for PassesOwn.never rfl (pi_range1 rfl T.range (pa_cons (pe_ix (r := rIxL K) ix_list (pe_lst (pa_cons pe_int (pa_cons pe_int (pa_cons pe_int (pa_cons pe_int (pa_cons pe_int pa_nil)))))) (pe_call G_l_draw (hr.mono (by decide)) rfl T.m_l_draw T.k_l_draw T.b_l_draw .nil pass0 (pa_cons (pv 0) (pa_cons pe_int pa_nil))) (fun _ _ => rfl)) pa_nil)) (pg_name (i := 2) sc_l_right.nd rfl (by first | exact Or.inl rfl | exact Or.inr rfl))
      (pss_one (ps_if (pt_val (pe_callB (r := rIsi K) call_isi (by rfl) T.isinstance (by decide +kernel) (pa_cons (pe_ix (r := rIxL K) ix_list (pv 1) pe_int (fun _ _ => rfl)) (pa_cons (pe_bltn (v := .ty "list") (u := .type "list") (by rfl) T.list (by decide +kernel) (by exact rfl)) pa_nil)))) (pss_one (ps_expr (pe_call G_l_spoilt (hr.mono (by decide)) rfl T.m_l_spoilt T.k_l_spoilt T.b_l_spoilt .nil pass0 (pa_cons (pv 0) (pa_cons (pv 1) pa_nil))))) pss_nil)))
    (pss_cons (ps_par (i := 3) (j := 4) (by rfl) sc_l_right.nd rfl rfl (by decide) rfl rfl (pa_cons (pe_call G_l_due (hr.mono (by decide)) rfl T.m_l_due T.k_l_due T.b_l_due .nil pass0 (pa_cons (pv 1) pa_nil)) (pa_cons (pe_callB (r := VQ.rReprM K) (VQ.call_reprM hA hr.units) (by rfl) T.repr (by decide +kernel) (pa_cons (pv 1) pa_nil)) pa_nil)) (by rfl))
    (pss_one (ps_ret (pe_and (pe_cmpR op_eq (pe_callB (r := VQ.rReprM K) (VQ.call_reprM hA hr.units) (by rfl) T.repr (by decide +kernel) (pa_cons (pe_call G_l_told (hr.mono (by decide)) rfl T.m_l_told T.k_l_told T.b_l_told .nil pass0 (pa_cons (pv 1) pa_nil)) pa_nil)) (pe_callB (r := VQ.rReprM K) (VQ.call_reprM hA hr.units) (by rfl) T.repr (by decide +kernel) (pa_cons (pv 3) pa_nil)) (nomark _)) (pe_one (pe_cmpR op_eq (pe_callB (r := VQ.rReprM K) (VQ.call_reprM hA hr.units) (by rfl) T.repr (by decide +kernel) (pa_cons (pv 1) pa_nil)) (pv 4) (nomark _))))))))), ?_⟩
    refine ⟨_, rfl, p, rfl, hR, fun H1 r l ns c m e1 r0 l0 nrl hr1 hl1 hns hn c0 c1 m0 m1 => ?_⟩
    have nrp : r ≠ p := hR.ne r0
    have nlp : l ≠ p := hR.ne l0
    refine ⟨(by show 5 ≤ sizeLine; decide), fun q hq => ⟨_, rfl, p, 5, rfl, (e1.new hq).rng, by decide, by decide, fun H2 d e2 d0 d5 => ?_⟩⟩
    have e02 := (e1.new hq).trans e2
    have hr2 := e2.keep _ _ nrp (show upd H1 q _ r = _ by rw [upd_ne (ne_of_none hr1 hq)]; exact hr1)
    have hl2 := e2.keep _ _ nlp (show upd H1 q _ l = _ by rw [upd_ne (ne_of_none hl1 hq)]; exact hl1)
    obtain ⟨N, hN, N0, N2⟩ : ∃ N, atI [V.int 0, .int 1, .int 1, .int 1, .int 2] d = some (.int N) ∧ 0 ≤ N ∧ N ≤ 2 := by
      rcases (by omega : d = 0 ∨ d = 1 ∨ d = 2 ∨ d = 3 ∨ d = 4) with h | h | h | h | h <;> rw [h]
      · exact ⟨_, rfl, by omega, by omega⟩
      · exact ⟨_, rfl, by omega, by omega⟩
      · exact ⟨_, rfl, by omega, by omega⟩
      · exact ⟨_, rfl, by omega, by omega⟩
      · exact ⟨_, rfl, by omega, by omega⟩
    refine ⟨q, _, _, _, rfl, rfl, e2.seq ((e1.rng).ne hq) (SqL.of upd_same), hN, ?_⟩
    refine ⟨_, rfl, by omega, by omega, ?_⟩
    have R0 : RowA K H2 [p, r, l] 0 r l := by
      refine ⟨.ref l, .int c, .int m, _, _, _, _, hr2, Lf.int (by omega) (by omega), Lf.int (by omega) (by omega), .inl ⟨rfl, _, hl2, by rw [List.length_map]; exact hn, fun x hx => ?_⟩⟩
      obtain ⟨z, hz, rfl⟩ := List.mem_map.mp hx
      have := hns z hz
      exact ⟨_, _, Lf.int (by omega) (by omega)⟩
    have hpS : p ∈ [p, r, l] := by simp
    have nSH : ∀ b o, H b = some o → b ≠ p → b ∉ [p, r, l] := by
      intro b o hb hp h
      simp only [List.mem_cons, List.not_mem_nil, or_false] at h
      rcases h with rfl | rfl | rfl
      · exact hp rfl
      · rw [r0] at hb; cases hb
      · rw [l0] at hb; cases hb
    refine for_range (lo := 0) (n := N.toNat) (fun i σ H' => ∃ v2, σ = [some (.ref p), some (.ref r), v2, none, none] ∧ Ext p H H' ∧ RowA K H' [p, r, l] (i : Nat) r l)
      ⟨_, rfl, e02, R0⟩ ?_ ?_
    · rintro i σ H' hi ⟨v2, rfl, eH, RA⟩
      obtain ⟨t, c', m', dc, dm, nc, nm, hr', lc, lm, q'⟩ := id RA
      rcases q' with ⟨rfl, xs, hl', hx, hxs⟩ | ⟨dt, n, lt, hn'⟩
      · refine ⟨_, rfl, r, _, 0, .ref l, rfl, rfl, SqL.of hr', rfl, .ref l, .ty "list", _, _, _, rfl, .ty _, (Kd.list (K := K) (SqL.of hl')).1, (show PySem.W.kitOne K (.type "list") (.type "list") = some true from kit_ty (by decide +kernel)), _, rfl, iteT ?_⟩
        refine ⟨_, rfl, _, rfl, p, r, l, (i : Nat), c', m', dc, dm, nc, nm, xs, rfl, eH.rng, nrp, nlp, nrl, by omega, by omega, hr', lc, lm, hl', hx, hxs, fun H'' x'' r'' RA'' => ?_⟩
        exact ⟨_, rfl, ⟨fun b o nb hb => x'' b o (nSH b o hb nb) (eH.keep b o nb hb), r''⟩, RA''⟩
      · have hk := lt.kd H' .refl
        refine ⟨_, rfl, r, _, 0, t, rfl, rfl, SqL.of hr', rfl, t, .ty "list", _, _, _, rfl, .ty _, hk.1, kitL hk.2, _, rfl, ?_⟩
        have e : (n == "list") = false := by simpa using hn'
        rw [e]
        exact iteF ⟨_, rfl, eH, RA.mono (by show (i : Int) ≤ ((i + 1 : Nat) : Int); omega)⟩
    · rintro σ H' ⟨v2, rfl, eH, RA⟩
      obtain ⟨t, c', m', W, d', hr', hP, sz, hd⟩ := RA.told
      refine ⟨_, rfl, r, t, c', m', W, rfl, SqL.of hr', hP, fun H3 s3 => tol_of (K := K) fun v G sG hv => ?_⟩
      have s4 := s3.trans sG
      have lnd : d'.shown.length ≤ sizeLine := Nat.le_trans sz.ln (by rw [sizeLine_eq]; decide)
      have wz := prb_sz hP
      have lnw : (Wd W).shown.length ≤ sizeLine := Nat.le_trans wz.ln (by rw [sizeLine_eq]; decide)
      refine ⟨_, rfl, .ref r, d', rfl, hd G s4, sz.sh, Nat.le_trans sz.dp (by decide), lnd, ?_⟩
      refine ⟨_, _, rfl, ?_⟩
      refine ⟨_, rfl, r, t, c', m', W, rfl, SqL.of (s4 _ _ hr'), hP.same s4, fun H5 s5 => tol_of (K := K) fun v5 G5 sG5 hv5 => ?_⟩
      have s6 := s5.trans sG5
      refine ⟨v5, Wd W, rfl, hv5 G5 (Same.refl _), wz.sh, Nat.le_trans wz.dp (by decide), lnw, ?_⟩
      refine ⟨_, rfl, v, Wd W, rfl, hv G5 s6, wz.sh, Nat.le_trans wz.dp (by decide), lnw, ?_⟩
      have last : ∀ (b : Bool), b = true → Q (.bl b) G5 := fun b hb => by
        rw [hb]
        exact k _ ((eH.same s4).same s6)
      clear hv hv5 wz lnw
      generalize (Wd W).shown = tx
      refine ⟨rfl, _, rfl, ?_⟩
      rw [decide_eq_true (rfl : V.str tx = V.str tx)]
      refine iteT ⟨_, rfl, .ref r, d', rfl, hd G5 (s4.trans s6), sz.sh, Nat.le_trans sz.dp (by decide), lnd, _, rfl, rfl, last _ (decide_eq_true rfl)⟩
end
end VK


namespace VK
open PySem PySem.Spec PyProof.Rows L2 VM
def spL (K : PySem.W.Frag) : Sp := fun vs H Q _ => ∃ (a : Addr) (ns : List Int), vs = [.ref a] ∧ SqL K H a (ns.map V.int) ∧ ns.length ≤ 63 ∧ ∀ H', Q (.bl true) H'
def sp_law (K : PySem.W.Frag) (_ : Ad) : Sp := spL K
/-- what was told -/
def Ow (H : Hp) (v : V) (W : Option (Str × Nat)) : Prop :=
  match W with
  | none => v = .non
  | some (s, i) => ∃ t, v = .ref t ∧ H t = some (.tup [.str s, .int (i : Nat)])
theorem Ow.same {H H' : Hp} {v : V} {W : Option (Str × Nat)} (h : Ow H v W) (s : Same H H') : Ow H' v W := by
  cases W with
  | none => exact h
  | some si => obtain ⟨t, a, b⟩ := h; exact ⟨t, a, s _ _ b⟩
theorem tol_ow {W : Option (Str × Nat)} {Q : VK} {H : Hp} (h : ∀ v G, Same H G → Ow G v W → Q v G) : Tol W Q H := by
  cases W with
  | none => exact h _ _ (Same.refl _) rfl
  | some si =>
    obtain ⟨s, i⟩ := si
    intro t ht
    exact h _ _ (Same.upd (Same.refl _) ht) ⟨t, rfl, upd_same⟩
theorem ow_dp {K : PySem.W.Frag} {H : Hp} {v : V} {W : Option (Str × Nat)} (h : Ow H v W) : Dp K H v (Wd W) := by
  cases W with
  | none => rw [show v = .non from h]; exact .non
  | some si => obtain ⟨t, rfl, b⟩ := h; exact .tup (SqT.of b) (.cons (.str _) (.cons (.int _) .nil))
theorem ows_dp {K : PySem.W.Frag} {H : Hp} : ∀ {vs : List V} {Ws : List (Option (Str × Nat))}, Paired (Ow H) vs Ws → DpAll K H vs (Ws.map Wd)
  | _, _, .nil => .nil
  | _, _, .cons h t => .cons (ow_dp h) (ows_dp t)
/-- a row whose list is ints and bools -/
theorem prb_lst {K : PySem.W.Frag} {H : Hp} {l : Addr} {xs : List V} {c m : Int} (hl : H l = some (.lst xs)) (h : ∀ x ∈ xs, (∃ i, x = .int i) ∨ ∃ b, x = .bl b) : Prb K H (.ref l) (.int c) (.int m) (wrongL xs (.int c) (.int m)) :=
  .inr ⟨l, xs, rfl, hl, fun x hx => by
    rcases h x hx with ⟨i, rfl⟩ | ⟨b, rfl⟩
    · exact ⟨_, fun _ _ => Kd.int i⟩
    · exact ⟨"bool", fun _ _ => ⟨.base (.bl b), by decide⟩⟩, ⟨_, fun _ _ => Kd.int c⟩, ⟨_, fun _ _ => Kd.int m⟩, rfl⟩
theorem rep_int {n : Nat} {z : Int} : ∀ x ∈ (List.replicate n [V.int z]).flatten, (∃ i, x = .int i) ∨ ∃ b, x = .bl b := by
  intro x hx
  obtain ⟨ys, h1, h2⟩ := List.mem_flatten.mp hx
  rw [List.eq_of_mem_replicate h1, List.mem_singleton] at h2
  exact .inl ⟨z, h2⟩
theorem Ow.put {H : Hp} {v : V} {W : Option (Str × Nat)} {D : Addr} {xs : List V} {o : HO} (h : Ow H v W) (hD : H D = some (.lst xs)) : Ow (upd H D o) v W := by
  cases W with
  | none => exact h
  | some si =>
    obtain ⟨t, a, b⟩ := h
    exact ⟨t, a, by rw [upd_ne (fun z => by rw [z, hD] at b; cases b)]; exact b⟩
section
variable {P : Program} {w : World} {K : PySem.W.Frag} {mg : Str → Option Value} {base : Heap} {A : Ad}
theorem ok_law (T : Txt K mg A) : VG.FnG P w K mg base CX0 11 A.f_law A.d_law ["_law_script"] (sp_law K A) := by
  have G_l_right := ok_l_right (P := P) (w := w) (base := base) T
  have G_l_rng := ok_l_rng (P := P) (w := w) (base := base) T
  have G_l_told := ok_l_told (P := P) (w := w) (base := base) T
  refine VG.okG0 T.F_law sc_law (fun vs H Q E h => ?_) (fun cdv A0 outer s H vs Q E hA hr h => ?_)
  · obtain ⟨a, ns, rfl, hS, hn, k⟩ := h
    rfl
  · obtain ⟨a, ns, rfl, hS, hn, k⟩ := h
    refine ⟨_, (pss_cons (ps_for PassesOwn.never rfl (pi_range1 rfl T.range (pa_cons (pe_callB (call_max2 rfl) (by rfl) T.max (by decide +kernel) (pa_cons pe_int (pa_cons (pe_callB (call_min2 rfl) (by rfl) T.min (by decide +kernel) (pa_cons pe_int (pa_cons (pe_callB (r := VG.rLen K) VG.call_len (by rfl) T.len (by decide +kernel) (pa_cons (pv 0) pa_nil)) pa_nil))) pa_nil))) pa_nil)) (pg_name (i := 1) sc_law.nd rfl (by first | exact Or.inl rfl | exact Or.inr rfl))
      (pss_cons (ps_set (i := 2) sc_law.nd rfl (by first | exact Or.inl rfl | exact Or.inr rfl) (pe_call G_l_rng (hr.mono (by decide)) rfl T.m_l_rng T.k_l_rng T.b_l_rng .nil pass0 (pa_cons (pv 0) (pa_cons (pv 1) pa_nil))))
    (pss_one (ps_if (pt_not (pt_val (pe_callB (r := rAll K) (cr_all rfl) (by rfl) T.all (by decide +kernel) (pa_cons (pe_lc (own := [("_law_turn", 4)]) (g := gName 4) (tt := tYes) rfl sc_law.nd (pi_range1 rfl T.range (pa_cons pe_int pa_nil)) (blkOk_by (own := [("_law_turn", 4)]) (N := ["_law_script", "_law_k", "_law_rng_here", "_law_some", "_law_turn", "_law_row"]) (sc := defScope s_law) (by decide +kernel)) (fun _ _ _ _ _ => pg_name (i := 4) sc_law.nd rfl (by first | exact Or.inl rfl | exact Or.inr rfl)) (fun _ _ _ _ _ => pts_nil) (fun _ _ _ _ _ => (VG.pe_callG G_l_right hA (hr.mono (by decide)) rfl T.m_l_right T.k_l_right T.b_l_right pass0 (pa_cons (pv 2) pa_nil)))) pa_nil)))) (pss_one (ps_ret pe_bl)) pss_nil))))
    (pss_cons (ps_set (i := 3) sc_law.nd rfl (by first | exact Or.inl rfl | exact Or.inr rfl) (pe_lst (pa_cons (pe_lst (pa_cons (pe_op op_rep (pe_lst (pa_cons pe_int pa_nil)) pe_int) (pa_cons pe_int (pa_cons pe_int pa_nil)))) (pa_cons (pe_lst (pa_cons (pe_op op_rep (pe_lst (pa_cons pe_int pa_nil)) pe_int) (pa_cons pe_int (pa_cons pe_int pa_nil)))) (pa_cons (pe_lst (pa_cons (pe_lst (pa_cons pe_int (pa_cons pe_int pa_nil))) (pa_cons pe_int (pa_cons pe_int pa_nil)))) (pa_cons (pe_lst (pa_cons (pe_lst (pa_cons pe_int pa_nil)) (pa_cons pe_int (pa_cons pe_int pa_nil)))) pa_nil))))))
    (pss_cons (ps_set (i := 3) sc_law.nd rfl (by first | exact Or.inl rfl | exact Or.inr rfl) (pe_op op_cat (pv 3) (pe_lst (pa_cons (pe_lst (pa_cons (pe_lst (pa_cons pe_int (pa_cons pe_int pa_nil))) (pa_cons pe_int (pa_cons pe_int pa_nil)))) (pa_cons (pe_lst (pa_cons (pe_lst (pa_cons pe_int (pa_cons pe_int pa_nil))) (pa_cons pe_int (pa_cons pe_int pa_nil)))) pa_nil)))))
    (pss_cons (ps_if (pt_cmpR (op_neD hr.units) (pe_lc (own := [("_law_row", 5)]) (g := gName 5) (tt := tYes) rfl sc_law.nd (pi_list (pv 3)) (blkOk_by (own := [("_law_row", 5)]) (N := ["_law_script", "_law_k", "_law_rng_here", "_law_some", "_law_turn", "_law_row"]) (sc := defScope s_law) (by decide +kernel)) (fun _ _ _ _ _ => pg_name (i := 5) sc_law.nd rfl (by first | exact Or.inl rfl | exact Or.inr rfl)) (fun _ _ _ _ _ => pts_nil) (fun _ _ _ _ _ => (pe_call G_l_told (hr.mono (by decide)) rfl T.m_l_told T.k_l_told T.b_l_told .nil pass0 (pa_cons (pv 5) pa_nil)))) (pe_lst (pa_cons pe_non (pa_cons pe_non (pa_cons pe_non (pa_cons pe_non (pa_cons (pe_tup (pa_cons pe_str (pa_cons pe_int pa_nil))) (pa_cons (pe_tup (pa_cons pe_str (pa_cons pe_int pa_nil))) pa_nil))))))) (nomark _)) (pss_one (ps_ret pe_bl)) pss_nil)
    (pss_one (ps_ret (pe_cmpR (op_eqD hr.units) (pe_lc (own := [("_law_row", 5)]) (g := gName 5) (tt := tYes) rfl sc_law.nd (pi_list (pe_lst (pa_cons (pe_lst (pa_cons (pe_lst (pa_cons pe_int (pa_cons pe_int (pa_cons pe_bl pa_nil)))) (pa_cons pe_int (pa_cons (pe_un un_neg pe_int) pa_nil)))) (pa_cons (pe_lst (pa_cons (pe_op op_rep (pe_lst (pa_cons pe_int pa_nil)) pe_int) (pa_cons pe_int (pa_cons pe_int pa_nil)))) (pa_cons (pe_lst (pa_cons (pe_lst (pa_cons pe_int pa_nil)) (pa_cons pe_int (pa_cons (pe_un un_neg pe_int) pa_nil)))) pa_nil))))) (blkOk_by (own := [("_law_row", 5)]) (N := ["_law_script", "_law_k", "_law_rng_here", "_law_some", "_law_turn", "_law_row"]) (sc := defScope s_law) (by decide +kernel)) (fun _ _ _ _ _ => pg_name (i := 5) sc_law.nd rfl (by first | exact Or.inl rfl | exact Or.inr rfl)) (fun _ _ _ _ _ => pts_nil) (fun _ _ _ _ _ => (pe_call G_l_told (hr.mono (by decide)) rfl T.m_l_told T.k_l_told T.b_l_told .nil pass0 (pa_cons (pv 5) pa_nil)))) (pe_lst (pa_cons (pe_tup (pa_cons pe_str (pa_cons pe_int pa_nil))) (pa_cons (pe_tup (pa_cons pe_str (pa_cons pe_int pa_nil))) (pa_cons (pe_tup (pa_cons pe_str (pa_cons pe_int pa_nil))) pa_nil)))) (nomark _)))))))), ?_⟩
    refine ⟨_, rfl, a, _, rfl, .inl hS, _, _, rfl, _, _, rfl, _, rfl, ?_⟩
    rw [List.length_map]
    have b6 : (if (if (ns.length : Int) < (8 : Int) then (ns.length : Int) else (8 : Int)) > 1 then (if (ns.length : Int) < (8 : Int) then (ns.length : Int) else (8 : Int)) else 1) ≤ 8 := by
      split <;> split <;> omega
    have b0 : 0 ≤ (if (if (ns.length : Int) < (8 : Int) then (ns.length : Int) else (8 : Int)) > 1 then (if (ns.length : Int) < (8 : Int) then (ns.length : Int) else (8 : Int)) else 1) := by
      split <;> split <;> omega
    generalize (if (if (ns.length : Int) < (8 : Int) then (ns.length : Int) else (8 : Int)) > 1 then (if (ns.length : Int) < (8 : Int) then (ns.length : Int) else (8 : Int)) else 1) = N at *
    refine ⟨by omega, by omega, ?_⟩
    refine for_range (lo := 0) (n := N.toNat) (fun i σ H' => ∃ v1 v2, σ = [some (.ref a), v1, v2, none, none, none] ∧ Same H H') ⟨_, _, rfl, Same.refl _⟩ ?_ ?_
    · rintro i σ H1 hi ⟨v1, v2, rfl, s1⟩
      refine ⟨_, rfl, _, rfl, a, ns, _, rfl, s1.seq hS, by omega, by omega, fun H2 r s2 hr0 hr1 => ?_⟩
      have top : ∀ {H' : Hp}, Ext r H2 H' → Same H H' := fun e b o h => e.keep b o (ne_of_none (s1 _ _ h) hr0) (s2 _ _ (s1 _ _ h))
      refine ⟨_, rfl, by decide, by decide, fun D hD => ?_⟩
      have nD := hr1.ne hD
      refine lc_range (lo := 0) (n := 6) (fun j H' => H' D = some (.lst ((List.replicate j true).map V.bl)) ∧ Ext r H2 H') ⟨upd_same, (Ext.refl hr1).new hD⟩ ?_ ?_
      · rintro j H' hj ⟨hD2, e3⟩
        refine ⟨rfl, _, rfl, r, rfl, e3.rng, fun H4 e4 => ?_⟩
        refine ⟨_, e4.keep _ _ nD hD2, small (by rw [List.length_map, List.length_replicate]; omega), ?_, (e3.trans e4).put hD nD⟩
        rw [upd_same, List.replicate_succ', List.map_append]; rfl
      · rintro H' ⟨hD2, e3⟩
        refine ⟨D, _, rfl, SqL.of hD2, ?_⟩
        rw [show (List.replicate 6 true).all id = true from rfl]
        exact ⟨_, rfl, iteF ⟨_, _, rfl, top e3⟩⟩
    · rintro σ H1 ⟨v1, v2, rfl, s1⟩
      refine ⟨(by show 1 ≤ sizeLine; decide), fun l1 hl1 => ?_⟩
      have t2 : Same H1 (upd H1 l1 (.lst [.int 0])) := Same.upd (Same.refl _) hl1
      have fl1 : upd H1 l1 (.lst [.int 0]) l1 = some (.lst [.int 0]) := upd_same
      generalize upd H1 l1 (.lst [.int 0]) = G2 at *
      refine ⟨l1, 24, _, rfl, rfl, fl1, by decide, by decide, (by show 1 * 24 ≤ sizeLine; decide), fun l2 hl2 => ?_⟩
      have t3 : Same G2 (upd G2 l2 (.lst (List.replicate (Int.toNat 24) [V.int 0]).flatten)) := Same.upd (Same.refl _) hl2
      have fl2 : upd G2 l2 (.lst (List.replicate (Int.toNat 24) [V.int 0]).flatten) l2 = some (.lst (List.replicate (Int.toNat 24) [V.int 0]).flatten) := upd_same
      generalize upd G2 l2 (.lst (List.replicate (Int.toNat 24) [V.int 0]).flatten) = G3 at *
      refine ⟨(by show 3 ≤ sizeLine; decide), fun r1 hr1 => ?_⟩
      have t4 : Same G3 (upd G3 r1 (.lst [.ref l2, .int 12, .int 0])) := Same.upd (Same.refl _) hr1
      have fr1 : upd G3 r1 (.lst [.ref l2, .int 12, .int 0]) r1 = some (.lst [.ref l2, .int 12, .int 0]) := upd_same
      generalize upd G3 r1 (.lst [.ref l2, .int 12, .int 0]) = G4 at *
      refine ⟨(by show 1 ≤ sizeLine; decide), fun l3 hl3 => ?_⟩
      have t5 : Same G4 (upd G4 l3 (.lst [.int 2000])) := Same.upd (Same.refl _) hl3
      have fl3 : upd G4 l3 (.lst [.int 2000]) l3 = some (.lst [.int 2000]) := upd_same
      generalize upd G4 l3 (.lst [.int 2000]) = G5 at *
      refine ⟨l3, 24, _, rfl, rfl, fl3, by decide, by decide, (by show 1 * 24 ≤ sizeLine; decide), fun l4 hl4 => ?_⟩
      have t6 : Same G5 (upd G5 l4 (.lst (List.replicate (Int.toNat 24) [V.int 2000]).flatten)) := Same.upd (Same.refl _) hl4
      have fl4 : upd G5 l4 (.lst (List.replicate (Int.toNat 24) [V.int 2000]).flatten) l4 = some (.lst (List.replicate (Int.toNat 24) [V.int 2000]).flatten) := upd_same
      generalize upd G5 l4 (.lst (List.replicate (Int.toNat 24) [V.int 2000]).flatten) = G6 at *
      refine ⟨(by show 3 ≤ sizeLine; decide), fun r2 hr2 => ?_⟩
      have t7 : Same G6 (upd G6 r2 (.lst [.ref l4, .int 12, .int 2000])) := Same.upd (Same.refl _) hr2
      have fr2 : upd G6 r2 (.lst [.ref l4, .int 12, .int 2000]) r2 = some (.lst [.ref l4, .int 12, .int 2000]) := upd_same
      generalize upd G6 r2 (.lst [.ref l4, .int 12, .int 2000]) = G7 at *
      refine ⟨(by show 2 ≤ sizeLine; decide), fun l5 hl5 => ?_⟩
      have t8 : Same G7 (upd G7 l5 (.lst [.int 0, .int 2000])) := Same.upd (Same.refl _) hl5
      have fl5 : upd G7 l5 (.lst [.int 0, .int 2000]) l5 = some (.lst [.int 0, .int 2000]) := upd_same
      generalize upd G7 l5 (.lst [.int 0, .int 2000]) = G8 at *
      refine ⟨(by show 3 ≤ sizeLine; decide), fun r3 hr3 => ?_⟩
      have t9 : Same G8 (upd G8 r3 (.lst [.ref l5, .int 1, .int 2000])) := Same.upd (Same.refl _) hr3
      have fr3 : upd G8 r3 (.lst [.ref l5, .int 1, .int 2000]) r3 = some (.lst [.ref l5, .int 1, .int 2000]) := upd_same
      generalize upd G8 r3 (.lst [.ref l5, .int 1, .int 2000]) = G9 at *
      refine ⟨(by show 1 ≤ sizeLine; decide), fun l6 hl6 => ?_⟩
      have t10 : Same G9 (upd G9 l6 (.lst [.int 5])) := Same.upd (Same.refl _) hl6
      have fl6 : upd G9 l6 (.lst [.int 5]) l6 = some (.lst [.int 5]) := upd_same
      generalize upd G9 l6 (.lst [.int 5]) = G10 at *
      refine ⟨(by show 3 ≤ sizeLine; decide), fun r4 hr4 => ?_⟩
      have t11 : Same G10 (upd G10 r4 (.lst [.ref l6, .int 1, .int 0])) := Same.upd (Same.refl _) hr4
      have fr4 : upd G10 r4 (.lst [.ref l6, .int 1, .int 0]) r4 = some (.lst [.ref l6, .int 1, .int 0]) := upd_same
      generalize upd G10 r4 (.lst [.ref l6, .int 1, .int 0]) = G11 at *
      refine ⟨(by show 4 ≤ sizeLine; decide), fun u1 hu1 => ?_⟩
      have t12 : Same G11 (upd G11 u1 (.lst [.ref r1, .ref r2, .ref r3, .ref r4])) := Same.upd (Same.refl _) hu1
      have fu1 : upd G11 u1 (.lst [.ref r1, .ref r2, .ref r3, .ref r4]) u1 = some (.lst [.ref r1, .ref r2, .ref r3, .ref r4]) := upd_same
      generalize upd G11 u1 (.lst [.ref r1, .ref r2, .ref r3, .ref r4]) = G12 at *
      refine ⟨_, rfl, (by show 2 ≤ sizeLine; decide), fun l7 hl7 => ?_⟩
      have t13 : Same G12 (upd G12 l7 (.lst [.int 0, .int 1])) := Same.upd (Same.refl _) hl7
      have fl7 : upd G12 l7 (.lst [.int 0, .int 1]) l7 = some (.lst [.int 0, .int 1]) := upd_same
      generalize upd G12 l7 (.lst [.int 0, .int 1]) = G13 at *
      refine ⟨(by show 3 ≤ sizeLine; decide), fun r5 hr5 => ?_⟩
      have t14 : Same G13 (upd G13 r5 (.lst [.ref l7, .int 2, .int 0])) := Same.upd (Same.refl _) hr5
      have fr5 : upd G13 r5 (.lst [.ref l7, .int 2, .int 0]) r5 = some (.lst [.ref l7, .int 2, .int 0]) := upd_same
      generalize upd G13 r5 (.lst [.ref l7, .int 2, .int 0]) = G14 at *
      refine ⟨(by show 2 ≤ sizeLine; decide), fun l8 hl8 => ?_⟩
      have t15 : Same G14 (upd G14 l8 (.lst [.int 1, .int 2])) := Same.upd (Same.refl _) hl8
      have fl8 : upd G14 l8 (.lst [.int 1, .int 2]) l8 = some (.lst [.int 1, .int 2]) := upd_same
      generalize upd G14 l8 (.lst [.int 1, .int 2]) = G15 at *
      refine ⟨(by show 3 ≤ sizeLine; decide), fun r6 hr6 => ?_⟩
      have t16 : Same G15 (upd G15 r6 (.lst [.ref l8, .int 2, .int 0])) := Same.upd (Same.refl _) hr6
      have fr6 : upd G15 r6 (.lst [.ref l8, .int 2, .int 0]) r6 = some (.lst [.ref l8, .int 2, .int 0]) := upd_same
      generalize upd G15 r6 (.lst [.ref l8, .int 2, .int 0]) = G16 at *
      refine ⟨(by show 2 ≤ sizeLine; decide), fun u2 hu2 => ?_⟩
      have t17 : Same G16 (upd G16 u2 (.lst [.ref r5, .ref r6])) := Same.upd (Same.refl _) hu2
      have fu2 : upd G16 u2 (.lst [.ref r5, .ref r6]) u2 = some (.lst [.ref r5, .ref r6]) := upd_same
      generalize upd G16 u2 (.lst [.ref r5, .ref r6]) = G17 at *
      refine ⟨u1, u2, _, _, rfl, rfl, (((((t13.trans t14).trans t15).trans t16).trans t17) _ _ fu1), fu2, (by show 6 ≤ sizeLine; decide), fun u3 hu3 => ?_⟩
      have t18 : Same G17 (upd G17 u3 (.lst ([.ref r1, .ref r2, .ref r3, .ref r4] ++ [.ref r5, .ref r6]))) := Same.upd (Same.refl _) hu3
      have fu3 : upd G17 u3 (.lst ([.ref r1, .ref r2, .ref r3, .ref r4] ++ [.ref r5, .ref r6])) u3 = some (.lst ([.ref r1, .ref r2, .ref r3, .ref r4] ++ [.ref r5, .ref r6])) := upd_same
      generalize upd G17 u3 (.lst ([.ref r1, .ref r2, .ref r3, .ref r4] ++ [.ref r5, .ref r6])) = G18 at *
      have qr1 := ((((((((((((((t5.trans t6).trans t7).trans t8).trans t9).trans t10).trans t11).trans t12).trans t13).trans t14).trans t15).trans t16).trans t17).trans t18) _ _ fr1)
      have ql2 := (((((((((((((((t4.trans t5).trans t6).trans t7).trans t8).trans t9).trans t10).trans t11).trans t12).trans t13).trans t14).trans t15).trans t16).trans t17).trans t18) _ _ fl2)
      have qr2 := (((((((((((t8.trans t9).trans t10).trans t11).trans t12).trans t13).trans t14).trans t15).trans t16).trans t17).trans t18) _ _ fr2)
      have ql4 := ((((((((((((t7.trans t8).trans t9).trans t10).trans t11).trans t12).trans t13).trans t14).trans t15).trans t16).trans t17).trans t18) _ _ fl4)
      have qr3 := (((((((((t10.trans t11).trans t12).trans t13).trans t14).trans t15).trans t16).trans t17).trans t18) _ _ fr3)
      have ql5 := ((((((((((t9.trans t10).trans t11).trans t12).trans t13).trans t14).trans t15).trans t16).trans t17).trans t18) _ _ fl5)
      have qr4 := (((((((t12.trans t13).trans t14).trans t15).trans t16).trans t17).trans t18) _ _ fr4)
      have ql6 := ((((((((t11.trans t12).trans t13).trans t14).trans t15).trans t16).trans t17).trans t18) _ _ fl6)
      have qr5 := ((((t15.trans t16).trans t17).trans t18) _ _ fr5)
      have ql7 := (((((t14.trans t15).trans t16).trans t17).trans t18) _ _ fl7)
      have qr6 := ((t17.trans t18) _ _ fr6)
      have ql8 := (((t16.trans t17).trans t18) _ _ fl8)
      have fu3 : G18 u3 = some (.lst [.ref r1, .ref r2, .ref r3, .ref r4, .ref r5, .ref r6]) := fu3
      have wr1 : wrongL (List.replicate (Int.toNat 24) [V.int 0]).flatten (.int 12) (.int 0) = none := by decide +kernel
      have pr1 : Prb K G18 (.ref l2) (.int 12) (.int 0) (none) := by
        have z := prb_lst (K := K) (c := 12) (m := 0) ql2 (fun x hx => rep_int x hx)
        rw [wr1] at z
        exact z
      have wr2 : wrongL (List.replicate (Int.toNat 24) [V.int 2000]).flatten (.int 12) (.int 2000) = none := by decide +kernel
      have pr2 : Prb K G18 (.ref l4) (.int 12) (.int 2000) (none) := by
        have z := prb_lst (K := K) (c := 12) (m := 2000) ql4 (fun x hx => rep_int x hx)
        rw [wr2] at z
        exact z
      have wr3 : wrongL [V.int 0, .int 2000] (.int 1) (.int 2000) = none := by decide +kernel
      have pr3 : Prb K G18 (.ref l5) (.int 1) (.int 2000) (none) := by
        have z := prb_lst (K := K) (c := 1) (m := 2000) ql5 (fun x hx => by simp only [List.mem_cons, List.not_mem_nil, or_false] at hx; rcases hx with rfl | rfl <;> exact .inl ⟨_, rfl⟩)
        rw [wr3] at z
        exact z
      have wr4 : wrongL [V.int 5] (.int 1) (.int 0) = none := by decide +kernel
      have pr4 : Prb K G18 (.ref l6) (.int 1) (.int 0) (none) := by
        have z := prb_lst (K := K) (c := 1) (m := 0) ql6 (fun x hx => by simp only [List.mem_cons, List.not_mem_nil, or_false] at hx; rcases hx with rfl <;> exact .inl ⟨_, rfl⟩)
        rw [wr4] at z
        exact z
      have wr5 : wrongL [V.int 0, .int 1] (.int 2) (.int 0) = some (("gain" : Str), 0) := by decide +kernel
      have pr5 : Prb K G18 (.ref l7) (.int 2) (.int 0) (some (("gain" : Str), 0)) := by
        have z := prb_lst (K := K) (c := 2) (m := 0) ql7 (fun x hx => by simp only [List.mem_cons, List.not_mem_nil, or_false] at hx; rcases hx with rfl | rfl <;> exact .inl ⟨_, rfl⟩)
        rw [wr5] at z
        exact z
      have wr6 : wrongL [V.int 1, .int 2] (.int 2) (.int 0) = some (("gain" : Str), 0) := by decide +kernel
      have pr6 : Prb K G18 (.ref l8) (.int 2) (.int 0) (some (("gain" : Str), 0)) := by
        have z := prb_lst (K := K) (c := 2) (m := 0) ql8 (fun x hx => by simp only [List.mem_cons, List.not_mem_nil, or_false] at hx; rcases hx with rfl | rfl <;> exact .inl ⟨_, rfl⟩)
        rw [wr6] at z
        exact z
      have alla : ∀ (j : Nat) (x : V), ([.ref r1, .ref r2, .ref r3, .ref r4, .ref r5, .ref r6] : List V)[j]? = some x → ∃ r v c m W, x = .ref r ∧ ([none, none, none, none, some (("gain" : Str), 0), some (("gain" : Str), 0)] : List (Option (Str × Nat)))[j]? = some W ∧ G18 r = some (.lst [v, c, m]) ∧ Prb K G18 v c m W := fun j x hj => by
        match j, hj with
        | 0, e => cases e; exact ⟨r1, _, _, _, _, rfl, rfl, qr1, pr1⟩
        | 1, e => cases e; exact ⟨r2, _, _, _, _, rfl, rfl, qr2, pr2⟩
        | 2, e => cases e; exact ⟨r3, _, _, _, _, rfl, rfl, qr3, pr3⟩
        | 3, e => cases e; exact ⟨r4, _, _, _, _, rfl, rfl, qr4, pr4⟩
        | 4, e => cases e; exact ⟨r5, _, _, _, _, rfl, rfl, qr5, pr5⟩
        | 5, e => cases e; exact ⟨r6, _, _, _, _, rfl, rfl, qr6, pr6⟩
        | n + 6, e => exact absurd e (by simp)
      refine ⟨_, rfl, u3, rfl, ⟨_, SqL.of fu3⟩, fun Da hD => ?_⟩
      refine lc_list (K := K) (a := u3) (xs := [.ref r1, .ref r2, .ref r3, .ref r4, .ref r5, .ref r6]) (fun j H' => Same G18 H' ∧ ∃ vs, H' Da = some (.lst vs) ∧ Paired (Ow H') vs (([none, none, none, none, some (("gain" : Str), 0), some (("gain" : Str), 0)] : List (Option (Str × Nat))).take j)) ⟨Same.upd (Same.refl _) hD, [], upd_same, .nil⟩ (fun j H' _ h => SqL.of (h.1 _ _ fu3)) ?_ ?_
      · rintro j x H' hj ⟨s5, vs, hD2, hP⟩
        obtain ⟨r, v, c, m, W, rfl, hW, hr, pr⟩ := alla j x hj
        refine ⟨rfl, _, rfl, r, v, c, m, W, rfl, SqL.of (s5 _ _ hr), pr.same s5, fun G s6 => tol_ow fun u G2 s7 ow => ?_⟩
        have s67 := s6.trans s7
        have hD3 := s67 _ _ hD2
        have lv : vs.length ≤ 6 := by
          rw [Paired.length hP, List.length_take]
          exact Nat.le_trans (Nat.min_le_right _ _) (by decide)
        refine ⟨vs, hD3, small (by omega), Same.upd (s5.trans s67) hD, vs ++ [u], upd_same, ?_⟩
        rw [List.take_add_one, hW]
        exact paired_snoc (L2.Paired.mapP hP fun v W o => (o.same s67).put hD3) (ow.put hD3)
      rintro Ea ⟨s5a, vsa, hDa, hPa⟩
      rw [show ([none, none, none, none, some (("gain" : Str), 0), some (("gain" : Str), 0)] : List (Option (Str × Nat))).take ([.ref r1, .ref r2, .ref r3, .ref r4, .ref r5, .ref r6] : List V).length = ([none, none, none, none, some (("gain" : Str), 0), some (("gain" : Str), 0)] : List (Option (Str × Nat))) from rfl] at hPa
      have t19 : Same G18 Ea := s5a
      have fDa := hDa
      refine ⟨(by show 2 ≤ sizeLine; decide), fun y1 hy1 => ?_⟩
      have t20 : Same Ea (upd Ea y1 (.tup [.str "gain", .int 0])) := Same.upd (Same.refl _) hy1
      have fy1 : upd Ea y1 (.tup [.str "gain", .int 0]) y1 = some (.tup [.str "gain", .int 0]) := upd_same
      generalize upd Ea y1 (.tup [.str "gain", .int 0]) = G20 at *
      refine ⟨(by show 2 ≤ sizeLine; decide), fun y2 hy2 => ?_⟩
      have t21 : Same G20 (upd G20 y2 (.tup [.str "gain", .int 0])) := Same.upd (Same.refl _) hy2
      have fy2 : upd G20 y2 (.tup [.str "gain", .int 0]) y2 = some (.tup [.str "gain", .int 0]) := upd_same
      generalize upd G20 y2 (.tup [.str "gain", .int 0]) = G21 at *
      refine ⟨(by show 6 ≤ sizeLine; decide), fun y3 hy3 => ?_⟩
      have t22 : Same G21 (upd G21 y3 (.lst [.non, .non, .non, .non, .ref y1, .ref y2])) := Same.upd (Same.refl _) hy3
      have fy3 : upd G21 y3 (.lst [.non, .non, .non, .non, .ref y1, .ref y2]) y3 = some (.lst [.non, .non, .non, .non, .ref y1, .ref y2]) := upd_same
      generalize upd G21 y3 (.lst [.non, .non, .non, .non, .ref y1, .ref y2]) = G22 at *
      have ev1 : PyData.eqv (.list (([none, none, none, none, some (("gain" : Str), 0), some (("gain" : Str), 0)] : List (Option (Str × Nat))).map Wd)) (.list (([none, none, none, none, some (("gain" : Str), 0), some (("gain" : Str), 0)] : List (Option (Str × Nat))).map Wd)) = true := by decide +kernel
      have sv1 : SeqAt.shaped (.list (([none, none, none, none, some (("gain" : Str), 0), some (("gain" : Str), 0)] : List (Option (Str × Nat))).map Wd)) = true := by decide +kernel
      refine ⟨.list (([none, none, none, none, some (("gain" : Str), 0), some (("gain" : Str), 0)] : List (Option (Str × Nat))).map Wd), .list (([none, none, none, none, some (("gain" : Str), 0), some (("gain" : Str), 0)] : List (Option (Str × Nat))).map Wd), .lst (SqL.of (((t20.trans t21).trans t22) _ _ fDa)) (ows_dp (L2.Paired.mapP hPa fun v W o => o.same ((t20.trans t21).trans t22))), .lst (SqL.of fy3) (.cons .non (.cons .non (.cons .non (.cons .non (.cons (.tup (SqT.of ((t21.trans t22) _ _ fy1)) (.cons (.str _) (.cons (.int _) .nil))) (.cons (.tup (SqT.of (t22 _ _ fy2)) (.cons (.str _) (.cons (.int _) .nil))) .nil)))))), sv1, sv1, _, rfl, ?_⟩
      rw [ev1]
      refine iteF ?_
      refine ⟨(by show 3 ≤ sizeLine; decide), fun l9 hl9 => ?_⟩
      have t23 : Same G22 (upd G22 l9 (.lst [.int 3, .int 2, .bl true])) := Same.upd (Same.refl _) hl9
      have fl9 : upd G22 l9 (.lst [.int 3, .int 2, .bl true]) l9 = some (.lst [.int 3, .int 2, .bl true]) := upd_same
      generalize upd G22 l9 (.lst [.int 3, .int 2, .bl true]) = G23 at *
      refine ⟨_, rfl, (by show 3 ≤ sizeLine; decide), fun ra hra => ?_⟩
      have t24 : Same G23 (upd G23 ra (.lst [.ref l9, .int 5, .int (-1)])) := Same.upd (Same.refl _) hra
      have fra : upd G23 ra (.lst [.ref l9, .int 5, .int (-1)]) ra = some (.lst [.ref l9, .int 5, .int (-1)]) := upd_same
      generalize upd G23 ra (.lst [.ref l9, .int 5, .int (-1)]) = G24 at *
      refine ⟨(by show 1 ≤ sizeLine; decide), fun l10 hl10 => ?_⟩
      have t25 : Same G24 (upd G24 l10 (.lst [.int 1])) := Same.upd (Same.refl _) hl10
      have fl10 : upd G24 l10 (.lst [.int 1]) l10 = some (.lst [.int 1]) := upd_same
      generalize upd G24 l10 (.lst [.int 1]) = G25 at *
      refine ⟨l10, 25, _, rfl, rfl, fl10, by decide, by decide, (by show 1 * 25 ≤ sizeLine; decide), fun l11 hl11 => ?_⟩
      have t26 : Same G25 (upd G25 l11 (.lst (List.replicate (Int.toNat 25) [V.int 1]).flatten)) := Same.upd (Same.refl _) hl11
      have fl11 : upd G25 l11 (.lst (List.replicate (Int.toNat 25) [V.int 1]).flatten) l11 = some (.lst (List.replicate (Int.toNat 25) [V.int 1]).flatten) := upd_same
      generalize upd G25 l11 (.lst (List.replicate (Int.toNat 25) [V.int 1]).flatten) = G26 at *
      refine ⟨(by show 3 ≤ sizeLine; decide), fun rb hrb => ?_⟩
      have t27 : Same G26 (upd G26 rb (.lst [.ref l11, .int 1, .int 0])) := Same.upd (Same.refl _) hrb
      have frb : upd G26 rb (.lst [.ref l11, .int 1, .int 0]) rb = some (.lst [.ref l11, .int 1, .int 0]) := upd_same
      generalize upd G26 rb (.lst [.ref l11, .int 1, .int 0]) = G27 at *
      refine ⟨(by show 1 ≤ sizeLine; decide), fun l12 hl12 => ?_⟩
      have t28 : Same G27 (upd G27 l12 (.lst [.int 1])) := Same.upd (Same.refl _) hl12
      have fl12 : upd G27 l12 (.lst [.int 1]) l12 = some (.lst [.int 1]) := upd_same
      generalize upd G27 l12 (.lst [.int 1]) = G28 at *
      refine ⟨_, rfl, (by show 3 ≤ sizeLine; decide), fun rc hrc => ?_⟩
      have t29 : Same G28 (upd G28 rc (.lst [.ref l12, .int 2, .int (-1)])) := Same.upd (Same.refl _) hrc
      have frc : upd G28 rc (.lst [.ref l12, .int 2, .int (-1)]) rc = some (.lst [.ref l12, .int 2, .int (-1)]) := upd_same
      generalize upd G28 rc (.lst [.ref l12, .int 2, .int (-1)]) = G29 at *
      refine ⟨(by show 3 ≤ sizeLine; decide), fun u5 hu5 => ?_⟩
      have t30 : Same G29 (upd G29 u5 (.lst [.ref ra, .ref rb, .ref rc])) := Same.upd (Same.refl _) hu5
      have fu5 : upd G29 u5 (.lst [.ref ra, .ref rb, .ref rc]) u5 = some (.lst [.ref ra, .ref rb, .ref rc]) := upd_same
      generalize upd G29 u5 (.lst [.ref ra, .ref rb, .ref rc]) = G30 at *
      have qra := ((((((t25.trans t26).trans t27).trans t28).trans t29).trans t30) _ _ fra)
      have ql9 := (((((((t24.trans t25).trans t26).trans t27).trans t28).trans t29).trans t30) _ _ fl9)
      have qrb := (((t28.trans t29).trans t30) _ _ frb)
      have ql11 := ((((t27.trans t28).trans t29).trans t30) _ _ fl11)
      have qrc := (t30 _ _ frc)
      have ql12 := ((t29.trans t30) _ _ fl12)
      have wra : wrongL [V.int 3, .int 2, .bl true] (.int 5) (.int (-1)) = some (("value" : Str), 1) := by decide +kernel
      have pra : Prb K G30 (.ref l9) (.int 5) (.int (-1)) (some (("value" : Str), 1)) := by
        have z := prb_lst (K := K) (c := 5) (m := (-1)) ql9 (fun x hx => by simp only [List.mem_cons, List.not_mem_nil, or_false] at hx; rcases hx with rfl | rfl | rfl <;> first | exact .inl ⟨_, rfl⟩ | exact .inr ⟨_, rfl⟩)
        rw [wra] at z
        exact z
      have wrb : wrongL (List.replicate (Int.toNat 25) [V.int 1]).flatten (.int 1) (.int 0) = some (("count" : Str), 0) := by decide +kernel
      have prb : Prb K G30 (.ref l11) (.int 1) (.int 0) (some (("count" : Str), 0)) := by
        have z := prb_lst (K := K) (c := 1) (m := 0) ql11 (fun x hx => rep_int x hx)
        rw [wrb] at z
        exact z
      have wrc : wrongL [V.int 1] (.int 2) (.int (-1)) = some (("period" : Str), 0) := by decide +kernel
      have prc : Prb K G30 (.ref l12) (.int 2) (.int (-1)) (some (("period" : Str), 0)) := by
        have z := prb_lst (K := K) (c := 2) (m := (-1)) ql12 (fun x hx => by simp only [List.mem_cons, List.not_mem_nil, or_false] at hx; rcases hx with rfl <;> exact .inl ⟨_, rfl⟩)
        rw [wrc] at z
        exact z
      have allb : ∀ (j : Nat) (x : V), ([.ref ra, .ref rb, .ref rc] : List V)[j]? = some x → ∃ r v c m W, x = .ref r ∧ ([some (("value" : Str), 1), some (("count" : Str), 0), some (("period" : Str), 0)] : List (Option (Str × Nat)))[j]? = some W ∧ G30 r = some (.lst [v, c, m]) ∧ Prb K G30 v c m W := fun j x hj => by
        match j, hj with
        | 0, e => cases e; exact ⟨ra, _, _, _, _, rfl, rfl, qra, pra⟩
        | 1, e => cases e; exact ⟨rb, _, _, _, _, rfl, rfl, qrb, prb⟩
        | 2, e => cases e; exact ⟨rc, _, _, _, _, rfl, rfl, qrc, prc⟩
        | n + 3, e => exact absurd e (by simp)
      refine ⟨u5, rfl, ⟨_, SqL.of fu5⟩, fun Db hD => ?_⟩
      refine lc_list (K := K) (a := u5) (xs := [.ref ra, .ref rb, .ref rc]) (fun j H' => Same G30 H' ∧ ∃ vs, H' Db = some (.lst vs) ∧ Paired (Ow H') vs (([some (("value" : Str), 1), some (("count" : Str), 0), some (("period" : Str), 0)] : List (Option (Str × Nat))).take j)) ⟨Same.upd (Same.refl _) hD, [], upd_same, .nil⟩ (fun j H' _ h => SqL.of (h.1 _ _ fu5)) ?_ ?_
      · rintro j x H' hj ⟨s5, vs, hD2, hP⟩
        obtain ⟨r, v, c, m, W, rfl, hW, hr, pr⟩ := allb j x hj
        refine ⟨rfl, _, rfl, r, v, c, m, W, rfl, SqL.of (s5 _ _ hr), pr.same s5, fun G s6 => tol_ow fun u G2 s7 ow => ?_⟩
        have s67 := s6.trans s7
        have hD3 := s67 _ _ hD2
        have lv : vs.length ≤ 6 := by
          rw [Paired.length hP, List.length_take]
          exact Nat.le_trans (Nat.min_le_right _ _) (by decide)
        refine ⟨vs, hD3, small (by omega), Same.upd (s5.trans s67) hD, vs ++ [u], upd_same, ?_⟩
        rw [List.take_add_one, hW]
        exact paired_snoc (L2.Paired.mapP hP fun v W o => (o.same s67).put hD3) (ow.put hD3)
      rintro Eb ⟨s5b, vsb, hDb, hPb⟩
      rw [show ([some (("value" : Str), 1), some (("count" : Str), 0), some (("period" : Str), 0)] : List (Option (Str × Nat))).take ([.ref ra, .ref rb, .ref rc] : List V).length = ([some (("value" : Str), 1), some (("count" : Str), 0), some (("period" : Str), 0)] : List (Option (Str × Nat))) from rfl] at hPb
      have t31 : Same G30 Eb := s5b
      have fDb := hDb
      refine ⟨(by show 2 ≤ sizeLine; decide), fun z1 hz1 => ?_⟩
      have t32 : Same Eb (upd Eb z1 (.tup [.str "value", .int 1])) := Same.upd (Same.refl _) hz1
      have fz1 : upd Eb z1 (.tup [.str "value", .int 1]) z1 = some (.tup [.str "value", .int 1]) := upd_same
      generalize upd Eb z1 (.tup [.str "value", .int 1]) = G32 at *
      refine ⟨(by show 2 ≤ sizeLine; decide), fun z2 hz2 => ?_⟩
      have t33 : Same G32 (upd G32 z2 (.tup [.str "count", .int 0])) := Same.upd (Same.refl _) hz2
      have fz2 : upd G32 z2 (.tup [.str "count", .int 0]) z2 = some (.tup [.str "count", .int 0]) := upd_same
      generalize upd G32 z2 (.tup [.str "count", .int 0]) = G33 at *
      refine ⟨(by show 2 ≤ sizeLine; decide), fun z3 hz3 => ?_⟩
      have t34 : Same G33 (upd G33 z3 (.tup [.str "period", .int 0])) := Same.upd (Same.refl _) hz3
      have fz3 : upd G33 z3 (.tup [.str "period", .int 0]) z3 = some (.tup [.str "period", .int 0]) := upd_same
      generalize upd G33 z3 (.tup [.str "period", .int 0]) = G34 at *
      refine ⟨(by show 3 ≤ sizeLine; decide), fun z4 hz4 => ?_⟩
      have t35 : Same G34 (upd G34 z4 (.lst [.ref z1, .ref z2, .ref z3])) := Same.upd (Same.refl _) hz4
      have fz4 : upd G34 z4 (.lst [.ref z1, .ref z2, .ref z3]) z4 = some (.lst [.ref z1, .ref z2, .ref z3]) := upd_same
      generalize upd G34 z4 (.lst [.ref z1, .ref z2, .ref z3]) = G35 at *
      have ev2 : PyData.eqv (.list (([some (("value" : Str), 1), some (("count" : Str), 0), some (("period" : Str), 0)] : List (Option (Str × Nat))).map Wd)) (.list (([some (("value" : Str), 1), some (("count" : Str), 0), some (("period" : Str), 0)] : List (Option (Str × Nat))).map Wd)) = true := by decide +kernel
      have sv2 : SeqAt.shaped (.list (([some (("value" : Str), 1), some (("count" : Str), 0), some (("period" : Str), 0)] : List (Option (Str × Nat))).map Wd)) = true := by decide +kernel
      refine ⟨.list (([some (("value" : Str), 1), some (("count" : Str), 0), some (("period" : Str), 0)] : List (Option (Str × Nat))).map Wd), .list (([some (("value" : Str), 1), some (("count" : Str), 0), some (("period" : Str), 0)] : List (Option (Str × Nat))).map Wd), .lst (SqL.of ((((t32.trans t33).trans t34).trans t35) _ _ fDb)) (ows_dp (L2.Paired.mapP hPb fun v W o => o.same (((t32.trans t33).trans t34).trans t35))), .lst (SqL.of fz4) (.cons (.tup (SqT.of (((t33.trans t34).trans t35) _ _ fz1)) (.cons (.str _) (.cons (.int _) .nil))) (.cons (.tup (SqT.of ((t34.trans t35) _ _ fz2)) (.cons (.str _) (.cons (.int _) .nil))) (.cons (.tup (SqT.of (t35 _ _ fz3)) (.cons (.str _) (.cons (.int _) .nil))) .nil))), sv2, sv2, ?_⟩
      rw [ev2]
      exact k _
end
end VK


namespace VK
open PySem PySem.Spec PyProof.Rows L2 VM
theorem all_mk {l : PySem.W.OpenLaw} {w : World} {K : PySem.W.Frag} {h : Heap} {mg : Str → Option Value} {fa : Addr} (X : K.In h) (G : h.Ns mainGlobals mg) (hfa : mg "law" = some (.ref fa))
    {C_DueError : Addr}
    {C_InvalidCount : Addr}
    {C_InvalidLength : Addr}
    {C_InvalidPiece : Addr}
    {C_InvalidRecord : Addr}
    {C_NotGood : Addr}
    {C_TooLong : Addr}
    {C_InvalidCurve : Addr}
    {C_Curve : Addr}
    {f_InvalidCurve_init : Addr} {od_InvalidCurve_init an_InvalidCurve_init : Option Addr} {sl_InvalidCurve_init : Array (Option Value)} {oc_InvalidCurve_init kV_InvalidCurve_init dc_InvalidCurve_init pm_InvalidCurve_init cd_InvalidCurve_init ct_InvalidCurve_init : Value}
    {f_is_integer : Addr} {od_is_integer an_is_integer : Option Addr} {sl_is_integer : Array (Option Value)} {oc_is_integer kV_is_integer dc_is_integer pm_is_integer cd_is_integer ct_is_integer : Value}
    {f_is_count : Addr} {od_is_count an_is_count : Option Addr} {sl_is_count : Array (Option Value)} {oc_is_count kV_is_count dc_is_count pm_is_count cd_is_count ct_is_count : Value}
    {f_is_count_to : Addr} {od_is_count_to an_is_count_to : Option Addr} {sl_is_count_to : Array (Option Value)} {oc_is_count_to kV_is_count_to dc_is_count_to pm_is_count_to cd_is_count_to ct_is_count_to : Value}
    {f_rounded_up : Addr} {od_rounded_up an_rounded_up : Option Addr} {sl_rounded_up : Array (Option Value)} {oc_rounded_up kV_rounded_up dc_rounded_up pm_rounded_up cd_rounded_up ct_rounded_up : Value}
    {f_value_at : Addr} {od_value_at an_value_at : Option Addr} {sl_value_at : Array (Option Value)} {oc_value_at kV_value_at dc_value_at pm_value_at cd_value_at ct_value_at : Value}
    {f_least_form : Addr} {od_least_form an_least_form : Option Addr} {sl_least_form : Array (Option Value)} {oc_least_form kV_least_form dc_least_form pm_least_form cd_least_form ct_least_form : Value}
    {f_least_period : Addr} {od_least_period an_least_period : Option Addr} {sl_least_period : Array (Option Value)} {oc_least_period kV_least_period dc_least_period pm_least_period cd_least_period ct_least_period : Value}
    {f_C_init : Addr} {od_C_init an_C_init : Option Addr} {sl_C_init : Array (Option Value)} {oc_C_init dc_C_init pm_C_init cd_C_init ct_C_init : Value}
    {D_C_init : Addr}
    {t_C_init_period : Tok}
    {t_C_init_gain : Tok}
    {f_find_problem : Addr} {od_find_problem an_find_problem : Option Addr} {sl_find_problem : Array (Option Value)} {oc_find_problem kV_find_problem dc_find_problem pm_find_problem cd_find_problem ct_find_problem : Value}
    {f_l_rng : Addr} {od_l_rng an_l_rng : Option Addr} {sl_l_rng : Array (Option Value)} {oc_l_rng kV_l_rng dc_l_rng pm_l_rng cd_l_rng ct_l_rng : Value}
    {f_l_draw : Addr} {od_l_draw an_l_draw : Option Addr} {sl_l_draw : Array (Option Value)} {oc_l_draw kV_l_draw dc_l_draw pm_l_draw cd_l_draw ct_l_draw : Value}
    {f_l_choice : Addr} {od_l_choice an_l_choice : Option Addr} {sl_l_choice : Array (Option Value)} {oc_l_choice kV_l_choice dc_l_choice pm_l_choice cd_l_choice ct_l_choice : Value}
    {f_l_written : Addr} {od_l_written an_l_written : Option Addr} {sl_l_written : Array (Option Value)} {oc_l_written kV_l_written dc_l_written pm_l_written cd_l_written ct_l_written : Value}
    {f_l_odd_value : Addr} {od_l_odd_value an_l_odd_value : Option Addr} {sl_l_odd_value : Array (Option Value)} {oc_l_odd_value kV_l_odd_value dc_l_odd_value pm_l_odd_value cd_l_odd_value ct_l_odd_value : Value}
    {f_l_spoilt : Addr} {od_l_spoilt an_l_spoilt : Option Addr} {sl_l_spoilt : Array (Option Value)} {oc_l_spoilt kV_l_spoilt dc_l_spoilt pm_l_spoilt cd_l_spoilt ct_l_spoilt : Value}
    {f_l_is_count : Addr} {od_l_is_count an_l_is_count : Option Addr} {sl_l_is_count : Array (Option Value)} {oc_l_is_count kV_l_is_count dc_l_is_count pm_l_is_count cd_l_is_count ct_l_is_count : Value}
    {f_l_due : Addr} {od_l_due an_l_due : Option Addr} {sl_l_due : Array (Option Value)} {oc_l_due kV_l_due dc_l_due pm_l_due cd_l_due ct_l_due : Value}
    {f_l_told : Addr} {od_l_told an_l_told : Option Addr} {sl_l_told : Array (Option Value)} {oc_l_told kV_l_told dc_l_told pm_l_told cd_l_told ct_l_told : Value}
    {f_l_right : Addr} {od_l_right an_l_right : Option Addr} {sl_l_right : Array (Option Value)} {oc_l_right kV_l_right dc_l_right pm_l_right cd_l_right ct_l_right : Value}
    {f_law : Addr} {od_law an_law : Option Addr} {sl_law : Array (Option Value)} {oc_law kV_law dc_law pm_law cd_law ct_law : Value}
    {t_MAX_VALUE : Tok}
    {t_MAX_VALUES : Tok}
    {a_PERIODS : Addr} {uPERIODS0 uPERIODS1 uPERIODS2 uPERIODS3 uPERIODS4 uPERIODS5 : Tok} {od_PERIODS : Option Addr} {n_PERIODS : Nat} {sl_PERIODS : Array (Option Value)}
    (g_DueError : PySem.W.nsIn K mainGlobals "DueError" = some (some (.ref C_DueError)))
    (g_InvalidCount : PySem.W.nsIn K mainGlobals "InvalidCount" = some (some (.ref C_InvalidCount)))
    (g_InvalidLength : PySem.W.nsIn K mainGlobals "InvalidLength" = some (some (.ref C_InvalidLength)))
    (g_InvalidPiece : PySem.W.nsIn K mainGlobals "InvalidPiece" = some (some (.ref C_InvalidPiece)))
    (g_InvalidRecord : PySem.W.nsIn K mainGlobals "InvalidRecord" = some (some (.ref C_InvalidRecord)))
    (g_NotGood : PySem.W.nsIn K mainGlobals "NotGood" = some (some (.ref C_NotGood)))
    (g_TooLong : PySem.W.nsIn K mainGlobals "TooLong" = some (some (.ref C_TooLong)))
    (g_InvalidCurve : PySem.W.nsIn K mainGlobals "InvalidCurve" = some (some (.ref C_InvalidCurve)))
    (xi_InvalidCurve : PySem.W.excInitIn K C_InvalidCurve [.type "ValueError", .type "Exception", .type "BaseException", .type "object"] "ValueError.__new__" = true)
    (xo_InvalidCurve : PySem.W.excOver K C_InvalidCurve [.type "ValueError", .type "Exception", .type "BaseException", .type "object"] = true)
    (hd_InvalidCurve : PySem.W.hasDictIn K C_InvalidCurve = true)
    (sa_InvalidCurve : PySem.W.findIn K (.ref C_InvalidCurve) "__setattr__" = some (some (.builtin "object.__setattr__")))
    (xe_InvalidCurve : PySem.W.subIn K (.ref C_InvalidCurve) (.type "BaseException") = some true)
    (ty_InvalidCurve : PySem.W.typeIn K (.ref C_InvalidCurve) = some (.type "type"))
    (kc_InvalidCurve : PySem.W.keepIn K (.ref C_InvalidCurve) = true)
    (ga_InvalidCurve : PySem.W.findIn K (.ref C_InvalidCurve) "__getattribute__" = some (some (.builtin "BaseException.__getattribute__")))
    (gt_InvalidCurve : PySem.W.findIn K (.ref C_InvalidCurve) "__getattr__" = some none)
    (cc_InvalidCurve : PySem.W.findIn K (.ref C_InvalidCurve) "__class__" = some (some (.builtin "object.__class__")))
    (mr_InvalidCurve : PySem.W.mroIn K C_InvalidCurve (.type "object") = some true)
    (xm_InvalidCurve : PySem.W.subIn K (.ref C_InvalidCurve) (.ref C_InvalidCurve) = some true)
    (n_InvalidCurve_problem : PySem.W.findIn K (.ref C_InvalidCurve) "problem" = some none)
    (n_InvalidCurve_position : PySem.W.findIn K (.ref C_InvalidCurve) "position" = some none)
    (q_gn : PySem.W.specialIn K (.builtin "object.__class__") "__get__" = some (some (.builtin "getset_descriptor.__get__")))
    (q_tk : PySem.W.takesIn K (.builtin "object.__class__") = some true)
    (kt_InvalidCurve_DueError : PySem.W.kitOne K (.ref C_InvalidCurve) (.ref C_DueError) = some true)
    (kt_InvalidCurve_ValueError : PySem.W.kitOne K (.ref C_InvalidCurve) (.type "ValueError") = some true)
    (kt_InvalidCurve_InvalidCount_InvalidLength_InvalidPiece_InvalidRecord_NotGood_TooLong : PySem.W.kitAny K (.ref C_InvalidCurve) [.ref C_InvalidCount, .ref C_InvalidLength, .ref C_InvalidPiece, .ref C_InvalidRecord, .ref C_NotGood, .ref C_TooLong] = some false)
    (g_Curve : PySem.W.nsIn K mainGlobals "Curve" = some (some (.ref C_Curve)))
    (pg_Curve : PySem.W.plainGet K C_Curve Str.empty = true)
    (hd_Curve : PySem.W.hasDictIn K C_Curve = true)
    (po_Curve : PySem.W.plainOver K C_Curve = true)
    (sa_Curve : PySem.W.findIn K (.ref C_Curve) "__setattr__" = some (some (.builtin "object.__setattr__")))
    (mk_Curve : PySem.W.makesIn K C_Curve = true)
    (kc_Curve : PySem.W.keepIn K (.ref C_Curve) = true)
    (n_Curve_values : PySem.W.findIn K (.ref C_Curve) "_values" = some none)
    (n_Curve_period : PySem.W.findIn K (.ref C_Curve) "_period" = some none)
    (n_Curve_gain : PySem.W.findIn K (.ref C_Curve) "_gain" = some none)
    (n_Curve_was_searched : PySem.W.findIn K (.ref C_Curve) "_was_searched" = some none)
    (n_Curve_break : PySem.W.findIn K (.ref C_Curve) "_break" = some none)
    (a_InvalidCurve_init : PySem.W.findIn K (.ref C_InvalidCurve) "__init__" = some (some (.ref f_InvalidCurve_init)))
    (i_InvalidCurve_init : PySem.W.isFn K (.ref f_InvalidCurve_init) = true)
    (l_InvalidCurve_init : K.lookup f_InvalidCurve_init = some ⟨oc_InvalidCurve_init, od_InvalidCurve_init, .func (PySem.W.fnOf "__init__" "InvalidCurve.__init__" (defArgs s_InvalidCurve_init) (defBody s_InvalidCurve_init) (defScope s_InvalidCurve_init) .none kV_InvalidCurve_init dc_InvalidCurve_init pm_InvalidCurve_init an_InvalidCurve_init cd_InvalidCurve_init ct_InvalidCurve_init), sl_InvalidCurve_init⟩)
    (c_InvalidCurve_init : PySem.W.codeIn K cd_InvalidCurve_init "InvalidCurve.__init__" = true)
    (k_InvalidCurve_init : PySem.W.keepIn K (.ref f_InvalidCurve_init) = true)
    (tI_InvalidCurve : PySem.W.typeIn K (.ref f_InvalidCurve_init) = some (.type "function"))
    (a_is_integer : PySem.W.nsIn K mainGlobals "is_integer" = some (some (.ref f_is_integer)))
    (l_is_integer : K.lookup f_is_integer = some ⟨oc_is_integer, od_is_integer, .func (PySem.W.fnOf "is_integer" "is_integer" (defArgs s_is_integer) (defBody s_is_integer) (defScope s_is_integer) .none kV_is_integer dc_is_integer pm_is_integer an_is_integer cd_is_integer ct_is_integer), sl_is_integer⟩)
    (c_is_integer : PySem.W.codeIn K cd_is_integer "is_integer" = true)
    (k_is_integer : PySem.W.keepIn K (.ref f_is_integer) = true)
    (a_is_count : PySem.W.nsIn K mainGlobals "is_count" = some (some (.ref f_is_count)))
    (l_is_count : K.lookup f_is_count = some ⟨oc_is_count, od_is_count, .func (PySem.W.fnOf "is_count" "is_count" (defArgs s_is_count) (defBody s_is_count) (defScope s_is_count) .none kV_is_count dc_is_count pm_is_count an_is_count cd_is_count ct_is_count), sl_is_count⟩)
    (c_is_count : PySem.W.codeIn K cd_is_count "is_count" = true)
    (k_is_count : PySem.W.keepIn K (.ref f_is_count) = true)
    (a_is_count_to : PySem.W.nsIn K mainGlobals "is_count_to" = some (some (.ref f_is_count_to)))
    (l_is_count_to : K.lookup f_is_count_to = some ⟨oc_is_count_to, od_is_count_to, .func (PySem.W.fnOf "is_count_to" "is_count_to" (defArgs s_is_count_to) (defBody s_is_count_to) (defScope s_is_count_to) .none kV_is_count_to dc_is_count_to pm_is_count_to an_is_count_to cd_is_count_to ct_is_count_to), sl_is_count_to⟩)
    (c_is_count_to : PySem.W.codeIn K cd_is_count_to "is_count_to" = true)
    (k_is_count_to : PySem.W.keepIn K (.ref f_is_count_to) = true)
    (a_rounded_up : PySem.W.nsIn K mainGlobals "rounded_up" = some (some (.ref f_rounded_up)))
    (l_rounded_up : K.lookup f_rounded_up = some ⟨oc_rounded_up, od_rounded_up, .func (PySem.W.fnOf "rounded_up" "rounded_up" (defArgs s_rounded_up) (defBody s_rounded_up) (defScope s_rounded_up) .none kV_rounded_up dc_rounded_up pm_rounded_up an_rounded_up cd_rounded_up ct_rounded_up), sl_rounded_up⟩)
    (c_rounded_up : PySem.W.codeIn K cd_rounded_up "rounded_up" = true)
    (k_rounded_up : PySem.W.keepIn K (.ref f_rounded_up) = true)
    (a_value_at : PySem.W.nsIn K mainGlobals "value_at" = some (some (.ref f_value_at)))
    (l_value_at : K.lookup f_value_at = some ⟨oc_value_at, od_value_at, .func (PySem.W.fnOf "value_at" "value_at" (defArgs s_value_at) (defBody s_value_at) (defScope s_value_at) .none kV_value_at dc_value_at pm_value_at an_value_at cd_value_at ct_value_at), sl_value_at⟩)
    (c_value_at : PySem.W.codeIn K cd_value_at "value_at" = true)
    (k_value_at : PySem.W.keepIn K (.ref f_value_at) = true)
    (a_least_form : PySem.W.nsIn K mainGlobals "least_form" = some (some (.ref f_least_form)))
    (l_least_form : K.lookup f_least_form = some ⟨oc_least_form, od_least_form, .func (PySem.W.fnOf "least_form" "least_form" (defArgs s_least_form) (defBody s_least_form) (defScope s_least_form) .none kV_least_form dc_least_form pm_least_form an_least_form cd_least_form ct_least_form), sl_least_form⟩)
    (c_least_form : PySem.W.codeIn K cd_least_form "least_form" = true)
    (k_least_form : PySem.W.keepIn K (.ref f_least_form) = true)
    (a_least_period : PySem.W.nsIn K mainGlobals "least_period" = some (some (.ref f_least_period)))
    (l_least_period : K.lookup f_least_period = some ⟨oc_least_period, od_least_period, .func (PySem.W.fnOf "least_period" "least_period" (defArgs s_least_period) (defBody s_least_period) (defScope s_least_period) .none kV_least_period dc_least_period pm_least_period an_least_period cd_least_period ct_least_period), sl_least_period⟩)
    (c_least_period : PySem.W.codeIn K cd_least_period "least_period" = true)
    (k_least_period : PySem.W.keepIn K (.ref f_least_period) = true)
    (a_C_init : PySem.W.findIn K (.ref C_Curve) "__init__" = some (some (.ref f_C_init)))
    (i_C_init : PySem.W.isFn K (.ref f_C_init) = true)
    (l_C_init : K.lookup f_C_init = some ⟨oc_C_init, od_C_init, .func (PySem.W.fnOf "__init__" "Curve.__init__" (defArgs s_C_init) (defBody s_C_init) (defScope s_C_init) .none (.ref D_C_init) dc_C_init pm_C_init an_C_init cd_C_init ct_C_init), sl_C_init⟩)
    (c_C_init : PySem.W.codeIn K cd_C_init "Curve.__init__" = true)
    (k_C_init : PySem.W.keepIn K (.ref f_C_init) = true)
    (d_C_init_period : PySem.W.nsIn K D_C_init "period" = some (some (.int 1 t_C_init_period)))
    (d_C_init_gain : PySem.W.nsIn K D_C_init "gain" = some (some (.int 0 t_C_init_gain)))
    (a_find_problem : PySem.W.nsIn K mainGlobals "find_problem" = some (some (.ref f_find_problem)))
    (l_find_problem : K.lookup f_find_problem = some ⟨oc_find_problem, od_find_problem, .func (PySem.W.fnOf "find_problem" "find_problem" (defArgs s_find_problem) (defBody s_find_problem) (defScope s_find_problem) .none kV_find_problem dc_find_problem pm_find_problem an_find_problem cd_find_problem ct_find_problem), sl_find_problem⟩)
    (c_find_problem : PySem.W.codeIn K cd_find_problem "find_problem" = true)
    (k_find_problem : PySem.W.keepIn K (.ref f_find_problem) = true)
    (a_l_rng : PySem.W.nsIn K mainGlobals "_law_rng" = some (some (.ref f_l_rng)))
    (l_l_rng : K.lookup f_l_rng = some ⟨oc_l_rng, od_l_rng, .func (PySem.W.fnOf "_law_rng" "_law_rng" (defArgs s_l_rng) (defBody s_l_rng) (defScope s_l_rng) .none kV_l_rng dc_l_rng pm_l_rng an_l_rng cd_l_rng ct_l_rng), sl_l_rng⟩)
    (c_l_rng : PySem.W.codeIn K cd_l_rng "_law_rng" = true)
    (k_l_rng : PySem.W.keepIn K (.ref f_l_rng) = true)
    (a_l_draw : PySem.W.nsIn K mainGlobals "_law_draw" = some (some (.ref f_l_draw)))
    (l_l_draw : K.lookup f_l_draw = some ⟨oc_l_draw, od_l_draw, .func (PySem.W.fnOf "_law_draw" "_law_draw" (defArgs s_l_draw) (defBody s_l_draw) (defScope s_l_draw) .none kV_l_draw dc_l_draw pm_l_draw an_l_draw cd_l_draw ct_l_draw), sl_l_draw⟩)
    (c_l_draw : PySem.W.codeIn K cd_l_draw "_law_draw" = true)
    (k_l_draw : PySem.W.keepIn K (.ref f_l_draw) = true)
    (a_l_choice : PySem.W.nsIn K mainGlobals "_law_choice" = some (some (.ref f_l_choice)))
    (l_l_choice : K.lookup f_l_choice = some ⟨oc_l_choice, od_l_choice, .func (PySem.W.fnOf "_law_choice" "_law_choice" (defArgs s_l_choice) (defBody s_l_choice) (defScope s_l_choice) .none kV_l_choice dc_l_choice pm_l_choice an_l_choice cd_l_choice ct_l_choice), sl_l_choice⟩)
    (c_l_choice : PySem.W.codeIn K cd_l_choice "_law_choice" = true)
    (k_l_choice : PySem.W.keepIn K (.ref f_l_choice) = true)
    (a_l_written : PySem.W.nsIn K mainGlobals "_law_written" = some (some (.ref f_l_written)))
    (l_l_written : K.lookup f_l_written = some ⟨oc_l_written, od_l_written, .func (PySem.W.fnOf "_law_written" "_law_written" (defArgs s_l_written) (defBody s_l_written) (defScope s_l_written) .none kV_l_written dc_l_written pm_l_written an_l_written cd_l_written ct_l_written), sl_l_written⟩)
    (c_l_written : PySem.W.codeIn K cd_l_written "_law_written" = true)
    (k_l_written : PySem.W.keepIn K (.ref f_l_written) = true)
    (a_l_odd_value : PySem.W.nsIn K mainGlobals "_law_odd_value" = some (some (.ref f_l_odd_value)))
    (l_l_odd_value : K.lookup f_l_odd_value = some ⟨oc_l_odd_value, od_l_odd_value, .func (PySem.W.fnOf "_law_odd_value" "_law_odd_value" (defArgs s_l_odd_value) (defBody s_l_odd_value) (defScope s_l_odd_value) .none kV_l_odd_value dc_l_odd_value pm_l_odd_value an_l_odd_value cd_l_odd_value ct_l_odd_value), sl_l_odd_value⟩)
    (c_l_odd_value : PySem.W.codeIn K cd_l_odd_value "_law_odd_value" = true)
    (k_l_odd_value : PySem.W.keepIn K (.ref f_l_odd_value) = true)
    (a_l_spoilt : PySem.W.nsIn K mainGlobals "_law_spoilt" = some (some (.ref f_l_spoilt)))
    (l_l_spoilt : K.lookup f_l_spoilt = some ⟨oc_l_spoilt, od_l_spoilt, .func (PySem.W.fnOf "_law_spoilt" "_law_spoilt" (defArgs s_l_spoilt) (defBody s_l_spoilt) (defScope s_l_spoilt) .none kV_l_spoilt dc_l_spoilt pm_l_spoilt an_l_spoilt cd_l_spoilt ct_l_spoilt), sl_l_spoilt⟩)
    (c_l_spoilt : PySem.W.codeIn K cd_l_spoilt "_law_spoilt" = true)
    (k_l_spoilt : PySem.W.keepIn K (.ref f_l_spoilt) = true)
    (a_l_is_count : PySem.W.nsIn K mainGlobals "_law_is_count" = some (some (.ref f_l_is_count)))
    (l_l_is_count : K.lookup f_l_is_count = some ⟨oc_l_is_count, od_l_is_count, .func (PySem.W.fnOf "_law_is_count" "_law_is_count" (defArgs s_l_is_count) (defBody s_l_is_count) (defScope s_l_is_count) .none kV_l_is_count dc_l_is_count pm_l_is_count an_l_is_count cd_l_is_count ct_l_is_count), sl_l_is_count⟩)
    (c_l_is_count : PySem.W.codeIn K cd_l_is_count "_law_is_count" = true)
    (k_l_is_count : PySem.W.keepIn K (.ref f_l_is_count) = true)
    (a_l_due : PySem.W.nsIn K mainGlobals "_law_due" = some (some (.ref f_l_due)))
    (l_l_due : K.lookup f_l_due = some ⟨oc_l_due, od_l_due, .func (PySem.W.fnOf "_law_due" "_law_due" (defArgs s_l_due) (defBody s_l_due) (defScope s_l_due) .none kV_l_due dc_l_due pm_l_due an_l_due cd_l_due ct_l_due), sl_l_due⟩)
    (c_l_due : PySem.W.codeIn K cd_l_due "_law_due" = true)
    (k_l_due : PySem.W.keepIn K (.ref f_l_due) = true)
    (a_l_told : PySem.W.nsIn K mainGlobals "_law_told" = some (some (.ref f_l_told)))
    (l_l_told : K.lookup f_l_told = some ⟨oc_l_told, od_l_told, .func (PySem.W.fnOf "_law_told" "_law_told" (defArgs s_l_told) (defBody s_l_told) (defScope s_l_told) .none kV_l_told dc_l_told pm_l_told an_l_told cd_l_told ct_l_told), sl_l_told⟩)
    (c_l_told : PySem.W.codeIn K cd_l_told "_law_told" = true)
    (k_l_told : PySem.W.keepIn K (.ref f_l_told) = true)
    (a_l_right : PySem.W.nsIn K mainGlobals "_law_right" = some (some (.ref f_l_right)))
    (l_l_right : K.lookup f_l_right = some ⟨oc_l_right, od_l_right, .func (PySem.W.fnOf "_law_right" "_law_right" (defArgs s_l_right) (defBody s_l_right) (defScope s_l_right) .none kV_l_right dc_l_right pm_l_right an_l_right cd_l_right ct_l_right), sl_l_right⟩)
    (c_l_right : PySem.W.codeIn K cd_l_right "_law_right" = true)
    (k_l_right : PySem.W.keepIn K (.ref f_l_right) = true)
    (a_law : PySem.W.nsIn K mainGlobals "law" = some (some (.ref f_law)))
    (l_law : K.lookup f_law = some ⟨oc_law, od_law, .func (PySem.W.fnOf "law" "law" (defArgs s_law) (defBody s_law) (defScope s_law) .none kV_law dc_law pm_law an_law cd_law ct_law), sl_law⟩)
    (c_law : PySem.W.codeIn K cd_law "law" = true)
    (k_law : PySem.W.keepIn K (.ref f_law) = true)
    (v_MAX_VALUE : PySem.W.nsIn K mainGlobals "MAX_VALUE" = some (some (.int 2000 t_MAX_VALUE)))
    (v_MAX_VALUES : PySem.W.nsIn K mainGlobals "MAX_VALUES" = some (some (.int 24 t_MAX_VALUES)))
    (v_PERIODS : PySem.W.nsIn K mainGlobals "PERIODS" = some (some (.ref a_PERIODS)))
    (l_PERIODS : K.lookup a_PERIODS = some ⟨.type "tuple", od_PERIODS, .seq #[.int 1 uPERIODS0, .int 2 uPERIODS1, .int 3 uPERIODS2, .int 4 uPERIODS3, .int 6 uPERIODS4, .int 12 uPERIODS5] n_PERIODS, sl_PERIODS⟩)
    (z_ValueError : PySem.W.nsIn K mainGlobals "ValueError" = some none)
    (z_abs : PySem.W.nsIn K mainGlobals "abs" = some none)
    (z_all : PySem.W.nsIn K mainGlobals "all" = some none)
    (z_bool : PySem.W.nsIn K mainGlobals "bool" = some none)
    (z_dict : PySem.W.nsIn K mainGlobals "dict" = some none)
    (z_divmod : PySem.W.nsIn K mainGlobals "divmod" = some none)
    (z_enumerate : PySem.W.nsIn K mainGlobals "enumerate" = some none)
    (z_int : PySem.W.nsIn K mainGlobals "int" = some none)
    (z_isinstance : PySem.W.nsIn K mainGlobals "isinstance" = some none)
    (z_len : PySem.W.nsIn K mainGlobals "len" = some none)
    (z_list : PySem.W.nsIn K mainGlobals "list" = some none)
    (z_max : PySem.W.nsIn K mainGlobals "max" = some none)
    (z_min : PySem.W.nsIn K mainGlobals "min" = some none)
    (z_range : PySem.W.nsIn K mainGlobals "range" = some none)
    (z_repr : PySem.W.nsIn K mainGlobals "repr" = some none)
    (z_tuple : PySem.W.nsIn K mainGlobals "tuple" = some none)
    : ∃ fd : FuncData, (∀ (s : Shared) (v : Value), BindsTo s fd ⟨[v], []⟩ [("_law_script", v)]) ∧ ∀ base : Heap, K.In base → base.Ns mainGlobals mg → VG.FnG l.prog w K mg base CX0 11 fa fd ["_law_script"] (spL K) := by
  have e := hfa.symm.trans (PySem.W.mg_of X G a_law)
  cases e
  let A : Ad := {
    DueError := C_DueError,
    InvalidCount := C_InvalidCount,
    InvalidLength := C_InvalidLength,
    InvalidPiece := C_InvalidPiece,
    InvalidRecord := C_InvalidRecord,
    NotGood := C_NotGood,
    TooLong := C_TooLong,
    InvalidCurve := C_InvalidCurve,
    Curve := C_Curve,
    f_InvalidCurve_init := f_InvalidCurve_init,
    d_InvalidCurve_init := PySem.W.fnOf "__init__" "InvalidCurve.__init__" (defArgs s_InvalidCurve_init) (defBody s_InvalidCurve_init) (defScope s_InvalidCurve_init) .none kV_InvalidCurve_init dc_InvalidCurve_init pm_InvalidCurve_init an_InvalidCurve_init cd_InvalidCurve_init ct_InvalidCurve_init,
    f_is_integer := f_is_integer,
    d_is_integer := PySem.W.fnOf "is_integer" "is_integer" (defArgs s_is_integer) (defBody s_is_integer) (defScope s_is_integer) .none kV_is_integer dc_is_integer pm_is_integer an_is_integer cd_is_integer ct_is_integer,
    f_is_count := f_is_count,
    d_is_count := PySem.W.fnOf "is_count" "is_count" (defArgs s_is_count) (defBody s_is_count) (defScope s_is_count) .none kV_is_count dc_is_count pm_is_count an_is_count cd_is_count ct_is_count,
    f_is_count_to := f_is_count_to,
    d_is_count_to := PySem.W.fnOf "is_count_to" "is_count_to" (defArgs s_is_count_to) (defBody s_is_count_to) (defScope s_is_count_to) .none kV_is_count_to dc_is_count_to pm_is_count_to an_is_count_to cd_is_count_to ct_is_count_to,
    f_rounded_up := f_rounded_up,
    d_rounded_up := PySem.W.fnOf "rounded_up" "rounded_up" (defArgs s_rounded_up) (defBody s_rounded_up) (defScope s_rounded_up) .none kV_rounded_up dc_rounded_up pm_rounded_up an_rounded_up cd_rounded_up ct_rounded_up,
    f_value_at := f_value_at,
    d_value_at := PySem.W.fnOf "value_at" "value_at" (defArgs s_value_at) (defBody s_value_at) (defScope s_value_at) .none kV_value_at dc_value_at pm_value_at an_value_at cd_value_at ct_value_at,
    f_least_form := f_least_form,
    d_least_form := PySem.W.fnOf "least_form" "least_form" (defArgs s_least_form) (defBody s_least_form) (defScope s_least_form) .none kV_least_form dc_least_form pm_least_form an_least_form cd_least_form ct_least_form,
    f_least_period := f_least_period,
    d_least_period := PySem.W.fnOf "least_period" "least_period" (defArgs s_least_period) (defBody s_least_period) (defScope s_least_period) .none kV_least_period dc_least_period pm_least_period an_least_period cd_least_period ct_least_period,
    f_C_init := f_C_init,
    d_C_init := PySem.W.fnOf "__init__" "Curve.__init__" (defArgs s_C_init) (defBody s_C_init) (defScope s_C_init) .none (.ref D_C_init) dc_C_init pm_C_init an_C_init cd_C_init ct_C_init,
    f_find_problem := f_find_problem,
    d_find_problem := PySem.W.fnOf "find_problem" "find_problem" (defArgs s_find_problem) (defBody s_find_problem) (defScope s_find_problem) .none kV_find_problem dc_find_problem pm_find_problem an_find_problem cd_find_problem ct_find_problem,
    f_l_rng := f_l_rng,
    d_l_rng := PySem.W.fnOf "_law_rng" "_law_rng" (defArgs s_l_rng) (defBody s_l_rng) (defScope s_l_rng) .none kV_l_rng dc_l_rng pm_l_rng an_l_rng cd_l_rng ct_l_rng,
    f_l_draw := f_l_draw,
    d_l_draw := PySem.W.fnOf "_law_draw" "_law_draw" (defArgs s_l_draw) (defBody s_l_draw) (defScope s_l_draw) .none kV_l_draw dc_l_draw pm_l_draw an_l_draw cd_l_draw ct_l_draw,
    f_l_choice := f_l_choice,
    d_l_choice := PySem.W.fnOf "_law_choice" "_law_choice" (defArgs s_l_choice) (defBody s_l_choice) (defScope s_l_choice) .none kV_l_choice dc_l_choice pm_l_choice an_l_choice cd_l_choice ct_l_choice,
    f_l_written := f_l_written,
    d_l_written := PySem.W.fnOf "_law_written" "_law_written" (defArgs s_l_written) (defBody s_l_written) (defScope s_l_written) .none kV_l_written dc_l_written pm_l_written an_l_written cd_l_written ct_l_written,
    f_l_odd_value := f_l_odd_value,
    d_l_odd_value := PySem.W.fnOf "_law_odd_value" "_law_odd_value" (defArgs s_l_odd_value) (defBody s_l_odd_value) (defScope s_l_odd_value) .none kV_l_odd_value dc_l_odd_value pm_l_odd_value an_l_odd_value cd_l_odd_value ct_l_odd_value,
    f_l_spoilt := f_l_spoilt,
    d_l_spoilt := PySem.W.fnOf "_law_spoilt" "_law_spoilt" (defArgs s_l_spoilt) (defBody s_l_spoilt) (defScope s_l_spoilt) .none kV_l_spoilt dc_l_spoilt pm_l_spoilt an_l_spoilt cd_l_spoilt ct_l_spoilt,
    f_l_is_count := f_l_is_count,
    d_l_is_count := PySem.W.fnOf "_law_is_count" "_law_is_count" (defArgs s_l_is_count) (defBody s_l_is_count) (defScope s_l_is_count) .none kV_l_is_count dc_l_is_count pm_l_is_count an_l_is_count cd_l_is_count ct_l_is_count,
    f_l_due := f_l_due,
    d_l_due := PySem.W.fnOf "_law_due" "_law_due" (defArgs s_l_due) (defBody s_l_due) (defScope s_l_due) .none kV_l_due dc_l_due pm_l_due an_l_due cd_l_due ct_l_due,
    f_l_told := f_l_told,
    d_l_told := PySem.W.fnOf "_law_told" "_law_told" (defArgs s_l_told) (defBody s_l_told) (defScope s_l_told) .none kV_l_told dc_l_told pm_l_told an_l_told cd_l_told ct_l_told,
    f_l_right := f_l_right,
    d_l_right := PySem.W.fnOf "_law_right" "_law_right" (defArgs s_l_right) (defBody s_l_right) (defScope s_l_right) .none kV_l_right dc_l_right pm_l_right an_l_right cd_l_right ct_l_right,
    f_law := fa,
    d_law := PySem.W.fnOf "law" "law" (defArgs s_law) (defBody s_law) (defScope s_law) .none kV_law dc_law pm_law an_law cd_law ct_law,
    t_MAX_VALUE := t_MAX_VALUE,
    t_MAX_VALUES := t_MAX_VALUES,
    a_PERIODS := a_PERIODS }
  have T : Txt K mg A := {
    m_DueError := PySem.W.mg_of X G g_DueError,
    m_InvalidCount := PySem.W.mg_of X G g_InvalidCount,
    m_InvalidLength := PySem.W.mg_of X G g_InvalidLength,
    m_InvalidPiece := PySem.W.mg_of X G g_InvalidPiece,
    m_InvalidRecord := PySem.W.mg_of X G g_InvalidRecord,
    m_NotGood := PySem.W.mg_of X G g_NotGood,
    m_TooLong := PySem.W.mg_of X G g_TooLong,
    m_InvalidCurve := PySem.W.mg_of X G g_InvalidCurve,
    O_InvalidCurve := ⟨⟨_, _, _, _, VX.bsV, xi_InvalidCurve, xo_InvalidCurve⟩, hd_InvalidCurve, sa_InvalidCurve, xe_InvalidCurve, ty_InvalidCurve, kc_InvalidCurve⟩,
    xf_InvalidCurve := ⟨ga_InvalidCurve, gt_InvalidCurve, xe_InvalidCurve, hd_InvalidCurve⟩,
    as_InvalidCurve := ⟨VX.isC hd_InvalidCurve, ga_InvalidCurve, gt_InvalidCurve, xe_InvalidCurve, cc_InvalidCurve, q_gn, q_tk, mr_InvalidCurve⟩,
    ex_InvalidCurve := PySem.W.exm_ref xe_InvalidCurve hd_InvalidCurve ty_InvalidCurve xm_InvalidCurve,
    n_InvalidCurve_problem := n_InvalidCurve_problem,
    n_InvalidCurve_position := n_InvalidCurve_position,
    kt_InvalidCurve_DueError := kt_InvalidCurve_DueError,
    kt_InvalidCurve_ValueError := kt_InvalidCurve_ValueError,
    kt_InvalidCurve_InvalidCount_InvalidLength_InvalidPiece_InvalidRecord_NotGood_TooLong := kt_InvalidCurve_InvalidCount_InvalidLength_InvalidPiece_InvalidRecord_NotGood_TooLong,
    m_Curve := PySem.W.mg_of X G g_Curve,
    cl := ⟨pg_Curve, hd_Curve, po_Curve, sa_Curve⟩,
    M_Curve := ⟨mk_Curve, a_C_init, i_C_init, kc_Curve⟩,
    n_values := n_Curve_values,
    n_period := n_Curve_period,
    n_gain := n_Curve_gain,
    n_was_searched := n_Curve_was_searched,
    n_break := n_Curve_break,
    F_InvalidCurve_init := fun_mk (st := s_InvalidCurve_init) l_InvalidCurve_init c_InvalidCurve_init k_InvalidCurve_init,
    b_InvalidCurve_init := ((fun_mk (st := s_InvalidCurve_init) l_InvalidCurve_init c_InvalidCurve_init k_InvalidCurve_init).binds (ps := ["self", "problem", "position"]) fun _ _ _ _ _ _ us hl => match us, hl with | [_, _, _], _ => rfl),
    iC_InvalidCurve := a_InvalidCurve_init,
    tI_InvalidCurve := tI_InvalidCurve,
    F_is_integer := fun_mk (st := s_is_integer) l_is_integer c_is_integer k_is_integer,
    m_is_integer := PySem.W.mg_of X G a_is_integer,
    k_is_integer := k_is_integer,
    b_is_integer := ((fun_mk (st := s_is_integer) l_is_integer c_is_integer k_is_integer).binds (ps := ["value"]) fun _ _ _ _ _ _ us hl => match us, hl with | [_], _ => rfl),
    F_is_count := fun_mk (st := s_is_count) l_is_count c_is_count k_is_count,
    m_is_count := PySem.W.mg_of X G a_is_count,
    k_is_count := k_is_count,
    b_is_count := ((fun_mk (st := s_is_count) l_is_count c_is_count k_is_count).binds (ps := ["value"]) fun _ _ _ _ _ _ us hl => match us, hl with | [_], _ => rfl),
    F_is_count_to := fun_mk (st := s_is_count_to) l_is_count_to c_is_count_to k_is_count_to,
    m_is_count_to := PySem.W.mg_of X G a_is_count_to,
    k_is_count_to := k_is_count_to,
    b_is_count_to := ((fun_mk (st := s_is_count_to) l_is_count_to c_is_count_to k_is_count_to).binds (ps := ["value", "most"]) fun _ _ _ _ _ _ us hl => match us, hl with | [_, _], _ => rfl),
    F_rounded_up := fun_mk (st := s_rounded_up) l_rounded_up c_rounded_up k_rounded_up,
    m_rounded_up := PySem.W.mg_of X G a_rounded_up,
    k_rounded_up := k_rounded_up,
    b_rounded_up := ((fun_mk (st := s_rounded_up) l_rounded_up c_rounded_up k_rounded_up).binds (ps := ["units", "parts"]) fun _ _ _ _ _ _ us hl => match us, hl with | [_, _], _ => rfl),
    F_value_at := fun_mk (st := s_value_at) l_value_at c_value_at k_value_at,
    m_value_at := PySem.W.mg_of X G a_value_at,
    k_value_at := k_value_at,
    b_value_at := ((fun_mk (st := s_value_at) l_value_at c_value_at k_value_at).binds (ps := ["values", "period", "gain", "length"]) fun _ _ _ _ _ _ us hl => match us, hl with | [_, _, _, _], _ => rfl),
    F_least_form := fun_mk (st := s_least_form) l_least_form c_least_form k_least_form,
    m_least_form := PySem.W.mg_of X G a_least_form,
    k_least_form := k_least_form,
    b_least_form := ((fun_mk (st := s_least_form) l_least_form c_least_form k_least_form).binds (ps := ["values", "period", "gain"]) fun _ _ _ _ _ _ us hl => match us, hl with | [_, _, _], _ => rfl),
    F_least_period := fun_mk (st := s_least_period) l_least_period c_least_period k_least_period,
    m_least_period := PySem.W.mg_of X G a_least_period,
    k_least_period := k_least_period,
    b_least_period := ((fun_mk (st := s_least_period) l_least_period c_least_period k_least_period).binds (ps := ["row", "many", "period"]) fun _ _ _ _ _ _ us hl => match us, hl with | [_, _, _], _ => rfl),
    F_C_init := ⟨⟨_, _, _, _, _, _, _, _, _, _, rfl, l_C_init, c_C_init, .inl ⟨rfl, rfl⟩, .inr ⟨D_C_init, rfl, by
      intro q hq
      simp only [List.mem_cons, List.not_mem_nil, or_false] at hq
      rcases hq with rfl | rfl
      · exact ⟨_, d_C_init_period, ⟨_, rfl⟩⟩
      · exact ⟨_, d_C_init_gain, ⟨_, rfl⟩⟩⟩⟩, k_C_init⟩,
    F_find_problem := fun_mk (st := s_find_problem) l_find_problem c_find_problem k_find_problem,
    m_find_problem := PySem.W.mg_of X G a_find_problem,
    k_find_problem := k_find_problem,
    b_find_problem := ((fun_mk (st := s_find_problem) l_find_problem c_find_problem k_find_problem).binds (ps := ["values", "period", "gain"]) fun _ _ _ _ _ _ us hl => match us, hl with | [_, _, _], _ => rfl),
    F_l_rng := fun_mk (st := s_l_rng) l_l_rng c_l_rng k_l_rng,
    m_l_rng := PySem.W.mg_of X G a_l_rng,
    k_l_rng := k_l_rng,
    b_l_rng := ((fun_mk (st := s_l_rng) l_l_rng c_l_rng k_l_rng).binds (ps := ["_law_script", "_law_k"]) fun _ _ _ _ _ _ us hl => match us, hl with | [_, _], _ => rfl),
    F_l_draw := fun_mk (st := s_l_draw) l_l_draw c_l_draw k_l_draw,
    m_l_draw := PySem.W.mg_of X G a_l_draw,
    k_l_draw := k_l_draw,
    b_l_draw := ((fun_mk (st := s_l_draw) l_l_draw c_l_draw k_l_draw).binds (ps := ["_law_rng_here", "_law_many"]) fun _ _ _ _ _ _ us hl => match us, hl with | [_, _], _ => rfl),
    F_l_choice := fun_mk (st := s_l_choice) l_l_choice c_l_choice k_l_choice,
    m_l_choice := PySem.W.mg_of X G a_l_choice,
    k_l_choice := k_l_choice,
    b_l_choice := ((fun_mk (st := s_l_choice) l_l_choice c_l_choice k_l_choice).binds (ps := ["_law_rng_here", "_law_some"]) fun _ _ _ _ _ _ us hl => match us, hl with | [_, _], _ => rfl),
    F_l_written := fun_mk (st := s_l_written) l_l_written c_l_written k_l_written,
    m_l_written := PySem.W.mg_of X G a_l_written,
    k_l_written := k_l_written,
    b_l_written := ((fun_mk (st := s_l_written) l_l_written c_l_written k_l_written).binds (ps := ["_law_rng_here"]) fun _ _ _ _ _ _ us hl => match us, hl with | [_], _ => rfl),
    F_l_odd_value := fun_mk (st := s_l_odd_value) l_l_odd_value c_l_odd_value k_l_odd_value,
    m_l_odd_value := PySem.W.mg_of X G a_l_odd_value,
    k_l_odd_value := k_l_odd_value,
    b_l_odd_value := ((fun_mk (st := s_l_odd_value) l_l_odd_value c_l_odd_value k_l_odd_value).binds (ps := ["_law_rng_here", "_law_before"]) fun _ _ _ _ _ _ us hl => match us, hl with | [_, _], _ => rfl),
    F_l_spoilt := fun_mk (st := s_l_spoilt) l_l_spoilt c_l_spoilt k_l_spoilt,
    m_l_spoilt := PySem.W.mg_of X G a_l_spoilt,
    k_l_spoilt := k_l_spoilt,
    b_l_spoilt := ((fun_mk (st := s_l_spoilt) l_l_spoilt c_l_spoilt k_l_spoilt).binds (ps := ["_law_rng_here", "_law_row"]) fun _ _ _ _ _ _ us hl => match us, hl with | [_, _], _ => rfl),
    F_l_is_count := fun_mk (st := s_l_is_count) l_l_is_count c_l_is_count k_l_is_count,
    m_l_is_count := PySem.W.mg_of X G a_l_is_count,
    k_l_is_count := k_l_is_count,
    b_l_is_count := ((fun_mk (st := s_l_is_count) l_l_is_count c_l_is_count k_l_is_count).binds (ps := ["_law_thing"]) fun _ _ _ _ _ _ us hl => match us, hl with | [_], _ => rfl),
    F_l_due := fun_mk (st := s_l_due) l_l_due c_l_due k_l_due,
    m_l_due := PySem.W.mg_of X G a_l_due,
    k_l_due := k_l_due,
    b_l_due := ((fun_mk (st := s_l_due) l_l_due c_l_due k_l_due).binds (ps := ["_law_row"]) fun _ _ _ _ _ _ us hl => match us, hl with | [_], _ => rfl),
    F_l_told := fun_mk (st := s_l_told) l_l_told c_l_told k_l_told,
    m_l_told := PySem.W.mg_of X G a_l_told,
    k_l_told := k_l_told,
    b_l_told := ((fun_mk (st := s_l_told) l_l_told c_l_told k_l_told).binds (ps := ["_law_row"]) fun _ _ _ _ _ _ us hl => match us, hl with | [_], _ => rfl),
    F_l_right := fun_mk (st := s_l_right) l_l_right c_l_right k_l_right,
    m_l_right := PySem.W.mg_of X G a_l_right,
    k_l_right := k_l_right,
    b_l_right := ((fun_mk (st := s_l_right) l_l_right c_l_right k_l_right).binds (ps := ["_law_rng_here"]) fun _ _ _ _ _ _ us hl => match us, hl with | [_], _ => rfl),
    F_law := fun_mk (st := s_law) l_law c_law k_law,
    m_law := PySem.W.mg_of X G a_law,
    k_law := k_law,
    b_law := ((fun_mk (st := s_law) l_law c_law k_law).binds (ps := ["_law_script"]) fun _ _ _ _ _ _ us hl => match us, hl with | [_], _ => rfl),
    v_MAX_VALUE := PySem.W.mg_of X G v_MAX_VALUE,
    v_MAX_VALUES := PySem.W.mg_of X G v_MAX_VALUES,
    v_PERIODS := PySem.W.mg_of X G v_PERIODS,
    periods := fun H => .inr ⟨_, _, _, l_PERIODS, rfl, rfl, (by rw [sizeLine_eq]; show 6 ≤ _; decide), (.cons ⟨_, rfl⟩ (.cons ⟨_, rfl⟩ (.cons ⟨_, rfl⟩ (.cons ⟨_, rfl⟩ (.cons ⟨_, rfl⟩ (.cons ⟨_, rfl⟩ .nil))))))⟩,
    ValueError := PySem.W.mg_none_of X G z_ValueError,
    abs := PySem.W.mg_none_of X G z_abs,
    all := PySem.W.mg_none_of X G z_all,
    bool := PySem.W.mg_none_of X G z_bool,
    dict := PySem.W.mg_none_of X G z_dict,
    divmod := PySem.W.mg_none_of X G z_divmod,
    enumerate := PySem.W.mg_none_of X G z_enumerate,
    int := PySem.W.mg_none_of X G z_int,
    isinstance := PySem.W.mg_none_of X G z_isinstance,
    len := PySem.W.mg_none_of X G z_len,
    list := PySem.W.mg_none_of X G z_list,
    max := PySem.W.mg_none_of X G z_max,
    min := PySem.W.mg_none_of X G z_min,
    range := PySem.W.mg_none_of X G z_range,
    repr := PySem.W.mg_none_of X G z_repr,
    tuple := PySem.W.mg_none_of X G z_tuple }
  exact ⟨_, fun s v => .of_eq rfl, fun base _ _ => ok_law (P := l.prog) (w := w) (base := base) T⟩
end VK

open PySem PySem.W PyProof.Rows in
set_option maxRecDepth 100000 in
set_option maxHeartbeats 0 in
theorem PySem.Challenge.cw_dueways_k12_invalid_curves_in_sequence_holds : PySem.Challenge.rw_dueways_k12_invalid_curves_in_sequence.Holds := by
  w_on; o_law; k_head; (case hw => w_witness2)
  k_fill
  refine VG.walkG (n := 63) (k := 11) (x := "_law_script") (CX := fun _ => L2.CX0) (sp := fun w => VK.spL _) rfl (by decide) rfl ⟨rfl, by decide, by decide⟩ (fun w h Y => PySem.W.kIn_of Y) ?F (fun _ _ a ns hl _ hS => ⟨a, ns, rfl, hS, hl, fun _ => rfl⟩) fun _ _ _ _ _ z => z
  case F =>
    intro w mg fa h KX G hmg
    refine' VK.all_mk KX G hmg ?g_DueError ?g_InvalidCount ?g_InvalidLength ?g_InvalidPiece ?g_InvalidRecord ?g_NotGood ?g_TooLong ?g_InvalidCurve ?xi_InvalidCurve ?xo_InvalidCurve ?hd_InvalidCurve ?sa_InvalidCurve ?xe_InvalidCurve ?ty_InvalidCurve ?kc_InvalidCurve ?ga_InvalidCurve ?gt_InvalidCurve ?cc_InvalidCurve ?mr_InvalidCurve ?xm_InvalidCurve ?n_InvalidCurve_problem ?n_InvalidCurve_position ?q_gn ?q_tk ?kt_InvalidCurve_DueError ?kt_InvalidCurve_ValueError ?kt_InvalidCurve_InvalidCount_InvalidLength_InvalidPiece_InvalidRecord_NotGood_TooLong ?g_Curve ?pg_Curve ?hd_Curve ?po_Curve ?sa_Curve ?mk_Curve ?kc_Curve ?n_Curve_values ?n_Curve_period ?n_Curve_gain ?n_Curve_was_searched ?n_Curve_break ?a_InvalidCurve_init ?i_InvalidCurve_init ?l_InvalidCurve_init ?c_InvalidCurve_init ?k_InvalidCurve_init ?tI_InvalidCurve ?a_is_integer ?l_is_integer ?c_is_integer ?k_is_integer ?a_is_count ?l_is_count ?c_is_count ?k_is_count ?a_is_count_to ?l_is_count_to ?c_is_count_to ?k_is_count_to ?a_rounded_up ?l_rounded_up ?c_rounded_up ?k_rounded_up ?a_value_at ?l_value_at ?c_value_at ?k_value_at ?a_least_form ?l_least_form ?c_least_form ?k_least_form ?a_least_period ?l_least_period ?c_least_period ?k_least_period ?a_C_init ?i_C_init ?l_C_init ?c_C_init ?k_C_init ?d_C_init_period ?d_C_init_gain ?a_find_problem ?l_find_problem ?c_find_problem ?k_find_problem ?a_l_rng ?l_l_rng ?c_l_rng ?k_l_rng ?a_l_draw ?l_l_draw ?c_l_draw ?k_l_draw ?a_l_choice ?l_l_choice ?c_l_choice ?k_l_choice ?a_l_written ?l_l_written ?c_l_written ?k_l_written ?a_l_odd_value ?l_l_odd_value ?c_l_odd_value ?k_l_odd_value ?a_l_spoilt ?l_l_spoilt ?c_l_spoilt ?k_l_spoilt ?a_l_is_count ?l_l_is_count ?c_l_is_count ?k_l_is_count ?a_l_due ?l_l_due ?c_l_due ?k_l_due ?a_l_told ?l_l_told ?c_l_told ?k_l_told ?a_l_right ?l_l_right ?c_l_right ?k_l_right ?a_law ?l_law ?c_law ?k_law ?v_MAX_VALUE ?v_MAX_VALUES ?v_PERIODS ?l_PERIODS ?z_ValueError ?z_abs ?z_all ?z_bool ?z_dict ?z_divmod ?z_enumerate ?z_int ?z_isinstance ?z_len ?z_list ?z_max ?z_min ?z_range ?z_repr ?z_tuple
    (case g_DueError => k_is)
    (case g_InvalidCount => k_is)
    (case g_InvalidLength => k_is)
    (case g_InvalidPiece => k_is)
    (case g_InvalidRecord => k_is)
    (case g_NotGood => k_is)
    (case g_TooLong => k_is)
    (case g_InvalidCurve => k_is)
    (case xi_InvalidCurve => kx_is)
    (case xo_InvalidCurve => kx_is)
    (case hd_InvalidCurve => k_is)
    (case sa_InvalidCurve => k_is)
    (case xe_InvalidCurve => k_is)
    (case ty_InvalidCurve => k_is)
    (case kc_InvalidCurve => k_is)
    (case ga_InvalidCurve => k_is)
    (case gt_InvalidCurve => k_is)
    (case cc_InvalidCurve => k_is)
    (case mr_InvalidCurve => k_is)
    (case xm_InvalidCurve => k_is)
    (case n_InvalidCurve_problem => k_is)
    (case n_InvalidCurve_position => k_is)
    (case q_gn => k_is)
    (case q_tk => k_is)
    (case kt_InvalidCurve_DueError => kit_is)
    (case kt_InvalidCurve_ValueError => kit_is)
    (case kt_InvalidCurve_InvalidCount_InvalidLength_InvalidPiece_InvalidRecord_NotGood_TooLong => kit_is)
    (case g_Curve => k_is)
    (case pg_Curve => k_is)
    (case hd_Curve => k_is)
    (case po_Curve => k_is)
    (case sa_Curve => k_is)
    (case mk_Curve => k_is)
    (case kc_Curve => k_is)
    (case n_Curve_values => k_is)
    (case n_Curve_period => k_is)
    (case n_Curve_gain => k_is)
    (case n_Curve_was_searched => k_is)
    (case n_Curve_break => k_is)
    (case a_InvalidCurve_init => k_is)
    (case i_InvalidCurve_init => k_is)
    (case l_InvalidCurve_init => k_is)
    (case c_InvalidCurve_init => k_is)
    (case k_InvalidCurve_init => k_is)
    (case tI_InvalidCurve => k_is)
    (case a_is_integer => k_is)
    (case l_is_integer => k_is)
    (case c_is_integer => k_is)
    (case k_is_integer => k_is)
    (case a_is_count => k_is)
    (case l_is_count => k_is)
    (case c_is_count => k_is)
    (case k_is_count => k_is)
    (case a_is_count_to => k_is)
    (case l_is_count_to => k_is)
    (case c_is_count_to => k_is)
    (case k_is_count_to => k_is)
    (case a_rounded_up => k_is)
    (case l_rounded_up => k_is)
    (case c_rounded_up => k_is)
    (case k_rounded_up => k_is)
    (case a_value_at => k_is)
    (case l_value_at => k_is)
    (case c_value_at => k_is)
    (case k_value_at => k_is)
    (case a_least_form => k_is)
    (case l_least_form => k_is)
    (case c_least_form => k_is)
    (case k_least_form => k_is)
    (case a_least_period => k_is)
    (case l_least_period => k_is)
    (case c_least_period => k_is)
    (case k_least_period => k_is)
    (case a_C_init => k_is)
    (case i_C_init => k_is)
    (case l_C_init => k_is)
    (case c_C_init => k_is)
    (case k_C_init => k_is)
    (case d_C_init_period => k_is)
    (case d_C_init_gain => k_is)
    (case a_find_problem => k_is)
    (case l_find_problem => k_is)
    (case c_find_problem => k_is)
    (case k_find_problem => k_is)
    (case a_l_rng => k_is)
    (case l_l_rng => k_is)
    (case c_l_rng => k_is)
    (case k_l_rng => k_is)
    (case a_l_draw => k_is)
    (case l_l_draw => k_is)
    (case c_l_draw => k_is)
    (case k_l_draw => k_is)
    (case a_l_choice => k_is)
    (case l_l_choice => k_is)
    (case c_l_choice => k_is)
    (case k_l_choice => k_is)
    (case a_l_written => k_is)
    (case l_l_written => k_is)
    (case c_l_written => k_is)
    (case k_l_written => k_is)
    (case a_l_odd_value => k_is)
    (case l_l_odd_value => k_is)
    (case c_l_odd_value => k_is)
    (case k_l_odd_value => k_is)
    (case a_l_spoilt => k_is)
    (case l_l_spoilt => k_is)
    (case c_l_spoilt => k_is)
    (case k_l_spoilt => k_is)
    (case a_l_is_count => k_is)
    (case l_l_is_count => k_is)
    (case c_l_is_count => k_is)
    (case k_l_is_count => k_is)
    (case a_l_due => k_is)
    (case l_l_due => k_is)
    (case c_l_due => k_is)
    (case k_l_due => k_is)
    (case a_l_told => k_is)
    (case l_l_told => k_is)
    (case c_l_told => k_is)
    (case k_l_told => k_is)
    (case a_l_right => k_is)
    (case l_l_right => k_is)
    (case c_l_right => k_is)
    (case k_l_right => k_is)
    (case a_law => k_is)
    (case l_law => k_is)
    (case c_law => k_is)
    (case k_law => k_is)
    (case v_MAX_VALUE => k_is)
    (case v_MAX_VALUES => k_is)
    (case v_PERIODS => k_is)
    (case l_PERIODS => k_is)
    (case z_ValueError => k_is)
    (case z_abs => k_is)
    (case z_all => k_is)
    (case z_bool => k_is)
    (case z_dict => k_is)
    (case z_divmod => k_is)
    (case z_enumerate => k_is)
    (case z_int => k_is)
    (case z_isinstance => k_is)
    (case z_len => k_is)
    (case z_list => k_is)
    (case z_max => k_is)
    (case z_min => k_is)
    (case z_range => k_is)
    (case z_repr => k_is)
    (case z_tuple => k_is)


