import PyProof.Rows.All
import Wide.All
import OpenK.AllK
import Wide.FinOn
import PyProof.ReprRoads
import HandS.Base
import HandS.Call
import HandS.List
import HandS.Comp
import HandS.Ends
import HandS.Words
import HandS.WordsList
import HandS.Defaults
import PyProof.ReprLen
import HandS.Iter
import HandS.Walk
import KE.GoesEnumKw
import KE.GoesRev
import HandS.MakeKwOnly
import HandS.Property
import PyProof.InstNe
import PyProof.FString2
import PyProof.FString5
import HandS.IsInst
import HandS.FStr
import KE.KExcInit
import KE.KExcIs
import HandS.Exc
import HandS.ExcInit
import HandS.ExcField
import HandS.ExcIs
import HandS.WordsExc
import HandS.Gcd
import HandS.Dict
import HandS.ExcOwn
import KE.GoesMore
import KE.KCallOwn
import HandS.Text
import HandS.Star
import HandS.ClsMeth
import PyProof.EnumMake
import PyProof.ReprNest
import KE.KIntText
import HandS.ForMost
import HandS.Conv
import HandS.Style
import HandS.Deep
import HandS.TupLe
import HandS.NoneIn
import HandS.TryOnly
import HandS.More
import HandS.Flow
import HandS.DeepEq
import PySem.Challenge.RW_dueways_k13_whole_equal_curves
set_option Elab.async false
set_option linter.all false
set_option maxRecDepth 100000
set_option maxHeartbeats 4000000
/-! A def's promise where no repr runs around it (guards are known to be empty), so that repr of data may be asked inside. -/
namespace VG
open PySem PySem.Spec PyProof.Rows L2

/-- repr of data -/
def rRepr (K : PySem.W.Frag) : List V → Hp → VK → Prop := fun xs H Q =>
  ∃ v d, xs = [v] ∧ Dp K H v d ∧ d.showable = true ∧ d.depth ≤ 60 ∧ d.shown.length ≤ sizeLine ∧ Q (.str d.shown) H

theorem dp_noDict (K : PySem.W.Frag) (H : Hp) : (∀ d v, Dp K H v d → d.hasDict = false) ∧ (∀ ds vs, DpAll K H vs ds → PyData.hasDictAll ds = false) := by
  have one : ∀ n, (∀ d v, sizeOf d < n → Dp K H v d → d.hasDict = false) ∧
      (∀ ds vs, sizeOf ds < n → DpAll K H vs ds → PyData.hasDictAll ds = false) := by
    intro n
    induction n with
    | zero => exact ⟨fun _ _ h => absurd h (Nat.not_lt_zero _), fun _ _ h => absurd h (Nat.not_lt_zero _)⟩
    | succ n ih =>
      refine ⟨fun d v hz h => ?_, fun ds vs hz h => ?_⟩
      · cases h with
        | non => rfl
        | bl => rfl
        | int => rfl
        | str => rfl
        | lst _ ha =>
          simp only [PyData.hasDict]
          exact ih.2 _ _ (by simp at hz; omega) ha
        | tup _ ha =>
          simp only [PyData.hasDict]
          exact ih.2 _ _ (by simp at hz; omega) ha
      · cases h with
        | nil => rfl
        | cons h1 h2 =>
          simp only [PyData.hasDictAll]
          rw [ih.1 _ _ (by simp at hz; omega) h1, ih.2 _ _ (by simp at hz; omega) h2]
          rfl
  exact ⟨fun d v => (one (sizeOf d + 1)).1 d v (Nat.lt_succ_self _), fun ds vs => (one (sizeOf ds + 1)).2 ds vs (Nat.lt_succ_self _)⟩

theorem call_repr {X : Cx} (hg : X.A.guards = some []) (hu : X.A.units + 64 < cLine) : CallR X (.builtin "repr") (rRepr X.K) := by
  intro pins s σ H xs us Q I r h
  obtain ⟨v, d, rfl, hd, hs, hdep, hz, q⟩ := h
  obtain ⟨u, rfl, rv⟩ := vals1 r
  have keep : ∀ (h' : Heap) (t' : Nat), (∀ b o, s.heap.get? b = some o → h'.get? b = some o) → Inv X pins σ H { s with heap := h', toks := t' } :=
    fun h' t' k => I.kept (t' := t') k
  have nd := (dp_noDict X.K H).1 d v hd
  obtain ⟨as, rd⟩ := Dp.reads I d v u hd rv
  cases hd with
  | non =>
    cases rv
    exact PySem.P.repr_of_none ⟨.str _, H, I.tok _, ⟨_, rfl⟩, q⟩
  | bl b =>
    cases rv
    refine PySem.P.repr_of_bool ⟨.str _, H, I.tok _, ⟨_, rfl⟩, ?_⟩
    exact q
  | int i =>
    obtain ⟨t, rfl⟩ := rv
    exact PySem.P.repr_of_int (by simpa [PyData.showable] using hs) ⟨.str _, H, I.tok _, ⟨_, rfl⟩, q⟩
  | str x =>
    obtain ⟨t, rfl⟩ := rv
    exact PySem.P.repr_of_str ⟨.str _, H, I.tok _, ⟨_, rfl⟩, q⟩ hz
  | lst _ _ =>
    cases rv
    exact repr_of_reads' rd hs (fun e => by rw [nd] at e; cases e) hg (by omega) (fun _ _ e => e) (fun h' w tk k => ⟨.str _, H, keep h' tk k, ⟨_, rfl⟩, q⟩) hz
  | tup _ _ =>
    cases rv
    exact repr_of_reads' rd hs (fun e => by rw [nd] at e; cases e) hg (by omega) (fun _ _ e => e) (fun h' w tk k => ⟨.str _, H, keep h' tk k, ⟨_, rfl⟩, q⟩) hz

def rLen (K : PySem.W.Frag) : List V → Hp → VK → Prop := fun xs H Q =>
  ∃ p ys, xs = [.ref p] ∧ (SqL K H p ys ∨ SqT K H p ys) ∧ Q (.int ys.length) H
theorem call_len {X : Cx} : CallR X (.builtin "len") (rLen X.K) := call_len_seq
def rListOf (K : PySem.W.Frag) : List V → Hp → VK → Prop := fun xs H Q =>
  ∃ p ys, xs = [.ref p] ∧ (SqL K H p ys ∨ SqT K H p ys) ∧ ∀ l, H l = none → Q (.ref l) (upd H l (.lst ys))
theorem call_listOf {X : Cx} : CallR X (.type "list") (rListOf X.K) := call_list_of

/-- a def's promise, asked only where guards are empty -/
structure FnG (P : Program) (w : World) (K : PySem.W.Frag) (mg : Str → Option Value) (base : Heap) (CX : CXT)
    (k : Nat) (f : Addr) (fd : FuncData) (ps : List Str) (sp : Sp) : Prop where
  arity : ∀ as H Q E, sp as H Q E → as.length = ps.length
  go : ∀ (A : Around) (outer : List Env) (s : Shared) (H : Hp) (args : Args) (us : List Value) (as : List V) (Q : VK) (E : XK),
    A.guards = some [] → Room k A → Env0 P w K mg base A outer s H → BindsTo s fd args (ps.zip us) → Vals as us → sp as H Q E →
      codeAny (model P w) A (.call (.ref f) args) (CR CX outer P w H s Q E) s

section
variable {P : Program} {w : World} {K : PySem.W.Frag} {mg : Str → Option Value} {base : Heap} {CX : CXT}
theorem FnG.of {k : Nat} {f : Addr} {fd : FuncData} {ps : List Str} {sp : Sp} (F : FnOk P w K mg base CX k f fd ps sp) :
    FnG P w K mg base CX k f fd ps sp :=
  ⟨F.len, fun A outer s H args us as Q E _ => F.run A outer s H args us as Q E⟩

/-- a def by its body -/
theorem okG {x qual : Str} {st : Stmt} {f : Addr} {fd : FuncData} {N ps : List Str} {k : Nat} {sp : Sp}
    (F : Fun K x qual st f fd) (S : FnScope N ps (defScope st)) (len : ∀ as H Q E, sp as H Q E → as.length = ps.length)
    (body : ∀ (cdv : Value) (A : Around) (outer : List Env) (s : Shared) (H : Hp) (as : List V) (Q : VK) (E : XK),
      (A.deeper (envOfC qual (defScope st) s.heap.objs.size f cdv)).guards = some [] →
      Room k (A.deeper (envOfC qual (defScope st) s.heap.objs.size f cdv)) → sp as H Q E →
      ∃ t, PSs (cxOf CX P w K mg base N qual (defScope st) f cdv A outer s H E) (defBody st) t ∧
        t { nx := fun _ H' => Q .non H', rt := Q } (start N as) H) :
    FnG P w K mg base CX (k + 1) f fd ps sp := by
  obtain ⟨oc, od, kV, doc, pm, an, cdv, ct, osl, rfl, lk, hcd⟩ := F.ex
  refine ⟨len, fun A outer s H args us as Q E hA hr e0 hb r hsp => ?_⟩
  have hl := len _ _ _ _ hsp
  have KX : K.In s.heap := e0.mod.kin.keeps fun b o e => (e0.bs b o e).1
  have lim : s.heap.NoLimit := e0.mod.nolimit.keeps fun b o e => (e0.bs b o e).1
  have kinds : ∀ y ∈ ps.zip us, (defScope st).names.lookup y.1 = some .local ∨
      ((defScope st).names.lookup y.1 = some .cell ∧ ((cellsFrom (s.heap.objs.size + 1) (defScope st).names []).lookup y.1).isSome = true) := by
    rintro ⟨n, v⟩ hy
    rcases S.par n (List.of_mem_zip hy).1 with q | q
    · exact .inl q
    · exact .inr ⟨q, PySem.W.cellsFrom_some _ _ _ (.inl q)⟩
  refine codeAny_call_function hr.depth (KX _ _ lk) rfl S.co S.gen rfl (PySem.W.codeRec_of KX hcd) (hb _ _ _ _ ?_)
  refine wpAny_newFunctionEnv_cells S.kind kinds fun env he s1 z => ?_
  subst he
  refine ⟨lim.keeps z.toInCall.keep, codeAny_func ?_⟩
  obtain ⟨t, ht, hq⟩ := body cdv A outer s H as Q E hA (hr.deeper _) hsp
  have I0 : Inv (cxOf CX P w K mg base N qual (defScope st) f cdv A outer s H E) [] (start N as) H s1 :=
    inv_start S hr.hd e0 hl r z
  refine wpAny_mono (ht.run [] s1 (start N as) H _ I0 hq) ?_ fun e s' hs => hs
  intro fl s' hs
  have done : ∀ (σ' : L2.St) (H' : Hp) (v : V) (u : Value), Inv (cxOf CX P w K mg base N qual (defScope st) f cdv A outer s H E) [] σ' H' s' →
      RelV v u → Q v H' → CE outer P w H s Q u s' := fun σ' H' v u J rv q => ⟨v, H', J.os, J.bare, J.base, J.hok, rv, q⟩
  cases fl with
  | ret u =>
    obtain ⟨v, σ', H', J, rv, q⟩ := hs
    exact done σ' H' v u J rv q
  | next =>
    obtain ⟨σ', H', J, q⟩ := hs
    exact done σ' H' V.non Value.none J rfl q
  | brk => exact hs.elim fun _ h => h.elim fun _ h => False.elim h.2
  | cont => exact hs.elim fun _ h => h.elim fun _ h => False.elim h.2
end

section
variable {P : Program} {w : World} {K : PySem.W.Frag} {mg : Str → Option Value} {base : Heap}
/-- .. that lets nothing out -/
theorem okG0 {x qual : Str} {st : Stmt} {f : Addr} {fd : FuncData} {N ps : List Str} {k : Nat} {sp : Sp}
    (F : Fun K x qual st f fd) (S : FnScope N ps (defScope st)) (len : ∀ as H Q E, sp as H Q E → as.length = ps.length)
    (body : ∀ (cdv : Value) (A : Around) (outer : List Env) (s : Shared) (H : Hp) (as : List V) (Q : VK) (E : XK),
      (A.deeper (envOfC qual (defScope st) s.heap.objs.size f cdv)).guards = some [] →
      Room k (A.deeper (envOfC qual (defScope st) s.heap.objs.size f cdv)) → sp as H Q E →
      ∃ t, PSs (cxOf CX0 P w K mg base N qual (defScope st) f cdv A outer s H E).nox (defBody st) t ∧
        t { nx := fun _ H' => Q .non H', rt := Q } (start N as) H) :
    FnG P w K mg base CX0 (k + 1) f fd ps sp :=
  okG F S len fun cdv A outer s H as Q E hA hr h =>
    let ⟨t, h1, h2⟩ := body cdv A outer s H as Q E hA hr h
    ⟨t, h1.nox, h2⟩
end

section
variable {X : Cx} {CX : CXT} {k : Nat} {f : Addr} {fd : FuncData} {ps : List Str} {sp : Sp} {E : XK} {x : Str} {p pos : Pos} {e : Expr} {es : List Expr} {t : TA}
theorem runG {pins : List (Addr × Obj)} {σ : L2.St} {H : Hp} {s : Shared} {Q : VK} {us : List Value} {as : List V}
    (F : FnG X.prog X.w X.K X.mg X.base CX k f fd ps sp) (hA : X.A.guards = some []) (hr : Room k X.A) (hb : Binds X.K fd ps [])
    (hx : Passes CX X E) (I : Inv X pins σ H s) (r : Vals as us) (h : sp as H Q E) :
    wpAny (model X.prog X.w) X.A (call (.ref f) us) (EP X pins σ Q) X.xe s := by
  have hn : us.length = ps.length := r.length.symm.trans (F.arity _ _ _ _ h)
  have bind := hb s us I.kIn (by rw [List.append_nil]; exact hn)
  rw [List.append_nil] at bind
  refine wpAny_call (codeAny_mono (F.go X.A X.stack s H ⟨us, []⟩ us as Q E hA hr I.env0 bind r h) ?_)
  intro res s' hq
  match res, hq with
  | .error e, hq => exact hx pins σ H s e s' I hq
  | .ok (.ret u), hq => exact I.after hq
  | .ok .next, hq => exact False.elim hq
  | .ok .brk, hq => exact False.elim hq
  | .ok .cont, hq => exact False.elim hq
/-- f(e, ..) -/
theorem pe_callG (F : FnG X.prog X.w X.K X.mg X.base CX k f fd ps sp) (hA : X.A.guards = some []) (hr : Room k X.A) (hg : Gl X x)
    (hm : X.mg x = some (.ref f)) (hk : PySem.W.keepIn X.K (.ref f) = true) (hb : Binds X.K fd ps []) (hx : Passes CX X E) (ha : PA X (e :: es) t)
    (hdb : (x == ("__debug__" : Str)) = false := by decide) (he : starEach (e :: es) X.env = (false, eval e X.env) :: starEach es X.env := by rfl)
    (hpl : (backTo pos (starEach es X.env)).any (·.1) = false := by rfl) :
    PE X (.Call (.Name x p) (e :: es) [] pos) (tCall sp [] E t) := by
  constructor
  intro pins s σ H Q I h
  refine wpAny_Call_Name_kw (ld_glob I hg hm ?_ hdb)
  have args := ha.run pos pins s σ H _ I h
  refine PySem.W.callWith_K (h₀ := X.base) I.ok.mod.kin hk (thn args ?_) he hpl
  rintro us s1 ⟨as, H1, I1, r, q⟩
  rw [List.append_nil] at q
  exact ⟨I1.kIn, runG F hA hr hb hx I1 r q⟩
theorem pe_callG0 (F : FnG X.prog X.w X.K X.mg X.base CX k f fd ps sp) (hA : X.A.guards = some []) (hr : Room k X.A) (hg : Gl X x)
    (hm : X.mg x = some (.ref f)) (hk : PySem.W.keepIn X.K (.ref f) = true) (hb : Binds X.K fd ps []) (hx : Passes CX X E)
    (hdb : (x == ("__debug__" : Str)) = false := by decide) : PE X (.Call (.Name x p) [] [] pos) (tCall sp [] E tNil) := by
  constructor
  intro pins s σ H Q I h
  refine wpAny_Call_Name_kw (ld_glob I hg hm ?_ hdb)
  exact PySem.W.callWith_K0 I.kIn hk (runG (us := []) (as := []) F hA hr hb hx I .nil h)
end

/-- a statement, then the rest, joined by a word: the rest is read once -/
def tJoin (t u : TS) : TS := fun D σ H => ∃ M : L2.St → Hp → Prop, t { D with nx := M } σ H ∧ ∀ σ' H', M σ' H' → u D σ' H'
theorem pss_join {X : Cx} {st : Stmt} {more : List Stmt} {t u : TS} (h1 : PS X st t) (h2 : PSs X more u) : PSs X (st :: more) (tJoin t u) := by
  constructor
  intro pins s σ H D I h
  obtain ⟨M, hm, hu⟩ := h
  refine wpAny_execs_cons (thn (h1.run pins s σ H _ I hm) ?_)
  intro fl s1 q
  match fl, q with
  | .next, ⟨σ', H', I', q⟩ => exact h2.run pins s1 σ' H' D I' (hu σ' H' q)
  | .ret v, q => exact q
  | .brk, q => exact q
  | .cont, q => exact q
/-- f(k = v, ..), keywords alone -/
def tKw (m : Nat) (sp : Sp) (gV : List V → List V → List V) (E : XK) (tk : TA) : TE := fun σ H Q => tk σ H fun zs H2 => zs.length = m ∧ sp (gV [] zs) H2 Q E
theorem pe_callK0 {X : Cx} {CX : CXT} {k : Nat} {f : Addr} {fd : FuncData} {ps ks : List Str} {sp : Sp} {E : XK} {x : Str} {p pos : Pos} {kws : List Keyword} {tk : TA}
    {g : List Value → List Value → List Value} {gV : List V → List V → List V}
    (F : FnOk X.prog X.w X.K X.mg X.base CX k f fd ps sp) (hr : Room k X.A) (hg : Gl X x) (hm : X.mg x = some (.ref f)) (hk : PySem.W.keepIn X.K (.ref f) = true)
    (hb : KBn X.K fd ps 0 ks g gV) (hx : Passes CX X E) (hkw : PK X kws tk) (hall : (backToKw pos (keywordEach kws X.env)).all (·.1.isSome) = true := by rfl)
    (hks : (backToKw pos (keywordEach kws X.env)).filterMap (·.1) = ks := by rfl) (hdb : (x == ("__debug__" : Str)) = false := by decide)
    (hpl : ((backTo pos (starEach [] X.env)).any (·.1) || (backToKw pos (keywordEach kws X.env)).any (·.1.isNone)) = false := by rfl) :
    PE X (.Call (.Name x p) [] kws pos) (tKw ks.length sp gV E tk) := by
  constructor
  intro pins s σ H Q I h
  refine wpAny_Call_Name_kw (ld_glob I hg hm ?_ hdb)
  refine PySem.W.callWith_KW0 (h₀ := X.base) I.ok.mod.kin hk hall ?_ hpl
  refine thn (hkw.run pos pins s σ H _ I h) ?_
  rintro ws s2 ⟨zs, H2, I2, rz, len, q⟩
  refine ⟨I2.kIn, ?_⟩
  rw [hks]
  have rel := hb.rel (vs := []) (us := []) .nil rz
  have bind := hb.to s2 [] ws I2.kIn rfl (rz.length.symm.trans len)
  refine wpAny_call (codeAny_mono (F.run X.A X.stack s2 H2 ⟨[], ks.zip ws⟩ _ _ Q E hr I2.env0 bind rel q) ?_)
  intro res s' hq
  match res, hq with
  | .error e, hq => exact hx pins σ H2 s2 e s' I2 hq
  | .ok (.ret u), hq => exact I2.after hq
  | .ok .next, hq => exact False.elim hq
  | .ok .brk, hq => exact False.elim hq
  | .ok .cont, hq => exact False.elim hq
/-- how keywords bind for a def without defaults -/
theorem kb_of {K : PySem.W.Frag} {x qual : Str} {st : Stmt} {f : Addr} {fd : FuncData} {ps ks : List Str} {n : Nat} (F : Fun K x qual st f fd)
    (g : {α : Type} → List α → List α → List α) (rel : ∀ {vs zs : List V} {us ws : List Value}, Vals vs us → Vals zs ws → Vals (g vs zs) (g us ws))
    (h : ∀ (kV doc pm : Value) (an : Option Addr) (cdv ct : Value) (us ws : List Value), us.length = n → ws.length = ks.length →
      bindArgs (PySem.W.fnOf x qual (defArgs st) (defBody st) (defScope st) .none kV doc pm an cdv ct) ⟨us, ks.zip ws⟩ = pure (ps.zip (g us ws))) :
    KBn K fd ps n ks (fun us ws => g us ws) (fun vs zs => g vs zs) := by
  obtain ⟨oc, od, kV, doc, pm, an, cdv, ct, osl, rfl, lk, hcd⟩ := F.ex
  exact ⟨fun s us ws _ h1 h2 => .of_eq (h kV doc pm an cdv ct us ws h1 h2), fun a b => rel a b⟩

/-- a law's call: the script is all that may be tracked -/
theorem lawG {P : Program} {w : World} {K : PySem.W.Frag} {mg mb : Str → Option Value} {CX : CXT} {k : Nat} {fa a : Addr} {fd : FuncData} {x : Str}
    {sp : Sp} {s1 : Shared} {vs : List Value} {ns : List Int} (KX : K.In s1.heap) (hns : s1.heap.Ns mainGlobals mg) (hb : s1.heap.Ns builtinsNs mb)
    (hbb : ∀ y : Str, y ≠ "__name__" → mb y = bootBuiltins y) (hlim : s1.heap.NoLimit) (hg : s1.gens = #[])
    (ha : s1.heap.get? a = some { cls := .type "list", data := .seq vs.toArray }) (hi : IntsAre vs ns) (hl : ns.length ≤ sizeLine) (hr : Room k callerA)
    (F : ∀ base : Heap, K.In base → base.Ns mainGlobals mg → FnG P w K mg base CX k fa fd [x] sp)
    (hbind : ∀ (s : Shared) (u : Value), BindsTo s fd ⟨[u], []⟩ [(x, u)])
    (hsp : ∀ H : Hp, Only H → SqL K H a (ns.map V.int) → sp [.ref a] H (fun v _ => v = .bl true) fun _ _ _ => False)
    (hCX : ∀ H e s', CX [] H s1 (fun _ _ _ => False) e s' → False) :
    codeAny (model P w) callerA (.call (.ref fa) ⟨[.ref a], []⟩)
      (fun r s' => r = .ok (.ret (.bool true)) ∧ OldK s1.heap s'.heap ∧ s'.os = s1.os ∧ AllBare s'.gens) s1 := by
  have inner : ∀ H : Hp, Only H → SqL K H a (ns.map V.int) → HOk P w H s1.heap → (∀ b, H b ≠ none → b = a) → (H a ≠ none → K.lookup a = none) →
      codeAny (model P w) callerA (.call (.ref fa) ⟨[.ref a], []⟩)
        (fun r s' => r = .ok (.ret (.bool true)) ∧ OldK s1.heap s'.heap ∧ s'.os = s1.os ∧ AllBare s'.gens) s1 := by
    intro H hO hS hok only noK
    have nodict : ∀ {b : Addr} {o : Obj} {es : Array DictEntry} {ep : Nat}, s1.heap.get? b = some o → o.data = .dict es ep → H b = none := by
      intro b o es ep e d
      by_cases q : H b = none
      · exact q
      · have eb := only b q
        subst eb
        rw [ha] at e
        cases e
        cases d
    have names : ∀ {b : Addr} {m : Str → Option Value}, s1.heap.Ns b m → (hidT s1.heap H).Ns b m := by
      rintro b m ⟨o, es, ep, e, d, r⟩
      exact ⟨o, es, ep, hidT_get e (nodict e d), d, r⟩
    have kin : K.In (hidT s1.heap H) := by
      intro b o e
      refine hidT_get (KX b o e) ?_
      by_cases q : H b = none
      · exact q
      · have eb := only b q
        subst eb
        rw [noK q] at e
        cases e
    have modul : Mod K mg (hidT s1.heap H) := by
      obtain ⟨mc, l1, l2⟩ := hlim
      exact ⟨kin, names hns, ⟨mb, names hb, hbb⟩, ⟨mc, names l1, l2⟩⟩
    have nil : ∀ b : Addr, ¬ b ∈ ([] : List Addr) := fun b z => by cases z
    have env : Env0 P w K mg (hidT s1.heap H) callerA [] s1 H :=
      ⟨rfl, modul, fun b o e => of_hidT e, Nat.le_of_eq (hidT_size _ _), trivial, fun b z => absurd z (nil b), hok, .of_eq hg⟩
    have ran := (F _ kin (names hns)).go callerA [] s1 H ⟨[.ref a], []⟩ [.ref a] [.ref a] _ _ rfl hr env (hbind s1 (.ref a)) (.cons rfl .nil) (hsp H hO hS)
    refine codeAny_mono ran ?_
    intro res s' h
    match res, h with
    | .error e, h => exact (hCX H e s' h).elim
    | .ok .next, h => exact False.elim h
    | .ok .brk, h => exact False.elim h
    | .ok .cont, h => exact False.elim h
    | .ok (.ret u), h =>
      obtain ⟨v, H', os, bare, un, hok', rv, rfl⟩ := h
      obtain rfl : u = Value.bool true := rv
      refine ⟨rfl, OldK.of_keep fun b o e => ?_, os, bare⟩
      rcases hO b with z | ⟨ob, xs, z⟩
      · exact un.keep b o e z (nil b) (nil b)
      · obtain ⟨e1, _⟩ := hok b _ z
        obtain ⟨e2, _⟩ := hok' b _ (un.frzs b ob _ z)
        rw [e] at e1
        cases e1
        exact e2
  have rv := vals_ints hi
  have len := hi.length
  cases hk : K.lookup a with
  | some o =>
    have e := KX a o hk
    rw [ha] at e
    cases e
    have seen : SqL K (fun _ => none) a (ns.map V.int) :=
      .inr ⟨_, vs.toArray, _, hk, rfl, rfl, rfl, by rw [List.size_toArray, len]; exact hl, by simpa using rv⟩
    exact inner (fun _ => none) (fun _ => .inl rfl) seen (fun b u z => by cases z) (fun b z => absurd rfl z) fun z => absurd rfl z
  | none =>
    have at_a : (if a = a then some (HO.frz { cls := .type "list", data := .seq vs.toArray } (.lst (ns.map V.int))) else none) = some (HO.frz { cls := .type "list", data := .seq vs.toArray } (.lst (ns.map V.int))) := if_pos rfl
    refine inner (fun b => if b = a then some (.frz { cls := .type "list", data := .seq vs.toArray } (.lst (ns.map V.int))) else none) ?_ (.inl (.inr ⟨_, at_a⟩)) ?_ ?_ fun _ => hk
    · intro b
      by_cases hb : b = a
      · exact .inr ⟨_, _, if_pos hb⟩
      · exact .inl (if_neg hb)
    · intro b u z
      have z' : (if b = a then some (HO.frz { cls := .type "list", data := .seq vs.toArray } (.lst (ns.map V.int))) else none) = some u := z
      by_cases hb : b = a
      · rw [if_pos hb] at z'
        cases z'
        subst hb
        exact ⟨ha, by rw [List.length_map]; exact hl, vs, _, rv, ha⟩
      · rw [if_neg hb] at z'
        cases z'
    · intro b z
      by_cases hb : b = a
      · exact hb
      · exact absurd (if_neg hb) z

theorem walkG {l : PySem.W.OpenLaw} {n k : Nat} {q : Program} {loose : List Str} {XP : (Str → Option Value) → Heap → Prop} {YP : World → Heap → Prop}
    {d : DefRec} {K : Params → PySem.W.Frag} {CX : World → CXT} {sp : World → Sp} {x : Str}
    (hn : l.most = some n) (hn2 : n ≤ sizeLine) (hdf : d.params.defaults = []) (hr : Room k callerA) (hY : ∀ (w : World) (h : Heap), YP w h → (K w.params).In h)
    (F : ∀ (w : World) (mg : Str → Option Value) (fa : Addr) (h : Heap), (K w.params).In h → h.Ns mainGlobals mg → mg d.name = some (.ref fa) →
      ∃ fd : FuncData, (∀ (s : Shared) (u : Value), BindsTo s fd ⟨[u], []⟩ [(x, u)]) ∧ ∀ base : Heap, (K w.params).In base → base.Ns mainGlobals mg →
        FnG l.prog w (K w.params) mg base (CX w) k fa fd [x] (sp w))
    (hsp : ∀ (w : World) (H : Hp) (a : Addr) (ns : List Int), ns.length ≤ n → Only H → SqL (K w.params) H a (ns.map V.int) →
      sp w [.ref a] H (fun v _ => v = .bl true) fun _ _ _ => False)
    (hCX : ∀ (w : World) (H : Hp) (s : Shared) (e : Value) (s' : Shared), CX w [] H s (fun _ _ _ => False) e s' → False) :
    PySem.W.WalkO q loose XP YP l.row.toRowW d [] (fun f vs => PySem.call f vs) := by
  refine Att.attach_call hn hdf ?_
  intro w s0 s1 mg mb fa o pm cd doc a vs ns G Y ho hd hcd hmg hobj hints hlen hg
  obtain ⟨fd, hb, hF⟩ := F w mg fa _ (hY w _ Y) G.T.g hmg
  exact lawG (hY w _ Y) G.T.g G.T.b G.T.builtins G.T.nolimit hg hobj hints (Nat.le_trans hlen hn2) hr hF hb
    (fun H hO hS => hsp w H a ns hlen hO hS) fun H e s' => hCX w H s1 e s'
end VG

/-! Curves as they are written: values, a period, a gain; plain Lean. -/
namespace VM
/-- the value at t of the curve written so -/
def cvAt (vs : List Int) (p g t : Int) : Int :=
  if t = 0 then 0 else if t ≤ (vs.length : Int) then vs.getD (t - 1).toNat 0 else
    vs.getD (t - (t - vs.length + p - 1) / p * p - 1).toNat 0 + (t - vs.length + p - 1) / p * g

theorem cvAt_zero {vs : List Int} {p g : Int} : cvAt vs p g 0 = 0 := by simp [cvAt]
theorem cvAt_in {vs : List Int} {p g t : Int} (h : 0 < t) (h1 : t ≤ vs.length) : cvAt vs p g t = vs.getD (t - 1).toNat 0 := by
  unfold cvAt
  rw [if_neg (by omega), if_pos h1]

/-- the rounds: between them t lies in the last period -/
theorem rounds_spec {n p t : Int} (hp : 0 < p) (ht : n < t) :
    0 < (t - n + p - 1) / p ∧ n - p < t - (t - n + p - 1) / p * p ∧ t - (t - n + p - 1) / p * p ≤ n := by
  have e := Int.emod_add_mul_ediv (t - n + p - 1) p
  have l := Int.emod_nonneg (t - n + p - 1) (show p ≠ 0 by omega)
  have u := Int.emod_lt_of_pos (t - n + p - 1) hp
  have c : (t - n + p - 1) / p * p = p * ((t - n + p - 1) / p) := Int.mul_comm _ _
  have q1 : 1 ≤ (t - n + p - 1) / p := by
    have := (Int.le_ediv_iff_mul_le (c := p) hp (a := 1) (b := t - n + p - 1)).mpr (by omega)
    exact this
  exact ⟨by omega, by omega, by omega⟩
theorem rounds_step {n p t : Int} (hp : 0 < p) : (t - p - n + p - 1) / p = (t - n + p - 1) / p - 1 := by
  have : t - p - n + p - 1 = (t - n + p - 1) + (-1) * p := by omega
  rw [this, Int.add_mul_ediv_right _ _ (by omega)]
  omega
/-- behind the values: one period back, and the gain -/
theorem cvAt_back {vs : List Int} {p g t : Int} (hp : 0 < p) (hpn : p ≤ vs.length) (ht : (vs.length : Int) < t) : cvAt vs p g t = cvAt vs p g (t - p) + g := by
  obtain ⟨r1, r2, r3⟩ := rounds_spec hp ht
  have st := rounds_step (n := (vs.length : Int)) (p := p) (t := t) hp
  unfold cvAt
  rw [if_neg (by omega), if_neg (by omega), if_neg (show ¬ t - p = 0 by omega)]
  by_cases h : t - p ≤ (vs.length : Int)
  · rw [if_pos h]
    have r : (t - vs.length + p - 1) / p = 1 := by
      have a : (t - vs.length + p - 1) / p < 2 := Int.ediv_lt_of_lt_mul hp (by omega)
      omega
    rw [r, Int.one_mul, Int.one_mul]
  · rw [if_neg h, st]
    have e : t - p - ((t - vs.length + p - 1) / p - 1) * p - 1 = t - (t - vs.length + p - 1) / p * p - 1 := by
      rw [Int.sub_mul, Int.one_mul]; omega
    rw [e, Int.sub_mul, Int.one_mul]
    omega

/-- a function that repeats behind n: with period p and gain g -/
def Rep (f : Int → Int) (n p g : Int) : Prop := ∀ t, n < t → f t = f (t - p) + g
theorem Rep.cvAt {vs : List Int} {p g : Int} (hp : 0 < p) (hpn : p ≤ vs.length) : Rep (cvAt vs p g) vs.length p g := fun _ ht => cvAt_back hp hpn ht

/-- the steps over d, in one period behind n, are all the first one -/
def stepsEq (f : Int → Int) (n p d : Int) : Bool := (List.range p.toNat).all fun (i : Nat) => decide (f (n + 1 + i) - f (n + 1 + i - d) = f (n + 1) - f (n + 1 - d))
/-- the least period from d on that divides p, and its gain -/
def leastFrom (f : Int → Int) (n p : Int) : Nat → Int → Int × Int
  | 0, _ => (p, f (n + p) - f n)
  | k + 1, d => if p % d = 0 ∧ stepsEq f n p d = true then (d, f (n + 1) - f (n + 1 - d)) else leastFrom f n p k (d + 1)
def leastP (f : Int → Int) (n p : Int) : Int × Int := leastFrom f n p (p - 1).toNat 1
/-- how many values must be written -/
def shr (f : Int → Int) (d s : Int) : Nat → Nat
  | 0 => 0
  | m + 1 => if d < (m + 1 : Nat) ∧ f ((m + 1 : Nat) : Int) = f ((m + 1 : Nat) - d) + s then shr f d s m else m + 1
/-- f's values at 1 to m -/
def vals (f : Int → Int) (m : Nat) : List Int := (List.range m).map fun (i : Nat) => f (i + 1)
theorem vals_length {f : Int → Int} {m : Nat} : (vals f m).length = m := by simp [vals]
theorem vals_getD {f : Int → Int} {m i : Nat} (h : i < m) : (vals f m).getD i 0 = f (i + 1) := by
  unfold vals
  rw [List.getD_eq_getElem?_getD, List.getElem?_map, List.getElem?_range h]
  rfl

theorem stepsEq_at {f : Int → Int} {n p d : Int} (h : stepsEq f n p d = true) {t : Int} (h1 : n < t) (h2 : t ≤ n + p) : f t = f (t - d) + (f (n + 1) - f (n + 1 - d)) := by
  unfold stepsEq at h
  rw [List.all_eq_true] at h
  have := h (t - n - 1).toNat (List.mem_range.mpr (by omega))
  have e : n + 1 + ((t - n - 1).toNat : Int) = t := by omega
  rw [e] at this
  have := of_decide_eq_true this
  omega
/-- one round decides -/
theorem Rep.of_steps {f : Int → Int} {n p g d : Int} (R : Rep f n p g) (hd : 0 < d) (hdp : d ≤ p) (h : stepsEq f n p d = true) : Rep f n d (f (n + 1) - f (n + 1 - d)) := by
  have key : ∀ (k : Nat) (t : Int), n < t → t ≤ n + k → f t = f (t - d) + (f (n + 1) - f (n + 1 - d)) := by
    intro k
    induction k with
    | zero => intro t h1 h2; omega
    | succ k ih =>
      intro t h1 h2
      by_cases c : t ≤ n + p
      · exact stepsEq_at h h1 c
      · have a := R t h1
        have b := R (t - d) (by omega)
        have e := ih (t - p) (by omega) (by omega)
        have z : t - d - p = t - p - d := by omega
        rw [z] at b
        omega
  intro t ht
  exact key (t - n).toNat t ht (by omega)
theorem leastFrom_spec {f : Int → Int} {n p g : Int} (R : Rep f n p g) (hp : 0 < p) : ∀ (k : Nat) (d : Int), 0 < d → d + k = p →
    0 < (leastFrom f n p k d).1 ∧ (leastFrom f n p k d).1 ≤ p ∧ Rep f n (leastFrom f n p k d).1 (leastFrom f n p k d).2
  | 0, d, hd, e => by
    unfold leastFrom
    refine ⟨hp, Int.le_refl _, fun t ht => ?_⟩
    have a := R (n + p) (by omega)
    have z : n + p - p = n := by omega
    rw [z] at a
    have b := R t ht
    show f t = f (t - p) + (f (n + p) - f n)
    omega
  | k + 1, d, hd, e => by
    unfold leastFrom
    by_cases c : p % d = 0 ∧ stepsEq f n p d = true
    · rw [if_pos c]
      exact ⟨hd, by show d ≤ p; omega, R.of_steps hd (by omega) c.2⟩
    · rw [if_neg c]
      exact leastFrom_spec R hp k (d + 1) (by omega) (by omega)
theorem leastP_spec {f : Int → Int} {n p g : Int} (R : Rep f n p g) (hp : 0 < p) : 0 < (leastP f n p).1 ∧ (leastP f n p).1 ≤ p ∧ Rep f n (leastP f n p).1 (leastP f n p).2 :=
  leastFrom_spec R hp _ 1 (by omega) (by omega)
theorem shr_spec {f : Int → Int} {d s : Int} (hd : 0 < d) : ∀ (m : Nat), d ≤ m → Rep f m d s → d ≤ shr f d s m ∧ shr f d s m ≤ m ∧ Rep f (shr f d s m) d s
  | 0, h, _ => by omega
  | m + 1, h, R => by
    unfold shr
    by_cases c : d < (m + 1 : Nat) ∧ f ((m + 1 : Nat) : Int) = f ((m + 1 : Nat) - d) + s
    · rw [if_pos c]
      have R' : Rep f m d s := fun t ht => by
        by_cases e : t = ((m + 1 : Nat) : Int)
        · rw [e]; exact c.2
        · exact R t (by omega)
      obtain ⟨a, b, z⟩ := shr_spec hd m (by omega) R'
      exact ⟨a, by omega, z⟩
    · rw [if_neg c]
      exact ⟨h, Nat.le_refl _, R⟩
/-- what repeats behind m is the curve written by its first m values -/
theorem cvAt_vals {f : Int → Int} {m : Nat} {d s : Int} (hd : 0 < d) (hdm : d ≤ m) (h0 : f 0 = 0) (R : Rep f m d s) : ∀ t, 0 ≤ t → cvAt (vals f m) d s t = f t := by
  have key : ∀ (k : Nat) (t : Int), 0 ≤ t → t ≤ k → cvAt (vals f m) d s t = f t := by
    intro k
    induction k with
    | zero =>
      intro t h1 h2
      have : t = 0 := by omega
      rw [this, cvAt_zero, h0]
    | succ k ih =>
      intro t h1 h2
      by_cases z : t = 0
      · rw [z, cvAt_zero, h0]
      · by_cases c : t ≤ (m : Int)
        · rw [cvAt_in (by omega) (by rw [vals_length]; exact c), vals_getD (by omega)]
          congr 1; omega
        · rw [cvAt_back hd (by rw [vals_length]; exact hdm) (by rw [vals_length]; omega), R t (by omega), ih (t - d) (by omega) (by omega)]
  intro t ht
  exact key t.toNat t ht (by omega)
/-- the form: period, gain, values -/
def formP (vs : List Int) (p g : Int) : Int × Int := leastP (cvAt vs p g) vs.length p
def formM (vs : List Int) (p g : Int) : Nat := shr (cvAt vs p g) (formP vs p g).1 (formP vs p g).2 vs.length
def formV (vs : List Int) (p g : Int) : List Int := vals (cvAt vs p g) (formM vs p g)
theorem form_spec {vs : List Int} {p g : Int} (hp : 0 < p) (hpn : p ≤ vs.length) :
    0 < (formP vs p g).1 ∧ (formP vs p g).1 ≤ p ∧ (formP vs p g).1 ≤ (formV vs p g).length ∧ (formV vs p g).length ≤ vs.length ∧
      ∀ t, 0 ≤ t → cvAt (formV vs p g) (formP vs p g).1 (formP vs p g).2 t = cvAt vs p g t := by
  obtain ⟨a, b, R⟩ := leastP_spec (Rep.cvAt (g := g) hp hpn) hp
  obtain ⟨c, d, R'⟩ := shr_spec a vs.length (show (formP vs p g).1 ≤ _ from Int.le_trans b hpn) R
  refine ⟨a, b, ?_, ?_, ?_⟩
  · unfold formV; rw [vals_length]; exact c
  · unfold formV; rw [vals_length]; exact d
  · exact cvAt_vals a c cvAt_zero R'
end VM

/-! Records: sums of windows; plain Lean. -/
namespace VM
/-- the units ahead of tick i -/
def pre (us : List Int) (i : Int) : Int := (us.take i.toNat).sum
def win (us : List Int) (s k : Int) : Int := pre us (s + k) - pre us s
/-- the sum of a slice -/
theorem sum_cut (us : List Int) (s k : Nat) : ((us.drop s).take k).sum = win us s k := by
  unfold win pre
  have e : (((s : Int) + k).toNat) = s + k := by omega
  have e2 : ((s : Int).toNat) = s := by omega
  rw [e, e2, List.take_add, List.sum_append]
  omega
theorem pre_zero (us : List Int) : pre us 0 = 0 := by simp [pre]
theorem pre_all (us : List Int) : pre us us.length = us.sum := by
  unfold pre
  rw [show ((us.length : Nat) : Int).toNat = us.length by omega, List.take_length]
theorem pre_step {us : List Int} {i : Nat} (h : i < us.length) : pre us ((i : Int) + 1) = pre us i + us.getD i 0 := by
  unfold pre
  rw [show ((i : Int) + 1).toNat = i + 1 by omega, show ((i : Int)).toNat = i by omega, List.take_add_one, List.sum_append]
  rw [List.getD_eq_getElem?_getD, List.getElem?_eq_getElem h]
  simp
/-- the first i from a on, of k many, of which P -/
def firstN (p : Nat → Bool) : Nat → Nat → Option Nat
  | 0, _ => none
  | k + 1, i => if p i = true then some i else firstN p k (i + 1)
/-- windows by their length: the first with more than f allows -/
def brk (f : Int → Int) (us : List Int) : Nat → Nat → Option (Int × Int × Int)
  | 0, _ => none
  | k + 1, len => match firstN (fun s => decide (f len < win us s len)) (us.length + 1 - len) 0 with
    | some s => some (len, s, win us s len - f len)
    | none => brk f us k (len + 1)
def breachM (f : Int → Int) (us : List Int) : Option (Int × Int × Int) := brk f us us.length 1
theorem brk_congr {f g : Int → Int} {us : List Int} : ∀ (k len : Nat), (∀ t : Int, (len : Int) ≤ t → t < len + k → f t = g t) → brk f us k len = brk g us k len
  | 0, _, _ => rfl
  | k + 1, len, h => by
    unfold brk
    rw [h len (by omega) (by omega), brk_congr k (len + 1) fun t h1 h2 => h t (by omega) (by omega)]
theorem breachM_congr {f g : Int → Int} {us : List Int} (h : ∀ t : Int, 1 ≤ t → t ≤ us.length → f t = g t) : breachM f us = breachM g us :=
  brk_congr _ _ fun t h1 h2 => h t (by omega) (by omega)
def IsMax (l : List Int) (m : Int) : Prop := m ∈ l ∧ ∀ y ∈ l, y ≤ m
theorem IsMax.eq {l : List Int} {m n : Int} (a : IsMax l m) (b : IsMax l n) : m = n := by
  have h1 := a.2 n b.1
  have h2 := b.2 m a.1
  omega
end VM

/-! Records that enter as early as a curve allows; plain Lean. -/
namespace VM
theorem snoc_ind {P : List Int → Prop} (h0 : P []) (h1 : ∀ l x, P l → P (l ++ [x])) (l : List Int) : P l := by
  have a : ∀ r : List Int, P r.reverse := fun r => by
    induction r with
    | nil => exact h0
    | cons a r ih => rw [List.reverse_cons]; exact h1 _ _ ih
  have b := a l.reverse
  rwa [List.reverse_reverse] at b
/-- the last k units -/
def tl (us : List Int) (k : Nat) : Int := win us ((us.length : Int) - k) k
theorem tl_zero {us : List Int} : tl us 0 = 0 := by
  unfold tl win
  rw [show (us.length : Int) - ((0 : Nat) : Int) + ((0 : Nat) : Int) = (us.length : Int) - ((0 : Nat) : Int) by omega]
  omega
theorem pre_push {e : List Int} {x i : Int} (h : i ≤ e.length) : pre (e ++ [x]) i = pre e i := by
  unfold pre
  rw [List.take_append_of_le_length (by omega)]
theorem pre_last {e : List Int} {x i : Int} (h : i = (e.length : Int) + 1) : pre (e ++ [x]) i = pre e e.length + x := by
  unfold pre
  rw [List.take_of_length_le (by rw [List.length_append, List.length_singleton]; omega), List.take_of_length_le (by omega), List.sum_append]
  simp
theorem tl_push {e : List Int} {x : Int} {k : Nat} (h : k ≤ e.length) : tl (e ++ [x]) (k + 1) = tl e k + x := by
  unfold tl win
  rw [List.length_append, List.length_singleton, pre_last (by omega), pre_push (by omega)]
  rw [show ((e.length + 1 : Nat) : Int) - ((k + 1 : Nat) : Int) = (e.length : Int) - k by omega, show (e.length : Int) - (k : Int) + (k : Int) = e.length by omega]
  omega
/-- one tick further back -/
theorem tl_step {us : List Int} {k : Nat} (h : k < us.length) : tl us (k + 1) = tl us k + us.getD (us.length - 1 - k) 0 := by
  unfold tl win
  rw [show (us.length : Int) - ((k + 1 : Nat) : Int) + ((k + 1 : Nat) : Int) = us.length by omega, show (us.length : Int) - ((k : Nat) : Int) + ((k : Nat) : Int) = us.length by omega]
  have e := pre_step (us := us) (i := us.length - 1 - k) (by omega)
  rw [show ((us.length - 1 - k : Nat) : Int) + 1 = (us.length : Int) - (k : Nat) by omega] at e
  rw [show (us.length : Int) - ((k + 1 : Nat) : Int) = ((us.length - 1 - k : Nat) : Int) by omega]
  omega
/-- how many may enter behind us, as the windows up to k + 1 tell -/
def freeK (f : Int → Int) (us : List Int) : Nat → Int
  | 0 => f 1
  | k + 1 => min (freeK f us k) (f ((k : Int) + 2) - tl us (k + 1))
def freeM (f : Int → Int) (us : List Int) : Int := freeK f us us.length
theorem le_freeK {f : Int → Int} {us : List Int} {c : Int} : ∀ {n : Nat}, c ≤ freeK f us n ↔ ∀ k : Nat, k ≤ n → tl us k + c ≤ f ((k : Int) + 1)
  | 0 => by
    constructor
    · intro h k hk
      have : k = 0 := by omega
      subst this
      rw [tl_zero]
      have : c ≤ f 1 := h
      show 0 + c ≤ f 1
      omega
    · intro h
      have := h 0 (Nat.le_refl _)
      rw [tl_zero] at this
      have e : 0 + c ≤ f 1 := this
      show c ≤ f 1
      omega
  | n + 1 => by
    have ih := le_freeK (f := f) (us := us) (c := c) (n := n)
    constructor
    · intro h k hk
      unfold freeK at h
      by_cases z : k = n + 1
      · subst z
        rw [show ((n + 1 : Nat) : Int) + 1 = (n : Int) + 2 by omega]
        omega
      · exact ih.mp (by omega) k (by omega)
    · intro h
      have a := ih.mpr fun k hk => h k (by omega)
      have b := h (n + 1) (Nat.le_refl _)
      rw [show ((n + 1 : Nat) : Int) + 1 = (n : Int) + 2 by omega] at b
      unfold freeK
      omega
theorem le_free {f : Int → Int} {us : List Int} {c : Int} : c ≤ freeM f us ↔ ∀ k : Nat, k ≤ us.length → tl us k + c ≤ f ((k : Int) + 1) := le_freeK
/-- no window has too many -/
def Kept (f : Int → Int) (us : List Int) : Prop := ∀ s k : Nat, 1 ≤ k → s + k ≤ us.length → win us s k ≤ f k
theorem Kept.push {f : Int → Int} {e : List Int} {x : Int} (h : Kept f e) (hx : x ≤ freeM f e) : Kept f (e ++ [x]) := by
  intro s k h1 h2
  rw [List.length_append, List.length_singleton] at h2
  by_cases c : s + k ≤ e.length
  · have := h s k h1 c
    unfold win at this ⊢
    rw [pre_push (by omega), pre_push (by omega)]
    exact this
  · have a := le_free.mp hx (k - 1) (by omega)
    have b := tl_push (e := e) (x := x) (k := k - 1) (by omega)
    rw [show k - 1 + 1 = k by omega] at b
    unfold tl at b
    rw [List.length_append, List.length_singleton, show ((e.length + 1 : Nat) : Int) - (k : Int) = (s : Int) by omega] at b
    rw [show ((k - 1 : Nat) : Int) + 1 = (k : Int) by omega] at a
    rw [b]
    exact a
theorem Kept.front {f : Int → Int} {e : List Int} {x : Int} (h : Kept f (e ++ [x])) : Kept f e := by
  intro s k h1 h2
  have a := h s k h1 (by rw [List.length_append, List.length_singleton]; omega)
  unfold win at a ⊢
  rw [pre_push (by omega), pre_push (by omega)] at a
  exact a
theorem Kept.free {f : Int → Int} {e : List Int} {x : Int} (h : Kept f (e ++ [x])) : x ≤ freeM f e := by
  refine le_free.mpr fun k hk => ?_
  have a := h (e.length - k) (k + 1) (by omega) (by rw [List.length_append, List.length_singleton]; omega)
  have b := tl_push (e := e) (x := x) (k := k) hk
  unfold tl at b
  rw [List.length_append, List.length_singleton, show ((e.length + 1 : Nat) : Int) - ((k + 1 : Nat) : Int) = ((e.length - k : Nat) : Int) by omega] at b
  rw [b] at a
  have z : ((k + 1 : Nat) : Int) = (k : Int) + 1 := by omega
  rw [z] at a
  exact a
theorem Kept.nil {f : Int → Int} : Kept f [] := fun s k h1 h2 => by
  have : s + k ≤ 0 := h2
  omega
theorem firstN_none {p : Nat → Bool} : ∀ {k i : Nat}, firstN p k i = none ↔ ∀ j, i ≤ j → j < i + k → p j = false
  | 0, i => ⟨fun _ => fun j a b => absurd b (by omega), fun _ => rfl⟩
  | k + 1, i => by
    have ih := firstN_none (p := p) (k := k) (i := i + 1)
    unfold firstN
    by_cases c : p i = true
    · rw [if_pos c]
      refine ⟨fun h => (by cases h), fun h => ?_⟩
      rw [h i (Nat.le_refl _) (by omega)] at c
      cases c
    · rw [if_neg c, ih]
      refine ⟨fun h j a b => ?_, fun h j a b => h j (by omega) (by omega)⟩
      by_cases z : j = i
      · rw [z]; simpa using c
      · exact h j (by omega) (by omega)
theorem brk_none {f : Int → Int} {us : List Int} : ∀ {k len : Nat}, brk f us k len = none ↔ ∀ t : Nat, len ≤ t → t < len + k → ∀ s : Nat, s < us.length + 1 - t → win us s t ≤ f t
  | 0, len => ⟨fun _ => fun t a b => absurd b (by omega), fun _ => rfl⟩
  | k + 1, len => by
    have ih := brk_none (f := f) (us := us) (k := k) (len := len + 1)
    have fn := firstN_none (p := fun s => decide (f len < win us s len)) (k := us.length + 1 - len) (i := 0)
    unfold brk
    cases hh : firstN (fun s => decide (f len < win us s len)) (us.length + 1 - len) 0 with
    | some s =>
      refine ⟨fun h => (by cases h), fun h => ?_⟩
      have : firstN (fun s => decide (f len < win us s len)) (us.length + 1 - len) 0 = none := fn.mpr fun j _ b => by
        have := h len (Nat.le_refl _) (by omega) j (by omega)
        exact decide_eq_false (by omega)
      rw [hh] at this; cases this
    | none =>
      show brk f us k (len + 1) = none ↔ _
      rw [ih]
      refine ⟨fun h t a b s hs => ?_, fun h t a b s hs => h t (by omega) (by omega) s hs⟩
      by_cases z : t = len
      · subst z
        have := fn.mp hh s (Nat.zero_le _) (by omega)
        have := of_decide_eq_false this
        omega
      · exact h t (by omega) (by omega) s hs
theorem kept_iff {f : Int → Int} {us : List Int} : breachM f us = none ↔ Kept f us := by
  unfold breachM
  rw [brk_none]
  exact ⟨fun h s k h1 h2 => h k h1 (by omega) s (by omega), fun h t a b s hs => h s t a (by omega)⟩
/-! ### shaped -/
def shS (f : Int → Int) (st : List Int × Int) (u : Int) : List Int × Int := (st.1 ++ [min (st.2 + u) (freeM f st.1)], st.2 + u - min (st.2 + u) (freeM f st.1))
def shG (f : Int → Int) (us : List Int) : List Int × Int := us.foldl (shS f) ([], 0)
def shapedM (f : Int → Int) (us : List Int) : List Int := (shG f us).1
theorem shG_push {f : Int → Int} {us : List Int} {u : Int} : shG f (us ++ [u]) = shS f (shG f us) u := by
  unfold shG; rw [List.foldl_append]; rfl
theorem shG_take {f : Int → Int} {us : List Int} {i : Nat} (h : i < us.length) : shG f (us.take (i + 1)) = shS f (shG f (us.take i)) (us.getD i 0) := by
  rw [← shG_push, List.take_add_one, List.getElem?_eq_getElem h, List.getD_eq_getElem?_getD, List.getElem?_eq_getElem h]
  rfl
theorem shG_length {f : Int → Int} (us : List Int) : (shG f us).1.length = us.length := by
  refine snoc_ind (P := fun us => (shG f us).1.length = us.length) rfl (fun l x ih => ?_) us
  show (shG f (l ++ [x])).1.length = (l ++ [x]).length
  rw [shG_push]
  unfold shS
  rw [List.length_append, List.length_append, ih]
  rfl
theorem shaped_length {f : Int → Int} (us : List Int) : (shapedM f us).length = us.length := shG_length us
theorem shaped_kept {f : Int → Int} (us : List Int) : Kept f (shapedM f us) := by
  refine snoc_ind (P := fun us => Kept f (shapedM f us)) Kept.nil (fun l x ih => ?_) us
  show Kept f (shG f (l ++ [x])).1
  rw [shG_push]
  exact Kept.push ih (by show min _ _ ≤ _; unfold shapedM at *; omega)
theorem kept_shaped {f : Int → Int} {us : List Int} (h : Kept f us) : shG f us = (us, 0) := by
  revert h
  refine snoc_ind (P := fun us => Kept f us → shG f us = (us, 0)) (fun _ => rfl) (fun l x ih h => ?_) us
  have a := h.free
  rw [shG_push, ih h.front]
  unfold shS
  simp only
  rw [show min (0 + x) (freeM f l) = x by omega]
  congr 1
  omega
/-- rising values from 1 on -/
structure Up (f : Int → Int) : Prop where
  one : 0 ≤ f 1
  up : ∀ k : Nat, 1 ≤ k → f k ≤ f ((k : Int) + 1)
theorem Up.free {f : Int → Int} (U : Up f) {e : List Int} (h : Kept f e) : 0 ≤ freeM f e := by
  refine le_free.mpr fun k hk => ?_
  by_cases z : k = 0
  · subst z
    rw [tl_zero]
    have := U.one
    show 0 + 0 ≤ f 1
    omega
  · have a := h (e.length - k) k (by omega) (by omega)
    have b := U.up k (by omega)
    unfold tl
    rw [show (e.length : Int) - (k : Int) = ((e.length - k : Nat) : Int) by omega]
    omega
theorem sum_snoc {l : List Int} {x : Int} : (l ++ [x]).sum = l.sum + x := by rw [List.sum_append]; simp
/-- what entered and waits: counts, together what came -/
theorem shG_bound {f : Int → Int} (U : Up f) {us : List Int} (h : ∀ u ∈ us, 0 ≤ u) : 0 ≤ (shG f us).2 ∧ (shG f us).1.sum + (shG f us).2 = us.sum ∧ ∀ x ∈ (shG f us).1, 0 ≤ x ∧ x ≤ us.sum := by
  revert h
  refine snoc_ind (P := fun us => (∀ u ∈ us, 0 ≤ u) → 0 ≤ (shG f us).2 ∧ (shG f us).1.sum + (shG f us).2 = us.sum ∧ ∀ x ∈ (shG f us).1, 0 ≤ x ∧ x ≤ us.sum) (fun _ => ⟨Int.le_refl _, rfl, fun x hx => by cases hx⟩) (fun l u ih h => ?_) us
  have hu := h u (by simp)
  obtain ⟨a, b, c⟩ := ih fun y hy => h y (List.mem_append_left _ hy)
  have fr := U.free (shaped_kept (f := f) l)
  unfold shapedM at fr
  have ps : 0 ≤ (shG f l).1.sum := by
    have : ∀ r : List Int, (∀ x ∈ r, 0 ≤ x) → 0 ≤ r.sum := fun r => by
      induction r with
      | nil => intro _; decide
      | cons z r ih => intro q; rw [List.sum_cons]; have := q z List.mem_cons_self; have := ih fun y hy => q y (List.mem_cons_of_mem _ hy); omega
    exact this _ fun x hx => (c x hx).1
  rw [shG_push, sum_snoc]
  unfold shS
  simp only [sum_snoc]
  refine ⟨by omega, by omega, fun x hx => ?_⟩
  rcases List.mem_append.mp hx with q | q
  · have := c x q; omega
  · cases List.mem_singleton.mp q
    omega
theorem shaped_front {f : Int → Int} {us vs : List Int} : (shapedM f (us ++ vs)).take us.length = shapedM f us := by
  refine snoc_ind (P := fun vs => (shapedM f (us ++ vs)).take us.length = shapedM f us) ?_ (fun l x ih => ?_) vs
  · show (shapedM f (us ++ [])).take us.length = shapedM f us
    rw [List.append_nil, ← shaped_length (f := f) us, List.take_length]
  · show (shapedM f (us ++ (l ++ [x]))).take us.length = shapedM f us
    rw [← List.append_assoc]
    unfold shapedM at ih ⊢
    rw [shG_push]
    unfold shS
    rw [List.take_append_of_le_length (by rw [shG_length, List.length_append]; omega)]
    exact ih
theorem freeK_congr {f g : Int → Int} {e : List Int} : ∀ {n : Nat}, (∀ t : Int, 1 ≤ t → t ≤ (n : Int) + 1 → f t = g t) → freeK f e n = freeK g e n
  | 0, h => h 1 (by omega) (by omega)
  | n + 1, h => by
    unfold freeK
    rw [freeK_congr (n := n) fun t a b => h t a (by omega), h ((n : Int) + 2) (by omega) (by omega)]
theorem shG_congr {f g : Int → Int} {us : List Int} (h : ∀ t : Int, 1 ≤ t → t ≤ us.length → f t = g t) : shG f us = shG g us := by
  revert h
  refine snoc_ind (P := fun us => (∀ t : Int, 1 ≤ t → t ≤ us.length → f t = g t) → shG f us = shG g us) (fun _ => rfl) (fun l x ih h => ?_) us
  rw [List.length_append, List.length_singleton] at h
  rw [shG_push, shG_push, ih fun t a b => h t a (by omega)]
  unfold shS freeM
  rw [freeK_congr fun t a b => h t a (by rw [shG_length] at b; omega)]
/-- a curve that rises where it is written rises -/
theorem up_cv {vs : List Int} {p g : Int} (hp : 0 < p) (hpn : p ≤ vs.length) (h0 : 0 ≤ vs.getD 0 0) (up : ∀ i, i + 1 < vs.length → vs.getD i 0 ≤ vs.getD (i + 1) 0) (last : vs.getD (vs.length - 1) 0 ≤ vs.getD (vs.length - p.toNat) 0 + g) : Up (cvAt vs p g) := by
  refine ⟨by rw [cvAt_in (by decide) (by omega)]; exact h0, fun k => ?_⟩
  induction k using Nat.strongRecOn with
  | ind k ih =>
    intro h1
    by_cases c : k < vs.length
    · rw [cvAt_in (by omega) (by omega), cvAt_in (by omega) (by omega), show ((k : Int) - 1).toNat = k - 1 by omega, show ((k : Int) + 1 - 1).toNat = k - 1 + 1 by omega]
      exact up (k - 1) (by omega)
    · by_cases d : k = vs.length
      · rw [cvAt_back (t := (k : Int) + 1) hp hpn (by omega), cvAt_in (by omega) (by omega), cvAt_in (by omega) (by omega), show ((k : Int) - 1).toNat = vs.length - 1 by omega, show ((k : Int) + 1 - p - 1).toNat = vs.length - p.toNat by omega]
        exact last
      · rw [cvAt_back (t := (k : Int) + 1) hp hpn (by omega), cvAt_back (t := (k : Int)) hp hpn (by omega)]
        have := ih (k - p.toNat) (by omega) (by omega)
        rw [show ((k - p.toNat : Nat) : Int) = (k : Int) - p by omega] at this
        rw [show (k : Int) + 1 - p = (k : Int) - p + 1 by omega]
        omega
/-- no pair of lengths up to n shows a break -/
def goodB (f : Int → Int) (n : Nat) : Bool := (List.range n).all fun a => (List.range (a + 1)).all fun b => decide (f ((a : Int) + 1 + ((b : Int) + 1)) ≤ f ((a : Int) + 1) + f ((b : Int) + 1))
theorem good_at {f : Int → Int} {n : Nat} (h : goodB f n = true) {a b : Int} (h1 : 1 ≤ b) (h2 : b ≤ a) (h3 : a ≤ n) : f (a + b) ≤ f a + f b := by
  unfold goodB at h
  rw [List.all_eq_true] at h
  have x := h (a - 1).toNat (List.mem_range.mpr (by omega))
  rw [List.all_eq_true] at x
  have y := of_decide_eq_true (x (b - 1).toNat (List.mem_range.mpr (by omega)))
  rw [show (((a - 1).toNat : Nat) : Int) + 1 = a by omega, show (((b - 1).toNat : Nat) : Int) + 1 = b by omega] at y
  exact y
end VM

/-! shaped is the greatest; curves that are good at all lengths; greedy records; plain Lean. -/
namespace VM
/-- no unit of vs enters ahead of its coming in us -/
def Behind (us vs : List Int) : Prop := vs.length = us.length ∧ ∀ i : Nat, i ≤ us.length → pre vs i ≤ pre us i
theorem pre_take {us : List Int} {i : Nat} : pre us i = (us.take i).sum := by
  unfold pre; rw [Int.toNat_natCast]
theorem pre_len {us : List Int} {i : Int} (h : (us.length : Int) ≤ i) : pre us i = us.sum := by
  unfold pre; rw [List.take_of_length_le (by omega)]
theorem tl_pre {us : List Int} {k : Nat} (h : k ≤ us.length) : tl us k = us.sum - pre us ((us.length : Int) - k) := by
  unfold tl win
  rw [show (us.length : Int) - (k : Int) + (k : Int) = us.length by omega, pre_all]
/-- free is one of the windows -/
theorem freeK_some {f : Int → Int} {us : List Int} : ∀ n : Nat, ∃ k : Nat, k ≤ n ∧ freeK f us n = f ((k : Int) + 1) - tl us k
  | 0 => ⟨0, Nat.le_refl _, by rw [tl_zero]; show f 1 = f ((0 : Int) + 1) - 0; rw [Int.zero_add]; omega⟩
  | n + 1 => by
    obtain ⟨k, hk, e⟩ := freeK_some (f := f) (us := us) n
    unfold freeK
    by_cases c : freeK f us n ≤ f ((n : Int) + 2) - tl us (n + 1)
    · exact ⟨k, by omega, by omega⟩
    · refine ⟨n + 1, Nat.le_refl _, ?_⟩
      rw [show ((n + 1 : Nat) : Int) + 1 = (n : Int) + 2 by omega]
      omega
theorem shG_front {f : Int → Int} {us : List Int} {i : Nat} (h : i ≤ us.length) : (shG f (us.take i)).1 = (shapedM f us).take i := by
  have e : us.take i ++ us.drop i = us := List.take_append_drop i us
  have s := shaped_front (f := f) (us := us.take i) (vs := us.drop i)
  rw [e, List.length_take, Nat.min_eq_left h] at s
  exact s.symm
theorem shG_sum {f : Int → Int} (us : List Int) : (shG f us).1.sum + (shG f us).2 = us.sum := by
  refine snoc_ind (P := fun us => (shG f us).1.sum + (shG f us).2 = us.sum) rfl (fun l u ih => ?_) us
  show (shG f (l ++ [u])).1.sum + (shG f (l ++ [u])).2 = (l ++ [u]).sum
  rw [shG_push, sum_snoc]
  unfold shS
  simp only [sum_snoc]
  omega
/-- the units so far of the shaped record -/
theorem shaped_pre {f : Int → Int} {us : List Int} {i : Nat} (h : i ≤ us.length) : pre (shapedM f us) i = (shG f (us.take i)).1.sum := by
  rw [shG_front h, pre_take]
theorem shaped_greatest {f : Int → Int} {us vs : List Int} (B : Behind us vs) (K : Kept f vs) : ∀ i : Nat, i ≤ us.length → pre vs i ≤ pre (shapedM f us) i := by
  intro i
  induction i using Nat.strongRecOn with
  | ind i ih =>
    intro hi
    match i with
    | 0 => rw [show ((0 : Nat) : Int) = 0 from rfl, pre_zero, pre_zero]; exact Int.le_refl _
    | i + 1 =>
      have st := shG_take (f := f) (us := us) (i := i) (by omega)
      have sm := shG_sum (f := f) (us.take i)
      have p1 := shaped_pre (f := f) (us := us) (i := i + 1) hi
      have p0 := shaped_pre (f := f) (us := us) (i := i) (by omega)
      have lg : (shG f (us.take i)).1.length = i := by rw [shG_length, List.length_take]; omega
      rw [p1, st]
      have us1 := pre_step (us := us) (i := i) (by omega)
      have ut : (us.take i).sum = pre us i := pre_take.symm
      have bi := B.2 (i + 1) hi
      rw [show ((i + 1 : Nat) : Int) = (i : Int) + 1 by omega] at bi ⊢
      unfold shS
      simp only [sum_snoc]
      by_cases c : (shG f (us.take i)).2 + us.getD i 0 ≤ freeM f (shG f (us.take i)).1
      · omega
      · obtain ⟨k, hk, e⟩ := freeK_some (f := f) (us := (shG f (us.take i)).1) (shG f (us.take i)).1.length
        rw [lg] at hk
        have tp := tl_pre (us := (shG f (us.take i)).1) (k := k) (by omega)
        rw [lg] at tp
        have pk : pre (shG f (us.take i)).1 ((i : Int) - k) = pre (shapedM f us) ((i - k : Nat) : Int) := by
          rw [shG_front (by omega), show (i : Int) - (k : Int) = ((i - k : Nat) : Int) by omega, pre_take, pre_take, List.take_take, Nat.min_eq_left (by omega)]
        have q := ih (i - k) (by omega) (by omega)
        have w := K (i - k) (k + 1) (by omega) (by rw [B.1]; omega)
        unfold win at w
        rw [show ((i - k : Nat) : Int) + ((k + 1 : Nat) : Int) = (i : Int) + 1 by omega, show ((k + 1 : Nat) : Int) = (k : Int) + 1 by omega] at w
        have fm : freeM f (shG f (us.take i)).1 = f ((k : Int) + 1) - tl (shG f (us.take i)).1 k := e
        omega
/-- the shaped record is behind what comes -/
theorem shaped_behind {f : Int → Int} {us : List Int} (U : Up f) (h : ∀ u ∈ us, 0 ≤ u) : Behind us (shapedM f us) := by
  refine ⟨shaped_length us, fun i hi => ?_⟩
  have a := shG_bound (f := f) U (us := us.take i) fun u hu => h u (List.mem_of_mem_take hu)
  rw [shaped_pre hi, pre_take]
  omega
/-- good at the lengths of the form: good at all lengths -/
theorem good_all {f : Int → Int} {n p g : Int} (R : Rep f n p g) (hp : 0 < p) (hpn : p ≤ n) (h0 : f 0 = 0) (G : ∀ a b : Int, 1 ≤ b → b ≤ a → a ≤ n → f (a + b) ≤ f a + f b) : ∀ a b : Int, 0 ≤ a → 0 ≤ b → f (a + b) ≤ f a + f b := by
  have half : ∀ (k : Nat) (a b : Int), 0 ≤ b → b ≤ a → a + b = k → f (a + b) ≤ f a + f b := by
    intro k
    induction k using Nat.strongRecOn with
    | ind k ih =>
      intro a b hb hba e
      by_cases z : b = 0
      · subst z; rw [h0, Int.add_zero]; omega
      · by_cases c : a ≤ n
        · exact G a b (by omega) hba c
        · have r1 := R a (by omega)
          have r2 := R (a + b) (by omega)
          rw [show a + b - p = a - p + b by omega] at r2
          have : f (a - p + b) ≤ f (a - p) + f b := by
            by_cases d : b ≤ a - p
            · exact ih (a - p + b).toNat (by omega) (a - p) b hb d (by omega)
            · have := ih (a - p + b).toNat (by omega) b (a - p) (by omega) (by omega) (by omega)
              rw [show b + (a - p) = a - p + b by omega] at this
              omega
          omega
  intro a b ha hb
  by_cases c : b ≤ a
  · exact half (a + b).toNat a b hb c (by omega)
  · have := half (a + b).toNat b a ha (by omega) (by omega)
    rw [show b + a = a + b by omega] at this
    omega
/-- the greedy record of n ticks -/
def greedyM (f : Int → Int) (n : Nat) : List Int := (List.range n).map fun t : Nat => f ((t : Int) + 1) - f t
theorem greedy_length {f : Int → Int} {n : Nat} : (greedyM f n).length = n := by simp [greedyM]
theorem greedy_succ {f : Int → Int} {n : Nat} : greedyM f (n + 1) = greedyM f n ++ [f ((n : Int) + 1) - f n] := by
  unfold greedyM; rw [List.range_succ, List.map_append]; rfl
theorem greedy_sum {f : Int → Int} (h0 : f 0 = 0) : ∀ n : Nat, (greedyM f n).sum = f n
  | 0 => by show (0 : Int) = f 0; omega
  | n + 1 => by
    rw [greedy_succ, sum_snoc, greedy_sum h0 n, show ((n + 1 : Nat) : Int) = (n : Int) + 1 by omega]
    omega
theorem greedy_take {f : Int → Int} {n i : Nat} (h : i ≤ n) : (greedyM f n).take i = greedyM f i := by
  unfold greedyM; rw [← List.map_take, List.take_range, Nat.min_eq_left h]
theorem greedy_pre {f : Int → Int} (h0 : f 0 = 0) {n i : Nat} (h : i ≤ n) : pre (greedyM f n) i = f i := by
  rw [pre_take, greedy_take h, greedy_sum h0]
theorem greedy_kept {f : Int → Int} (h0 : f 0 = 0) (G : ∀ a b : Int, 0 ≤ a → 0 ≤ b → f (a + b) ≤ f a + f b) (n : Nat) : Kept f (greedyM f n) := by
  intro s k h1 h2
  rw [greedy_length] at h2
  unfold win
  rw [show (s : Int) + (k : Int) = ((s + k : Nat) : Int) by omega, greedy_pre h0 h2, greedy_pre h0 (by omega)]
  have := G s k (by omega) (by omega)
  rw [show ((s + k : Nat) : Int) = (s : Int) + (k : Int) by omega]
  omega
/-- ahead of every record that keeps the curve -/
theorem greedy_ahead {f : Int → Int} (h0 : f 0 = 0) {vs : List Int} (K : Kept f vs) {n i : Nat} (hn : vs.length = n) (hi : i ≤ n) : pre vs i ≤ pre (greedyM f n) i := by
  rw [greedy_pre h0 hi]
  by_cases z : i = 0
  · subst z
    rw [show ((0 : Nat) : Int) = 0 from rfl, pre_zero, h0]
    exact Int.le_refl _
  · have := K 0 i (by omega) (by omega)
    unfold win at this
    rw [show ((0 : Nat) : Int) + (i : Int) = i by omega, show ((0 : Nat) : Int) = 0 from rfl, pre_zero] at this
    omega
end VM

/-! What repr may be asked of: shown, not deep, not long. -/
namespace VR
open PySem
structure Sz (k L : Nat) (d : PyData) : Prop where
  sh : d.showable = true
  dp : d.depth ≤ k
  ln : d.shown.length ≤ L
theorem Sz.mono {k L k' L' : Nat} {d : PyData} (h : Sz k L d) (a : k ≤ k') (b : L ≤ L') : Sz k' L' d := ⟨h.sh, Nat.le_trans h.dp a, Nat.le_trans h.ln b⟩
theorem Sz.none : Sz 0 5 .none := ⟨rfl, Nat.zero_le _, by decide⟩
theorem Sz.bool (b : Bool) : Sz 0 5 (.bool b) := ⟨rfl, Nat.zero_le _, by cases b <;> decide⟩
theorem log_small {n : Nat} (h : n < 10 ^ 100) : n.log2 < 1920 := by
  by_cases z : n = 0
  · subst z; decide
  · exact (Nat.log2_lt z).mpr (Nat.lt_trans h (by decide +kernel))
theorem Sz.int {i : Int} (h : i.natAbs < 10 ^ 100) : Sz 0 101 (.int i) := by
  refine ⟨by simp only [PyData.showable]; exact decide_eq_true (log_small h), Nat.zero_le _, ?_⟩
  have e := int_text_length_le10 (k := 100) (by decide) h
  show (Str.ofString (toString i)).length ≤ 101
  rw [ofString_length]; exact e
theorem all_show {k L : Nat} : ∀ {ds : List PyData}, (∀ d ∈ ds, Sz k L d) → PyData.showableAll ds = true
  | [], _ => rfl
  | d :: ds, h => by
    simp only [PyData.showableAll]
    rw [(h d List.mem_cons_self).sh, all_show fun e he => h e (List.mem_cons_of_mem _ he)]
    rfl
theorem all_depth {k L : Nat} : ∀ {ds : List PyData}, (∀ d ∈ ds, Sz k L d) → PyData.depthAll ds ≤ k
  | [], _ => Nat.zero_le _
  | d :: ds, h => by
    simp only [PyData.depthAll]
    exact Nat.max_le.mpr ⟨(h d List.mem_cons_self).dp, all_depth fun e he => h e (List.mem_cons_of_mem _ he)⟩
theorem all_len {k L : Nat} : ∀ {ds : List PyData}, (∀ d ∈ ds, Sz k L d) → ((PyData.shownAll ds).map (·.length)).sum ≤ L * ds.length ∧ (PyData.shownAll ds).length = ds.length
  | [], _ => ⟨Nat.zero_le _, rfl⟩
  | d :: ds, h => by
    have a := (h d List.mem_cons_self).ln
    obtain ⟨b, c⟩ := all_len (ds := ds) fun e he => h e (List.mem_cons_of_mem _ he)
    simp only [PyData.shownAll, List.map_cons, List.sum_cons, List.length_cons]
    refine ⟨?_, by omega⟩
    rw [Nat.mul_add, Nat.mul_one]
    omega
theorem Sz.list {k L n : Nat} {ds : List PyData} (h : ∀ d ∈ ds, Sz k L d) (hn : ds.length ≤ n) : Sz (k + 1) ((L + 2) * n + 3) (.list ds) := by
  refine ⟨by simp only [PyData.showable]; exact all_show h, by simp only [PyData.depth]; have := all_depth h; omega, ?_⟩
  obtain ⟨a, b⟩ := all_len h
  have c := listText_len_le (PyData.shownAll ds)
  simp only [PyData.shown]
  rw [b] at c
  have m : (L + 2) * ds.length ≤ (L + 2) * n := Nat.mul_le_mul_left _ hn
  rw [Nat.add_mul] at m
  omega
theorem Sz.tuple {k L n : Nat} {ds : List PyData} (h : ∀ d ∈ ds, Sz k L d) (hn : ds.length ≤ n) : Sz (k + 1) ((L + 2) * n + 3) (.tuple ds) := by
  refine ⟨by simp only [PyData.showable]; exact all_show h, by simp only [PyData.depth]; have := all_depth h; omega, ?_⟩
  obtain ⟨a, b⟩ := all_len h
  have c := tupleText_len_le (PyData.shownAll ds)
  simp only [PyData.shown]
  rw [b] at c
  have m : (L + 2) * ds.length ≤ (L + 2) * n := Nat.mul_le_mul_left _ hn
  rw [Nat.add_mul] at m
  omega
theorem Sz.ints {n : Nat} {us : List Int} (h : ∀ u ∈ us, u.natAbs < 10 ^ 100) (hn : us.length ≤ n) : Sz 1 (103 * n + 3) (.list (us.map PyData.int)) := by
  refine Sz.list (k := 0) (L := 101) (fun d hd => ?_) (by rw [List.length_map]; exact hn)
  obtain ⟨u, hu, rfl⟩ := List.mem_map.mp hd
  exact .int (h u hu)
end VR

/-! for i, x in enumerate(xs, start=k), and over reversed(xs). -/
namespace VE
open PySem PySem.Spec PyProof.Rows L2
section
variable {prog : Program} {w : World} {A : Around} {E : Value → Shared → Prop} {s : Shared}
theorem next_rev {it l : Addr} {i : Nat} {items : Array Value} {x : Value} {Q : Value → Shared → Prop} (hit : s.heap.IsRevIter it l (i : Int)) (hl : s.heap.IsList l items)
    (hx : items[i]? = some x) (hQ : ∀ h', h'.IsRevIter it l ((i : Int) - 1) → Heap.SameBut it s.heap h' → Q x { s with heap := h' }) :
    wpAny (model prog w) A (Builtin.SmallTypes.nextOf (.ref it)) Q E s := by
  obtain ⟨ob, g1, g2, g3⟩ := id hit
  obtain ⟨ol, k1, _, nl, k2⟩ := hl
  have slot := F.slot_lri_next
  unfold Builtin.SmallTypes.nextOf
  refine wpAny_bind (wpAny_callSpecial?_slot (name := Str.ofString "__next__") hit.typeIs slot (wpAny_call_entry slot hit.typeIs F.entry_lri_next ?_ (F.args_lri_next_1 _)))
  unfold Builtin.«list_reverseiterator.__next__» ; refine wpAny_bind (wpAny_of_eq (a := (Value.ref it, [])) rfl ?_)
  try dsimp only
  refine wpAny_bind (wpAny_field g1 g3 (x := rawInt (i : Int)) rfl ?_)
  show wpAny _ A.in1 (if (i : Int) < 0 then _ else _) _ _ s
  rw [if_neg (show ¬ (i : Int) < 0 by omega)]
  show wpAny _ A.in1 (field (.ref it) 0 >>= _) _ _ s
  refine wpAny_bind (wpAny_field g1 g3 (x := .ref l) rfl ?_)
  show wpAny _ A.in1 (seqItems? (.ref l) >>= _) _ _ s
  refine wpAny_bind (wpAny_seqItems k1 k2 ?_)
  simp only [Int.toNat_natCast, hx]
  refine wpAny_bind (wpAny_setField g1 g3 (by simp) ?_)
  have here : (s.heap.update it fun o => o.mapFields fun vs => vs.setIfInBounds 1 (rawInt ((i : Int) - 1))).IsRevIter it l ((i : Int) - 1) := by
    refine ⟨_, Heap.get?_update_self _ g1 (Obj.isFreed_of_fields (Obj.data_mapFields g3 _)), (Obj.cls_mapFields ..).trans g2, ?_⟩
    rw [Obj.data_mapFields g3]
    simp
  first
  | exact wpAny_pure ⟨x, rfl, wpAny_pure (hQ _ here (Heap.SameBut.update ..))⟩
  | exact wpAny_bind (wpAny_pure (wpAny_pure ⟨x, rfl, wpAny_pure (hQ _ here (Heap.SameBut.update ..))⟩))
theorem next_rev_end {it l : Addr} {Q : Value → Shared → Prop} (hh : A.handled = none) (hit : s.heap.IsRevIter it l (-1))
    (hE : ∀ h' e, Heap.ExtBut it s.heap h' → (∃ o, h'.get? e = some o ∧ o.cls = .type "StopIteration") → E (.ref e) { s with heap := h' }) :
    wpAny (model prog w) A (Builtin.SmallTypes.nextOf (.ref it)) Q E s := by
  obtain ⟨ob, g1, g2, g3⟩ := id hit
  have slot := F.slot_lri_next
  unfold Builtin.SmallTypes.nextOf
  refine wpAny_bind (wpAny_callSpecial?_slot (name := Str.ofString "__next__") hit.typeIs slot (wpAny_call_entry slot hit.typeIs F.entry_lri_next ?_ (F.args_lri_next_1 _)))
  unfold Builtin.«list_reverseiterator.__next__» ; refine wpAny_bind (wpAny_of_eq (a := (Value.ref it, [])) rfl ?_)
  try dsimp only
  refine wpAny_bind (wpAny_field g1 g3 (x := rawInt (-1)) rfl ?_)
  show wpAny _ A.in1 (if (-1 : Int) < 0 then _ else _) _ _ s
  rw [if_pos (show (-1 : Int) < 0 by decide)]
  refine wpAny_bind (wpAny_rule ?_)
  first
  | show wpAny _ A.in1 (newExc (.type "StopIteration") [] >>= _) _ _ _
  | (refine wpAny_bind ?_; show wpAny _ A.in1 (newExc (.type "StopIteration") [] >>= _) _ _ _)
  refine wpAny_bind ?_
  simp only [newExc, newTuple]
  refine wpAny_bind (wpAny_newObj_type ?_ (by size_fits)) ; refine wpAny_bind (m := firstArgMember _ _) (wpAny_of_eq (a := Value.none) (by first | rfl | (simp only [firstArgMember]; rfl)) ?_)
  refine wpAny_newObj_type ?_ (by size_fits)
  simp only [raiseNew]
  refine wpAny_bind (wpAny_handled ?_)
  first | rw [show A.in1.handled = none from hh] | rw [hh]
  refine wpAny_bind (wpAny_pure (wpAny_throw ?_))
  exact hE _ _ (((Heap.ExtBut.refl _ _).push _).push _) ⟨_, Heap.get?_push_size _ rfl, rfl⟩
end
theorem draws_rev {prog : Program} {w : World} {A : Around} (hh : A.handled = none) (it l : Addr) (hne : l ≠ it) (items : Array Value) :
    Draws prog w A it [it, l] items.size (fun i v => items[items.size - 1 - i]? = some v)
      (fun i h => i ≤ items.size ∧ h.IsRevIter it l ((items.size : Int) - 1 - (i : Int)) ∧ h.IsList l items) where
  live := fun _ _ st => let ⟨o, ho, _⟩ := st.2.1; ⟨o, ho⟩
  frame := fun _ _ _ st k => ⟨st.1, st.2.1.at fun o e => k it (by simp) o e, st.2.2.at fun o e => k l (by simp) o e⟩
  item := fun i s Q E hi st hQ => by
    obtain ⟨_, hit, hl⟩ := st
    rw [show (items.size : Int) - 1 - (i : Int) = ((items.size - 1 - i : Nat) : Int) by omega] at hit
    have hx : items[items.size - 1 - i]? = some (items[items.size - 1 - i]'(by omega)) := Array.getElem?_eq_getElem (by omega)
    refine next_rev hit hl hx fun h' hit' sb => hQ _ h' s.toks hx ⟨hi, ?_, hl.extBut sb.extBut hne⟩ sb
    rw [show (items.size : Int) - 1 - ((i + 1 : Nat) : Int) = ((items.size - 1 - i : Nat) : Int) - 1 by omega]
    exact hit'
  done := fun s Q E st hE => by
    obtain ⟨_, hit, _⟩ := st
    rw [show (items.size : Int) - 1 - (items.size : Int) = -1 by omega] at hit
    exact next_rev_end hh hit hE

/-- what may be iterated as it is: iter(v) is v -/
structure Self (v : Value) (H : Heap → Prop) : Prop where
  iter : ∀ (prog : Program) (w : World) (A : Around) (E : Value → Shared → Prop) (s : Shared) (Q : Value → Shared → Prop), H s.heap → Q v s → wpAny (model prog w) A (pyIter v) Q E s
theorem self_rev (it l : Addr) (i : Int) : Self (.ref it) fun h => h.IsRevIter it l i := ⟨fun _ _ _ _ _ _ h q => wpAny_pyIter_revIter h q⟩
set_option maxHeartbeats 4000000 in
theorem new_enum {v : Value} {H : Heap → Prop} (B : Self v H) (k : Int) (t : Tok) (hfit : Builtin.SmallTypes.fitsIndex k = true) :
    Meets (Builtin.«enumerate.__new__» ⟨[.type "enumerate", v], [(Str.ofString "start", .int k t)]⟩) (fun _ R s => H s.heap ∧
      R (.ok (.ret (.ref s.heap.objs.size))) { s with heap := s.heap.push { cls := .type "enumerate", data := .fields #[.none, .bool false, v, rawInt k, .none, .none] } }) := by
  refine .of_wp fun prog w A R s h => ?_
  obtain ⟨hp, g, d, tk, os⟩ := s
  obtain ⟨h1, h⟩ := h
  have hsub := sub_enumerate
  have hnf : (!Builtin.SmallTypes.fitsIndex k) = false := by rw [hfit] ; rfl
  have q1 : ∀ {A' : Around} {E : Value → Shared → Prop} {Q : Value → Shared → Prop}, Q v ⟨hp, g, d, tk, os⟩ → wpAny (model prog w) A' (pyIter v) Q E ⟨hp, g, d, tk, os⟩ := fun q => B.iter prog w _ _ _ _ h1 q
  have a1 : (Str.ofString "start" == ("start" : Str)) = true := by decide +kernel
  have a2 : (Str.ofString "start" != ("start" : Str)) = false := by decide +kernel
  have a3 : (Str.ofString "start" != ("iterable" : Str)) = true := by decide +kernel
  have a4 : (("start" : Str) == Str.ofString "start") = true := by decide +kernel
  have a5 : (("iterable" : Str) == Str.ofString "start") = false := by decide +kernel
  wp_walk using q1
  refine wpAny_stack_any fun st => wpAny_pure ?_
  split
  · rename_i c _ _ _ _ _
    cases (c == Value.type "enumerate")
    · wp_walk using q1
      exact ⟨_, rfl, h⟩
    · wp_walk using q1
      exact ⟨_, rfl, h⟩
  · wp_walk using q1
    exact ⟨_, rfl, h⟩
theorem call_enum {prog : Program} {w : World} {A : Around} {E : Value → Shared → Prop} {s : Shared} {v : Value} {H : Heap → Prop} {k : Int} {t : Tok} {Q : Value → Shared → Prop} (B : Self v H) (h1 : H s.heap)
    (b0 : -(2 ^ 63) ≤ k) (b1 : k < 2 ^ 63) (h : Q (.ref s.heap.objs.size) { s with heap := s.heap.push { cls := .type "enumerate", data := .fields #[.none, .bool false, v, rawInt k, .none, .none] } }) :
    wpAny (model prog w) A (call (.type "enumerate") [v] [(Str.ofString "start", .int k t)]) Q E s := by
  refine callType_newKw F.called_enumerate (by decide) (F.typeCall_enumerate_start _ _) (F.newCall_enumerate_start _ _) (fun obj => F.args_object_init_start obj _ _) F.entry_enumerate_new (new_enum B k t (fits_start b0 b1)) ⟨h1, ?_⟩
  exact ⟨⟨_, Heap.get?_push_size _ rfl, rfl⟩, h⟩
end VE
namespace VE
open PySem PySem.Spec PyProof.Rows L2
/-- k, k + 1, .. with the list at a (n items, which the loop leaves there) from its end, in new pairs -/
def Iter' (K : PySem.W.Frag) (a : Addr) (n : Nat) (k : Int) : It :=
  ⟨fun i H => i < n ∧ ∃ xs : List V, SqL K H a xs ∧ xs.length = n, fun i H v H' => ∃ T x, v = .ref T ∧ H T = none ∧ H' = upd H T (.tup [.int (k + (i : Nat)), x]) ∧ ∀ xs, SqL K H a xs → xs[n - 1 - i]? = some x,
    fun i H => n ≤ i ∧ ∃ xs : List V, SqL K H a xs ∧ xs.length = n⟩
theorem turn_enumRev {P : Program} {w : World} {K : PySem.W.Frag} {elts : List Expr} {kk : Nat} {tpos : Pos} (a e it : Addr) (n : Nat) (k : Int) (hai : a ≠ it) (hei : e ≠ it) (hea : e ≠ a) :
    Turn P w K (.Tuple elts kk tpos) (Iter' K a n k) [e, it] e (fun i h => (∃ old, IsEnum h e it (k + (i : Nat)) old) ∧ i ≤ n ∧ h.IsRevIter it a ((n : Int) - 1 - (i : Nat))) where
  mem := by simp
  obj := fun i h st b hb => by
    obtain ⟨⟨old, he⟩, _, o, ho, hc, hd⟩ := st
    have e' : b = e ∨ b = it := by simpa using hb
    rcases e' with z | z
    · rw [z]; exact ⟨_, he, fun v q => nomatch q⟩
    · rw [z]; exact ⟨o, ho, fun v q => by rw [hd] at q; cases q⟩
  keep := fun i h h' st kp => let ⟨⟨old, he⟩, hn, hi⟩ := st; ⟨⟨old, kp e (by simp) _ he⟩, hn, hi.at fun o q => kp it (by simp) o q⟩
  item := by
    intro X hP hw hK hc i pins s σ H E I hf st hg
    subst hP hw hK
    obtain ⟨⟨old, he⟩, hin, hit⟩ := st
    obtain ⟨hlt, xs, hq, hl⟩ := hg
    obtain ⟨its, rv, p, hz⟩ := I.list hq
    have hn : its.toArray.size = n := by rw [List.size_toArray, ← rv.length]; exact hl
    have hh : X.A.in1.handled = none := I.ok.hd hc
    have hel : e < s.heap.objs.size := Heap.lt_size he
    have hil : it < s.heap.objs.size := by obtain ⟨_, q, _⟩ := hit; exact Heap.lt_size q
    have D := draws_rev (prog := X.prog) (w := X.w) (A := X.A.in1) hh it a hai its.toArray
    rw [hn] at D
    refine wpAny_pyNext_enum_itemC D he ⟨hin, hit, p.isList⟩ hlt hei (by simp [hei, hea]) fun u h' tk hP ho hs' hT hsz hkp => ?_
    obtain ⟨_, hit', _⟩ := hs'
    have hx : xs[n - 1 - i]? = some (xs[n - 1 - i]'(by omega)) := List.getElem?_eq_getElem (by omega)
    obtain ⟨u', hu', ru⟩ := rv.get hx
    have hP' : its[n - 1 - i]? = some u := by simpa using hP
    have euu : u' = u := by rw [hP'] at hu'; exact (Option.some.inj hu').symm
    subst euu
    refine ⟨_, rfl, wpAny_letOwnedTupleGo_enum (s := { s with heap := h', toks := tk + 1 }) ho fun h'' he' sb => ?_⟩
    have hT2 : h''.get? s.heap.objs.size = some { cls := .type "tuple", data := .seq #[.int (k + (i : Nat)) tk, u'] } := (sb.2 _ (Nat.ne_of_gt hel)).trans hT
    have new : ObjOk X.prog X.w (upd H s.heap.objs.size (.tup [.int (k + (i : Nat)), xs[n - 1 - i]'(by omega)])) h'' s.heap.objs.size (.tup [.int (k + (i : Nat)), xs[n - 1 - i]'(by omega)]) :=
      ⟨by show 2 ≤ sizeLine; decide, [.int (k + (i : Nat)) tk, u'], .cons ⟨_, rfl⟩ (.cons ru .nil), ⟨_, hT2, rfl, _, rfl⟩⟩
    have I1 : Inv X pins σ (upd H s.heap.objs.size (.tup [.int (k + (i : Nat)), xs[n - 1 - i]'(by omega)])) { s with heap := h'', toks := tk + 1 } :=
      I.turnedNew (ch := [e, it]) (fun b ob hb q => (sb.2 b (fun z => hb (by simp [z]))).trans (hkp b ob (fun z => hb (by simp [z])) (fun z => hb (by simp [z])) q)) hf (Nat.le_refl _) new
    refine ⟨.ref s.heap.objs.size, _, I1, rfl, ⟨_, _, rfl, I.hok.fresh (Nat.le_refl _), rfl, fun ys hy => by rw [I.list_inj hy hq]; exact hx⟩, ⟨⟨u', ?_⟩, hlt, hit'.at fun o q => (sb.2 it (Ne.symm hei)).trans q⟩, fun b hb => ?_⟩
    · have e1 : k + ((i + 1 : Nat) : Int) = k + (i : Int) + 1 := by omega
      rw [e1]; exact he'
    · have hb' : b < s.heap.objs.size := by
        have e' : b = e ∨ b = it := by simpa using hb
        rcases e' with z | z
        · rw [z]; exact hel
        · rw [z]; exact hil
      rw [upd_ne (Nat.ne_of_lt hb')]
      exact (hf b hb).1
  done := by
    intro X hP hw hK hc i pins s σ H E I hf st hg
    subst hP hw hK
    obtain ⟨⟨old, he⟩, hin, hit⟩ := st
    obtain ⟨hge, xs, hq, hl⟩ := hg
    obtain ⟨its, rv, p, hz⟩ := I.list hq
    have hn : its.toArray.size = n := by rw [List.size_toArray, ← rv.length]; exact hl
    have hh : X.A.in1.handled = none := I.ok.hd hc
    obtain ⟨f0, f1, f2, f3, f4, f5⟩ := hf it (by simp)
    have D := draws_rev (prog := X.prog) (w := X.w) (A := X.A.in1) hh it a hai its.toArray
    rw [hn] at D
    have ei : i = n := by omega
    subst ei
    exact wpAny_pyNext_enum_endD D he ⟨Nat.le_refl _, hit, p.isList⟩ fun h' eb => ⟨rfl, I.turned (t' := s.toks) (fun b o hb q => eb b o hb q) f0 f1 f3 f4 f5⟩
  self := fun A i s Q E st h => let ⟨⟨_, he⟩, _⟩ := st; wpAny_pyIter_enum he h
theorem walk_enumRev {K : PySem.W.Frag} {a : Addr} {xs : List V} {k : Int} : Walk (Iter' K a xs.length k) xs.length (fun H => SqL K H a xs) (YPair (fun i => some (.int (k + (i : Nat)))) (fun i => xs[xs.length - 1 - i]?)) := by
  refine ⟨fun i _ hi q => ⟨hi, xs, q, rfl⟩, fun _ q => ⟨Nat.le_refl _, xs, q, rfl⟩, fun i H v H' _ q y => ?_⟩
  obtain ⟨T, x, h1, h2, h3, h4⟩ := y
  exact ⟨T, .int (k + (i : Nat)), x, h1, h2, h3, rfl, h4 xs q⟩
def iEnumRev (K : PySem.W.Frag) (ta : TA) (k : Int) : TI := fun σ H R => ta σ H fun vs H1 => ∃ (a : Addr) (xs : List V), vs = [.ref a] ∧ SqL K H1 a xs ∧ R (Iter' K a xs.length k) H1
section
variable {M : Model} {A : Around} {E : Value → Shared → Prop} {s : Shared} {env : Env}
theorem callWith_typeKw {pos : Pos} {T : String} {e : Expr} {rest : List Expr} {kws : List Keyword} {Q : Value → Shared → Prop} (hall : (backToKw pos (keywordEach kws env)).all (·.1.isSome) = true)
    (h : wpAny M A (spliced (backTo pos (starEach (e :: rest) env))) (fun vs s₁ => wpAny M A (evalAll ((backToKw pos (keywordEach kws env)).map (·.2)))
      (fun ks s₂ => wpAny M A (call (.type T) vs (((backToKw pos (keywordEach kws env)).filterMap (·.1)).zip ks)) Q E s₂) E s₁) E s)
    (hplain : ((backTo pos (starEach (e :: rest) env)).any (·.1) || (backToKw pos (keywordEach kws env)).any (·.1.isNone)) = false) (he : starEach (e :: rest) env = (false, eval e env) :: starEach rest env) :
    wpAny M A (callWith pos (.type T) [] (backTo pos (starEach (e :: rest) env)) (backToKw pos (keywordEach kws env))) Q E s := by
  unfold callWith
  refine wpAny_bind (wpAny_holding (wpAny_mono (evalArgs_kw2 (f := .type T) (Q := fun a s₁ => wpAny M A (call (.type T) a.pos a.kw) Q E s₁) hall h he) (fun a s₁ h₁ => wpAny_bind (wpAny_standAt ?_)) fun _ _ x => x))
  simp only [hplain]
  refine wpAny_bind (wpAny_pure ?_)
  exact wpAny_bind (wpAny_mono h₁ (fun r s₂ hr => wpAny_bind (wpAny_holding (wpAny_point (wpAny_pure hr)))) fun _ _ x => x)
theorem Call_kws {func : Expr} {args : List Expr} {kws : List Keyword} {pos : Pos} {Q : Value → Shared → Prop}
    (h : wpAny M A (eval func env) (fun f s₁ => wpAny M A (callWith pos f [] (backTo pos (starEach args env)) (backToKw pos (keywordEach kws env))) Q E s₁) E s)
    (he : eval (.Call func args kws pos) env = (do callWith pos (← eval func env) [] (backTo pos (starEach args env)) (backToKw pos (keywordEach kws env))) := by rfl) :
    wpAny M A (eval (.Call func args kws pos) env) Q E s := by
  rw [he]; exact wpAny_bind h
end
theorem pi_enumRev {X : Cx} {e : Expr} {ta : TA} {p p2 pos pos2 kp jp tpos : Pos} {j : Nat} {k : Int} {elts : List Expr} {kk : Nat} (hk0 : -(2 ^ 63) ≤ k) (hk1 : k < 2 ^ 63) (hg : Gl X "enumerate") (hm : X.mg "enumerate" = none) (hg2 : Gl X "reversed") (hm2 : X.mg "reversed" = none) (ha : PA X [e] ta)
    (hs : starEach [e] X.env = [(false, eval e X.env)] := by rfl)
    (hs2 : starEach [.Call (.Name "reversed" p2) [e] [] pos2] X.env = (false, eval (.Call (.Name "reversed" p2) [e] [] pos2) X.env) :: starEach [] X.env := by rfl)
    (hst : ∀ q, (backTo q (starEach [.Call (.Name "reversed" p2) [e] [] pos2] X.env)).any (·.1) = false := by exact fun _ => rfl)
    (hbs : eval (.Call (.Name "reversed" p2) [e] [] pos2) X.env = (do callWith pos2 (← eval (.Name "reversed" p2) X.env) [] (backTo pos2 (starEach [e] X.env)) (backToKw pos2 (keywordEach [] X.env))) := by rfl) :
    PI X (.Tuple elts kk tpos) (.Call (.Name "enumerate" p) [.Call (.Name "reversed" p2) [e] [] pos2] [⟨some "start", .Constant (.int k) j jp, kp⟩] pos) (iEnumRev X.K ta k) := by
  refine ⟨fun pins s σ H R I h => ?_⟩
  refine Call_kws (ld_blt I hg hm boot_enumerate (callWith_typeKw rfl (args_cons ?_ hs2) (by rw [hst]; rfl) hs2))
  refine Call_ (ld_blt I hg2 hm2 PyProof.Rows.boot_reversed (PyProof.Rows.callWith_type1 (thn (ha.run pos2 pins s σ H _ I h) fun us s1 ⟨vs, H1, I1, r1, q1⟩ => ?_) hs rfl)) hbs
  obtain ⟨a, xs, ex, hq, q⟩ := q1
  subst ex
  cases r1 with
  | cons r rr =>
    cases rr
    cases r
    obtain ⟨its, rv, p', hz⟩ := I1.list hq
    have hl := rv.length
    have hal : a < s1.heap.objs.size := by obtain ⟨_, _, z, _⟩ := p'; exact Heap.lt_size z
    refine call_reversed_list p'.isList (args_nil (kws_cons (wpAny_Constant_int (kws_nil ?_))))
    have sz1 : (s1.heap.push { cls := .type "list_reverseiterator", data := .fields #[.ref a, rawInt (((its.toArray.size : Nat) : Int) - 1)] }).objs.size = s1.heap.objs.size + 1 := Heap.size_push ..
    have hit0 : (s1.heap.push { cls := .type "list_reverseiterator", data := .fields #[.ref a, rawInt (((its.toArray.size : Nat) : Int) - 1)] }).IsRevIter s1.heap.objs.size a (((its.toArray.size : Nat) : Int) - 1) := ⟨_, Heap.get?_push_size _ rfl, rfl, rfl⟩
    refine call_enum (self_rev s1.heap.objs.size a (((its.toArray.size : Nat) : Int) - 1)) hit0 hk0 hk1 ?_
    have he : IsEnum ((s1.heap.push { cls := .type "list_reverseiterator", data := .fields #[.ref a, rawInt (((its.toArray.size : Nat) : Int) - 1)] }).push { cls := .type "enumerate", data := .fields #[.none, .bool false, .ref s1.heap.objs.size, rawInt k, .none, .none] }) (s1.heap.objs.size + 1) s1.heap.objs.size k .none := by
      have := Heap.get?_push_size (s1.heap.push { cls := .type "list_reverseiterator", data := .fields #[.ref a, rawInt (((its.toArray.size : Nat) : Int) - 1)] }) (o := { cls := .type "enumerate", data := .fields #[.none, .bool false, .ref s1.heap.objs.size, rawInt k, .none, .none] }) rfl
      rw [sz1] at this; exact this
    show wpAny _ _ (pyIter (.ref (s1.heap.push { cls := .type "list_reverseiterator", data := .fields #[.ref a, rawInt (((its.toArray.size : Nat) : Int) - 1)] }).objs.size)) _ _ _
    rw [sz1]
    refine wpAny_pyIter_enum he ?_
    have hit1 := hit0.at (h' := (s1.heap.push { cls := .type "list_reverseiterator", data := .fields #[.ref a, rawInt (((its.toArray.size : Nat) : Int) - 1)] }).push { cls := .type "enumerate", data := .fields #[.none, .bool false, .ref s1.heap.objs.size, rawInt k, .none, .none] }) fun o q => Heap.get?_push_of_some _ q
    refine ⟨s1.heap.objs.size + 1, [s1.heap.objs.size + 1, s1.heap.objs.size], _, _, H1, rfl, ?_, turn_enumRev a (s1.heap.objs.size + 1) s1.heap.objs.size xs.length k (Nat.ne_of_lt hal) (Nat.succ_ne_self _) (Nat.ne_of_gt (Nat.lt_succ_of_lt hal)), ⟨⟨.none, ?_⟩, Nat.zero_le _, ?_⟩, fun b hb => ?_, q⟩
    · exact I1.kept fun b ob q => Heap.get?_push_of_some _ (Heap.get?_push_of_some _ q)
    · rw [show k + ((0 : Nat) : Int) = k by omega]; exact he
    · rw [show (xs.length : Int) - 1 - ((0 : Nat) : Int) = ((its.toArray.size : Nat) : Int) - 1 by rw [List.size_toArray]; omega]; exact hit1
    · have e' : b = s1.heap.objs.size + 1 ∨ b = s1.heap.objs.size := by simpa using hb
      have hle : s1.heap.objs.size ≤ b := by
        rcases e' with z | z
        · rw [z]; exact Nat.le_add_right _ _
        · rw [z]; exact Nat.le_refl _
      exact I1.fpOk hle (I1.hok.fresh hle)
end VE

/-! A method called with keywords. -/
namespace VP
open PySem PySem.Spec PyProof.Rows L2
/-- o.m(e, .., k = v, ..) -/
def tMethKw (C : Addr) (m : Str) (n j : Nat) (sp : Sp) (gV : List V → List V → List V) (E : XK) (ta : TE) (t tk : TA) : TE := fun σ H Q =>
  ta σ H fun x H1 => ∃ a dx fs, x = .ref a ∧ H1 a = some (.ins C dx fs) ∧ fs.lookup m = none ∧
    t σ H1 fun vs H2 => tk σ H2 fun zs H3 => vs.length = n ∧ zs.length = j ∧ sp (gV (x :: vs) zs) H3 Q E
theorem pe_methKw {X : Cx} {CX : CXT} {k n : Nat} {f C : Addr} {fd : FuncData} {ps ks : List Str} {sp : Sp} {E : XK} {m : Str} {pos apos : Pos} {o e : Expr} {es : List Expr} {kws : List Keyword} {ta : TE} {t tk : TA}
    {g : List Value → List Value → List Value} {gV : List V → List V → List V} {pl : Sem Bool}
    (he : PE X o ta) (c : Cls X.K C) (hm : Meth X.K C m f) (F : FnOk X.prog X.w X.K X.mg X.base CX k f fd ps sp) (hr : Room k X.A)
    (hb : KBn X.K fd ps (n + 1) ks g gV) (hx : Passes CX X E) (ha : PA X (e :: es) t) (hkw : PK X kws tk)
    (hall : (backToKw pos (keywordEach kws X.env)).all (·.1.isSome) = true := by rfl) (hks : (backToKw pos (keywordEach kws X.env)).filterMap (·.1) = ks := by rfl)
    (hst : starEach (e :: es) X.env = (false, eval e X.env) :: starEach es X.env := by rfl)
    (hpl : ((backTo pos (starEach (e :: es) X.env)).any (·.1) || (backToKw pos (keywordEach kws X.env)).any (·.1.isNone)) = false := by rfl)
    (ht : eval (.Call (.Attribute o m apos) (e :: es) kws pos) X.env = (do
      let ov ← eval o X.env
      standAt apos.atName
      let (f, first) ← holding [ov] (getMethod ov m pl)
      callWith pos f first (backTo pos (starEach (e :: es) X.env)) (backToKw pos (keywordEach kws X.env))) := by rfl) :
    PE X (.Call (.Attribute o m apos) (e :: es) kws pos) (tMethKw C m n ks.length sp gV E ta t tk) := by
  constructor
  intro pins s σ H Q I h
  refine PySem.W.methodCall_KW (pl := pl) (thn (he.run pins s σ H _ I h) ?_) ht
  rintro u s1 ⟨x, H1, I1, rx, a, dx, fs, ex, ea, l, q⟩
  subst ex
  obtain rfl : u = Value.ref a := rx
  refine getmeth_ok I1 ea c hm l ?_
  refine PySem.W.callWith_KW (first := [.ref a]) (h₀ := X.base) I.ok.mod.kin hm.kp hall (thn (ha.run pos pins s1 σ H1 _ I1 q) ?_) hpl hst
  rintro us s2 ⟨vs, H2, I2, r, q2⟩
  refine thn (hkw.run pos pins s2 σ H2 _ I2 q2) ?_
  rintro ws s3 ⟨zs, H3, I3, rz, l1, l2, q3⟩
  refine ⟨I3.kIn, ?_⟩
  rw [hks]
  have r1 : Vals (V.ref a :: vs) (Value.ref a :: us) := .cons rfl r
  have rel := hb.rel r1 rz
  have len : (Value.ref a :: us).length = n + 1 := by rw [List.length_cons, ← r.length, l1]
  have bind := hb.to s3 (Value.ref a :: us) ws I3.kIn len (rz.length.symm.trans l2)
  show wpAny _ _ (call (.ref f) (Value.ref a :: us) (ks.zip ws)) _ _ _
  refine wpAny_call (codeAny_mono (F.run X.A X.stack s3 H3 ⟨Value.ref a :: us, ks.zip ws⟩ _ _ Q E hr I3.env0 bind rel q3) ?_)
  intro res s' hq
  match res, hq with
  | .error e, hq => exact hx pins σ H3 s3 e s' I3 hq
  | .ok (.ret u), hq => exact I3.after hq
  | .ok .next, hq => exact False.elim hq
  | .ok .brk, hq => exact False.elim hq
  | .ok .cont, hq => exact False.elim hq
end VP

/-! == and != by an own __eq__ whatever stands on the right, repr by an own __repr__, None in an f-string. -/
namespace VN
open PySem PySem.Spec PyProof.Rows L2

section
variable {prog : Program} {w : World} {A : Around} {E : Value → Shared → Prop} {s : Shared} {K : PySem.W.Frag} {x C L f : Addr} {h₀ : Heap} {m : Str → Option Value} {ox : Obj} {od : Option Obj} {b tb : Value}
theorem bound_builtin {M : Model} {name : Str} {id : String} {args : List Value} {Q : Option Value → Shared → Prop} (X : K.In s.heap) (I : PySem.W.InstAt s.heap x ox C od) (hs : PySem.W.findIn K (.ref C) name = some (some (.builtin id)))
    (hb : ∀ self, bindSpecial (.builtin id) self = pure (.builtin id, [self]))
    (h : wpAny M A (call (.builtin id) (.ref x :: args)) (fun v => Q (some v)) E s) : wpAny M A (callSpecialIfBound? (.ref x) name args) Q E s := by
  simp only [callSpecialIfBound?, bindSpecialIfBound?]
  refine wpAny_holding (wpAny_bind (wpAny_bind (wpAny_bind (I.type.here ((PySem.W.looks_findIn X hs).here ?_)))))
  refine wpAny_bind (wpAny_askSetting (wpAny_ite ?_))
  have fin : wpAny M A (call (.builtin id) ([.ref x] ++ args) >>= fun v => pure (some v)) Q E s := wpAny_bind (wpAny_mono h (fun v s' h' => wpAny_pure h') fun _ _ h' => h')
  split
  · exact wpAny_bind ((PySem.W.Looks.of_pure (hb _)).here (wpAny_pure (by exact fin)))
  · exact wpAny_tryCatch (wpAny_bind ((PySem.W.Looks.of_pure (hb _)).here (wpAny_pure (by exact fin))))
open Builtin in
theorem obj_ne {Q : Value → Shared → Prop} (hu : A.in1.units < cLine) (X : K.In s.heap) (I : PySem.W.InstAt s.heap x ox C od) (hm : PySem.W.mroIn K C (.type "object") = some true)
    (hs : PySem.W.findIn K (.ref C) "__eq__" = some (some (.ref f))) (hf : PySem.W.isFn K (.ref f) = true)
    (h : wpAny (model prog w) A.in1 (call (.ref f) [.ref x, b]) (fun v s' => ∃ r, v = .bool r ∧ Q (.bool (!r)) s') E s) : wpAny (model prog w) A (call (.builtin "object.__ne__") [.ref x, b]) Q E s := by
  refine wpAny_call (codeAny_call_builtin PySem.F.slot_zip_ne.plain PySem.F.cmpEntry_ne (PySem.W.check_slot (i := "object.__ne__") (owner := "object") (n := "__ne__") PySem.F.cmpKind_ne PySem.F.cmpSplit_ne (I.type.andThen (PySem.W.looks_mroIn X hm)) (PySem.F.cmpArgs_ne _ _) ?_))
  unfold Builtin.«object.__ne__»
  refine wpAny_bind (m := slotArgs "__ne__" 1 _) (wpAny_pure ?_)
  refine wpAny_bind (m := cRoomFor _ _) (wpAny_cRoomFor hu ?_)
  refine wpAny_bind (m := callSpecialIfBound? (.ref x) (Str.ofString "__eq__") _) (PySem.W.ifBound_K X I hs hf (wpAny_mono h (fun r s' hq => ?_) fun _ _ y => y))
  obtain ⟨r, rfl, hq⟩ := hq
  exact wpAny_bind (wpAny_truthy_bool (wpAny_pure hq))
theorem ne_K {Q : Value → Shared → Prop} (hu : A.units + 1 < cLine) (F : PyProof.Rows.Fr h₀ L s.heap m) (X₀ : K.In h₀) (I : PySem.W.InstAt s.heap x ox C od) (hb : PySem.W.Looks (model prog w) s.heap (typeOf b) tb) (hn : PySem.W.notFirst K C tb = true)
    (hne : PySem.W.findIn K (.ref C) "__ne__" = some (some (.builtin "object.__ne__"))) (hm : PySem.W.mroIn K C (.type "object") = some true)
    (hs : PySem.W.findIn K (.ref C) "__eq__" = some (some (.ref f))) (hf : PySem.W.isFn K (.ref f) = true)
    (h : wpAny (model prog w) A.in1 (call (.ref f) [.ref x, b]) (fun v s' => ∃ r, v = .bool r ∧ Q (.bool (!r)) s') E s) : wpAny (model prog w) A (richCompare .NotEq (.ref x) b) Q E s := by
  have X := X₀.keeps F.keep
  have hu1 : A.in1.units < cLine := by show A.units + 1 < _; exact hu
  have one : wpAny (model prog w) A (tryCompare (.ref x) (cmpInfo .NotEq).2.1 b) (fun r s' => ∃ v, r = some v ∧ Q v s') E s := by
    unfold tryCompare
    refine wpAny_bind (bound_builtin X I hne PySem.F.slot_zip_ne.bind (obj_ne hu1 X I hm hs hf (wpAny_mono h (fun v s' hv => ?_) fun _ _ e => e)))
    obtain ⟨r, rfl, q⟩ := hv
    exact ⟨r, rfl, wpAny_pure ⟨_, rfl, q⟩⟩
  unfold richCompare
  simp only [oneThing_ref]
  refine wpAny_holding (wpAny_bind (wpAny_cRoomFor (by omega) ?_))
  refine wpAny_bind (I.type.here (wpAny_bind (hb.here ?_)))
  split
  · rename_i q
    have e : PySem.W.subIn K tb (.ref C) = some false := by
      rcases Bool.or_eq_true_iff.mp hn with e | e
      · rw [beq_iff_eq.mp e] at q; simp at q
      · exact beq_iff_eq.mp e
    refine wpAny_bind ((PySem.W.looks_subIn X e).here ?_)
    simp only [Bool.false_eq_true, if_false]
    refine wpAny_bind (wpAny_mono one (fun r s' z => ?_) fun _ _ e => e)
    obtain ⟨v, rfl, hq⟩ := z
    exact wpAny_pure hq
  · refine wpAny_bind (wpAny_pure ?_)
    simp only [Bool.false_eq_true, if_false]
    refine wpAny_bind (wpAny_mono one (fun r s' z => ?_) fun _ _ e => e)
    obtain ⟨v, rfl, hq⟩ := z
    exact wpAny_pure hq
end

/-- what of the text is true of an own class that is only a class: its instances' type, isinstance, != -/
structure IsC (K : PySem.W.Frag) (C : Addr) : Prop where
  ic : PySem.W.isClsIn K C = true
  ty : PySem.W.typeIn K (.ref C) = some (.type "type")
  gc : PySem.W.findIn K (.ref C) "__class__" = some (some (.builtin "object.__class__"))
  gn : PySem.W.specialIn K (.builtin "object.__class__") "__get__" = some (some (.builtin "getset_descriptor.__get__"))
  tk : PySem.W.takesIn K (.builtin "object.__class__") = some true
  ob : PySem.W.mroIn K C (.type "object") = some true
  ne : PySem.W.findIn K (.ref C) "__ne__" = some (some (.builtin "object.__ne__"))
/-- the built-in classes of the values that occur -/
def kinds : List String := ["NoneType", "bool", "int", "str", "list", "tuple", "dict"]
def allTy (l : List Value) : Bool := l.all fun v => match v with | .type _ => true | _ => false
theorem kinds_mro : kinds.all (fun n => (PySem.fastBuiltinMro n).any allTy) = true := by decide +kernel
theorem sub_ty {K : PySem.W.Frag} {C : Addr} {n : String} (h : n ∈ kinds) : PySem.W.subIn K (.type n) (.ref C) = some false := by
  have k := List.all_eq_true.mp kinds_mro n h
  show Option.map (fun x => List.contains x (Value.ref C)) (PySem.fastBuiltinMro n) = some false
  cases e : PySem.fastBuiltinMro n with
  | none => rw [e] at k; cases k
  | some l =>
    rw [e] at k
    have k : allTy l = true := k
    show some (List.contains l (Value.ref C)) = some false
    congr 1
    rw [List.contains_eq_any_beq, List.any_eq_false]
    intro y hy c
    have e2 := eq_of_beq c
    have := List.all_eq_true.mp k y hy
    rw [← e2] at this
    cases this
theorem notFirst_ty {K : PySem.W.Frag} {C : Addr} {n : String} (h : n ∈ kinds) : PySem.W.notFirst K C (.type n) = true := by
  unfold PySem.W.notFirst
  rw [sub_ty h]
  simp
theorem notFirst_own {K : PySem.W.Frag} {C : Addr} : PySem.W.notFirst K C (.ref C) = true := by
  unfold PySem.W.notFirst
  simp
theorem kit_self {K : PySem.W.Frag} {C : Addr} : PySem.W.kitOne K (.ref C) (.ref C) = some true := by
  unfold PySem.W.kitOne
  rw [if_pos (by simp)]
theorem kit_no {K : PySem.W.Frag} {C : Addr} {n : String} (c : IsC K C) (h : n ∈ kinds) : PySem.W.kitOne K (.type n) (.ref C) = some false := by
  have hc : (PySem.W.clsIn K C).isSome = true := c.ic
  unfold PySem.W.kitOne
  rw [if_neg (by simp)]
  unfold PySem.W.kitCls
  show (if ((PySem.W.clsIn K C).isSome && PySem.W.typeIn K (.ref C) == some (.type "type")) = true then PySem.W.subIn K (.type n) (.ref C) else none) = some false
  rw [hc, c.ty, if_pos (by simp), sub_ty h]
theorem IsC.typ {K : PySem.W.Frag} {C a dx : Addr} {H : Hp} {fs : List (Str × V)} (c : IsC K C) (cl : Cls K C) (e : H a = some (.ins C dx fs)) : TyX K H (.ref a) (.ref C) := .base (.ins e cl c.gc c.gn c.tk c.ob)
def rOwn (K : PySem.W.Frag) (C : Addr) (sp : Sp) (E : XK) : R2 := fun x y H Q => ∃ a dx fs t, x = .ref a ∧ H a = some (.ins C dx fs) ∧ TyX K H y t ∧ PySem.W.notFirst K C t = true ∧ sp [x, y] H (fun v H' => ∃ b, v = .bl b ∧ Q (.bl b) H') E
def rOwnN (K : PySem.W.Frag) (C : Addr) (sp : Sp) (E : XK) : R2 := fun x y H Q => ∃ a dx fs t, x = .ref a ∧ H a = some (.ins C dx fs) ∧ TyX K H y t ∧ PySem.W.notFirst K C t = true ∧ sp [x, y] H (fun v H' => ∃ b, v = .bl b ∧ Q (.bl (!b)) H') E
def rReprOwn (C : Addr) (sp : Sp) (E : XK) : List V → Hp → VK → Prop := fun xs H Q => ∃ a dx fs, xs = [.ref a] ∧ H a = some (.ins C dx fs) ∧ sp [.ref a] H (fun v H' => ∃ y, v = .str y ∧ Q (.str y) H') E
section
variable {X : Cx} {CX : CXT} {k : Nat} {f C : Addr} {fd : FuncData} {ps : List Str} {sp : Sp} {E : XK}
theorem op_eqOwn (F : FnOk X.prog X.w X.K X.mg X.base CX k f fd ps sp) (hr : Room k X.A) (o : Meth X.K C "__eq__" f) (c : IsC X.K C) (hb : Binds X.K fd ps []) (hx : Passes CX X E) : OpR X (compareOp .Eq) (rOwn X.K C sp E) := by
  intro pins s σ H x y v u Q I rx ry h
  obtain ⟨a, dx, fs, t, rfl, ea, ty, nf, hsp⟩ := h
  obtain rfl : v = Value.ref a := rx
  obtain ⟨mA, J, _⟩ := ins_get I.hok ea
  obtain ⟨od, J, _⟩ := J.look
  obtain ⟨m, hF⟩ := I.fr
  obtain ⟨P, Z, p, _⟩ := kit_of I ry ty
  show wpAny (model X.prog X.w) X.A (richCompare .Eq (.ref a) u) (EP X pins σ Q) X.xe s
  refine PySem.W.cmp_K (op := .Eq) (tb := t) hr.units0 hF I.ok.mod.kin J (Z.ty _ _ I.kIn p) nf o.at_ o.fn ?_
  have hl := F.len _ _ _ _ hsp
  have r2 : Vals [V.ref a, y] [Value.ref a, u] := .cons rfl (.cons ry .nil)
  refine wpAny_call (codeAny_mono (F.run X.A X.stack s H ⟨[.ref a, u], []⟩ [.ref a, u] [.ref a, y] _ E hr I.env0 (by
    have := hb s [.ref a, u] I.kIn (by simpa using hl)
    simpa using this) r2 hsp) fun r s' hq => ?_)
  cases r with
  | error e => exact hx pins σ H s e s' I hq
  | ok fl =>
    cases fl with
    | ret w =>
      obtain ⟨z, H', I', rz, b, ez, q⟩ := I.after hq
      subst ez
      cases rz
      exact ⟨.bl b, H', I', rfl, q⟩
    | next => exact False.elim hq
    | brk => exact False.elim hq
    | cont => exact False.elim hq
theorem op_neOwn (F : FnOk X.prog X.w X.K X.mg X.base CX k f fd ps sp) (hr : Room (k + 1) X.A) (o : Meth X.K C "__eq__" f) (c : IsC X.K C) (hb : Binds X.K fd ps []) (hx : Passes CX X E) : OpR X (compareOp .NotEq) (rOwnN X.K C sp E) := by
  intro pins s σ H x y v u Q I rx ry h
  obtain ⟨a, dx, fs, t, rfl, ea, ty, nf, hsp⟩ := h
  obtain rfl : v = Value.ref a := rx
  obtain ⟨mA, J, _⟩ := ins_get I.hok ea
  obtain ⟨od, J, _⟩ := J.look
  obtain ⟨m, hF⟩ := I.fr
  obtain ⟨P, Z, p, _⟩ := kit_of I ry ty
  show wpAny (model X.prog X.w) X.A (richCompare .NotEq (.ref a) u) (EP X pins σ Q) X.xe s
  refine ne_K (tb := t) (by have := hr.un; omega) hF I.ok.mod.kin J (Z.ty _ _ I.kIn p) nf c.ne c.ob o.at_ o.fn ?_
  have hl := F.len _ _ _ _ hsp
  have r2 : Vals [V.ref a, y] [Value.ref a, u] := .cons rfl (.cons ry .nil)
  refine wpAny_call (codeAny_mono (F.run X.A.in1 X.stack s H ⟨[.ref a, u], []⟩ [.ref a, u] [.ref a, y] _ E hr.in1 I.env0.in1 (by
    have := hb s [.ref a, u] I.kIn (by simpa using hl)
    simpa using this) r2 hsp) fun r s' hq => ?_)
  cases r with
  | error e => exact hx pins σ H s e s' I hq
  | ok fl =>
    cases fl with
    | ret w =>
      obtain ⟨z, H', I', rz, b, ez, q⟩ := I.after hq
      subst ez
      cases rz
      exact ⟨b, rfl, .bl (!b), H', I', rfl, q⟩
    | next => exact False.elim hq
    | brk => exact False.elim hq
    | cont => exact False.elim hq
theorem call_reprOwn (F : FnOk X.prog X.w X.K X.mg X.base CX k f fd ps sp) (hr : Room (k + 1) X.A) (o : Meth X.K C "__repr__" f) (hb : Binds X.K fd ps []) (hx : Passes CX X E) :
    CallR X (.builtin "repr") (rReprOwn C sp E) := by
  intro pins s σ H xs us Q I r h
  obtain ⟨a, dx, fs, rfl, ea, hsp⟩ := h
  obtain ⟨u, rfl, ru⟩ := vals1 r
  obtain rfl : u = Value.ref a := ru
  obtain ⟨mA, J, _⟩ := ins_get I.hok ea
  obtain ⟨od, J, _⟩ := J.look
  obtain ⟨m, hF⟩ := I.fr
  refine PySem.W.repr_K hr.in1.units0 hF I.ok.mod.kin J o.at_ o.fn ?_
  have hl := F.len _ _ _ _ hsp
  refine wpAny_call (codeAny_mono (F.run X.A.in1 X.stack s H ⟨[.ref a], []⟩ [.ref a] [.ref a] _ E hr.in1 I.env0.in1 (by
    have := hb s [.ref a] I.kIn (by simpa using hl)
    simpa using this) (.cons rfl .nil) hsp) fun r s' hq => ?_)
  cases r with
  | error e => exact hx pins σ H s e s' I hq
  | ok fl =>
    cases fl with
    | ret w =>
      obtain ⟨z, H', I', rz, y, ez, q⟩ := I.after hq
      subst ez
      obtain ⟨t, rfl⟩ := rz
      exact ⟨.str y, H', I', ⟨t, rfl⟩, q⟩
    | next => exact False.elim hq
    | brk => exact False.elim hq
    | cont => exact False.elim hq
theorem units1 {k : Nat} {A : Around} (hr : Room k A) : A.units + 1 < cLine := by
  have := hr.un
  omega
/-- {x}: a text, an int or None -/
def tFmtN (te : TE) : TE := fun σ H Q => te σ H fun x H1 => (∃ y : Str, x = .str y ∧ y.length ≤ sizeLine ∧ Q (.str y) H1) ∨ (∃ i : Int, x = .int i ∧ i.natAbs.log2 < 1920 ∧ Q (.str (toString i)) H1) ∨ (x = .non ∧ Q (.str "None") H1)
theorem pe_fmtN {e : Expr} {te : TE} {pos : Pos} (he : PE X e te) : PE X (.FormattedValue e (-1) none pos) (tFmtN te) := by
  refine ⟨fun pins s σ H Q I h => ?_⟩
  refine wpAny_FormattedValue_plain (thn (he.run pins s σ H _ I h) fun v s1 hv => ?_)
  obtain ⟨x, H1, I1, r1, q⟩ := hv
  rcases q with ⟨y, rfl, hz, q⟩ | ⟨i, rfl, hz, q⟩ | ⟨rfl, q⟩
  · obtain ⟨t, rfl⟩ := r1
    exact wpAny_formatField_str ⟨.str y, H1, I1, ⟨t, rfl⟩, q⟩ ⟨.str y, H1, I1.tok _, ⟨_, rfl⟩, q⟩ hz
  · obtain ⟨t, rfl⟩ := r1
    exact wpAny_formatField_int hz ⟨.str (toString i), H1, I1.tok _, ⟨_, rfl⟩, q⟩
  · cases r1
    exact wpAny_formatField_none ⟨.str "None", H1, I1.tok _, ⟨_, rfl⟩, q⟩
/-- str(None), str(int) -/
def rStrIN : List V → Hp → VK → Prop := fun xs H Q => (∃ i : Int, xs = [.int i] ∧ i.natAbs.log2 < 1920 ∧ Q (.str (toString i)) H) ∨ (xs = [.non] ∧ Q (.str "None") H)
theorem call_strIN : CallR X (.type "str") rStrIN := by
  intro pins s σ H xs us Q I r h
  rcases h with ⟨i, rfl, hz, q⟩ | ⟨rfl, q⟩
  · obtain ⟨u, rfl, t, rfl⟩ := vals1 r
    exact PySem.P.str_of_int hz ⟨.str _, H, I.tok _, ⟨_, rfl⟩, q⟩
  · obtain ⟨u, rfl, ru⟩ := vals1 r
    cases ru
    exact PySem.P.str_of_none ⟨.str _, H, I.tok _, ⟨_, rfl⟩, q⟩
end
end VN

/-! Own errors over any built-in base, with an __init__ that is walked as a def: made, raised, asked. -/
namespace VX
open PySem PySem.Spec PyProof.Rows L2
/-- a built-in base of errors -/
structure Bs (B newId initId : String) (bmB : List Value) : Prop where
  bs : ExcBaseFacts B newId initId bmB
  st : StoreFacts B bmB "object.__setattr__" "object"
theorem bsV : Bs "ValueError" "ValueError.__new__" "ValueError.__init__" [.type "ValueError", .type "Exception", .type "BaseException", .type "object"] := ⟨F.excBase_ValueError, F.store_ValueError⟩
theorem bsR : Bs "RuntimeError" "RuntimeError.__new__" "RuntimeError.__init__" [.type "RuntimeError", .type "Exception", .type "BaseException", .type "object"] := ⟨F.excBase_RuntimeError, F.store_RuntimeError⟩
theorem bsL : Bs "LookupError" "LookupError.__new__" "LookupError.__init__" [.type "LookupError", .type "Exception", .type "BaseException", .type "object"] := ⟨F.excBase_LookupError, F.store_LookupError⟩
theorem bsA : Bs "ArithmeticError" "ArithmeticError.__new__" "ArithmeticError.__init__" [.type "ArithmeticError", .type "Exception", .type "BaseException", .type "object"] := ⟨F.excBase_ArithmeticError, F.store_ArithmeticError⟩
/-- what the written part says of an own class of errors -/
structure Own (K : PySem.W.Frag) (C : Addr) : Prop where
  base : ∃ B newId initId bmB, Bs B newId initId bmB ∧ PySem.W.excInitIn K C bmB newId = true ∧ PySem.W.excOver K C bmB = true
  hasD : PySem.W.hasDictIn K C = true
  setA : PySem.W.findIn K (.ref C) "__setattr__" = some (some (.builtin "object.__setattr__"))
  isE : PySem.W.subIn K (.ref C) (.type "BaseException") = some true
  isT : PySem.W.typeIn K (.ref C) = some (.type "type")
  keep : PySem.W.keepIn K (.ref C) = true

section
variable {prog : Program} {w : World} {A : Around} {R : Result → Shared → Prop} {hp : Heap} {g : Array GenState} {d : Drawn} {t : Nat} {os : OsState} {K : PySem.W.Frag} {x C : Addr} {f : Str} {tk : Tok} {v : Value} {fv : Array Value}
open Builtin Builtin.ObjectAttr PySem.W PySem.Calls
theorem own_cls (O : Own K C) : ∃ cd, clsIn K C = some cd ∧ cd.hasDict = true := any_some O.hasD
/-- the first field: the dict is laid -/
theorem st_first (O : Own K C) (X : K.In hp) (hx : hp.get? x = some { cls := .ref C, data := .fields fv }) (no : findIn K (.ref C) f = some none)
    (q : ∀ h2 tk2 dj, (∀ b o, b ≠ x → hp.get? b = some o → h2.get? b = some o) → hp.objs.size ≤ dj → dj ≠ x → h2.get? x = some { cls := .ref C, dict := some dj, data := .fields fv } →
      h2.Ns1 dj (fun y => if y = f then some v else none) → R (.ok (.ret .none)) ⟨h2, g, d, tk2, os⟩) :
    codeAny (model prog w) A (.call (.builtin "object.__setattr__") ⟨[.ref x, .str f tk, v], []⟩) R ⟨hp, g, d, t, os⟩ := by
  obtain ⟨B, nI, iI, bmB, S, _, ov⟩ := O.base
  obtain ⟨cd, hc, hh⟩ := own_cls O
  have J : InstAt hp x { cls := .ref C, data := .fields fv } C none := ⟨hx, rfl, rfl, trivial⟩
  have far : x ≠ hp.objs.size := Nat.ne_of_lt (Heap.lt_size hx)
  have look : Looks (model prog w) hp (classData C) cd := looks_clsIn X hc
  refine osa_openX (r := none) S.st X J ov (by unfold takerIn; rw [no]; rfl) fun b => ?_
  obtain ⟨nm, bs, mro, ns, qn, hd, sn, sb, ab, col, del⟩ := cd
  dsimp only at hh
  subst hh
  show wpAny _ _ (storeInOwnDict (.ref x) (.ref C) (.str f tk) f v b) _ _ _
  unfold storeInOwnDict ownDictForStores
  repeat (first | with_reducible refine HandSPX.store_in_new ?_ ?_ | with_reducible refine wpAny_loadPart_at hx ?_ | with_reducible refine look.at ?_ | wp_step)
  · exact ⟨_, #[], _, (Heap.get?_update_ne _ _ _ _ far.symm).trans (Heap.get?_push_at rfl rfl), rfl, fun e he => absurd he (by simp), fun _ => rfl⟩
  · intro h2 tk2 ns2 same
    have there : (hp.push { cls := .type "dict", data := .dict #[] }).get? x = some { cls := .ref C, data := .fields fv } := Heap.get?_push_of_some _ hx
    exact q h2 tk2 hp.objs.size
      (fun b o nb e => (same.2 b (Nat.ne_of_lt (Heap.lt_size e))).trans ((Heap.get?_update_ne _ _ _ _ nb).trans (Heap.get?_push_of_some _ e)))
      (Nat.le_refl _) far.symm ((same.2 x far).trans (Heap.get?_update_self _ there rfl)) ns2
/-- a further field -/
theorem st_more {dj : Addr} {m0 : Str → Option Value} {nl : List Str} (O : Own K C) (X : K.In hp) (hx : hp.get? x = some { cls := .ref C, dict := some dj, data := .fields fv }) (hn : hp.Ns1 dj m0) (hw : Within m0 nl) (hz : nl.length ≤ 1000)
    (no : findIn K (.ref C) f = some none)
    (q : ∀ h2 tk2, (∀ b o, b ≠ dj → hp.get? b = some o → h2.get? b = some o) → h2.Ns1 dj (fun y => if y = f then some v else m0 y) → R (.ok (.ret .none)) ⟨h2, g, d, tk2, os⟩) :
    codeAny (model prog w) A (.call (.builtin "object.__setattr__") ⟨[.ref x, .str f tk, v], []⟩) R ⟨hp, g, d, t, os⟩ := by
  obtain ⟨B, nI, iI, bmB, S, _, ov⟩ := O.base
  obtain ⟨cd, hc, hh⟩ := own_cls O
  obtain ⟨od, _, _, hod, _, _⟩ := hn.count hw
  have J : InstAt hp x { cls := .ref C, dict := some dj, data := .fields fv } C (some od) := ⟨hx, rfl, rfl, hod⟩
  have look : Looks (model prog w) hp (classData C) cd := looks_clsIn X hc
  refine osa_openX (r := none) S.st X J ov (by unfold takerIn; rw [no]; rfl) fun b => ?_
  obtain ⟨nm, bs, mro, ns, qn, hd, sn, sb, ab, col, del⟩ := cd
  dsimp only at hh
  subst hh
  show wpAny _ _ (storeInOwnDict (.ref x) (.ref C) (.str f tk) f v b) _ _ _
  unfold storeInOwnDict ownDictForStores
  repeat (first | with_reducible refine OEX.store_in_old hn hw hz ?_ | with_reducible refine wpAny_loadPart_at hx ?_ | with_reducible refine look.at ?_ | wp_step)
  exact fun h2 tk2 ns2 same => q h2 tk2 (fun b o nb e => (same.2 b nb).trans e) ns2
end

section
variable {X : Cx} {pins : List (Addr × Obj)} {σ : L2.St} {H : Hp} {s : Shared} {a C dj : Addr} {f : Str} {y : V} {u : Value} {fs : List (Str × V)} {Q : Unit → Shared → Prop} {E : Value → Shared → Prop} {A : Around}
/-- self.f = y on a new error -/
theorem put_first (O : Own X.K C) (I : Inv X pins σ H s) (e : H a = some (exo a C none)) (no : PySem.W.findIn X.K (.ref C) f = some none) (ry : RelV y u)
    (k : ∀ dj s2, H dj = none → dj ≠ a → Inv X pins σ (upd (upd H dj (exd dj [(f, y)])) a (exo a C (some dj))) s2 → Q () s2) : wpAny (model X.prog X.w) A (setAttr (.ref a) f u) Q E s := by
  obtain ⟨t1, ho⟩ := exo_at I.hok e
  obtain ⟨hp, g, d, t, os⟩ := s
  refine PySem.W.set_plain I.kIn (od := none) ⟨ho, rfl, rfl, trivial⟩ O.setA (st_first O I.kIn ho no fun h2 tk2 dj kp big nda hx hn => ?_)
  have free : H dj = none := I.hok.fresh big
  have far : ∀ {b : Addr} {o : Obj}, hp.get? b = some o → b ≠ dj := fun q => Nat.ne_of_lt (Nat.lt_of_lt_of_le (Heap.lt_size q) big)
  have nota : ∀ {b : Addr}, H b = none → b ≠ a := fun n z => by rw [z, e] at n; cases n
  have same : ∀ b u0, b ≠ a → H b = some u0 → upd (upd H dj (exd dj [(f, y)])) a (exo a C (some dj)) b = some u0 := fun b u0 nb q => by rw [upd_ne nb, upd_ne (ne_of_none q free)]; exact q
  refine k dj _ free nda (I.un (t' := tk2) ⟨fun b o q n _ _ => kp b o (nota n) q, fun b o q n _ _ => ⟨o.slots, kp b o (nota n) q⟩,
    fun b o q n _ => by rw [upd_ne (nota n), upd_ne (far q)]; exact n,
    fun b o q _ => if z : b = a then ⟨_, z ▸ hx⟩ else ⟨o, kp b o z q⟩,
    fun b xs q => same b _ (at_ne e q exo_tup) q, fun b o v q => same b _ (at_ne e q exo_frz) q, fun b ps q => ⟨#[], by rw [same b _ (at_ne e q exo_tbl) q]; simp⟩⟩ fun b o q => ?_)
  by_cases z : b = a
  · subst z; rw [upd_same] at q; cases q; exact exo_ok hx
  · rw [upd_ne z] at q
    by_cases z2 : b = dj
    · subst z2; rw [upd_same] at q; cases q
      exact exd_ok hn (relO_put (fs := []) ry fun _ => True.intro)
    · rw [upd_ne z2] at q
      refine (I.hok b o q).stay (fun c v hc w => kp c v ?_ w) (fun c hc => same c _ (at_ne e hc exo_own) hc) fun c xs hc => same c _ (at_ne e hc exo_tup) hc
      rcases hc with hc | hc
      · rw [hc]; exact z
      · exact at_ne e hc exo_own
/-- self.f = y, a further field -/
theorem put_more (O : Own X.K C) (I : Inv X pins σ H s) (e : H a = some (exo a C (some dj))) (ed : H dj = some (exd dj fs)) (hl : fs.length ≤ 900) (no : PySem.W.findIn X.K (.ref C) f = some none) (ry : RelV y u)
    (k : ∀ s2, Inv X pins σ (upd H dj (exd dj ((f, y) :: fs))) s2 → Q () s2) : wpAny (model X.prog X.w) A (setAttr (.ref a) f u) Q E s := by
  obtain ⟨t1, ho⟩ := exo_at I.hok e
  obtain ⟨mA, hn, rel⟩ := exd_at I.hok ed
  have hw := within_of rel
  obtain ⟨hp, g, d, t, os⟩ := s
  obtain ⟨od, _, _, hod, _, _⟩ := hn.count hw
  refine PySem.W.set_plain I.kIn (od := some od) ⟨ho, rfl, rfl, hod⟩ O.setA (st_more O I.kIn ho hn hw (by rw [List.length_map]; omega) no fun h2 tk2 kp hn2 => ?_)
  have hd : ∃ o, h2.get? dj = some o := by obtain ⟨o, _, _, z, _⟩ := hn2; exact ⟨o, z⟩
  exact k _ (I.write (t' := tk2) (x := dj) (e := dj) (by rw [ed]; exact True.intro) (.inl rfl) kp hd (exd_ok hn2 (relO_put ry rel)))
end

/-- self.f = e in an error's __init__ -/
def tPut (K : PySem.W.Frag) (f : Str) (to te : TE) : TS := fun D σ H => te σ H fun y H1 => to σ H1 fun x H2 => ∃ a C : Addr, x = .ref a ∧ Own K C ∧ PySem.W.findIn K (.ref C) f = some none ∧
  ((H2 a = some (exo a C none) ∧ ∀ dj, H2 dj = none → dj ≠ a → D.nx σ (upd (upd H2 dj (exd dj [(f, y)])) a (exo a C (some dj)))) ∨
    ∃ (dj : Addr) (fs : List (Str × V)), H2 a = some (exo a C (some dj)) ∧ H2 dj = some (exd dj fs) ∧ fs.length ≤ 900 ∧ D.nx σ (upd H2 dj (exd dj ((f, y) :: fs))))
/-- C(e, ..), by C's own __init__ -/
def tNew (C : Addr) (sp : Sp) (ta : TA) : L2.St → Hp → XK → Prop := fun σ H Q => ta σ H fun vs H1 => vs.length ≤ 1000 ∧ ∀ a, H1 a = none → sp (.ref a :: vs) (upd H1 a (exo a C none))
  (fun v H2 => v = .non ∧ ∃ (d : Addr) (fs : List (Str × V)), H2 a = some (exo a C (some d)) ∧ H2 d = some (exd d fs) ∧ H1 d = none ∧ Q (.ref C) (some d) (upd (del H2 a) d (.xd fs))) (fun _ _ _ => False)
section
variable {X : Cx} {o e : Expr} {es : List Expr} {to te : TE} {ta : TA} {f : Str} {p p' pos : Pos}
theorem ps_put (ho : PE X o to) (he : PE X e te) (hs : swapsWith e (some (.Attribute o f p')) pos.line X.env = pure false := by rfl) : PS X (.Assign [.Attribute o f p'] e pos) (tPut X.K f to te) := by
  refine ⟨fun pins s σ H D I h => plainObj_wpAny_Assign_Attribute (thn (he.run pins s σ H _ I h) ?_) hs⟩
  rintro v s1 ⟨y, H1, I1, r1, q1⟩
  refine thn (ho.run pins s1 σ H1 _ I1 q1) ?_
  rintro u s2 ⟨x, H2, I2, r2, a, C, rfl, O, no, q⟩
  obtain rfl : u = Value.ref a := r2
  rcases q with ⟨ea, q⟩ | ⟨dj, fs, ea, ed, hl, q⟩
  · exact put_first O I2 ea no r1 fun dj s3 n ne J => ⟨σ, _, J, q dj n ne⟩
  · exact put_more O I2 ea ed hl no r1 fun s3 J => ⟨σ, _, J, q⟩
theorem pmk_new {CX : CXT} {x : Str} {C fI : Addr} {k : Nat} {fd : FuncData} {ps : List Str} {sp : Sp} (O : Own X.K C) (iC : PySem.W.findIn X.K (.ref C) "__init__" = some (some (.ref fI))) (tI : PySem.W.typeIn X.K (.ref fI) = some (.type "function"))
    (Fi : FnOk X.prog X.w X.K X.mg X.base CX k fI fd ps sp) (hr : Room (k + 1) X.A) (hb : Binds X.K fd ps []) (hx : Passes CX X (fun _ _ _ => False)) (hg : Gl X x) (hm : X.mg x = some (.ref C)) (ha : PA X (e :: es) ta)
    (hdb : (x == ("__debug__" : Str)) = false := by decide) (he : starEach (e :: es) X.env = (false, eval e X.env) :: starEach es X.env := by rfl) (hpl : (backTo pos (starEach es X.env)).any (·.1) = false := by rfl) :
    PMk X (.Call (.Name x p) (e :: es) [] pos) (tNew C sp ta) := by
  intro pins s σ H Q I h
  obtain ⟨B, nI, iI, bmB, S, ini, _⟩ := O.base
  refine wpAny_Call_Name_kw (ld_glob I hg hm ?_ hdb)
  refine PySem.W.callWith_K (h₀ := X.base) I.ok.mod.kin O.keep (thn (ha.run pos pins s σ H _ I h) ?_) he hpl
  rintro us ⟨hp, g, dr, tk, os⟩ ⟨vs, H1, I1, r1, hz, q1⟩
  refine ⟨I1.kIn, ?_⟩
  show wpAny _ _ (call (.ref C) us) _ _ _
  obtain ⟨nm, N, qn, bs, bm, hdct, sn, sub, ab, col, dd, k0, k1, k2, k3, k5, hC, tail⟩ := PySem.W.excInit_of I1.kIn ini
  have up : hp.objs.size ≤ hp.objs.size + 1 := Nat.le_succ _
  have want := q1 (hp.objs.size + 1) (I1.hok.fresh up)
  have kept : ∀ b o, hp.get? b = some o → ((hp.push (PySem.W.kdv_tup us)).push (HandSPX.excO C hp.objs.size)).get? b = some o := fun b o z => Heap.get?_push_of_some _ (Heap.get?_push_of_some _ z)
  have new : ((hp.push (PySem.W.kdv_tup us)).push (HandSPX.excO C hp.objs.size)).get? (hp.objs.size + 1) = some (HandSPX.excO C hp.objs.size) := by heap_get
  have J : Inv X pins σ (upd H1 (hp.objs.size + 1) (exo (hp.objs.size + 1) C none)) ⟨(hp.push (PySem.W.kdv_tup us)).push (HandSPX.excO C hp.objs.size), g, dr, tk, os⟩ := I1.laid (t' := tk) kept up (exo_ok new)
  have rel : Vals (V.ref (hp.objs.size + 1) :: vs) (Value.ref (hp.objs.size + 1) :: us) := .cons rfl r1
  have len : (Value.ref (hp.objs.size + 1) :: us).length = ps.length := rel.length.symm.trans (Fi.len _ _ _ _ want)
  have bind := hb _ (Value.ref (hp.objs.size + 1) :: us) J.kIn (by rw [List.append_nil]; exact len)
  rw [List.append_nil] at bind
  refine wpAny_call (HandSPX.call_own S.bs tail hC (PySem.W.looks_findIn I1.kIn iC) (fun self => PySem.W.bind_fn I1.kIn self tI) (by rw [← Paired.length r1, sizeLine_eq]; omega)
    (codeAny_mono (Fi.run _ X.stack _ _ ⟨Value.ref (hp.objs.size + 1) :: us, []⟩ _ _ _ (fun _ _ _ => False) (hr.make C us []) (J.env0.make C us []) bind rel want) ?_))
  intro r s' w
  match r, w with
  | .error er, w => exact hx pins σ _ _ er s' J w
  | .ok .next, w => exact False.elim w
  | .ok .brk, w => exact False.elim w
  | .ok .cont, w => exact False.elim w
  | .ok (.ret u), w =>
    obtain ⟨v, H2, os2, bare2, un2, hok2, rv, rfl, d, fs, ea, ed, free, q2⟩ := w
    obtain ⟨h2, g2, d2, t2, os'⟩ := s'
    exact ⟨rv, mk_end (raises_own O.isE O.isT) I1 up kept un2 hok2 os2 bare2 ea ed free q2⟩
end

/-! ### what is asked of a caught error -/
structure Asked (K : PySem.W.Frag) (D : Addr) : Prop where
  cl : (PySem.W.clsIn K D).isSome = true
  ga : PySem.W.findIn K (.ref D) "__getattribute__" = some (some (.builtin "BaseException.__getattribute__"))
  gt : PySem.W.findIn K (.ref D) "__getattr__" = some none
  sb : PySem.W.subIn K (.ref D) (.type "BaseException") = some true
  cc : PySem.W.findIn K (.ref D) "__class__" = some (some (.builtin "object.__class__"))
  gn : PySem.W.specialIn K (.builtin "object.__class__") "__get__" = some (some (.builtin "getset_descriptor.__get__"))
  tk : PySem.W.takesIn K (.builtin "object.__class__") = some true
  mr : PySem.W.mroIn K D (.type "object") = some true
theorem isC {K : PySem.W.Frag} {C : Addr} (h : PySem.W.hasDictIn K C = true) : (PySem.W.clsIn K C).isSome = true := by
  obtain ⟨cd, e, _⟩ := PySem.W.any_some h
  rw [e]
  rfl
/-- isinstance(e, c), isinstance(e, (c, ..)) -/
def rAsk (K : PySem.W.Frag) (a : Addr) (cls : Value) (d : Option Addr) (D : Addr) : List V → Hp → VK → Prop := fun xs H Q => cls = .ref D ∧ ∃ (dj : Addr) (fs : List (Str × V)) (c : V) (b : Bool), d = some dj ∧ H dj = some (.xd fs) ∧ xs = [.ref a, c] ∧
  ((∃ cv, (∀ u, RelV c u → u = cv) ∧ PySem.W.kitOne K (.ref D) cv = some b) ∨ ∃ (tp : Addr) (cs : List V) (us : List Value), c = .ref tp ∧ H tp = some (.tup cs) ∧ (∀ ws, Vals cs ws → ws = us) ∧ PySem.W.kitAny K (.ref D) us = some b) ∧ Q (.bl b) H
theorem call_ask {X : Cx} {a D : Addr} {oe : Obj} {cls : Value} {d : Option Addr} {pn : List (Addr × Obj)} (C : Asked X.K D) (hz : Zc cls d oe) (hf : ∃ vs, oe.data = .fields vs) : CallR (X.suite a ((a, oe) :: pn)) (.builtin "isinstance") (rAsk X.K a cls d D) := by
  intro pins s σ H xs us Q I r h
  obtain ⟨rfl, dj, fs, c, b, rfl, hd, rfl, ask, q⟩ := h
  obtain ⟨u1, u2, rfl, r1, r2⟩ := vals2 r
  obtain rfl : u1 = Value.ref a := r1
  obtain ⟨there, _⟩ := I.pin (a, oe) (List.mem_append.mpr (.inl List.mem_cons_self))
  obtain ⟨vs, hv⟩ := hf
  have low : ObjOk X.prog X.w H s.heap dj (.xd fs) := I.hok dj _ hd
  obtain ⟨mA, ⟨od, es, ep, ho, _⟩, _⟩ := low
  have J : PySem.W.InstAt s.heap a oe D (some od) := ⟨there, hz.1, by unfold PySem.W.notCls; rw [hv] <;> rfl, by rw [hz.2]; exact ho⟩
  have Z := PySem.W.kitx_exc (x := a) (ox := oe) (od := some od) C.cl C.ga C.gt C.sb C.cc C.gn C.tk C.mr
  have fin : ∀ tk : Nat, EP (X.suite a ((a, oe) :: pn)) pins σ Q (.bool b) { s with toks := tk } := fun tk => ⟨.bl b, H, I.kept (t' := tk) fun _ _ z => z, rfl, q⟩
  rcases ask with ⟨cv, hc, e⟩ | ⟨tp, cs, ws, rfl, ht, hc, e⟩
  · rw [hc u2 r2]
    exact PySem.W.kia_one Z I.kIn J e (fun z => nomatch z) fin
  · obtain rfl : u2 = Value.ref tp := r2
    have tup : ObjOk X.prog X.w H s.heap tp (.tup cs) := I.hok tp _ ht
    obtain ⟨_, its, rv, o, h1, h2, n, h3⟩ := tup
    rw [← hc its rv] at e
    obtain ⟨oc, oda, dt, sl⟩ := o
    simp only at h2 h3
    subst h2 h3
    exact PySem.W.kia_tup Z I.kIn J h1 e (fun z => nomatch z) fin
end VX

/-! The greatest number of units in windows; the form of such a curve; curves at most others; plain Lean. -/
namespace VM
def maxTo (g : Nat → Int) : Nat → Int
  | 0 => g 0
  | n + 1 => max (maxTo g n) (g (n + 1))
theorem maxTo_ge {g : Nat → Int} : ∀ {n i : Nat}, i ≤ n → g i ≤ maxTo g n
  | 0, i, h => by have : i = 0 := by omega
                  subst this; exact Int.le_refl _
  | n + 1, i, h => by
    unfold maxTo
    by_cases c : i = n + 1
    · subst c; omega
    · have := maxTo_ge (g := g) (n := n) (i := i) (by omega)
      omega
theorem maxTo_at {g : Nat → Int} : ∀ n : Nat, ∃ i, i ≤ n ∧ maxTo g n = g i
  | 0 => ⟨0, Nat.le_refl _, rfl⟩
  | n + 1 => by
    obtain ⟨i, hi, e⟩ := maxTo_at (g := g) n
    unfold maxTo
    by_cases c : maxTo g n ≤ g (n + 1)
    · exact ⟨n + 1, Nat.le_refl _, by omega⟩
    · exact ⟨i, by omega, by omega⟩
theorem maxTo_is {g : Nat → Int} {n : Nat} {m : Int} (h : m ∈ (List.range (n + 1)).map g) (h2 : ∀ y ∈ (List.range (n + 1)).map g, y ≤ m) : m = maxTo g n := by
  obtain ⟨i, hi, e⟩ := maxTo_at (g := g) n
  obtain ⟨j, hj, ej⟩ := List.mem_map.mp h
  have a := h2 (g i) (List.mem_map.mpr ⟨i, List.mem_range.mpr (by omega), rfl⟩)
  have b := maxTo_ge (g := g) (n := n) (i := j) (by have := List.mem_range.mp hj; omega)
  omega
/-- the greatest number of units in k successive ticks -/
def mostM (us : List Int) (k : Nat) : Int := if us.length ≤ k then us.sum else maxTo (fun s => win us s k) (us.length - k)
theorem win_all {us : List Int} : win us ((0 : Nat) : Int) us.length = us.sum := by
  unfold win
  rw [show ((0 : Nat) : Int) + (us.length : Int) = us.length by omega, pre_all, show ((0 : Nat) : Int) = 0 from rfl, pre_zero]
  omega
theorem most_ge {us : List Int} {s k : Nat} (h : s + k ≤ us.length) : win us s k ≤ mostM us k := by
  unfold mostM
  by_cases c : us.length ≤ k
  · rw [if_pos c]
    have e : s = 0 := by omega
    have e2 : k = us.length := by omega
    subst e e2
    rw [win_all]
    exact Int.le_refl _
  · rw [if_neg c]
    exact maxTo_ge (g := fun s => win us s k) (n := us.length - k) (i := s) (by omega)
theorem most_at {us : List Int} {k : Nat} (h : k ≤ us.length) : ∃ s : Nat, s + k ≤ us.length ∧ mostM us k = win us s k := by
  unfold mostM
  by_cases c : us.length ≤ k
  · rw [if_pos c]
    have e2 : k = us.length := by omega
    subst e2
    exact ⟨0, by omega, win_all.symm⟩
  · rw [if_neg c]
    obtain ⟨s, hs, e⟩ := maxTo_at (g := fun s : Nat => win us s k) (us.length - k)
    exact ⟨s, by omega, e⟩
theorem most_far {us : List Int} {k : Nat} (h : us.length ≤ k) : mostM us k = us.sum := by unfold mostM; rw [if_pos h]
theorem pre_mono {us : List Int} (N : ∀ u ∈ us, 0 ≤ u) (i : Nat) (h : i < us.length) : pre us i ≤ pre us ((i : Int) + 1) := by
  rw [pre_step h]
  have := N us[i] (List.getElem_mem h)
  rw [List.getD_eq_getElem?_getD, List.getElem?_eq_getElem h]
  show _ ≤ _ + us[i]
  omega
theorem most_zero {us : List Int} : mostM us 0 = 0 := by
  obtain ⟨s, hs, e⟩ := most_at (us := us) (k := 0) (Nat.zero_le _)
  rw [e]
  unfold win
  rw [show (s : Int) + ((0 : Nat) : Int) = s by omega]
  omega
theorem most_up {us : List Int} (N : ∀ u ∈ us, 0 ≤ u) (k : Nat) : mostM us k ≤ mostM us (k + 1) := by
  by_cases c : us.length ≤ k
  · rw [most_far c, most_far (by omega)]
    exact Int.le_refl _
  · obtain ⟨s, hs, e⟩ := most_at (us := us) (k := k) (by omega)
    rw [e]
    by_cases d : s + (k + 1) ≤ us.length
    · have a := most_ge (us := us) (s := s) (k := k + 1) d
      have b := pre_mono N (s + k) (by omega)
      unfold win at a ⊢
      rw [show (s : Int) + ((k + 1 : Nat) : Int) = ((s + k : Nat) : Int) + 1 by omega] at a
      rw [show (s : Int) + (k : Int) = ((s + k : Nat) : Int) by omega]
      omega
    · have a := most_ge (us := us) (s := s - 1) (k := k + 1) (by omega)
      have b := pre_mono N (s - 1) (by omega)
      unfold win at a ⊢
      rw [show ((s - 1 : Nat) : Int) + ((k + 1 : Nat) : Int) = (s : Int) + k by omega] at a
      rw [show ((s - 1 : Nat) : Int) + 1 = (s : Int) by omega] at b
      omega
theorem most_mono {us : List Int} (N : ∀ u ∈ us, 0 ≤ u) (a : Nat) : ∀ d : Nat, mostM us a ≤ mostM us (a + d)
  | 0 => Int.le_refl _
  | d + 1 => Int.le_trans (most_mono N a d) (most_up N (a + d))
theorem most_nn {us : List Int} (N : ∀ u ∈ us, 0 ≤ u) (a : Nat) : 0 ≤ mostM us a := by
  have := most_mono N 0 a
  rw [most_zero, Nat.zero_add] at this
  exact this
theorem most_sum {us : List Int} (N : ∀ u ∈ us, 0 ≤ u) (a : Nat) : mostM us a ≤ us.sum := by
  by_cases c : us.length ≤ a
  · rw [most_far c]; exact Int.le_refl _
  · have := most_mono N a (us.length - a)
    rw [most_far (us := us) (k := a + (us.length - a)) (by omega)] at this
    exact this
/-- the function of the tightest curve -/
def tF (us : List Int) (t : Int) : Int := mostM us t.toNat
theorem tF_zero {us : List Int} : tF us 0 = 0 := most_zero
theorem tF_nat {us : List Int} {k : Nat} : tF us k = mostM us k := by unfold tF; rw [Int.toNat_natCast]
theorem most_add {us : List Int} (N : ∀ u ∈ us, 0 ≤ u) (a b : Nat) : mostM us (a + b) ≤ mostM us a + mostM us b := by
  have key : ∀ k a b : Nat, k ≤ us.length → k = a + b → mostM us k ≤ mostM us a + mostM us b := fun k a b hk e => by
    obtain ⟨s, hs, q⟩ := most_at (us := us) hk
    have w1 := most_ge (us := us) (s := s) (k := a) (by omega)
    have w2 := most_ge (us := us) (s := s + a) (k := b) (by omega)
    rw [q]
    unfold win at *
    rw [show ((s + a : Nat) : Int) + (b : Int) = (s : Int) + k by omega] at w2
    rw [show ((s + a : Nat) : Int) = (s : Int) + a by omega] at w2
    omega
  by_cases c : a + b ≤ us.length
  · exact key _ a b c rfl
  · by_cases d : us.length ≤ a
    · have := most_nn N b
      rw [most_far (by omega), most_far d]
      omega
    · have z := key us.length a (us.length - a) (Nat.le_refl _) (by omega)
      have y := most_mono N (us.length - a) (b - (us.length - a))
      rw [show us.length - a + (b - (us.length - a)) = b by omega] at y
      rw [most_far (us := us) (k := a + b) (by omega)]
      rw [most_far (us := us) (k := us.length) (Nat.le_refl _)] at z
      omega
/-- the values that the package writes first -/
def tV (us : List Int) : List Int := if us = [] then [0] else vals (tF us) us.length
theorem tV_length {us : List Int} : (tV us).length = max us.length 1 := by
  unfold tV
  by_cases c : us = []
  · subst c; rfl
  · rw [if_neg c, vals_length]
    have : us.length ≠ 0 := fun z => c (List.length_eq_zero_iff.mp z)
    omega
theorem tV_at {us : List Int} : ∀ t : Int, 0 ≤ t → cvAt (tV us) 1 0 t = tF us t := by
  have R : Rep (tF us) (max us.length 1 : Nat) 1 0 := fun t ht => by
    unfold tF
    rw [most_far (by omega), most_far (by omega)]
    omega
  by_cases c : us = []
  · intro t ht
    subst c
    have e : tF [] = fun _ => 0 := by funext t; unfold tF; rw [most_far (Nat.zero_le _)]; rfl
    rw [e]
    have R0 : Rep (cvAt (tV []) 1 0) ((tV []).length : Nat) 1 0 := Rep.cvAt (by decide) (by decide)
    obtain ⟨n, rfl⟩ : ∃ n : Nat, t = n := ⟨t.toNat, by omega⟩
    induction n with
    | zero => exact cvAt_zero
    | succ n ih =>
      by_cases z : n = 0
      · subst z; rfl
      · rw [R0 _ (by show (((tV []).length : Nat) : Int) < _; rw [tV_length]; show ((max 0 1 : Nat) : Int) < _; omega), show ((n + 1 : Nat) : Int) - 1 = n by omega, ih (by omega)]
        rfl
  · have n0 : us.length ≠ 0 := fun z => c (List.length_eq_zero_iff.mp z)
    unfold tV
    rw [if_neg c]
    rw [show max us.length 1 = us.length by omega] at R
    exact cvAt_vals (by decide) (by omega) tF_zero R
theorem tV_p {us : List Int} : formP (tV us) 1 0 = (1, 0) := by
  show leastFrom _ _ _ (1 - 1 : Int).toNat 1 = _
  rw [show ((1 : Int) - 1).toNat = 0 from rfl]
  unfold leastFrom
  have R0 : Rep (cvAt (tV us) 1 0) ((tV us).length : Nat) 1 0 := Rep.cvAt (by decide) (by rw [tV_length]; omega)
  rw [R0 _ (by omega), show (((tV us).length : Nat) : Int) + 1 - 1 = (tV us).length by omega]
  congr 1
  omega
theorem shr_congr {f g : Int → Int} {s : Int} : ∀ m : Nat, (∀ t : Int, 0 ≤ t → f t = g t) → shr f 1 s m = shr g 1 s m
  | 0, _ => rfl
  | m + 1, h => by
    unfold shr
    rw [h _ (by omega), h (((m + 1 : Nat) : Int) - 1) (by omega), shr_congr m h]
theorem vals_congr {f g : Int → Int} {m : Nat} (h : ∀ t : Int, 0 ≤ t → f t = g t) : vals f m = vals g m := by
  unfold vals
  exact List.map_congr_left fun i _ => h _ (by omega)
/-- the form of the tightest curve -/
def tM (us : List Int) : Nat := shr (tF us) 1 0 (us.length + 1)
def tW (us : List Int) : List Int := vals (tF us) (tM us)
theorem tM_eq {us : List Int} : formM (tV us) 1 0 = tM us := by
  unfold formM tM
  rw [tV_p, shr_congr (g := tF us) _ tV_at, tV_length]
  by_cases c : us.length = 0
  · rw [c]; rfl
  · have : shr (tF us) 1 0 (us.length + 1) = shr (tF us) 1 0 us.length := by
      show (if (1 : Int) < ((us.length + 1 : Nat) : Int) ∧ _ then _ else _) = _
      rw [if_pos]
      refine ⟨by omega, ?_⟩
      rw [tF_nat, show ((us.length + 1 : Nat) : Int) - 1 = ((us.length : Nat) : Int) by omega, tF_nat, most_far (by omega), most_far (Nat.le_refl _)]
      omega
    rw [this, show max us.length 1 = us.length by omega]
theorem tW_eq {us : List Int} : formV (tV us) 1 0 = tW us := by
  unfold formV tW
  rw [tM_eq]
  exact vals_congr tV_at
theorem shr_pos {f : Int → Int} : ∀ m : Nat, 1 ≤ m → 1 ≤ shr f 1 0 m ∧ shr f 1 0 m ≤ m
  | 0, h => absurd h (by decide)
  | m + 1, _ => by
    unfold shr
    by_cases c : (1 : Int) < ((m + 1 : Nat) : Int) ∧ f ((m + 1 : Nat) : Int) = f (((m + 1 : Nat) : Int) - 1) + 0
    · rw [if_pos c]
      have := shr_pos (f := f) m (by omega)
      omega
    · rw [if_neg c]; omega
theorem tW_at {us : List Int} : ∀ t : Int, 0 ≤ t → cvAt (tW us) 1 0 t = tF us t := fun t ht => by
  obtain ⟨_, _, _, _, h⟩ := form_spec (vs := tV us) (p := 1) (g := 0) (by decide) (by rw [tV_length]; omega)
  have := h t ht
  rw [tW_eq, tV_p] at this
  rw [this, tV_at t ht]
theorem tW_len {us : List Int} : 1 ≤ (tW us).length ∧ (tW us).length ≤ us.length + 1 := by
  unfold tW
  rw [vals_length]
  exact shr_pos _ (by omega)
theorem tW_kept {us : List Int} : Kept (cvAt (tW us) 1 0) us := fun s k h1 h2 => by
  rw [tW_at _ (by omega), tF_nat]
  exact most_ge h2
theorem tW_good {us : List Int} (N : ∀ u ∈ us, 0 ≤ u) (a b : Int) (ha : 0 ≤ a) (hb : 0 ≤ b) : cvAt (tW us) 1 0 (a + b) ≤ cvAt (tW us) 1 0 a + cvAt (tW us) 1 0 b := by
  rw [tW_at _ (by omega), tW_at _ ha, tW_at _ hb]
  have := most_add N a.toNat b.toNat
  unfold tF
  rw [show (a + b).toNat = a.toNat + b.toNat by omega]
  exact this
/-! ### the record turned round, with an empty tick behind -/
theorem sum_rev (us : List Int) : us.reverse.sum = us.sum := by
  induction us with
  | nil => rfl
  | cons u us ih => rw [List.reverse_cons, List.sum_append, ih, List.sum_cons]; simp; omega
theorem pre_rev {us : List Int} {i : Nat} (h : i ≤ us.length) : pre us.reverse i = us.sum - pre us ((us.length - i : Nat) : Int) := by
  unfold pre
  rw [Int.toNat_natCast, Int.toNat_natCast, List.take_reverse, sum_rev]
  have e := List.take_append_drop (us.length - i) us
  have s : us.sum = (us.take (us.length - i)).sum + (us.drop (us.length - i)).sum := by rw [← List.sum_append, e]
  omega
theorem win_rev {us : List Int} {s k : Nat} (h : s + k ≤ us.length) : win us.reverse s k = win us ((us.length - s - k : Nat) : Int) k := by
  unfold win
  rw [show (s : Int) + (k : Int) = ((s + k : Nat) : Int) by omega, pre_rev h, pre_rev (by omega), show ((us.length - s - k : Nat) : Int) + (k : Int) = ((us.length - s : Nat) : Int) by omega, show us.length - (s + k) = us.length - s - k by omega]
  omega
theorem win_push {us : List Int} {x : Int} {s k : Nat} (h : s + k ≤ us.length) : win (us ++ [x]) s k = win us s k := by
  unfold win
  rw [pre_push (by omega), pre_push (by omega)]
theorem most_back {us : List Int} (N : ∀ u ∈ us, 0 ≤ u) (k : Nat) : mostM (us.reverse ++ [0]) k = mostM us k := by
  have len : (us.reverse ++ [0]).length = us.length + 1 := by rw [List.length_append, List.length_reverse]; rfl
  have sm : (us.reverse ++ [0]).sum = us.sum := by rw [List.sum_append, sum_rev]; simp
  by_cases c : us.length < k
  · rw [most_far (by omega), most_far (by omega), sm]
  · apply Int.le_antisymm
    · obtain ⟨s, hs, e⟩ := most_at (us := us.reverse ++ [0]) (k := k) (by omega)
      rw [len] at hs
      rw [e]
      by_cases d : s + k ≤ us.length
      · rw [win_push (by rw [List.length_reverse]; exact d), win_rev d]
        exact most_ge (by omega)
      · by_cases k0 : k = 0
        · subst k0
          rw [most_zero]
          unfold win
          rw [show (s : Int) + ((0 : Nat) : Int) = s by omega]
          omega
        · have p1 : pre (us.reverse ++ [0]) ((s : Int) + k) = us.sum := by
            rw [pre_last (by rw [List.length_reverse]; omega), pre_all, sum_rev]
            omega
          have p2 : pre (us.reverse ++ [0]) s = us.sum - pre us ((us.length - s : Nat) : Int) := by
            rw [pre_push (by rw [List.length_reverse]; omega), pre_rev (by omega)]
          have w : win (us.reverse ++ [0]) s k = win us ((0 : Nat) : Int) (k - 1 : Nat) := by
            unfold win
            rw [p1, p2, show ((0 : Nat) : Int) + ((k - 1 : Nat) : Int) = ((us.length - s : Nat) : Int) by omega, show ((0 : Nat) : Int) = 0 from rfl, pre_zero]
            omega
          rw [w]
          have a := most_ge (us := us) (s := 0) (k := k - 1) (by omega)
          have b := most_up N (k - 1)
          rw [show k - 1 + 1 = k by omega] at b
          omega
    · obtain ⟨s, hs, e⟩ := most_at (us := us) (k := k) (by omega)
      rw [e]
      have a := most_ge (us := us.reverse ++ [0]) (s := us.length - s - k) (k := k) (by omega)
      rw [win_push (by rw [List.length_reverse]; omega), win_rev (by omega), show us.length - (us.length - s - k) - k = s by omega] at a
      exact a
theorem tW_back {us : List Int} (N : ∀ u ∈ us, 0 ≤ u) : tW (us.reverse ++ [0]) = tW us := by
  have F : tF (us.reverse ++ [0]) = tF us := by
    funext t
    unfold tF
    exact most_back N t.toNat
  have M : tM (us.reverse ++ [0]) = tM us := by
    unfold tM
    rw [F, List.length_append, List.length_reverse]
    show shr (tF us) 1 0 (us.length + 1 + 1) = _
    show (if (1 : Int) < ((us.length + 1 + 1 : Nat) : Int) ∧ _ then _ else _) = _
    rw [if_pos]
    refine ⟨by omega, ?_⟩
    rw [tF_nat, show ((us.length + 1 + 1 : Nat) : Int) - 1 = ((us.length + 1 : Nat) : Int) by omega, tF_nat, most_far (by omega), most_far (by omega)]
    omega
  unfold tW
  rw [F, M]
/-! ### at most -/
/-- is one curve at most another one, as the package looks -/
def amN (n1 n2 : Nat) (p1 p2 : Int) : Nat := (max ((n1 : Int) - p1) ((n2 : Int) - p2) + (Nat.lcm p1.toNat p2.toNat : Nat)).toNat
def amM (f1 f2 : Int → Int) (n1 n2 : Nat) (p1 g1 p2 g2 : Int) : Bool :=
  if g2 * ((Nat.lcm p1.toNat p2.toNat : Nat) / p2) < g1 * ((Nat.lcm p1.toNat p2.toNat : Nat) / p1) then false else
    (List.range (amN n1 n2 p1 p2)).all fun i : Nat => decide (f1 ((i : Int) + 1) ≤ f2 ((i : Int) + 1))
theorem all_iff {n : Nat} {f g : Int → Int} : ((List.range n).all fun i : Nat => decide (f ((i : Int) + 1) ≤ g ((i : Int) + 1))) = true ↔ ∀ t : Int, 1 ≤ t → t ≤ n → f t ≤ g t := by
  rw [List.all_eq_true]
  constructor
  · intro h t h1 h2
    have := of_decide_eq_true (h (t - 1).toNat (List.mem_range.mpr (by omega)))
    rw [show (((t - 1).toNat : Nat) : Int) + 1 = t by omega] at this
    exact this
  · intro h i hi
    exact decide_eq_true (h _ (by omega) (by have := List.mem_range.mp hi; omega))
/-- the tightest curve is at most a curve exactly if the record keeps it -/
theorem am_tight {us : List Int} (N : ∀ u ∈ us, 0 ≤ u) {f : Int → Int} {n2 : Nat} {p g : Int} (hp : 0 < p) (hpn : p ≤ n2) (hg : 0 ≤ g) (h0 : 0 ≤ f 1) (up : ∀ k : Nat, 1 ≤ k → f k ≤ f ((k : Int) + 1)) :
    amM (cvAt (tW us) 1 0) f (tW us).length n2 1 0 p g = (List.range us.length).all fun i : Nat => decide (tF us ((i : Int) + 1) ≤ f ((i : Int) + 1)) := by
  have L : Nat.lcm (1 : Int).toNat p.toNat = p.toNat := by rw [show (1 : Int).toNat = 1 from rfl]; exact Nat.lcm_one_left _
  have fm : ∀ (d k : Nat), 1 ≤ k → f k ≤ f ((k + d : Nat) : Int) := fun d k hk => by
    induction d with
    | zero => exact Int.le_refl _
    | succ d ih =>
      have := up (k + d) (by omega)
      rw [show ((k + d : Nat) : Int) + 1 = ((k + (d + 1) : Nat) : Int) by omega] at this
      omega
  have fmi : ∀ a b : Int, 1 ≤ a → a ≤ b → f a ≤ f b := fun a b h1 h2 => by
    have := fm (b - a).toNat a.toNat (by omega)
    rw [show ((a.toNat + (b - a).toNat : Nat) : Int) = b by omega, show ((a.toNat : Nat) : Int) = a by omega] at this
    exact this
  obtain ⟨l1, l2⟩ := tW_len (us := us)
  have gg : ¬ g * ((Nat.lcm (1 : Int).toNat p.toNat : Nat) / p) < 0 * ((Nat.lcm (1 : Int).toNat p.toNat : Nat) / (1 : Int)) := by
    rw [L, Int.zero_mul, show ((p.toNat : Nat) : Int) = p by omega, Int.ediv_self (by omega)]
    omega
  unfold amM
  rw [if_neg gg, Bool.eq_iff_iff, all_iff, all_iff]
  have nn : ((amN (tW us).length n2 1 p : Nat) : Int) = max (((tW us).length : Int) - 1) ((n2 : Int) - p) + p := by
    unfold amN
    rw [L]
    omega
  constructor
  · intro h t h1 h2
    rw [← tW_at _ (by omega)]
    by_cases c : t ≤ (amN (tW us).length n2 1 p : Nat)
    · exact h t h1 c
    · have R : Rep (cvAt (tW us) 1 0) (tW us).length 1 0 := Rep.cvAt (by decide) (by omega)
      have flat : ∀ d : Nat, cvAt (tW us) 1 0 (((tW us).length + d : Nat) : Int) = cvAt (tW us) 1 0 (tW us).length := fun d => by
        induction d with
        | zero => rfl
        | succ d ih =>
          rw [R _ (by omega), show (((tW us).length + (d + 1) : Nat) : Int) - 1 = (((tW us).length + d : Nat) : Int) by omega, ih]
          omega
      have e := flat (t - (tW us).length).toNat
      rw [show (((tW us).length + (t - (tW us).length).toNat : Nat) : Int) = t by omega] at e
      rw [e]
      exact Int.le_trans (h _ (by omega) (by omega)) (fmi _ _ (by omega) (by omega))
  · intro h t h1 h2
    rw [tW_at _ (by omega)]
    by_cases c : t ≤ us.length
    · exact h t h1 c
    · unfold tF
      rw [most_far (by omega)]
      by_cases z : us.length = 0
      · have : us = [] := List.length_eq_zero_iff.mp z
        subst this
        exact Int.le_trans h0 (fmi 1 t (by decide) h1)
      · have a := h us.length (by omega) (Int.le_refl _)
        rw [tF_nat, most_far (Nat.le_refl _)] at a
        exact Int.le_trans a (fmi _ _ (by omega) (by omega))
end VM

/-! Data in an f-string, repr by an own __repr__ that shows data, lcm. -/
namespace VQ
open PySem PySem.Spec PyProof.Rows L2
section
variable {X : Cx}
/-- {x}: data that repr may be asked of -/
def tFmtD (K : PySem.W.Frag) (te : TE) : TE := fun σ H Q => te σ H fun x H1 => ∃ (a : Addr) (d : PyData), x = .ref a ∧ Dp K H1 x d ∧ d.showable = true ∧ d.depth ≤ 60 ∧ d.shown.length ≤ sizeLine ∧ Q (.str d.shown) H1
theorem pe_fmtD {e : Expr} {te : TE} {pos : Pos} (hg : X.A.guards = some []) (hu : X.A.units + 64 < cLine) (he : PE X e te) : PE X (.FormattedValue e (-1) none pos) (tFmtD X.K te) := by
  refine ⟨fun pins s σ H Q I h => wpAny_FormattedValue_plain (thn (he.run pins s σ H _ I h) ?_)⟩
  rintro v s1 ⟨x, H1, I1, r1, a, d, rfl, dp, sh, de, sz, q⟩
  obtain rfl : v = Value.ref a := r1
  have nd := (VG.dp_noDict X.K H1).1 d _ dp
  obtain ⟨as, rd⟩ := Dp.reads I1 d _ _ dp rfl
  exact formatField_of_reads rd sh (fun z => by rw [nd] at z; cases z) hg (by omega) (fun _ _ z => z) (fun h' u tk k => ⟨.str _, H1, I1.kept (t' := tk) k, ⟨_, rfl⟩, q⟩) sz
variable {CX : CXT} {k : Nat} {f C : Addr} {fd : FuncData} {ps : List Str} {sp : Sp} {E : XK}
/-- repr of an instance whose own __repr__ asks for empty guards -/
theorem call_reprOwnG (F : VG.FnG X.prog X.w X.K X.mg X.base CX k f fd ps sp) (hA : X.A.guards = some []) (hr : Room (k + 1) X.A) (o : Meth X.K C "__repr__" f) (hb : Binds X.K fd ps []) (hx : Passes CX X E) :
    CallR X (.builtin "repr") (VN.rReprOwn C sp E) := by
  intro pins s σ H xs us Q I r h
  obtain ⟨a, dx, fs, rfl, ea, hsp⟩ := h
  obtain ⟨u, rfl, ru⟩ := vals1 r
  obtain rfl : u = Value.ref a := ru
  obtain ⟨mA, J, _⟩ := ins_get I.hok ea
  obtain ⟨od, J, _⟩ := J.look
  obtain ⟨m, hF⟩ := I.fr
  have len := F.arity _ _ _ _ hsp
  have bind := hb s [.ref a] I.kIn (by simpa using len)
  rw [List.append_nil] at bind
  refine PySem.W.repr_K hr.in1.units0 hF I.ok.mod.kin J o.at_ o.fn (wpAny_call (codeAny_mono (F.go X.A.in1 X.stack s H ⟨[.ref a], []⟩ [.ref a] [.ref a] _ E hA hr.in1 I.env0.in1 bind (.cons rfl .nil) hsp) ?_))
  intro res s' hq
  match res, hq with
  | .error e, hq => exact hx pins σ H s e s' I hq
  | .ok .next, hq => exact False.elim hq
  | .ok .brk, hq => exact False.elim hq
  | .ok .cont, hq => exact False.elim hq
  | .ok (.ret w), hq =>
    obtain ⟨z, H', J', rz, y, rfl, q⟩ := I.after hq
    obtain ⟨t, rfl⟩ := rz
    exact ⟨.str y, H', J', ⟨t, rfl⟩, q⟩
/-- lcm of small numbers -/
def rLcm : List V → Hp → VK → Prop := fun vs H Q => ∃ a b : Int, vs = [.int a, .int b] ∧ 0 < a ∧ a ≤ 1000 ∧ 0 < b ∧ b ≤ 1000 ∧ Q (.int ((Nat.lcm a.toNat b.toNat : Nat) : Int)) H
theorem cr_lcm : CallR X (.builtin "math.lcm") rLcm := by
  intro pins s σ H vs us Q I r h
  obtain ⟨a, b, rfl, a0, a1, b0, b1, q⟩ := h
  obtain ⟨t, u, rfl⟩ := Vals.int2 r
  have ea : a.natAbs = a.toNat := by omega
  have eb : b.natAbs = b.toNat := by omega
  have z : (Nat.lcm 1 a.natAbs).lcm b.natAbs = Nat.lcm a.toNat b.toNat := by rw [Nat.lcm_one_left, ea, eb]
  have big : Nat.lcm a.toNat b.toNat ≤ 1000000 := by
    have p : Nat.lcm a.toNat b.toNat ∣ a.toNat * b.toNat := Nat.lcm_dvd_mul _ _
    have m := Nat.le_of_dvd (Nat.mul_pos (by omega) (by omega)) p
    have y : a.toNat * b.toNat ≤ 1000 * 1000 := Nat.mul_le_mul (by omega) (by omega)
    omega
  have lg : (Nat.lcm a.toNat b.toNat).log2 < 64 := by
    by_cases n0 : Nat.lcm a.toNat b.toNat = 0
    · rw [n0]; decide
    · exact (Nat.log2_lt n0).mpr (Nat.lt_of_le_of_lt big (by decide))
  refine PySem.W.mg_lcm (by omega) (by omega) ?_ ⟨.int _, H, I.tok _, ⟨_, rfl⟩, ?_⟩
  · rw [z, Int.natAbs_natCast]
    exact Nat.lt_trans lg (by decide)
  · rw [z]; exact q
end
end VQ

/-! The sum of two objects of an own class, by its own __add__. -/
namespace VO
open PySem PySem.Spec PyProof.Rows L2
def rAddOwn (C : Addr) (sp : Sp) (E : XK) : R2 := fun x y H Q => ∃ a dx fs b dy gs, x = .ref a ∧ H a = some (.ins C dx fs) ∧ y = .ref b ∧ H b = some (.ins C dy gs) ∧ sp [x, y] H (fun v H' => ∃ c, v = .ref c ∧ Q (.ref c) H') E
section
variable {X : Cx} {CX : CXT} {k : Nat} {f C : Addr} {fd : FuncData} {ps : List Str} {sp : Sp} {E : XK}
theorem op_addOwn (F : FnOk X.prog X.w X.K X.mg X.base CX k f fd ps sp) (hr : Room k X.A) (o : Meth X.K C "__add__" f) (c : PySem.W.selfFirst X.K C = true) (hb : Binds X.K fd ps []) (hx : Passes CX X E) : OpR X (binaryOp .Add) (rAddOwn C sp E) := by
  intro pins s σ H x y v u Q I rx ry h
  obtain ⟨a, dx, fs, b, dy, gs, rfl, ea, rfl, eb, hsp⟩ := h
  obtain rfl : v = Value.ref a := rx
  obtain rfl : u = Value.ref b := ry
  obtain ⟨mA, J, _⟩ := ins_get I.hok ea
  obtain ⟨od, J, _⟩ := J.look
  obtain ⟨mB, J2, _⟩ := ins_get I.hok eb
  obtain ⟨od2, J2, _⟩ := J2.look
  obtain ⟨m, hF⟩ := I.fr
  show wpAny (model X.prog X.w) X.A (binaryOp .Add (.ref a) (.ref b)) (EP X pins σ Q) X.xe s
  refine PySem.W.binop_K (op := .Add) hF I.ok.mod.kin J J2.type c o.at_ o.fn ?_
  have hl := F.len _ _ _ _ hsp
  have r2 : Vals [V.ref a, V.ref b] [Value.ref a, Value.ref b] := .cons rfl (.cons rfl .nil)
  refine wpAny_call (codeAny_mono (F.run X.A X.stack s H ⟨[.ref a, .ref b], []⟩ [.ref a, .ref b] [.ref a, .ref b] _ E hr I.env0 (by
    have := hb s [.ref a, .ref b] I.kIn (by simpa using hl)
    simpa using this) r2 hsp) fun r s' hq => ?_)
  cases r with
  | error e => exact hx pins σ H s e s' I hq
  | ok fl =>
    cases fl with
    | ret w =>
      obtain ⟨z, H', I', rz, b, ez, q⟩ := I.after hq
      subst ez
      cases rz
      exact ⟨.ref b, H', I', rfl, q⟩
    | next => exact False.elim hq
    | brk => exact False.elim hq
    | cont => exact False.elim hq
end
end VO

/-! The first break of a curve; a curve later; the sum of two. -/
namespace VM
theorem least_nat {P : Nat → Prop} (h : ∃ n, P n) : ∃ n, P n ∧ ∀ m, m < n → ¬ P m := by
  obtain ⟨n, hn⟩ := h
  induction n using Nat.strongRecOn with
  | ind n ih =>
    by_cases z : ∃ m, m < n ∧ P m
    · obtain ⟨m, hm, pm⟩ := z
      exact ih m hm pm
    · exact ⟨n, hn, fun m hm pm => z ⟨m, hm, pm⟩⟩
/-- the first break among all pairs, or that there is none -/
def First (f : Int → Int) : Option (Int × Int) → Prop
  | none => ∀ a b : Int, 1 ≤ a → a ≤ b → f (a + b) ≤ f a + f b
  | some (a, b) => 1 ≤ a ∧ a ≤ b ∧ f a + f b < f (a + b) ∧ ∀ x y : Int, 1 ≤ x → x ≤ y → (x + y < a + b ∨ (x + y = a + b ∧ x < a)) → f (x + y) ≤ f x + f y
theorem first_ex (f : Int → Int) : ∃ o, First f o := by
  by_cases h : ∃ s : Nat, ∃ a : Nat, 1 ≤ a ∧ 2 * a ≤ s ∧ f a + f (s - a) < f s
  · obtain ⟨s, ⟨a0, ha0⟩, hs⟩ := least_nat h
    obtain ⟨a, ⟨a1, a2, a3⟩, ha⟩ := least_nat (P := fun a : Nat => 1 ≤ a ∧ 2 * a ≤ s ∧ f a + f (s - a) < f s) ⟨a0, ha0⟩
    refine ⟨some ((a : Int), (s : Int) - a), by omega, by omega, ?_, fun x y hx hxy lt => ?_⟩
    · rw [show (a : Int) + (s - a) = s by omega]; exact a3
    · by_cases c : f (x + y) ≤ f x + f y
      · exact c
      · exfalso
        have e1 : ((x.toNat : Nat) : Int) = x := by omega
        have e2 : (((x + y).toNat : Nat) : Int) = x + y := by omega
        have key : 1 ≤ x.toNat ∧ 2 * x.toNat ≤ (x + y).toNat ∧ f (x.toNat : Nat) + f (((x + y).toNat : Nat) - (x.toNat : Nat) : Int) < f ((x + y).toNat : Nat) := by
          refine ⟨by omega, by omega, ?_⟩
          rw [e1, e2, show x + y - x = y by omega]
          omega
        rcases lt with lt | ⟨lt, lt2⟩
        · exact hs (x + y).toNat (by omega) ⟨x.toNat, key⟩
        · refine ha x.toNat (by omega) ?_
          have e3 : (x + y).toNat = s := by omega
          rw [e3] at key
          exact key
  · refine ⟨none, fun a b ha hab => ?_⟩
    by_cases c : f (a + b) ≤ f a + f b
    · exact c
    · exfalso
      apply h
      refine ⟨(a + b).toNat, a.toNat, by omega, by omega, ?_⟩
      rw [show ((a.toNat : Nat) : Int) = a by omega, show (((a + b).toNat : Nat) : Int) = a + b by omega, show a + b - a = b by omega]
      omega
theorem First.congr {f h : Int → Int} {o : Option (Int × Int)} (e : ∀ t : Int, 0 ≤ t → f t = h t) (F : First f o) : First h o := by
  cases o with
  | none => exact fun a b h1 h2 => by rw [← e (a + b) (by omega), ← e a (by omega), ← e b (by omega)]; exact F a b h1 h2
  | some ab =>
    obtain ⟨a, b⟩ := ab
    obtain ⟨a1, a2, a3, a4⟩ := F
    refine ⟨a1, a2, ?_, fun x y h1 h2 lt => ?_⟩
    · rw [← e (a + b) (by omega), ← e a (by omega), ← e b (by omega)]; exact a3
    · rw [← e (x + y) (by omega), ← e x (by omega), ← e y (by omega)]; exact a4 x y h1 h2 lt
/-- neither length of the first break is greater than the number of values -/
theorem first_le {f : Int → Int} {n p g a b : Int} (R : Rep f n p g) (hp : 0 < p) (hpn : p ≤ n) (F : First f (some (a, b))) : b ≤ n := by
  obtain ⟨a1, a2, a3, a4⟩ := F
  by_cases c : b ≤ n
  · exact c
  exfalso
  have r1 := R b (by omega)
  have r2 := R (a + b) (by omega)
  by_cases z : a ≤ b - p
  · have := a4 a (b - p) a1 z (.inl (by omega))
    rw [show a + (b - p) = a + b - p by omega] at this
    omega
  · have := a4 (b - p) a (by omega) (by omega) (.inl (by omega))
    rw [show b - p + a = a + b - p by omega] at this
    omega
/-- a function later by n -/
def laterF (f : Int → Int) (n : Int) (t : Int) : Int := if t ≤ n then 0 else f (t - n)
theorem later_vals {f : Int → Int} {n m : Nat} : List.replicate n (0 : Int) ++ vals f m = vals (laterF f n) (n + m) := by
  refine List.ext_getElem? fun i => ?_
  by_cases h : i < n
  · rw [List.getElem?_append_left (by rw [List.length_replicate]; exact h), List.getElem?_replicate, if_pos h]
    unfold vals
    rw [List.getElem?_map, List.getElem?_range (by omega)]
    show some (0 : Int) = some (laterF f n ((i : Int) + 1))
    unfold laterF
    rw [if_pos (by omega)]
  · rw [List.getElem?_append_right (by rw [List.length_replicate]; omega), List.length_replicate]
    unfold vals
    by_cases c : i < n + m
    · rw [List.getElem?_map, List.getElem?_map, List.getElem?_range (by omega), List.getElem?_range (by omega)]
      show some (f (((i - n : Nat) : Int) + 1)) = some (laterF f n ((i : Int) + 1))
      unfold laterF
      rw [if_neg (by omega), show ((i - n : Nat) : Int) + 1 = (i : Int) + 1 - n by omega]
    · rw [List.getElem?_eq_none (by simp; omega), List.getElem?_eq_none (by simp; omega)]
theorem later_rep {f : Int → Int} {n m p g : Int} (R : Rep f m p g) (hp : 0 < p) (hpm : p ≤ m) (hn : 0 ≤ n) (h0 : f 0 = 0) : Rep (laterF f n) (n + m) p g := by
  intro t ht
  unfold laterF
  by_cases c : t - p ≤ n
  · rw [if_neg (by omega), if_pos c]
    have := R (t - n) (by omega)
    rw [show t - n - p = 0 by omega, h0] at this
    exact this
  · rw [if_neg (by omega), if_neg c, R (t - n) (by omega), show t - n - p = t - p - n by omega]
theorem later_zero {f : Int → Int} {n : Int} (hn : 0 ≤ n) : laterF f n 0 = 0 := by unfold laterF; rw [if_pos hn]
theorem vals_self {cs : List Int} {p g : Int} : vals (cvAt cs p g) cs.length = cs := by
  refine List.ext_getElem? fun i => ?_
  unfold vals
  by_cases h : i < cs.length
  · rw [List.getElem?_map, List.getElem?_range h, List.getElem?_eq_getElem h]
    show some (cvAt cs p g ((i : Int) + 1)) = _
    rw [cvAt_in (by omega) (by omega), show ((i : Int) + 1 - 1).toNat = i by omega, List.getD_eq_getElem?_getD, List.getElem?_eq_getElem h]
    rfl
  · rw [List.getElem?_eq_none (by simp; omega), List.getElem?_eq_none (by omega)]
/-- zeros in front: the curve later -/
theorem cvAt_later {cs : List Int} {p g : Int} {n : Nat} (hp : 0 < p) (hpn : p ≤ cs.length) {t : Int} (ht : 0 ≤ t) :
    cvAt (List.replicate n 0 ++ cs) p g t = laterF (cvAt cs p g) n t := by
  have e : List.replicate n (0 : Int) ++ cs = vals (laterF (cvAt cs p g) n) (n + cs.length) := by
    rw [← later_vals, vals_self]
  rw [e]
  refine cvAt_vals hp (by omega) (later_zero (by omega)) ?_ t ht
  have := later_rep (n := (n : Int)) (Rep.cvAt (g := g) hp hpn) hp hpn (by omega) cvAt_zero
  rw [show (((n + cs.length : Nat)) : Int) = (n : Int) + cs.length by omega]
  exact this
theorem Rep.times {f : Int → Int} {n p g : Int} (R : Rep f n p g) (hp : 0 < p) (k : Nat) : ∀ t, n + (k : Int) * p < t + p → f t = f (t - k * p) + k * g := by
  induction k with
  | zero => intro t ht; simp
  | succ k ih =>
    intro t ht
    have e1 : ((k + 1 : Nat) : Int) * p = k * p + p := by rw [show ((k + 1 : Nat) : Int) = (k : Int) + 1 by omega, Int.add_mul, Int.one_mul]
    have e2 : ((k + 1 : Nat) : Int) * g = k * g + g := by rw [show ((k + 1 : Nat) : Int) = (k : Int) + 1 by omega, Int.add_mul, Int.one_mul]
    rw [e1] at ht ⊢
    rw [e2, ih t (by omega), R (t - k * p) (by omega), show t - k * p - p = t - (k * p + p) by omega]
    omega
/-- with a multiple of the period -/
theorem Rep.mul {f : Int → Int} {n p g N P : Int} (R : Rep f n p g) (hp : 0 < p) (hd : p ∣ P) (hP : 0 < P) (hN : n - p + P ≤ N) : Rep f N P (g * (P / p)) := by
  intro t ht
  obtain ⟨k, rfl⟩ := hd
  have k0 : 0 < k := by
    by_cases z : 0 < k
    · exact z
    · exfalso
      have := Int.mul_nonpos_of_nonneg_of_nonpos (show 0 ≤ p by omega) (show k ≤ 0 by omega)
      omega
  obtain ⟨m, rfl⟩ : ∃ m : Nat, k = (m : Int) := ⟨k.toNat, by omega⟩
  have := R.times hp m t (by rw [Int.mul_comm p] at hN; omega)
  rw [Int.mul_ediv_cancel_left _ (by omega : p ≠ 0), Int.mul_comm p, this, Int.mul_comm g]
theorem Rep.add {f h : Int → Int} {N P g1 g2 : Int} (R : Rep f N P g1) (S : Rep h N P g2) : Rep (fun t => f t + h t) N P (g1 + g2) := by
  intro t ht
  show f t + h t = f (t - P) + h (t - P) + (g1 + g2)
  rw [R t ht, S t ht]
  omega
end VM

/-! repr of data, or of an empty dict. -/
namespace VZ
open PySem PySem.Spec PyProof.Rows L2
def Dz (K : PySem.W.Frag) (H : Hp) (v : V) (d : PyData) : Prop := Dp K H v d ∨ ∃ a, v = .ref a ∧ H a = some (.dK []) ∧ d = .dict []
def rReprZ (K : PySem.W.Frag) : List V → Hp → VK → Prop := fun xs H Q =>
  ∃ v d, xs = [v] ∧ Dz K H v d ∧ d.showable = true ∧ d.depth ≤ 60 ∧ d.shown.length ≤ sizeLine ∧ Q (.str d.shown) H
theorem empty_show : (PyData.dict []).showable = true ∧ (PyData.dict []).depth ≤ 60 ∧ (PyData.dict []).shown.length ≤ sizeLine := ⟨rfl, by decide, by decide⟩
theorem call_reprZ {X : Cx} (hg : X.A.guards = some []) (hu : X.A.units + 64 < cLine) : CallR X (.builtin "repr") (rReprZ X.K) := by
  intro pins s σ H xs us Q I r h
  obtain ⟨v, d, rfl, hd, hs, hdep, hz, q⟩ := h
  rcases hd with hd | ⟨a, rfl, ha, rfl⟩
  · exact VG.call_repr hg hu pins s σ H _ us Q I r ⟨v, d, rfl, hd, hs, hdep, hz, q⟩
  · obtain ⟨u, rfl, rv⟩ := vals1 r
    cases rv
    obtain ⟨_, ns, vs, kv, o, es, ep, e1, e2, e3, e4, e5, e6⟩ := (show ObjOk X.prog X.w H s.heap a (.dK []) from I.hok a _ ha)
    cases kv
    have e0 : es.toList = [] := by
      cases h : es.toList with
      | nil => rfl
      | cons z zs => rw [h] at e5; cases e5
    have rd : Reads s.heap (.ref a) (.dict []) (a :: [] ++ []) := Reads.dict (es := es) e1 e2.1 e3 (by rw [e0]; exact .nil) (by rw [e0]; exact .nil)
    have keep : ∀ (h' : Heap) (t' : Nat), (∀ b o, s.heap.get? b = some o → h'.get? b = some o) → Inv X pins σ H { s with heap := h', toks := t' } :=
      fun h' t' k => I.kept (t' := t') k
    exact repr_of_reads' rd hs (fun _ m => by simp at m; subst m; simp at ns) hg (by omega) (fun _ _ e => e) (fun h' w tk k => ⟨.str _, H, keep h' tk k, ⟨_, rfl⟩, q⟩) hz
end VZ

/-! A method of an own class that may raise, called where errors are caught. -/
namespace VX
open PySem PySem.Spec PyProof.Rows L2
/-- a statement behind which nothing comes -/
def tStop (t : TS) : TS := fun D σ H => t { D with nx := fun _ _ => False } σ H
theorem pss_stop {X : Cx} {st : Stmt} {more : List Stmt} {t : TS} (h1 : PS X st t) : PSs X (st :: more) (tStop t) := by
  constructor
  intro pins s σ H D I hm
  refine wpAny_execs_cons (thn (h1.run pins s σ H _ I hm) ?_)
  intro fl s1 q
  match fl, q with
  | .next, ⟨σ', H', I', q⟩ => exact q.elim
  | .ret v, q => exact q
  | .brk, q => exact q
  | .cont, q => exact q
def tMethS (C : Addr) (m : Str) (sp : Sp) (E : L2.St → XK) (ta : TE) (t : TA) : TE := fun σ H Q => ta σ H fun x H1 => ∃ a dx fs, x = .ref a ∧ H1 a = some (.ins C dx fs) ∧ fs.lookup m = none ∧ t σ H1 fun vs H2 => sp (x :: vs) H2 Q (E σ)
theorem pe_fldK {X : Cx} {K' : PySem.W.Frag} {e : Expr} {ta : TE} {f : Str} {pos : Pos} (he : PE X e ta) (hb : attributeBase e f X.env (eval e X.env) = eval e X.env) (hK : X.K = K') : PE X (.Attribute e f pos) (tFld K' ta f) := by
  subst hK
  exact pe_fld he hb
section
variable {X : Cx} {CX : CXT} {k : Nat} {f C : Addr} {fd : FuncData} {ps : List Str} {sp : Sp} {E : L2.St → XK} {x m : Str} {p pos apos : Pos} {e o : Expr} {es : List Expr} {ta : TE} {t : TA}
theorem pe_methS {pl : Sem Bool} (he : PE X o ta) (c : Cls X.K C) (hm : Meth X.K C m f) (F : FnOk X.prog X.w X.K X.mg X.base CX k f fd ps sp) (hr : Room k X.A) (hb : Binds X.K fd ps []) (hx : ∀ σ, PassesAt CX X σ (E σ)) (ha : PA X (e :: es) t)
    (hst : starEach (e :: es) X.env = (false, eval e X.env) :: starEach es X.env := by rfl) (hpl : (backTo pos (starEach es X.env)).any (·.1) = false := by rfl)
    (ht : eval (.Call (.Attribute o m apos) (e :: es) [] pos) X.env = (do
      let ov ← eval o X.env
      standAt apos.atName
      let (f, first) ← holding [ov] (getMethod ov m pl)
      callWith pos f first (backTo pos (starEach (e :: es) X.env)) (backToKw pos (keywordEach [] X.env))) := by rfl) :
    PE X (.Call (.Attribute o m apos) (e :: es) [] pos) (tMethS C m sp E ta t) := by
  refine ⟨fun pins s σ H Q I h => ?_⟩
  refine PySem.W.methodCall_KW (pl := pl) (thn (he.run pins s σ H _ I h) fun u s1 ⟨x, H1, I1, rx, a, dx, fs, ex, ea, l, q⟩ => ?_) ht
  subst ex
  obtain rfl : u = Value.ref a := rx
  refine getmeth_ok I1 ea c hm l ?_
  refine PySem.W.callWith_K (first := [.ref a]) (h₀ := X.base) I.ok.mod.kin hm.kp (thn (ha.run pos pins s1 σ H1 _ I1 q) fun us s2 ⟨vs, H2, I2, r, q2⟩ => ⟨I2.kIn, ?_⟩) hst hpl
  exact run_fnS (us := .ref a :: us) (vs := .ref a :: vs) F hr hb (hx σ) I2 (.cons rfl r) q2
end
end VX

/-! The least length with something, of a function that repeats. -/
namespace VM
/-- the least length from lo on where h is positive, or that there is none -/
def LeastR (h : Int → Int) (lo : Int) : Option Int → Prop
  | none => ∀ t : Int, lo ≤ t → h t ≤ 0
  | some t => lo ≤ t ∧ 0 < h t ∧ ∀ s : Int, lo ≤ s → s < t → h s ≤ 0
theorem LeastR.uniq {h : Int → Int} {lo : Int} {o o' : Option Int} (a : LeastR h lo o) (b : LeastR h lo o') : o = o' := by
  cases o with
  | none =>
    cases o' with
    | none => rfl
    | some t => have := a t b.1; have := b.2.1; omega
  | some s =>
    cases o' with
    | none => have := b s a.1; have := a.2.1; omega
    | some t =>
      by_cases c : s < t
      · have := b.2.2 s a.1 c; have := a.2.1; omega
      · by_cases c2 : t < s
        · have := a.2.2 t b.1 c2; have := b.2.1; omega
        · rw [show s = t by omega]
theorem least_ex (h : Int → Int) (lo : Int) : ∃ o, LeastR h lo o := by
  by_cases c : ∃ n : Nat, 0 < h (lo + n)
  · obtain ⟨n, hn, no⟩ := least_nat c
    refine ⟨some (lo + n), by omega, hn, fun s h1 h2 => ?_⟩
    have := no (s - lo).toNat (by omega)
    rw [show lo + ((s - lo).toNat : Int) = s by omega] at this
    omega
  · refine ⟨none, fun t ht => ?_⟩
    by_cases z : 0 < h t
    · exact absurd ⟨(t - lo).toNat, by rw [show lo + ((t - lo).toNat : Int) = t by omega]; exact z⟩ c
    · omega
theorem filt_none {P : Nat → Bool} : ∀ {n : Nat}, (∀ i, i < n → P i = false) → (List.range n).filter P = []
  | n, h => by
    rw [List.filter_eq_nil_iff]
    intro i hi
    rw [h i (List.mem_range.mp hi)]
    decide
theorem filt_some {P : Nat → Bool} {t : Nat} (ht : P t = true) (no : ∀ i, i < t → P i = false) : ∀ {n : Nat}, t < n → ∃ ys, (List.range n).filter P = t :: ys := by
  intro n
  induction n with
  | zero => intro h; omega
  | succ n ih =>
    intro h
    rw [List.range_succ, List.filter_append]
    by_cases c : t < n
    · obtain ⟨ys, e⟩ := ih c
      rw [e]
      exact ⟨_, rfl⟩
    · have e : t = n := by omega
      subst e
      rw [filt_none no]
      refine ⟨[], ?_⟩
      simp [List.filter, ht]
theorem LeastR.congr {h k : Int → Int} {lo : Int} {o : Option Int} (e : ∀ t : Int, lo ≤ t → h t = k t) (a : LeastR h lo o) : LeastR k lo o := by
  cases o with
  | none => exact fun t ht => by rw [← e t ht]; exact a t ht
  | some t => exact ⟨a.1, by rw [← e t a.1]; exact a.2.1, fun s hs hst => by rw [← e s hs]; exact a.2.2 s hs hst⟩
/-- each length behind n is one of the last period and some periods more -/
theorem last_of {n p t : Int} (hp : 0 < p) (ht : n < t) : ∃ (l : Int) (k : Nat), 1 ≤ k ∧ n - p < l ∧ l ≤ n ∧ t = l + k * p := by
  obtain ⟨r1, r2, r3⟩ := rounds_spec hp ht
  refine ⟨t - (t - n + p - 1) / p * p, ((t - n + p - 1) / p).toNat, by omega, by omega, by omega, ?_⟩
  rw [Int.toNat_of_nonneg (by omega)]
  omega
theorem Rep.at_ {h : Int → Int} {n p G l : Int} (R : Rep h n p G) (hp : 0 < p) (h1 : n - p < l) (k : Nat) : h (l + k * p) = h l + k * G := by
  have := R.times hp k (l + k * p) (by omega)
  rw [show l + (k : Int) * p - k * p = l by omega] at this
  exact this
theorem least_none {h : Int → Int} {n p G lo : Int} (R : Rep h n p G) (hp : 0 < p) (hlo : lo ≤ n - p + 1) (hG : G ≤ 0) (no : ∀ t : Int, lo ≤ t → t ≤ n → h t ≤ 0) : LeastR h lo none := by
  intro t ht
  by_cases c : t ≤ n
  · exact no t ht c
  · obtain ⟨l, k, k1, l1, l2, rfl⟩ := last_of (n := n) hp (show n < t by omega)
    rw [R.at_ hp l1 k]
    have := no l (by omega) l2
    have := Int.mul_nonpos_of_nonneg_of_nonpos (show (0 : Int) ≤ k by omega) hG
    omega
/-- when a length of the last period comes up -/
def candM (h : Int → Int) (p G l : Int) : Int := l + p * (-(h l) / G + 1)
theorem least_min {h : Int → Int} {n p G lo m : Int} (R : Rep h n p G) (hp : 0 < p) (hlo : lo ≤ n - p + 1) (hG : 0 < G) (no : ∀ t : Int, lo ≤ t → t ≤ n → h t ≤ 0)
    (hm : ∃ l : Int, n - p < l ∧ l ≤ n ∧ m = candM h p G l) (hx : ∀ l : Int, n - p < l → l ≤ n → m ≤ candM h p G l) : LeastR h lo (some m) := by
  obtain ⟨l, l1, l2, rfl⟩ := hm
  have hl := no l (by omega) l2
  have q0 : 0 ≤ -(h l) / G := Int.ediv_nonneg (by omega) (by omega)
  have e : candM h p G l = l + ((-(h l) / G + 1).toNat : Nat) * p := by
    unfold candM
    rw [Int.toNat_of_nonneg (by omega), Int.mul_comm]
  have pos : 0 < p * (-(h l) / G + 1) := Int.mul_pos hp (by omega)
  refine ⟨by unfold candM; omega, ?_, fun s hs hst => ?_⟩
  · rw [e, R.at_ hp l1, Int.toNat_of_nonneg (by omega)]
    have := Int.lt_ediv_add_one_mul_self (-(h l)) hG
    omega
  · by_cases c : s ≤ n
    · exact no s hs c
    · obtain ⟨l', k, k1, l1', l2', rfl⟩ := last_of (n := n) hp (show n < s by omega)
      rw [R.at_ hp l1' k]
      by_cases z : h l' + k * G ≤ 0
      · exact z
      · exfalso
        have hl' := no l' (by omega) l2'
        have x := hx l' l1' l2'
        have ge : -(h l') / G + 1 ≤ k := by
          have : -(h l') / G < k := Int.ediv_lt_of_lt_mul hG (by omega)
          omega
        have m1 := Int.mul_le_mul_of_nonneg_left ge (show 0 ≤ p by omega)
        unfold candM at x hst
        rw [Int.mul_comm (k : Int) p] at hst
        omega
/-- it comes within the first lengths, where each dozen more adds nothing -/
theorem least_low {h : Int → Int} {N P D lo t : Int} (R : Rep h N P D) (hP : 0 < P) (hlo : lo ≤ N + 1 - P) (hD : D ≤ 0) (F : LeastR h lo (some t)) : t ≤ N := by
  by_cases c : t ≤ N
  · exact c
  · exfalso
    have r := R t (by omega)
    have := F.2.2 (t - P) (by omega) (by omega)
    have := F.2.1
    omega
theorem least_high {h : Int → Int} {N P D lo t : Int} (R : Rep h N P D) (hP : 0 < P) (hlo : lo ≤ N) (hD : 1 ≤ D) (k : Nat) (hk : 1 ≤ h N + k) (F : LeastR h lo (some t)) : t ≤ N + k * P := by
  by_cases c : t ≤ N + k * P
  · exact c
  · exfalso
    have r := R.at_ hP (show N - P < N by omega) k
    have k2 := Int.mul_le_mul_of_nonneg_left hD (show (0 : Int) ≤ k by omega)
    have k3 := Int.mul_nonneg (show (0 : Int) ≤ k by omega) (show (0 : Int) ≤ P by omega)
    have := F.2.2 (N + k * P) (by omega) (by omega)
    omega
/-- the sum of some curves that are later -/
structure RowD where
  xs : List Int
  p : Int
  g : Int
  k : Nat
def rowF (r : RowD) (t : Int) : Int := laterF (cvAt r.xs r.p r.g) r.k t
def sumF : List RowD → Int → Int
  | [], _ => 0
  | r :: rs, t => rowF r t + sumF rs t
def dozM : List RowD → Int
  | [] => 0
  | r :: rs => r.g * (12 / r.p) + dozM rs
structure RowD.Ok (r : RowD) : Prop where
  p0 : 0 < r.p
  pn : r.p ≤ r.xs.length
  dv : r.p ∣ 12
theorem sum_rep : ∀ {rs : List RowD} {N : Int}, (∀ r ∈ rs, r.Ok) → (∀ r ∈ rs, (r.xs.length : Int) + r.k + 12 ≤ N) → Rep (sumF rs) N 12 (dozM rs)
  | [], N, _, _ => fun t _ => by simp [sumF, dozM]
  | r :: rs, N, h, hN => by
    have o := h r (List.mem_cons_self ..)
    have b := hN r (List.mem_cons_self ..)
    have R1 := (later_rep (n := (r.k : Int)) (Rep.cvAt (g := r.g) o.p0 o.pn) o.p0 o.pn (by omega) cvAt_zero).mul (N := N) o.p0 o.dv (by decide) (by have := o.p0; omega)
    exact R1.add (sum_rep (fun x hx => h x (List.mem_cons_of_mem _ hx)) (fun x hx => hN x (List.mem_cons_of_mem _ hx)))
end VM

/-! for i, x in enumerate(xs, start=k) -/
namespace VE
open PySem PySem.Spec PyProof.Rows L2
/-- k, k + 1, .. with the list at a (n items, which the loop leaves there), in new pairs -/
def Itk (K : PySem.W.Frag) (a : Addr) (n : Nat) (k : Int) : It :=
  ⟨fun i H => i < n ∧ ∃ xs : List V, SqL K H a xs ∧ xs.length = n, fun i H v H' => ∃ T x, v = .ref T ∧ H T = none ∧ H' = upd H T (.tup [.int (k + (i : Nat)), x]) ∧ ∀ xs, SqL K H a xs → xs[i]? = some x,
    fun i H => n ≤ i ∧ ∃ xs : List V, SqL K H a xs ∧ xs.length = n⟩
theorem turn_enumK {P : Program} {w : World} {K : PySem.W.Frag} {elts : List Expr} {kk : Nat} {tpos : Pos} (a e it : Addr) (n : Nat) (k : Int) (hai : a ≠ it) (hei : e ≠ it) (hea : e ≠ a) :
    Turn P w K (.Tuple elts kk tpos) (Itk K a n k) [e, it] e (fun i h => (∃ old, IsEnum h e it (k + (i : Nat)) old) ∧ i ≤ n ∧ h.IsListIter it a i) where
  mem := by simp
  obj := fun i h st b hb => by
    obtain ⟨⟨old, he⟩, _, o, ho, hc, hd⟩ := st
    have e' : b = e ∨ b = it := by simpa using hb
    rcases e' with z | z
    · rw [z]; exact ⟨_, he, fun v q => nomatch q⟩
    · rw [z]; exact ⟨o, ho, fun v q => by rw [hd] at q; cases q⟩
  keep := fun i h h' st kp => let ⟨⟨old, he⟩, hn, hi⟩ := st; ⟨⟨old, kp e (by simp) _ he⟩, hn, hi.at fun o q => kp it (by simp) o q⟩
  item := by
    intro X hP hw hK hc i pins s σ H E I hf st hg
    subst hP hw hK
    obtain ⟨⟨old, he⟩, hin, hit⟩ := st
    obtain ⟨hlt, xs, hq, hl⟩ := hg
    have hx : xs[i]? = some (xs[i]'(by omega)) := List.getElem?_eq_getElem (by omega)
    obtain ⟨its, rv, p, hz⟩ := I.list hq
    have hh : X.A.in1.handled = none := I.ok.hd hc
    have hel : e < s.heap.objs.size := Heap.lt_size he
    have hil : it < s.heap.objs.size := by obtain ⟨_, q, _⟩ := hit; exact Heap.lt_size q
    obtain ⟨u', hu', ru⟩ := rv.get hx
    have hn : its.toArray.size = n := by rw [List.size_toArray, ← rv.length]; exact hl
    have D := Draws.list (prog := X.prog) (w := X.w) (A := X.A.in1) hh it a hai its.toArray
    rw [hn] at D
    refine wpAny_pyNext_enum_itemC D he ⟨hit, p.isList⟩ hlt hei (by simp [hei, hea]) fun u h' tk hP ho hs' hT hsz hkp => ?_
    obtain ⟨hit', _⟩ := hs'
    have hP' : its[i]? = some u := by simpa using hP
    have euu : u' = u := by rw [hP'] at hu'; exact (Option.some.inj hu').symm
    subst euu
    refine ⟨_, rfl, wpAny_letOwnedTupleGo_enum (s := { s with heap := h', toks := tk + 1 }) ho fun h'' he' sb => ?_⟩
    have hT2 : h''.get? s.heap.objs.size = some { cls := .type "tuple", data := .seq #[.int (k + (i : Nat)) tk, u'] } := (sb.2 _ (Nat.ne_of_gt hel)).trans hT
    have new : ObjOk X.prog X.w (upd H s.heap.objs.size (.tup [.int (k + (i : Nat)), xs[i]'(by omega)])) h'' s.heap.objs.size (.tup [.int (k + (i : Nat)), xs[i]'(by omega)]) :=
      ⟨by show 2 ≤ sizeLine; decide, [.int (k + (i : Nat)) tk, u'], .cons ⟨_, rfl⟩ (.cons ru .nil), ⟨_, hT2, rfl, _, rfl⟩⟩
    have I1 : Inv X pins σ (upd H s.heap.objs.size (.tup [.int (k + (i : Nat)), xs[i]'(by omega)])) { s with heap := h'', toks := tk + 1 } :=
      I.turnedNew (ch := [e, it]) (fun b ob hb q => (sb.2 b (fun z => hb (by simp [z]))).trans (hkp b ob (fun z => hb (by simp [z])) (fun z => hb (by simp [z])) q)) hf (Nat.le_refl _) new
    refine ⟨.ref s.heap.objs.size, _, I1, rfl, ⟨_, _, rfl, I.hok.fresh (Nat.le_refl _), rfl, fun ys hy => by rw [I.list_inj hy hq]; exact hx⟩, ⟨⟨u', ?_⟩, hlt, hit'.at fun o q => (sb.2 it (Ne.symm hei)).trans q⟩, fun b hb => ?_⟩
    · have e1 : k + ((i + 1 : Nat) : Int) = k + (i : Int) + 1 := by omega
      rw [e1]; exact he'
    · have hb' : b < s.heap.objs.size := by
        have e' : b = e ∨ b = it := by simpa using hb
        rcases e' with z | z
        · rw [z]; exact hel
        · rw [z]; exact hil
      rw [upd_ne (Nat.ne_of_lt hb')]
      exact (hf b hb).1
  done := by
    intro X hP hw hK hc i pins s σ H E I hf st hg
    subst hP hw hK
    obtain ⟨⟨old, he⟩, hin, hit⟩ := st
    obtain ⟨hge, xs, hq, hl⟩ := hg
    obtain ⟨its, rv, p, hz⟩ := I.list hq
    have hn : its.toArray.size = n := by rw [List.size_toArray, ← rv.length]; exact hl
    have hh : X.A.in1.handled = none := I.ok.hd hc
    obtain ⟨f0, f1, f2, f3, f4, f5⟩ := hf it (by simp)
    have D := Draws.list (prog := X.prog) (w := X.w) (A := X.A.in1) hh it a hai its.toArray
    rw [hn] at D
    have ei : i = n := by omega
    subst ei
    exact wpAny_pyNext_enum_endD D he ⟨hit, p.isList⟩ fun h' eb => ⟨rfl, I.turned (t' := s.toks) (fun b o hb q => eb b o hb q) f0 f1 f3 f4 f5⟩
  self := fun A i s Q E st h => let ⟨⟨_, he⟩, _⟩ := st; wpAny_pyIter_enum he h
theorem walk_enumK {K : PySem.W.Frag} {a : Addr} {xs : List V} {k : Int} : Walk (Itk K a xs.length k) xs.length (fun H => SqL K H a xs) (YPair (fun i => some (.int (k + (i : Nat)))) (fun i => xs[i]?)) := by
  refine ⟨fun i _ hi q => ⟨hi, xs, q, rfl⟩, fun _ q => ⟨Nat.le_refl _, xs, q, rfl⟩, fun i H v H' _ q y => ?_⟩
  obtain ⟨T, x, h1, h2, h3, h4⟩ := y
  exact ⟨T, .int (k + (i : Nat)), x, h1, h2, h3, rfl, h4 xs q⟩
def iEnumK (K : PySem.W.Frag) (ta : TA) (k : Int) : TI := fun σ H R => ta σ H fun vs H1 => ∃ (a : Addr) (xs : List V), vs = [.ref a] ∧ SqL K H1 a xs ∧ R (Itk K a xs.length k) H1
theorem pi_enumK {X : Cx} {e : Expr} {ta : TA} {p pos kp jp tpos : Pos} {j : Nat} {k : Int} {elts : List Expr} {kk : Nat} (hk0 : -(2 ^ 63) ≤ k) (hk1 : k < 2 ^ 63) (hg : Gl X "enumerate") (hm : X.mg "enumerate" = none) (ha : PA X [e] ta)
    (hs : starEach [e] X.env = (false, eval e X.env) :: starEach [] X.env := by rfl)
    (hst : ∀ q, (backTo q (starEach [e] X.env)).any (·.1) = false := by exact fun _ => rfl) :
    PI X (.Tuple elts kk tpos) (.Call (.Name "enumerate" p) [e] [⟨some "start", .Constant (.int k) j jp, kp⟩] pos) (iEnumK X.K ta k) := by
  refine ⟨fun pins s σ H R I h => ?_⟩
  refine Call_kws (ld_blt I hg hm boot_enumerate (callWith_typeKw rfl ?_ (by rw [hst]; rfl) hs))
  refine thn (ha.run pos pins s σ H _ I h) fun us s1 ⟨vs, H1, I1, r1, q1⟩ => ?_
  obtain ⟨a, xs, ex, hq, q⟩ := q1
  subst ex
  cases r1 with
  | cons r rr =>
    cases rr
    cases r
    obtain ⟨its, rv, p', hz⟩ := I1.list hq
    have hal : a < s1.heap.objs.size := by obtain ⟨_, _, z, _⟩ := p'; exact Heap.lt_size z
    refine kws_cons (wpAny_Constant_int (kws_nil ?_))
    refine enum_begins_start (begins_list a its.toArray) p'.isList hk0 hk1 fun h' he hit hsz hkp => wpAny_pyIter_enum he ?_
    have I2 : Inv X pins σ H1 { s1 with heap := h', toks := s1.toks + 1 } := I1.kept hkp
    refine ⟨s1.heap.objs.size + 1, [s1.heap.objs.size + 1, s1.heap.objs.size], _, _, H1, rfl, I2, turn_enumK a (s1.heap.objs.size + 1) s1.heap.objs.size xs.length k (Nat.ne_of_lt hal) (Nat.succ_ne_self _) (Nat.ne_of_gt (Nat.lt_succ_of_lt hal)), ⟨⟨.none, ?_⟩, Nat.zero_le _, ⟨_, hit, rfl, rfl⟩⟩, fun b hb => ?_, q⟩
    · rw [show k + ((0 : Nat) : Int) = k by omega]; exact he
    · have e' : b = s1.heap.objs.size + 1 ∨ b = s1.heap.objs.size := by simpa using hb
      have hle : s1.heap.objs.size ≤ b := by
        rcases e' with z | z
        · rw [z]; exact Nat.le_add_right _ _
        · rw [z]; exact Nat.le_refl _
      exact I1.fpOk hle (I1.hok.fresh hle)
end VE

/-! Curves with the same values have the same form. -/
namespace VM
theorem Rep.congr {f h : Int → Int} {n p g : Int} (e : ∀ t : Int, 0 ≤ t → f t = h t) (hp : 0 < p) (hpn : p ≤ n) (R : Rep f n p g) : Rep h n p g := fun t ht => by
  rw [← e t (by omega), ← e (t - p) (by omega)]; exact R t ht
theorem Rep.weak {f : Int → Int} {n m p g : Int} (R : Rep f n p g) (h : n ≤ m) : Rep f m p g := fun t ht => R t (by omega)
/-- from somewhere on each d further lengths add the same -/
def Per (f : Int → Int) (d : Nat) : Prop := 0 < d ∧ ∃ N s : Int, Rep f N d s
theorem rep_gain {f : Int → Int} {n m p g e : Int} (R : Rep f n p g) (S : Rep f m p e) : g = e := by
  by_cases c : n ≤ m
  · have a := R (m + 1) (by omega)
    have b := S (m + 1) (by omega)
    omega
  · have a := R (n + 1) (by omega)
    have b := S (n + 1) (by omega)
    omega
/-- the least one divides each -/
theorem per_dvd' {f : Int → Int} {d : Nat} (D : Per f d) (no : ∀ c, Per f c → d ≤ c) {p : Nat} (P : Per f p) : d ∣ p := by
  by_cases z : p % d = 0
  · exact Nat.dvd_of_mod_eq_zero z
  exfalso
  obtain ⟨d0, N, s, R⟩ := D
  obtain ⟨p0, M, g, S⟩ := P
  have lt := Nat.mod_lt p d0
  have eq := Nat.div_add_mod p d
  have hc : Per f (p % d) := by
    refine ⟨by omega, max (N + (p / d : Nat) * (d : Int) + p) M, g - (p / d : Nat) * s, fun t ht => ?_⟩
    have a := S t (by omega)
    have b := R.times (by omega) (p / d) (t - ((p % d : Nat) : Int)) (by omega)
    have e2 : ((p / d : Nat) : Int) * (d : Int) + ((p % d : Nat) : Int) = (p : Int) := by
      have : d * (p / d) + p % d = p := eq
      rw [Nat.mul_comm] at this
      exact_mod_cast this
    rw [show t - ((p % d : Nat) : Int) - ((p / d : Nat) : Int) * (d : Int) = t - p by omega] at b
    omega
  have := no _ hc
  omega
theorem steps_of {f : Int → Int} {n p d s : Int} (h : ∀ t : Int, n < t → t ≤ n + p → f t = f (t - d) + s) : stepsEq f n p d = true := by
  unfold stepsEq
  rw [List.all_eq_true]
  intro i hi
  have hi := List.mem_range.mp hi
  have a := h (n + 1 + i) (by omega) (by omega)
  have b := h (n + 1) (by omega) (by omega)
  exact decide_eq_true (by omega)
/-- what holds from somewhere on holds behind n -/
theorem per_now {f : Int → Int} {n p g N d s : Int} (R : Rep f n p g) (hp : 0 < p) (S : Rep f N d s) (hd : 0 < d) (hdp : d ≤ p) : Rep f n d s := by
  intro t ht
  obtain ⟨k, hk⟩ : ∃ k : Nat, N < t + (k : Int) * p := by
    refine ⟨(N - t + 1).toNat, ?_⟩
    have := Int.mul_le_mul_of_nonneg_left (show (1 : Int) ≤ p by omega) (show (0 : Int) ≤ ((N - t + 1).toNat : Int) by omega)
    omega
  have a := R.times hp k (t + k * p) (by omega)
  have b := R.times hp k (t - d + k * p) (by omega)
  have c := S (t + k * p) hk
  rw [show t + (k : Int) * p - k * p = t by omega] at a
  rw [show t - d + (k : Int) * p - k * p = t - d by omega] at b
  rw [show t + (k : Int) * p - d = t - d + k * p by omega] at c
  omega
theorem leastFrom_is {f : Int → Int} {n p g : Int} {d : Nat} (R : Rep f n p g) (hp : 0 < p) (D : Per f d) (no : ∀ c, Per f c → d ≤ c) (dv : (d : Int) ∣ p) : ∀ (k : Nat) (c : Int), 0 < c → c + k = p → c ≤ d → (leastFrom f n p k c).1 = d
  | 0, c, hc, e, hcd => by
    have := Int.le_of_dvd hp dv
    unfold leastFrom
    show p = d
    omega
  | k + 1, c, hc, e, hcd => by
    have dp := Int.le_of_dvd hp dv
    unfold leastFrom
    by_cases z : p % c = 0 ∧ stepsEq f n p c = true
    · rw [if_pos z]
      have pc : Per f c.toNat := ⟨by omega, n, _, by rw [Int.toNat_of_nonneg (by omega)]; exact R.of_steps hc (by omega) z.2⟩
      have := no _ pc
      show c = d
      omega
    · rw [if_neg z]
      refine leastFrom_is R hp D no dv k (c + 1) (by omega) (by omega) ?_
      by_cases y : c = d
      · exfalso
        apply z
        subst y
        obtain ⟨d0, N, s, S⟩ := D
        exact ⟨Int.emod_eq_zero_of_dvd dv, steps_of fun t h1 h2 => per_now R hp S (by omega) dp t h1⟩
      · omega
theorem shr_min {f : Int → Int} {d s : Int} : ∀ m : Nat, shr f d s m = 0 ∨ (shr f d s m : Int) ≤ d ∨ f (shr f d s m) ≠ f ((shr f d s m : Nat) - d) + s
  | 0 => .inl rfl
  | m + 1 => by
    unfold shr
    by_cases c : d < (m + 1 : Nat) ∧ f ((m + 1 : Nat) : Int) = f ((m + 1 : Nat) - d) + s
    · rw [if_pos c]; exact shr_min m
    · rw [if_neg c]
      refine .inr ?_
      by_cases z : ((m + 1 : Nat) : Int) ≤ d
      · exact .inl z
      · exact .inr fun y => c ⟨by omega, y⟩
theorem shr_uniq {f : Int → Int} {d s : Int} (hd : 0 < d) {m k : Nat} (h1 : d ≤ m) (h2 : d ≤ k) (R : Rep f m d s) (S : Rep f k d s) : shr f d s m = shr f d s k := by
  obtain ⟨a1, a2, a3⟩ := shr_spec hd m h1 R
  obtain ⟨b1, b2, b3⟩ := shr_spec hd k h2 S
  have m1 := shr_min (f := f) (d := d) (s := s) m
  have m2 := shr_min (f := f) (d := d) (s := s) k
  by_cases c : shr f d s m < shr f d s k
  · exfalso
    rcases m2 with h | h | h
    · omega
    · omega
    · exact h (a3 _ (by omega))
  · by_cases c2 : shr f d s k < shr f d s m
    · exfalso
      rcases m1 with h | h | h
      · omega
      · omega
      · exact h (b3 _ (by omega))
    · omega
theorem shr_cong {f h : Int → Int} {d s : Int} (e : ∀ t : Int, 0 ≤ t → f t = h t) : ∀ m : Nat, shr f d s m = shr h d s m
  | 0 => rfl
  | m + 1 => by
    unfold shr
    by_cases c : d < (m + 1 : Nat)
    · rw [e _ (by omega), e ((m + 1 : Nat) - d) (by omega), shr_cong e m]
    · rw [if_neg (fun z => c z.1), if_neg (fun z => c z.1)]
/-- curves with the same values have the same form -/
theorem form_unique {vs ws : List Int} {p g q e : Int} (hp : 0 < p) (hpn : p ≤ vs.length) (hq : 0 < q) (hqn : q ≤ ws.length) (eq : ∀ t : Int, 0 ≤ t → cvAt vs p g t = cvAt ws q e t) :
    formP vs p g = formP ws q e ∧ formV vs p g = formV ws q e := by
  have R : Rep (cvAt vs p g) vs.length p g := Rep.cvAt hp hpn
  have S : Rep (cvAt ws q e) ws.length q e := Rep.cvAt hq hqn
  have S' : Rep (cvAt vs p g) ws.length q e := S.congr (fun t ht => (eq t ht).symm) hq hqn
  have Pp : Per (cvAt vs p g) p.toNat := ⟨by omega, _, _, by rw [Int.toNat_of_nonneg (by omega)]; exact R⟩
  have Pq : Per (cvAt vs p g) q.toNat := ⟨by omega, _, _, by rw [Int.toNat_of_nonneg (by omega)]; exact S'⟩
  obtain ⟨d, D, no⟩ := least_nat ⟨p.toNat, Pp⟩
  have no' : ∀ c, Per (cvAt vs p g) c → d ≤ c := fun c hc => by
    by_cases z : d ≤ c
    · exact z
    · exact absurd hc (no c (by omega))
  have toI : ∀ {x : Int}, 0 < x → d ∣ x.toNat → (d : Int) ∣ x := fun {x} hx h => by
    have := Int.natCast_dvd_natCast.mpr h
    rwa [Int.toNat_of_nonneg (by omega)] at this
  have dvp := toI hp (per_dvd' D no' Pp)
  have dvq := toI hq (per_dvd' D no' Pq)
  have D' : Per (cvAt ws q e) d := by
    obtain ⟨d0, N, s, T⟩ := D
    have dq := Int.le_of_dvd hq dvq
    exact ⟨d0, ws.length, s, (per_now S' hq T (by omega) dq).congr eq (by omega) (by omega)⟩
  have no2 : ∀ c, Per (cvAt ws q e) c → d ≤ c := fun c hc => by
    obtain ⟨c0, N, s, T⟩ := hc
    refine no' c ⟨c0, max N c, s, Rep.congr (fun t ht => (eq t ht).symm) (by omega) (by omega) (T.weak (by omega))⟩
  have e1 : (formP vs p g).1 = d := leastFrom_is R hp D no' dvp _ 1 (by omega) (by omega) (by have := D.1; omega)
  have e2 : (formP ws q e).1 = d := leastFrom_is S hq D' no2 dvq _ 1 (by omega) (by omega) (by have := D.1; omega)
  obtain ⟨a1, a2, a3⟩ := leastP_spec R hp
  obtain ⟨b1, b2, b3⟩ := leastP_spec S hq
  have a3 : Rep (cvAt vs p g) vs.length (formP vs p g).1 (formP vs p g).2 := a3
  have b3 : Rep (cvAt ws q e) ws.length (formP ws q e).1 (formP ws q e).2 := b3
  have a2 : (formP vs p g).1 ≤ p := a2
  have b2 : (formP ws q e).1 ≤ q := b2
  have a1 : 0 < (formP vs p g).1 := a1
  have b1 : 0 < (formP ws q e).1 := b1
  have b3' : Rep (cvAt vs p g) ws.length (formP ws q e).1 (formP ws q e).2 := b3.congr (fun t ht => (eq t ht).symm) b1 (by omega)
  have ep : (formP vs p g).1 = (formP ws q e).1 := by rw [e1, e2]
  rw [← ep] at b3' b2
  have eg : (formP vs p g).2 = (formP ws q e).2 := rep_gain a3 b3'
  rw [← eg] at b3'
  have E : formP vs p g = formP ws q e := Prod.ext ep eg
  refine ⟨E, ?_⟩
  unfold formV formM
  rw [← E, ← shr_cong eq ws.length, shr_uniq a1 (by omega) (by omega) a3 b3']
  exact vals_congr eq
end VM

/-! str(x) of an object with an own __str__ -/
namespace VO
open PySem PySem.Spec PyProof.Rows L2
section
variable {X : Cx} {CX : CXT} {k : Nat} {f C : Addr} {fd : FuncData} {ps : List Str} {sp : Sp} {E : XK}
theorem call_strOwn (F : FnOk X.prog X.w X.K X.mg X.base CX k f fd ps sp) (hr : Room (k + 2) X.A) (o : Meth X.K C "__str__" f) (hb : Binds X.K fd ps []) (hx : Passes CX X E) :
    CallR X (.type "str") (VN.rReprOwn C sp E) := by
  intro pins s σ H xs us Q I r h
  obtain ⟨a, dx, fs, rfl, ea, hsp⟩ := h
  obtain ⟨u, rfl, ru⟩ := vals1 r
  obtain rfl : u = Value.ref a := ru
  obtain ⟨mA, J, _⟩ := ins_get I.hok ea
  obtain ⟨od, J, _⟩ := J.look
  refine PySem.W.kso_call hr.in1.in1.units0 I.kIn J o.at_ o.fn ?_
  have hl := F.len _ _ _ _ hsp
  refine wpAny_call (codeAny_mono (F.run X.A.in1.in1 X.stack s H ⟨[.ref a], []⟩ [.ref a] [.ref a] _ E hr.in1.in1 I.env0.in1.in1 (by
    have := hb s [.ref a] I.kIn (by simpa using hl)
    simpa using this) (.cons rfl .nil) hsp) fun r s' hq => ?_)
  cases r with
  | error e => exact hx pins σ H s e s' I hq
  | ok fl =>
    cases fl with
    | ret w =>
      obtain ⟨z, H', I', rz, y, ez, q⟩ := I.after hq
      subst ez
      obtain ⟨t, rfl⟩ := rz
      exact ⟨.str y, H', I', ⟨t, rfl⟩, q⟩
    | next => exact False.elim hq
    | brk => exact False.elim hq
    | cont => exact False.elim hq
end
end VO

/-! Texts made of plain texts: how long their repr may be. -/
namespace VT
open PySem PySem.Spec PyProof.Rows L2
def Asc (x : Str) : Prop := ∀ c ∈ x.cps.toList, c < 16 ^ 8
theorem Asc.app {a b : Str} (h : Asc a) (k : Asc b) : Asc (a ++ b) := fun c hc => by
  rw [PySem.Str.cps_append, Array.toList_append, List.mem_append] at hc
  exact hc.elim (h c) (k c)
theorem Asc.of (s : String) : Asc (Str.ofString s) := fun c hc => by
  rw [PySem.Str.ofString_eq_toList] at hc
  simp only [List.mem_map] at hc
  obtain ⟨y, _, rfl⟩ := hc
  have h : y.val.toNat < 1114112 := by
    rcases y.valid with h | ⟨_, h⟩
    · exact Nat.lt_trans h (by decide)
    · exact h
  exact Nat.lt_of_lt_of_le h (by decide)
theorem Asc.int (i : Int) : Asc ((toString i : String) : Str) := Asc.of _
theorem Asc.from_ : ∀ (ts : List Str) (k : Nat) (acc : Str), Asc acc → (∀ t ∈ ts, Asc t) → Asc (textFrom k acc ts)
  | [], k, acc, h, _ => h
  | t :: ts, k, acc, h, ht => by
    unfold textFrom
    refine Asc.from_ ts _ _ ?_ fun x hx => ht x (List.mem_cons_of_mem _ hx)
    exact (h.app (Asc.of _)).app (ht t (List.mem_cons_self ..))
theorem Asc.list {ts : List Str} (h : ∀ t ∈ ts, Asc t) : Asc (listText ts) := (Asc.from_ ts 0 "[" (Asc.of _) h).app (Asc.of _)
theorem Asc.sjoin {sep : Str} (hs : Asc sep) : ∀ {l : List Str}, (∀ t ∈ l, Asc t) → Asc (Str.join sep l)
  | [], _ => Asc.of ""
  | [x], h => h x (by simp)
  | x :: y :: l, h => by
    show Asc (x ++ sep ++ Str.join sep (y :: l))
    exact ((h x (by simp)).app hs).app (Asc.sjoin hs fun t ht => h t (List.mem_cons_of_mem _ ht))
theorem Asc.join {sep : Str} (hs : Asc sep) {l : List Str} (h : ∀ t ∈ l, Asc t) : Asc (Txt.join sep l) := by
  cases l with
  | nil => exact Asc.of ""
  | cons a r =>
    have e : Txt.join sep (a :: r) = Str.join sep (a :: r) := StrLaws.glued_eq_join ..
    rw [e]
    exact Asc.sjoin hs h
theorem Asc.ints (us : List Int) : Asc (PyData.shown (.list (us.map PyData.int))) := by
  simp only [PyData.shown]
  refine Asc.list fun t ht => ?_
  have e : ∀ us : List Int, PyData.shownAll (us.map PyData.int) = us.map fun i => (toString i : Str) := by
    intro us
    induction us with
    | nil => rfl
    | cons u us ih => simp only [List.map_cons, PyData.shownAll, ih, PyData.shown]
  rw [e] at ht
  obtain ⟨u, _, rfl⟩ := List.mem_map.mp ht
  exact Asc.int u
theorem Sz.str {x : Str} {n : Nat} (h : Asc x) (hn : x.length ≤ n) : VR.Sz 0 (10 * n + 2) (.str x) :=
  ⟨rfl, Nat.zero_le _, by
    have := StrLaws.reprText_len x h
    show (reprText x).length ≤ _
    omega⟩
end VT

/-! A method called with keywords alone; further rules. -/
namespace VP
open PySem PySem.Spec PyProof.Rows L2
def tMethKw0 (C : Addr) (m : Str) (j : Nat) (sp : Sp) (gV : List V → List V → List V) (E : XK) (ta : TE) (tk : TA) : TE := fun σ H Q =>
  ta σ H fun x H1 => ∃ a dx fs, x = .ref a ∧ H1 a = some (.ins C dx fs) ∧ fs.lookup m = none ∧ tk σ H1 fun zs H3 => zs.length = j ∧ sp (gV [x] zs) H3 Q E
theorem pe_methKw0 {X : Cx} {CX : CXT} {k : Nat} {f C : Addr} {fd : FuncData} {ps ks : List Str} {sp : Sp} {E : XK} {m : Str} {pos apos : Pos} {o : Expr} {kws : List Keyword} {ta : TE} {tk : TA}
    {g : List Value → List Value → List Value} {gV : List V → List V → List V} {pl : Sem Bool}
    (he : PE X o ta) (c : Cls X.K C) (hm : Meth X.K C m f) (F : FnOk X.prog X.w X.K X.mg X.base CX k f fd ps sp) (hr : Room k X.A)
    (hb : KBn X.K fd ps 1 ks g gV) (hx : Passes CX X E) (hkw : PK X kws tk)
    (hall : (backToKw pos (keywordEach kws X.env)).all (·.1.isSome) = true := by rfl) (hks : (backToKw pos (keywordEach kws X.env)).filterMap (·.1) = ks := by rfl)
    (hpl : ((backTo pos (starEach [] X.env)).any (·.1) || (backToKw pos (keywordEach kws X.env)).any (·.1.isNone)) = false := by rfl)
    (ht : eval (.Call (.Attribute o m apos) [] kws pos) X.env = (do
      let ov ← eval o X.env
      standAt apos.atName
      let (f, first) ← holding [ov] (getMethod ov m pl)
      callWith pos f first (backTo pos (starEach [] X.env)) (backToKw pos (keywordEach kws X.env))) := by rfl) :
    PE X (.Call (.Attribute o m apos) [] kws pos) (tMethKw0 C m ks.length sp gV E ta tk) := by
  constructor
  intro pins s σ H Q I h
  refine PySem.W.methodCall_KW (pl := pl) (thn (he.run pins s σ H _ I h) ?_) ht
  rintro u s1 ⟨x, H1, I1, rx, a, dx, fs, ex, ea, l, q⟩
  subst ex
  obtain rfl : u = Value.ref a := rx
  refine getmeth_ok I1 ea c hm l ?_
  refine PySem.W.callWith_KW0 (first := [.ref a]) (h₀ := X.base) I1.ok.mod.kin hm.kp hall ?_ hpl
  refine thn (hkw.run pos pins s1 σ H1 _ I1 q) ?_
  rintro ws s3 ⟨zs, H3, I3, rz, l2, q3⟩
  refine ⟨I3.kIn, ?_⟩
  rw [hks]
  have r1 : Vals [V.ref a] [Value.ref a] := .cons rfl .nil
  have rel := hb.rel r1 rz
  have bind := hb.to s3 [Value.ref a] ws I3.kIn rfl (rz.length.symm.trans l2)
  show wpAny _ _ (call (.ref f) [Value.ref a] (ks.zip ws)) _ _ _
  refine wpAny_call (codeAny_mono (F.run X.A X.stack s3 H3 ⟨[Value.ref a], ks.zip ws⟩ _ _ Q E hr I3.env0 bind rel q3) ?_)
  intro res s' hq
  match res, hq with
  | .error e, hq => exact hx pins σ H3 s3 e s' I3 hq
  | .ok (.ret u), hq => exact I3.after hq
  | .ok .next, hq => exact False.elim hq
  | .ok .brk, hq => exact False.elim hq
  | .ok .cont, hq => exact False.elim hq
/-- c(e, .., k = v, ..), where the i-th slot holds the class at C -/
def tMakeKL (i : Nat) (C : Addr) (n m : Nat) (sp : Sp) (gV : List V → List V → List V) (E : XK) (t tk : TA) : TE := fun σ H Q => σ[i]? = some (some (.ref C)) ∧ tMakeK C n m sp gV E t tk σ H Q
theorem pe_makeKL {X : Cx} {CX : CXT} {k n i : Nat} {f C : Addr} {fd : FuncData} {ps ks : List Str} {sp : Sp} {E : XK} {x : Str} {p pos : Pos} {e : Expr} {es : List Expr} {kws : List Keyword} {t tk : TA}
    {g : List Value → List Value → List Value} {gV : List V → List V → List V} (M : Mk X.K C f) (F : FnOk X.prog X.w X.K X.mg X.base CX k f fd ps sp) (hr : Room (k + 1) X.A) (hN : X.N[i]? = some x) (hv : Vis X.env.scope x)
    (hb : KBn X.K fd ps (n + 1) ks g gV) (hx : Passes CX X E) (ha : PA X (e :: es) t) (hkw : PK X kws tk)
    (hall : (backToKw pos (keywordEach kws X.env)).all (·.1.isSome) = true := by rfl) (hks : (backToKw pos (keywordEach kws X.env)).filterMap (·.1) = ks := by rfl) (hdb : (x == ("__debug__" : Str)) = false := by decide) (hcd : (x == ("__classdict__" : Str)) = false := by decide)
    (he : starEach (e :: es) X.env = (false, eval e X.env) :: starEach es X.env := by rfl) (hpl : ((backTo pos (starEach (e :: es) X.env)).any (·.1) || (backToKw pos (keywordEach kws X.env)).any (·.1.isNone)) = false := by rfl) :
    PE X (.Call (.Name x p) (e :: es) kws pos) (tMakeKL i C n ks.length sp gV E t tk) := by
  refine ⟨fun pins s σ H Q I h => ?_⟩
  obtain ⟨hs, ht⟩ := h
  refine wpAny_Call_Name_kw (thn ((pe_var (pos := p) hN hv hdb hcd).run pins s σ H (fun v H1 => v = .ref C ∧ H1 = H) I ⟨.ref C, hs, rfl, rfl⟩) fun u s1 ⟨v, H1, I1, r1, q1⟩ => ?_)
  obtain ⟨rfl, rfl⟩ := q1
  cases r1
  refine PySem.W.callWith_KW (h₀ := X.base) I.ok.mod.kin M.kp hall (thn (ha.run pos pins s1 σ _ _ I1 ht) fun us s1 ⟨vs, H1, I1, r, q⟩ => ?_) hpl he
  refine thn (hkw.run pos pins s1 σ H1 _ I1 q) fun ws s2 ⟨zs, H2, I2, rz, l1, l2, q2⟩ => ⟨I2.kIn, ?_⟩
  rw [hks]
  exact run_makeK M F hr hb hx I2 r rz l1 l2 q2
/-- a def f(a, *v), no exception leaves it -/
theorem okStar {P : Program} {w : World} {K : PySem.W.Frag} {mg : Str → Option Value} {base : Heap} {x qual p1 pv : Str} {st : Stmt} {f : Addr} {fd : FuncData} {N : List Str} {k : Nat} {sp : Sp} (F : Fun K x qual st f fd) (S : FnScope N [p1, pv] (defScope st))
    (h0 : ∀ kV doc pm an cdv ct a, bindArgs (PySem.W.fnOf x qual (defArgs st) (defBody st) (defScope st) .none kV doc pm an cdv ct) ⟨[a], []⟩ = (newTuple [] >>= fun t => pure [(p1, a), (pv, t)]))
    (h1 : ∀ kV doc pm an cdv ct a r rs, bindArgs (PySem.W.fnOf x qual (defArgs st) (defBody st) (defScope st) .none kV doc pm an cdv ct) ⟨a :: r :: rs, []⟩ = (newTuple (r :: rs) >>= fun t => pure [(p1, a), (pv, t)]))
    (hbody : ∀ (cdv : Value) (A : Around) (outer : List Env) (s : Shared) (H : Hp) (vs : List V) (Q : VK) (E : XK), Room k (A.deeper (envOfC qual (defScope st) s.heap.objs.size f cdv)) → sp vs H Q E →
      ∃ t, PSs (cxOf CX0 P w K mg base N qual (defScope st) f cdv A outer s H E).nox (defBody st) t ∧ t { nx := fun _ H' => Q .non H', rt := Q } (start N vs) H) :
    FnR P w K mg base CX0 (k + 1) f (fun vs H Q E => ∃ a rest, vs = a :: rest ∧ rest.length ≤ sizeLine ∧ ∀ p, H p = Option.none → sp [a, V.ref p] (upd H p (.tup rest)) Q E) := by
  obtain ⟨oc, od, kV, doc, pm, an, cdv, ct, osl, rfl, lk, hcd⟩ := F.ex
  refine (StX.fn_star (ps := [p1]) lk hcd S StX.cxUp_none (fun us rest hl => StX.bind_star1 (B := fun vs => bindArgs _ ⟨vs, []⟩) (fun a => h0 _ _ _ _ _ _ a) (fun a r rs => h1 _ _ _ _ _ _ a r rs) us rest hl) (fun A outer s H vs Q E hr hsp => ?_)).imp fun vs H Q E ⟨a, rest, e, hz, hq⟩ => ⟨[a], rest, e, rfl, hz, hq⟩
  obtain ⟨t, h, q⟩ := hbody cdv A outer s H vs Q E hr hsp
  exact ⟨t, h.nox, q⟩
/-- .. exceptions may leave it -/
theorem okStarX {P : Program} {w : World} {K : PySem.W.Frag} {mg : Str → Option Value} {base : Heap} {x qual p1 pv : Str} {st : Stmt} {f : Addr} {fd : FuncData} {N : List Str} {k : Nat} {sp : Sp} (F : Fun K x qual st f fd) (S : FnScope N [p1, pv] (defScope st))
    (h0 : ∀ kV doc pm an cdv ct a, bindArgs (PySem.W.fnOf x qual (defArgs st) (defBody st) (defScope st) .none kV doc pm an cdv ct) ⟨[a], []⟩ = (newTuple [] >>= fun t => pure [(p1, a), (pv, t)]))
    (h1 : ∀ kV doc pm an cdv ct a r rs, bindArgs (PySem.W.fnOf x qual (defArgs st) (defBody st) (defScope st) .none kV doc pm an cdv ct) ⟨a :: r :: rs, []⟩ = (newTuple (r :: rs) >>= fun t => pure [(p1, a), (pv, t)]))
    (hbody : ∀ (cdv : Value) (A : Around) (outer : List Env) (s : Shared) (H : Hp) (vs : List V) (Q : VK) (E : XK), Room k (A.deeper (envOfC qual (defScope st) s.heap.objs.size f cdv)) → sp vs H Q E →
      ∃ t, PSs (cxOf (L2.CX P w) P w K mg base N qual (defScope st) f cdv A outer s H E) (defBody st) t ∧ t { nx := fun _ H' => Q .non H', rt := Q } (start N vs) H) :
    FnR P w K mg base (L2.CX P w) (k + 1) f (fun vs H Q E => ∃ a rest, vs = a :: rest ∧ rest.length ≤ sizeLine ∧ ∀ p, H p = Option.none → sp [a, V.ref p] (upd H p (.tup rest)) Q E) := by
  obtain ⟨oc, od, kV, doc, pm, an, cdv, ct, osl, rfl, lk, hcd⟩ := F.ex
  refine (StX.fn_star (ps := [p1]) lk hcd S StX.cxUp (fun us rest hl => StX.bind_star1 (B := fun vs => bindArgs _ ⟨vs, []⟩) (fun a => h0 _ _ _ _ _ _ a) (fun a r rs => h1 _ _ _ _ _ _ a r rs) us rest hl) (fun A outer s H vs Q E hr hsp => ?_)).imp fun vs H Q E ⟨a, rest, e, hz, hq⟩ => ⟨[a], rest, e, rfl, hz, hq⟩
  exact hbody cdv A outer s H vs Q E hr hsp
theorem pi_listK {X : Cx} {K' : PySem.W.Frag} {tg l : Expr} {tl : TE} (hl : PE X l tl) (hK : X.K = K') : PI X tg l (iList K' tl) := by
  subst hK; exact pi_list hl
theorem pi_tupK {X : Cx} {K' : PySem.W.Frag} {tg l : Expr} {tl : TE} (hl : PE X l tl) (hK : X.K = K') : PI X tg l (iTup K' tl) := by
  subst hK; exact pi_tup hl
/-- C.m(), m a classmethod of the class at C -/
theorem pe_cmeth0 {X : Cx} {CX : CXT} {k : Nat} {C p g : Addr} {mc : Value} {sp : Sp} {E : XK} {o : Expr} {m : Str} {pos apos : Pos} {ta : TE} {pl : Sem Bool} (he : PE X o ta) (r : ClX.CRead X.K C mc) (c : ClX.CMet X.K C mc m p g) (F : FnR X.prog X.w X.K X.mg X.base CX k g sp) (hr : Room k X.A) (hx : Passes CX X E)
    (ht : eval (.Call (.Attribute o m apos) [] [] pos) X.env = (do
      let ov ← eval o X.env
      standAt apos.atName
      let (f, first) ← holding [ov] (getMethod ov m pl)
      callWith pos f first (backTo pos (starEach [] X.env)) (backToKw pos (keywordEach [] X.env))) := by rfl) :
    PE X (.Call (.Attribute o m apos) [] [] pos) (ClX.tCMeth C sp E ta tNil) := by
  refine ⟨fun pins s σ H Q I h => ?_⟩
  refine PySem.W.methodCall_KW (pl := pl) (thn (he.run pins s σ H _ I h) fun u s1 ⟨x, H1, I1, rx, ex, q⟩ => ?_) ht
  subst ex
  obtain rfl : u = Value.ref C := rx
  refine ClX.getmethcm_ok I1 r c fun s2 I2 => ?_
  exact PySem.W.callWith_M0 (first := []) ⟨ClX.pin_at I2, I2.kIn⟩ c.fi (ClX.run_cm (us := []) (vs := []) F hr hx I2 .nil q)
end VP

/-! for i, x in enumerate(t), t a tuple -/
namespace PySem
open Sem (wp)
open AutoSeq1 (wpAny_loadPart')
set_option maxHeartbeats 1000000 in
theorem meets_enumerate_one {v : Value} {o : Obj} {H : Heap → Prop} (B : Begins v o H) :
    Meets (Builtin.«enumerate.__new__» ⟨[.type "enumerate", v], []⟩) (fun _ R s => H s.heap ∧
      R (.ok (.ret (.ref (s.heap.push o).objs.size))) { s with heap := (s.heap.push o).push { cls := .type "enumerate", data := .fields #[.none, .bool false, .ref s.heap.objs.size, rawInt 0, .none, .none] } }) :=
  .of_wp fun prog w A R s h => by
    obtain ⟨hp, g, d, tk, os⟩ := s; obtain ⟨h1, h⟩ := h
    have hsub := sub_enumerate
    have q1 : ∀ {A' : Around} {E : Value → Shared → Prop} {Q : Value → Shared → Prop}, Q (.ref hp.objs.size) ⟨hp.push o, g, d, tk, os⟩ → wpAny (model prog w) A' (pyIter v) Q E ⟨hp, g, d, tk, os⟩ :=
      fun q => B.iter prog w _ _ ⟨hp, g, d, tk, os⟩ _ h1 q
    wp_walk using q1
    refine wpAny_stack_any fun st => wpAny_pure ?_
    split
    · rename_i c _ _ _ _ _
      cases (c == Value.type "enumerate")
      · wp_walk using q1
        exact ⟨_, rfl, h⟩
      · wp_walk using q1
        exact ⟨_, rfl, h⟩
    · wp_walk using q1
      exact ⟨_, rfl, h⟩
theorem call_enumerate_one {prog : Program} {w : World} {A : Around} {E : Value → Shared → Prop} {s : Shared} {v : Value} {o : Obj} {H : Heap → Prop} {Q : Value → Shared → Prop} (B : Begins v o H) (h1 : H s.heap)
    (h : ∀ h', IsEnum h' (s.heap.objs.size + 1) s.heap.objs.size 0 .none → h'.get? s.heap.objs.size = some o → h'.objs.size = s.heap.objs.size + 2 →
      (∀ b o, s.heap.get? b = some o → h'.get? b = some o) → Q (.ref (s.heap.objs.size + 1)) { s with heap := h' }) :
    wpAny (model prog w) A (call (.type "enumerate") [v]) Q E s := by
  refine callType_new F.called_enumerate (by decide) (F.typeCall_enumerate_1 _) (F.newCall_enumerate_1 _) (fun obj => F.args_object_init_2 obj _) F.entry_enumerate_new
    (meets_enumerate_one B) ⟨h1, ?_⟩
  have hz : (s.heap.push o).objs.size = s.heap.objs.size + 1 := Heap.size_push ..
  show _ ∧ _
  rw [hz]
  have he : IsEnum ((s.heap.push o).push { cls := .type "enumerate", data := .fields #[.none, .bool false, .ref s.heap.objs.size, rawInt 0, .none, .none] }) (s.heap.objs.size + 1) s.heap.objs.size 0 .none := by
    have := Heap.get?_push_size (s.heap.push o) (o := { cls := .type "enumerate", data := .fields #[.none, .bool false, .ref s.heap.objs.size, rawInt 0, .none, .none] }) rfl
    rw [hz] at this; exact this
  refine ⟨⟨_, he, rfl⟩, h _ he (Heap.get?_push_of_some _ (Heap.get?_push_size _ B.free)) (by rw [Heap.size_push, hz]) fun b o x => Heap.get?_push_of_some _ (Heap.get?_push_of_some _ x)⟩
end PySem
namespace VE
open PySem PySem.Spec PyProof.Rows L2
/-- k, k + 1, .. with the list at a (n items, which the loop leaves there), in new pairs -/
def Itt_ (K : PySem.W.Frag) (a : Addr) (n : Nat) (k : Int) : It :=
  ⟨fun i H => i < n ∧ ∃ xs : List V, SqT K H a xs ∧ xs.length = n, fun i H v H' => ∃ T x, v = .ref T ∧ H T = none ∧ H' = upd H T (.tup [.int (k + (i : Nat)), x]) ∧ ∀ xs, SqT K H a xs → xs[i]? = some x,
    fun i H => n ≤ i ∧ ∃ xs : List V, SqT K H a xs ∧ xs.length = n⟩
theorem turn_enumT {P : Program} {w : World} {K : PySem.W.Frag} {elts : List Expr} {kk : Nat} {tpos : Pos} (a e it : Addr) (n : Nat) (k : Int) (hai : a ≠ it) (hei : e ≠ it) (hea : e ≠ a) :
    Turn P w K (.Tuple elts kk tpos) (Itt_ K a n k) [e, it] e (fun i h => (∃ old, IsEnum h e it (k + (i : Nat)) old) ∧ i ≤ n ∧ h.IsTupleIter it a i) where
  mem := by simp
  obj := fun i h st b hb => by
    obtain ⟨⟨old, he⟩, _, o, ho, hc, hd⟩ := st
    have e' : b = e ∨ b = it := by simpa using hb
    rcases e' with z | z
    · rw [z]; exact ⟨_, he, fun v q => nomatch q⟩
    · rw [z]; exact ⟨o, ho, fun v q => by rw [hd] at q; cases q⟩
  keep := fun i h h' st kp => let ⟨⟨old, he⟩, hn, hi⟩ := st; ⟨⟨old, kp e (by simp) _ he⟩, hn, hi.at fun o q => kp it (by simp) o q⟩
  item := by
    intro X hP hw hK hc i pins s σ H E I hf st hg
    subst hP hw hK
    obtain ⟨⟨old, he⟩, hin, hit⟩ := st
    obtain ⟨hlt, xs, hq, hl⟩ := hg
    have hx : xs[i]? = some (xs[i]'(by omega)) := List.getElem?_eq_getElem (by omega)
    obtain ⟨its, rv, p, hz⟩ := I.tuple hq
    have hh : X.A.in1.handled = none := I.ok.hd hc
    have hel : e < s.heap.objs.size := Heap.lt_size he
    have hil : it < s.heap.objs.size := by obtain ⟨_, q, _⟩ := hit; exact Heap.lt_size q
    obtain ⟨u', hu', ru⟩ := rv.get hx
    have hn : its.toArray.size = n := by rw [List.size_toArray, ← rv.length]; exact hl
    have D := Draws.tuple (prog := X.prog) (w := X.w) (A := X.A.in1) hh it a hai its.toArray
    rw [hn] at D
    refine wpAny_pyNext_enum_itemC D he ⟨hit, p⟩ hlt hei (by simp [hei, hea]) fun u h' tk hP ho hs' hT hsz hkp => ?_
    obtain ⟨hit', _⟩ := hs'
    have hP' : its[i]? = some u := by simpa using hP
    have euu : u' = u := by rw [hP'] at hu'; exact (Option.some.inj hu').symm
    subst euu
    refine ⟨_, rfl, wpAny_letOwnedTupleGo_enum (s := { s with heap := h', toks := tk + 1 }) ho fun h'' he' sb => ?_⟩
    have hT2 : h''.get? s.heap.objs.size = some { cls := .type "tuple", data := .seq #[.int (k + (i : Nat)) tk, u'] } := (sb.2 _ (Nat.ne_of_gt hel)).trans hT
    have new : ObjOk X.prog X.w (upd H s.heap.objs.size (.tup [.int (k + (i : Nat)), xs[i]'(by omega)])) h'' s.heap.objs.size (.tup [.int (k + (i : Nat)), xs[i]'(by omega)]) :=
      ⟨by show 2 ≤ sizeLine; decide, [.int (k + (i : Nat)) tk, u'], .cons ⟨_, rfl⟩ (.cons ru .nil), ⟨_, hT2, rfl, _, rfl⟩⟩
    have I1 : Inv X pins σ (upd H s.heap.objs.size (.tup [.int (k + (i : Nat)), xs[i]'(by omega)])) { s with heap := h'', toks := tk + 1 } :=
      I.turnedNew (ch := [e, it]) (fun b ob hb q => (sb.2 b (fun z => hb (by simp [z]))).trans (hkp b ob (fun z => hb (by simp [z])) (fun z => hb (by simp [z])) q)) hf (Nat.le_refl _) new
    refine ⟨.ref s.heap.objs.size, _, I1, rfl, ⟨_, _, rfl, I.hok.fresh (Nat.le_refl _), rfl, fun ys hy => by rw [I.tuple_inj hy hq]; exact hx⟩, ⟨⟨u', ?_⟩, hlt, hit'.at fun o q => (sb.2 it (Ne.symm hei)).trans q⟩, fun b hb => ?_⟩
    · have e1 : k + ((i + 1 : Nat) : Int) = k + (i : Int) + 1 := by omega
      rw [e1]; exact he'
    · have hb' : b < s.heap.objs.size := by
        have e' : b = e ∨ b = it := by simpa using hb
        rcases e' with z | z
        · rw [z]; exact hel
        · rw [z]; exact hil
      rw [upd_ne (Nat.ne_of_lt hb')]
      exact (hf b hb).1
  done := by
    intro X hP hw hK hc i pins s σ H E I hf st hg
    subst hP hw hK
    obtain ⟨⟨old, he⟩, hin, hit⟩ := st
    obtain ⟨hge, xs, hq, hl⟩ := hg
    obtain ⟨its, rv, p, hz⟩ := I.tuple hq
    have hn : its.toArray.size = n := by rw [List.size_toArray, ← rv.length]; exact hl
    have hh : X.A.in1.handled = none := I.ok.hd hc
    obtain ⟨f0, f1, f2, f3, f4, f5⟩ := hf it (by simp)
    have D := Draws.tuple (prog := X.prog) (w := X.w) (A := X.A.in1) hh it a hai its.toArray
    rw [hn] at D
    have ei : i = n := by omega
    subst ei
    exact wpAny_pyNext_enum_endD D he ⟨hit, p⟩ fun h' eb => ⟨rfl, I.turned (t' := s.toks) (fun b o hb q => eb b o hb q) f0 f1 f3 f4 f5⟩
  self := fun A i s Q E st h => let ⟨⟨_, he⟩, _⟩ := st; wpAny_pyIter_enum he h
theorem walk_enumT {K : PySem.W.Frag} {a : Addr} {xs : List V} {k : Int} : Walk (Itt_ K a xs.length k) xs.length (fun H => SqT K H a xs) (YPair (fun i => some (.int (k + (i : Nat)))) (fun i => xs[i]?)) := by
  refine ⟨fun i _ hi q => ⟨hi, xs, q, rfl⟩, fun _ q => ⟨Nat.le_refl _, xs, q, rfl⟩, fun i H v H' _ q y => ?_⟩
  obtain ⟨T, x, h1, h2, h3, h4⟩ := y
  exact ⟨T, .int (k + (i : Nat)), x, h1, h2, h3, rfl, h4 xs q⟩
def iEnumT (K : PySem.W.Frag) (ta : TA) (k : Int) : TI := fun σ H R => ta σ H fun vs H1 => ∃ (a : Addr) (xs : List V), vs = [.ref a] ∧ SqT K H1 a xs ∧ R (Itt_ K a xs.length k) H1
theorem pi_enumT {X : Cx} {e : Expr} {ta : TA} {p pos tpos : Pos} {elts : List Expr} {kk : Nat} (hg : Gl X "enumerate") (hm : X.mg "enumerate" = none) (ha : PA X [e] ta) (hs : starEach [e] X.env = [(false, eval e X.env)] := by rfl) :
    PI X (.Tuple elts kk tpos) (.Call (.Name "enumerate" p) [e] [] pos) (iEnumT X.K ta 0) := by
  refine ⟨fun pins s σ H R I h => ?_⟩
  refine Call_ (ld_blt I hg hm boot_enumerate (PyProof.Rows.callWith_type1 (thn (ha.run pos pins s σ H _ I h) fun us s1 ⟨vs, H1, I1, r1, q1⟩ => ?_) hs rfl))
  obtain ⟨a, xs, ex, hq, q⟩ := q1
  subst ex
  cases r1 with
  | cons r rr =>
    cases rr
    cases r
    obtain ⟨its, rv, p', hz⟩ := I1.tuple hq
    have hT : s1.heap.IsTuple a its.toArray := p'
    have hal : a < s1.heap.objs.size := by obtain ⟨_, z, _⟩ := hT; exact Heap.lt_size z
    refine call_enumerate_one (begins_tuple a its.toArray) hT fun h' he hit hsz hkp => wpAny_pyIter_enum he ?_
    have I2 : Inv X pins σ H1 { s1 with heap := h' } := I1.kept (t' := s1.toks) hkp
    refine ⟨s1.heap.objs.size + 1, [s1.heap.objs.size + 1, s1.heap.objs.size], _, _, H1, rfl, I2, turn_enumT a (s1.heap.objs.size + 1) s1.heap.objs.size xs.length 0 (Nat.ne_of_lt hal) (Nat.succ_ne_self _) (Nat.ne_of_gt (Nat.lt_succ_of_lt hal)), ⟨⟨.none, ?_⟩, Nat.zero_le _, ⟨_, hit, rfl, rfl⟩⟩, fun b hb => ?_, q⟩
    · rw [show (0 : Int) + ((0 : Nat) : Int) = 0 by omega]; exact he
    · have e' : b = s1.heap.objs.size + 1 ∨ b = s1.heap.objs.size := by simpa using hb
      have hle : s1.heap.objs.size ≤ b := by
        rcases e' with z | z
        · rw [z]; exact Nat.le_add_right _ _
        · rw [z]; exact Nat.le_refl _
      exact I1.fpOk hle (I1.hok.fresh hle)
end VE

/-! Lines: what pieces of curves allow. -/
namespace VM
structure Pc where
  b : Int
  u : Int
  t : Int
structure Pc.Ok (q : Pc) : Prop where
  b0 : 0 ≤ q.b
  b1 : q.b ≤ 60
  u0 : 0 ≤ q.u
  u1 : q.u ≤ 60
  t_ : q.t = 1 ∨ q.t = 2 ∨ q.t = 3 ∨ q.t = 4 ∨ q.t = 6 ∨ q.t = 12
def Pc.at (q : Pc) (x : Int) : Int := q.b + (q.u * x + q.t - 1) / q.t
/-- units in twelve ticks -/
def Pc.r (q : Pc) : Int := q.u * 12 / q.t
theorem Pc.Ok.r0 {q : Pc} (h : q.Ok) : 0 ≤ q.r ∧ q.r ≤ 720 := by
  have a := h.u0
  have b := h.u1
  unfold Pc.r
  rcases h.t_ with e | e | e | e | e | e <;> rw [e] <;> omega
theorem Pc.Ok.at_eq {q : Pc} (h : q.Ok) (x : Int) : q.at x = q.b + (q.r * x + 11) / 12 := by
  unfold Pc.at Pc.r
  rcases h.t_ with e | e | e | e | e | e <;> rw [e]
  · rw [show q.u * 12 / 1 = 12 * q.u by omega, Int.mul_assoc]; omega
  · rw [show q.u * 12 / 2 = 6 * q.u by omega, Int.mul_assoc]; omega
  · rw [show q.u * 12 / 3 = 4 * q.u by omega, Int.mul_assoc]; omega
  · rw [show q.u * 12 / 4 = 3 * q.u by omega, Int.mul_assoc]; omega
  · rw [show q.u * 12 / 6 = 2 * q.u by omega, Int.mul_assoc]; omega
  · rw [show q.u * 12 / 12 = 1 * q.u by omega, Int.mul_assoc]; omega
/-- rounded down of the negative, subtracted -/
theorem Pc.Ok.at_neg {q : Pc} (h : q.Ok) (x : Int) : q.b - (-q.u * x) / q.t = q.at x := by
  unfold Pc.at
  rw [Int.neg_mul]
  rcases h.t_ with e | e | e | e | e | e <;> rw [e] <;> omega
/-- rounded down, one more for a rest -/
theorem Pc.Ok.at_rest {q : Pc} (h : q.Ok) (x : Int) : q.b + (q.u * x) / q.t + (if (q.u * x) % q.t > 0 then 1 else 0) = q.at x := by
  unfold Pc.at
  rcases h.t_ with e | e | e | e | e | e <;> rw [e] <;> split <;> omega
theorem Pc.Ok.up {q : Pc} (h : q.Ok) (x : Int) : q.at x ≤ q.at (x + 1) := by
  have := h.r0.1
  rw [h.at_eq, h.at_eq, Int.mul_add]
  omega
theorem Pc.Ok.nn {q : Pc} (h : q.Ok) {x : Int} (hx : 0 ≤ x) : 0 ≤ q.at x := by
  have := Int.mul_nonneg h.r0.1 hx
  have := h.b0
  rw [h.at_eq]
  omega
theorem Pc.Ok.hi {q : Pc} (h : q.Ok) {x : Int} (hx : 0 ≤ x) : q.at x ≤ 60 + 60 * x := by
  have := Int.mul_le_mul_of_nonneg_right h.r0.2 hx
  have := h.b1
  rw [h.at_eq]
  omega
theorem Pc.Ok.far {q : Pc} (h : q.Ok) (x : Int) : q.at (x + 12) = q.at x + q.r := by
  rw [h.at_eq, h.at_eq, Int.mul_add]
  omega
def minOf {α : Type} (f : α → Int) : List α → Int
  | [] => 0
  | [a] => f a
  | a :: b :: l => min (f a) (minOf f (b :: l))
theorem minOf_is {α : Type} (f : α → Int) : ∀ {l : List α}, l ≠ [] → (∃ a ∈ l, minOf f l = f a) ∧ ∀ a ∈ l, minOf f l ≤ f a
  | [], h => absurd rfl h
  | [a], _ => ⟨⟨a, List.mem_singleton.mpr rfl, rfl⟩, fun b hb => by rw [List.mem_singleton.mp hb]; exact Int.le_refl _⟩
  | a :: b :: l, _ => by
    obtain ⟨⟨c, hc, e⟩, lo⟩ := minOf_is f (l := b :: l) (by simp)
    have d : minOf f (a :: b :: l) = min (f a) (minOf f (b :: l)) := rfl
    rw [d]
    refine ⟨?_, fun x hx => ?_⟩
    · by_cases z : f a ≤ minOf f (b :: l)
      · exact ⟨a, List.mem_cons_self, by omega⟩
      · exact ⟨c, List.mem_cons_of_mem _ hc, by omega⟩
    · rcases List.mem_cons.mp hx with h | h
      · subst h; omega
      · have := lo x h; omega
theorem minOf_eq {α : Type} {f : α → Int} {l : List α} {m : Int} (hm : m ∈ l.map f) (h : ∀ y ∈ l.map f, m ≤ y) : m = minOf f l := by
  have ne : l ≠ [] := fun z => by subst z; cases hm
  obtain ⟨⟨a, ha, e⟩, lo⟩ := minOf_is f ne
  obtain ⟨c, hc, rfl⟩ := List.mem_map.mp hm
  have := lo c hc
  have := h (f a) (List.mem_map.mpr ⟨a, ha, rfl⟩)
  omega
def maxOf {α : Type} (f : α → Int) (l : List α) : Int := -(minOf (fun a => -(f a)) l)
theorem maxOf_is {α : Type} (f : α → Int) {l : List α} (h : l ≠ []) : (∃ a ∈ l, maxOf f l = f a) ∧ ∀ a ∈ l, f a ≤ maxOf f l := by
  obtain ⟨⟨a, ha, e⟩, lo⟩ := minOf_is (fun a => -(f a)) h
  unfold maxOf
  exact ⟨⟨a, ha, by omega⟩, fun c hc => by have := lo c hc; omega⟩
theorem maxOf_eq {α : Type} {f : α → Int} {l : List α} {m : Int} (hm : m ∈ l.map f) (h : ∀ y ∈ l.map f, y ≤ m) : m = maxOf f l := by
  have ne : l ≠ [] := fun z => by subst z; cases hm
  obtain ⟨⟨a, ha, e⟩, lo⟩ := maxOf_is f ne
  obtain ⟨c, hc, rfl⟩ := List.mem_map.mp hm
  have := lo c hc
  have := h (f a) (List.mem_map.mpr ⟨a, ha, rfl⟩)
  omega
/-- the least of the lines -/
def lnF (qs : List Pc) (x : Int) : Int := if x = 0 then 0 else minOf (fun q => q.at x) qs
theorem lnF_pos {qs : List Pc} {x : Int} (h : 0 < x) : lnF qs x = minOf (fun q => q.at x) qs := by unfold lnF; rw [if_neg (by omega)]
theorem lnF_zero {qs : List Pc} : lnF qs 0 = 0 := by unfold lnF; rw [if_pos rfl]
/-- how many values are written, and the gain in twelve ticks -/
def lnN (qs : List Pc) : Int := 12 * (maxOf Pc.b qs + 2)
def lnG (qs : List Pc) : Int := minOf Pc.r qs
theorem lnN_b {qs : List Pc} (ne : qs ≠ []) (ok : ∀ q ∈ qs, q.Ok) : 24 ≤ lnN qs ∧ lnN qs ≤ 744 := by
  obtain ⟨⟨a, ha, e⟩, _⟩ := maxOf_is Pc.b ne
  have := (ok a ha).b0
  have := (ok a ha).b1
  unfold lnN
  omega
theorem lnG_b {qs : List Pc} (ne : qs ≠ []) (ok : ∀ q ∈ qs, q.Ok) : 0 ≤ lnG qs ∧ lnG qs ≤ 720 := by
  obtain ⟨⟨a, ha, e⟩, _⟩ := minOf_is Pc.r ne
  have := (ok a ha).r0
  unfold lnG
  omega
theorem ln_rep {qs : List Pc} (ne : qs ≠ []) (ok : ∀ q ∈ qs, q.Ok) : Rep (lnF qs) (lnN qs) 12 (lnG qs) := fun t ht => by
  have nb := lnN_b ne ok
  obtain ⟨⟨q0, h0, e0⟩, l0⟩ := minOf_is Pc.r ne
  obtain ⟨_, lb⟩ := maxOf_is Pc.b ne
  have hN : lnN qs = 12 * (maxOf Pc.b qs + 2) := rfl
  obtain ⟨s, rfl⟩ : ∃ s, t = s + 12 := ⟨t - 12, by omega⟩
  rw [show s + 12 - 12 = s by omega, lnF_pos (by omega), lnF_pos (by omega)]
  obtain ⟨⟨q1, h1, e1⟩, l1⟩ := minOf_is (fun q : Pc => q.at (s + 12)) ne
  obtain ⟨⟨q2, h2, e2⟩, l2⟩ := minOf_is (fun q : Pc => q.at s) ne
  show _ = _ + minOf Pc.r qs
  have r2 : q2.r = q0.r := by
    have a := l0 q2 h2
    rw [e0] at a
    by_cases z : q2.r = q0.r
    · exact z
    · exfalso
      have m := Int.mul_le_mul_of_nonneg_right (show q0.r + 1 ≤ q2.r by omega) (show 0 ≤ s by omega)
      rw [Int.add_mul, Int.one_mul] at m
      have c := l2 q0 h0
      rw [e2] at c
      have c : q2.at s ≤ q0.at s := c
      rw [(ok q2 h2).at_eq, (ok q0 h0).at_eq] at c
      have := (ok q2 h2).b0
      have := lb q0 h0
      omega
  have f1 := (ok q1 h1).far s
  have f2 := (ok q2 h2).far s
  have c1 := l1 q2 h2
  have c2 := l2 q1 h1
  have c3 := l0 q1 h1
  have c1 : minOf (fun q : Pc => q.at (s + 12)) qs ≤ q2.at (s + 12) := c1
  have c2 : minOf (fun q : Pc => q.at s) qs ≤ q1.at s := c2
  have e1 : minOf (fun q : Pc => q.at (s + 12)) qs = q1.at (s + 12) := e1
  have e2 : minOf (fun q : Pc => q.at s) qs = q2.at s := e2
  omega
theorem ln_up {qs : List Pc} (ne : qs ≠ []) (ok : ∀ q ∈ qs, q.Ok) (x : Int) (hx : 0 ≤ x) : lnF qs x ≤ lnF qs (x + 1) := by
  obtain ⟨⟨q1, h1, e1⟩, l1⟩ := minOf_is (fun q : Pc => q.at (x + 1)) ne
  rw [lnF_pos (show 0 < x + 1 by omega), e1]
  have u := (ok q1 h1).up x
  by_cases z : x = 0
  · subst z
    rw [lnF_zero]
    exact (ok q1 h1).nn (by omega)
  · rw [lnF_pos (by omega)]
    obtain ⟨_, l2⟩ := minOf_is (fun q : Pc => q.at x) ne
    exact Int.le_trans (l2 q1 h1) u
theorem ln_nn {qs : List Pc} (ne : qs ≠ []) (ok : ∀ q ∈ qs, q.Ok) (x : Int) (hx : 0 ≤ x) : 0 ≤ lnF qs x := by
  by_cases z : x = 0
  · subst z; rw [lnF_zero]; exact Int.le_refl _
  · rw [lnF_pos (by omega)]
    obtain ⟨⟨q1, h1, e1⟩, _⟩ := minOf_is (fun q : Pc => q.at x) ne
    rw [e1]
    exact (ok q1 h1).nn hx
theorem ln_hi {qs : List Pc} (ne : qs ≠ []) (ok : ∀ q ∈ qs, q.Ok) (x : Int) (hx : 0 ≤ x) : lnF qs x ≤ 60 + 60 * x := by
  by_cases z : x = 0
  · subst z; rw [lnF_zero]; decide
  · rw [lnF_pos (by omega)]
    obtain ⟨⟨q1, h1, e1⟩, _⟩ := minOf_is (fun q : Pc => q.at x) ne
    rw [e1]
    exact (ok q1 h1).hi hx
theorem Pc.Ok.sub {p q : Pc} (hp : p.Ok) (hq : q.Ok) (h : p.r ≤ q.r) {a b : Int} (ha : 0 ≤ a) (hb : 0 ≤ b) : p.at (a + b) ≤ p.at a + q.at b := by
  have m := Int.mul_le_mul_of_nonneg_right h hb
  have := hq.b0
  rw [hp.at_eq, hp.at_eq, hq.at_eq, Int.mul_add]
  omega
/-- the least of lines is good -/
theorem ln_good {qs : List Pc} (ne : qs ≠ []) (ok : ∀ q ∈ qs, q.Ok) {a b : Int} (ha : 0 ≤ a) (hb : 0 ≤ b) : lnF qs (a + b) ≤ lnF qs a + lnF qs b := by
  by_cases za : a = 0
  · subst za; rw [lnF_zero, Int.zero_add, Int.zero_add]; exact Int.le_refl _
  by_cases zb : b = 0
  · subst zb; rw [lnF_zero, Int.add_zero, Int.add_zero]; exact Int.le_refl _
  rw [lnF_pos (show 0 < a + b by omega), lnF_pos (show 0 < a by omega), lnF_pos (show 0 < b by omega)]
  obtain ⟨_, l⟩ := minOf_is (fun q : Pc => q.at (a + b)) ne
  obtain ⟨⟨p, hp, ep⟩, _⟩ := minOf_is (fun q : Pc => q.at a) ne
  obtain ⟨⟨q, hq, eq⟩, _⟩ := minOf_is (fun q : Pc => q.at b) ne
  rw [ep, eq]
  by_cases c : p.r ≤ q.r
  · exact Int.le_trans (l p hp) ((ok p hp).sub (ok q hq) c ha hb)
  · refine Int.le_trans (l q hq) ?_
    have := (ok q hq).sub (ok p hp) (show q.r ≤ p.r by omega) hb ha
    show q.at (a + b) ≤ p.at a + q.at b
    rw [Int.add_comm a b, Int.add_comm (p.at a)]
    exact this
/-- more pieces, less -/
theorem ln_le {qs : List Pc} {q : Pc} (h : q ∈ qs) (x : Int) : lnF qs x ≤ lnF [q] x := by
  by_cases z : x = 0
  · subst z; rw [lnF_zero, lnF_zero]; exact Int.le_refl _
  · unfold lnF
    rw [if_neg z, if_neg z]
    exact (minOf_is (fun q : Pc => q.at x) (fun e => by subst e; cases h)).2 q h
/-- the same pieces, the same -/
theorem minOf_same {α : Type} {f : α → Int} {l m : List α} (h : ∀ a, a ∈ l ↔ a ∈ m) : minOf f l = minOf f m := by
  by_cases z : l = []
  · subst z
    have : m = [] := by
      cases m with
      | nil => rfl
      | cons a m => exact absurd ((h a).mpr List.mem_cons_self) (by simp)
    subst this; rfl
  · have z2 : m ≠ [] := fun e => by
      subst e
      obtain ⟨⟨a, ha, _⟩, _⟩ := minOf_is f z
      exact absurd ((h a).mp ha) (by simp)
    obtain ⟨⟨a, ha, ea⟩, la⟩ := minOf_is f z
    obtain ⟨⟨b, hb, eb⟩, lb⟩ := minOf_is f z2
    have := la b ((h b).mpr hb)
    have := lb a ((h a).mp ha)
    omega
theorem ln_same {qs rs : List Pc} (h : ∀ q, q ∈ qs ↔ q ∈ rs) (x : Int) : lnF qs x = lnF rs x := by
  unfold lnF
  rw [minOf_same h]
/-! forms of functions that repeat from somewhere on, with a period that divides twelve -/
def per6 (p : Int) : Prop := p = 1 ∨ p = 2 ∨ p = 3 ∨ p = 4 ∨ p = 6 ∨ p = 12
def cyc6 (i : Nat) : Int := ([1, 2, 3, 4, 6, 12] : List Int).getD i 0
theorem cyc6_lt {i k : Nat} (h : i < k) (hk : k < 6) : cyc6 i < cyc6 k := by
  have : ∀ k, k < 6 → ∀ i, i < k → cyc6 i < cyc6 k := by decide +kernel
  exact this k hk i h
theorem cyc6_b {i : Nat} (h : i < 6) : 0 < cyc6 i ∧ cyc6 i ≤ 12 := by
  have : ∀ i, i < 6 → 0 < cyc6 i ∧ cyc6 i ≤ 12 := by decide +kernel
  exact this i h
theorem cyc6_per {d : Int} (h : per6 d) : ∃ k, k < 6 ∧ cyc6 k = d := by
  rcases h with h | h | h | h | h | h <;> subst h
  · exact ⟨0, by decide, rfl⟩
  · exact ⟨1, by decide, rfl⟩
  · exact ⟨2, by decide, rfl⟩
  · exact ⟨3, by decide, rfl⟩
  · exact ⟨4, by decide, rfl⟩
  · exact ⟨5, by decide, rfl⟩
theorem per6_dvd {d p : Int} (d0 : 0 < d) (hp : per6 p) (h : d ∣ p) : per6 d := by
  have h12 : d ∣ 12 := Int.dvd_trans h (by rcases hp with h | h | h | h | h | h <;> subst h <;> decide)
  have le := Int.le_of_dvd (by decide) h12
  obtain ⟨e, he⟩ := h12
  have : d = 1 ∨ d = 2 ∨ d = 3 ∨ d = 4 ∨ d = 5 ∨ d = 6 ∨ d = 7 ∨ d = 8 ∨ d = 9 ∨ d = 10 ∨ d = 11 ∨ d = 12 := by omega
  unfold per6
  rcases this with h | h | h | h | h | h | h | h | h | h | h | h <;> subst h <;> omega
/-- what the form's period is -/
theorem fm_least {xs : List Int} {p g : Int} (hp : 0 < p) (hpn : p ≤ xs.length) : (formP xs p g).1 ∣ p ∧ ∀ c : Int, 0 < c → c < (formP xs p g).1 → ∀ N s : Int, ¬ Rep (cvAt xs p g) N c s := by
  have R : Rep (cvAt xs p g) xs.length p g := Rep.cvAt hp hpn
  have Pp : Per (cvAt xs p g) p.toNat := ⟨by omega, _, _, by rw [Int.toNat_of_nonneg (by omega)]; exact R⟩
  obtain ⟨d, D, no⟩ := least_nat ⟨p.toNat, Pp⟩
  have no' : ∀ c, Per (cvAt xs p g) c → d ≤ c := fun c hc => by
    by_cases z : d ≤ c
    · exact z
    · exact absurd hc (no c (by omega))
  have dvp : (d : Int) ∣ p := by
    have := Int.natCast_dvd_natCast.mpr (per_dvd' D no' Pp)
    rwa [Int.toNat_of_nonneg (by omega)] at this
  have e1 : (formP xs p g).1 = d := leastFrom_is R hp D no' dvp _ 1 (by omega) (by omega) (by have := D.1; omega)
  rw [e1]
  refine ⟨dvp, fun c c0 cd N s hc => ?_⟩
  have := no' c.toNat ⟨by omega, N, s, by rw [Int.toNat_of_nonneg (by omega)]; exact hc⟩
  omega
theorem fm_rep {xs : List Int} {p g : Int} (hp : 0 < p) (hpn : p ≤ xs.length) : Rep (cvAt xs p g) (formV xs p g).length (formP xs p g).1 (formP xs p g).2 := by
  obtain ⟨a, b, R⟩ := leastP_spec (Rep.cvAt (g := g) hp hpn) hp
  have a : 0 < (formP xs p g).1 := a
  have b : (formP xs p g).1 ≤ p := b
  have R : Rep (cvAt xs p g) xs.length (formP xs p g).1 (formP xs p g).2 := R
  obtain ⟨c1, c2, c3⟩ := shr_spec a xs.length (by omega) R
  unfold formV
  rw [vals_length]
  exact c3
/-- the last length that does not follow from the one a period before, of c + 1, .., c + j; c if there is none -/
def lastOdd (f : Int → Int) (c s : Int) : Nat → Int
  | 0 => c
  | j + 1 => if f (c + 1 + j) = f (c + 1 + j - c) + s then lastOdd f c s j else c + 1 + j
theorem lastOdd_is (f : Int → Int) (c s : Int) : ∀ j : Nat, c ≤ lastOdd f c s j ∧ lastOdd f c s j ≤ c + j ∧ (∀ t, lastOdd f c s j < t → t ≤ c + j → f t = f (t - c) + s) ∧ (c < lastOdd f c s j → f (lastOdd f c s j) ≠ f (lastOdd f c s j - c) + s)
  | 0 => ⟨Int.le_refl _, by show c ≤ c + 0; omega, fun t h1 h2 => by have h1 : c < t := h1; omega, fun h => by have h : c < c := h; omega⟩
  | j + 1 => by
    obtain ⟨a, b, d, e⟩ := lastOdd_is f c s j
    by_cases z : f (c + 1 + j) = f (c + 1 + j - c) + s
    · have q : lastOdd f c s (j + 1) = lastOdd f c s j := if_pos z
      rw [q]
      refine ⟨a, by omega, fun t h1 h2 => ?_, e⟩
      by_cases w : t = c + 1 + j
      · rw [w]; exact z
      · exact d t h1 (by omega)
    · have q : lastOdd f c s (j + 1) = c + 1 + j := if_neg z
      rw [q]
      exact ⟨by omega, by omega, fun t h1 h2 => by omega, fun _ => z⟩
/-- with the form's period: the number of its values -/
theorem lastOdd_form {xs : List Int} {p g : Int} {j : Nat} (hp : 0 < p) (hpn : p ≤ xs.length) (hj : (xs.length : Int) ≤ (formP xs p g).1 + j) : lastOdd (cvAt xs p g) (formP xs p g).1 (formP xs p g).2 j = formM xs p g := by
  obtain ⟨f1, f2, f3, f4, f5⟩ := form_spec (vs := xs) (g := g) hp hpn
  have R := fm_rep (g := g) hp hpn
  have ml : (formV xs p g).length = formM xs p g := by unfold formV; rw [vals_length]
  have mn := shr_min (f := cvAt xs p g) (d := (formP xs p g).1) (s := (formP xs p g).2) xs.length
  have eM : shr (cvAt xs p g) (formP xs p g).1 (formP xs p g).2 xs.length = formM xs p g := rfl
  rw [eM] at mn
  rw [ml] at R f3 f4
  obtain ⟨a, b, d, e⟩ := lastOdd_is (cvAt xs p g) (formP xs p g).1 (formP xs p g).2 j
  generalize lastOdd (cvAt xs p g) (formP xs p g).1 (formP xs p g).2 j = L at *
  generalize formM xs p g = m at *
  by_cases c1 : (m : Int) < L
  · exact absurd (R L c1) (e (by omega))
  · by_cases c2 : L < m
    · rcases mn with h | h | h
      · omega
      · omega
      · exact absurd (d m c2 (by omega)) h
    · omega
/-- with a lesser one it lies far out -/
theorem lastOdd_far {xs : List Int} {p g c s : Int} {j : Nat} (hp : 0 < p) (hpn : p ≤ xs.length) (c0 : 0 < c) (cd : c < (formP xs p g).1) (hj : (xs.length : Int) + p ≤ c + j) : (xs.length : Int) < lastOdd (cvAt xs p g) c s j := by
  obtain ⟨a, b, d, e⟩ := lastOdd_is (cvAt xs p g) c s j
  obtain ⟨f1, f2, f3, f4, f5⟩ := form_spec (vs := xs) (g := g) hp hpn
  by_cases z : (xs.length : Int) < lastOdd (cvAt xs p g) c s j
  · exact z
  · exfalso
    have S : stepsEq (cvAt xs p g) xs.length p c = true := steps_of (s := s) fun t h1 h2 => d t (by omega) (by omega)
    exact (fm_least (g := g) hp hpn).2 c c0 cd _ _ ((Rep.cvAt (g := g) hp hpn).of_steps c0 (by omega) S)
/-- written by its form a curve has this form -/
theorem fm_idem {xs : List Int} {p g : Int} (hp : 0 < p) (hpn : p ≤ xs.length) : formV (formV xs p g) (formP xs p g).1 (formP xs p g).2 = formV xs p g ∧ formP (formV xs p g) (formP xs p g).1 (formP xs p g).2 = formP xs p g := by
  obtain ⟨f1, f2, f3, f4, f5⟩ := form_spec (vs := xs) (g := g) hp hpn
  have u := form_unique (g := (formP xs p g).2) (e := g) f1 f3 hp hpn f5
  first | exact u | exact ⟨u.2, u.1⟩ | exact ⟨u.1, u.2⟩
/-- what is known of such a function's form -/
theorem fm_vals {F : Int → Int} {n : Nat} {G : Int} (R : Rep F n 12 G) (hn : 12 ≤ n) (F0 : F 0 = 0) : ∀ t : Int, 0 ≤ t → cvAt (vals F n) 12 G t = F t :=
  fun t ht => cvAt_vals (by decide) (by omega) F0 R t ht
theorem form_get {xs : List Int} {p g : Int} {i : Nat} (h : i < (formV xs p g).length) : (formV xs p g).getD i 0 = cvAt xs p g ((i : Int) + 1) := by
  unfold formV at h ⊢
  rw [vals_length] at h
  exact vals_getD h
/-- at most: what the package looks at is enough -/
theorem am_iff {f h : Int → Int} {n1 n2 : Nat} {p1 g1 p2 g2 : Int} (R : Rep f n1 p1 g1) (S : Rep h n2 p2 g2) (a0 : 0 < p1) (a1 : p1 ≤ n1) (b0 : 0 < p2) (b1 : p2 ≤ n2) :
    amM f h n1 n2 p1 g1 p2 g2 = true ↔ ∀ t : Int, 1 ≤ t → f t ≤ h t := by
  have d1 : p1 ∣ ((Nat.lcm p1.toNat p2.toNat : Nat) : Int) := by
    have := Int.natCast_dvd_natCast.mpr (Nat.dvd_lcm_left p1.toNat p2.toNat)
    rwa [Int.toNat_of_nonneg (by omega)] at this
  have d2 : p2 ∣ ((Nat.lcm p1.toNat p2.toNat : Nat) : Int) := by
    have := Int.natCast_dvd_natCast.mpr (Nat.dvd_lcm_right p1.toNat p2.toNat)
    rwa [Int.toNat_of_nonneg (by omega)] at this
  have l0 : 0 < Nat.lcm p1.toNat p2.toNat := Nat.lcm_pos (by omega) (by omega)
  unfold amM
  have eN : ((amN n1 n2 p1 p2 : Nat) : Int) = max ((n1 : Int) - p1) ((n2 : Int) - p2) + (Nat.lcm p1.toNat p2.toNat : Nat) := by unfold amN; omega
  have R2 : Rep f (amN n1 n2 p1 p2 : Nat) (Nat.lcm p1.toNat p2.toNat : Nat) (g1 * ((Nat.lcm p1.toNat p2.toNat : Nat) / p1)) := R.mul a0 d1 (by omega) (by omega)
  have S2 : Rep h (amN n1 n2 p1 p2 : Nat) (Nat.lcm p1.toNat p2.toNat : Nat) (g2 * ((Nat.lcm p1.toNat p2.toNat : Nat) / p2)) := S.mul b0 d2 (by omega) (by omega)
  have N1 : 1 ≤ amN n1 n2 p1 p2 := by omega
  have NL : Nat.lcm p1.toNat p2.toNat ≤ amN n1 n2 p1 p2 := by omega
  generalize g1 * ((Nat.lcm p1.toNat p2.toNat : Nat) / p1) = G1 at *
  generalize g2 * ((Nat.lcm p1.toNat p2.toNat : Nat) / p2) = G2 at *
  generalize amN n1 n2 p1 p2 = N at *
  generalize Nat.lcm p1.toNat p2.toNat = L at *
  by_cases c : G2 < G1
  · rw [if_pos c]
    refine ⟨fun z => (nomatch z), fun z => ?_⟩
    exfalso
    obtain ⟨K, hK⟩ : ∃ K : Nat, h N - f N < K := ⟨(h N - f N).toNat + 1, by omega⟩
    have e1 := R2.times (by omega) K ((N : Int) + K * L) (by omega)
    have e2 := S2.times (by omega) K ((N : Int) + K * L) (by omega)
    rw [show (N : Int) + K * L - K * L = N by omega] at e1 e2
    have nn : (0 : Int) ≤ (K : Int) * L := Int.mul_nonneg (by omega) (by omega)
    have q := z ((N : Int) + K * L) (by omega)
    have m := Int.mul_le_mul_of_nonneg_left (show G2 + 1 ≤ G1 by omega) (show (0 : Int) ≤ K by omega)
    rw [Int.mul_add, Int.mul_one] at m
    omega
  · rw [if_neg c, all_iff]
    refine ⟨fun z => ?_, fun z t h1 _ => z t h1⟩
    have key : ∀ m : Nat, ∀ t : Int, 1 ≤ t → t ≤ m → f t ≤ h t := by
      intro m
      induction m with
      | zero => intro t h1 h2; omega
      | succ m ih =>
        intro t h1 h2
        by_cases w : t ≤ N
        · exact z t h1 w
        · rw [R2 t (by omega), S2 t (by omega)]
          have := ih (t - L) (by omega) (by omega)
          omega
    intro t ht
    exact key t.toNat t ht (by omega)
end VM

/-! repr of a list of own objects: their own __repr__ runs under the list's guard. -/
namespace VL
open PySem PySem.Spec PyProof.Rows L2
/-- the guards are of S alone -/
def Gd (S : Addr) (A : Around) : Prop := ∃ g, A.guards = some g ∧ ∀ b, b ≠ S → Clear g b
/-- a def's promise, asked where the guards are of one list alone -/
structure FnC (P : Program) (w : World) (K : PySem.W.Frag) (mg : Str → Option Value) (base : Heap) (CX : CXT)
    (k : Nat) (f : Addr) (fd : FuncData) (ps : List Str) (sp : Addr → Sp) : Prop where
  arity : ∀ S as H Q E, sp S as H Q E → as.length = ps.length
  go : ∀ (S : Addr) (A : Around) (outer : List Env) (s : Shared) (H : Hp) (args : Args) (us : List Value) (as : List V) (Q : VK) (E : XK),
    Gd S A → Room k A → Env0 P w K mg base A outer s H → BindsTo s fd args (ps.zip us) → Vals as us → sp S as H Q E →
      codeAny (model P w) A (.call (.ref f) args) (CR CX outer P w H s Q E) s
section
variable {P : Program} {w : World} {K : PySem.W.Frag} {mg : Str → Option Value} {base : Heap} {CX : CXT}
theorem okC {x qual : Str} {st : Stmt} {f : Addr} {fd : FuncData} {N ps : List Str} {k : Nat} {sp : Addr → Sp}
    (F : Fun K x qual st f fd) (Sc : FnScope N ps (defScope st)) (len : ∀ S as H Q E, sp S as H Q E → as.length = ps.length)
    (body : ∀ (S : Addr) (cdv : Value) (A : Around) (outer : List Env) (s : Shared) (H : Hp) (as : List V) (Q : VK) (E : XK),
      Gd S (A.deeper (envOfC qual (defScope st) s.heap.objs.size f cdv)) →
      Room k (A.deeper (envOfC qual (defScope st) s.heap.objs.size f cdv)) → sp S as H Q E →
      ∃ t, PSs (cxOf CX P w K mg base N qual (defScope st) f cdv A outer s H E) (defBody st) t ∧
        t { nx := fun _ H' => Q .non H', rt := Q } (start N as) H) :
    FnC P w K mg base CX (k + 1) f fd ps sp := by
  obtain ⟨oc, od, kV, doc, pm, an, cdv, ct, osl, rfl, lk, hcd⟩ := F.ex
  refine ⟨len, fun S A outer s H args us as Q E hA hr e0 hb r hsp => ?_⟩
  have hl := len _ _ _ _ _ hsp
  have KX : K.In s.heap := e0.mod.kin.keeps fun b o e => (e0.bs b o e).1
  have lim : s.heap.NoLimit := e0.mod.nolimit.keeps fun b o e => (e0.bs b o e).1
  have kinds : ∀ y ∈ ps.zip us, (defScope st).names.lookup y.1 = some .local ∨
      ((defScope st).names.lookup y.1 = some .cell ∧ ((cellsFrom (s.heap.objs.size + 1) (defScope st).names []).lookup y.1).isSome = true) := by
    rintro ⟨n, v⟩ hy
    rcases Sc.par n (List.of_mem_zip hy).1 with q | q
    · exact .inl q
    · exact .inr ⟨q, PySem.W.cellsFrom_some _ _ _ (.inl q)⟩
  refine codeAny_call_function hr.depth (KX _ _ lk) rfl Sc.co Sc.gen rfl (PySem.W.codeRec_of KX hcd) (hb _ _ _ _ ?_)
  refine wpAny_newFunctionEnv_cells Sc.kind kinds fun env he s1 z => ?_
  subst he
  refine ⟨lim.keeps z.toInCall.keep, codeAny_func ?_⟩
  obtain ⟨t, ht, hq⟩ := body S cdv A outer s H as Q E hA (hr.deeper _) hsp
  have I0 : Inv (cxOf CX P w K mg base N qual (defScope st) f cdv A outer s H E) [] (start N as) H s1 :=
    inv_start Sc hr.hd e0 hl r z
  refine wpAny_mono (ht.run [] s1 (start N as) H _ I0 hq) ?_ fun e s' hs => hs
  intro fl s' hs
  have done : ∀ (σ' : L2.St) (H' : Hp) (v : V) (u : Value), Inv (cxOf CX P w K mg base N qual (defScope st) f cdv A outer s H E) [] σ' H' s' →
      RelV v u → Q v H' → CE outer P w H s Q u s' := fun σ' H' v u J rv q => ⟨v, H', J.os, J.bare, J.base, J.hok, rv, q⟩
  cases fl with
  | ret u =>
    obtain ⟨v, σ', H', J, rv, q⟩ := hs
    exact done σ' H' v u J rv q
  | next =>
    obtain ⟨σ', H', J, q⟩ := hs
    exact done σ' H' V.non Value.none J rfl q
  | brk => exact hs.elim fun _ h => h.elim fun _ h => False.elim h.2
  | cont => exact hs.elim fun _ h => h.elim fun _ h => False.elim h.2
end
section
variable {P : Program} {w : World} {K : PySem.W.Frag} {mg : Str → Option Value} {base : Heap}
theorem okC0 {x qual : Str} {st : Stmt} {f : Addr} {fd : FuncData} {N ps : List Str} {k : Nat} {sp : Addr → Sp}
    (F : Fun K x qual st f fd) (Sc : FnScope N ps (defScope st)) (len : ∀ S as H Q E, sp S as H Q E → as.length = ps.length)
    (body : ∀ (S : Addr) (cdv : Value) (A : Around) (outer : List Env) (s : Shared) (H : Hp) (as : List V) (Q : VK) (E : XK),
      Gd S (A.deeper (envOfC qual (defScope st) s.heap.objs.size f cdv)) →
      Room k (A.deeper (envOfC qual (defScope st) s.heap.objs.size f cdv)) → sp S as H Q E →
      ∃ t, PSs (cxOf CX0 P w K mg base N qual (defScope st) f cdv A outer s H E).nox (defBody st) t ∧
        t { nx := fun _ H' => Q .non H', rt := Q } (start N as) H) :
    FnC P w K mg base CX0 (k + 1) f fd ps sp :=
  okC F Sc len fun S cdv A outer s H as Q E hA hr h =>
    let ⟨t, h1, h2⟩ := body S cdv A outer s H as Q E hA hr h
    ⟨t, h1.nox, h2⟩
end
theorem ints_all {prog : Program} {w : World} {h₀ : Heap} {d : Nat} : ∀ (us : List Int) (its : List Value), Vals (us.map V.int) its → PyData.showableAll (us.map PyData.int) = true → ReprAllK prog w [] h₀ d its (PyData.shownAll (us.map PyData.int))
  | [], its, rv, _ => by
    cases rv
    simp only [List.map_nil, PyData.shownAll]
    exact .nil
  | u :: us, its, rv, sh => by
    cases rv with
    | cons r1 r =>
      obtain ⟨t, rfl⟩ := r1
      have sh' : (PyData.int u).showable = true ∧ PyData.showableAll (us.map PyData.int) = true := by simpa [PyData.showableAll] using sh
      have hl : u.natAbs.log2 < 1920 := by simpa [PyData.showable] using sh'.1
      simp only [List.map_cons, PyData.shownAll, PyData.shown]
      exact .cons (ReprK.of_is (ReprIs.int t hl) _ _ _) (ints_all us _ r sh'.2)
section
variable {X : Cx}
/-- {x} of a list of ints, in an f-string, under the guard of another list -/
def tFmtC (K : PySem.W.Frag) (S : Addr) (te : TE) : TE := fun σ H Q => te σ H fun x H1 => ∃ (a : Addr) (u : Int) (us : List Int), x = .ref a ∧ a ≠ S ∧ H1 a = some (.lst ((u :: us).map V.int)) ∧ (PyData.list ((u :: us).map PyData.int)).showable = true ∧ (PyData.list ((u :: us).map PyData.int)).shown.length ≤ sizeLine ∧ Q (.str (PyData.list ((u :: us).map PyData.int)).shown) H1
theorem pe_fmtC {S : Addr} {e : Expr} {te : TE} {pos : Pos} (hg : Gd S X.A) (hu : X.A.units + 64 < cLine) (he : PE X e te) : PE X (.FormattedValue e (-1) none pos) (tFmtC X.K S te) := by
  refine ⟨fun pins s σ H Q I h => wpAny_FormattedValue_plain (thn (he.run pins s σ H _ I h) ?_)⟩
  rintro v s1 ⟨x, H1, I1, r1, a, u, us, rfl, na, ha, sh, sz, q⟩
  obtain rfl : v = Value.ref a := r1
  obtain ⟨g, hgg, hcl⟩ := hg
  obtain ⟨zl, its, n, rv, ll, hget⟩ := I1.lstM ha
  have shA : PyData.showableAll ((u :: us).map PyData.int) = true := by simpa [PyData.showable] using sh
  have all := ints_all (prog := X.prog) (w := X.w) (h₀ := s1.heap) (d := 0) (u :: us) its rv shA
  have hs : (PyData.list ((u :: us).map PyData.int)).shown = listText (PyData.shownAll ((u :: us).map PyData.int)) := by simp only [PyData.shown]
  rw [hs] at sz q
  cases its with
  | nil => cases rv
  | cons y l =>
    refine wpAny_formatField_slot (fun _ _ => nofun) (by omega) ⟨_, hget, rfl⟩ F.slot_list_format F.slot_list_str F.slot_list_repr.toG ?_
    refine call_list_reprK (as := []) (h₀ := s1.heap) (d := 0) hget rfl rfl (by simp) (by simpa using all.length_eq) (fun i z e => all.item i z (by simpa using e)) (A := X.A.in1.in1) (g := g) hgg (fun b hb => ?_) (by show X.A.units + 1 + 1 + (0 + 1) < cLine; omega) (fun _ _ e => e) (fun h' w tk k => ⟨_, _, rfl, .str _, H1, I1.kept (t' := tk) k, ⟨_, rfl⟩, q⟩) sz
    rw [List.mem_singleton.mp hb]
    exact hcl a na

theorem ifBoundBy_K {M : Model} {K : PySem.W.Frag} {A : Around} {E : Value → Shared → Prop} {s : Shared} {x C f : Addr} {od : Option Obj} {ox : Obj} {name : Str} {last : Value → List Value → Sem Value} {Q : Option Value → Shared → Prop} (X : K.In s.heap) (I : PySem.W.InstAt s.heap x ox C od) (hs : PySem.W.findIn K (.ref C) name = some (some (.ref f))) (hf : PySem.W.isFn K (.ref f) = true)
    (h : wpAny M A (last (.ref f) [.ref x]) (fun v => Q (some v)) E s) : wpAny M A (callSpecialIfBoundBy? last (.ref x) name) Q E s := by
  simp only [callSpecialIfBoundBy?, bindSpecialIfBound?]
  refine wpAny_holding (wpAny_bind (wpAny_bind (wpAny_bind (I.type.here ((PySem.W.looks_findIn X hs).here ?_)))))
  refine wpAny_bind (wpAny_askSetting (wpAny_ite ?_))
  have fin : wpAny M A (last (.ref f) [.ref x] >>= fun v => pure (some v)) Q E s := wpAny_bind (wpAny_mono h (fun v s' h' => wpAny_pure h') fun _ _ h' => h')
  split
  · exact wpAny_bind ((PySem.W.bind_fn X _ (beq_iff_eq.mp hf)).here (wpAny_pure (by exact fin)))
  · exact wpAny_tryCatch (wpAny_bind ((PySem.W.bind_fn X _ (beq_iff_eq.mp hf)).here (wpAny_pure (by exact fin))))
variable {CX : CXT} {k : Nat} {f C : Addr} {fd : FuncData} {ps : List Str} {sp : Addr → Sp} {E : XK}
theorem own_under (F : FnC X.prog X.w X.K X.mg X.base CX k f fd ps sp) (o : Meth X.K C "__repr__" f) (hb : Binds X.K fd ps []) (hx : Passes CX X E)
    {S : Addr} {A' : Around} (fr : A'.frames = X.A.frames) (gd : Gd S A') (hr : Room k A') {pins : List (Addr × Obj)} {σ : L2.St} {H : Hp} {s : Shared} (I : Inv X pins σ H s) {a dx : Addr} {fs : List (Str × V)} (ea : H a = some (.ins C dx fs)) {R : Str → Hp → Prop}
    (h : sp S [.ref a] H (fun v H' => ∃ t, v = .str t ∧ R t H') E) {b : Nat} (hb2 : b ≤ sizeLine) :
    wpAny (model X.prog X.w) A' (pyReprUnder b (.ref a)) (fun t s' => ∃ H', Inv X pins σ H' s' ∧ R t H') X.xe s := by
  refine wpAny_pyReprUnder_ref hb2 ?_
  unfold pyReprObjUnder pyReprObjBy
  refine wpAny_bind (wpAny_cRoomFor hr.units0 ?_)
  obtain ⟨mA, J, _⟩ := ins_get I.hok ea
  obtain ⟨od, J, _⟩ := J.look
  have KX := I.kIn
  refine wpAny_bind (wpAny_bind (J.type.here ((PySem.W.looks_findIn KX o.at_).here ?_)))
  show wpAny _ _ (if (some (Value.ref f)).isNone = true then _ else _) _ _ _
  rw [if_neg (by simp)]
  refine wpAny_bind (ifBoundBy_K KX J o.at_ o.fn ?_)
  have len := F.arity _ _ _ _ _ h
  have bind := hb s [.ref a] I.kIn (by simpa using len)
  rw [List.append_nil] at bind
  have e0 := I.env0
  refine wpAny_call (codeAny_mono (F.go S A' X.stack s H ⟨[.ref a], []⟩ [.ref a] [.ref a] _ E gd hr ⟨fr.trans e0.frames, e0.mod, e0.bs, e0.bsz, e0.funs, e0.frf, e0.hok, e0.bare⟩ bind (.cons rfl .nil) h) ?_)
  intro res s' hq
  match res, hq with
  | .error e, hq => exact hx pins σ H s e s' I hq
  | .ok .next, hq => exact False.elim hq
  | .ok .brk, hq => exact False.elim hq
  | .ok .cont, hq => exact False.elim hq
  | .ok (.ret w), hq =>
    obtain ⟨z, H', J', rz, t, rfl, q⟩ := I.after hq
    obtain ⟨u, rfl⟩ := rz
    exact wpAny_bind (wpAny_isInstance (typeIs_str _ _ _) isSubtype_str_str (wpAny_pure ⟨t, u, rfl, H', J', q⟩))

theorem vals_ref_eq : ∀ {xs : List Addr} {its : List Value}, Vals (xs.map V.ref) its → its = xs.map Value.ref
  | [], its, r => by cases r; rfl
  | x :: xs, its, r => by
    cases r with
    | cons r1 r => cases r1; rw [vals_ref_eq r]; rfl
theorem vals_str_eq : ∀ {ts : List Str} {its : List Value}, Vals (ts.map V.str) its → ∃ done : List (Str × Tok), its = strValues done ∧ done.map (·.1) = ts
  | [], its, r => by cases r; exact ⟨[], rfl, rfl⟩
  | t :: ts, its, r => by
    cases r with
    | cons r1 r =>
      obtain ⟨u, rfl⟩ := r1
      obtain ⟨done, e, m⟩ := vals_str_eq r
      exact ⟨(t, u) :: done, by rw [e]; rfl, by rw [List.map_cons, m]⟩
theorem loop_depth {A : Around} {args : Args} : (A.under (.builtin "list.__repr__.loop" args)).depth = A.depth + 1 := by
  first | rfl | simp [Around.under, Code.weight, Code.isCreation, Code.isGuard, Code.isCaller, Code.frames, Code.isFrame, guardIds]
/-- what is shown of x -/
def Shows (C : Addr) (sp : Addr → Sp) (E : XK) (a : Addr) (H0 : Hp) (x : Addr) (t : Str) : Prop :=
  ∃ dx fs, H0 x = some (.ins C dx fs) ∧ ∀ H' : Hp, (∀ b o, H0 b = some o → H' b = some o) → sp a [.ref x] H' (fun v H'' => ∃ u, v = .str u ∧ (u = t ∧ H'' = H')) E
theorem loop_own (F : FnC X.prog X.w X.K X.mg X.base CX k f fd ps sp) (o : Meth X.K C "__repr__" f) (hb : Binds X.K fd ps []) (hx : Passes CX X E)
    {A0 : Around} (fr : A0.frames = X.A.frames) (hg : A0.guards = some []) (hr : Room (k + 1) A0) {pins : List (Addr × Obj)} {σ : L2.St} {a P : Addr} {R : Result → Shared → Prop} (hE : ∀ e s', X.xe e s' → R (.error e) s')
    {H0 : Hp} {xs : List Addr} {ts : List Str} (len : ts.length = xs.length) (all : ∀ (i : Nat) (x : Addr) (t : Str), xs[i]? = some x → ts[i]? = some t → Shows C sp E a H0 x t)
    (ha0 : H0 a = some (.lst (xs.map V.ref))) (nP : H0 P = none) (hsz : (listText ts).length ≤ sizeLine)
    (hR : ∀ s' H' u, Inv X pins σ H' s' → (∀ b o, H0 b = some o → H' b = some o) → R (.ok (.ret (.str (listText ts) u))) s') :
    ∀ (n i : Nat) (H : Hp) (s : Shared), xs.length - i = n → i ≤ xs.length → Inv X pins σ H s → (∀ b o, H0 b = some o → H b = some o) → H P = some (.lst ((ts.take i).map V.str)) →
      codeAny (model X.prog X.w) A0 (.builtin "list.__repr__.loop" ⟨[.ref a, rawInt i, .ref P, rawInt ((piled (ts.take i) : Nat) : Int)], []⟩) R s := by
  have hp3 := piled_le_listText ts
  have hL := textFrom_len ts 0 "["
  have hX : (listText ts).length = (textFrom 0 "[" ts).length + 1 := by
    show (textFrom 0 "[" ts ++ "]").length = _
    rw [strLen_append]; rfl
  have hsz2 : ∀ t ∈ ts, t.length ≤ sizeLine := fun t ht => by
    have h2 := hL.2.1 t ht
    omega
  intro n
  induction n with
  | zero =>
    intro i H s hn hi I k0 hP
    have hin : i = xs.length := by omega
    obtain ⟨_, its, na, rv, ll, hget⟩ := I.lstM (k0 _ _ ha0)
    obtain rfl := vals_ref_eq rv
    obtain ⟨_, its2, nb, rv2, ll2, hget2⟩ := I.lstM hP
    obtain ⟨done, rfl, hdone⟩ := vals_str_eq rv2
    refine codeAny_builtin PySem.F.entry_list_repr_loop ?_
    show wpAny _ _ (Builtin.«list.__repr__.loop» ⟨[.ref a, .int i 0, .ref P, .int ((piled (ts.take i) : Nat) : Int) 0], []⟩) _ _ s
    rw [repr_loop_tree]
    refine wpAny_bind (wpAny_listItems hget rfl ?_)
    have hnone : (xs.map Value.ref).toArray[(i : Int).toNat]? = none := by simp [hin]
    simp only [hnone]
    unfold reprEnd
    refine wpAny_bind (wpAny_listItems hget2 rfl ?_)
    have et : (strValues done).toArray.toList = strValues done := by simp
    rw [et, repr_fold]
    refine wpAny_bind (wpAny_pure ?_)
    have hall : done.map (·.1) = ts := by rw [hdone, hin, ← len, List.take_length]
    rw [hall]
    refine wpAny_bind (wpAny_mkStr (wpAny_pure ?_) hsz)
    exact hR _ H _ (I.tok _) k0
  | succ n ih =>
    intro i H s hn hi I k0 hP
    have hlt : i < xs.length := by omega
    obtain ⟨_, its, na, rv, ll, hget⟩ := I.lstM (k0 _ _ ha0)
    obtain rfl := vals_ref_eq rv
    have ex : xs[i]? = some xs[i] := List.getElem?_eq_getElem hlt
    have et : ts[i]? = some ts[i] := List.getElem?_eq_getElem (by omega)
    obtain ⟨dx, fs, hx0, hsp⟩ := all i _ _ ex et
    generalize xs[i] = x at *
    generalize ts[i] = t at *
    have hp1 := piled_take_succ et
    have hp2 := piled_take_le ts (i + 1)
    refine codeAny_builtin PySem.F.entry_list_repr_loop ?_
    show wpAny _ _ (Builtin.«list.__repr__.loop» ⟨[.ref a, .int i 0, .ref P, .int ((piled (ts.take i) : Nat) : Int) 0], []⟩) _ _ s
    rw [repr_loop_tree]
    refine wpAny_bind (wpAny_listItems hget rfl ?_)
    have hsome : (xs.map Value.ref).toArray[(i : Int).toNat]? = some (.ref x) := by simp [ex]
    simp only [hsome]
    rw [Int.toNat_natCast]
    refine wpAny_bind (wpAny_holding (wpAny_mono (own_under F o hb hx (S := a) ?_ ?_ ?_ I (k0 _ _ hx0) (hsp H k0) (b := piled (ts.take i) + 1) (by omega)) ?_ fun e s' h => hE e s' h))
    · first | exact fr | (simpa [Around.under, Code.envs, Code.isFrame, pushEnvs] using fr)
    · exact ⟨_, guards_under_guard (isGuard_list_loop _) hg, fun b nb => (Clear.nil b).cons (Ne.symm nb)⟩
    · refine ⟨hr.hd, ?_, ?_⟩
      · have := hr.dp
        rw [loop_depth]
        omega
      · have := hr.un
        rw [units_under_list_loop]
        omega
    rintro t2 s2 ⟨H2, I2, rfl, rfl⟩
    refine wpAny_bind (wpAny_mkStr ?_ (hsz2 t2 (List.mem_of_getElem? et)))
    refine wpAny_bind ?_
    show wpAny _ _ (updateSeq P _) _ _ _
    obtain ⟨zP, its2, nb, rv2, ll2, hget2⟩ := I2.lstM hP
    have lz : ts.length ≤ sizeLine := by
      have h1 := hL.1
      rw [if_neg (Nat.lt_irrefl 0)] at h1
      omega
    refine wpAny_updateSeq hget2 rfl (wpAny_pure ⟨PySem.F.quiet_list_repr_loop _, ?_⟩) (by rw [List.size_toArray, ← ll2, List.length_map, List.length_take]; omega)
    have e1 : ((i : Int) + 1) = ((i + 1 : Nat) : Int) := by omega
    have e2 : piled (ts.take i) + (t2.length + 2) = piled (ts.take (i + 1)) := by omega
    have et2 : (ts.take (i + 1)).map V.str = (ts.take i).map V.str ++ [V.str t2] := by rw [List.take_add_one, et, List.map_append]; rfl
    have J := (I2.tok (s2.toks + 1)).lset (t' := s2.toks + 1) (its' := its2 ++ [.str t2 s2.toks]) (f := fun r => r.push (.str t2 s2.toks)) hP hget2 (by simp) (ys := (ts.take (i + 1)).map V.str) (by rw [et2]; exact rv2.append (.cons ⟨_, rfl⟩ .nil)) (by rw [List.length_map, List.length_take]; omega)
    rw [e1, e2]
    refine ih (i + 1) _ _ (by omega) hlt J (fun b o e => ?_) upd_same
    rw [upd_ne (fun z => by rw [z, nP] at e; cases e)]
    exact k0 b o e

/-- repr of a list of own objects -/
def rReprLO (C : Addr) (sp : Addr → Sp) (E : XK) : List V → Hp → VK → Prop := fun vs H Q => ∃ (a : Addr) (xs : List Addr) (ts : List Str), vs = [.ref a] ∧ H a = some (.lst (xs.map V.ref)) ∧ xs ≠ [] ∧ ts.length = xs.length ∧
  (∀ (i : Nat) (x : Addr) (t : Str), xs[i]? = some x → ts[i]? = some t → Shows C sp E a H x t) ∧ (listText ts).length ≤ sizeLine ∧ ∀ H' : Hp, (∀ b o, H b = some o → H' b = some o) → Q (.str (listText ts)) H'
theorem call_reprLO (F : FnC X.prog X.w X.K X.mg X.base CX k f fd ps sp) (hA : X.A.guards = some []) (hr : Room (k + 3) X.A) (o : Meth X.K C "__repr__" f) (hb : Binds X.K fd ps []) (hx : Passes CX X E) :
    CallR X (.builtin "repr") (rReprLO C sp E) := by
  intro pins s σ H vs us Q I r h
  obtain ⟨a, xs, ts, rfl, ha, ne, len, all, hsz, q⟩ := h
  obtain ⟨u, rfl, ru⟩ := vals1 r
  obtain rfl : u = Value.ref a := ru
  obtain ⟨_, its, na, rv, ll, hget⟩ := I.lstM ha
  obtain rfl := vals_ref_eq rv
  cases xs with
  | nil => exact absurd rfl ne
  | cons x xs =>
    have hT : s.TypeIs (.ref a) "list" := ⟨_, hget, rfl⟩
    have un := hr.un
    refine call_repr_slot (by omega) hT PySem.F.slot_list_repr.toG ?_
    refine wpAny_call (codeAny_call_builtin PySem.F.slot_list_repr.plain PySem.F.entry_list_repr (PySem.F.slot_list_repr.check _ _ _ _ _ _ _ _ hT (PySem.F.args_list_repr_1 _) ?_))
    refine wpAny_list_repr_head (A := X.A.in1.in1) (g := []) hA (fun v rest kw hm => nomatch hm) hget rfl ?_
    refine wpAny_bind (m := newList []) (wpAny_newObj_type ?_)
    refine wpAny_pure ⟨PySem.F.quiet_list_repr_loop _, ?_⟩
    have J := I.lnew (t' := s.toks) (its := []) (ys := []) .nil (by show 0 ≤ sizeLine; decide)
    have hr1 : Room (k + 1) X.A.in1 := (hr.mono (show k + 2 ≤ k + 3 by omega)).in1
    refine loop_own (k := k) F o hb hx (A0 := X.A.in1) rfl hA hr1 (fun e s' h => h) len all ha (I.fresh) hsz (fun s' H' u J' k' => ⟨_, _, rfl, .str _, H', J', ⟨_, rfl⟩, q H' k'⟩) _ 0 _ _ rfl (Nat.zero_le _) J (fun b o e => ?_) ?_
    · rw [upd_ne (fun z => by rw [z, I.fresh] at e; cases e)]; exact e
    · exact upd_same
end
end VL

/-! What repr writes tells the ints that are written: lists of ints and ints in a row. -/
namespace IJ
open PySem PySem.Spec PyProof.Rows L2
def dig (i : Int) : List Nat := ((toString i : String) : Str).cps.toList
def D (c : Nat) : Prop := c = 45 ∨ (48 ≤ c ∧ c ≤ 57)
theorem dig_D {i : Int} : ∀ c ∈ dig i, D c := fun c hc => by
  by_cases h : c ≠ 45 ∧ (c < 48 ∨ 57 < c)
  · exact absurd hc (int_text_free' c h i)
  · unfold D; omega
theorem dig_nat (m : Nat) : dig (m : Int) = (Nat.toDigits 10 m).map Char.toNat := PySem.W.KIN.signs_num m
theorem nat_inj {m n : Nat} (h : (Nat.toDigits 10 m).map Char.toNat = (Nat.toDigits 10 n).map Char.toNat) : m = n := by
  have a := PySem.W.KIN.val_back m
  have b := PySem.W.KIN.val_back n
  rw [h] at a
  exact a.symm.trans b
theorem dig_neg (m : Nat) : dig (Int.negSucc m) = 45 :: (Nat.toDigits 10 (m + 1)).map Char.toNat := by
  unfold dig
  show (Str.ofString _).cps.toList = _
  rw [signs_ofString]
  show (String.append "-" (Nat.repr (m + 1))).toList.map Char.toNat = _
  rw [show String.append "-" (Nat.repr (m + 1)) = "-" ++ Nat.repr (m + 1) from rfl, String.toList_append, List.map_append, Nat.toList_repr]
  rfl
theorem digs_ne (m : Nat) : (Nat.toDigits 10 m).map Char.toNat ≠ [] := fun h => by
  have e := congrArg List.length h
  rw [List.length_map] at e
  have := Nat.length_toDigits_pos (b := 10) (n := m)
  rw [List.length_nil] at e
  omega
theorem digs_48 (m : Nat) : ∀ c ∈ (Nat.toDigits 10 m).map Char.toNat, c ≠ 45 := fun c hc => by
  obtain ⟨ch, hch, e⟩ := List.mem_map.mp hc
  have r := digit_range (Nat.isDigit_of_mem_toDigits (by decide) (by decide) hch)
  omega
theorem dig_ne (i : Int) : dig i ≠ [] := by
  cases i with
  | ofNat m => have := digs_ne m; rwa [← dig_nat] at this
  | negSucc m => rw [dig_neg]; exact fun h => nomatch h
theorem dig_inj {a b : Int} (h : dig a = dig b) : a = b := by
  cases a with
  | ofNat m =>
    cases b with
    | ofNat n =>
      have h : dig (m : Int) = dig (n : Int) := h
      rw [dig_nat, dig_nat] at h
      rw [nat_inj h]
    | negSucc n =>
      have h : dig (m : Int) = dig (Int.negSucc n) := h
      rw [dig_nat, dig_neg] at h
      exact absurd rfl (digs_48 m 45 (h ▸ List.mem_cons_self ..))
  | negSucc m =>
    cases b with
    | ofNat n =>
      have h : dig (Int.negSucc m) = dig (n : Int) := h
      rw [dig_nat, dig_neg] at h
      exact absurd rfl (digs_48 n 45 (h ▸ List.mem_cons_self ..))
    | negSucc n =>
      rw [dig_neg, dig_neg] at h
      injection h with _ h
      have := nat_inj h
      rw [show m = n by omega]
theorem cut : ∀ {a b : List Nat} {c d : Nat} {x y : List Nat}, (∀ z ∈ a, D z) → (∀ z ∈ b, D z) → ¬ D c → ¬ D d → a ++ c :: x = b ++ d :: y → a = b ∧ c = d ∧ x = y
  | [], [], c, d, x, y, _, _, _, _, e => by injection e with e1 e2; exact ⟨rfl, e1, e2⟩
  | [], w :: b, c, d, x, y, _, hb, hc, _, e => by
    injection e with e1 e2
    exact absurd (e1 ▸ hb w (List.mem_cons_self ..)) hc
  | w :: a, [], c, d, x, y, ha, _, _, hd, e => by
    injection e with e1 e2
    exact absurd (e1 ▸ ha w (List.mem_cons_self ..)) hd
  | w :: a, v :: b, c, d, x, y, ha, hb, hc, hd, e => by
    injection e with e1 e2
    obtain ⟨q1, q2, q3⟩ := cut (fun z hz => ha z (List.mem_cons_of_mem _ hz)) (fun z hz => hb z (List.mem_cons_of_mem _ hz)) hc hd e2
    exact ⟨by rw [e1, q1], q2, q3⟩
theorem cut_int {a b : Int} {c d : Nat} {x y : List Nat} (hc : ¬ D c) (hd : ¬ D d) (e : dig a ++ c :: x = dig b ++ d :: y) : a = b ∧ c = d ∧ x = y := by
  obtain ⟨h1, h2, h3⟩ := cut dig_D dig_D hc hd e
  exact ⟨dig_inj h1, h2, h3⟩
/-- the signs behind "[" of a list of ints, "]" too -/
def ilF : List Int → List Nat
  | [] => [93]
  | [a] => dig a ++ [93]
  | a :: b :: l => dig a ++ 44 :: 32 :: ilF (b :: l)
theorem n93 : ¬ D 93 := by unfold D; omega
theorem n44 : ¬ D 44 := by unfold D; omega
theorem n41 : ¬ D 41 := by unfold D; omega
theorem ilF_cut : ∀ {xs ys : List Int} {u v : List Nat}, ilF xs ++ u = ilF ys ++ v → xs = ys ∧ u = v
  | [], [], u, v, e => by injection e with _ e; exact ⟨rfl, e⟩
  | [], [b], u, v, e => by
    simp only [ilF, List.append_assoc, List.cons_append, List.nil_append] at e
    have := cut (a := []) (b := dig b) (fun z h => nomatch h) dig_D n93 n93 e
    exact absurd this.1.symm (dig_ne b)
  | [], b :: c :: l, u, v, e => by
    simp only [ilF, List.append_assoc, List.cons_append, List.nil_append] at e
    have := cut (a := []) (b := dig b) (fun z h => nomatch h) dig_D n93 n44 e
    exact absurd this.1.symm (dig_ne b)
  | [a], [], u, v, e => by
    simp only [ilF, List.append_assoc, List.cons_append, List.nil_append] at e
    have := cut (a := dig a) (b := []) dig_D (fun z h => nomatch h) n93 n93 e
    exact absurd this.1 (dig_ne a)
  | [a], [b], u, v, e => by
    simp only [ilF, List.append_assoc, List.cons_append, List.nil_append] at e
    obtain ⟨h1, _, h3⟩ := cut_int n93 n93 e
    exact ⟨by rw [h1], h3⟩
  | [a], b :: c :: l, u, v, e => by
    simp only [ilF, List.append_assoc, List.cons_append, List.nil_append] at e
    have := cut_int n93 n44 e
    omega
  | a :: c :: l, [], u, v, e => by
    simp only [ilF, List.append_assoc, List.cons_append, List.nil_append] at e
    have := cut (a := dig a) (b := []) dig_D (fun z h => nomatch h) n44 n93 e
    exact absurd this.1 (dig_ne a)
  | a :: c :: l, [b], u, v, e => by
    simp only [ilF, List.append_assoc, List.cons_append, List.nil_append] at e
    have := cut_int n44 n93 e
    omega
  | a :: c :: l, b :: d :: m, u, v, e => by
    simp only [ilF, List.append_assoc, List.cons_append, List.nil_append] at e
    obtain ⟨h1, _, h3⟩ := cut_int n44 n44 e
    injection h3 with _ h3
    obtain ⟨h4, h5⟩ := ilF_cut h3
    exact ⟨by rw [h1, h4], h5⟩
/-- the texts of a list, behind the first sign -/
def tlF : List Str → List Nat
  | [] => []
  | t :: ts => 44 :: 32 :: (t.cps.toList ++ tlF ts)
theorem sep_codes : ((", " : String) : Str).cps.toList = [44, 32] := by rw [signs_ofString]; rfl
theorem from_codes : ∀ (ts : List Str) (k : Nat) (acc : Str), 0 < k → (textFrom k acc ts).cps.toList = acc.cps.toList ++ tlF ts
  | [], k, acc, _ => by simp [textFrom, tlF]
  | t :: ts, k, acc, hk => by
    unfold textFrom
    rw [from_codes ts (k + 1) _ (Nat.succ_pos _), cps_toList_append, cps_toList_append, if_pos hk, sep_codes]
    simp [tlF]
theorem list_codes (t : Str) (ts : List Str) : (listText (t :: ts)).cps.toList = 91 :: (t.cps.toList ++ (tlF ts ++ [93])) := by
  unfold listText textFrom
  rw [cps_toList_append, from_codes ts 1 _ (by decide), cps_toList_append, cps_toList_append]
  have e1 : (("[" : String) : Str).cps.toList = [91] := by rw [signs_ofString]; rfl
  have e2 : (("]" : String) : Str).cps.toList = [93] := by rw [signs_ofString]; rfl
  have e3 : ((if 0 > 0 then ", " else "" : String) : Str).cps.toList = [] := by rw [signs_ofString]; rfl
  rw [e1, e2, e3]
  simp
theorem shownAll_ints (us : List Int) : PyData.shownAll (us.map PyData.int) = us.map fun i => (toString i : Str) := by
  induction us with
  | nil => rfl
  | cons u us ih => simp only [List.map_cons, PyData.shownAll, ih, PyData.shown]
theorem tlF_ints : ∀ (a : Int) (us : List Int), dig a ++ (tlF (us.map fun i => (toString i : Str)) ++ [93]) = ilF (a :: us)
  | a, [] => by simp [tlF, ilF]
  | a, b :: us => by
    have ih := tlF_ints b us
    simp only [List.map_cons, tlF, ilF, List.cons_append, List.append_assoc]
    rw [← ih]
    rfl
theorem ints_codes (us : List Int) : (PyData.shown (.list (us.map PyData.int))).cps.toList = 91 :: ilF us := by
  simp only [PyData.shown]
  rw [shownAll_ints]
  cases us with
  | nil => 
    show (listText []).cps.toList = _
    unfold listText textFrom
    rw [cps_toList_append]
    have e1 : (("[" : String) : Str).cps.toList = [91] := by rw [signs_ofString]; rfl
    have e2 : (("]" : String) : Str).cps.toList = [93] := by rw [signs_ofString]; rfl
    rw [e1, e2]
    rfl
  | cons a us =>
    rw [List.map_cons, list_codes]
    exact congrArg _ (tlF_ints a us)
theorem ints_inj {xs ys : List Int} (h : PyData.shown (.list (xs.map PyData.int)) = PyData.shown (.list (ys.map PyData.int))) : xs = ys := by
  have e := congrArg (fun x : Str => x.cps.toList) h
  simp only [ints_codes] at e
  injection e with _ e
  exact (ilF_cut (u := []) (v := []) (by rw [List.append_nil, List.append_nil]; exact e)).1
theorem sh_list (l : List PyData) : PyData.shown (.list l) = listText (PyData.shownAll l) := by simp only [PyData.shown]
/-- a list of ints, two ints, and more: what is written tells them -/
theorem form_inj {xs ys : List Int} {p q g e : Int} {a b : PyData} {ds es : List PyData}
    (h : PyData.shown (.list (.list (xs.map PyData.int) :: .int p :: .int g :: a :: ds)) = PyData.shown (.list (.list (ys.map PyData.int) :: .int q :: .int e :: b :: es))) : xs = ys ∧ p = q ∧ g = e := by
  have h := congrArg (fun x : Str => x.cps.toList) h
  rw [sh_list, sh_list] at h
  simp only [PyData.shownAll] at h
  rw [list_codes, list_codes] at h
  injection h with _ h
  rw [ints_codes, ints_codes] at h
  simp only [List.cons_append, tlF, PyData.shown] at h
  injection h with _ h
  obtain ⟨h1, h⟩ := ilF_cut h
  injection h with _ h
  injection h with _ h
  rw [List.append_assoc, List.append_assoc] at h
  obtain ⟨h2, _, h⟩ := cut_int (a := p) (b := q) n44 n44 h
  injection h with _ h
  rw [show ∀ l m : List Nat, l.append m = l ++ m from fun _ _ => rfl, show ∀ l m : List Nat, l.append m = l ++ m from fun _ _ => rfl, List.append_assoc, List.append_assoc] at h
  obtain ⟨h3, _, h⟩ := cut_int (a := g) (b := e) n44 n44 h
  exact ⟨h1, h2, h3⟩
end IJ

/-! Rows as they are drawn, rows near them, and what 900 values tell. -/
namespace VM
theorem getD_left {xs : List Int} {v : Int} {i : Nat} (h : i < xs.length) : (xs ++ [v]).getD i 0 = xs.getD i 0 := by
  rw [List.getD_eq_getElem?_getD, List.getD_eq_getElem?_getD, List.getElem?_append_left h]
theorem getD_end {xs : List Int} {v : Int} {i : Nat} (h : i = xs.length) : (xs ++ [v]).getD i 0 = v := by
  subst h
  rw [List.getD_eq_getElem?_getD, List.getElem?_append_right (Nat.le_refl _), Nat.sub_self]
  rfl
/-- values in steps of at most four -/
structure Wr (xs : List Int) : Prop where
  lo : ∀ i, i < xs.length → 0 ≤ xs.getD i 0
  hi : ∀ i, i < xs.length → xs.getD i 0 ≤ 4 * ((i : Int) + 1)
  up : ∀ i, i + 1 < xs.length → xs.getD i 0 ≤ xs.getD (i + 1) 0 ∧ xs.getD (i + 1) 0 ≤ xs.getD i 0 + 4
theorem Wr.nil : Wr [] := ⟨fun i h => absurd h (by simp), fun i h => absurd h (by simp), fun i h => absurd h (by simp)⟩
theorem Wr.push {xs : List Int} {d : Int} (h : Wr xs) (d0 : 0 ≤ d) (d1 : d ≤ 4) : Wr (xs ++ [((0 : Int) :: xs).getD xs.length 0 + d]) := by
  have last : 0 ≤ ((0 : Int) :: xs).getD xs.length 0 ∧ ((0 : Int) :: xs).getD xs.length 0 ≤ 4 * (xs.length : Int) ∧ (∀ i, i + 1 = xs.length → ((0 : Int) :: xs).getD xs.length 0 = xs.getD i 0) := by
    cases e : xs.length with
    | zero => exact ⟨Int.le_refl _, Int.le_refl _, fun i hi => by omega⟩
    | succ n =>
      have a := h.lo n (by omega)
      have b := h.hi n (by omega)
      refine ⟨a, ?_, fun i hi => ?_⟩
      · show xs.getD n 0 ≤ _
        omega
      · rw [show i = n by omega]; rfl
  generalize ((0 : Int) :: xs).getD xs.length 0 = z at *
  refine ⟨fun i hi => ?_, fun i hi => ?_, fun i hi => ?_⟩ <;> rw [List.length_append, List.length_singleton] at hi
  · by_cases c : i < xs.length
    · rw [getD_left c]; exact h.lo i c
    · rw [getD_end (by omega)]; omega
  · by_cases c : i < xs.length
    · rw [getD_left c]; exact h.hi i c
    · rw [getD_end (by omega)]; omega
  · rw [getD_left (by omega)]
    by_cases c : i + 1 < xs.length
    · rw [getD_left c]; exact h.up i c
    · rw [getD_end (by omega)]
      have := last.2.2 i (by omega)
      omega
/-- a row as it is drawn -/
structure Dr (xs : List Int) (p g : Int) : Prop where
  w : Wr xs
  n1 : 1 ≤ xs.length
  n2 : xs.length ≤ 7
  per : p = 1 ∨ p = 2 ∨ p = 3 ∨ p = 4 ∨ p = 6
  pn : p ≤ xs.length
  g0 : xs.getD (xs.length - 1) 0 - xs.getD (xs.length - p.toNat) 0 ≤ g
  g1 : g ≤ xs.getD (xs.length - 1) 0 - xs.getD (xs.length - p.toNat) 0 + 2
theorem at_far {xs : List Int} {p g t : Int} {k i : Nat} (p0 : 0 < p) (pn : p ≤ xs.length) (h : (xs.length : Int) + k * p < t + p) (e : t = (i : Int) + 1 + k * p) (hi : i < xs.length) :
    cvAt xs p g t = xs.getD i 0 + k * g := by
  rw [(Rep.cvAt p0 pn).times p0 k t h, show t - (k : Int) * p = (i : Int) + 1 by omega, cvAt_in (by omega) (by omega), show ((i : Int) + 1 - 1).toNat = i by omega]
/-- the places that 900 and 899 take in a row, what stands there -/
structure Far (xs : List Int) (p g : Int) where
  q : Nat
  k : Nat
  i : Nat
  m : Nat
  k' : Nat
  i' : Nat
  m' : Nat
  qp : (q : Int) * p = 12
  km : k + m = 75 * q
  km' : k' + m' = 75 * q
  h : (xs.length : Int) + k * p < 900 + p
  e : (900 : Int) = (i : Int) + 1 + k * p
  hi : i < xs.length
  h' : (xs.length : Int) + k' * p < 899 + p
  e' : (899 : Int) = (i' : Int) + 1 + k' * p
  hi' : i' < xs.length
  first : p < xs.length → 1 ≤ i
  lo : -21 + (m : Int) ≤ xs.getD i 0 - m * g
  up : xs.getD i 0 - m * g ≤ 28
  lo' : -21 ≤ xs.getD i' 0 - m' * g
  few : (m : Int) ≤ 7
  few2 : p ≠ 1 → (m : Int) ≤ 3
theorem Dr.far {xs : List Int} {p g : Int} (D : Dr xs p g) : Nonempty (Far xs p g) := by
  obtain ⟨w, n1, n2, per, pn, g0, g1⟩ := D
  have l0 := w.lo 0; have u0 := w.hi 0
  have s0 := w.up 0; have s1 := w.up 1; have s2 := w.up 2; have s3 := w.up 3; have s4 := w.up 4; have s5 := w.up 5
  simp only [Nat.reduceAdd] at s0 s1 s2 s3 s4 s5
  have hn : xs.length = 1 ∨ xs.length = 2 ∨ xs.length = 3 ∨ xs.length = 4 ∨ xs.length = 5 ∨ xs.length = 6 ∨ xs.length = 7 := by omega
  clear w
  rcases per with rfl | rfl | rfl | rfl | rfl
  · rcases hn with n | n | n | n | n | n | n <;> rw [n] at g0 g1 s0 s1 s2 s3 s4 s5 l0 u0 pn <;> simp only [Nat.reduceSub, Nat.reduceLT, Nat.reduceAdd, true_implies, false_implies, Int.reduceToNat, Int.toNat_one] at g0 g1 s0 s1 s2 s3 s4 s5 l0 u0
    · exact ⟨⟨12, 899, 0, 1, 898, 0, 2, by omega, by omega, by omega, by omega, by omega, by omega, by omega, by omega, by omega, by omega, by omega, by omega, by omega, by omega, by omega⟩⟩
    · exact ⟨⟨12, 898, 1, 2, 897, 1, 3, by omega, by omega, by omega, by omega, by omega, by omega, by omega, by omega, by omega, by omega, by omega, by omega, by omega, by omega, by omega⟩⟩
    · exact ⟨⟨12, 897, 2, 3, 896, 2, 4, by omega, by omega, by omega, by omega, by omega, by omega, by omega, by omega, by omega, by omega, by omega, by omega, by omega, by omega, by omega⟩⟩
    · exact ⟨⟨12, 896, 3, 4, 895, 3, 5, by omega, by omega, by omega, by omega, by omega, by omega, by omega, by omega, by omega, by omega, by omega, by omega, by omega, by omega, by omega⟩⟩
    · exact ⟨⟨12, 895, 4, 5, 894, 4, 6, by omega, by omega, by omega, by omega, by omega, by omega, by omega, by omega, by omega, by omega, by omega, by omega, by omega, by omega, by omega⟩⟩
    · exact ⟨⟨12, 894, 5, 6, 893, 5, 7, by omega, by omega, by omega, by omega, by omega, by omega, by omega, by omega, by omega, by omega, by omega, by omega, by omega, by omega, by omega⟩⟩
    · exact ⟨⟨12, 893, 6, 7, 892, 6, 8, by omega, by omega, by omega, by omega, by omega, by omega, by omega, by omega, by omega, by omega, by omega, by omega, by omega, by omega, by omega⟩⟩
  · rcases hn with n | n | n | n | n | n | n <;> rw [n] at g0 g1 s0 s1 s2 s3 s4 s5 l0 u0 pn <;> simp only [Nat.reduceSub, Nat.reduceLT, Nat.reduceAdd, true_implies, false_implies, Int.reduceToNat, Int.toNat_one] at g0 g1 s0 s1 s2 s3 s4 s5 l0 u0
    · exact absurd pn (by decide)
    · exact ⟨⟨6, 449, 1, 1, 449, 0, 1, by omega, by omega, by omega, by omega, by omega, by omega, by omega, by omega, by omega, by omega, by omega, by omega, by omega, by omega, by omega⟩⟩
    · exact ⟨⟨6, 449, 1, 1, 448, 2, 2, by omega, by omega, by omega, by omega, by omega, by omega, by omega, by omega, by omega, by omega, by omega, by omega, by omega, by omega, by omega⟩⟩
    · exact ⟨⟨6, 448, 3, 2, 448, 2, 2, by omega, by omega, by omega, by omega, by omega, by omega, by omega, by omega, by omega, by omega, by omega, by omega, by omega, by omega, by omega⟩⟩
    · exact ⟨⟨6, 448, 3, 2, 447, 4, 3, by omega, by omega, by omega, by omega, by omega, by omega, by omega, by omega, by omega, by omega, by omega, by omega, by omega, by omega, by omega⟩⟩
    · exact ⟨⟨6, 447, 5, 3, 447, 4, 3, by omega, by omega, by omega, by omega, by omega, by omega, by omega, by omega, by omega, by omega, by omega, by omega, by omega, by omega, by omega⟩⟩
    · exact ⟨⟨6, 447, 5, 3, 446, 6, 4, by omega, by omega, by omega, by omega, by omega, by omega, by omega, by omega, by omega, by omega, by omega, by omega, by omega, by omega, by omega⟩⟩
  · rcases hn with n | n | n | n | n | n | n <;> rw [n] at g0 g1 s0 s1 s2 s3 s4 s5 l0 u0 pn <;> simp only [Nat.reduceSub, Nat.reduceLT, Nat.reduceAdd, true_implies, false_implies, Int.reduceToNat, Int.toNat_one] at g0 g1 s0 s1 s2 s3 s4 s5 l0 u0
    · exact absurd pn (by decide)
    · exact absurd pn (by decide)
    · exact ⟨⟨4, 299, 2, 1, 299, 1, 1, by omega, by omega, by omega, by omega, by omega, by omega, by omega, by omega, by omega, by omega, by omega, by omega, by omega, by omega, by omega⟩⟩
    · exact ⟨⟨4, 299, 2, 1, 299, 1, 1, by omega, by omega, by omega, by omega, by omega, by omega, by omega, by omega, by omega, by omega, by omega, by omega, by omega, by omega, by omega⟩⟩
    · exact ⟨⟨4, 299, 2, 1, 298, 4, 2, by omega, by omega, by omega, by omega, by omega, by omega, by omega, by omega, by omega, by omega, by omega, by omega, by omega, by omega, by omega⟩⟩
    · exact ⟨⟨4, 298, 5, 2, 298, 4, 2, by omega, by omega, by omega, by omega, by omega, by omega, by omega, by omega, by omega, by omega, by omega, by omega, by omega, by omega, by omega⟩⟩
    · exact ⟨⟨4, 298, 5, 2, 298, 4, 2, by omega, by omega, by omega, by omega, by omega, by omega, by omega, by omega, by omega, by omega, by omega, by omega, by omega, by omega, by omega⟩⟩
  · rcases hn with n | n | n | n | n | n | n <;> rw [n] at g0 g1 s0 s1 s2 s3 s4 s5 l0 u0 pn <;> simp only [Nat.reduceSub, Nat.reduceLT, Nat.reduceAdd, true_implies, false_implies, Int.reduceToNat, Int.toNat_one] at g0 g1 s0 s1 s2 s3 s4 s5 l0 u0
    · exact absurd pn (by decide)
    · exact absurd pn (by decide)
    · exact absurd pn (by decide)
    · exact ⟨⟨3, 224, 3, 1, 224, 2, 1, by omega, by omega, by omega, by omega, by omega, by omega, by omega, by omega, by omega, by omega, by omega, by omega, by omega, by omega, by omega⟩⟩
    · exact ⟨⟨3, 224, 3, 1, 224, 2, 1, by omega, by omega, by omega, by omega, by omega, by omega, by omega, by omega, by omega, by omega, by omega, by omega, by omega, by omega, by omega⟩⟩
    · exact ⟨⟨3, 224, 3, 1, 224, 2, 1, by omega, by omega, by omega, by omega, by omega, by omega, by omega, by omega, by omega, by omega, by omega, by omega, by omega, by omega, by omega⟩⟩
    · exact ⟨⟨3, 224, 3, 1, 223, 6, 2, by omega, by omega, by omega, by omega, by omega, by omega, by omega, by omega, by omega, by omega, by omega, by omega, by omega, by omega, by omega⟩⟩
  · rcases hn with n | n | n | n | n | n | n <;> rw [n] at g0 g1 s0 s1 s2 s3 s4 s5 l0 u0 pn <;> simp only [Nat.reduceSub, Nat.reduceLT, Nat.reduceAdd, true_implies, false_implies, Int.reduceToNat, Int.toNat_one] at g0 g1 s0 s1 s2 s3 s4 s5 l0 u0
    · exact absurd pn (by decide)
    · exact absurd pn (by decide)
    · exact absurd pn (by decide)
    · exact absurd pn (by decide)
    · exact absurd pn (by decide)
    · exact ⟨⟨2, 149, 5, 1, 149, 4, 1, by omega, by omega, by omega, by omega, by omega, by omega, by omega, by omega, by omega, by omega, by omega, by omega, by omega, by omega, by omega⟩⟩
    · exact ⟨⟨2, 149, 5, 1, 149, 4, 1, by omega, by omega, by omega, by omega, by omega, by omega, by omega, by omega, by omega, by omega, by omega, by omega, by omega, by omega, by omega⟩⟩
/-- rows near the drawn ones -/
structure Nr (xs : List Int) (p g : Int) : Prop where
  n1 : 1 ≤ xs.length
  n2 : xs.length ≤ 13
  lo0 : 0 ≤ xs.getD 0 0
  hi0 : xs.getD 0 0 ≤ 5
  st : ∀ i, i + 1 < xs.length → xs.getD i 0 ≤ xs.getD (i + 1) 0 ∧ xs.getD (i + 1) 0 ≤ xs.getD i 0 + 5
  per : p = 1 ∨ p = 2 ∨ p = 3 ∨ p = 4 ∨ p = 6
  pn : p ≤ xs.length
  wr : xs.getD (xs.length - 1) 0 ≤ xs.getD (xs.length - p.toNat) 0 + g ∧ xs.getD (xs.length - p.toNat) 0 + g ≤ xs.getD (xs.length - 1) 0 + 3
theorem Nr.p0 {xs : List Int} {p g : Int} (N : Nr xs p g) : 0 < p ∧ p ≤ 6 := by rcases N.per with h | h | h | h | h <;> omega
theorem Nr.vs {xs : List Int} {p g : Int} (N : Nr xs p g) : ∀ i, i < xs.length → 0 ≤ xs.getD i 0 ∧ xs.getD i 0 ≤ 5 * ((i : Int) + 1)
  | 0, _ => ⟨N.lo0, by have := N.hi0; omega⟩
  | i + 1, h => by
    have := N.vs i (by omega)
    have := N.st i h
    omega
theorem Nr.mono {xs : List Int} {p g : Int} (N : Nr xs p g) : ∀ (d i : Nat), i + d < xs.length → xs.getD i 0 ≤ xs.getD (i + d) 0
  | 0, i, _ => Int.le_refl _
  | d + 1, i, h => by
    have := N.mono d i (by omega)
    have := N.st (i + d) (by omega)
    rw [show i + (d + 1) = i + d + 1 by omega]
    omega
theorem Nr.g_ {xs : List Int} {p g : Int} (N : Nr xs p g) : 0 ≤ g ∧ g ≤ 100 := by
  have n1 := N.n1
  have n2 := N.n2
  have p0 := N.p0
  have pn := N.pn
  have a := N.vs (xs.length - 1) (by omega)
  have b := N.vs (xs.length - p.toNat) (by omega)
  have c := N.mono (p.toNat - 1) (xs.length - p.toNat) (by omega)
  rw [show xs.length - p.toNat + (p.toNat - 1) = xs.length - 1 by omega] at c
  have w := N.wr
  omega
theorem Nr.step {xs : List Int} {p g : Int} (N : Nr xs p g) : ∀ t : Nat, cvAt xs p g t ≤ cvAt xs p g ((t : Int) + 1) ∧ cvAt xs p g ((t : Int) + 1) ≤ cvAt xs p g t + 5 := by
  have n1 := N.n1
  have p0 := N.p0
  have pn := N.pn
  intro t
  induction t using Nat.strongRecOn with
  | ind t ih =>
    by_cases c : t < xs.length
    · rw [cvAt_in (t := (t : Int) + 1) (by omega) (by omega), show ((t : Int) + 1 - 1).toNat = t by omega]
      cases t with
      | zero =>
        rw [show ((0 : Nat) : Int) = 0 from rfl, cvAt_zero]
        exact ⟨N.lo0, by have := N.hi0; omega⟩
      | succ k =>
        rw [cvAt_in (by omega) (by omega), show (((k + 1 : Nat) : Int) - 1).toNat = k by omega]
        exact N.st k c
    · rw [cvAt_back (t := (t : Int) + 1) p0.1 pn (by omega)]
      by_cases d : t = xs.length
      · rw [cvAt_in (t := (t : Int)) (by omega) (by omega), cvAt_in (t := (t : Int) + 1 - p) (by omega) (by omega), show ((t : Int) - 1).toNat = xs.length - 1 by omega, show ((t : Int) + 1 - p - 1).toNat = xs.length - p.toNat by omega]
        have := N.wr
        omega
      · rw [cvAt_back (t := (t : Int)) p0.1 pn (by omega)]
        have := ih (t - p.toNat) (by omega)
        rw [show ((t - p.toNat : Nat) : Int) = t - p by omega, show (t : Int) - p + 1 = t + 1 - p by omega] at this
        omega
theorem Nr.bd {xs : List Int} {p g : Int} (N : Nr xs p g) : ∀ t : Nat, 0 ≤ cvAt xs p g t ∧ cvAt xs p g t ≤ 5 * (t : Int)
  | 0 => by rw [show ((0 : Nat) : Int) = 0 from rfl, cvAt_zero]; omega
  | t + 1 => by
    have := N.bd t
    have := N.step t
    rw [show ((t + 1 : Nat) : Int) = (t : Int) + 1 by omega]
    omega
def stp (p : Int) : Int := if p = 1 then 3 else 5
theorem Nr.far_step {xs : List Int} {p g : Int} (N : Nr xs p g) (t : Nat) (h : 13 ≤ t) : cvAt xs p g t ≤ cvAt xs p g ((t : Int) + 1) ∧ cvAt xs p g ((t : Int) + 1) ≤ cvAt xs p g t + stp p := by
  have := N.step t
  have n2 := N.n2
  have pn := N.pn
  unfold stp
  by_cases c : p = 1
  · subst c
    have w := N.wr
    rw [show (1 : Int).toNat = 1 from rfl] at w
    rw [cvAt_back (t := (t : Int) + 1) (by decide) pn (by omega), show (t : Int) + 1 - 1 = t by omega, if_pos rfl]
    omega
  · rw [if_neg c]; exact this
/-- how much a row grows in so many ticks far out -/
theorem Nr.far_steps {xs : List Int} {p g : Int} (N : Nr xs p g) (t : Nat) (h : 13 ≤ t) : ∀ d : Nat, cvAt xs p g t ≤ cvAt xs p g ((t : Int) + d) ∧ cvAt xs p g ((t : Int) + d) ≤ cvAt xs p g t + stp p * d
  | 0 => by rw [show ((0 : Nat) : Int) = 0 from rfl, Int.add_zero, Int.mul_zero]; omega
  | d + 1 => by
    have a := N.far_steps t h d
    have b := N.far_step (t + d) (by omega)
    rw [show ((t + d : Nat) : Int) = (t : Int) + d by omega] at b
    rw [show (t : Int) + ((d + 1 : Nat) : Int) = (t : Int) + d + 1 by omega, show ((d + 1 : Nat) : Int) = (d : Int) + 1 by omega, Int.mul_add, Int.mul_one]
    omega
theorem Dr.nr {xs : List Int} {p g : Int} (D : Dr xs p g) : Nr xs p g := by
  obtain ⟨w, n1, n2, per, pn, g0, g1⟩ := D
  exact ⟨n1, by omega, w.lo 0 (by omega), by have := w.hi 0 (by omega); omega, fun i h => by have := w.up i h; omega, per, pn, by omega⟩
/-- what may be made of a drawn row by the law -/
inductive Near (xs : List Int) (p g : Int) : List Int → Int → Prop
  | last : Near xs p g (xs.set (xs.length - 1) (xs.getD (xs.length - 1) 0 + 1)) (g + 1)
  | gain : Near xs p g xs (g + 1)
  | long : Near xs p g (vals (cvAt xs p g) (xs.length + p.toNat)) g
  | late : Near xs p g (0 :: xs) g
  | less (h : p < xs.length) : Near xs p g (xs.set 0 (max 0 (xs.getD 0 0 - 1))) g
  | same : Near xs p g xs g
theorem set_same {xs : List Int} {i : Nat} {v : Int} (h : i < xs.length) : (xs.set i v).getD i 0 = v := by
  rw [List.getD_eq_getElem?_getD, List.getElem?_set_self h]; rfl
theorem set_ne {xs : List Int} {i j : Nat} {v : Int} (h : i ≠ j) : (xs.set i v).getD j 0 = xs.getD j 0 := by
  rw [List.getD_eq_getElem?_getD, List.getD_eq_getElem?_getD, List.getElem?_set_ne h]
theorem Near.nr {xs ys : List Int} {p g h : Int} (D : Dr xs p g) (H : Near xs p g ys h) : Nr ys p h := by
  have N := D.nr
  have n1 := D.n1
  have n2 := D.n2
  have pn := D.pn
  have p0 := N.p0
  have g0 := D.g0
  have g1 := D.g1
  cases H with
  | last =>
    refine ⟨by rw [List.length_set]; exact n1, by rw [List.length_set]; omega, ?_, ?_, fun i hi => ?_, D.per, by rw [List.length_set]; exact pn, ?_⟩
    · by_cases c : xs.length - 1 = 0
      · rw [c, set_same (by omega)]; have := D.w.lo 0 (by omega); omega
      · rw [set_ne c]; exact D.w.lo 0 (by omega)
    · by_cases c : xs.length - 1 = 0
      · rw [c, set_same (by omega)]; have := D.w.hi 0 (by omega); omega
      · rw [set_ne c]; have := D.w.hi 0 (by omega); omega
    · rw [List.length_set] at hi
      have u := D.w.up i hi
      rw [set_ne (by omega)]
      by_cases c : xs.length - 1 = i + 1
      · rw [c, set_same (by omega)]; omega
      · rw [set_ne c]; omega
    · rw [List.length_set, set_same (by omega)]
      by_cases c : xs.length - 1 = xs.length - p.toNat
      · rw [← c, set_same (by omega)]; rw [← c] at g0 g1; omega
      · rw [set_ne c]; omega
  | gain => exact ⟨N.n1, N.n2, N.lo0, N.hi0, N.st, N.per, N.pn, by omega⟩
  | same => exact N
  | late =>
    refine ⟨by simp, by simp; omega, by simp, by simp, fun i hi => ?_, D.per, by simp; omega, ?_⟩
    · cases i with
      | zero => exact ⟨N.lo0, by have := N.hi0; show xs.getD 0 0 ≤ 0 + 5; omega⟩
      | succ k => exact N.st k (by simpa using hi)
    · rw [List.length_cons, show xs.length + 1 - 1 = (xs.length - 1) + 1 by omega, show xs.length + 1 - p.toNat = (xs.length - p.toNat) + 1 by omega]
      exact N.wr
  | less c =>
    have u0 := D.w.up 0 (by omega)
    have l0 := D.w.lo 0 (by omega)
    have h0 := D.w.hi 0 (by omega)
    refine ⟨by rw [List.length_set]; exact n1, by rw [List.length_set]; omega, by rw [set_same (by omega)]; omega, by rw [set_same (by omega)]; omega, fun i hi => ?_, D.per, by rw [List.length_set]; exact pn, ?_⟩
    · rw [List.length_set] at hi
      rw [set_ne (j := i + 1) (by omega)]
      cases i with
      | zero => rw [set_same (by omega)]; simp only [Nat.zero_add] at u0 ⊢; omega
      | succ k => rw [set_ne (by omega)]; exact N.st _ hi
    · rw [List.length_set, set_ne (by omega), set_ne (by omega)]
      exact N.wr
  | long =>
    have s0 := N.step 0
    rw [show ((0 : Nat) : Int) = 0 from rfl, cvAt_zero] at s0
    have w := N.wr
    refine ⟨by rw [vals_length]; omega, by rw [vals_length]; omega, by rw [vals_getD (by omega)]; exact s0.1, by rw [vals_getD (by omega)]; have := s0.2; simp only [Int.zero_add] at this ⊢; exact this, fun i hi => ?_, D.per, by rw [vals_length]; omega, ?_⟩
    · rw [vals_length] at hi
      rw [vals_getD (by omega), vals_getD (by omega)]
      exact N.step (i + 1)
    · rw [vals_length, vals_getD (by omega), vals_getD (by omega)]
      rw [show ((xs.length + p.toNat - 1 : Nat) : Int) + 1 = xs.length + p by omega, show ((xs.length + p.toNat - p.toNat : Nat) : Int) + 1 = (xs.length : Int) + 1 by omega]
      rw [cvAt_back (t := (xs.length : Int) + p) p0.1 pn (by omega), cvAt_back (t := (xs.length : Int) + 1) p0.1 pn (by omega), show (xs.length : Int) + p - p = xs.length by omega, cvAt_in (by omega) (by omega), cvAt_in (by omega) (by omega)]
      rw [show ((xs.length : Int) + 1 - p - 1).toNat = xs.length - p.toNat by omega, show ((xs.length : Int) - 1).toNat = xs.length - 1 by omega]
      omega
/-- by how much a function is ahead of its rate at 900 -/
def off (f : Int → Int) (a : Int) : Int := f 900 - 75 * a
def gn (p g : Int) : Int := g * (12 / p)
structure Sp2 (e1 e2 m s : Int) : Prop where
  l1 : -21 ≤ e1
  u1 : e1 ≤ 28
  l2 : -21 ≤ e2
  le : e2 ≤ e1
  ge : e1 ≤ e2 + m
  ms : m + 8 * s ≤ 46
  s3 : 3 ≤ s
  s5 : s ≤ 5
theorem Nr.rep {xs : List Int} {p g : Int} (N : Nr xs p g) : Rep (cvAt xs p g) 880 12 (gn p g) := by
  have p0 := N.p0
  have pn := N.pn
  have n2 := N.n2
  exact (Rep.cvAt p0.1 pn).mul p0.1 (by rcases N.per with h | h | h | h | h <;> subst h <;> decide) (by decide) (by omega)
theorem off_at {xs : List Int} {p g : Int} {k i m q : Nat} (p0 : 0 < p) (pn : p ≤ xs.length) (qp : (q : Int) * p = 12) (km : k + m = 75 * q) (h : (xs.length : Int) + k * p < 900 + p) (e : (900 : Int) = (i : Int) + 1 + k * p) (hi : i < xs.length) :
    off (cvAt xs p g) (gn p g) = xs.getD i 0 - m * g := by
  unfold off gn
  rw [at_far p0 pn h e hi]
  have e1 : (12 : Int) / p = q := by rw [← qp]; exact Int.mul_ediv_cancel _ (by omega)
  have e2 : (k : Int) = 75 * q - m := by omega
  rw [e1, e2, Int.sub_mul, Int.mul_comm g, ← Int.mul_assoc]
  omega
theorem Near.spec {xs ys : List Int} {p g h : Int} (D : Dr xs p g) (H : Near xs p g ys h) : Sp2 (off (cvAt xs p g) (gn p g)) (off (cvAt ys p h) (gn p h)) (if p = 1 then 7 else 6) (stp p) := by
  obtain ⟨F⟩ := D.far
  have N := D.nr
  have p0 := N.p0
  have pn := D.pn
  have n1 := D.n1
  have e1 := off_at (g := g) p0.1 pn F.qp F.km F.h F.e F.hi
  have g0 := N.g_.1
  have lo := F.lo
  have up := F.up
  have m1 := F.few
  have m2 := F.few2
  have s_ : (if p = 1 then (7 : Int) else 6) + 8 * stp p ≤ 46 ∧ 3 ≤ stp p ∧ stp p ≤ 5 ∧ F.m ≤ (if p = 1 then (7 : Int) else 6) ∧ stp p ≤ (if p = 1 then (7 : Int) else 6) := by
    unfold stp
    by_cases c : p = 1
    · simp only [if_pos c]; omega
    · simp only [if_neg c]; have := m2 c; omega
  have mk : ∀ e2 : Int, -21 ≤ e2 → e2 ≤ xs.getD F.i 0 - F.m * g → xs.getD F.i 0 - F.m * g ≤ e2 + (if p = 1 then (7 : Int) else 6) → Sp2 (off (cvAt xs p g) (gn p g)) e2 (if p = 1 then 7 else 6) (stp p) := fun e2 h1 h2 h3 =>
    ⟨by omega, by omega, h1, by omega, by omega, s_.1, s_.2.1, s_.2.2.1⟩
  cases H with
  | same => rw [e1]; rw [e1] at mk; exact mk _ (by omega) (Int.le_refl _) (by omega)
  | gain =>
    rw [off_at (g := g + 1) p0.1 pn F.qp F.km F.h F.e F.hi, Int.mul_add, Int.mul_one]
    exact mk _ (by omega) (by omega) (by omega)
  | last =>
    rw [off_at (g := g + 1) p0.1 (by rw [List.length_set]; exact pn) F.qp F.km (by rw [List.length_set]; exact F.h) F.e (by rw [List.length_set]; exact F.hi), Int.mul_add, Int.mul_one]
    have fm : 1 ≤ F.m := by
      have a := F.km
      have b := F.e
      have c := F.qp
      have d : (900 : Int) = 75 * (F.q * p) := by rw [c]; decide
      rw [← Int.mul_assoc] at d
      have e : ((F.k : Int) + F.m) * p = 75 * F.q * p := by rw [show ((F.k : Int) + F.m) = 75 * F.q by omega]
      rw [Int.add_mul] at e
      cases z : F.m with
      | zero => rw [z] at e; simp at e; omega
      | succ k => omega
    by_cases c : xs.length - 1 = F.i
    · rw [c, set_same F.hi]
      exact mk _ (by omega) (by omega) (by omega)
    · rw [set_ne c]
      exact mk _ (by omega) (by omega) (by omega)
  | long =>
    have e : off (cvAt (vals (cvAt xs p g) (xs.length + p.toNat)) p g) (gn p g) = off (cvAt xs p g) (gn p g) := by
      unfold off
      rw [cvAt_vals p0.1 (by omega) cvAt_zero ((Rep.cvAt p0.1 pn).weak (by omega)) 900 (by decide)]
    rw [e, e1]; rw [e1] at mk; exact mk _ (by omega) (Int.le_refl _) (by omega)
  | late =>
    have e : off (cvAt (0 :: xs) p g) (gn p g) = cvAt xs p g 899 - 75 * gn p g := by
      unfold off
      rw [show (0 : Int) :: xs = List.replicate 1 0 ++ xs from rfl, cvAt_later (n := 1) p0.1 pn (by decide)]
      unfold laterF
      rw [if_neg (by decide)]
      rfl
    have f := N.far_step 899 (by decide)
    rw [show ((899 : Nat) : Int) + 1 = 900 from rfl, show ((899 : Nat) : Int) = 899 from rfl] at f
    have e0 : off (cvAt xs p g) (gn p g) = cvAt xs p g 900 - 75 * gn p g := rfl
    have lo' := F.lo'
    have e2 : cvAt xs p g 899 - 75 * gn p g = xs.getD F.i' 0 - F.m' * g := by
      rw [at_far p0.1 pn F.h' F.e' F.hi']
      unfold gn
      have e1 : (12 : Int) / p = F.q := by rw [← F.qp]; exact Int.mul_ediv_cancel _ (by omega)
      have e2 : (F.k' : Int) = 75 * F.q - F.m' := by have := F.km'; omega
      rw [e1, e2, Int.sub_mul, Int.mul_comm g, ← Int.mul_assoc]
      omega
    rw [e]
    exact mk _ (by omega) (by omega) (by omega)
  | less c =>
    rw [off_at (xs := xs.set 0 (max 0 (xs.getD 0 0 - 1))) (g := g) p0.1 (by rw [List.length_set]; exact pn) F.qp F.km (by rw [List.length_set]; exact F.h) F.e (by rw [List.length_set]; exact F.hi)]
    have := F.first c
    rw [set_ne (by omega)]
    exact mk _ (by omega) (by omega) (by omega)
/-- a function of a made curve: it repeats far out, and at 900 it lies near a row's, or near nothing -/
def Fit (e1 e2 s : Int) (F : Int → Int) : Prop := ∃ a, Rep F 888 12 a ∧
  ((∃ e, (e = e1 ∨ e = e2) ∧ e - 8 * s ≤ off F a ∧ off F a ≤ e + 28) ∨ (0 ≤ off F a ∧ off F a ≤ 10))
theorem Fit.down {e1 e2 s : Int} {F : Int → Int} (h : Fit e1 e2 s F) : ∃ a, Rep F 888 12 a := h.elim fun a h => ⟨a, h.1⟩
theorem far_down {F : Int → Int} {a : Int} (R : Rep F 888 12 a) : ∀ t : Nat, 900 < t → ∃ (u j : Nat), 888 < u ∧ u ≤ 900 ∧ t = u + 12 * j ∧ F t = F u + j * a := by
  intro t
  induction t using Nat.strongRecOn with
  | ind t ih =>
    intro ht
    by_cases c : t ≤ 912
    · refine ⟨t - 12, 1, by omega, by omega, by omega, ?_⟩
      rw [R t (by omega), show ((t - 12 : Nat) : Int) = (t : Int) - 12 by omega, show ((1 : Nat) : Int) = 1 from rfl, Int.one_mul]
    · obtain ⟨u, j, h1, h2, h3, h4⟩ := ih (t - 12) (by omega) (by omega)
      refine ⟨u, j + 1, h1, h2, by omega, ?_⟩
      rw [R t (by omega), show (t : Int) - 12 = ((t - 12 : Nat) : Int) by omega, h4, show ((j + 1 : Nat) : Int) = (j : Int) + 1 by omega, Int.add_mul, Int.one_mul]
      omega
/-- below at 900 lengths is below at all -/
theorem Fit.le {e1 e2 m s : Int} (S : Sp2 e1 e2 m s) {F G : Int → Int} (hF : Fit e1 e2 s F) (hG : Fit e1 e2 s G) (h : ∀ t : Int, 1 ≤ t → t ≤ 900 → F t ≤ G t) : ∀ t : Int, 1 ≤ t → F t ≤ G t := by
  obtain ⟨a, R, hF⟩ := hF
  obtain ⟨b, S2, hG⟩ := hG
  have h9 := h 900 (by decide) (by decide)
  obtain ⟨l1, u1, l2, le, ge, ms, s3, s5⟩ := S
  unfold off at hF hG
  have ab : a ≤ b := by
    rcases hF with ⟨e, he, f1, f2⟩ | ⟨f1, f2⟩ <;> rcases hG with ⟨d, hd, g1, g2⟩ | ⟨g1, g2⟩
    · rcases he with rfl | rfl <;> rcases hd with rfl | rfl <;> omega
    · rcases he with rfl | rfl <;> omega
    · rcases hd with rfl | rfl <;> omega
    · omega
  intro t ht
  by_cases c : t ≤ 900
  · exact h t ht c
  · obtain ⟨n, rfl⟩ : ∃ n : Nat, t = (n : Int) := ⟨t.toNat, by omega⟩
    obtain ⟨u, j, h1, h2, h3, h4⟩ := far_down R n (by omega)
    have h5 : ∀ k : Nat, G ((u : Int) + 12 * k) = G u + k * b := by
      intro k
      induction k with
      | zero => simp
      | succ k ih =>
        rw [S2 _ (by omega), show (u : Int) + 12 * ((k + 1 : Nat) : Int) - 12 = (u : Int) + 12 * k by omega, ih, show ((k + 1 : Nat) : Int) = (k : Int) + 1 by omega, Int.add_mul, Int.one_mul]
        omega
    have h6 := h5 j
    rw [show (u : Int) + 12 * (j : Int) = (n : Int) by omega] at h6
    have h7 := h u (by omega) (by omega)
    have h8 : (j : Int) * a ≤ j * b := Int.mul_le_mul_of_nonneg_left ab (by omega)
    rw [h4, h6]
    omega
/-- the same at 900 lengths is the same at all -/
theorem Fit.eq {e1 e2 m s : Int} (S : Sp2 e1 e2 m s) {F G : Int → Int} (hF : Fit e1 e2 s F) (hG : Fit e1 e2 s G) (z : F 0 = G 0) (h : ∀ t : Int, 1 ≤ t → t ≤ 900 → F t = G t) : ∀ t : Int, 0 ≤ t → F t = G t := fun t ht => by
  by_cases c : t = 0
  · rw [c]; exact z
  · have a := Fit.le S hF hG (fun t h1 h2 => by have := h t h1 h2; omega) t (by omega)
    have b := Fit.le S hG hF (fun t h1 h2 => by have := h t h1 h2; omega) t (by omega)
    omega
/-! ### each way of making -/
theorem Fit.row {xs : List Int} {p g e1 e2 s e : Int} (N : Nr xs p g) (s3 : 3 ≤ s) (he : e = e1 ∨ e = e2) (h : off (cvAt xs p g) (gn p g) = e) : Fit e1 e2 s (cvAt xs p g) :=
  ⟨gn p g, N.rep.weak (by decide), .inl ⟨e, he, by omega, by omega⟩⟩
theorem Fit.late {xs : List Int} {p g e1 e2 e : Int} {n : Nat} (N : Nr xs p g) (s3 : 3 ≤ stp p) (he : e = e1 ∨ e = e2) (h : off (cvAt xs p g) (gn p g) = e) (hn : n ≤ 8) : Fit e1 e2 (stp p) (laterF (cvAt xs p g) n) := by
  have a := N.far_steps (900 - n) (by omega) n
  rw [show ((900 - n : Nat) : Int) = 900 - n by omega, show (900 : Int) - n + n = 900 by omega] at a
  refine ⟨gn p g, (later_rep N.rep (by decide) (by decide) (by omega) cvAt_zero).weak (by omega), .inl ⟨e, he, ?_, ?_⟩⟩
  · unfold off at h ⊢
    unfold laterF
    rw [if_neg (by omega)]
    have : stp p * (n : Int) ≤ stp p * 8 := Int.mul_le_mul_of_nonneg_left (by omega) (by omega)
    omega
  · unfold off at h ⊢
    unfold laterF
    rw [if_neg (by omega)]
    omega
theorem Rep.add12 {f h : Int → Int} {N g1 g2 : Int} (R : Rep f N 12 g1) (S : Rep h N 12 g2) : Rep (fun t => f t + h t) N 12 (g1 + g2) := R.add S
theorem Dr.off_ {xs : List Int} {p g : Int} (D : Dr xs p g) : -21 ≤ off (cvAt xs p g) (gn p g) ∧ off (cvAt xs p g) (gn p g) ≤ 28 := by
  have := Near.spec D .same
  exact ⟨this.l1, this.u1⟩
theorem Fit.sum {xs ys : List Int} {p g q c e1 e2 s e : Int} (N : Nr xs p g) (D : Dr ys q c) (s3 : 3 ≤ s) (he : e = e1 ∨ e = e2) (h : off (cvAt xs p g) (gn p g) = e) : Fit e1 e2 s (fun t => cvAt ys q c t + cvAt xs p g t) := by
  have o := D.off_
  refine ⟨gn q c + gn p g, Rep.add12 (D.nr.rep.weak (by decide)) (N.rep.weak (by decide)), .inl ⟨e, he, ?_, ?_⟩⟩ <;> (unfold off at *; show _ ≤ _; simp only []; omega)
/-- a small piece -/
structure PcS (q : Pc) : Prop where
  b0 : 0 ≤ q.b
  b3 : q.b ≤ 3
  u0 : 0 ≤ q.u
  u2 : q.u ≤ 2
  t_ : q.t = 1 ∨ q.t = 2 ∨ q.t = 4
theorem PcS.ok {q : Pc} (h : PcS q) : q.Ok := ⟨h.b0, by have := h.b3; omega, h.u0, by have := h.u2; omega, by rcases h.t_ with e | e | e <;> omega⟩
theorem PcS.r_ {q : Pc} (h : PcS q) : q.r = 0 ∨ q.r = 3 ∨ q.r = 6 ∨ q.r = 12 ∨ q.r = 24 := by
  have a := h.u0
  have b := h.u2
  unfold Pc.r
  rcases h.t_ with e | e | e <;> rw [e] <;> (rcases (show q.u = 0 ∨ q.u = 1 ∨ q.u = 2 by omega) with z | z | z <;> rw [z] <;> omega)
/-- two small lines: from 13 on one of the lesser rate is the lower -/
theorem two_far {a b : Pc} (ha : PcS a) (hb : PcS b) : ∃ q : Pc, (q = a ∨ q = b) ∧ q.r = lnG [a, b] ∧ ∀ t : Int, 12 ≤ t → lnF [a, b] t = q.at t := by
  have e1 : lnG [a, b] = min a.r b.r := by
    obtain ⟨⟨q, h, e⟩, l⟩ := minOf_is Pc.r (l := [a, b]) (by simp)
    have x := l a (by simp)
    have y := l b (by simp)
    simp only [List.mem_cons, List.not_mem_nil, or_false] at h
    unfold lnG
    rcases h with rfl | rfl <;> omega
  have e2 : ∀ t : Int, 12 ≤ t → lnF [a, b] t = min (a.at t) (b.at t) := fun t ht => by
    rw [lnF_pos (by omega)]
    obtain ⟨⟨q, h, e⟩, l⟩ := minOf_is (fun q : Pc => q.at t) (l := [a, b]) (by simp)
    have x := l a (by simp)
    have y := l b (by simp)
    simp only [List.mem_cons, List.not_mem_nil, or_false] at h
    rcases h with rfl | rfl <;> omega
  have key : ∀ c d : Pc, PcS c → PcS d → c.r < d.r → ∀ t : Int, 12 ≤ t → c.at t ≤ d.at t := fun c d hc hd lt t ht => by
    rw [hc.ok.at_eq, hd.ok.at_eq]
    have b1 := hc.b3
    have b2 := hd.b0
    have h3 : c.r + 3 ≤ d.r := by rcases hc.r_ with z | z | z | z | z <;> rcases hd.r_ with y | y | y | y | y <;> omega
    have m := Int.mul_le_mul_of_nonneg_right h3 (show 0 ≤ t by omega)
    rw [Int.add_mul] at m
    omega
  rcases (show a.r < b.r ∨ b.r < a.r ∨ a.r = b.r by omega) with c | c | c
  · exact ⟨a, .inl rfl, by omega, fun t ht => by rw [e2 t ht]; have := key a b ha hb c t ht; omega⟩
  · exact ⟨b, .inr rfl, by omega, fun t ht => by rw [e2 t ht]; have := key b a hb ha c t ht; omega⟩
  · by_cases d : a.b ≤ b.b
    · refine ⟨a, .inl rfl, by omega, fun t ht => ?_⟩
      rw [e2 t ht, ha.ok.at_eq, hb.ok.at_eq, c]
      omega
    · refine ⟨b, .inr rfl, by omega, fun t ht => ?_⟩
      rw [e2 t ht, ha.ok.at_eq, hb.ok.at_eq, c]
      omega
theorem two_rep {a b : Pc} (ha : PcS a) (hb : PcS b) : Rep (lnF [a, b]) 24 12 (lnG [a, b]) := fun t ht => by
  obtain ⟨q, hq, hr, h⟩ := two_far ha hb
  have ok : q.Ok := hq.elim (fun z => z ▸ ha.ok) (fun z => z ▸ hb.ok)
  rw [h t (by omega), h (t - 12) (by omega), ← hr]
  have := ok.far (t - 12)
  rw [show t - 12 + 12 = t by omega] at this
  exact this
theorem Fit.lines {a b : Pc} {e1 e2 s : Int} (ha : PcS a) (hb : PcS b) : Fit e1 e2 s (lnF [a, b]) := by
  obtain ⟨q, hq, hr, h⟩ := two_far ha hb
  have ok : PcS q := hq.elim (fun z => z ▸ ha) (fun z => z ▸ hb)
  refine ⟨lnG [a, b], (two_rep ha hb).weak (by decide), .inr ?_⟩
  unfold off
  rw [h 900 (by decide), ← hr, ok.ok.at_eq]
  have := ok.b0
  have := ok.b3
  omega
theorem fm_short {F : Int → Int} {n k : Nat} {G : Int} (R : Rep F n 12 G) (hn : 12 ≤ n) (F0 : F 0 = 0) (hk : 12 ≤ k) (S : Rep F k 12 G) : (formV (vals F n) 12 G).length ≤ k := by
  have h12 : (12 : Int) ≤ (vals F n).length := by rw [vals_length]; omega
  have FV := fm_vals R hn F0
  have RR : Rep (cvAt (vals F n) 12 G) (vals F n).length 12 G := Rep.cvAt (by decide) h12
  obtain ⟨a1, a2, a3⟩ := leastP_spec RR (by decide)
  have S2 : Rep (cvAt (vals F n) 12 G) k 12 G := S.congr (fun t ht => (FV t ht).symm) (by decide) (by omega)
  have S3 := per_now S2 (by decide) a3 a1 a2
  have u := shr_uniq (m := (vals F n).length) (k := k) a1 (by omega) (by omega) a3 S3
  obtain ⟨_, b2, _⟩ := shr_spec a1 k (by omega) S3
  unfold formV
  rw [vals_length]
  show shr _ _ _ _ ≤ k
  exact Nat.le_trans (Nat.le_of_eq u) b2
theorem two_short {a b : Pc} (ha : PcS a) (hb : PcS b) : (formV (vals (lnF [a, b]) (lnN [a, b]).toNat) 12 (lnG [a, b])).length ≤ 24 := by
  have ne : [a, b] ≠ [] := by simp
  have ok : ∀ q ∈ [a, b], q.Ok := fun q hq => by
    simp only [List.mem_cons, List.not_mem_nil, or_false] at hq
    exact hq.elim (fun z => z ▸ ha.ok) (fun z => z ▸ hb.ok)
  have nb := lnN_b ne ok
  refine fm_short (k := 24) ?_ (by omega) lnF_zero (by decide) (two_rep ha hb)
  rw [Int.toNat_of_nonneg (by omega)]
  exact ln_rep ne ok
theorem Fit.tight {us : List Int} {e1 e2 s : Int} (N : ∀ u ∈ us, 0 ≤ u) (hl : us.length ≤ 5) (hs : us.sum ≤ 10) : Fit e1 e2 s (tF us) := by
  have z : ∀ t : Int, 5 ≤ t → tF us t = us.sum := fun t ht => by unfold tF; exact most_far (by omega)
  refine ⟨0, fun t ht => by rw [z t (by omega), z (t - 12) (by omega)]; omega, .inr ?_⟩
  unfold off
  rw [z 900 (by decide)]
  have : 0 ≤ us.sum := by
    have := most_nn N us.length
    rwa [most_far (Nat.le_refl _)] at this
  omega
theorem sum_le2 : ∀ {us : List Int}, (∀ u ∈ us, u ≤ 2) → us.sum ≤ 2 * (us.length : Int)
  | [], _ => by simp
  | a :: l, h => by
    have := sum_le2 (us := l) fun u hu => h u (List.mem_cons_of_mem _ hu)
    have := h a (List.mem_cons_self ..)
    rw [List.sum_cons, List.length_cons]
    omega
/-! ### rows of values -/
theorem vals_take {f : Int → Int} {n m : Nat} (h : m ≤ n) : (vals f n).take m = vals f m := by
  unfold vals
  rw [← List.map_take, List.take_range, Nat.min_eq_left h]
theorem vals_eq {f h : Int → Int} {n : Nat} (e : ∀ t : Int, 1 ≤ t → t ≤ n → f t = h t) : vals f n = vals h n := by
  unfold vals
  refine List.map_congr_left fun i hi => ?_
  have := List.mem_range.mp hi
  exact e _ (by omega) (by omega)
theorem vals_inj {f h : Int → Int} {n : Nat} (e : vals f n = vals h n) : ∀ t : Int, 1 ≤ t → t ≤ n → f t = h t := fun t h1 h2 => by
  have this : (vals f n).getD (t - 1).toNat 0 = (vals h n).getD (t - 1).toNat 0 := by rw [e]
  rw [vals_getD (by omega), vals_getD (by omega), show ((t - 1).toNat : Int) + 1 = t by omega] at this
  exact this
theorem tight_vals {us : List Int} (h : us.length ≤ 5) : ((vals (tF us) us.length) ++ List.replicate 900 (us.sum)).take 900 = vals (tF us) 900 := by
  have e : List.replicate 900 us.sum = (List.range 900).map fun i => tF us ((us.length + i : Nat) + 1) := by
    apply List.ext_getElem (by simp)
    intro i h1 h2
    rw [List.getElem_replicate, List.getElem_map, List.getElem_range]
    unfold tF
    exact (most_far (by omega)).symm
  have e2 : vals (tF us) us.length ++ List.replicate 900 us.sum = vals (tF us) (us.length + 900) := by
    rw [e]
    unfold vals
    rw [List.range_add, List.map_append, List.map_map]
    rfl
  rw [e2, vals_take (by omega)]
end VM

namespace VK
open PySem PySem.Spec PyProof.Rows L2 VM
def top (i : Nat) : Stmt := PySem.Challenge.pw_dueways_k13_whole_equal_curves.main.body.getD i (.Pass ⟨0, 0, 0, 0⟩)
abbrev s_is_integer : Stmt := top 11
theorem sc_is_integer : FnScope ["value"] ["value"] (defScope s_is_integer) := ⟨rfl, rfl, rfl, by decide +kernel, rfl, by decide +kernel, by decide +kernel⟩
abbrev s_is_count : Stmt := top 12
theorem sc_is_count : FnScope ["value"] ["value"] (defScope s_is_count) := ⟨rfl, rfl, rfl, by decide +kernel, rfl, by decide +kernel, by decide +kernel⟩
abbrev s_is_count_to : Stmt := top 13
theorem sc_is_count_to : FnScope ["value", "most"] ["value", "most"] (defScope s_is_count_to) := ⟨rfl, rfl, rfl, by decide +kernel, rfl, by decide +kernel, by decide +kernel⟩
abbrev s_require_count_to : Stmt := top 14
theorem sc_require_count_to : FnScope ["value", "most"] ["value", "most"] (defScope s_require_count_to) := ⟨rfl, rfl, rfl, by decide +kernel, rfl, by decide +kernel, by decide +kernel⟩
abbrev s_rounded_up : Stmt := top 15
theorem sc_rounded_up : FnScope ["units", "parts"] ["units", "parts"] (defScope s_rounded_up) := ⟨rfl, rfl, rfl, by decide +kernel, rfl, by decide +kernel, by decide +kernel⟩
abbrev s_value_at : Stmt := top 18
theorem sc_value_at : FnScope ["values", "period", "gain", "length", "rounds"] ["values", "period", "gain", "length"] (defScope s_value_at) := ⟨rfl, rfl, rfl, by decide +kernel, rfl, by decide +kernel, by decide +kernel⟩
abbrev s_least_form : Stmt := top 19
theorem sc_least_form : FnScope ["values", "period", "gain", "many", "row", "least", "step", "length"] ["values", "period", "gain"] (defScope s_least_form) := ⟨rfl, rfl, rfl, by decide +kernel, rfl, by decide +kernel, by decide +kernel⟩
abbrev s_least_period : Stmt := top 20
theorem sc_least_period : FnScope ["row", "many", "period", "least", "steps", "length"] ["row", "many", "period"] (defScope s_least_period) := ⟨rfl, rfl, rfl, by decide +kernel, rfl, by decide +kernel, by decide +kernel⟩
abbrev s_form_of_pieces : Stmt := top 21
theorem sc_form_of_pieces : FnScope ["pieces", "burst", "gain", "many", "values", "piece", "_", "units", "ticks", "length"] ["pieces"] (defScope s_form_of_pieces) := ⟨rfl, rfl, rfl, by decide +kernel, rfl, by decide +kernel, by decide +kernel⟩
abbrev s_line_at : Stmt := top 22
theorem sc_line_at : FnScope ["piece", "length", "burst", "units", "ticks"] ["piece", "length"] (defScope s_line_at) := ⟨rfl, rfl, rfl, by decide +kernel, rfl, by decide +kernel, by decide +kernel⟩
abbrev s_C_init : Stmt := inClass (top 29) 0
theorem sc_C_init : FnScope ["self", "values", "period", "gain", "wrong", "form", "least", "step"] ["self", "values", "period", "gain"] (defScope s_C_init) := ⟨rfl, rfl, rfl, by decide +kernel, rfl, by decide +kernel, by decide +kernel⟩
abbrev s_C_of_pieces : Stmt := inClass (top 29) 1
theorem sc_C_of_pieces : FnScope ["cls", "pieces", "wrong", "values", "period", "gain"] ["cls", "pieces"] (defScope s_C_of_pieces) := ⟨rfl, rfl, rfl, by decide +kernel, rfl, by decide +kernel, by decide +kernel⟩
abbrev s_C_eq : Stmt := inClass (top 29) 2
theorem sc_C_eq : FnScope ["self", "other"] ["self", "other"] (defScope s_C_eq) := ⟨rfl, rfl, rfl, by decide +kernel, rfl, by decide +kernel, by decide +kernel⟩
abbrev s_C_repr : Stmt := inClass (top 29) 3
theorem sc_C_repr : FnScope ["self"] ["self"] (defScope s_C_repr) := ⟨rfl, rfl, rfl, by decide +kernel, rfl, by decide +kernel, by decide +kernel⟩
abbrev s_C_str : Stmt := inClass (top 29) 4
theorem sc_C_str : FnScope ["self", "value"] ["self"] (defScope s_C_str) := ⟨rfl, rfl, rfl, by decide +kernel, rfl, by decide +kernel, by decide +kernel⟩
abbrev s_C_add : Stmt := inClass (top 29) 5
theorem sc_C_add : FnScope ["self", "other", "many", "period", "values", "length"] ["self", "other"] (defScope s_C_add) := ⟨rfl, rfl, rfl, by decide +kernel, rfl, by decide +kernel, by decide +kernel⟩
abbrev s_C_period : Stmt := inClass (top 29) 6
theorem sc_C_period : FnScope ["self"] ["self"] (defScope s_C_period) := ⟨rfl, rfl, rfl, by decide +kernel, rfl, by decide +kernel, by decide +kernel⟩
abbrev s_C_gain : Stmt := inClass (top 29) 7
theorem sc_C_gain : FnScope ["self"] ["self"] (defScope s_C_gain) := ⟨rfl, rfl, rfl, by decide +kernel, rfl, by decide +kernel, by decide +kernel⟩
abbrev s_C_rate : Stmt := inClass (top 29) 8
theorem sc_C_rate : FnScope ["self", "common"] ["self"] (defScope s_C_rate) := ⟨rfl, rfl, rfl, by decide +kernel, rfl, by decide +kernel, by decide +kernel⟩
abbrev s_C_first_values : Stmt := inClass (top 29) 9
theorem sc_C_first_values : FnScope ["self"] ["self"] (defScope s_C_first_values) := ⟨rfl, rfl, rfl, by decide +kernel, rfl, by decide +kernel, by decide +kernel⟩
abbrev s_C_at : Stmt := inClass (top 29) 10
theorem sc_C_at : FnScope ["self", "length"] ["self", "length"] (defScope s_C_at) := ⟨rfl, rfl, rfl, by decide +kernel, rfl, by decide +kernel, by decide +kernel⟩
abbrev s_C_at_most : Stmt := inClass (top 29) 11
theorem sc_C_at_most : FnScope ["self", "other", "many", "period", "length"] ["self", "other"] (defScope s_C_at_most) := ⟨rfl, rfl, rfl, by decide +kernel, rfl, by decide +kernel, by decide +kernel⟩
abbrev s_C_later : Stmt := inClass (top 29) 14
theorem sc_C_later : FnScope ["self", "ticks"] ["self", "ticks"] (defScope s_C_later) := ⟨rfl, rfl, rfl, by decide +kernel, rfl, by decide +kernel, by decide +kernel⟩
abbrev s_make_curve : Stmt := top 30
theorem sc_make_curve : FnScope ["values", "period", "gain", "made", "form", "least", "step"] ["values", "period", "gain"] (defScope s_make_curve) := ⟨rfl, rfl, rfl, by decide +kernel, rfl, by decide +kernel, by decide +kernel⟩
abbrev s_find_problem : Stmt := top 31
theorem sc_find_problem : FnScope ["values", "period", "gain", "before", "position", "value"] ["values", "period", "gain"] (defScope s_find_problem) := ⟨rfl, rfl, rfl, by decide +kernel, rfl, by decide +kernel, by decide +kernel⟩
abbrev s_find_wrong_piece : Stmt := top 32
theorem sc_find_wrong_piece : FnScope ["pieces", "position", "piece"] ["pieces"] (defScope s_find_wrong_piece) := ⟨rfl, rfl, rfl, by decide +kernel, rfl, by decide +kernel, by decide +kernel⟩
abbrev s_is_piece : Stmt := top 33
theorem sc_is_piece : FnScope ["value", "part"] ["value"] (defScope s_is_piece) := ⟨rfl, rfl, rfl, by decide +kernel, rfl, by decide +kernel, by decide +kernel⟩
abbrev s_common_writing : Stmt := top 34
theorem sc_common_writing : FnScope ["one", "other", "period", "many", "curve"] ["one", "other"] (defScope s_common_writing) := ⟨rfl, rfl, rfl, by decide +kernel, rfl, by decide +kernel, by decide +kernel⟩
abbrev s_gain_in : Stmt := top 35
theorem sc_gain_in : FnScope ["curve", "ticks"] ["curve", "ticks"] (defScope s_gain_in) := ⟨rfl, rfl, rfl, by decide +kernel, rfl, by decide +kernel, by decide +kernel⟩
abbrev s_tightest : Stmt := top 37
theorem sc_tightest : FnScope ["record", "sums", "values", "length"] ["record"] (defScope s_tightest) := ⟨rfl, rfl, rfl, by decide +kernel, rfl, by decide +kernel, by decide +kernel⟩
abbrev s_require_record : Stmt := top 38
theorem sc_require_record : FnScope ["record", "position", "units"] ["record"] (defScope s_require_record) := ⟨rfl, rfl, rfl, by decide +kernel, rfl, by decide +kernel, by decide +kernel⟩
abbrev s_sums_before : Stmt := top 39
theorem sc_sums_before : FnScope ["record", "sums", "units"] ["record"] (defScope s_sums_before) := ⟨rfl, rfl, rfl, by decide +kernel, rfl, by decide +kernel, by decide +kernel⟩
abbrev s_window_sums : Stmt := top 40
theorem sc_window_sums : FnScope ["sums", "length", "start"] ["sums", "length"] (defScope s_window_sums) := ⟨rfl, rfl, rfl, by decide +kernel, rfl, by decide +kernel, by decide +kernel⟩
abbrev s_l_rng : Stmt := top 42
theorem sc_l_rng : FnScope ["_law_script", "_law_k", "_law_cell"] ["_law_script", "_law_k"] (defScope s_l_rng) := ⟨rfl, rfl, rfl, by decide +kernel, rfl, by decide +kernel, by decide +kernel⟩
abbrev s_l_draw : Stmt := top 43
theorem sc_l_draw : FnScope ["_law_rng_here", "_law_many", "_law_digit"] ["_law_rng_here", "_law_many"] (defScope s_l_draw) := ⟨rfl, rfl, rfl, by decide +kernel, rfl, by decide +kernel, by decide +kernel⟩
abbrev s_l_choice : Stmt := top 44
theorem sc_l_choice : FnScope ["_law_rng_here", "_law_some"] ["_law_rng_here", "_law_some"] (defScope s_l_choice) := ⟨rfl, rfl, rfl, by decide +kernel, rfl, by decide +kernel, by decide +kernel⟩
abbrev s_l_at : Stmt := top 45
theorem sc_l_at : FnScope ["_law_row", "_law_span", "_law_told", "_law_cycle", "_law_more", "_law_times"] ["_law_row", "_law_span"] (defScope s_l_at) := ⟨rfl, rfl, rfl, by decide +kernel, rfl, by decide +kernel, by decide +kernel⟩
abbrev s_l_written : Stmt := top 46
theorem sc_l_written : FnScope ["_law_rng_here", "_law_many", "_law_told", "_law_k", "_law_cycle", "_law_low", "_law_one"] ["_law_rng_here"] (defScope s_l_written) := ⟨rfl, rfl, rfl, by decide +kernel, rfl, by decide +kernel, by decide +kernel⟩
abbrev s_l_nearly : Stmt := top 47
theorem sc_l_nearly : FnScope ["_law_rng_here", "_law_row", "_law_told", "_law_cycle", "_law_more", "_law_way", "_law_span"] ["_law_rng_here", "_law_row"] (defScope s_l_nearly) := ⟨rfl, rfl, rfl, by decide +kernel, rfl, by decide +kernel, by decide +kernel⟩
abbrev s_l_values : Stmt := top 48
theorem sc_l_values : FnScope ["_law_row", "_law_many", "_law_span"] ["_law_row", "_law_many"] (defScope s_l_values) := ⟨rfl, rfl, rfl, by decide +kernel, rfl, by decide +kernel, by decide +kernel⟩
abbrev s_l_line : Stmt := top 49
theorem sc_l_line : FnScope ["_law_piece", "_law_span", "_law_units"] ["_law_piece", "_law_span"] (defScope s_l_line) := ⟨rfl, rfl, rfl, by decide +kernel, rfl, by decide +kernel, by decide +kernel⟩
abbrev s_l_made : Stmt := top 50
theorem sc_l_made : FnScope ["_law_rng_here", "_law_row", "_law_way", "_law_due", "_law_plain", "_law_late", "_law_other", "_law_both", "_law_pieces", "_law_k", "_law_found", "_law_record", "_law_many", "_law_best", "_law_span", "_law_one", "_law_two", "_law_piece", "_law_start"] ["_law_rng_here", "_law_row"] (defScope s_l_made) := ⟨rfl, rfl, rfl, by decide +kernel, rfl, by decide +kernel, by decide +kernel⟩
abbrev s_l_shown : Stmt := top 51
theorem sc_l_shown : FnScope ["_law_curve"] ["_law_curve"] (defScope s_l_shown) := ⟨rfl, rfl, rfl, by decide +kernel, rfl, by decide +kernel, by decide +kernel⟩
abbrev s_l_pair_right : Stmt := top 52
theorem sc_l_pair_right : FnScope ["_law_first", "_law_second", "_law_one", "_law_due", "_law_other", "_law_expected", "_law_before", "_law_same", "_law_below", "_law_above", "_law_low", "_law_high", "_law_span"] ["_law_first", "_law_second"] (defScope s_l_pair_right) := ⟨rfl, rfl, rfl, by decide +kernel, rfl, by decide +kernel, by decide +kernel⟩
abbrev s_law : Stmt := top 53
theorem sc_law : FnScope ["_law_script", "_law_k", "_law_rng_here", "_law_row", "_law_pairs", "_law_first", "_law_second", "_law_curve", "_law_thing"] ["_law_script"] (defScope s_law) := ⟨rfl, rfl, rfl, by decide +kernel, rfl, by decide +kernel, by decide +kernel⟩
structure Ad where
  f_is_integer : Addr
  d_is_integer : FuncData
  f_is_count : Addr
  d_is_count : FuncData
  f_is_count_to : Addr
  d_is_count_to : FuncData
  f_require_count_to : Addr
  d_require_count_to : FuncData
  f_rounded_up : Addr
  d_rounded_up : FuncData
  f_value_at : Addr
  d_value_at : FuncData
  f_least_form : Addr
  d_least_form : FuncData
  f_least_period : Addr
  d_least_period : FuncData
  f_form_of_pieces : Addr
  d_form_of_pieces : FuncData
  f_line_at : Addr
  d_line_at : FuncData
  f_C_init : Addr
  d_C_init : FuncData
  f_C_of_pieces : Addr
  d_C_of_pieces : FuncData
  p_C_of_pieces : Addr
  f_C_eq : Addr
  d_C_eq : FuncData
  f_C_repr : Addr
  d_C_repr : FuncData
  f_C_str : Addr
  d_C_str : FuncData
  f_C_add : Addr
  d_C_add : FuncData
  f_C_period : Addr
  d_C_period : FuncData
  p_C_period : Addr
  f_C_gain : Addr
  d_C_gain : FuncData
  p_C_gain : Addr
  f_C_rate : Addr
  d_C_rate : FuncData
  p_C_rate : Addr
  f_C_first_values : Addr
  d_C_first_values : FuncData
  f_C_at : Addr
  d_C_at : FuncData
  f_C_at_most : Addr
  d_C_at_most : FuncData
  f_C_later : Addr
  d_C_later : FuncData
  f_make_curve : Addr
  d_make_curve : FuncData
  f_find_problem : Addr
  d_find_problem : FuncData
  f_find_wrong_piece : Addr
  d_find_wrong_piece : FuncData
  f_is_piece : Addr
  d_is_piece : FuncData
  f_common_writing : Addr
  d_common_writing : FuncData
  f_gain_in : Addr
  d_gain_in : FuncData
  f_tightest : Addr
  d_tightest : FuncData
  f_require_record : Addr
  d_require_record : FuncData
  f_sums_before : Addr
  d_sums_before : FuncData
  f_window_sums : Addr
  d_window_sums : FuncData
  f_l_rng : Addr
  d_l_rng : FuncData
  f_l_draw : Addr
  d_l_draw : FuncData
  f_l_choice : Addr
  d_l_choice : FuncData
  f_l_at : Addr
  d_l_at : FuncData
  f_l_written : Addr
  d_l_written : FuncData
  f_l_nearly : Addr
  d_l_nearly : FuncData
  f_l_values : Addr
  d_l_values : FuncData
  f_l_line : Addr
  d_l_line : FuncData
  f_l_made : Addr
  d_l_made : FuncData
  f_l_shown : Addr
  d_l_shown : FuncData
  f_l_pair_right : Addr
  d_l_pair_right : FuncData
  f_law : Addr
  d_law : FuncData
  Curve : Addr
  t_MAX_VALUES : Tok
  t_MAX_VALUE : Tok
  t_MAX_LATER : Tok
  t_MAX_IN_PIECE : Tok
  t_LONGEST_PERIOD : Tok
  a_PERIODS : Addr
structure Txt (K : PySem.W.Frag) (mg : Str → Option Value) (A : Ad) : Prop where
  fun_lcm : mg "lcm" = some (.builtin "math.lcm")
  fun_gcd : mg "gcd" = some (.builtin "math.gcd")
  ic_Curve : VN.IsC K A.Curve
  sf_Curve : PySem.W.selfFirst K A.Curve = true
  F_is_integer : Fun K "is_integer" "is_integer" s_is_integer A.f_is_integer A.d_is_integer
  m_is_integer : mg "is_integer" = some (.ref A.f_is_integer)
  k_is_integer : PySem.W.keepIn K (.ref A.f_is_integer) = true
  b_is_integer : Binds K A.d_is_integer ["value"] []
  F_is_count : Fun K "is_count" "is_count" s_is_count A.f_is_count A.d_is_count
  m_is_count : mg "is_count" = some (.ref A.f_is_count)
  k_is_count : PySem.W.keepIn K (.ref A.f_is_count) = true
  b_is_count : Binds K A.d_is_count ["value"] []
  F_is_count_to : Fun K "is_count_to" "is_count_to" s_is_count_to A.f_is_count_to A.d_is_count_to
  m_is_count_to : mg "is_count_to" = some (.ref A.f_is_count_to)
  k_is_count_to : PySem.W.keepIn K (.ref A.f_is_count_to) = true
  b_is_count_to : Binds K A.d_is_count_to ["value", "most"] []
  F_require_count_to : Fun K "require_count_to" "require_count_to" s_require_count_to A.f_require_count_to A.d_require_count_to
  m_require_count_to : mg "require_count_to" = some (.ref A.f_require_count_to)
  k_require_count_to : PySem.W.keepIn K (.ref A.f_require_count_to) = true
  b_require_count_to : Binds K A.d_require_count_to ["value", "most"] []
  F_rounded_up : Fun K "rounded_up" "rounded_up" s_rounded_up A.f_rounded_up A.d_rounded_up
  m_rounded_up : mg "rounded_up" = some (.ref A.f_rounded_up)
  k_rounded_up : PySem.W.keepIn K (.ref A.f_rounded_up) = true
  b_rounded_up : Binds K A.d_rounded_up ["units", "parts"] []
  F_value_at : Fun K "value_at" "value_at" s_value_at A.f_value_at A.d_value_at
  m_value_at : mg "value_at" = some (.ref A.f_value_at)
  k_value_at : PySem.W.keepIn K (.ref A.f_value_at) = true
  b_value_at : Binds K A.d_value_at ["values", "period", "gain", "length"] []
  F_least_form : Fun K "least_form" "least_form" s_least_form A.f_least_form A.d_least_form
  m_least_form : mg "least_form" = some (.ref A.f_least_form)
  k_least_form : PySem.W.keepIn K (.ref A.f_least_form) = true
  b_least_form : Binds K A.d_least_form ["values", "period", "gain"] []
  F_least_period : Fun K "least_period" "least_period" s_least_period A.f_least_period A.d_least_period
  m_least_period : mg "least_period" = some (.ref A.f_least_period)
  k_least_period : PySem.W.keepIn K (.ref A.f_least_period) = true
  b_least_period : Binds K A.d_least_period ["row", "many", "period"] []
  F_form_of_pieces : Fun K "form_of_pieces" "form_of_pieces" s_form_of_pieces A.f_form_of_pieces A.d_form_of_pieces
  m_form_of_pieces : mg "form_of_pieces" = some (.ref A.f_form_of_pieces)
  k_form_of_pieces : PySem.W.keepIn K (.ref A.f_form_of_pieces) = true
  b_form_of_pieces : Binds K A.d_form_of_pieces ["pieces"] []
  F_line_at : Fun K "line_at" "line_at" s_line_at A.f_line_at A.d_line_at
  m_line_at : mg "line_at" = some (.ref A.f_line_at)
  k_line_at : PySem.W.keepIn K (.ref A.f_line_at) = true
  b_line_at : Binds K A.d_line_at ["piece", "length"] []
  F_C_of_pieces : Fun K "of_pieces" "Curve.of_pieces" s_C_of_pieces A.f_C_of_pieces A.d_C_of_pieces
  cm_of_pieces : ClX.CMet K A.Curve (.type "type") "of_pieces" A.p_C_of_pieces A.f_C_of_pieces
  rd_Curve : ClX.CRead K A.Curve (.type "type")
  F_C_eq : Fun K "__eq__" "Curve.__eq__" s_C_eq A.f_C_eq A.d_C_eq
  b_C_eq : Binds K A.d_C_eq ["self", "other"] []
  me___eq__ : Meth K A.Curve "__eq__" A.f_C_eq
  F_C_repr : Fun K "__repr__" "Curve.__repr__" s_C_repr A.f_C_repr A.d_C_repr
  b_C_repr : Binds K A.d_C_repr ["self"] []
  me___repr__ : Meth K A.Curve "__repr__" A.f_C_repr
  F_C_str : Fun K "__str__" "Curve.__str__" s_C_str A.f_C_str A.d_C_str
  b_C_str : Binds K A.d_C_str ["self"] []
  me___str__ : Meth K A.Curve "__str__" A.f_C_str
  F_C_add : Fun K "__add__" "Curve.__add__" s_C_add A.f_C_add A.d_C_add
  b_C_add : Binds K A.d_C_add ["self", "other"] []
  me___add__ : Meth K A.Curve "__add__" A.f_C_add
  F_C_period : Fun K "period" "Curve.period" s_C_period A.f_C_period A.d_C_period
  b_C_period : Binds K A.d_C_period ["self"] []
  pr_C_period : PropOf K A.Curve "period" A.p_C_period A.f_C_period
  F_C_gain : Fun K "gain" "Curve.gain" s_C_gain A.f_C_gain A.d_C_gain
  b_C_gain : Binds K A.d_C_gain ["self"] []
  pr_C_gain : PropOf K A.Curve "gain" A.p_C_gain A.f_C_gain
  F_C_rate : Fun K "rate" "Curve.rate" s_C_rate A.f_C_rate A.d_C_rate
  b_C_rate : Binds K A.d_C_rate ["self"] []
  pr_C_rate : PropOf K A.Curve "rate" A.p_C_rate A.f_C_rate
  F_C_first_values : Fun K "first_values" "Curve.first_values" s_C_first_values A.f_C_first_values A.d_C_first_values
  b_C_first_values : Binds K A.d_C_first_values ["self"] []
  me_first_values : Meth K A.Curve "first_values" A.f_C_first_values
  F_C_at : Fun K "at" "Curve.at" s_C_at A.f_C_at A.d_C_at
  b_C_at : Binds K A.d_C_at ["self", "length"] []
  me_at : Meth K A.Curve "at" A.f_C_at
  F_C_at_most : Fun K "at_most" "Curve.at_most" s_C_at_most A.f_C_at_most A.d_C_at_most
  b_C_at_most : Binds K A.d_C_at_most ["self", "other"] []
  me_at_most : Meth K A.Curve "at_most" A.f_C_at_most
  F_C_later : Fun K "later" "Curve.later" s_C_later A.f_C_later A.d_C_later
  b_C_later : Binds K A.d_C_later ["self", "ticks"] []
  me_later : Meth K A.Curve "later" A.f_C_later
  F_make_curve : Fun K "make_curve" "make_curve" s_make_curve A.f_make_curve A.d_make_curve
  m_make_curve : mg "make_curve" = some (.ref A.f_make_curve)
  k_make_curve : PySem.W.keepIn K (.ref A.f_make_curve) = true
  b_make_curve : Binds K A.d_make_curve ["values", "period", "gain"] []
  F_find_problem : Fun K "find_problem" "find_problem" s_find_problem A.f_find_problem A.d_find_problem
  m_find_problem : mg "find_problem" = some (.ref A.f_find_problem)
  k_find_problem : PySem.W.keepIn K (.ref A.f_find_problem) = true
  b_find_problem : Binds K A.d_find_problem ["values", "period", "gain"] []
  F_find_wrong_piece : Fun K "find_wrong_piece" "find_wrong_piece" s_find_wrong_piece A.f_find_wrong_piece A.d_find_wrong_piece
  m_find_wrong_piece : mg "find_wrong_piece" = some (.ref A.f_find_wrong_piece)
  k_find_wrong_piece : PySem.W.keepIn K (.ref A.f_find_wrong_piece) = true
  b_find_wrong_piece : Binds K A.d_find_wrong_piece ["pieces"] []
  F_is_piece : Fun K "is_piece" "is_piece" s_is_piece A.f_is_piece A.d_is_piece
  m_is_piece : mg "is_piece" = some (.ref A.f_is_piece)
  k_is_piece : PySem.W.keepIn K (.ref A.f_is_piece) = true
  b_is_piece : Binds K A.d_is_piece ["value"] []
  F_common_writing : Fun K "common_writing" "common_writing" s_common_writing A.f_common_writing A.d_common_writing
  m_common_writing : mg "common_writing" = some (.ref A.f_common_writing)
  k_common_writing : PySem.W.keepIn K (.ref A.f_common_writing) = true
  b_common_writing : Binds K A.d_common_writing ["one", "other"] []
  F_gain_in : Fun K "gain_in" "gain_in" s_gain_in A.f_gain_in A.d_gain_in
  m_gain_in : mg "gain_in" = some (.ref A.f_gain_in)
  k_gain_in : PySem.W.keepIn K (.ref A.f_gain_in) = true
  b_gain_in : Binds K A.d_gain_in ["curve", "ticks"] []
  F_tightest : Fun K "tightest" "tightest" s_tightest A.f_tightest A.d_tightest
  m_tightest : mg "tightest" = some (.ref A.f_tightest)
  k_tightest : PySem.W.keepIn K (.ref A.f_tightest) = true
  b_tightest : Binds K A.d_tightest ["record"] []
  F_require_record : Fun K "require_record" "require_record" s_require_record A.f_require_record A.d_require_record
  m_require_record : mg "require_record" = some (.ref A.f_require_record)
  k_require_record : PySem.W.keepIn K (.ref A.f_require_record) = true
  b_require_record : Binds K A.d_require_record ["record"] []
  F_sums_before : Fun K "sums_before" "sums_before" s_sums_before A.f_sums_before A.d_sums_before
  m_sums_before : mg "sums_before" = some (.ref A.f_sums_before)
  k_sums_before : PySem.W.keepIn K (.ref A.f_sums_before) = true
  b_sums_before : Binds K A.d_sums_before ["record"] []
  F_window_sums : Fun K "window_sums" "window_sums" s_window_sums A.f_window_sums A.d_window_sums
  m_window_sums : mg "window_sums" = some (.ref A.f_window_sums)
  k_window_sums : PySem.W.keepIn K (.ref A.f_window_sums) = true
  b_window_sums : Binds K A.d_window_sums ["sums", "length"] []
  F_l_rng : Fun K "_law_rng" "_law_rng" s_l_rng A.f_l_rng A.d_l_rng
  m_l_rng : mg "_law_rng" = some (.ref A.f_l_rng)
  k_l_rng : PySem.W.keepIn K (.ref A.f_l_rng) = true
  b_l_rng : Binds K A.d_l_rng ["_law_script", "_law_k"] []
  F_l_draw : Fun K "_law_draw" "_law_draw" s_l_draw A.f_l_draw A.d_l_draw
  m_l_draw : mg "_law_draw" = some (.ref A.f_l_draw)
  k_l_draw : PySem.W.keepIn K (.ref A.f_l_draw) = true
  b_l_draw : Binds K A.d_l_draw ["_law_rng_here", "_law_many"] []
  F_l_choice : Fun K "_law_choice" "_law_choice" s_l_choice A.f_l_choice A.d_l_choice
  m_l_choice : mg "_law_choice" = some (.ref A.f_l_choice)
  k_l_choice : PySem.W.keepIn K (.ref A.f_l_choice) = true
  b_l_choice : Binds K A.d_l_choice ["_law_rng_here", "_law_some"] []
  F_l_at : Fun K "_law_at" "_law_at" s_l_at A.f_l_at A.d_l_at
  m_l_at : mg "_law_at" = some (.ref A.f_l_at)
  k_l_at : PySem.W.keepIn K (.ref A.f_l_at) = true
  b_l_at : Binds K A.d_l_at ["_law_row", "_law_span"] []
  F_l_written : Fun K "_law_written" "_law_written" s_l_written A.f_l_written A.d_l_written
  m_l_written : mg "_law_written" = some (.ref A.f_l_written)
  k_l_written : PySem.W.keepIn K (.ref A.f_l_written) = true
  b_l_written : Binds K A.d_l_written ["_law_rng_here"] []
  F_l_nearly : Fun K "_law_nearly" "_law_nearly" s_l_nearly A.f_l_nearly A.d_l_nearly
  m_l_nearly : mg "_law_nearly" = some (.ref A.f_l_nearly)
  k_l_nearly : PySem.W.keepIn K (.ref A.f_l_nearly) = true
  b_l_nearly : Binds K A.d_l_nearly ["_law_rng_here", "_law_row"] []
  F_l_values : Fun K "_law_values" "_law_values" s_l_values A.f_l_values A.d_l_values
  m_l_values : mg "_law_values" = some (.ref A.f_l_values)
  k_l_values : PySem.W.keepIn K (.ref A.f_l_values) = true
  b_l_values : Binds K A.d_l_values ["_law_row", "_law_many"] []
  F_l_line : Fun K "_law_line" "_law_line" s_l_line A.f_l_line A.d_l_line
  m_l_line : mg "_law_line" = some (.ref A.f_l_line)
  k_l_line : PySem.W.keepIn K (.ref A.f_l_line) = true
  b_l_line : Binds K A.d_l_line ["_law_piece", "_law_span"] []
  F_l_made : Fun K "_law_made" "_law_made" s_l_made A.f_l_made A.d_l_made
  m_l_made : mg "_law_made" = some (.ref A.f_l_made)
  k_l_made : PySem.W.keepIn K (.ref A.f_l_made) = true
  b_l_made : Binds K A.d_l_made ["_law_rng_here", "_law_row"] []
  F_l_shown : Fun K "_law_shown" "_law_shown" s_l_shown A.f_l_shown A.d_l_shown
  m_l_shown : mg "_law_shown" = some (.ref A.f_l_shown)
  k_l_shown : PySem.W.keepIn K (.ref A.f_l_shown) = true
  b_l_shown : Binds K A.d_l_shown ["_law_curve"] []
  F_l_pair_right : Fun K "_law_pair_right" "_law_pair_right" s_l_pair_right A.f_l_pair_right A.d_l_pair_right
  m_l_pair_right : mg "_law_pair_right" = some (.ref A.f_l_pair_right)
  k_l_pair_right : PySem.W.keepIn K (.ref A.f_l_pair_right) = true
  b_l_pair_right : Binds K A.d_l_pair_right ["_law_first", "_law_second"] []
  F_law : Fun K "law" "law" s_law A.f_law A.d_law
  m_law : mg "law" = some (.ref A.f_law)
  k_law : PySem.W.keepIn K (.ref A.f_law) = true
  b_law : Binds K A.d_law ["_law_script"] []
  abs : mg "abs" = none
  all : mg "all" = none
  bool : mg "bool" = none
  divmod : mg "divmod" = none
  enumerate : mg "enumerate" = none
  int : mg "int" = none
  isinstance : mg "isinstance" = none
  len : mg "len" = none
  list : mg "list" = none
  max : mg "max" = none
  min : mg "min" = none
  range : mg "range" = none
  repr : mg "repr" = none
  str : mg "str" = none
  sum : mg "sum" = none
  tuple : mg "tuple" = none
  zip : mg "zip" = none
  v_MAX_VALUES : mg "MAX_VALUES" = some (.int 24 A.t_MAX_VALUES)
  v_MAX_VALUE : mg "MAX_VALUE" = some (.int 2000 A.t_MAX_VALUE)
  v_MAX_LATER : mg "MAX_LATER" = some (.int 100 A.t_MAX_LATER)
  v_MAX_IN_PIECE : mg "MAX_IN_PIECE" = some (.int 60 A.t_MAX_IN_PIECE)
  v_LONGEST_PERIOD : mg "LONGEST_PERIOD" = some (.int 12 A.t_LONGEST_PERIOD)
  v_PERIODS : mg "PERIODS" = some (.ref A.a_PERIODS)
  periods : ∀ H, SqT K H A.a_PERIODS [.int 1, .int 2, .int 3, .int 4, .int 6, .int 12]
  m_Curve : mg "Curve" = some (.ref A.Curve)
  cl : Cls K A.Curve
  n_values : NoAttr K A.Curve "_values"
  n_period : NoAttr K A.Curve "_period"
  n_gain : NoAttr K A.Curve "_gain"
  n_was_searched : NoAttr K A.Curve "_was_searched"
  n_break : NoAttr K A.Curve "_break"
  F_C_init : FunD K "__init__" "Curve.__init__" (defArgs s_C_init) (defBody s_C_init) (defScope s_C_init) [] [("period", .int 1), ("gain", .int 0)] A.f_C_init A.d_C_init
  M_Curve : Mk K A.Curve A.f_C_init
/-! ### counts -/
/-- the built-in classes of the values that occur -/
def kinds : List String := ["NoneType", "bool", "int", "str", "list", "tuple", "dict"]
def Kd (K : PySem.W.Frag) (H : Hp) (v : V) (n : String) : Prop := TyX K H v (.type n) ∧ n ∈ kinds
theorem Kd.int {K : PySem.W.Frag} {H : Hp} (i : Int) : Kd K H (.int i) "int" := ⟨.base (.int i), by decide⟩
theorem Kd.is_int {K : PySem.W.Frag} {H : Hp} {v : V} (h : Kd K H v "int") : ∃ i, v = .int i := by
  obtain ⟨h, _⟩ := h
  generalize e : Value.type "int" = t at h
  cases h with
  | base b => cases b <;> first | exact ⟨_, rfl⟩ | (injection e with e; exact absurd e (by decide)) | cases e
  | _ => first | (injection e with e; exact absurd e (by decide)) | cases e
/-- a count -/
def cnt : V → Bool
  | .int i => decide (0 ≤ i)
  | _ => false
def cntTo (m : Int) : V → Bool
  | .int i => decide (0 ≤ i ∧ i ≤ m)
  | _ => false
def sp_is_integer (K : PySem.W.Frag) (_ : Ad) : Sp := fun vs H Q _ => ∃ v n, vs = [v] ∧ Kd K H v n ∧ Q (.bl (n == "int")) H
def sp_is_count (K : PySem.W.Frag) (_ : Ad) : Sp := fun vs H Q _ => ∃ v n, vs = [v] ∧ Kd K H v n ∧ Q (.bl (cnt v)) H
def sp_require_count_to (_ : PySem.W.Frag) (_ : Ad) : Sp := fun vs H Q _ => ∃ n m : Int, vs = [.int n, .int m] ∧ 0 ≤ n ∧ n ≤ m ∧ Q .non H
def sp_is_count_to (K : PySem.W.Frag) (_ : Ad) : Sp := fun vs H Q _ => ∃ v n m, vs = [v, .int m] ∧ Kd K H v n ∧ Q (.bl (cntTo m v)) H
def sp_rounded_up (_ : PySem.W.Frag) (_ : Ad) : Sp := fun vs H Q _ => ∃ (u p : Int), vs = [.int u, .int p] ∧ 0 < p ∧ p < 1073741824 ∧ Q (.int ((u + p - 1) / p)) H
section
variable {P : Program} {w : World} {K : PySem.W.Frag} {mg : Str → Option Value} {base : Heap} {A : Ad}
theorem kitI {n : String} (h : n ∈ kinds) : PySem.W.kitOne K (.type n) (.type "int") = some (n == "int" || n == "bool") := by
  simp only [kinds, List.mem_cons, List.not_mem_nil, or_false] at h
  rcases h with rfl | rfl | rfl | rfl | rfl | rfl | rfl <;> exact kit_ty (by decide +kernel)
theorem kitB' {n : String} (h : n ∈ kinds) : PySem.W.kitOne K (.type n) (.type "bool") = some (n == "bool") := by
  simp only [kinds, List.mem_cons, List.not_mem_nil, or_false] at h
  rcases h with rfl | rfl | rfl | rfl | rfl | rfl | rfl <;> exact kit_ty (by decide +kernel)
theorem ok_is_integer (T : Txt K mg A) : FnOk P w K mg base CX0 1 A.f_is_integer A.d_is_integer ["value"] (sp_is_integer K A) := by
  refine T.F_is_integer.ok sc_is_integer (fun vs H Q E h => ?_) (fun cdv A0 outer s H vs Q E hr h => ?_)
  · obtain ⟨v, n, rfl, hk, q⟩ := h
    rfl
  · obtain ⟨v, n, rfl, hk, q⟩ := h
    refine ⟨_, (pss_one (ps_ret (pe_and (pe_callB (r := rIsi K) call_isi (by rfl) T.isinstance (by decide +kernel) (pa_cons (pv 0) (pa_cons (pe_bltn (v := .ty "int") (u := .type "int") (by rfl) T.int (by decide +kernel) (by exact rfl)) pa_nil))) (pe_one (pe_not (pe_callB (r := rIsi K) call_isi (by rfl) T.isinstance (by decide +kernel) (pa_cons (pv 0) (pa_cons (pe_bltn (v := .ty "bool") (u := .type "bool") (by rfl) T.bool (by decide +kernel) (by exact rfl)) pa_nil)))))))), ?_⟩
    refine ⟨_, rfl, v, .ty "int", _, _, _, rfl, .ty _, hk.1, kitI hk.2, _, rfl, ?_⟩
    refine ite2 (fun c => ?_) (fun c => ?_)
    · refine ⟨_, rfl, v, .ty "bool", _, _, _, rfl, .ty _, hk.1, kitB' hk.2, _, rfl, ?_⟩
      by_cases e : n = "bool"
      · subst e; exact q
      · have e1 : (n == "bool") = false := by simpa using e
        rw [e1] at c ⊢
        simp at c
        subst c
        exact q
    · simp at c
      have e1 : (n == "int") = false := by simpa using c.1
      rw [e1] at q
      exact q
theorem ok_is_count (T : Txt K mg A) : FnOk P w K mg base CX0 2 A.f_is_count A.d_is_count ["value"] (sp_is_count K A) := by
  have G_is_integer := ok_is_integer (P := P) (w := w) (base := base) T
  refine T.F_is_count.ok sc_is_count (fun vs H Q E h => ?_) (fun cdv A0 outer s H vs Q E hr h => ?_)
  · obtain ⟨v, n, rfl, hk, q⟩ := h
    rfl
  · obtain ⟨v, n, rfl, hk, q⟩ := h
    refine ⟨_, (pss_one (ps_ret (pe_and (pe_call G_is_integer (hr.mono (by decide)) rfl T.m_is_integer T.k_is_integer T.b_is_integer .nil pass0 (pa_cons (pv 0) pa_nil)) (pe_one (pe_cmpR op_ge (pv 0) pe_int (nomark _)))))), ?_⟩
    refine ⟨_, rfl, v, n, rfl, hk, _, rfl, ?_⟩
    refine ite2 (fun c => ?_) (fun c => ?_)
    · have e : n = "int" := by simpa using c
      subst e
      obtain ⟨i, rfl⟩ := hk.is_int
      exact ⟨_, rfl, _, _, rfl, rfl, q⟩
    · have e : cnt v = false := by
        cases v <;> first | rfl | skip
        obtain ⟨h, _⟩ := hk
        generalize et : Value.type n = t at h
        cases h with
        | base b => cases b; injection et with et; subst et; exact absurd rfl c
      rw [e] at q
      exact q
theorem ok_is_count_to (T : Txt K mg A) : FnOk P w K mg base CX0 3 A.f_is_count_to A.d_is_count_to ["value", "most"] (sp_is_count_to K A) := by
  have G_is_count := ok_is_count (P := P) (w := w) (base := base) T
  refine T.F_is_count_to.ok sc_is_count_to (fun vs H Q E h => ?_) (fun cdv A0 outer s H vs Q E hr h => ?_)
  · obtain ⟨v, n, m, rfl, hk, q⟩ := h
    rfl
  · obtain ⟨v, n, m, rfl, hk, q⟩ := h
    refine ⟨_, (pss_one (ps_ret (pe_and (pe_call G_is_count (hr.mono (by decide)) rfl T.m_is_count T.k_is_count T.b_is_count .nil pass0 (pa_cons (pv 0) pa_nil)) (pe_one (pe_cmpR op_le (pv 0) (pv 1) (nomark _)))))), ?_⟩
    refine ⟨_, rfl, v, n, rfl, hk, _, rfl, ?_⟩
    refine ite2 (fun c => ?_) (fun c => ?_)
    · cases v with
      | int i =>
        have c : 0 ≤ i := by simpa [cnt] using c
        refine ⟨_, rfl, _, rfl, _, _, rfl, rfl, ?_⟩
        have e : cntTo m (.int i) = decide (i ≤ m) := by unfold cntTo; simp [c]
        rw [e] at q
        exact q
      | _ => simp [cnt] at c
    · have e : cntTo m v = false := by
        cases v <;> first | rfl | skip
        rename_i i
        have c : ¬ 0 ≤ i := by simpa [cnt] using c
        unfold cntTo; simp [c]
      rw [e] at q
      exact q
theorem ok_require_count_to (T : Txt K mg A) : FnOk P w K mg base CX0 4 A.f_require_count_to A.d_require_count_to ["value", "most"] (sp_require_count_to K A) := by
  have G_is_count_to := ok_is_count_to (P := P) (w := w) (base := base) T
  refine T.F_require_count_to.ok sc_require_count_to (fun vs H Q E h => ?_) (fun cdv A0 outer s H vs Q E hr h => ?_)
  · obtain ⟨n, m, rfl, h, h2, q⟩ := h
    rfl
  · obtain ⟨n, m, rfl, h, h2, q⟩ := h
    refine ⟨_, (pss_one (ps_if (pt_not (pt_val (pe_call G_is_count_to (hr.mono (by decide)) rfl T.m_is_count_to T.k_is_count_to T.b_is_count_to .nil pass0 (pa_cons (pv 0) (pa_cons (pv 1) pa_nil))))) (pss_one ps_never) pss_nil)), ?_⟩
    refine ⟨_, rfl, _, rfl, _, _, _, rfl, Kd.int _, ?_⟩
    have e1 : cntTo m (.int n) = true := by unfold cntTo; exact decide_eq_true ⟨h, h2⟩
    rw [e1]
    exact ⟨_, rfl, iteF q⟩
theorem ok_rounded_up (T : Txt K mg A) : FnOk P w K mg base CX0 1 A.f_rounded_up A.d_rounded_up ["units", "parts"] (sp_rounded_up K A) := by
  refine T.F_rounded_up.ok sc_rounded_up (fun vs H Q E h => ?_) (fun cdv A0 outer s H vs Q E hr h => ?_)
  · obtain ⟨u, p, rfl, h1, h2, q⟩ := h
    rfl
  · obtain ⟨u, p, rfl, h1, h2, q⟩ := h
    refine ⟨_, (pss_one (ps_ret (pe_op op_fdiv (pe_op op_sub (pe_op op_add (pv 0) (pv 1)) pe_int) (pv 1)))), ?_⟩
    exact ⟨_, rfl, _, rfl, _, _, rfl, rfl, _, _, rfl, rfl, _, rfl, _, _, rfl, rfl, ⟨h1, h2⟩, q⟩
end
end VK


namespace VK
open PySem PySem.Spec PyProof.Rows L2 VM
theorem getD_map {xs : List Int} {j : Nat} (h : j < xs.length) : (xs.map V.int)[j]? = some (.int (xs.getD j 0)) := by
  rw [List.getElem?_map, List.getD_eq_getElem?_getD, List.getElem?_eq_getElem h]
  rfl
theorem at_map {xs : List Int} {i : Int} (h0 : 0 ≤ i) (h : i < xs.length) : atI (xs.map V.int) i = some (.int (xs.getD i.toNat 0)) := by
  have e : i = ((i.toNat : Nat) : Int) := by omega
  rw [e]
  exact atI_nat (getD_map (by omega))
theorem at_back {xs : List Int} {i : Int} (h0 : i < 0) (h : -(xs.length : Int) ≤ i) : atI (xs.map V.int) i = some (.int (xs.getD (i + xs.length).toNat 0)) := by
  unfold atI ixN
  rw [if_neg (by omega), List.length_map, if_pos h]
  show (xs.map V.int)[_]? = _
  exact getD_map (by omega)
theorem deq_int {a b : Int} : decide (V.int a = V.int b) = decide (a = b) := by
  by_cases h : a = b
  · subst h; simp
  · rw [decide_eq_false h, decide_eq_false (fun q => h (V.int.inj q))]
/-- a test of two ints on equality -/
theorem ifEq {a b : Int} {X Y : Prop} (h1 : a = b → X) (h2 : a ≠ b → Y) : if decide (V.int a = V.int b) = true then X else Y := by
  rw [deq_int]
  exact ite2 (fun c => h1 (of_decide_eq_true c)) fun c => h2 fun e => c (decide_eq_true e)
theorem ifD {c X Y : Prop} [Decidable c] (h1 : c → X) (h2 : ¬ c → Y) : if decide c = true then X else Y :=
  ite2 (fun e => h1 (of_decide_eq_true e)) fun e => h2 fun q => e (decide_eq_true q)
def sp_value_at (K : PySem.W.Frag) (_ : Ad) : Sp := fun vs H Q _ => ∃ (l : Addr) (xs : List Int) (p g t : Int), vs = [.ref l, .int p, .int g, .int t] ∧
  SqL K H l (xs.map V.int) ∧ 0 < p ∧ p ≤ xs.length ∧ xs.length ≤ 1000 ∧ 0 ≤ t ∧ t < 2 ^ 62 ∧ Q (.int (cvAt xs p g t)) H
section
variable {P : Program} {w : World} {K : PySem.W.Frag} {mg : Str → Option Value} {base : Heap} {A : Ad}
theorem ok_value_at (T : Txt K mg A) : FnOk P w K mg base CX0 2 A.f_value_at A.d_value_at ["values", "period", "gain", "length"] (sp_value_at K A) := by
  have G_rounded_up := ok_rounded_up (P := P) (w := w) (base := base) T
  refine T.F_value_at.ok sc_value_at (fun vs H Q E h => ?_) (fun cdv A0 outer s H vs Q E hr h => ?_)
  · obtain ⟨l, xs, p, g, t, rfl, hS, hp, hpn, hn, ht, htb, q⟩ := h
    rfl
  · obtain ⟨l, xs, p, g, t, rfl, hS, hp, hpn, hn, ht, htb, q⟩ := h
    refine ⟨_, (pss_cons (ps_if (pt_cmpR op_eq (pv 3) pe_int (nomark _)) (pss_one (ps_ret pe_int)) pss_nil)
    (pss_cons (ps_if (pt_cmpR op_le (pv 3) (pe_callB (r := VG.rLen K) VG.call_len (by rfl) T.len (by decide +kernel) (pa_cons (pv 0) pa_nil)) (nomark _)) (pss_one (ps_ret (pe_ix (r := rIxL K) ix_list (pv 0) (pe_op op_sub (pv 3) pe_int) (fun _ _ => rfl)))) pss_nil)
    (pss_cons (ps_set (i := 4) sc_value_at.nd rfl (by first | exact Or.inl rfl | exact Or.inr rfl) (pe_call G_rounded_up (hr.mono (by decide)) rfl T.m_rounded_up T.k_rounded_up T.b_rounded_up .nil pass0 (pa_cons (pe_op op_sub (pv 3) (pe_callB (r := VG.rLen K) VG.call_len (by rfl) T.len (by decide +kernel) (pa_cons (pv 0) pa_nil))) (pa_cons (pv 1) pa_nil))))
    (pss_one (ps_ret (pe_op op_add (pe_ix (r := rIxL K) ix_list (pv 0) (pe_op op_sub (pe_op op_sub (pv 3) (pe_op op_mul (pv 4) (pv 1))) pe_int) (fun _ _ => rfl)) (pe_op op_mul (pv 4) (pv 2)))))))), ?_⟩
    refine ⟨_, rfl, rfl, _, rfl, ifEq (fun c => ?_) (fun c => ?_)⟩
    · subst c
      rw [cvAt_zero] at q
      exact q
    refine ⟨_, rfl, _, rfl, l, _, rfl, .inl hS, _, _, rfl, rfl, _, rfl, ifD (fun c1 => ?_) (fun c1 => ?_)⟩
    · rw [List.length_map] at c1
      rw [cvAt_in (by omega) c1] at q
      exact ⟨_, rfl, _, rfl, _, _, rfl, rfl, l, _, _, _, rfl, rfl, hS, at_map (by omega) (by omega), q⟩
    · rw [List.length_map] at c1
      obtain ⟨r1, r2, r3⟩ := rounds_spec (n := (xs.length : Int)) (t := t) hp (by omega)
      have rb : (t - (xs.length : Int) + p - 1) / p ≤ t := by
        have := Int.ediv_le_self p (show 0 ≤ t - (xs.length : Int) + p - 1 by omega)
        omega
      refine ⟨_, rfl, _, rfl, l, _, rfl, .inl hS, _, _, rfl, rfl, _, rfl, _, _, rfl, hp, by omega, ?_⟩
      rw [List.length_map]
      refine ⟨_, rfl, _, rfl, _, rfl, _, rfl, _, _, rfl, rfl, .inl ⟨by omega, by omega⟩, _, _, rfl, rfl, _, _, rfl, rfl, l, _, _, _, rfl, rfl, hS, at_map (by omega) (by omega),
        _, rfl, _, rfl, _, _, rfl, rfl, .inl ⟨by omega, by omega⟩, _, _, rfl, rfl, ?_⟩
      unfold cvAt at q
      rw [if_neg c, if_neg c1] at q
      exact q
end
end VK


namespace VK
open PySem PySem.Spec PyProof.Rows L2 VM
/-- f's values at 0, 1, .. below m -/
def row (f : Int → Int) (m : Nat) : List Int := (List.range m).map fun (i : Nat) => f i
theorem row_length {f : Int → Int} {m : Nat} : (row f m).length = m := by simp [row]
theorem row_getD {f : Int → Int} {m i : Nat} (h : i < m) : (row f m).getD i 0 = f i := by
  unfold row
  rw [List.getD_eq_getElem?_getD, List.getElem?_map, List.getElem?_range h]
  rfl
theorem at_row {f : Int → Int} {m : Nat} {i : Int} (h0 : 0 ≤ i) (h : i < m) : atI ((row f m).map V.int) i = some (.int (f i)) := by
  rw [at_map h0 (by rw [row_length]; exact h), row_getD (by omega)]
  congr 3; omega
theorem row_succ {f : Int → Int} {m : Nat} : row f (m + 1) = row f m ++ [f m] := by
  unfold row; rw [List.range_succ, List.map_append]; rfl
theorem rowI_succ {f : Int → Int} {m : Nat} : (row f (m + 1)).map V.int = (row f m).map V.int ++ [V.int (f m)] := by
  rw [row_succ, List.map_append]; rfl
theorem small {n : Nat} (h : n ≤ 16777215) : n < sizeLine := by rw [sizeLine_eq]; omega
/-- a new object leaves what was tracked -/
theorem Same.upd {H H' : Hp} {p : Addr} {o : HO} (e : Same H H') (h : H p = none) : Same H (upd H' p o) := fun b u q => by
  rw [upd_ne (ne_of_none q h)]; exact e b u q
theorem steps_eq {f : Int → Int} {n p d m M : Int} (hp : 0 < p)
    (h1 : m ∈ row (fun i => f (n + 1 + i) - f (n + 1 + i - d)) p.toNat) (h2 : ∀ y ∈ row (fun i => f (n + 1 + i) - f (n + 1 + i - d)) p.toNat, m ≤ y)
    (h4 : ∀ y ∈ row (fun i => f (n + 1 + i) - f (n + 1 + i - d)) p.toNat, y ≤ M) (h3 : M ∈ row (fun i => f (n + 1 + i) - f (n + 1 + i - d)) p.toNat) :
    m = M ↔ stepsEq f n p d = true := by
  have mem : ∀ y, y ∈ row (fun i => f (n + 1 + i) - f (n + 1 + i - d)) p.toNat ↔ ∃ i : Nat, i < p.toNat ∧ f (n + 1 + i) - f (n + 1 + i - d) = y := by
    intro y
    unfold row
    rw [List.mem_map]
    exact ⟨fun ⟨i, a, b⟩ => ⟨i, List.mem_range.mp a, b⟩, fun ⟨i, a, b⟩ => ⟨i, List.mem_range.mpr a, b⟩⟩
  have f0 := (mem (f (n + 1 + (0 : Nat)) - f (n + 1 + (0 : Nat) - d))).mpr ⟨0, by omega, rfl⟩
  have z : n + 1 + ((0 : Nat) : Int) = n + 1 := by omega
  rw [z] at f0
  unfold stepsEq
  rw [List.all_eq_true]
  constructor
  · intro e i hi
    have hy := (mem _).mpr ⟨i, List.mem_range.mp hi, rfl⟩
    have a := h2 _ hy; have b := h4 _ hy
    have c := h2 _ f0; have d' := h4 _ f0
    exact decide_eq_true (by omega)
  · intro h
    obtain ⟨i, hi, ei⟩ := (mem m).mp h1
    obtain ⟨j, hj, ej⟩ := (mem M).mp h3
    have a := of_decide_eq_true (h i (List.mem_range.mpr hi))
    have b := of_decide_eq_true (h j (List.mem_range.mpr hj))
    omega
def sp_least_period (K : PySem.W.Frag) (_ : Ad) : Sp := fun vs H Q _ => ∃ (l : Addr) (f : Int → Int) (n p : Int), vs = [.ref l, .int n, .int p] ∧
  SqL K H l ((row f (n + p + 1).toNat).map V.int) ∧ 0 < p ∧ 0 ≤ n ∧ p ≤ 1000 ∧ n ≤ 1000 ∧ p ≤ n ∧
  ∀ H' t, Same H H' → H t = none → H' t = some (.tup [.int (leastP f n p).1, .int (leastP f n p).2]) → Q (.ref t) H'
section
variable {P : Program} {w : World} {K : PySem.W.Frag} {mg : Str → Option Value} {base : Heap} {A : Ad}
theorem ok_least_period (T : Txt K mg A) : FnOk P w K mg base CX0 1 A.f_least_period A.d_least_period ["row", "many", "period"] (sp_least_period K A) := by
  refine T.F_least_period.ok sc_least_period (fun vs H Q E h => ?_) (fun cdv A0 outer s H vs Q E hr h => ?_)
  · obtain ⟨l, f, n, p, rfl, hS, hp, hn, hpb, hnb, hpn, k⟩ := h
    rfl
  · obtain ⟨l, f, n, p, rfl, hS, hp, hn, hpb, hnb, hpn, k⟩ := h
    refine ⟨_, (pss_cons (ps_for PassesOwn.never rfl (pi_range2 rfl T.range (pa_cons pe_int (pa_cons (pv 2) pa_nil))) (pg_name (i := 3) sc_least_period.nd rfl (by first | exact Or.inl rfl | exact Or.inr rfl))
      (pss_one (ps_if (pt_cmpR op_eq (pe_op op_mod (pv 2) (pv 3)) pe_int (nomark _)) (pss_cons (ps_setLc (i := 4) (own := [("length", 5)]) (g := gName 5) (tt := tYes) rfl sc_least_period.nd rfl rfl (sw_true rfl rfl rfl (by decide +kernel)) (pi_range2 rfl T.range (pa_cons (pe_op op_add (pv 1) pe_int) (pa_cons (pe_op op_add (pe_op op_add (pv 1) (pv 2)) pe_int) pa_nil))) (blkOk_by (own := [("length", 5)]) (N := ["row", "many", "period", "least", "steps", "length"]) (sc := defScope s_least_period) (by decide +kernel)) (fun _ _ _ _ _ => pg_name (i := 5) sc_least_period.nd rfl (by first | exact Or.inl rfl | exact Or.inr rfl)) (fun _ _ _ _ _ => pts_nil) (fun _ _ _ _ _ => (pe_op op_sub (pe_ix (r := rIxL K) ix_list (pv 0) (pv 5) (fun _ _ => rfl)) (pe_ix (r := rIxL K) ix_list (pv 0) (pe_op op_sub (pv 5) (pv 3)) (fun _ _ => rfl)))))
    (pss_one (ps_if (pt_cmpR op_eq (pe_callB (r := rMin K) (cr_min rfl) (by rfl) T.min (by decide +kernel) (pa_cons (pv 4) pa_nil)) (pe_callB (r := rMax K) (cr_max rfl) (by rfl) T.max (by decide +kernel) (pa_cons (pv 4) pa_nil)) (nomark _)) (pss_one (ps_ret (pe_tup (pa_cons (pv 3) (pa_cons (pe_ix (r := rIxL K) ix_list (pv 4) pe_int (fun _ _ => rfl)) pa_nil))))) pss_nil))) pss_nil)))
    (pss_one (ps_ret (pe_tup (pa_cons (pv 2) (pa_cons (pe_op op_sub (pe_ix (r := rIxL K) ix_list (pv 0) (pe_op op_add (pv 1) (pv 2)) (fun _ _ => rfl)) (pe_ix (r := rIxL K) ix_list (pv 0) (pv 1) (fun _ _ => rfl))) pa_nil)))))), ?_⟩
    refine ⟨_, rfl, _, _, rfl, ⟨by omega, by omega, by omega, by omega⟩, for_range (lo := 1) (n := (p - 1).toNat)
      (fun i σ H' => ∃ v3 v4 v5, σ = [some (.ref l), some (.int n), some (.int p), v3, v4, v5] ∧ Same H H' ∧ leastP f n p = leastFrom f n p ((p - 1).toNat - i) (1 + i))
      ⟨_, _, _, rfl, Same.refl H, rfl⟩ ?_ ?_⟩
    · rintro i' σ H' hi ⟨v3, v4, v5, rfl, s0, e⟩
      have ek : (p - 1).toNat - i' = ((p - 1).toNat - (i' + 1)) + 1 := by omega
      rw [ek] at e
      unfold leastFrom at e
      refine ⟨_, rfl, _, rfl, _, _, rfl, rfl, (show (0 : Int) < 1 + i' by omega), rfl, _, rfl, ifEq (fun c => ?_) (fun c => ?_)⟩
      · refine ⟨_, rfl, _, _, rfl, rfl, _, rfl, _, rfl, _, _, rfl, rfl, _, _, rfl, rfl, _, _, rfl, ⟨by omega, by omega, by omega, by omega⟩, fun D hD => lc_range (lo := n + 1) (n := (n + p + 1 - (n + 1)).toNat)
          (fun j H2 => H2 D = some (.lst ((row (fun i => f (n + 1 + i) - f (n + 1 + i - (1 + i'))) j).map V.int)) ∧ Same H H2) ?_ ?_ ?_⟩
        · exact ⟨upd_same, Same.upd s0 (s0.free hD)⟩
        · rintro j H2 hj ⟨hD2, s2⟩
          refine ⟨rfl, _, rfl, _, rfl, l, _, _, _, rfl, rfl, s2.seq hS, at_row (by omega) (by omega), _, rfl, _, rfl, _, rfl, _, _, rfl, rfl, l, _, _, _, rfl, rfl, s2.seq hS, at_row (by omega) (by omega), _, _, rfl, rfl,
            _, hD2, small (by rw [List.length_map, row_length]; omega), ?_, ?_⟩
          · rw [upd_same, rowI_succ]
          · exact Same.upd s2 (s0.free hD)
        · rintro H2 ⟨hD2, s2⟩
          have eN : (n + p + 1 - (n + 1)).toNat = p.toNat := by omega
          rw [eN] at hD2
          have hl : 0 < (row (fun i => f (n + 1 + i) - f (n + 1 + i - (1 + i'))) p.toNat).length := by rw [row_length]; omega
          refine ⟨_, rfl, D, _, rfl, SqL.of hD2, hl, fun m hm hm2 => ?_⟩
          refine ⟨_, rfl, D, _, rfl, SqL.of hD2, hl, fun M hM hM2 => ?_⟩
          have key := steps_eq hp hm hm2 hM2 hM
          refine ⟨rfl, _, rfl, ifEq (fun c2 => ?_) (fun c2 => ?_)⟩
          · refine ⟨_, rfl, _, rfl, D, _, _, _, rfl, rfl, SqL.of hD2, at_row (by omega) (by omega), (by show 2 ≤ sizeLine; decide), fun t ht => ?_⟩
            rw [if_pos ⟨c, key.mp c2⟩] at e
            refine k _ t (Same.upd s2 (s2.free ht)) (s2.free ht) ?_
            rw [upd_same, e]
            simp
          · refine ⟨_, _, _, rfl, s2, ?_⟩
            rw [if_neg (fun z => c2 (key.mpr z.2))] at e
            rw [e]
            congr 1
      · refine ⟨_, _, _, rfl, s0, ?_⟩
        rw [if_neg (fun z => c z.1)] at e
        rw [e]
        congr 1
    · rintro σ H' ⟨v3, v4, v5, rfl, s0, e⟩
      rw [Nat.sub_self] at e
      unfold leastFrom at e
      refine ⟨_, rfl, _, rfl, _, rfl, _, rfl, _, _, rfl, rfl, l, _, _, _, rfl, rfl, s0.seq hS, at_row (by omega) (by omega), _, rfl, _, rfl, l, _, _, _, rfl, rfl, s0.seq hS, at_row (by omega) (by omega), _, _, rfl, rfl, (by show 2 ≤ sizeLine; decide), fun t ht => ?_⟩
      refine k _ t (Same.upd s0 (s0.free ht)) (s0.free ht) ?_
      rw [upd_same, e]
end
end VK


namespace VK
open PySem PySem.Spec PyProof.Rows L2 VM
theorem cut_nat {xs : List V} {a b : Nat} (h1 : a ≤ xs.length) (h2 : b ≤ xs.length) : cutV xs (some (a : Int)) (some (b : Int)) = (xs.drop a).take (b - a) := by
  unfold cutV
  rw [HT.sIx_nat, HT.sIx_nat, Nat.min_eq_left h1, Nat.min_eq_left h2]
theorem cut_row {f : Int → Int} {N m : Nat} (h : m < N) : cutV ((row f N).map V.int) (some 1) (some ((m : Int) + 1)) = (vals f m).map V.int := by
  have e1 : (1 : Int) = ((1 : Nat) : Int) := rfl
  have e2 : (m : Int) + 1 = ((m + 1 : Nat) : Int) := by omega
  rw [e2]
  rw [show (some 1 : Option Int) = some ((1 : Nat) : Int) from rfl, cut_nat (by rw [List.length_map, row_length]; omega) (by rw [List.length_map, row_length]; omega)]
  rw [← List.map_drop, ← List.map_take]
  congr 1
  apply List.ext_getElem?
  intro i
  unfold row vals
  by_cases hi : i < m
  · rw [List.getElem?_take_of_lt (by omega), List.getElem?_drop, List.getElem?_map, List.getElem?_map, List.getElem?_range (by omega), List.getElem?_range (by omega)]
    simp only [Option.map_some]
    congr 2
    omega
  · rw [List.getElem?_eq_none (by simp; omega), List.getElem?_eq_none (by simp; omega)]
def sp_least_form (K : PySem.W.Frag) (_ : Ad) : Sp := fun vs H Q _ => ∃ (l : Addr) (xs : List Int) (p g : Int), vs = [.ref l, .int p, .int g] ∧
  SqL K H l (xs.map V.int) ∧ 0 < p ∧ p ≤ xs.length ∧ xs.length ≤ 1000 ∧
  ∀ H' t l', Same H H' → H t = none → H l' = none → H' t = some (.tup [.ref l', .int (formP xs p g).1, .int (formP xs p g).2]) → H' l' = some (.lst ((formV xs p g).map V.int)) → Q (.ref t) H'
section
variable {P : Program} {w : World} {K : PySem.W.Frag} {mg : Str → Option Value} {base : Heap} {A : Ad}
theorem ok_least_form (T : Txt K mg A) : FnOk P w K mg base CX0 3 A.f_least_form A.d_least_form ["values", "period", "gain"] (sp_least_form K A) := by
  have G_least_period := ok_least_period (P := P) (w := w) (base := base) T
  have G_value_at := ok_value_at (P := P) (w := w) (base := base) T
  refine T.F_least_form.ok sc_least_form (fun vs H Q E h => ?_) (fun cdv A0 outer s H vs Q E hr h => ?_)
  · obtain ⟨l, xs, p, g, rfl, hS, hp, hpn, hn, k⟩ := h
    rfl
  · obtain ⟨l, xs, p, g, rfl, hS, hp, hpn, hn, k⟩ := h
    refine ⟨_, (pss_cons (ps_set (i := 3) sc_least_form.nd rfl (by first | exact Or.inl rfl | exact Or.inr rfl) (pe_callB (r := VG.rLen K) VG.call_len (by rfl) T.len (by decide +kernel) (pa_cons (pv 0) pa_nil)))
    (pss_cons (ps_setLc (i := 4) (own := [("length", 7)]) (g := gName 7) (tt := tYes) rfl sc_least_form.nd rfl rfl (sw_true rfl rfl rfl (by decide +kernel)) (pi_range1 rfl T.range (pa_cons (pe_op op_add (pe_op op_add (pv 3) (pv 1)) pe_int) pa_nil)) (blkOk_by (own := [("length", 7)]) (N := ["values", "period", "gain", "many", "row", "least", "step", "length"]) (sc := defScope s_least_form) (by decide +kernel)) (fun _ _ _ _ _ => pg_name (i := 7) sc_least_form.nd rfl (by first | exact Or.inl rfl | exact Or.inr rfl)) (fun _ _ _ _ _ => pts_nil) (fun _ _ _ _ _ => (pe_call G_value_at (hr.mono (by decide)) rfl T.m_value_at T.k_value_at T.b_value_at .nil pass0 (pa_cons (pv 0) (pa_cons (pv 1) (pa_cons (pv 2) (pa_cons (pv 7) pa_nil)))))))
    (pss_cons (ps_asg (pe_call G_least_period (hr.mono (by decide)) rfl T.m_least_period T.k_least_period T.b_least_period .nil pass0 (pa_cons (pv 4) (pa_cons (pv 3) (pa_cons (pv 1) pa_nil)))) (pg_tup rfl (pgs_cons (pg_name (i := 5) sc_least_form.nd rfl (by first | exact Or.inl rfl | exact Or.inr rfl)) (pgs_cons (pg_name (i := 6) sc_least_form.nd rfl (by first | exact Or.inl rfl | exact Or.inr rfl)) pgs_nil))))
    (pss_cons (ps_while PassesOwn.never (PW.pt (pw_and (pt_cmpR op_gt (pv 3) (pv 5) (nomark _)) (pw_and1 (pt_cmpR op_eq (pe_ix (r := rIxL K) ix_list (pv 4) (pv 3) (fun _ _ => rfl)) (pe_op op_add (pe_ix (r := rIxL K) ix_list (pv 4) (pe_op op_sub (pv 3) (pv 5)) (fun _ _ => rfl)) (pv 6)) (nomark _))))) (pss_one (ps_aug (i := 3) sc_least_form.nd rfl (.inl rfl) pe_int ip_sub)))
    (pss_one (ps_ret (pe_tup (pa_cons (pe_slice (r := rSlL K) sl_list (pv 4) (po_some pe_int) (po_some (pe_op op_add (pv 3) pe_int))) (pa_cons (pv 5) (pa_cons (pv 6) pa_nil)))))))))), ?_⟩
    refine ⟨_, rfl, l, _, rfl, .inl hS, ?_⟩
    rw [List.length_map]
    refine ⟨_, rfl, _, rfl, _, _, rfl, rfl, _, _, rfl, rfl, _, rfl, by omega, by omega, fun D hD => lc_range (lo := 0) (n := ((xs.length : Int) + p + 1).toNat)
      (fun j H2 => H2 D = some (.lst ((row (cvAt xs p g) j).map V.int)) ∧ Same H H2) ?_ ?_ ?_⟩
    · exact ⟨upd_same, Same.upd (Same.refl H) hD⟩
    · rintro j H2 hj ⟨hD2, s2⟩
      refine ⟨rfl, _, rfl, _, rfl, _, rfl, _, rfl, l, xs, p, g, _, rfl, s2.seq hS, hp, hpn, hn, by omega, by omega, _, hD2, small (by rw [List.length_map, row_length]; omega), ?_, ?_⟩
      · rw [upd_same, rowI_succ]
        rw [Int.zero_add]
      · exact Same.upd s2 hD
    · rintro H2 ⟨hD2, s2⟩
      refine ⟨_, rfl, _, rfl, _, rfl, D, cvAt xs p g, xs.length, p, rfl, SqL.of hD2, hp, by omega, by omega, by omega, hpn, fun H3 t s3 ht0 ht => ?_⟩
      refine ⟨t, _, rfl, .inl (.inl ht), rfl, _, _, rfl, _, _, rfl, rfl, ?_⟩
      obtain ⟨q1, q2, q3⟩ := leastP_spec (Rep.cvAt (g := g) hp hpn) hp
      have hP : formP xs p g = leastP (cvAt xs p g) xs.length p := rfl
      rw [← hP] at q1 q2 ht ⊢
      generalize hd : (formP xs p g).1 = d at *
      generalize hs : (formP xs p g).2 = st at *
      refine ⟨fun (m : Nat) (σ : L2.St) (H' : Hp) => σ = [some (.ref l), some (.int p), some (.int g), some (.int (m : Nat)), some (.ref D), some (.int d), some (.int st), none] ∧ Same H2 H' ∧ m ≤ xs.length ∧ d ≤ m ∧
        shr (cvAt xs p g) d st xs.length = shr (cvAt xs p g) d st m, ⟨xs.length, rfl, s3, Nat.le_refl _, by omega, rfl⟩, ?_⟩
      rintro m σ H4 ⟨rfl, s4, hm, hdm, e⟩
      have hD4 := s4 _ _ hD2
      have s4' : Same H H4 := s2.trans s4
      refine ⟨_, rfl, _, rfl, _, _, rfl, rfl, _, rfl, ifD (fun c => ?_) (fun c => ?_)⟩
      · refine ⟨_, rfl, _, rfl, D, _, _, _, rfl, rfl, SqL.of hD4, at_row (by omega) (by omega), _, rfl, _, rfl, _, rfl, _, _, rfl, rfl, D, _, _, _, rfl, rfl, SqL.of hD4, at_row (by omega) (by omega), _, rfl, _, _, rfl, rfl, rfl, _, rfl, ifEq (fun c2 => ?_) (fun c2 => ?_)⟩
        · refine ⟨fun σ' H' => σ' = [some (.ref l), some (.int p), some (.int g), some (.int ((m : Int) - 1)), some (.ref D), some (.int d), some (.int st), none] ∧ H' = H4, ?_, ?_⟩
          · rintro σ' H' ⟨rfl, rfl⟩
            refine ⟨m - 1, by omega, ?_, s4, by omega, by omega, ?_⟩
            · rw [show (m : Int) - 1 = ((m - 1 : Nat) : Int) by omega]
            · rw [e]
              obtain ⟨m, rfl⟩ : ∃ m', m = m' + 1 := ⟨m - 1, by omega⟩
              show shr (cvAt xs p g) d st (m + 1) = shr (cvAt xs p g) d st m
              conv => lhs; unfold shr
              rw [if_pos ⟨c, c2⟩]
          · exact ⟨_, rfl, _, _, rfl, rfl, rfl, rfl⟩
        · refine ⟨_, rfl, _, rfl, _, rfl, _, _, rfl, rfl, _, rfl, D, _, rfl, SqL.of hD4, fun l' hl' => ⟨_, rfl, _, rfl, (by show 3 ≤ sizeLine; decide), fun t' ht' => ?_⟩⟩
          have em : formM xs p g = m := by
            unfold formM
            rw [hd, hs, e]
            cases m with
            | zero => rfl
            | succ m =>
              unfold shr
              rw [if_neg (fun z => c2 z.2)]
          have nl : l' ≠ t' := fun z => by rw [← z, upd_same] at ht'; cases ht'
          have ht4 : H4 t' = none := by rw [upd_ne (Ne.symm nl)] at ht'; exact ht'
          refine k _ t' l' (Same.upd (Same.upd s4' (s4'.free hl')) (s4'.free ht4)) (s4'.free ht4) (s4'.free hl') upd_same ?_
          rw [upd_ne nl, upd_same]
          unfold formV
          rw [em, cut_row (by omega)]
      · refine ⟨_, rfl, _, rfl, _, rfl, _, _, rfl, rfl, _, rfl, D, _, rfl, SqL.of hD4, fun l' hl' => ⟨_, rfl, _, rfl, (by show 3 ≤ sizeLine; decide), fun t' ht' => ?_⟩⟩
        have em : formM xs p g = m := by
          unfold formM
          rw [hd, hs, e]
          cases m with
            | zero => rfl
            | succ m =>
              unfold shr
              rw [if_neg (fun z => c z.1)]
        have nl : l' ≠ t' := fun z => by rw [← z, upd_same] at ht'; cases ht'
        have ht4 : H4 t' = none := by rw [upd_ne (Ne.symm nl)] at ht'; exact ht'
        refine k _ t' l' (Same.upd (Same.upd s4' (s4'.free hl')) (s4'.free ht4)) (s4'.free ht4) (s4'.free hl') upd_same ?_
        rw [upd_ne nl, upd_same]
        unfold formV
        rw [em, cut_row (by omega)]
end
end VK


namespace VK
open PySem PySem.Spec PyProof.Rows L2 VM
theorem Kd.list {K : PySem.W.Frag} {H : Hp} {l : Addr} {xs : List V} (h : SqL K H l xs) : Kd K H (.ref l) "list" := by
  refine ⟨?_, by decide⟩
  rcases h with (h | ⟨o, h⟩) | ⟨o, its, n, h1, h2, _⟩
  · exact .base (.lst h)
  · exact .base (.frz h)
  · exact .kList h1 h2
/-- a curve as it may be written -/
structure OkRow (xs : List Int) (p g : Int) : Prop where
  l1 : 1 ≤ xs.length
  l2 : xs.length ≤ 24
  lo : ∀ i, i < xs.length → 0 ≤ xs.getD i 0
  hi : ∀ i, i < xs.length → xs.getD i 0 ≤ 2000
  up : ∀ i, i + 1 < xs.length → xs.getD i 0 ≤ xs.getD (i + 1) 0
  per : p = 1 ∨ p = 2 ∨ p = 3 ∨ p = 4 ∨ p = 6 ∨ p = 12
  pn : p ≤ xs.length
  g0 : 0 ≤ g
  g1 : g ≤ 2000
  last : xs.getD (xs.length - 1) 0 ≤ xs.getD (xs.length - p.toNat) 0 + g
def sp_find_problem (K : PySem.W.Frag) (_ : Ad) : Sp := fun vs H Q _ => ∃ (l : Addr) (xs : List Int) (p g : Int), vs = [.ref l, .int p, .int g] ∧
  SqL K H l (xs.map V.int) ∧ OkRow xs p g ∧ ∀ H', Same H H' → Q .non H'
section
variable {P : Program} {w : World} {K : PySem.W.Frag} {mg : Str → Option Value} {base : Heap} {A : Ad}
theorem ok_find_problem (T : Txt K mg A) : FnOk P w K mg base CX0 4 A.f_find_problem A.d_find_problem ["values", "period", "gain"] (sp_find_problem K A) := by
  have G_is_count_to := ok_is_count_to (P := P) (w := w) (base := base) T
  have G_is_integer := ok_is_integer (P := P) (w := w) (base := base) T
  refine T.F_find_problem.ok sc_find_problem (fun vs H Q E h => ?_) (fun cdv A0 outer s H vs Q E hr h => ?_)
  · obtain ⟨l, xs, p, g, rfl, hS, R, k⟩ := h
    rfl
  · obtain ⟨l, xs, p, g, rfl, hS, R, k⟩ := h
    refine ⟨_, (pss_cons (ps_if (pt_not (pt_val (pe_callB (r := rIsi K) call_isi (by rfl) T.isinstance (by decide +kernel) (pa_cons (pv 0) (pa_cons (pe_bltn (v := .ty "list") (u := .type "list") (by rfl) T.list (by decide +kernel) (by exact rfl)) pa_nil))))) (pss_one (ps_ret (pe_tup (pa_cons pe_str (pa_cons pe_int pa_nil))))) pss_nil)
    (pss_cons (ps_if (pt_not (pt_chain op_le op_le pe_int (pe_callB (r := VG.rLen K) VG.call_len (by rfl) T.len (by decide +kernel) (pa_cons (pv 0) pa_nil)) (pe_glob (v := .int 24) rfl T.v_MAX_VALUES ⟨_, rfl⟩))) (pss_one (ps_ret (pe_tup (pa_cons pe_str (pa_cons pe_int pa_nil))))) pss_nil)
    (pss_cons (ps_set (i := 3) sc_find_problem.nd rfl (by first | exact Or.inl rfl | exact Or.inr rfl) pe_int)
    (pss_cons (ps_for PassesOwn.never rfl (pi_enum (by rfl) T.enumerate (pa_cons (pv 0) pa_nil)) (pg_tup rfl (pgs_cons (pg_name (i := 4) sc_find_problem.nd rfl (by first | exact Or.inl rfl | exact Or.inr rfl)) (pgs_cons (pg_name (i := 5) sc_find_problem.nd rfl (by first | exact Or.inl rfl | exact Or.inr rfl)) pgs_nil)))
      (pss_cons (ps_if (PW.pt (pw_or (pt_not (pt_val (pe_call G_is_count_to (hr.mono (by decide)) rfl T.m_is_count_to T.k_is_count_to T.b_is_count_to .nil pass0 (pa_cons (pv 5) (pa_cons (pe_glob (v := .int 2000) rfl T.v_MAX_VALUE ⟨_, rfl⟩) pa_nil))))) (pw_or1 (pt_cmpR op_lt (pv 5) (pv 3) (nomark _))))) (pss_one (ps_ret (pe_tup (pa_cons pe_str (pa_cons (pv 4) pa_nil))))) pss_nil)
    (pss_one (ps_set (i := 3) sc_find_problem.nd rfl (by first | exact Or.inl rfl | exact Or.inr rfl) (pv 5)))))
    (pss_cons (ps_if (PW.pt (pw_or (pt_not (pt_val (pe_call G_is_integer (hr.mono (by decide)) rfl T.m_is_integer T.k_is_integer T.b_is_integer .nil pass0 (pa_cons (pv 1) pa_nil)))) (pw_or (pt_cmpR (r := rIn K true) op_notIn_seq (pv 1) (pe_glob (v := .ref A.a_PERIODS) rfl T.v_PERIODS rfl) (by rfl)) (pw_or1 (pt_cmpR op_gt (pv 1) (pe_callB (r := VG.rLen K) VG.call_len (by rfl) T.len (by decide +kernel) (pa_cons (pv 0) pa_nil)) (nomark _)))))) (pss_one (ps_ret (pe_tup (pa_cons pe_str (pa_cons pe_int pa_nil))))) pss_nil)
    (pss_cons (ps_if (PW.pt (pw_or (pt_not (pt_val (pe_call G_is_count_to (hr.mono (by decide)) rfl T.m_is_count_to T.k_is_count_to T.b_is_count_to .nil pass0 (pa_cons (pv 2) (pa_cons (pe_glob (v := .int 2000) rfl T.v_MAX_VALUE ⟨_, rfl⟩) pa_nil))))) (pw_or1 (pt_cmpR op_lt (pe_op op_add (pe_ix (r := rIxL K) ix_list (pv 0) (pe_un un_neg (pv 1)) (fun _ _ => rfl)) (pv 2)) (pe_ix (r := rIxL K) ix_list (pv 0) (pe_un un_neg pe_int) (fun _ _ => rfl)) (nomark _))))) (pss_one (ps_ret (pe_tup (pa_cons pe_str (pa_cons pe_int pa_nil))))) pss_nil)
    (pss_one (ps_ret pe_non)))))))), ?_⟩
    refine ⟨_, rfl, .ref l, .ty "list", _, _, _, rfl, .ty _, (Kd.list hS).1, (show PySem.W.kitOne K (.type "list") (.type "list") = some true from kit_ty (by decide +kernel)), _, rfl, iteF ?_⟩
    have l1 := R.l1
    have l2 := R.l2
    refine ⟨_, rfl, l, _, rfl, .inl hS, _, _, rfl, rfl, _, rfl, ?_⟩
    rw [List.length_map]
    refine ifD (fun _ => ?_) (fun c => absurd (show (1 : Int) ≤ xs.length by omega) c)
    refine ⟨_, _, rfl, rfl, _, rfl, iteNS (by omega) ?_⟩
    -- before = 0; the loop
    refine ⟨_, rfl, l, _, rfl, hS, for_it (walk_enum (K := K) (a := l) (xs := xs.map V.int)) (fun i σ H' => ∃ v5 v6, σ = [some (.ref l), some (.int p), some (.int g), some (.int (if i = 0 then 0 else xs.getD (i - 1) 0)), v5, v6] ∧ Same H H')
      ⟨_, _, rfl, Same.refl H⟩ (fun i σ H' _ ⟨_, _, _, s0⟩ => s0.seq hS) ?_ ?_⟩
    · rintro i x σ H' H2 hi ⟨v5, v6, rfl, s0⟩ ⟨t, a, b, rfl, ht, rfl, ea, eb⟩
      rw [List.length_map] at hi
      have eb' : (xs.map V.int)[i]? = some b := eb
      rw [getD_map hi] at eb'
      cases ea
      cases eb'
      have s2 : Same H (upd H' t (.tup [.int (i : Nat), .int (xs.getD i 0)])) := Same.upd s0 (s0.free ht)
      refine ⟨t, _, rfl, SqT.of upd_same, rfl, _, _, rfl, _, _, rfl, rfl, ?_⟩
      have r1 := R.lo i hi
      have r2 := R.hi i hi
      refine ⟨_, rfl, _, _, _, rfl, Kd.int _, _, rfl, ?_⟩
      have e1 : cntTo 2000 (.int (xs.getD i 0)) = true := by unfold cntTo; exact decide_eq_true ⟨r1, r2⟩
      rw [e1]
      refine iteF ⟨_, rfl, _, rfl, _, _, rfl, rfl, _, rfl, ?_⟩
      refine ifD (fun c => ?_) (fun c => ?_)
      · exfalso
        by_cases z : i = 0
        · rw [if_pos z] at c; omega
        · rw [if_neg z] at c
          have := R.up (i - 1) (by omega)
          rw [show i - 1 + 1 = i by omega] at this
          omega
      · refine ⟨_, rfl, some (.int (i : Nat)), some (.int (xs.getD i 0)), ?_, s2⟩
        rw [if_neg (Nat.succ_ne_zero i)]
        rfl
    · rintro σ H' ⟨v5, v6, rfl, s0⟩
      have hS' := s0.seq hS
      have pn := R.pn
      have g0 := R.g0
      have g1 := R.g1
      have last := R.last
      have pp : 0 < p ∧ p ≤ 12 := by rcases R.per with h | h | h | h | h | h <;> omega
      refine ⟨_, rfl, _, _, rfl, Kd.int _, _, rfl, iteF ?_⟩
      have inP : inV (.int p) [.int 1, .int 2, .int 3, .int 4, .int 6, .int 12] = true := by
        rcases R.per with h | h | h | h | h | h <;> subst h <;> decide
      refine ⟨_, rfl, A.a_PERIODS, _, rfl, .inr (T.periods H'), rfl, rfl, _, rfl, ?_⟩
      rw [inP]
      refine iteF ⟨_, rfl, _, rfl, l, _, rfl, .inl hS', _, _, rfl, rfl, _, rfl, ?_⟩
      rw [List.length_map]
      refine ifD (fun c => absurd pn (by omega)) (fun _ => ?_)
      have e1 : cntTo 2000 (.int g) = true := by unfold cntTo; exact decide_eq_true ⟨g0, g1⟩
      refine ⟨_, rfl, _, _, _, rfl, Kd.int _, _, rfl, ?_⟩
      rw [e1]
      refine iteF ⟨_, rfl, _, rfl, _, rfl, l, _, _, _, rfl, rfl, hS', at_back (by omega) (by omega), _, rfl, _, _, rfl, rfl, _, rfl, _, rfl, l, _, _, _, rfl, rfl, hS', at_back (by omega) (by omega), _, _, rfl, rfl, _, rfl, ?_⟩
      refine ifD (fun c => ?_) (fun _ => k H' s0)
      exfalso
      rw [show (-p + (xs.length : Int)).toNat = xs.length - p.toNat by omega, show (-1 + (xs.length : Int)).toNat = xs.length - 1 by omega] at c
      omega
end
end VK


namespace VK
open PySem PySem.Spec PyProof.Rows L2 VM
/-- the attributes of a curve -/
def cfs (l : Addr) (p g : Int) (w : Bool) (b : V) : List (Str × V) := [("_values", V.ref l), ("_period", V.int p), ("_gain", V.int g), ("_was_searched", V.bl w), ("_break", b)]
theorem n_vp : ¬ (("_values" : Str) = "_period") := by decide +kernel
theorem n_vg : ¬ (("_values" : Str) = "_gain") := by decide +kernel
theorem n_pg : ¬ (("_period" : Str) = "_gain") := by decide +kernel
theorem n_vw : ¬ (("_values" : Str) = "_was_searched") := by decide +kernel
theorem n_pw : ¬ (("_period" : Str) = "_was_searched") := by decide +kernel
theorem n_gw : ¬ (("_gain" : Str) = "_was_searched") := by decide +kernel
theorem n_vb : ¬ (("_values" : Str) = "_break") := by decide +kernel
theorem n_pb : ¬ (("_period" : Str) = "_break") := by decide +kernel
theorem n_gb : ¬ (("_gain" : Str) = "_break") := by decide +kernel
theorem n_wb : ¬ (("_was_searched" : Str) = "_break") := by decide +kernel
theorem put1 (v : V) : putF "_values" v [] = [(("_values" : Str), v)] := rfl
theorem put2 (v u : V) : putF "_period" u [(("_values" : Str), v)] = [(("_values" : Str), v), ("_period", u)] := by
  show (if ("_values" : Str) = "_period" then _ else (("_values" : Str), v) :: putF "_period" u []) = _
  rw [if_neg n_vp]
  rfl
theorem put3 (v u z : V) : putF "_gain" z [(("_values" : Str), v), ("_period", u)] = [(("_values" : Str), v), ("_period", u), ("_gain", z)] := by
  show (if ("_values" : Str) = "_gain" then _ else (("_values" : Str), v) :: (if ("_period" : Str) = "_gain" then _ else (("_period" : Str), u) :: putF "_gain" z [])) = _
  rw [if_neg n_vg, if_neg n_pg]
  rfl
theorem put4 (v u z y : V) : putF "_was_searched" y [(("_values" : Str), v), ("_period", u), ("_gain", z)] = [(("_values" : Str), v), ("_period", u), ("_gain", z), ("_was_searched", y)] := by
  show (if ("_values" : Str) = "_was_searched" then _ else (("_values" : Str), v) :: (if ("_period" : Str) = "_was_searched" then _ else (("_period" : Str), u) :: (if ("_gain" : Str) = "_was_searched" then _ else (("_gain" : Str), z) :: putF "_was_searched" y []))) = _
  rw [if_neg n_vw, if_neg n_pw, if_neg n_gw]
  rfl
theorem put5 (v u z y x : V) : putF "_break" x [(("_values" : Str), v), ("_period", u), ("_gain", z), ("_was_searched", y)] = [(("_values" : Str), v), ("_period", u), ("_gain", z), ("_was_searched", y), ("_break", x)] := by
  show (if ("_values" : Str) = "_break" then _ else (("_values" : Str), v) :: (if ("_period" : Str) = "_break" then _ else (("_period" : Str), u) :: (if ("_gain" : Str) = "_break" then _ else (("_gain" : Str), z) :: (if ("_was_searched" : Str) = "_break" then _ else (("_was_searched" : Str), y) :: putF "_break" x [])))) = _
  rw [if_neg n_vb, if_neg n_pb, if_neg n_gb, if_neg n_wb]
  rfl
theorem cset_w (l : Addr) (p g : Int) (w : Bool) (b : V) : putF "_was_searched" (.bl true) (cfs l p g w b) = cfs l p g true b := by
  show (if ("_values" : Str) = "_was_searched" then _ else (("_values" : Str), V.ref l) :: (if ("_period" : Str) = "_was_searched" then _ else (("_period" : Str), V.int p) :: (if ("_gain" : Str) = "_was_searched" then _ else (("_gain" : Str), V.int g) :: (if ("_was_searched" : Str) = "_was_searched" then _ else _)))) = _
  rw [if_neg n_vw, if_neg n_pw, if_neg n_gw, if_pos rfl]
  rfl
theorem cset_b (l : Addr) (p g : Int) (w : Bool) (b c : V) : putF "_break" c (cfs l p g w b) = cfs l p g w c := by
  show (if ("_values" : Str) = "_break" then _ else (("_values" : Str), V.ref l) :: (if ("_period" : Str) = "_break" then _ else (("_period" : Str), V.int p) :: (if ("_gain" : Str) = "_break" then _ else (("_gain" : Str), V.int g) :: (if ("_was_searched" : Str) = "_break" then _ else (("_was_searched" : Str), V.bl w) :: (if ("_break" : Str) = "_break" then _ else _))))) = _
  rw [if_neg n_vb, if_neg n_pb, if_neg n_gb, if_neg n_wb, if_pos rfl]
  rfl
theorem cfs_v (l : Addr) (p g : Int) (w : Bool) (b : V) : (cfs l p g w b).lookup ("_values" : Str) = some (.ref l) := by
  unfold cfs; simp [List.lookup]
theorem cfs_p (l : Addr) (p g : Int) (w : Bool) (b : V) : (cfs l p g w b).lookup ("_period" : Str) = some (.int p) := by
  have h : (("_period" : Str) == "_values") = false := by decide +kernel
  unfold cfs; simp [List.lookup, h]
theorem cfs_g (l : Addr) (p g : Int) (w : Bool) (b : V) : (cfs l p g w b).lookup ("_gain" : Str) = some (.int g) := by
  have h : (("_gain" : Str) == "_values") = false := by decide +kernel
  have h2 : (("_gain" : Str) == "_period") = false := by decide +kernel
  unfold cfs; simp [List.lookup, h, h2]
theorem cfs_w (l : Addr) (p g : Int) (w : Bool) (b : V) : (cfs l p g w b).lookup ("_was_searched" : Str) = some (.bl w) := by
  have h : (("_was_searched" : Str) == "_values") = false := by decide +kernel
  have h2 : (("_was_searched" : Str) == "_period") = false := by decide +kernel
  have h3 : (("_was_searched" : Str) == "_gain") = false := by decide +kernel
  unfold cfs; simp [List.lookup, h, h2, h3]
theorem cfs_b (l : Addr) (p g : Int) (w : Bool) (b : V) : (cfs l p g w b).lookup ("_break" : Str) = some b := by
  have h : (("_break" : Str) == "_values") = false := by decide +kernel
  have h2 : (("_break" : Str) == "_period") = false := by decide +kernel
  have h3 : (("_break" : Str) == "_gain") = false := by decide +kernel
  have h4 : (("_break" : Str) == "_was_searched") = false := by decide +kernel
  unfold cfs; simp [List.lookup, h, h2, h3, h4]
theorem cfs_no (l : Addr) (p g : Int) {w : Bool} {b : V} {m : Str} (h1 : (m == ("_values" : Str)) = false) (h2 : (m == ("_period" : Str)) = false) (h3 : (m == ("_gain" : Str)) = false) (h4 : (m == ("_was_searched" : Str)) = false := by decide +kernel) (h5 : (m == ("_break" : Str)) = false := by decide +kernel) : (cfs l p g w b).lookup m = none := by
  unfold cfs; simp [List.lookup, h1, h2, h3, h4, h5]
/-- a curve whose form is this -/
def CrvAt (A : Ad) (H : Hp) (x : Addr) (vs : List Int) (p g : Int) : Prop := ∃ dx l w b, H x = some (.ins A.Curve dx (cfs l p g w b)) ∧ H l = some (.lst (vs.map V.int))
theorem CrvAt.same {A : Ad} {H H' : Hp} {x : Addr} {vs : List Int} {p g : Int} (h : CrvAt A H x vs p g) (s : Same H H') : CrvAt A H' x vs p g := by
  obtain ⟨dx, l, w, b, h1, h2⟩ := h
  exact ⟨dx, l, w, b, s _ _ h1, s _ _ h2⟩
def sp_C_init (K : PySem.W.Frag) (A : Ad) : Sp := fun vs H Q _ => ∃ (x dx l : Addr) (xs : List Int) (p g : Int), vs = [.ref x, .ref l, .int p, .int g] ∧
  H x = some (.ins A.Curve dx []) ∧ SqL K H l (xs.map V.int) ∧ OkRow xs p g ∧
  ∀ H' dx' l', (∀ b o, b ≠ x → H b = some o → H' b = some o) → H l' = none → H' x = some (.ins A.Curve dx' (cfs l' (formP xs p g).1 (formP xs p g).2 false .non)) → H' l' = some (.lst ((formV xs p g).map V.int)) → Q .non H'
def sp_C_at (K : PySem.W.Frag) (A : Ad) : Sp := fun vs H Q _ => ∃ (x : Addr) (xs : List Int) (p g t : Int), vs = [.ref x, .int t] ∧
  CrvAt A H x xs p g ∧ 0 < p ∧ p ≤ xs.length ∧ xs.length ≤ 1000 ∧ 0 ≤ t ∧ t < 2 ^ 62 ∧ Q (.int (cvAt xs p g t)) H
section
variable {P : Program} {w : World} {K : PySem.W.Frag} {mg : Str → Option Value} {base : Heap} {A : Ad}
theorem ok_C_init (T : Txt K mg A) : FnOk P w K mg base CX0 5 A.f_C_init A.d_C_init ["self", "values", "period", "gain"] (sp_C_init K A) := by
  have G_find_problem := ok_find_problem (P := P) (w := w) (base := base) T
  have G_least_form := ok_least_form (P := P) (w := w) (base := base) T
  refine T.F_C_init.ok sc_C_init (fun vs H Q E h => ?_) (fun cdv A0 outer s H vs Q E hr h => ?_)
  · obtain ⟨x, dx, l, xs, p, g, rfl, hx, hS, R, k⟩ := h
    rfl
  · obtain ⟨x, dx, l, xs, p, g, rfl, hx, hS, R, k⟩ := h
    refine ⟨_, (pss_cons (ps_set (i := 4) sc_C_init.nd rfl (by first | exact Or.inl rfl | exact Or.inr rfl) (pe_call G_find_problem (hr.mono (by decide)) rfl T.m_find_problem T.k_find_problem T.b_find_problem .nil pass0 (pa_cons (pv 1) (pa_cons (pv 2) (pa_cons (pv 3) pa_nil)))))
    (pss_cons (ps_if (pt_cmp (pc_notN (pv 4)) rfl) (pss_one ps_never) pss_nil)
    (pss_cons (ps_asg (pe_call G_least_form (hr.mono (by decide)) rfl T.m_least_form T.k_least_form T.b_least_form .nil pass0 (pa_cons (pv 1) (pa_cons (pv 2) (pa_cons (pv 3) pa_nil)))) (pg_tup rfl (pgs_cons (pg_name (i := 5) sc_C_init.nd rfl (by first | exact Or.inl rfl | exact Or.inr rfl)) (pgs_cons (pg_name (i := 6) sc_C_init.nd rfl (by first | exact Or.inl rfl | exact Or.inr rfl)) (pgs_cons (pg_name (i := 7) sc_C_init.nd rfl (by first | exact Or.inl rfl | exact Or.inr rfl)) pgs_nil)))))
    (pss_cons (ps_fld (pv 0) (pv 5) rfl)
    (pss_cons (ps_fld (pv 0) (pv 6) rfl)
    (pss_cons (ps_fld (pv 0) (pv 7) rfl)
    (pss_cons (ps_fld (pv 0) pe_bl rfl)
    (pss_one (ps_fld (pv 0) pe_non rfl))))))))), ?_⟩
    have pp : 0 < p ∧ p ≤ 12 := by rcases R.per with h | h | h | h | h | h <;> omega
    refine ⟨_, rfl, _, rfl, _, rfl, l, xs, p, g, rfl, hS, R, fun H1 s1 => ?_⟩
    refine ⟨_, rfl, _, rfl, iteF ?_⟩
    refine ⟨_, rfl, _, rfl, _, rfl, l, xs, p, g, rfl, s1.seq hS, pp.1, R.pn, by have := R.l2; omega, fun H2 t l' s2 ht0 hl0 ht hl => ?_⟩
    refine ⟨t, _, rfl, SqT.of ht, rfl, _, _, rfl, _, _, rfl, _, _, rfl, rfl, ?_⟩
    have s02 : Same H H2 := s1.trans s2
    have hx2 := s02 _ _ hx
    have nlx : l' ≠ x := fun z => by rw [z, s1 _ _ hx] at hl0; cases hl0
    refine ⟨_, rfl, _, rfl, x, _, dx, _, rfl, hx2, T.cl, T.n_values, (by show 0 < 1000; decide), ?_⟩
    refine ⟨_, rfl, _, rfl, x, _, dx, _, rfl, upd_same, T.cl, T.n_period, (by show 1 < 1000; decide), ?_⟩
    refine ⟨_, rfl, _, rfl, x, _, dx, _, rfl, upd_same, T.cl, T.n_gain, (by rw [put1, put2]; show 2 < 1000; decide), ?_⟩
    refine ⟨_, rfl, x, _, dx, _, rfl, upd_same, T.cl, T.n_was_searched, (by rw [put1, put2, put3]; show 3 < 1000; decide), ?_⟩
    refine ⟨_, rfl, x, _, dx, _, rfl, upd_same, T.cl, T.n_break, (by rw [put1, put2, put3, put4]; show 4 < 1000; decide), ?_⟩
    refine k _ dx l' (fun b o hb e => ?_) (s1.free hl0) ?_ ?_
    · rw [upd_ne hb, upd_ne hb, upd_ne hb, upd_ne hb, upd_ne hb]; exact s02 _ _ e
    · rw [upd_same, put1, put2, put3, put4, put5]; rfl
    · rw [upd_ne nlx, upd_ne nlx, upd_ne nlx, upd_ne nlx, upd_ne nlx]; exact hl
theorem ok_C_at (T : Txt K mg A) : FnOk P w K mg base CX0 3 A.f_C_at A.d_C_at ["self", "length"] (sp_C_at K A) := by
  have G_is_count := ok_is_count (P := P) (w := w) (base := base) T
  have G_value_at := ok_value_at (P := P) (w := w) (base := base) T
  refine T.F_C_at.ok sc_C_at (fun vs H Q E h => ?_) (fun cdv A0 outer s H vs Q E hr h => ?_)
  · obtain ⟨x, xs, p, g, t, rfl, ⟨dx, l, w, b, hx, hl⟩, hp, hpn, hn, ht, htb, q⟩ := h
    rfl
  · obtain ⟨x, xs, p, g, t, rfl, ⟨dx, l, w, b, hx, hl⟩, hp, hpn, hn, ht, htb, q⟩ := h
    refine ⟨_, (pss_cons (ps_if (pt_not (pt_val (pe_call G_is_count (hr.mono (by decide)) rfl T.m_is_count T.k_is_count T.b_is_count .nil pass0 (pa_cons (pv 1) pa_nil)))) (pss_one ps_never) pss_nil)
    (pss_one (ps_ret (pe_call G_value_at (hr.mono (by decide)) rfl T.m_value_at T.k_value_at T.b_value_at .nil pass0 (pa_cons (pe_fld (pv 0) rfl) (pa_cons (pe_fld (pv 0) rfl) (pa_cons (pe_fld (pv 0) rfl) (pa_cons (pv 1) pa_nil)))))))), ?_⟩
    refine ⟨_, rfl, _, _, rfl, Kd.int _, ?_⟩
    have e1 : cnt (.int t) = true := by unfold cnt; exact decide_eq_true ht
    rw [e1]
    refine ⟨_, rfl, iteF ?_⟩
    refine ⟨_, rfl, x, _, dx, _, _, rfl, hx, T.cl, T.n_values, cfs_v _ _ _ _ _, _, rfl, x, _, dx, _, _, rfl, hx, T.cl, T.n_period, cfs_p _ _ _ _ _, _, rfl, x, _, dx, _, _, rfl, hx, T.cl, T.n_gain, cfs_g _ _ _ _ _, _, rfl, l, xs, p, g, t, rfl, SqL.of hl, hp, hpn, hn, ht, htb, q⟩
end
end VK


namespace VK
open PySem PySem.Spec PyProof.Rows L2 VM
theorem nth_map {xs : List Int} {i : Nat} {x : V} (h : (xs.map V.int)[i]? = some x) : i < xs.length ∧ x = .int (xs.getD i 0) := by
  have hi : i < xs.length := by
    have := (List.getElem?_eq_some_iff.mp h).1
    rw [List.length_map] at this
    exact this
  rw [getD_map hi] at h
  exact ⟨hi, (Option.some.inj h).symm⟩
/-- counts -/
def Cnts (us : List Int) : Prop := ∀ i, i < us.length → 0 ≤ us.getD i 0
def sp_require_record (K : PySem.W.Frag) (_ : Ad) : Sp := fun vs H Q _ => ∃ (l : Addr) (us : List Int), vs = [.ref l] ∧ SqL K H l (us.map V.int) ∧ Cnts us ∧ ∀ H', Same H H' → Q .non H'
def sp_sums_before (K : PySem.W.Frag) (_ : Ad) : Sp := fun vs H Q _ => ∃ (l : Addr) (us : List Int), vs = [.ref l] ∧ SqL K H l (us.map V.int) ∧ us.length ≤ 1000 ∧
  ∀ H' p, Same H H' → H p = none → H' p = some (.lst ((row (pre us) (us.length + 1)).map V.int)) → Q (.ref p) H'
def sp_window_sums (K : PySem.W.Frag) (_ : Ad) : Sp := fun vs H Q _ => ∃ (l : Addr) (us : List Int) (k : Nat), vs = [.ref l, .int k] ∧ SqL K H l ((row (pre us) (us.length + 1)).map V.int) ∧ us.length ≤ 1000 ∧ k ≤ us.length ∧
  ∀ H' p, Same H H' → H p = none → H' p = some (.lst ((row (fun s => win us s k) (us.length + 1 - k)).map V.int)) → Q (.ref p) H'
section
variable {P : Program} {w : World} {K : PySem.W.Frag} {mg : Str → Option Value} {base : Heap} {A : Ad}
theorem ok_require_record (T : Txt K mg A) : FnOk P w K mg base CX0 3 A.f_require_record A.d_require_record ["record"] (sp_require_record K A) := by
  have G_is_count := ok_is_count (P := P) (w := w) (base := base) T
  refine T.F_require_record.ok sc_require_record (fun vs H Q E h => ?_) (fun cdv A0 outer s H vs Q E hr h => ?_)
  · obtain ⟨l, us, rfl, hS, hc, k⟩ := h
    rfl
  · obtain ⟨l, us, rfl, hS, hc, k⟩ := h
    refine ⟨_, (pss_cons (ps_if (pt_not (pt_val (pe_callB (r := rIsi K) call_isi (by rfl) T.isinstance (by decide +kernel) (pa_cons (pv 0) (pa_cons (pe_bltn (v := .ty "list") (u := .type "list") (by rfl) T.list (by decide +kernel) (by exact rfl)) pa_nil))))) (pss_one ps_never) pss_nil)
    (pss_one (ps_for PassesOwn.never rfl (pi_enum (by rfl) T.enumerate (pa_cons (pv 0) pa_nil)) (pg_tup rfl (pgs_cons (pg_name (i := 1) sc_require_record.nd rfl (by first | exact Or.inl rfl | exact Or.inr rfl)) (pgs_cons (pg_name (i := 2) sc_require_record.nd rfl (by first | exact Or.inl rfl | exact Or.inr rfl)) pgs_nil)))
      (pss_one (ps_if (pt_not (pt_val (pe_call G_is_count (hr.mono (by decide)) rfl T.m_is_count T.k_is_count T.b_is_count .nil pass0 (pa_cons (pv 2) pa_nil)))) (pss_one ps_never) pss_nil))))), ?_⟩
    refine ⟨_, rfl, .ref l, .ty "list", _, _, _, rfl, .ty _, (Kd.list hS).1, (show PySem.W.kitOne K (.type "list") (.type "list") = some true from kit_ty (by decide +kernel)), _, rfl, iteF ?_⟩
    refine ⟨_, rfl, l, _, rfl, hS, for_it (walk_enum (K := K) (a := l) (xs := us.map V.int)) (fun i σ H' => ∃ v1 v2, σ = [some (.ref l), v1, v2] ∧ Same H H')
      ⟨_, _, rfl, Same.refl H⟩ (fun i σ H' _ ⟨_, _, _, s0⟩ => s0.seq hS) ?_ ?_⟩
    · rintro i x σ H' H2 hi ⟨v1, v2, rfl, s0⟩ ⟨t, a, b, rfl, ht, rfl, ea, eb⟩
      obtain ⟨hi', rfl⟩ := nth_map eb
      cases ea
      refine ⟨t, _, rfl, SqT.of upd_same, rfl, _, _, rfl, _, _, rfl, rfl, ?_⟩
      have e1 : cnt (.int (us.getD i 0)) = true := by unfold cnt; exact decide_eq_true (hc i hi')
      refine ⟨_, rfl, _, _, rfl, Kd.int _, ?_⟩
      rw [e1]
      exact ⟨_, rfl, iteF ⟨_, _, rfl, Same.upd s0 (s0.free ht)⟩⟩
    · rintro σ H' ⟨v1, v2, rfl, s0⟩
      exact k H' s0
theorem ok_sums_before (T : Txt K mg A) : FnOk P w K mg base CX0 1 A.f_sums_before A.d_sums_before ["record"] (sp_sums_before K A) := by
  refine T.F_sums_before.ok sc_sums_before (fun vs H Q E h => ?_) (fun cdv A0 outer s H vs Q E hr h => ?_)
  · obtain ⟨l, us, rfl, hS, hn, k⟩ := h
    rfl
  · obtain ⟨l, us, rfl, hS, hn, k⟩ := h
    refine ⟨_, (pss_cons (ps_set (i := 1) sc_sums_before.nd rfl (by first | exact Or.inl rfl | exact Or.inr rfl) (pe_lst (pa_cons pe_int pa_nil)))
    (pss_cons (ps_for PassesOwn.never rfl (pi_list (pv 0)) (pg_name (i := 2) sc_sums_before.nd rfl (by first | exact Or.inl rfl | exact Or.inr rfl))
      (pss_one (ps_expr (pe_bm PySem.F.plainAttrs_list PySem.F.slot_list_append PySem.F.type_list_append mt_append (pv 1) (pa_cons (pe_op op_add (pe_ix (r := rIxL K) ix_list (pv 1) (pe_un un_neg pe_int) (fun _ _ => rfl)) (pv 2)) pa_nil)))))
    (pss_one (ps_ret (pv 1))))), ?_⟩
    refine ⟨(by show 1 ≤ sizeLine; decide), fun p hp => ?_⟩
    refine ⟨_, rfl, l, rfl, ⟨_, (Same.upd (Same.refl H) hp).seq hS⟩, for_list (K := K) (a := l) (xs := us.map V.int) (fun i σ H' => ∃ v2, σ = [some (.ref l), some (.ref p), v2] ∧ Same H H' ∧ H' p = some (.lst ((row (pre us) (i + 1)).map V.int)))
      ⟨_, rfl, Same.upd (Same.refl H) hp, upd_same⟩ (fun i σ H' _ ⟨_, _, s0, _⟩ => s0.seq hS) ?_ ?_⟩
    · rintro i x σ H' hx ⟨v2, rfl, s0, hP⟩
      obtain ⟨hi, rfl⟩ := nth_map hx
      refine ⟨_, rfl, .inl ⟨rfl, _, SqL.of hP⟩, _, rfl, _, rfl, p, _, _, _, rfl, rfl, SqL.of hP, at_back (by omega) (by rw [row_length]; omega), _, rfl, _, _, rfl, rfl, p, _, _, rfl, rfl, hP, small (by rw [List.length_map, row_length]; omega), ?_⟩
      refine ⟨_, rfl, Same.upd s0 hp, ?_⟩
      rw [upd_same, rowI_succ (m := i + 1), row_length, row_getD (by omega)]
      congr 5
      rw [show ((-1 + ((i + 1 : Nat) : Int)).toNat : Int) = (i : Int) by omega, show (((i + 1 : Nat)) : Int) = (i : Int) + 1 by omega, pre_step hi]
    · rintro σ H' ⟨v2, rfl, s0, hP⟩
      rw [List.length_map] at hP
      exact ⟨_, rfl, k H' p s0 hp hP⟩
theorem ok_window_sums (T : Txt K mg A) : FnOk P w K mg base CX0 1 A.f_window_sums A.d_window_sums ["sums", "length"] (sp_window_sums K A) := by
  refine T.F_window_sums.ok sc_window_sums (fun vs H Q E h => ?_) (fun cdv A0 outer s H vs Q E hr h => ?_)
  · obtain ⟨l, us, k, rfl, hS, hn, hk, q⟩ := h
    rfl
  · obtain ⟨l, us, k, rfl, hS, hn, hk, q⟩ := h
    refine ⟨_, (pss_one (ps_ret (pe_lc (own := [("start", 2)]) (g := gName 2) (tt := tYes) rfl sc_window_sums.nd (pi_range1 rfl T.range (pa_cons (pe_op op_sub (pe_callB (r := VG.rLen K) VG.call_len (by rfl) T.len (by decide +kernel) (pa_cons (pv 0) pa_nil)) (pv 1)) pa_nil)) (blkOk_by (own := [("start", 2)]) (N := ["sums", "length", "start"]) (sc := defScope s_window_sums) (by decide +kernel)) (fun _ _ _ _ _ => pg_name (i := 2) sc_window_sums.nd rfl (by first | exact Or.inl rfl | exact Or.inr rfl)) (fun _ _ _ _ _ => pts_nil) (fun _ _ _ _ _ => (pe_op op_sub (pe_ix (r := rIxL K) ix_list (pv 0) (pe_op op_add (pv 2) (pv 1)) (fun _ _ => rfl)) (pe_ix (r := rIxL K) ix_list (pv 0) (pv 2) (fun _ _ => rfl))))))), ?_⟩
    refine ⟨_, rfl, l, _, rfl, .inl hS, _, rfl, _, _, rfl, rfl, ?_⟩
    rw [List.length_map, row_length]
    refine ⟨_, rfl, by omega, by omega, fun D hD => lc_range (lo := 0) (n := (((us.length + 1 : Nat) : Int) - k).toNat)
      (fun j H2 => H2 D = some (.lst ((row (fun s => win us s k) j).map V.int)) ∧ Same H H2) ?_ ?_ ?_⟩
    · exact ⟨upd_same, Same.upd (Same.refl H) hD⟩
    · rintro j H2 hj ⟨hD2, s2⟩
      refine ⟨rfl, _, rfl, _, rfl, _, rfl, _, _, rfl, rfl, l, _, _, _, rfl, rfl, s2.seq hS, at_row (by omega) (by omega), _, rfl, _, rfl, l, _, _, _, rfl, rfl, s2.seq hS, at_row (by omega) (by omega), _, _, rfl, rfl,
        _, hD2, small (by rw [List.length_map, row_length]; omega), ?_, Same.upd s2 hD⟩
      rw [upd_same, rowI_succ, Int.zero_add]
      rfl
    · rintro H2 ⟨hD2, s2⟩
      rw [show (((us.length + 1 : Nat) : Int) - k).toNat = us.length + 1 - k by omega] at hD2
      exact q H2 D s2 hD hD2
end
end VK


namespace VK
open PySem PySem.Spec PyProof.Rows L2 VM
/-- the state of draws at r -/
def Rng (H : Hp) (r : Addr) : Prop := ∃ a b : Int, H r = some (.lst [.int a, .int b]) ∧ 0 ≤ a ∧ 0 ≤ b ∧ b < 2147483563
/-- all but the state of draws stands -/
structure Ext (r : Addr) (H H' : Hp) : Prop where
  keep : ∀ b o, b ≠ r → H b = some o → H' b = some o
  rng : Rng H' r
theorem Ext.refl {r : Addr} {H : Hp} (h : Rng H r) : Ext r H H := ⟨fun _ _ _ e => e, h⟩
theorem Ext.trans {r : Addr} {H H1 H2 : Hp} (a : Ext r H H1) (b : Ext r H1 H2) : Ext r H H2 := ⟨fun c o n e => b.keep c o n (a.keep c o n e), b.rng⟩
theorem Rng.same {r : Addr} {H H' : Hp} (h : Rng H r) (s : Same H H') : Rng H' r := by
  obtain ⟨a, b, e, h1, h2, h3⟩ := h
  exact ⟨a, b, s _ _ e, h1, h2, h3⟩
theorem Ext.of {r : Addr} {H H' : Hp} (h : Rng H r) (s : Same H H') : Ext r H H' := ⟨fun b o _ e => s b o e, h.same s⟩
theorem Ext.same {r : Addr} {H H1 H2 : Hp} (a : Ext r H H1) (s : Same H1 H2) : Ext r H H2 := a.trans (.of a.rng s)
theorem Ext.free {r : Addr} {H H' : Hp} {l : Addr} (e : Ext r H H') (h : H' l = none) : H l = none := by
  have n : l ≠ r := fun z => by
    obtain ⟨a, b, q, _⟩ := e.rng
    rw [z, q] at h; cases h
  cases q : H l with
  | none => rfl
  | some o => rw [e.keep l o n q] at h; cases h
theorem Ext.seq {K : PySem.W.Frag} {r : Addr} {H H' : Hp} {a : Addr} {xs : List V} (e : Ext r H H') (n : a ≠ r) (h : SqL K H a xs) : SqL K H' a xs := by
  rcases h with (h | ⟨o, h⟩) | h
  · exact .inl (.inl (e.keep _ _ n h))
  · exact .inl (.inr ⟨o, e.keep _ _ n h⟩)
  · exact .inr h
theorem Rng.ne {r l : Addr} {H : Hp} (h : Rng H r) (hl : H l = none) : l ≠ r := fun z => by
  obtain ⟨a, b, q, _⟩ := h
  rw [z, q] at hl; cases hl
def sp_l_rng (K : PySem.W.Frag) (_ : Ad) : Sp := fun vs H Q _ => ∃ (a : Addr) (ns : List Int) (k : Int), vs = [.ref a, .int k] ∧ SqL K H a (ns.map V.int) ∧ 0 ≤ k ∧ k ≤ 100 ∧
  ∀ H' p, Same H H' → H p = none → Rng H' p → Q (.ref p) H'
def sp_l_draw (_ : PySem.W.Frag) (_ : Ad) : Sp := fun vs H Q _ => ∃ (r : Addr) (m : Int), vs = [.ref r, .int m] ∧ Rng H r ∧ 0 < m ∧ m < 1073741824 ∧
  ∀ H' d, Ext r H H' → 0 ≤ d → d < m → Q (.int d) H'
def sp_l_choice (K : PySem.W.Frag) (_ : Ad) : Sp := fun vs H Q _ => ∃ (r l : Addr) (ys : List V), vs = [.ref r, .ref l] ∧ Rng H r ∧ SqL K H l ys ∧ l ≠ r ∧ 0 < ys.length ∧ ys.length < 1000000 ∧
  ∀ H' v, Ext r H H' → v ∈ ys → Q v H'
def sp_l_at (K : PySem.W.Frag) (_ : Ad) : Sp := fun vs H Q _ => ∃ (t l : Addr) (xs : List Int) (p g s : Int), vs = [.ref t, .int s] ∧ SqT K H t [.ref l, .int p, .int g] ∧
  SqL K H l (xs.map V.int) ∧ 0 < p ∧ p ≤ xs.length ∧ xs.length ≤ 1000 ∧ 0 ≤ s ∧ s < 2 ^ 62 ∧ Q (.int (cvAt xs p g s)) H
section
variable {P : Program} {w : World} {K : PySem.W.Frag} {mg : Str → Option Value} {base : Heap} {A : Ad}
theorem ok_l_rng (T : Txt K mg A) : FnOk P w K mg base CX0 1 A.f_l_rng A.d_l_rng ["_law_script", "_law_k"] (sp_l_rng K A) := by
  refine T.F_l_rng.ok sc_l_rng (fun vs H Q E h => ?_) (fun cdv A0 outer s H vs Q E hr h => ?_)
  · obtain ⟨a, ns, k, rfl, hS, hk, hk2, q⟩ := h
    rfl
  · obtain ⟨a, ns, k, rfl, hS, hk, hk2, q⟩ := h
    refine ⟨_, (pss_cons (ps_set (i := 2) sc_l_rng.nd rfl (by first | exact Or.inl rfl | exact Or.inr rfl) (pe_op op_add (pe_op op_mul pe_int (pv 1)) pe_int))
    (pss_cons (ps_if (pt_cmpR op_lt (pv 1) (pe_callB (r := VG.rLen K) VG.call_len (by rfl) T.len (by decide +kernel) (pa_cons (pv 0) pa_nil)) (nomark _)) (pss_one (ps_set (i := 2) sc_l_rng.nd rfl (by first | exact Or.inl rfl | exact Or.inr rfl) (pe_ix (r := rIxL K) ix_list (pv 0) (pv 1) (fun _ _ => rfl)))) pss_nil)
    (pss_one (ps_ret (pe_lst (pa_cons (pe_callB (call_max2 rfl) (by rfl) T.max (by decide +kernel) (pa_cons pe_int (pa_cons (pe_op op_sub (pe_callB call_abs (by rfl) T.abs (by decide +kernel) (pa_cons (pv 2) pa_nil)) (pe_op op_pow pe_int pe_int)) pa_nil))) (pa_cons (pe_op op_add (pe_op op_mod (pe_op op_mul (pe_callTy call_int1 (by rfl) T.int (by decide +kernel) (pa_cons (pe_op op_add (pe_op op_mod (pe_callTy call_int1 (by rfl) T.int (by decide +kernel) (pa_cons (pe_callB call_abs (by rfl) T.abs (by decide +kernel) (pa_cons (pv 2) pa_nil)) pa_nil)) pe_int) pe_int) pa_nil)) (pe_op op_pow (pe_op op_add (pe_op op_mul pe_int (pv 1)) pe_int) pe_int)) pe_int) pe_int) pa_nil))))))), ?_⟩
    refine ⟨_, rfl, _, _, rfl, rfl, .inl ⟨by decide, by decide⟩, _, _, rfl, rfl, ?_⟩
    refine ⟨_, rfl, _, rfl, a, _, rfl, .inl hS, _, _, rfl, rfl, _, rfl, ?_⟩
    rw [List.length_map]
    have b1 : (2 * k + 5).natAbs < 2 ^ 64 := by omega
    refine ifD (fun c => ?_) (fun c => ?_)
    · refine ⟨_, rfl, _, rfl, a, _, _, _, rfl, rfl, hS, at_map hk c, ?_⟩
      generalize ns.getD k.toNat 0 = c0
      refine ⟨_, rfl, _, rfl, _, _, rfl, rfl, ⟨by decide, by decide, by decide⟩, _, _, rfl, rfl, _, _, rfl, ?_⟩
      have z1 := Int.emod_nonneg (if c0 < 0 then -c0 else c0) (show (2147483549 : Int) ≠ 0 by decide)
      have z2 := Int.emod_lt_of_pos (if c0 < 0 then -c0 else c0) (show (0 : Int) < 2147483549 by decide)
      refine ⟨_, rfl, _, rfl, .inl ⟨_, rfl, _, _, rfl, rfl, (by show (0 : Int) < 2147483549; decide), _, _, rfl, rfl, .inl ⟨_, rfl, _, rfl, _, _, rfl, rfl, .inl ⟨by decide, by decide⟩, _, _, rfl, rfl, _, _, rfl, rfl, ⟨by decide, by decide, b1⟩, _, _, rfl, rfl, .inl ⟨by omega, by omega⟩, _, _, rfl, rfl, (by show (0 : Int) < 2147483543; decide), _, _, rfl, rfl, (by show 2 ≤ sizeLine; decide), fun p hp => ?_⟩⟩⟩
      have z3 := Int.emod_nonneg (((if c0 < 0 then -c0 else c0) % 2147483549 + 1) * (2 * k + 5) ^ Int.toNat 3) (show (2147483543 : Int) ≠ 0 by decide)
      have z4 := Int.emod_lt_of_pos (((if c0 < 0 then -c0 else c0) % 2147483549 + 1) * (2 * k + 5) ^ Int.toNat 3) (show (0 : Int) < 2147483543 by decide)
      refine q _ p (Same.upd (Same.refl H) hp) hp ⟨_, _, upd_same, ?_, by omega, by omega⟩
      by_cases cc : (if c0 < 0 then -c0 else c0) - 10 ^ Int.toNat 18 > 0
      · rw [if_pos cc]; omega
      · rw [if_neg cc]; omega
    · refine ⟨_, rfl, _, rfl, _, _, rfl, rfl, ⟨by decide, by decide, by decide⟩, _, _, rfl, rfl, _, _, rfl, ?_⟩
      have z1 := Int.emod_nonneg (if (7 * k + 3) < 0 then -(7 * k + 3) else (7 * k + 3)) (show (2147483549 : Int) ≠ 0 by decide)
      have z2 := Int.emod_lt_of_pos (if (7 * k + 3) < 0 then -(7 * k + 3) else (7 * k + 3)) (show (0 : Int) < 2147483549 by decide)
      refine ⟨_, rfl, _, rfl, .inl ⟨_, rfl, _, _, rfl, rfl, (by show (0 : Int) < 2147483549; decide), _, _, rfl, rfl, .inl ⟨_, rfl, _, rfl, _, _, rfl, rfl, .inl ⟨by decide, by decide⟩, _, _, rfl, rfl, _, _, rfl, rfl, ⟨by decide, by decide, b1⟩, _, _, rfl, rfl, .inl ⟨by omega, by omega⟩, _, _, rfl, rfl, (by show (0 : Int) < 2147483543; decide), _, _, rfl, rfl, (by show 2 ≤ sizeLine; decide), fun p hp => ?_⟩⟩⟩
      have z3 := Int.emod_nonneg (((if (7 * k + 3) < 0 then -(7 * k + 3) else (7 * k + 3)) % 2147483549 + 1) * (2 * k + 5) ^ Int.toNat 3) (show (2147483543 : Int) ≠ 0 by decide)
      have z4 := Int.emod_lt_of_pos (((if (7 * k + 3) < 0 then -(7 * k + 3) else (7 * k + 3)) % 2147483549 + 1) * (2 * k + 5) ^ Int.toNat 3) (show (0 : Int) < 2147483543 by decide)
      refine q _ p (Same.upd (Same.refl H) hp) hp ⟨_, _, upd_same, ?_, by omega, by omega⟩
      by_cases cc : (if (7 * k + 3) < 0 then -(7 * k + 3) else (7 * k + 3)) - 10 ^ Int.toNat 18 > 0
      · rw [if_pos cc]; omega
      · rw [if_neg cc]; omega
theorem ok_l_draw (T : Txt K mg A) : FnOk P w K mg base CX0 1 A.f_l_draw A.d_l_draw ["_law_rng_here", "_law_many"] (sp_l_draw K A) := by
  refine T.F_l_draw.ok sc_l_draw (fun vs H Q E h => ?_) (fun cdv A0 outer s H vs Q E hr h => ?_)
  · obtain ⟨r, m, rfl, ⟨a, b, hr0, ha, hb, hb2⟩, hm, hm2, q⟩ := h
    rfl
  · obtain ⟨r, m, rfl, ⟨a, b, hr0, ha, hb, hb2⟩, hm, hm2, q⟩ := h
    refine ⟨_, (pss_cons (ps_if (pt_cmpR op_gt (pe_ix (r := rIxL K) ix_list (pv 0) pe_int (fun _ _ => rfl)) pe_int (nomark _)) (pss_cons (ps_asg (pe_callB call_divmod (by rfl) T.divmod (by decide +kernel) (pa_cons (pe_ix (r := rIxL K) ix_list (pv 0) pe_int (fun _ _ => rfl)) (pa_cons (pv 1) pa_nil))) (pg_tup rfl (pgs_cons (pg_sub (pv 0) pe_int set_list) (pgs_cons (pg_name (i := 2) sc_l_draw.nd rfl (by first | exact Or.inl rfl | exact Or.inr rfl)) pgs_nil))))
    (pss_one (ps_ret (pv 2)))) pss_nil)
    (pss_cons (ps_asg (pe_op op_mod (pe_callTy call_int1 (by rfl) T.int (by decide +kernel) (pa_cons (pe_op op_add (pe_op op_mul (pe_ix (r := rIxL K) ix_list (pv 0) pe_int (fun _ _ => rfl)) pe_int) pe_int) pa_nil)) pe_int) (pg_sub (pv 0) pe_int set_list))
    (pss_one (ps_ret (pe_op op_mod (pe_op op_fdiv (pe_op op_mod (pe_callTy call_int1 (by rfl) T.int (by decide +kernel) (pa_cons (pe_op op_mul (pe_ix (r := rIxL K) ix_list (pv 0) pe_int (fun _ _ => rfl)) (pe_ix (r := rIxL K) ix_list (pv 0) pe_int (fun _ _ => rfl))) pa_nil)) pe_int) pe_int) (pv 1)))))), ?_⟩
    refine ⟨_, rfl, r, _, _, _, rfl, rfl, SqL.of hr0, rfl, _, _, rfl, rfl, _, rfl, ifD (fun c => ?_) (fun c => ?_)⟩
    · refine ⟨_, rfl, r, _, _, _, rfl, rfl, SqL.of hr0, rfl, _, rfl, _, _, rfl, ⟨hm, hm2⟩, fun t ht => ?_⟩
      have nrt : r ≠ t := ne_of_none hr0 ht
      refine ⟨t, _, rfl, SqT.of upd_same, rfl, _, _, rfl, _, rfl, r, _, _, 0, rfl, rfl, (by rw [upd_ne nrt]; exact hr0), rfl, _, _, rfl, rfl, ?_⟩
      refine ⟨_, rfl, q _ _ ⟨fun z o hz e => ?_, a / m, b, upd_same, Int.ediv_nonneg ha (by omega), hb, hb2⟩ (Int.emod_nonneg _ (by omega)) (Int.emod_lt_of_pos _ hm)⟩
      rw [upd_ne hz, upd_ne (ne_of_none e ht)]; exact e
    · refine ⟨_, rfl, r, _, _, _, rfl, rfl, SqL.of hr0, rfl, _, _, rfl, rfl, .inl ⟨by omega, by omega⟩, _, _, rfl, rfl, .inl ⟨_, rfl, _, _, rfl, rfl, (by show (0 : Int) < 2147483563; decide), ?_⟩⟩
      have e0 := Int.emod_nonneg (b * 48311 + 20011) (show (2147483563 : Int) ≠ 0 by decide)
      have e1 := Int.emod_lt_of_pos (b * 48311 + 20011) (show (0 : Int) < 2147483563 by decide)
      refine ⟨_, rfl, r, _, _, 1, rfl, rfl, hr0, rfl, ?_⟩
      have hr1 : upd H r (.lst [.int a, .int ((b * 48311 + 20011) % 2147483563)]) r = some (.lst [.int a, .int ((b * 48311 + 20011) % 2147483563)]) := upd_same
      refine ⟨_, rfl, r, [.int a, .int ((b * 48311 + 20011) % 2147483563)], _, _, rfl, rfl, SqL.of hr1, rfl, _, rfl, r, [.int a, .int ((b * 48311 + 20011) % 2147483563)], _, _, rfl, rfl, SqL.of hr1, rfl, _, _, rfl, rfl, .inl ⟨by omega, by omega⟩, .inl ⟨_, rfl, _, _, rfl, rfl, (by show (0 : Int) < 2147483497; decide), _, _, rfl, rfl, ⟨by decide, by decide⟩, _, rfl, _, _, rfl, rfl, hm, ?_⟩⟩
      exact q _ _ ⟨fun z o hz e => by rw [upd_ne hz]; exact e, a, _, hr1, ha, e0, e1⟩ (Int.emod_nonneg _ (by omega)) (Int.emod_lt_of_pos _ hm)
theorem ok_l_choice (T : Txt K mg A) : FnOk P w K mg base CX0 2 A.f_l_choice A.d_l_choice ["_law_rng_here", "_law_some"] (sp_l_choice K A) := by
  have G_l_draw := ok_l_draw (P := P) (w := w) (base := base) T
  refine T.F_l_choice.ok sc_l_choice (fun vs H Q E h => ?_) (fun cdv A0 outer s H vs Q E hr h => ?_)
  · obtain ⟨r, l, ys, rfl, hr0, hS, hl, hy, hy2, q⟩ := h
    rfl
  · obtain ⟨r, l, ys, rfl, hr0, hS, hl, hy, hy2, q⟩ := h
    refine ⟨_, (pss_one (ps_ret (pe_ix (r := rIxL K) ix_list (pv 1) (pe_call G_l_draw (hr.mono (by decide)) rfl T.m_l_draw T.k_l_draw T.b_l_draw .nil pass0 (pa_cons (pv 0) (pa_cons (pe_callB (r := VG.rLen K) VG.call_len (by rfl) T.len (by decide +kernel) (pa_cons (pv 1) pa_nil)) pa_nil))) (fun _ _ => rfl)))), ?_⟩
    refine ⟨_, rfl, _, rfl, _, rfl, l, _, rfl, .inl hS, r, _, rfl, hr0, by omega, by omega, fun H1 d e1 h0 h1 => ?_⟩
    have hd : d.toNat < ys.length := by omega
    refine ⟨l, ys, d, ys[d.toNat], rfl, rfl, e1.seq hl hS, ?_, q H1 _ e1 (List.getElem_mem hd)⟩
    exact at_of (j := d.toNat) (by omega) (List.getElem?_eq_getElem hd)
theorem ok_l_at (T : Txt K mg A) : FnOk P w K mg base CX0 1 A.f_l_at A.d_l_at ["_law_row", "_law_span"] (sp_l_at K A) := by
  refine T.F_l_at.ok sc_l_at (fun vs H Q E h => ?_) (fun cdv A0 outer s H vs Q E hr h => ?_)
  · obtain ⟨t, l, xs, p, g, s, rfl, hT, hS, hp, hpn, hn, hs, hsb, q⟩ := h
    rfl
  · obtain ⟨t, l, xs, p, g, s, rfl, hT, hS, hp, hpn, hn, hs, hsb, q⟩ := h
    refine ⟨_, (pss_cons (ps_asg (pv 0) (pg_tup rfl (pgs_cons (pg_name (i := 2) sc_l_at.nd rfl (by first | exact Or.inl rfl | exact Or.inr rfl)) (pgs_cons (pg_name (i := 3) sc_l_at.nd rfl (by first | exact Or.inl rfl | exact Or.inr rfl)) (pgs_cons (pg_name (i := 4) sc_l_at.nd rfl (by first | exact Or.inl rfl | exact Or.inr rfl)) pgs_nil)))))
    (pss_cons (ps_if (pt_cmpR op_eq (pv 1) pe_int (nomark _)) (pss_one (ps_ret pe_int)) pss_nil)
    (pss_cons (ps_if (pt_cmpR op_le (pv 1) (pe_callB (r := VG.rLen K) VG.call_len (by rfl) T.len (by decide +kernel) (pa_cons (pv 2) pa_nil)) (nomark _)) (pss_one (ps_ret (pe_ix (r := rIxL K) ix_list (pv 2) (pe_op op_sub (pv 1) pe_int) (fun _ _ => rfl)))) pss_nil)
    (pss_cons (ps_set (i := 5) sc_l_at.nd rfl (by first | exact Or.inl rfl | exact Or.inr rfl) (pe_op op_fdiv (pe_op op_sub (pe_op op_add (pe_op op_sub (pv 1) (pe_callB (r := VG.rLen K) VG.call_len (by rfl) T.len (by decide +kernel) (pa_cons (pv 2) pa_nil))) (pv 3)) pe_int) (pv 3)))
    (pss_one (ps_ret (pe_op op_add (pe_ix (r := rIxL K) ix_list (pv 2) (pe_op op_sub (pe_op op_sub (pv 1) (pe_op op_mul (pv 5) (pv 3))) pe_int) (fun _ _ => rfl)) (pe_op op_mul (pv 5) (pv 4))))))))), ?_⟩
    refine ⟨_, rfl, t, _, rfl, hT, rfl, _, _, rfl, _, _, rfl, _, _, rfl, rfl, ?_⟩
    refine ⟨_, rfl, rfl, _, rfl, ifEq (fun c => ?_) (fun c => ?_)⟩
    · subst c
      rw [cvAt_zero] at q
      exact q
    refine ⟨_, rfl, _, rfl, l, _, rfl, .inl hS, _, _, rfl, rfl, _, rfl, ifD (fun c1 => ?_) (fun c1 => ?_)⟩
    · rw [List.length_map] at c1
      rw [cvAt_in (by omega) c1] at q
      exact ⟨_, rfl, _, rfl, _, _, rfl, rfl, l, _, _, _, rfl, rfl, hS, at_map (by omega) (by omega), q⟩
    · rw [List.length_map] at c1
      obtain ⟨r1, r2, r3⟩ := rounds_spec (n := (xs.length : Int)) (t := s) hp (by omega)
      have rb : (s - (xs.length : Int) + p - 1) / p ≤ s := by
        have := Int.ediv_le_self p (show 0 ≤ s - (xs.length : Int) + p - 1 by omega)
        omega
      refine ⟨_, rfl, _, rfl, l, _, rfl, .inl hS, _, _, rfl, rfl, _, rfl, _, _, rfl, rfl, _, _, rfl, rfl, _, rfl, _, _, rfl, rfl, ⟨hp, by omega⟩, ?_⟩
      rw [List.length_map]
      refine ⟨_, rfl, _, rfl, _, rfl, _, rfl, _, _, rfl, rfl, .inl ⟨by omega, by omega⟩, _, _, rfl, rfl, _, _, rfl, rfl, l, _, _, _, rfl, rfl, hS, at_map (by omega) (by omega),
        _, rfl, _, rfl, _, _, rfl, rfl, .inl ⟨by omega, by omega⟩, _, _, rfl, rfl, ?_⟩
      unfold cvAt at q
      rw [if_neg c, if_neg c1] at q
      exact q
end
end VK


namespace VK
open PySem PySem.Spec PyProof.Rows L2 VM
def sp_C_first_values (K : PySem.W.Frag) (A : Ad) : Sp := fun vs H Q _ => ∃ (x : Addr) (cs : List Int) (p g : Int), vs = [.ref x] ∧ CrvAt A H x cs p g ∧ ∀ H' q, Same H H' → H q = none → H' q = some (.lst (cs.map V.int)) → Q (.ref q) H'
def sp_C_period (_ : PySem.W.Frag) (A : Ad) : Sp := fun vs H Q _ => ∃ (x : Addr) (cs : List Int) (p g : Int), vs = [.ref x] ∧ CrvAt A H x cs p g ∧ Q (.int p) H
def sp_C_gain (_ : PySem.W.Frag) (A : Ad) : Sp := fun vs H Q _ => ∃ (x : Addr) (cs : List Int) (p g : Int), vs = [.ref x] ∧ CrvAt A H x cs p g ∧ Q (.int g) H
section
variable {P : Program} {w : World} {K : PySem.W.Frag} {mg : Str → Option Value} {base : Heap} {A : Ad}
theorem ok_C_period (T : Txt K mg A) : FnOk P w K mg base CX0 1 A.f_C_period A.d_C_period ["self"] (sp_C_period K A) := by
  refine T.F_C_period.ok sc_C_period (fun vs H Q E h => ?_) (fun cdv A0 outer s H vs Q E hr h => ?_)
  · obtain ⟨x, cs, p, g, rfl, ⟨dx, l, w, b, hx, hl⟩, q⟩ := h
    rfl
  · obtain ⟨x, cs, p, g, rfl, ⟨dx, l, w, b, hx, hl⟩, q⟩ := h
    refine ⟨_, (pss_one (ps_ret (pe_fld (pv 0) rfl))), ?_⟩
    exact ⟨_, rfl, x, _, dx, _, _, rfl, hx, T.cl, T.n_period, cfs_p _ _ _ _ _, q⟩
theorem ok_C_gain (T : Txt K mg A) : FnOk P w K mg base CX0 1 A.f_C_gain A.d_C_gain ["self"] (sp_C_gain K A) := by
  refine T.F_C_gain.ok sc_C_gain (fun vs H Q E h => ?_) (fun cdv A0 outer s H vs Q E hr h => ?_)
  · obtain ⟨x, cs, p, g, rfl, ⟨dx, l, w, b, hx, hl⟩, q⟩ := h
    rfl
  · obtain ⟨x, cs, p, g, rfl, ⟨dx, l, w, b, hx, hl⟩, q⟩ := h
    refine ⟨_, (pss_one (ps_ret (pe_fld (pv 0) rfl))), ?_⟩
    exact ⟨_, rfl, x, _, dx, _, _, rfl, hx, T.cl, T.n_gain, cfs_g _ _ _ _ _, q⟩
theorem ok_C_first_values (T : Txt K mg A) : FnOk P w K mg base CX0 1 A.f_C_first_values A.d_C_first_values ["self"] (sp_C_first_values K A) := by
  refine T.F_C_first_values.ok sc_C_first_values (fun vs H Q E h => ?_) (fun cdv A0 outer s H vs Q E hr h => ?_)
  · obtain ⟨x, cs, p, g, rfl, ⟨dx, l, w, b, hx, hl⟩, k⟩ := h
    rfl
  · obtain ⟨x, cs, p, g, rfl, ⟨dx, l, w, b, hx, hl⟩, k⟩ := h
    refine ⟨_, (pss_one (ps_ret (pe_callTy (r := VG.rListOf K) VG.call_listOf (by rfl) T.list (by decide +kernel) (pa_cons (pe_fld (pv 0) rfl) pa_nil)))), ?_⟩
    exact ⟨_, rfl, x, _, dx, _, _, rfl, hx, T.cl, T.n_values, cfs_v _ _ _ _ _, l, _, rfl, .inl (SqL.of hl), fun q hq => k _ q (Same.upd (Same.refl _) hq) hq upd_same⟩
end
end VK


namespace VK
open PySem PySem.Spec PyProof.Rows L2 VM
theorem db_cinit {K : PySem.W.Frag} {mg : Str → Option Value} {A : Ad} (T : Txt K mg A) : ∃ ds, Vals [V.int 1, V.int 0] ds ∧ Binds K A.d_C_init ["self", "values", "period", "gain"] ds :=
  T.F_C_init.binds0 (ps := ["self", "values", "period", "gain"]) 2 (by simp) rfl (fun D doc pm an cdv ct us ks h1 h2 => match us, ks, h1, h2 with | [_, _], [_, _], _, _ => ⟨_, _, _, _, _, _, rfl, rfl, _, _, _, _, _, _, rfl, rfl, rfl⟩)
theorem cset_v (l l2 : Addr) (p g : Int) (w : Bool) (b : V) : putF "_values" (V.ref l2) (cfs l p g w b) = cfs l2 p g w b := by
  show (if ("_values" : Str) = "_values" then _ else _) = _
  rw [if_pos rfl]
  rfl
theorem cset_p (l : Addr) (p p2 g : Int) (w : Bool) (b : V) : putF "_period" (V.int p2) (cfs l p g w b) = cfs l p2 g w b := by
  show (if ("_values" : Str) = "_period" then _ else (("_values" : Str), V.ref l) :: (if ("_period" : Str) = "_period" then _ else _)) = _
  rw [if_neg n_vp, if_pos rfl]
  rfl
theorem cset_g (l : Addr) (p g g2 : Int) (w : Bool) (b : V) : putF "_gain" (V.int g2) (cfs l p g w b) = cfs l p g2 w b := by
  show (if ("_values" : Str) = "_gain" then _ else (("_values" : Str), V.ref l) :: (if ("_period" : Str) = "_gain" then _ else (("_period" : Str), V.int p) :: (if ("_gain" : Str) = "_gain" then _ else _))) = _
  rw [if_neg n_vg, if_neg n_pg, if_pos rfl]
  rfl
theorem truL {K : PySem.W.Frag} {H : Hp} {a : Addr} {xs : List V} (h : SqL K H a xs) : TruV K (.ref a) H (!xs.isEmpty) := .inl ⟨xs, h, rfl⟩
theorem Cnts.nn {us : List Int} (h : Cnts us) : ∀ u ∈ us, 0 ≤ u := fun u hu => by
  obtain ⟨i, hi, rfl⟩ := List.getElem_of_mem hu
  have := h i hi
  rw [List.getD_eq_getElem?_getD, List.getElem?_eq_getElem hi] at this
  exact this
theorem row_win {us : List Int} {k : Nat} {m : Int} (hk : k ≤ us.length) (hm : m ∈ row (fun s => win us s k) (us.length + 1 - k)) (hx : ∀ y ∈ row (fun s => win us s k) (us.length + 1 - k), y ≤ m) : m = mostM us k := by
  rw [show us.length + 1 - k = (us.length - k) + 1 by omega] at hm hx
  have e := maxTo_is (g := fun s : Nat => win us s k) (n := us.length - k) hm hx
  rw [e]
  unfold mostM
  by_cases c : us.length ≤ k
  · have : k = us.length := by omega
    subst this
    rw [if_pos (Nat.le_refl _), Nat.sub_self]
    exact win_all
  · rw [if_neg c]
theorem tV_cons {us : List Int} (h : us ≠ []) : tV us = row (fun i => mostM us (i.toNat + 1)) us.length := by
  unfold tV row vals
  rw [if_neg h]
  exact List.map_congr_left fun i _ => by
    unfold tF
    show mostM us ((i : Int) + 1).toNat = mostM us (((i : Nat) : Int).toNat + 1)
    rw [show ((i : Int) + 1).toNat = i + 1 by omega, Int.toNat_natCast]
theorem zero_at (i : Nat) : ([0] : List Int).getD i 0 = 0 := by cases i <;> simp
theorem ok_zero : OkRow [0] 1 0 := ⟨by decide, by decide, fun i _ => by rw [zero_at]; decide, fun i _ => by rw [zero_at]; decide, fun i _ => by rw [zero_at, zero_at]; decide, .inl rfl, by decide, by decide, by decide, by rw [zero_at, zero_at]; decide⟩
def sp_common_writing (K : PySem.W.Frag) (A : Ad) : Sp := fun vs H Q _ => ∃ (x y : Addr) (c1 c2 : List Int) (p1 g1 p2 g2 : Int), vs = [.ref x, .ref y] ∧ CrvAt A H x c1 p1 g1 ∧ CrvAt A H y c2 p2 g2 ∧ 0 < p1 ∧ p1 ≤ 1000 ∧ 0 < p2 ∧ p2 ≤ 1000 ∧
  ∀ H' t, Same H H' → H' t = some (.tup [.int (max ((c1.length : Int) - p1) ((c2.length : Int) - p2) + (Nat.lcm p1.toNat p2.toNat : Nat)), .int (Nat.lcm p1.toNat p2.toNat : Nat)]) → Q (.ref t) H'
def sp_gain_in (_ : PySem.W.Frag) (A : Ad) : Sp := fun vs H Q _ => ∃ (x : Addr) (cs : List Int) (p g t : Int), vs = [.ref x, .int t] ∧ CrvAt A H x cs p g ∧ 0 < p ∧ p ≤ 1000 ∧ 0 ≤ t ∧ t ≤ 2000000 ∧ Q (.int (g * (t / p))) H
def sp_make_curve (K : PySem.W.Frag) (A : Ad) : Sp := fun vs H Q _ => ∃ (l : Addr) (xs : List Int) (p g : Int), vs = [.ref l, .int p, .int g] ∧ SqL K H l (xs.map V.int) ∧ 0 < p ∧ p ≤ xs.length ∧ xs.length ≤ 1000 ∧
  ∀ H' x dx l', Same H H' → H x = none → H l' = none → H' x = some (.ins A.Curve dx (cfs l' (formP xs p g).1 (formP xs p g).2 false .non)) → H' l' = some (.lst ((formV xs p g).map V.int)) → Q (.ref x) H'
def sp_tightest (K : PySem.W.Frag) (A : Ad) : Sp := fun vs H Q _ => ∃ (l : Addr) (us : List Int), vs = [.ref l] ∧ SqL K H l (us.map V.int) ∧ us.length ≤ 900 ∧ Cnts us ∧
  ∀ H' x dx l', Same H H' → H x = none → H l' = none → H' x = some (.ins A.Curve dx (cfs l' 1 0 false .non)) → H' l' = some (.lst ((tW us).map V.int)) → Q (.ref x) H'
section
variable {P : Program} {w : World} {K : PySem.W.Frag} {mg : Str → Option Value} {base : Heap} {A : Ad}
theorem ok_common_writing (T : Txt K mg A) : FnOk P w K mg base CX0 3 A.f_common_writing A.d_common_writing ["one", "other"] (sp_common_writing K A) := by
  have G_C_first_values := ok_C_first_values (P := P) (w := w) (base := base) T
  have G_C_period := ok_C_period (P := P) (w := w) (base := base) T
  refine T.F_common_writing.ok sc_common_writing (fun vs H Q E h => ?_) (fun cdv A0 outer s H vs Q E hr h => ?_)
  · obtain ⟨x, y, c1, c2, p1, g1, p2, g2, rfl, hC1, hC2, a0, a1, b0, b1, k⟩ := h
    rfl
  · obtain ⟨x, y, c1, c2, p1, g1, p2, g2, rfl, hC1, hC2, a0, a1, b0, b1, k⟩ := h
    refine ⟨_, (pss_cons (ps_set (i := 2) sc_common_writing.nd rfl (by first | exact Or.inl rfl | exact Or.inr rfl) (pe_callBfun (r := VQ.rLcm) VQ.cr_lcm rfl T.fun_lcm (pa_cons (pe_prop (pv 0) T.cl T.pr_C_period G_C_period (hr.mono (by decide)) T.b_C_period .nil pass0 rfl) (pa_cons (pe_prop (pv 1) T.cl T.pr_C_period G_C_period (hr.mono (by decide)) T.b_C_period .nil pass0 rfl) pa_nil))))
    (pss_cons (ps_set (i := 3) sc_common_writing.nd rfl (by first | exact Or.inl rfl | exact Or.inr rfl) (pe_callB (r := rMax K) (cr_max rfl) (by rfl) T.max (by decide +kernel) (pa_cons (pe_lc (own := [("curve", 4)]) (g := gName 4) (tt := tYes) rfl sc_common_writing.nd (pi_tup (pe_tup (pa_cons (pv 0) (pa_cons (pv 1) pa_nil)))) (blkOk_by (own := [("curve", 4)]) (N := ["one", "other", "period", "many", "curve"]) (sc := defScope s_common_writing) (by decide +kernel)) (fun _ _ _ _ _ => pg_name (i := 4) sc_common_writing.nd rfl (by first | exact Or.inl rfl | exact Or.inr rfl)) (fun _ _ _ _ _ => pts_nil) (fun _ _ _ _ _ => (pe_op op_sub (pe_callB (r := VG.rLen K) VG.call_len (by rfl) T.len (by decide +kernel) (pa_cons (pe_meth0 (pv 4) T.cl T.me_first_values G_C_first_values (hr.mono (by decide)) T.b_C_first_values .nil pass0) pa_nil)) (pe_prop (pv 4) T.cl T.pr_C_period G_C_period (hr.mono (by decide)) T.b_C_period .nil pass0 rfl)))) pa_nil)))
    (pss_one (ps_ret (pe_tup (pa_cons (pe_op op_add (pv 3) (pv 2)) (pa_cons (pv 2) pa_nil))))))), ?_⟩
    obtain ⟨dx, l1, w1, bb1, hx, hl1⟩ := id hC1
    obtain ⟨dy, l2, w2, bb2, hy, hl2⟩ := id hC2
    refine ⟨_, rfl, x, dx, _, rfl, hx, x, c1, p1, g1, rfl, hC1, _, rfl, y, dy, _, rfl, hy, y, c2, p2, g2, rfl, hC2, _, _, rfl, a0, a1, b0, b1, ?_⟩
    refine ⟨_, rfl, _, rfl, (by show 2 ≤ sizeLine; decide), fun t ht => ⟨t, rfl, ⟨_, SqT.of upd_same⟩, fun D hD => ?_⟩⟩
    have s0 : Same H (upd H t (.tup [.ref x, .ref y])) := Same.upd (Same.refl _) ht
    refine lc_tup (K := K) (a := t) (xs := [.ref x, .ref y]) (fun i H2 => Same (upd H t (.tup [.ref x, .ref y])) H2 ∧ H2 D = some (.lst ((([(c1.length : Int) - p1, (c2.length : Int) - p2] : List Int).take i).map V.int)))
      ⟨Same.upd (Same.refl _) hD, upd_same⟩ (fun i H2 _ ⟨s, _⟩ => SqT.of (s _ _ upd_same)) ?_ ?_
    · rintro i v H2 hi ⟨s, hD2⟩
      have s2 := s0.trans s
      match i, hi with
      | 0, hi =>
        cases hi
        refine ⟨rfl, _, rfl, x, dx, _, rfl, s2 _ _ hx, cfs_no _ _ _ (by decide +kernel) (by decide +kernel) (by decide +kernel), x, c1, p1, g1, rfl, hC1.same s2, fun H3 q s3 _ hq => ⟨q, _, rfl, .inl (SqL.of hq), ?_⟩⟩
        rw [List.length_map]
        have s4 := s2.trans s3
        refine ⟨_, rfl, x, dx, _, rfl, s4 _ _ hx, x, c1, p1, g1, rfl, hC1.same s4, _, _, rfl, rfl, _, s3 _ _ hD2, (by show _ < sizeLine; rw [sizeLine_eq]; simp), Same.upd (s.trans s3) hD, ?_⟩
        rw [upd_same]
        rfl
      | 1, hi =>
        cases hi
        refine ⟨rfl, _, rfl, y, dy, _, rfl, s2 _ _ hy, cfs_no _ _ _ (by decide +kernel) (by decide +kernel) (by decide +kernel), y, c2, p2, g2, rfl, hC2.same s2, fun H3 q s3 _ hq => ⟨q, _, rfl, .inl (SqL.of hq), ?_⟩⟩
        rw [List.length_map]
        have s4 := s2.trans s3
        refine ⟨_, rfl, y, dy, _, rfl, s4 _ _ hy, y, c2, p2, g2, rfl, hC2.same s4, _, _, rfl, rfl, _, s3 _ _ hD2, (by show _ < sizeLine; rw [sizeLine_eq]; simp), Same.upd (s.trans s3) hD, ?_⟩
        rw [upd_same]
        rfl
      | n + 2, hi => cases hi
    · rintro H2 ⟨s, hD2⟩
      refine ⟨D, _, rfl, SqL.of hD2, (by simp), fun m hm hmx => ?_⟩
      have em : m = max ((c1.length : Int) - p1) ((c2.length : Int) - p2) := by
        have hm : m ∈ [(c1.length : Int) - p1, (c2.length : Int) - p2] := hm
        have m1 := hmx ((c1.length : Int) - p1) (by show _ ∈ [_, _]; simp)
        have m2 := hmx ((c2.length : Int) - p2) (by show _ ∈ [_, _]; simp)
        simp only [List.mem_cons, List.not_mem_nil, or_false] at hm
        omega
      subst em
      refine ⟨_, rfl, _, rfl, _, _, rfl, rfl, _, rfl, (by show 2 ≤ sizeLine; decide), fun t2 ht2 => ?_⟩
      exact k _ t2 (Same.upd (s0.trans s) ((s0.trans s).free ht2)) upd_same
theorem ok_gain_in (T : Txt K mg A) : FnOk P w K mg base CX0 3 A.f_gain_in A.d_gain_in ["curve", "ticks"] (sp_gain_in K A) := by
  have G_C_gain := ok_C_gain (P := P) (w := w) (base := base) T
  have G_C_period := ok_C_period (P := P) (w := w) (base := base) T
  refine T.F_gain_in.ok sc_gain_in (fun vs H Q E h => ?_) (fun cdv A0 outer s H vs Q E hr h => ?_)
  · obtain ⟨x, cs, p, g, t, rfl, hC, p0, p1, t0, t1, q⟩ := h
    rfl
  · obtain ⟨x, cs, p, g, t, rfl, hC, p0, p1, t0, t1, q⟩ := h
    refine ⟨_, (pss_one (ps_ret (pe_op op_mul (pe_prop (pv 0) T.cl T.pr_C_gain G_C_gain (hr.mono (by decide)) T.b_C_gain .nil pass0 rfl) (pe_op op_fdiv (pv 1) (pe_prop (pv 0) T.cl T.pr_C_period G_C_period (hr.mono (by decide)) T.b_C_period .nil pass0 rfl))))), ?_⟩
    obtain ⟨dx, l, w, b, hx, hl⟩ := id hC
    have h1 := Int.ediv_nonneg t0 (show 0 ≤ p by omega)
    have h2 := Int.ediv_le_self p t0
    exact ⟨_, rfl, x, dx, _, rfl, hx, x, cs, p, g, rfl, hC, _, rfl, _, rfl, x, dx, _, rfl, hx, x, cs, p, g, rfl, hC, _, _, rfl, rfl, ⟨p0, by omega⟩, _, _, rfl, rfl, .inr ⟨by omega, by omega⟩, q⟩
theorem ok_make_curve (T : Txt K mg A) : FnOk P w K mg base CX0 7 A.f_make_curve A.d_make_curve ["values", "period", "gain"] (sp_make_curve K A) := by
  have G_C_init := ok_C_init (P := P) (w := w) (base := base) T
  have G_least_form := ok_least_form (P := P) (w := w) (base := base) T
  obtain ⟨dc, hvC, hbC⟩ := db_cinit T
  refine T.F_make_curve.ok sc_make_curve (fun vs H Q E h => ?_) (fun cdv A0 outer s H vs Q E hr h => ?_)
  · obtain ⟨l, xs, p, g, rfl, hS, hp, hpn, hn, k⟩ := h
    rfl
  · obtain ⟨l, xs, p, g, rfl, hS, hp, hpn, hn, k⟩ := h
    refine ⟨_, (pss_cons (ps_set (i := 3) sc_make_curve.nd rfl (by first | exact Or.inl rfl | exact Or.inr rfl) (pe_make T.M_Curve G_C_init (hr.mono (by decide)) rfl T.m_Curve hbC hvC pass0 (pa_cons (pe_lst (pa_cons pe_int pa_nil)) pa_nil)))
    (pss_cons (ps_asg (pe_call G_least_form (hr.mono (by decide)) rfl T.m_least_form T.k_least_form T.b_least_form .nil pass0 (pa_cons (pv 0) (pa_cons (pv 1) (pa_cons (pv 2) pa_nil)))) (pg_tup rfl (pgs_cons (pg_name (i := 4) sc_make_curve.nd rfl (by first | exact Or.inl rfl | exact Or.inr rfl)) (pgs_cons (pg_name (i := 5) sc_make_curve.nd rfl (by first | exact Or.inl rfl | exact Or.inr rfl)) (pgs_cons (pg_name (i := 6) sc_make_curve.nd rfl (by first | exact Or.inl rfl | exact Or.inr rfl)) pgs_nil)))))
    (pss_cons (ps_fld (pv 3) (pv 4) rfl)
    (pss_cons (ps_fld (pv 3) (pv 5) rfl)
    (pss_cons (ps_fld (pv 3) (pv 6) rfl)
    (pss_one (ps_ret (pv 3)))))))), ?_⟩
    refine ⟨(by show 1 ≤ sizeLine; decide), fun q hq => fun x dx hx hdx hne => ⟨x, dx, q, [0], 1, 0, rfl, upd_same, SqL.of ?_, ok_zero, fun H1 dxc lc keep hlc c1 c2 => ⟨rfl, ?_⟩⟩⟩
    · rw [upd_ne (ne_of_none upd_same hx), upd_ne (ne_of_none upd_same hdx)]; exact upd_same
    have s0 : Same H (upd H q (.lst [.int 0])) := Same.upd (Same.refl _) hq
    have s1 : Same H H1 := fun b o e => keep b o (ne_of_none (s0 _ _ e) hx) (by rw [upd_ne (ne_of_none (s0 _ _ e) hx), upd_ne (ne_of_none (s0 _ _ e) hdx)]; exact s0 _ _ e)
    refine ⟨_, rfl, _, rfl, _, rfl, l, xs, p, g, rfl, s1.seq hS, hp, hpn, hn, fun H2 t l' s2 ht0 hl0 ht hl => ?_⟩
    refine ⟨t, _, rfl, SqT.of ht, rfl, _, _, rfl, _, _, rfl, _, _, rfl, rfl, ?_⟩
    have x2 := s2 _ _ c1
    have nlx : l' ≠ x := fun z => by rw [z, c1] at hl0; cases hl0
    refine ⟨_, rfl, _, rfl, x, _, dxc, _, rfl, x2, T.cl, T.n_values, (by show 5 < 1000; decide), ?_⟩
    rw [cset_v]
    refine ⟨_, rfl, _, rfl, x, _, dxc, _, rfl, upd_same, T.cl, T.n_period, (by show 5 < 1000; decide), ?_⟩
    rw [cset_p]
    refine ⟨_, rfl, _, rfl, x, _, dxc, _, rfl, upd_same, T.cl, T.n_gain, (by show 5 < 1000; decide), ?_⟩
    rw [cset_g, upd_upd, upd_upd]
    refine ⟨_, rfl, k _ x dxc l' (fun b o e => ?_) (s0.free hx) (s1.free hl0) upd_same (by rw [upd_ne nlx]; exact hl)⟩
    rw [upd_ne (ne_of_none (s0 _ _ e) hx)]
    exact s2 _ _ (s1 _ _ e)
theorem ok_tightest (T : Txt K mg A) : FnOk P w K mg base CX0 8 A.f_tightest A.d_tightest ["record"] (sp_tightest K A) := by
  have G_make_curve := ok_make_curve (P := P) (w := w) (base := base) T
  have G_require_record := ok_require_record (P := P) (w := w) (base := base) T
  have G_sums_before := ok_sums_before (P := P) (w := w) (base := base) T
  have G_window_sums := ok_window_sums (P := P) (w := w) (base := base) T
  refine T.F_tightest.ok sc_tightest (fun vs H Q E h => ?_) (fun cdv A0 outer s H vs Q E hr h => ?_)
  · obtain ⟨l, us, rfl, hS, hn, hc, k⟩ := h
    rfl
  · obtain ⟨l, us, rfl, hS, hn, hc, k⟩ := h
    refine ⟨_, (pss_cons (ps_expr (pe_call G_require_record (hr.mono (by decide)) rfl T.m_require_record T.k_require_record T.b_require_record .nil pass0 (pa_cons (pv 0) pa_nil)))
    (pss_cons (ps_set (i := 1) sc_tightest.nd rfl (by first | exact Or.inl rfl | exact Or.inr rfl) (pe_call G_sums_before (hr.mono (by decide)) rfl T.m_sums_before T.k_sums_before T.b_sums_before .nil pass0 (pa_cons (pv 0) pa_nil)))
    (pss_cons (ps_setLc (i := 2) (own := [("length", 3)]) (g := gName 3) (tt := tYes) rfl sc_tightest.nd rfl rfl (sw_true rfl rfl rfl (by decide +kernel)) (pi_range2 rfl T.range (pa_cons pe_int (pa_cons (pe_op op_add (pe_callB (r := VG.rLen K) VG.call_len (by rfl) T.len (by decide +kernel) (pa_cons (pv 0) pa_nil)) pe_int) pa_nil))) (blkOk_by (own := [("length", 3)]) (N := ["record", "sums", "values", "length"]) (sc := defScope s_tightest) (by decide +kernel)) (fun _ _ _ _ _ => pg_name (i := 3) sc_tightest.nd rfl (by first | exact Or.inl rfl | exact Or.inr rfl)) (fun _ _ _ _ _ => pts_nil) (fun _ _ _ _ _ => (pe_callB (r := rMax K) (cr_max rfl) (by rfl) T.max (by decide +kernel) (pa_cons (pe_call G_window_sums (hr.mono (by decide)) rfl T.m_window_sums T.k_window_sums T.b_window_sums .nil pass0 (pa_cons (pv 1) (pa_cons (pv 3) pa_nil))) pa_nil))))
    (pss_one (ps_ret (pe_call G_make_curve (hr.mono (by decide)) rfl T.m_make_curve T.k_make_curve T.b_make_curve .nil pass0 (pa_cons (pe_orT (pv 2) (pe_one (pe_lst (pa_cons pe_int pa_nil)))) (pa_cons pe_int (pa_cons pe_int pa_nil))))))))), ?_⟩
    refine ⟨_, rfl, l, us, rfl, hS, hc, fun H1 s1 => ?_⟩
    refine ⟨_, rfl, l, us, rfl, s1.seq hS, by omega, fun H2 S s2 hs0 hs => ?_⟩
    have s02 := s1.trans s2
    refine ⟨_, rfl, l, _, rfl, .inl (s02.seq hS), _, _, rfl, rfl, _, _, rfl, ⟨by omega, by omega, by rw [List.length_map]; omega, by rw [List.length_map]; omega⟩, fun D hD => ?_⟩
    rw [List.length_map]
    refine lc_range (lo := 1) (n := ((us.length : Int) + 1 - 1).toNat) (fun j H3 => H3 D = some (.lst ((row (fun i => mostM us (i.toNat + 1)) j).map V.int)) ∧ Same H2 H3) ⟨upd_same, Same.upd (Same.refl _) hD⟩ ?_ ?_
    · rintro j H3 hj ⟨hD3, s3⟩
      have hj' : j < us.length := by omega
      refine ⟨rfl, _, rfl, _, rfl, S, us, j + 1, (by rw [show 1 + (j : Int) = ((j + 1 : Nat) : Int) by omega]; rfl), SqL.of (s3 _ _ hs), by omega, by omega, fun H4 q s4 hq0 hq => ⟨q, _, rfl, SqL.of hq, by rw [row_length]; omega, fun m hm hmx => ?_⟩⟩
      have em := row_win (by omega) hm hmx
      subst em
      refine ⟨_, s4 _ _ hD3, small (by rw [List.length_map, row_length]; omega), ?_, Same.upd (s3.trans s4) hD⟩
      rw [upd_same, rowI_succ, Int.toNat_natCast]
    rintro H3 ⟨hD3, s3⟩
    rw [show ((us.length : Int) + 1 - 1).toNat = us.length by omega] at hD3
    have s03 := s02.trans s3
    have dn : H D = none := s02.free hD
    refine ⟨_, rfl, _, truL (SqL.of hD3), ?_⟩
    have fin : ∀ (H4 : Hp) (q : Addr), Same H H4 → H4 q = some (.lst ((tV us).map V.int)) → sp_make_curve K A [.ref q, .int 1, .int 0] H4 Q E0 := fun H4 q s4 hq => by
      refine ⟨q, tV us, 1, 0, rfl, SqL.of hq, by decide, by rw [tV_length]; omega, by rw [tV_length]; omega, fun H5 x dx l' s5 hx0 hl0 hx hl => ?_⟩
      rw [tV_p] at hx
      rw [tW_eq] at hl
      exact k H5 x dx l' (s4.trans s5) (s4.free hx0) (s4.free hl0) hx hl
    by_cases z : us = []
    · subst z
      refine iteF ⟨(by show 1 ≤ sizeLine; decide), fun q hq => ?_⟩
      exact fin _ q (Same.upd s03 (s03.free hq)) upd_same
    · have ne : (!((row (fun i => mostM us (i.toNat + 1)) us.length).map V.int).isEmpty) = true := by
        have : us.length ≠ 0 := fun y => z (List.length_eq_zero_iff.mp y)
        rw [Bool.not_eq_true', List.isEmpty_eq_false_iff]
        intro y
        have z2 := congrArg List.length y
        rw [List.length_map, row_length] at z2
        exact this z2
      rw [ne]
      refine iteT ?_
      refine fin _ D s03 ?_
      rw [tV_cons z]; exact hD3
end
end VK


namespace VK
open PySem PySem.Spec PyProof.Rows L2 VM
theorem zeros_map (n : Nat) : (List.replicate n [V.int 0]).flatten = (List.replicate n (0 : Int)).map V.int := by
  induction n with
  | zero => rfl
  | succ n ih => rw [List.replicate_succ, List.flatten_cons, ih]; rfl
theorem row_vals {f : Int → Int} {n : Nat} : row (fun i => f (1 + i)) n = vals f n := by
  unfold row vals
  exact List.map_congr_left fun i _ => by rw [Int.add_comm]
theorem lcm_le {p q : Int} (p0 : 0 < p) (p1 : p ≤ 12) (q0 : 0 < q) (q1 : q ≤ 12) : 0 < Nat.lcm p.toNat q.toNat ∧ Nat.lcm p.toNat q.toNat ≤ 144 := by
  have m := Nat.le_of_dvd (Nat.mul_pos (show 0 < p.toNat by omega) (show 0 < q.toNat by omega)) (Nat.lcm_dvd_mul p.toNat q.toNat)
  have z : p.toNat * q.toNat ≤ 12 * 12 := Nat.mul_le_mul (by omega) (by omega)
  exact ⟨Nat.lcm_pos (by omega) (by omega), by omega⟩
/-- with how many values the sum of two curves is written -/
def addN (n1 n2 : Nat) (p1 p2 : Int) : Nat := (max ((n1 : Int) - p1) ((n2 : Int) - p2) + (Nat.lcm p1.toNat p2.toNat : Nat)).toNat
def addG (p1 g1 p2 g2 : Int) : Int := g1 * ((Nat.lcm p1.toNat p2.toNat : Nat) / p1) + g2 * ((Nat.lcm p1.toNat p2.toNat : Nat) / p2)
theorem add_rep {f h : Int → Int} {n1 n2 : Nat} {p1 g1 p2 g2 : Int} (R : Rep f n1 p1 g1) (S : Rep h n2 p2 g2) (a0 : 0 < p1) (a1 : p1 ≤ n1) (b0 : 0 < p2) (b1 : p2 ≤ n2) :
    Rep (fun t => f t + h t) (addN n1 n2 p1 p2) (Nat.lcm p1.toNat p2.toNat : Nat) (addG p1 g1 p2 g2) := by
  have d1 : p1 ∣ ((Nat.lcm p1.toNat p2.toNat : Nat) : Int) := by
    have := Int.natCast_dvd_natCast.mpr (Nat.dvd_lcm_left p1.toNat p2.toNat)
    rwa [Int.toNat_of_nonneg (by omega)] at this
  have d2 : p2 ∣ ((Nat.lcm p1.toNat p2.toNat : Nat) : Int) := by
    have := Int.natCast_dvd_natCast.mpr (Nat.dvd_lcm_right p1.toNat p2.toNat)
    rwa [Int.toNat_of_nonneg (by omega)] at this
  have l0 : 0 < Nat.lcm p1.toNat p2.toNat := Nat.lcm_pos (by omega) (by omega)
  unfold addN addG
  generalize Nat.lcm p1.toNat p2.toNat = L at *
  exact (R.mul a0 d1 (by omega) (by omega)).add (S.mul b0 d2 (by omega) (by omega))
def sp_C_later (K : PySem.W.Frag) (A : Ad) : Sp := fun vs H Q _ => ∃ (x : Addr) (cs : List Int) (p g : Int) (n : Nat), vs = [.ref x, .int n] ∧ CrvAt A H x cs p g ∧ 0 < p ∧ p ≤ cs.length ∧ cs.length ≤ 800 ∧ n ≤ 100 ∧
  ∀ H' y dx l', Same H H' → H y = none → H l' = none → H' y = some (.ins A.Curve dx (cfs l' (formP (List.replicate n 0 ++ cs) p g).1 (formP (List.replicate n 0 ++ cs) p g).2 false .non)) → H' l' = some (.lst ((formV (List.replicate n 0 ++ cs) p g).map V.int)) → Q (.ref y) H'
def sp_C_add (K : PySem.W.Frag) (A : Ad) : Sp := fun vs H Q _ => ∃ (x y : Addr) (c1 c2 : List Int) (p1 g1 p2 g2 : Int), vs = [.ref x, .ref y] ∧ CrvAt A H x c1 p1 g1 ∧ CrvAt A H y c2 p2 g2 ∧ 0 < p1 ∧ p1 ≤ c1.length ∧ p1 ≤ 12 ∧ c1.length ≤ 500 ∧ 0 < p2 ∧ p2 ≤ c2.length ∧ p2 ≤ 12 ∧ c2.length ≤ 500 ∧
  ∀ H' z dx l', Same H H' → H z = none → H l' = none →
    H' z = some (.ins A.Curve dx (cfs l' (formP (vals (fun t => cvAt c1 p1 g1 t + cvAt c2 p2 g2 t) (addN c1.length c2.length p1 p2)) (Nat.lcm p1.toNat p2.toNat : Nat) (addG p1 g1 p2 g2)).1 (formP (vals (fun t => cvAt c1 p1 g1 t + cvAt c2 p2 g2 t) (addN c1.length c2.length p1 p2)) (Nat.lcm p1.toNat p2.toNat : Nat) (addG p1 g1 p2 g2)).2 false .non)) →
    H' l' = some (.lst ((formV (vals (fun t => cvAt c1 p1 g1 t + cvAt c2 p2 g2 t) (addN c1.length c2.length p1 p2)) (Nat.lcm p1.toNat p2.toNat : Nat) (addG p1 g1 p2 g2)).map V.int)) → Q (.ref z) H'
section
variable {P : Program} {w : World} {K : PySem.W.Frag} {mg : Str → Option Value} {base : Heap} {A : Ad}
theorem ok_C_later (T : Txt K mg A) : FnOk P w K mg base CX0 8 A.f_C_later A.d_C_later ["self", "ticks"] (sp_C_later K A) := by
  have G_make_curve := ok_make_curve (P := P) (w := w) (base := base) T
  have G_require_count_to := ok_require_count_to (P := P) (w := w) (base := base) T
  refine T.F_C_later.ok sc_C_later (fun vs H Q E h => ?_) (fun cdv A0 outer s H vs Q E hr h => ?_)
  · obtain ⟨x, cs, p, g, n, rfl, hC, hp, hpn, hn, hl, k⟩ := h
    rfl
  · obtain ⟨x, cs, p, g, n, rfl, hC, hp, hpn, hn, hl, k⟩ := h
    refine ⟨_, (pss_cons (ps_expr (pe_call G_require_count_to (hr.mono (by decide)) rfl T.m_require_count_to T.k_require_count_to T.b_require_count_to .nil pass0 (pa_cons (pv 1) (pa_cons (pe_glob (v := .int 100) rfl T.v_MAX_LATER ⟨_, rfl⟩) pa_nil))))
    (pss_one (ps_ret (pe_call G_make_curve (hr.mono (by decide)) rfl T.m_make_curve T.k_make_curve T.b_make_curve .nil pass0 (pa_cons (pe_op op_cat (pe_op op_rep (pe_lst (pa_cons pe_int pa_nil)) (pv 1)) (pe_fld (pv 0) rfl)) (pa_cons (pe_fld (pv 0) rfl) (pa_cons (pe_fld (pv 0) rfl) pa_nil))))))), ?_⟩
    obtain ⟨dx, l, w, b, hx, hv⟩ := id hC
    refine ⟨_, rfl, n, 100, rfl, by omega, by omega, ?_⟩
    refine ⟨(by show 1 ≤ sizeLine; decide), fun q hq => ?_⟩
    refine ⟨_, rfl, q, _, _, rfl, rfl, upd_same, by omega, by omega, (by show 1 * _ ≤ sizeLine; rw [sizeLine_eq]; omega), fun q2 hq2 => ?_⟩
    have s1 : Same H (upd H q (.lst [.int 0])) := Same.upd (Same.refl _) hq
    have s2 := Same.upd (o := .lst (List.replicate (n : Int).toNat [V.int 0]).flatten) s1 (s1.free hq2)
    have q20 := s1.free hq2
    refine ⟨_, rfl, x, _, dx, _, _, rfl, s2 _ _ hx, T.cl, T.n_values, cfs_v _ _ _ _ _, q2, l, _, _, rfl, rfl, upd_same, s2 _ _ hv, ?_, fun q3 hq3 => ?_⟩
    · rw [Int.toNat_natCast, zeros_map, List.length_map, List.length_map, List.length_replicate, sizeLine_eq]
      omega
    have s3 := Same.upd (o := .lst ((List.replicate (n : Int).toNat [V.int 0]).flatten ++ cs.map V.int)) s2 (s2.free hq3)
    refine ⟨_, rfl, x, _, dx, _, _, rfl, s3 _ _ hx, T.cl, T.n_period, cfs_p _ _ _ _ _, _, rfl, x, _, dx, _, _, rfl, s3 _ _ hx, T.cl, T.n_gain, cfs_g _ _ _ _ _, ?_⟩
    refine ⟨q3, List.replicate n 0 ++ cs, p, g, rfl, SqL.of ?_, hp, by simp; omega, by simp; omega, fun H5 y dy l' s5 hy0 hl0 hy hl' => ?_⟩
    · rw [upd_same, Int.toNat_natCast, zeros_map, List.map_append]
    · exact k H5 y dy l' (s3.trans s5) (s3.free hy0) (s3.free hl0) hy hl'
theorem ok_C_add (T : Txt K mg A) : FnOk P w K mg base CX0 8 A.f_C_add A.d_C_add ["self", "other"] (sp_C_add K A) := by
  have G_C_at := ok_C_at (P := P) (w := w) (base := base) T
  have G_common_writing := ok_common_writing (P := P) (w := w) (base := base) T
  have G_gain_in := ok_gain_in (P := P) (w := w) (base := base) T
  have G_make_curve := ok_make_curve (P := P) (w := w) (base := base) T
  refine T.F_C_add.ok sc_C_add (fun vs H Q E h => ?_) (fun cdv A0 outer s H vs Q E hr h => ?_)
  · obtain ⟨x, y, c1, c2, p1, g1, p2, g2, rfl, hC1, hC2, a0, a1, a2, a3, b0, b1, b2, b3, k⟩ := h
    rfl
  · obtain ⟨x, y, c1, c2, p1, g1, p2, g2, rfl, hC1, hC2, a0, a1, a2, a3, b0, b1, b2, b3, k⟩ := h
    refine ⟨_, (pss_cons (ps_if (pt_not (pt_val (pe_callB (r := rIsi K) call_isi (by rfl) T.isinstance (by decide +kernel) (pa_cons (pv 1) (pa_cons (pe_glob (v := .ref A.Curve) rfl T.m_Curve rfl) pa_nil))))) (pss_one ps_never) pss_nil)
    (pss_cons (ps_asg (pe_call G_common_writing (hr.mono (by decide)) rfl T.m_common_writing T.k_common_writing T.b_common_writing .nil pass0 (pa_cons (pv 0) (pa_cons (pv 1) pa_nil))) (pg_tup rfl (pgs_cons (pg_name (i := 2) sc_C_add.nd rfl (by first | exact Or.inl rfl | exact Or.inr rfl)) (pgs_cons (pg_name (i := 3) sc_C_add.nd rfl (by first | exact Or.inl rfl | exact Or.inr rfl)) pgs_nil))))
    (pss_cons (ps_setLc (i := 4) (own := [("length", 5)]) (g := gName 5) (tt := tYes) rfl sc_C_add.nd rfl rfl (sw_true rfl rfl rfl (by decide +kernel)) (pi_range2 rfl T.range (pa_cons pe_int (pa_cons (pe_op op_add (pv 2) pe_int) pa_nil))) (blkOk_by (own := [("length", 5)]) (N := ["self", "other", "many", "period", "values", "length"]) (sc := defScope s_C_add) (by decide +kernel)) (fun _ _ _ _ _ => pg_name (i := 5) sc_C_add.nd rfl (by first | exact Or.inl rfl | exact Or.inr rfl)) (fun _ _ _ _ _ => pts_nil) (fun _ _ _ _ _ => (pe_op op_add (pe_meth (pv 0) T.cl T.me_at G_C_at (hr.mono (by decide)) T.b_C_at .nil pass0 (pa_cons (pv 5) pa_nil)) (pe_meth (pv 1) T.cl T.me_at G_C_at (hr.mono (by decide)) T.b_C_at .nil pass0 (pa_cons (pv 5) pa_nil)))))
    (pss_one (ps_ret (pe_call G_make_curve (hr.mono (by decide)) rfl T.m_make_curve T.k_make_curve T.b_make_curve .nil pass0 (pa_cons (pv 4) (pa_cons (pv 3) (pa_cons (pe_op op_add (pe_call G_gain_in (hr.mono (by decide)) rfl T.m_gain_in T.k_gain_in T.b_gain_in .nil pass0 (pa_cons (pv 0) (pa_cons (pv 3) pa_nil))) (pe_call G_gain_in (hr.mono (by decide)) rfl T.m_gain_in T.k_gain_in T.b_gain_in .nil pass0 (pa_cons (pv 1) (pa_cons (pv 3) pa_nil)))) pa_nil))))))))), ?_⟩
    obtain ⟨dx, l1, w1, bb1, hx, hl1⟩ := id hC1
    obtain ⟨dy, l2, w2, bb2, hy, hl2⟩ := id hC2
    obtain ⟨L0, L1⟩ := lcm_le a0 a2 b0 b2
    have R := add_rep (g1 := g1) (g2 := g2) (Rep.cvAt a0 a1) (Rep.cvAt b0 b1) a0 a1 b0 b1
    refine ⟨_, rfl, _, _, _, _, _, rfl, .own _, T.ic_Curve.typ T.cl hy, VN.kit_self, _, rfl, iteF ?_⟩
    refine ⟨_, rfl, _, rfl, x, y, c1, c2, p1, g1, p2, g2, rfl, hC1, hC2, a0, by omega, b0, by omega, fun H1 t s1 ht => ?_⟩
    have k1 : ∀ H' z dx l', Same H H' → H z = none → H l' = none → _ → _ → Q (.ref z) H' := k
    have eN : ((addN c1.length c2.length p1 p2 : Nat) : Int) = max ((c1.length : Int) - p1) ((c2.length : Int) - p2) + (Nat.lcm p1.toNat p2.toNat : Nat) := by unfold addN; omega
    rw [← eN] at ht
    have nN : (Nat.lcm p1.toNat p2.toNat : Nat) ≤ addN c1.length c2.length p1 p2 := by omega
    have nM : addN c1.length c2.length p1 p2 ≤ 1000 := by omega
    unfold addG at k1
    generalize addN c1.length c2.length p1 p2 = N at *
    generalize Nat.lcm p1.toNat p2.toNat = L at *
    clear k R eN
    refine ⟨t, _, rfl, SqT.of ht, rfl, _, _, rfl, _, _, rfl, rfl, ?_⟩
    refine ⟨_, rfl, _, _, rfl, rfl, _, _, rfl, ⟨by omega, by omega, by omega, by omega⟩, fun D hD => ?_⟩
    refine lc_range (lo := 1) (n := ((N : Int) + 1 - 1).toNat) (fun j H2 => H2 D = some (.lst ((row (fun i => cvAt c1 p1 g1 (1 + i) + cvAt c2 p2 g2 (1 + i)) j).map V.int)) ∧ Same H1 H2) ⟨upd_same, Same.upd (Same.refl _) hD⟩ ?_ ?_
    · rintro j H2 hj ⟨hD2, s2⟩
      have s02 := s1.trans s2
      refine ⟨rfl, _, rfl, x, dx, _, rfl, s02 _ _ hx, cfs_no _ _ _ (by decide +kernel) (by decide +kernel) (by decide +kernel), _, rfl, x, c1, p1, g1, _, rfl, hC1.same s02, a0, a1, by omega, by omega, by omega, ?_⟩
      refine ⟨_, rfl, y, dy, _, rfl, s02 _ _ hy, cfs_no _ _ _ (by decide +kernel) (by decide +kernel) (by decide +kernel), _, rfl, y, c2, p2, g2, _, rfl, hC2.same s02, b0, b1, by omega, by omega, by omega, _, _, rfl, rfl, _, hD2, small (by rw [List.length_map, row_length]; omega), ?_, Same.upd s2 hD⟩
      rw [upd_same, rowI_succ]
    · rintro H2 ⟨hD2, s2⟩
      rw [show ((N : Int) + 1 - 1).toNat = N by omega, row_vals (f := fun t => cvAt c1 p1 g1 t + cvAt c2 p2 g2 t)] at hD2
      have s02 := s1.trans s2
      refine ⟨_, rfl, _, rfl, _, rfl, _, rfl, x, c1, p1, g1, _, rfl, hC1.same s02, a0, by omega, by omega, by omega, ?_⟩
      refine ⟨_, rfl, _, rfl, y, c2, p2, g2, _, rfl, hC2.same s02, b0, by omega, by omega, by omega, _, _, rfl, rfl, ?_⟩
      refine ⟨D, _, _, _, rfl, SqL.of hD2, by omega, by rw [vals_length]; omega, by rw [vals_length]; omega, fun H5 z dz l' s5 hz0 hl0 hz hl' => ?_⟩
      exact k1 H5 z dz l' (s02.trans s5) (s02.free hz0) (s02.free hl0) hz hl'
end
end VK


namespace VK
open PySem PySem.Spec PyProof.Rows L2 VM
theorem dp_ints {K : PySem.W.Frag} {H : Hp} : ∀ us : List Int, DpAll K H (us.map V.int) (us.map PyData.int)
  | [] => .nil
  | u :: us => .cons (.int u) (dp_ints us)
theorem int_len {i : Int} (h : i.natAbs < 10 ^ 100) : ((toString i : String) : Str).length ≤ 101 := by
  have e := int_text_length_le10 (k := 100) (by decide) h
  show (Str.ofString (toString i)).length ≤ 101
  rw [PySem.ofString_length]; exact e
theorem lit_len (x : String) {n : Nat} (h : x.length = n := by decide) : (x : Str).length = n := by
  show (Str.ofString x).length = n
  rw [PySem.ofString_length]; exact h
def crvS (xs : List Int) (p g : Int) : Str := ((((((Str.empty ++ ("Curve(" : Str)) ++ (PyData.shown (.list (xs.map PyData.int)))) ++ (", period=" : Str)) ++ (toString p : Str)) ++ (", gain=" : Str)) ++ (toString g : Str)) ++ (")" : Str)
def sp_C_repr (K : PySem.W.Frag) (A : Ad) : Sp := fun vs H Q _ => ∃ (x : Addr) (cs : List Int) (p g : Int), vs = [.ref x] ∧ CrvAt A H x cs p g ∧ VR.Sz 1 1000000 (.list (cs.map PyData.int)) ∧ p.natAbs < 10 ^ 100 ∧ g.natAbs < 10 ^ 100 ∧ Q (.str (crvS cs p g)) H
theorem row_mem {f : Int → Int} {k : Nat} {m : Int} : m ∈ row f k ↔ ∃ i : Nat, i < k ∧ m = f i := by
  unfold row
  rw [List.mem_map]
  constructor
  · rintro ⟨i, hi, rfl⟩; exact ⟨i, List.mem_range.mp hi, rfl⟩
  · rintro ⟨i, hi, rfl⟩; exact ⟨i, List.mem_range.mpr hi, rfl⟩
section
variable {P : Program} {w : World} {K : PySem.W.Frag} {mg : Str → Option Value} {base : Heap} {A : Ad}
theorem ok_C_repr (T : Txt K mg A) : VG.FnG P w K mg base CX0 1 A.f_C_repr A.d_C_repr ["self"] (sp_C_repr K A) := by
  refine VG.okG0 T.F_C_repr sc_C_repr (fun vs H Q E h => ?_) (fun cdv A0 outer s H vs Q E hA hr h => ?_)
  · obtain ⟨x, cs, p, g, rfl, ⟨dx, l, w, b, hx, hl⟩, sz, lp, lg, q⟩ := h
    rfl
  · obtain ⟨x, cs, p, g, rfl, ⟨dx, l, w, b, hx, hl⟩, sz, lp, lg, q⟩ := h
    refine ⟨_, (pss_one (ps_ret (pe_joined (.cons pe_str (.cons (VQ.pe_fmtD hA hr.units (pe_fld (pv 0) rfl)) (.cons pe_str (.cons (VN.pe_fmtN (pe_fld (pv 0) rfl)) (.cons pe_str (.cons (VN.pe_fmtN (pe_fld (pv 0) rfl)) (.cons pe_str .nil)))))))))), ?_⟩
    have e1 := int_len lp
    have e2 := int_len lg
    have e3 := sz.ln
    have k1 := lit_len "Curve(" (n := 6)
    have k2 := lit_len ", period=" (n := 9)
    have k3 := lit_len ", gain=" (n := 7)
    have k5 := lit_len ")" (n := 1)
    have k0 : Str.empty.length = 0 := rfl
    refine ⟨_, rfl, (by rw [sizeLine_eq]; simp only [Str.length_append]; omega), ?_⟩
    refine ⟨_, rfl, x, _, dx, _, _, rfl, hx, T.cl, T.n_values, cfs_v _ _ _ _ _, l, _, rfl, .lst (SqL.of hl) (dp_ints cs), sz.sh, Nat.le_trans sz.dp (by decide), Nat.le_trans e3 (by rw [sizeLine_eq]; decide), _, rfl, (by rw [sizeLine_eq]; simp only [Str.length_append]; omega), ?_⟩
    refine ⟨_, rfl, (by rw [sizeLine_eq]; simp only [Str.length_append]; omega), ?_⟩
    refine ⟨_, rfl, x, _, dx, _, _, rfl, hx, T.cl, T.n_period, cfs_p _ _ _ _ _, .inr (.inl ⟨_, rfl, VR.log_small lp, _, rfl, (by rw [sizeLine_eq]; simp only [Str.length_append]; omega), ?_⟩)⟩
    refine ⟨_, rfl, (by rw [sizeLine_eq]; simp only [Str.length_append]; omega), ?_⟩
    refine ⟨_, rfl, x, _, dx, _, _, rfl, hx, T.cl, T.n_gain, cfs_g _ _ _ _ _, .inr (.inl ⟨_, rfl, VR.log_small lg, _, rfl, (by rw [sizeLine_eq]; simp only [Str.length_append]; omega), ?_⟩)⟩
    exact ⟨_, rfl, (by rw [sizeLine_eq]; simp only [Str.length_append]; omega), q⟩
end
end VK


namespace VK
open PySem PySem.Spec PyProof.Rows L2 VM
theorem shaped_ints (us : List Int) : SeqAt.shaped (.list (us.map PyData.int)) = true := by
  have a : ∀ us : List Int, PyData.canLayAll0 (us.map PyData.int) = true := by
    intro us
    induction us with
    | nil => rfl
    | cons u us ih =>
      simp only [List.map_cons, PyData.canLayAll0, ih, Bool.and_true]
      rfl
  have b : ∀ us : List Int, PyData.depthAll (us.map PyData.int) ≤ 1 := by
    intro us
    induction us with
    | nil => exact Nat.zero_le _
    | cons u us ih =>
      simp only [List.map_cons, PyData.depthAll, PyData.depth]
      omega
  have c := b us
  refine Bool.and_eq_true_iff.mpr ⟨?_, decide_eq_true ?_⟩
  · simp only [PyData.canLay0]; exact a us
  · simp only [PyData.depth]; omega
theorem eqv_ints : ∀ us ws : List Int, PyData.eqv (.list (us.map PyData.int)) (.list (ws.map PyData.int)) = decide (us = ws) := by
  have a : ∀ us ws : List Int, PyData.eqvAll (us.map PyData.int) (ws.map PyData.int) = decide (us = ws) := by
    intro us
    induction us with
    | nil =>
      intro ws
      cases ws with
      | nil => rfl
      | cons w ws => rfl
    | cons u us ih =>
      intro ws
      cases ws with
      | nil => rfl
      | cons w ws =>
        simp only [List.map_cons, PyData.eqvAll, ih]
        by_cases h1 : u = w
        · subst h1
          by_cases h2 : us = ws
          · subst h2; simp [PyData.eqv]
          · rw [decide_eq_false h2, decide_eq_false (fun z => h2 (List.cons.inj z).2)]; simp
        · rw [decide_eq_false (fun z => h1 (List.cons.inj z).1)]
          simp [PyData.eqv, h1]
  intro us ws
  simp only [PyData.eqv]
  exact a us ws
def sp_C_rate (_ : PySem.W.Frag) (A : Ad) : Sp := fun vs H Q _ => ∃ (x : Addr) (cs : List Int) (p g : Int), vs = [.ref x] ∧ CrvAt A H x cs p g ∧ 0 < p ∧ p ≤ 1000 ∧
  ∀ H' t, Same H H' → H' t = some (.tup [.int (g / (Nat.gcd g.natAbs p.natAbs : Nat)), .int (p / (Nat.gcd g.natAbs p.natAbs : Nat))]) → Q (.ref t) H'
def sp_C_at_most (K : PySem.W.Frag) (A : Ad) : Sp := fun vs H Q _ => ∃ (x y : Addr) (c1 c2 : List Int) (p1 g1 p2 g2 : Int), vs = [.ref x, .ref y] ∧ CrvAt A H x c1 p1 g1 ∧ CrvAt A H y c2 p2 g2 ∧ 0 < p1 ∧ p1 ≤ c1.length ∧ c1.length ≤ 1000 ∧ 0 < p2 ∧ p2 ≤ c2.length ∧ c2.length ≤ 1000 ∧
  ∀ H', Same H H' → Q (.bl (amM (cvAt c1 p1 g1) (cvAt c2 p2 g2) c1.length c2.length p1 g1 p2 g2)) H'
def sp_C_eq (K : PySem.W.Frag) (A : Ad) : Sp := fun vs H Q _ => ∃ (x : Addr) (cs : List Int) (p g : Int) (v : V), vs = [.ref x, v] ∧ CrvAt A H x cs p g ∧
  ((∃ (y : Addr) (c2 : List Int) (p2 g2 : Int), v = .ref y ∧ CrvAt A H y c2 p2 g2 ∧ Q (.bl (decide (cs = c2) && (decide (p = p2) && decide (g = g2)))) H) ∨
    ∃ n, TyX K H v (.type n) ∧ n ∈ VN.kinds ∧ Q (.bl false) H)
section
variable {P : Program} {w : World} {K : PySem.W.Frag} {mg : Str → Option Value} {base : Heap} {A : Ad}
theorem ok_C_rate (T : Txt K mg A) : FnOk P w K mg base CX0 1 A.f_C_rate A.d_C_rate ["self"] (sp_C_rate K A) := by
  refine T.F_C_rate.ok sc_C_rate (fun vs H Q E h => ?_) (fun cdv A0 outer s H vs Q E hr h => ?_)
  · obtain ⟨x, cs, p, g, rfl, ⟨dx, l, w, b, hx, hl⟩, p0, p1, k⟩ := h
    rfl
  · obtain ⟨x, cs, p, g, rfl, ⟨dx, l, w, b, hx, hl⟩, p0, p1, k⟩ := h
    refine ⟨_, (pss_cons (ps_set (i := 1) sc_C_rate.nd rfl (by first | exact Or.inl rfl | exact Or.inr rfl) (pe_callBfun (r := rGcd) cr_gcd rfl T.fun_gcd (pa_cons (pe_fld (pv 0) rfl) (pa_cons (pe_fld (pv 0) rfl) pa_nil))))
    (pss_one (ps_ret (pe_tup (pa_cons (pe_op op_fdiv (pe_fld (pv 0) rfl) (pv 1)) (pa_cons (pe_op op_fdiv (pe_fld (pv 0) rfl) (pv 1)) pa_nil)))))), ?_⟩
    have gp : 0 < Nat.gcd g.natAbs p.natAbs := Nat.gcd_pos_of_pos_right _ (by omega)
    have gl : Nat.gcd g.natAbs p.natAbs ≤ p.natAbs := Nat.gcd_le_right _ (by omega)
    refine ⟨_, rfl, x, _, dx, _, _, rfl, hx, T.cl, T.n_gain, cfs_g _ _ _ _ _, _, rfl, x, _, dx, _, _, rfl, hx, T.cl, T.n_period, cfs_p _ _ _ _ _, _, _, rfl, ?_⟩
    generalize Nat.gcd g.natAbs p.natAbs = c at *
    refine ⟨_, rfl, x, _, dx, _, _, rfl, hx, T.cl, T.n_gain, cfs_g _ _ _ _ _, _, rfl, _, _, rfl, rfl, ⟨by omega, by omega⟩, ?_⟩
    refine ⟨_, rfl, x, _, dx, _, _, rfl, hx, T.cl, T.n_period, cfs_p _ _ _ _ _, _, rfl, _, _, rfl, rfl, ⟨by omega, by omega⟩, (by show 2 ≤ sizeLine; decide), fun t ht => ?_⟩
    exact k _ t (Same.upd (Same.refl _) ht) upd_same
theorem ok_C_at_most (T : Txt K mg A) : FnOk P w K mg base CX0 4 A.f_C_at_most A.d_C_at_most ["self", "other"] (sp_C_at_most K A) := by
  have G_C_at := ok_C_at (P := P) (w := w) (base := base) T
  have G_common_writing := ok_common_writing (P := P) (w := w) (base := base) T
  have G_gain_in := ok_gain_in (P := P) (w := w) (base := base) T
  refine T.F_C_at_most.ok sc_C_at_most (fun vs H Q E h => ?_) (fun cdv A0 outer s H vs Q E hr h => ?_)
  · obtain ⟨x, y, c1, c2, p1, g1, p2, g2, rfl, hC1, hC2, a0, a1, a2, b0, b1, b2, k⟩ := h
    rfl
  · obtain ⟨x, y, c1, c2, p1, g1, p2, g2, rfl, hC1, hC2, a0, a1, a2, b0, b1, b2, k⟩ := h
    refine ⟨_, (pss_cons (ps_asg (pe_call G_common_writing (hr.mono (by decide)) rfl T.m_common_writing T.k_common_writing T.b_common_writing .nil pass0 (pa_cons (pv 0) (pa_cons (pv 1) pa_nil))) (pg_tup rfl (pgs_cons (pg_name (i := 2) sc_C_at_most.nd rfl (by first | exact Or.inl rfl | exact Or.inr rfl)) (pgs_cons (pg_name (i := 3) sc_C_at_most.nd rfl (by first | exact Or.inl rfl | exact Or.inr rfl)) pgs_nil))))
    (pss_cons (ps_if (pt_cmpR op_gt (pe_call G_gain_in (hr.mono (by decide)) rfl T.m_gain_in T.k_gain_in T.b_gain_in .nil pass0 (pa_cons (pv 0) (pa_cons (pv 3) pa_nil))) (pe_call G_gain_in (hr.mono (by decide)) rfl T.m_gain_in T.k_gain_in T.b_gain_in .nil pass0 (pa_cons (pv 1) (pa_cons (pv 3) pa_nil))) (nomark _)) (pss_one (ps_ret pe_bl)) pss_nil)
    (pss_one (ps_ret (pe_callB (r := rAll K) (cr_all rfl) (by rfl) T.all (by decide +kernel) (pa_cons (pe_lc (own := [("length", 4)]) (g := gName 4) (tt := tYes) rfl sc_C_at_most.nd (pi_range2 rfl T.range (pa_cons pe_int (pa_cons (pe_op op_add (pv 2) pe_int) pa_nil))) (blkOk_by (own := [("length", 4)]) (N := ["self", "other", "many", "period", "length"]) (sc := defScope s_C_at_most) (by decide +kernel)) (fun _ _ _ _ _ => pg_name (i := 4) sc_C_at_most.nd rfl (by first | exact Or.inl rfl | exact Or.inr rfl)) (fun _ _ _ _ _ => pts_nil) (fun _ _ _ _ _ => (pe_cmpR op_le (pe_meth (pv 0) T.cl T.me_at G_C_at (hr.mono (by decide)) T.b_C_at .nil pass0 (pa_cons (pv 4) pa_nil)) (pe_meth (pv 1) T.cl T.me_at G_C_at (hr.mono (by decide)) T.b_C_at .nil pass0 (pa_cons (pv 4) pa_nil)) (nomark _)))) pa_nil)))))), ?_⟩
    have L1 : Nat.lcm p1.toNat p2.toNat ≤ 1000000 := by
      have m := Nat.le_of_dvd (Nat.mul_pos (show 0 < p1.toNat by omega) (show 0 < p2.toNat by omega)) (Nat.lcm_dvd_mul p1.toNat p2.toNat)
      have z : p1.toNat * p2.toNat ≤ 1000 * 1000 := Nat.mul_le_mul (by omega) (by omega)
      omega
    refine ⟨_, rfl, _, rfl, x, y, c1, c2, p1, g1, p2, g2, rfl, hC1, hC2, a0, by omega, b0, by omega, fun H1 t s1 ht => ?_⟩
    refine ⟨t, _, rfl, SqT.of ht, rfl, _, _, rfl, _, _, rfl, rfl, ?_⟩
    have k1 : ∀ H', Same H H' → Q (.bl (amM (cvAt c1 p1 g1) (cvAt c2 p2 g2) c1.length c2.length p1 g1 p2 g2)) H' := k
    unfold amM amN at k1
    generalize Nat.lcm p1.toNat p2.toNat = L at *
    refine ⟨_, rfl, _, rfl, x, c1, p1, g1, _, rfl, hC1.same s1, a0, by omega, by omega, by omega, ?_⟩
    refine ⟨_, rfl, _, rfl, y, c2, p2, g2, _, rfl, hC2.same s1, b0, by omega, by omega, by omega, _, _, rfl, rfl, _, rfl, ifD (fun c => ?_) (fun c => ?_)⟩
    · have := k1 H1 s1
      rw [if_pos c] at this
      exact this
    · have k2 : ∀ H', Same H H' → _ := fun H' s => k1 H' s
      simp only [if_neg c] at k2
      obtain ⟨dx, l1, w1, bb1, hx, hl1⟩ := id (hC1.same s1)
      obtain ⟨dy, l2, w2, bb2, hy, hl2⟩ := id (hC2.same s1)
      generalize hN : max ((c1.length : Int) - p1) ((c2.length : Int) - p2) + (L : Int) = N at *
      have hN0 : 0 ≤ N := by omega
      have hN1 : N ≤ 2000000 := by omega
      refine ⟨_, rfl, _, _, rfl, rfl, _, _, rfl, ⟨by omega, by omega, by omega, by omega⟩, fun D hD => ?_⟩
      refine lc_range (lo := 1) (n := (N + 1 - 1).toNat) (fun j H2 => H2 D = some (.lst (((List.range j).map fun i : Nat => decide (cvAt c1 p1 g1 ((i : Int) + 1) ≤ cvAt c2 p2 g2 ((i : Int) + 1))).map V.bl)) ∧ Same H1 H2) ⟨upd_same, Same.upd (Same.refl _) hD⟩ ?_ ?_
      · rintro j H2 hj ⟨hD2, s2⟩
        refine ⟨rfl, _, rfl, x, dx, _, rfl, s2 _ _ hx, cfs_no _ _ _ (by decide +kernel) (by decide +kernel) (by decide +kernel), _, rfl, x, c1, p1, g1, _, rfl, (hC1.same s1).same s2, a0, a1, a2, by omega, by omega, ?_⟩
        refine ⟨_, rfl, y, dy, _, rfl, s2 _ _ hy, cfs_no _ _ _ (by decide +kernel) (by decide +kernel) (by decide +kernel), _, rfl, y, c2, p2, g2, _, rfl, (hC2.same s1).same s2, b0, b1, b2, by omega, by omega, _, _, rfl, rfl, _, hD2, small (by simp; omega), ?_, Same.upd s2 hD⟩
        rw [upd_same, List.range_succ, List.map_append, List.map_append, show 1 + (j : Int) = (j : Int) + 1 by omega]
        rfl
      · rintro H2 ⟨hD2, s2⟩
        refine ⟨D, _, rfl, SqL.of hD2, ?_⟩
        have z := k2 H2 (s1.trans s2)
        rw [show (N + 1 - 1).toNat = N.toNat by omega, List.all_map]
        exact z
theorem ok_C_eq (T : Txt K mg A) : FnOk P w K mg base CX0 1 A.f_C_eq A.d_C_eq ["self", "other"] (sp_C_eq K A) := by
  refine T.F_C_eq.ok sc_C_eq (fun vs H Q E h => ?_) (fun cdv A0 outer s H vs Q E hr h => ?_)
  · obtain ⟨x, cs, p, g, v, rfl, ⟨dx, l, w, b, hx, hl⟩, k⟩ := h
    rfl
  · obtain ⟨x, cs, p, g, v, rfl, ⟨dx, l, w, b, hx, hl⟩, k⟩ := h
    refine ⟨_, (pss_one (ps_ret (pe_and (pe_callB (r := rIsi K) call_isi (by rfl) T.isinstance (by decide +kernel) (pa_cons (pv 1) (pa_cons (pe_glob (v := .ref A.Curve) rfl T.m_Curve rfl) pa_nil))) (pe_and (pe_cmpR (op_eqD hr.units) (pe_fld (pv 0) rfl) (pe_fld (pv 1) rfl) (nomark _)) (pe_and (pe_cmpR op_eq (pe_fld (pv 0) rfl) (pe_fld (pv 1) rfl) (nomark _)) (pe_one (pe_cmpR op_eq (pe_fld (pv 0) rfl) (pe_fld (pv 1) rfl) (nomark _)))))))), ?_⟩
    rcases k with ⟨y, c2, p2, g2, rfl, ⟨dy, l2, w2, bb2, hy, hl2⟩, q⟩ | ⟨n, ty, hn, q⟩
    · refine ⟨_, rfl, _, _, _, _, _, rfl, .own _, T.ic_Curve.typ T.cl hy, VN.kit_self, _, rfl, iteT ?_⟩
      refine ⟨_, rfl, x, _, dx, _, _, rfl, hx, T.cl, T.n_values, cfs_v _ _ _ _ _, _, rfl, y, _, dy, _, _, rfl, hy, T.cl, T.n_values, cfs_v _ _ _ _ _, _, _, .lst (SqL.of hl) (dp_ints cs), .lst (SqL.of hl2) (dp_ints c2), shaped_ints cs, shaped_ints c2, _, rfl, ?_⟩
      rw [eqv_ints]
      refine ifD (fun c => ?_) (fun c => ?_)
      · rw [decide_eq_true c, Bool.true_and] at q
        refine ⟨_, rfl, x, _, dx, _, _, rfl, hx, T.cl, T.n_period, cfs_p _ _ _ _ _, _, rfl, y, _, dy, _, _, rfl, hy, T.cl, T.n_period, cfs_p _ _ _ _ _, rfl, _, rfl, ifEq (fun c1 => ?_) (fun c1 => ?_)⟩
        · rw [decide_eq_true c1, Bool.true_and] at q
          refine ⟨_, rfl, x, _, dx, _, _, rfl, hx, T.cl, T.n_gain, cfs_g _ _ _ _ _, _, rfl, y, _, dy, _, _, rfl, hy, T.cl, T.n_gain, cfs_g _ _ _ _ _, rfl, ?_⟩
          show Q (.bl (decide (V.int g = V.int g2))) H
          rw [deq_int]; exact q
        · rw [decide_eq_false c1, Bool.false_and] at q
          exact q
      · rw [decide_eq_false c, Bool.false_and] at q
        exact q
    · exact ⟨_, rfl, _, _, _, _, _, rfl, .own _, ty, VN.kit_no T.ic_Curve hn, _, rfl, iteF q⟩
end
theorem own_eq {K : PySem.W.Frag} {mg : Str → Option Value} {A : Ad} (T : Txt K mg A) {H : Hp} {x y : Addr} {c1 c2 : List Int} {p1 g1 p2 g2 : Int} {Q : VK} {E : XK} (C1 : CrvAt A H x c1 p1 g1) (C2 : CrvAt A H y c2 p2 g2)
    (q : Q (.bl (decide (c1 = c2) && (decide (p1 = p2) && decide (g1 = g2)))) H) : VN.rOwn K A.Curve (sp_C_eq K A) E (.ref x) (.ref y) H Q := by
  obtain ⟨dx, l, w, b, hx, hl⟩ := id C1
  obtain ⟨dy, l2, w2, b2, hy, hl2⟩ := id C2
  exact ⟨x, dx, _, .ref A.Curve, rfl, hx, T.ic_Curve.typ T.cl hy, VN.notFirst_own, x, c1, p1, g1, .ref y, rfl, C1, .inl ⟨y, c2, p2, g2, rfl, C2, _, rfl, q⟩⟩
theorem own_ne {K : PySem.W.Frag} {mg : Str → Option Value} {A : Ad} (T : Txt K mg A) {H : Hp} {x y : Addr} {c1 c2 : List Int} {p1 g1 p2 g2 : Int} {Q : VK} {E : XK} (C1 : CrvAt A H x c1 p1 g1) (C2 : CrvAt A H y c2 p2 g2)
    (q : Q (.bl (!(decide (c1 = c2) && (decide (p1 = p2) && decide (g1 = g2))))) H) : VN.rOwnN K A.Curve (sp_C_eq K A) E (.ref x) (.ref y) H Q := by
  obtain ⟨dx, l, w, b, hx, hl⟩ := id C1
  obtain ⟨dy, l2, w2, b2, hy, hl2⟩ := id C2
  exact ⟨x, dx, _, .ref A.Curve, rfl, hx, T.ic_Curve.typ T.cl hy, VN.notFirst_own, x, c1, p1, g1, .ref y, rfl, C1, .inl ⟨y, c2, p2, g2, rfl, C2, _, rfl, q⟩⟩
theorem same3 {c : List Int} {p g : Int} : (decide (c = c) && (decide (p = p) && decide (g = g))) = true := by rw [decide_eq_true rfl, decide_eq_true rfl, decide_eq_true rfl]; rfl
theorem iteEqV {v : V} {X Y : Prop} (h : X) : if decide (v = v) = true then X else Y := by
  rw [decide_eq_true rfl]; exact h
theorem iteNeV {v : V} {X Y : Prop} (h : Y) : if (!decide (v = v)) = true then X else Y := by
  rw [decide_eq_true rfl]; exact h
end VK


namespace VK
open PySem PySem.Spec PyProof.Rows L2 VM
/-- the text of a curve -/
def strS (xs : List Int) (p g : Int) : Str := Txt.join ("/" : Str) [Txt.join ("," : Str) (xs.map fun x => (toString x : Str)), (toString p : Str), (toString g : Str)]
theorem sum_le_mul {L : List Nat} {b : Nat} (h : ∀ x ∈ L, x ≤ b) : L.sum ≤ b * L.length := by
  induction L with
  | nil => simp
  | cons x L ih =>
    have a := h x (List.mem_cons_self ..)
    have c := ih fun y hy => h y (List.mem_cons_of_mem _ hy)
    rw [List.sum_cons, List.length_cons, Nat.mul_add]
    omega
theorem len_sjoin_le (sep : Str) : ∀ l : List Str, (Str.join sep l).length ≤ (l.map (·.length)).sum + l.length * sep.length
  | [] => Nat.zero_le _
  | [x] => by show x.length ≤ _; simp
  | x :: y :: l => by
    have ih := len_sjoin_le sep (y :: l)
    have e : (Str.join sep (x :: y :: l)).length = x.length + sep.length + (Str.join sep (y :: l)).length := by
      show (x ++ sep ++ Str.join sep (y :: l)).length = _
      rw [Str.length_append, Str.length_append]
    rw [e]
    simp only [List.map_cons, List.sum_cons, List.length_cons, Nat.add_mul] at *
    omega
theorem len_join_le' (sep : Str) (l : List Str) : (Txt.join sep l).length ≤ (l.map (·.length)).sum + l.length * sep.length := by
  cases l with
  | nil => exact Nat.zero_le _
  | cons a r =>
    have e : Txt.join sep (a :: r) = Str.join sep (a :: r) := StrLaws.glued_eq_join ..
    rw [e]
    exact len_sjoin_le sep _
def sp_C_str (K : PySem.W.Frag) (A : Ad) : Sp := fun vs H Q _ => ∃ (x : Addr) (cs : List Int) (p g : Int), vs = [.ref x] ∧ CrvAt A H x cs p g ∧ (∀ u ∈ cs, u.natAbs < 10 ^ 100) ∧ cs.length ≤ 1000 ∧ p.natAbs < 10 ^ 100 ∧ g.natAbs < 10 ^ 100 ∧
  ∀ H', Same H H' → (strS cs p g).length ≤ 300000 → Q (.str (strS cs p g)) H'
section
variable {P : Program} {w : World} {K : PySem.W.Frag} {mg : Str → Option Value} {base : Heap} {A : Ad}
theorem ok_C_str (T : Txt K mg A) : FnOk P w K mg base CX0 1 A.f_C_str A.d_C_str ["self"] (sp_C_str K A) := by
  refine T.F_C_str.ok sc_C_str (fun vs H Q E h => ?_) (fun cdv A0 outer s H vs Q E hr h => ?_)
  · obtain ⟨x, cs, p, g, rfl, ⟨dx, l, w, b, hx, hl⟩, hv, hn, hp, hg, k⟩ := h
    rfl
  · obtain ⟨x, cs, p, g, rfl, ⟨dx, l, w, b, hx, hl⟩, hv, hn, hp, hg, k⟩ := h
    refine ⟨_, (pss_one (ps_ret (pe_join pe_str (pe_lst (pa_cons (pe_join pe_str (pe_lc (own := [("value", 1)]) (g := gName 1) (tt := tYes) rfl sc_C_str.nd (pi_list (pe_fld (pv 0) rfl)) (blkOk_by (own := [("value", 1)]) (N := ["self", "value"]) (sc := defScope s_C_str) (by decide +kernel)) (fun _ _ _ _ _ => pg_name (i := 1) sc_C_str.nd rfl (by first | exact Or.inl rfl | exact Or.inr rfl)) (fun _ _ _ _ _ => pts_nil) (fun _ _ _ _ _ => (pe_callTy VN.call_strIN (by rfl) T.str (by decide +kernel) (pa_cons (pv 1) pa_nil))))) (pa_cons (pe_callTy VN.call_strIN (by rfl) T.str (by decide +kernel) (pa_cons (pe_fld (pv 0) rfl) pa_nil)) (pa_cons (pe_callTy VN.call_strIN (by rfl) T.str (by decide +kernel) (pa_cons (pe_fld (pv 0) rfl) pa_nil)) pa_nil))))))), ?_⟩
    refine ⟨⟨_, rfl⟩, ⟨_, rfl⟩, _, rfl, x, _, dx, _, _, rfl, hx, T.cl, T.n_values, cfs_v _ _ _ _ _, l, rfl, ⟨_, SqL.of hl⟩, fun D hD => ?_⟩
    refine lc_list (K := K) (a := l) (xs := cs.map V.int) (fun j H2 => Same H H2 ∧ H2 D = some (.lst (((cs.take j).map fun u => (toString u : Str)).map V.str)))
      ⟨Same.upd (Same.refl _) hD, upd_same⟩ (fun j H2 _ ⟨s, _⟩ => SqL.of (s _ _ hl)) ?_ ?_
    · rintro j y H2 hy ⟨s, hD2⟩
      obtain ⟨hj, rfl⟩ := nth_map hy
      have hu := hv (cs.getD j 0) (by rw [List.getD_eq_getElem?_getD, List.getElem?_eq_getElem hj]; exact List.getElem_mem hj)
      refine ⟨rfl, _, rfl, .inl ⟨_, rfl, VR.log_small hu, _, hD2, small (by rw [List.length_map, List.length_map, List.length_take]; omega), Same.upd s hD, ?_⟩⟩
      rw [upd_same, List.take_succ, List.getElem?_eq_getElem hj, List.getD_eq_getElem?_getD, List.getElem?_eq_getElem hj, List.map_append, List.map_append]
      rfl
    · rintro H2 ⟨s, hD2⟩
      rw [List.length_map, List.take_length] at hD2
      have len1 : ∀ v ∈ (cs.map fun u => (toString u : Str)).map (·.length), v ≤ 101 := fun v hm => by
        obtain ⟨y, hy, rfl⟩ := List.mem_map.mp hm
        obtain ⟨u, hu, rfl⟩ := List.mem_map.mp hy
        exact int_len (hv u hu)
      have s1 := sum_le_mul len1
      rw [List.length_map, List.length_map] at s1
      have kc := lit_len "," (n := 1)
      have ks := lit_len "/" (n := 1)
      have j1 := len_join_le' ("," : Str) (cs.map fun u => (toString u : Str))
      rw [List.length_map, kc] at j1
      refine ⟨_, D, _, rfl, rfl, .inl (SqL.of hD2), by rw [List.length_map, kc]; omega, ?_⟩
      refine ⟨_, rfl, x, _, dx, _, _, rfl, s _ _ hx, T.cl, T.n_period, cfs_p _ _ _ _ _, .inl ⟨_, rfl, VR.log_small hp, _, rfl, x, _, dx, _, _, rfl, s _ _ hx, T.cl, T.n_gain, cfs_g _ _ _ _ _, .inl ⟨_, rfl, VR.log_small hg, (by show 3 ≤ sizeLine; decide), fun q hq => ?_⟩⟩⟩
      have l1 := int_len hp
      have l2 := int_len hg
      have j2 := len_join_le' ("/" : Str) [Txt.join ("," : Str) (cs.map fun u => (toString u : Str)), (toString p : Str), (toString g : Str)]
      rw [ks] at j2
      simp only [List.map_cons, List.map_nil, List.sum_cons, List.sum_nil, List.length_cons, List.length_nil] at j2
      refine ⟨_, q, [Txt.join ("," : Str) (cs.map fun u => (toString u : Str)), (toString p : Str), (toString g : Str)], rfl, rfl, .inl (SqL.of upd_same), ?_, ?_⟩
      · rw [ks]
        simp only [List.map_cons, List.map_nil, List.sum_cons, List.sum_nil, List.length_cons, List.length_nil]
        omega
      · exact k _ (Same.upd s (s.free hq)) (by show (Txt.join _ _).length ≤ _; omega)
end
end VK


namespace VK
open PySem PySem.Spec PyProof.Rows L2 VM
/-- what stands in a piece's tuple -/
def pcV (q : Pc) : List V := [.int q.b, .int q.u, .int q.t]
def pzV (zs : List (Addr × Pc)) : List V := zs.map fun z => V.ref z.1
def pcs (zs : List (Addr × Pc)) : List Pc := zs.map (·.2)
/-- the pieces as they stand, each in its tuple -/
structure Pz (H : Hp) (zs : List (Addr × Pc)) : Prop where
  at_ : ∀ z ∈ zs, H z.1 = some (.tup (pcV z.2))
  ok : ∀ z ∈ zs, z.2.Ok
  ne : zs ≠ []
  few : zs.length ≤ 12
theorem Pz.same {H H' : Hp} {zs : List (Addr × Pc)} (h : Pz H zs) (s : Same H H') : Pz H' zs := ⟨fun z hz => s _ _ (h.at_ z hz), h.ok, h.ne, h.few⟩
theorem Pz.pne {H : Hp} {zs : List (Addr × Pc)} (h : Pz H zs) : pcs zs ≠ [] := fun e => h.ne (by unfold pcs at e; exact List.map_eq_nil_iff.mp e)
theorem Pz.pok {H : Hp} {zs : List (Addr × Pc)} (h : Pz H zs) : ∀ q ∈ pcs zs, q.Ok := fun q hq => by
  unfold pcs at hq
  obtain ⟨z, hz, rfl⟩ := List.mem_map.mp hq
  exact h.ok z hz
theorem Pz.len0 {H : Hp} {zs : List (Addr × Pc)} (h : Pz H zs) : 0 < zs.length := by
  have := h.ne
  cases zs with
  | nil => exact absurd rfl this
  | cons a l => exact Nat.succ_pos _
theorem Pz.nth {H : Hp} {zs : List (Addr × Pc)} (h : Pz H zs) {i : Nat} {v : V} (e : (pzV zs)[i]? = some v) : ∃ z, zs[i]? = some z ∧ v = .ref z.1 ∧ H z.1 = some (.tup (pcV z.2)) ∧ z.2.Ok := by
  unfold pzV at e
  rw [List.getElem?_map] at e
  cases ez : zs[i]? with
  | none => rw [ez] at e; cases e
  | some z =>
    rw [ez] at e
    cases e
    have m := List.mem_of_getElem? ez
    exact ⟨z, rfl, rfl, h.at_ z m, h.ok z m⟩
theorem take_nth {α β : Type} {f : α → β} {l : List α} {i : Nat} {z : α} (e : l[i]? = some z) : (l.take (i + 1)).map f = (l.take i).map f ++ [f z] := by
  rw [List.take_add_one, e, List.map_append]; rfl
theorem pcs_map {zs : List (Addr × Pc)} (f : Pc → Int) : (zs.take zs.length).map (fun z => f z.2) = (pcs zs).map f := by
  unfold pcs; rw [List.take_length, List.map_map]; rfl
def sp_line_at (K : PySem.W.Frag) (_ : Ad) : Sp := fun vs H Q _ => ∃ (t : Addr) (q : Pc) (x : Int), vs = [.ref t, .int x] ∧ H t = some (.tup (pcV q)) ∧ q.Ok ∧ Q (.int (q.at x)) H
def sp_is_piece (K : PySem.W.Frag) (_ : Ad) : Sp := fun vs H Q _ => ∃ (t : Addr) (q : Pc), vs = [.ref t] ∧ H t = some (.tup (pcV q)) ∧ q.Ok ∧ ∀ H', Same H H' → Q (.bl true) H'
def sp_find_wrong_piece (K : PySem.W.Frag) (_ : Ad) : Sp := fun vs H Q _ => ∃ (T : Addr) (zs : List (Addr × Pc)), vs = [.ref T] ∧ H T = some (.tup (pzV zs)) ∧ Pz H zs ∧ ∀ H', Same H H' → Q .non H'
def sp_form_of_pieces (K : PySem.W.Frag) (_ : Ad) : Sp := fun vs H Q _ => ∃ (T : Addr) (zs : List (Addr × Pc)), vs = [.ref T] ∧ H T = some (.tup (pzV zs)) ∧ Pz H zs ∧
  ∀ H' t l', Same H H' → H t = none → H l' = none → H' t = some (.tup [.ref l', .int (formP (vals (lnF (pcs zs)) (lnN (pcs zs)).toNat) 12 (lnG (pcs zs))).1, .int (formP (vals (lnF (pcs zs)) (lnN (pcs zs)).toNat) 12 (lnG (pcs zs))).2]) →
    H' l' = some (.lst ((formV (vals (lnF (pcs zs)) (lnN (pcs zs)).toNat) 12 (lnG (pcs zs))).map V.int)) → Q (.ref t) H'
section
variable {P : Program} {w : World} {K : PySem.W.Frag} {mg : Str → Option Value} {base : Heap} {A : Ad}
theorem ok_line_at (T : Txt K mg A) : FnOk P w K mg base CX0 2 A.f_line_at A.d_line_at ["piece", "length"] (sp_line_at K A) := by
  have G_rounded_up := ok_rounded_up (P := P) (w := w) (base := base) T
  refine T.F_line_at.ok sc_line_at (fun vs H Q E h => ?_) (fun cdv A0 outer s H vs Q E hr h => ?_)
  · obtain ⟨t, q, x, rfl, ht, ok, k⟩ := h
    rfl
  · obtain ⟨t, q, x, rfl, ht, ok, k⟩ := h
    refine ⟨_, (pss_cons (ps_asg (pv 0) (pg_tup rfl (pgs_cons (pg_name (i := 2) sc_line_at.nd rfl (by first | exact Or.inl rfl | exact Or.inr rfl)) (pgs_cons (pg_name (i := 3) sc_line_at.nd rfl (by first | exact Or.inl rfl | exact Or.inr rfl)) (pgs_cons (pg_name (i := 4) sc_line_at.nd rfl (by first | exact Or.inl rfl | exact Or.inr rfl)) pgs_nil)))))
    (pss_one (ps_ret (pe_op op_add (pv 2) (pe_call G_rounded_up (hr.mono (by decide)) rfl T.m_rounded_up T.k_rounded_up T.b_rounded_up .nil pass0 (pa_cons (pe_op op_mul (pv 3) (pv 1)) (pa_cons (pv 4) pa_nil))))))), ?_⟩
    have t0 : 0 < q.t ∧ q.t ≤ 12 := by rcases ok.t_ with h | h | h | h | h | h <;> omega
    have u0 := ok.u0
    have u1 := ok.u1
    exact ⟨_, rfl, t, _, rfl, SqT.of ht, rfl, _, _, rfl, _, _, rfl, _, _, rfl, rfl, _, rfl, _, rfl, _, rfl, _, _, rfl, rfl, .inl ⟨by omega, by omega⟩, _, rfl, _, _, rfl, t0.1, by omega, _, _, rfl, rfl, k⟩
theorem ok_is_piece (T : Txt K mg A) : FnOk P w K mg base CX0 4 A.f_is_piece A.d_is_piece ["value"] (sp_is_piece K A) := by
  have G_is_count_to := ok_is_count_to (P := P) (w := w) (base := base) T
  refine T.F_is_piece.ok sc_is_piece (fun vs H Q E h => ?_) (fun cdv A0 outer s H vs Q E hr h => ?_)
  · obtain ⟨t, q, rfl, ht, ok, k⟩ := h
    rfl
  · obtain ⟨t, q, rfl, ht, ok, k⟩ := h
    refine ⟨_, (pss_cons (ps_if (PW.pt (pw_or (pt_not (pt_val (pe_callB (r := rIsi K) call_isi (by rfl) T.isinstance (by decide +kernel) (pa_cons (pv 0) (pa_cons (pe_bltn (v := .ty "tuple") (u := .type "tuple") (by rfl) T.tuple (by decide +kernel) (by exact rfl)) pa_nil))))) (pw_or1 (pt_cmpR op_ne (pe_callB (r := VG.rLen K) VG.call_len (by rfl) T.len (by decide +kernel) (pa_cons (pv 0) pa_nil)) pe_int (nomark _))))) (pss_one (ps_ret pe_bl)) pss_nil)
    (pss_one (ps_ret (pe_and (pe_callB (r := rAll K) (cr_all rfl) (by rfl) T.all (by decide +kernel) (pa_cons (pe_lc (own := [("part", 1)]) (g := gName 1) (tt := tYes) rfl sc_is_piece.nd (pi_tup (pv 0)) (blkOk_by (own := [("part", 1)]) (N := ["value", "part"]) (sc := defScope s_is_piece) (by decide +kernel)) (fun _ _ _ _ _ => pg_name (i := 1) sc_is_piece.nd rfl (by first | exact Or.inl rfl | exact Or.inr rfl)) (fun _ _ _ _ _ => pts_nil) (fun _ _ _ _ _ => (pe_call G_is_count_to (hr.mono (by decide)) rfl T.m_is_count_to T.k_is_count_to T.b_is_count_to .nil pass0 (pa_cons (pv 1) (pa_cons (pe_glob (v := .int 60) rfl T.v_MAX_IN_PIECE ⟨_, rfl⟩) pa_nil))))) pa_nil)) (pe_one (pe_cmpR (r := rIn K false) op_in_seq (pe_ix (r := rIxT K) ix_tup (pv 0) pe_int (fun _ _ => rfl)) (pe_glob (v := .ref A.a_PERIODS) rfl T.v_PERIODS rfl) (by rfl))))))), ?_⟩
    refine ⟨_, rfl, .ref t, .ty "tuple", _, _, _, rfl, .ty _, .base (.tup ht), (show PySem.W.kitOne K (.type "tuple") (.type "tuple") = some true from kit_ty (by decide +kernel)), _, rfl, iteF ?_⟩
    refine ⟨_, rfl, t, _, rfl, .inr (SqT.of ht), rfl, _, rfl, iteF ?_⟩
    refine ⟨_, rfl, t, rfl, ⟨_, SqT.of ht⟩, fun D hD => ?_⟩
    refine lc_tup (K := K) (a := t) (xs := pcV q) (fun j H' => H' D = some (.lst ((List.replicate j true).map V.bl)) ∧ Same H H') ⟨upd_same, Same.upd (Same.refl _) hD⟩ (fun i H' _ h => SqT.of (h.2 _ _ ht)) ?_ ?_
    · rintro j v H' hv ⟨hD2, s2⟩
      have hj : j < 3 := (List.getElem?_eq_some_iff.mp hv).1
      obtain ⟨i, rfl, i0, i1⟩ : ∃ i : Int, v = .int i ∧ 0 ≤ i ∧ i ≤ 60 := by
        have t1 : 0 ≤ q.t ∧ q.t ≤ 60 := by rcases ok.t_ with h | h | h | h | h | h <;> omega
        have m := List.mem_of_getElem? hv
        simp only [pcV, List.mem_cons, List.not_mem_nil, or_false] at m
        rcases m with rfl | rfl | rfl
        · exact ⟨_, rfl, ok.b0, ok.b1⟩
        · exact ⟨_, rfl, ok.u0, ok.u1⟩
        · exact ⟨_, rfl, t1.1, t1.2⟩
      refine ⟨rfl, _, rfl, .int i, _, 60, rfl, Kd.int i, ?_⟩
      have e1 : cntTo 60 (.int i) = true := by unfold cntTo; exact decide_eq_true ⟨i0, i1⟩
      rw [e1]
      refine ⟨_, hD2, small (by rw [List.length_map, List.length_replicate]; omega), ?_, Same.upd s2 hD⟩
      rw [upd_same, List.replicate_succ', List.map_append]; rfl
    · rintro H' ⟨hD2, s2⟩
      refine ⟨D, _, rfl, SqL.of hD2, ?_⟩
      have e : (List.replicate (pcV q).length true).all id = true := by
        rw [List.all_eq_true]
        intro x hx
        exact List.eq_of_mem_replicate hx
      rw [e]
      refine ⟨_, rfl, iteT ?_⟩
      refine ⟨_, rfl, t, _, 2, .int q.t, rfl, rfl, SqT.of (s2 _ _ ht), rfl, ?_⟩
      refine ⟨A.a_PERIODS, _, rfl, .inr (T.periods _), rfl, rfl, ?_⟩
      have e2 : inV (.int q.t) [.int 1, .int 2, .int 3, .int 4, .int 6, .int 12] = true := by
        rcases ok.t_ with h | h | h | h | h | h <;> rw [h] <;> decide
      show Q (.bl (inV (.int q.t) [.int 1, .int 2, .int 3, .int 4, .int 6, .int 12])) H'
      rw [e2]
      exact k _ s2
theorem ok_find_wrong_piece (T : Txt K mg A) : FnOk P w K mg base CX0 5 A.f_find_wrong_piece A.d_find_wrong_piece ["pieces"] (sp_find_wrong_piece K A) := by
  have G_is_piece := ok_is_piece (P := P) (w := w) (base := base) T
  refine T.F_find_wrong_piece.ok sc_find_wrong_piece (fun vs H Q E h => ?_) (fun cdv A0 outer s H vs Q E hr h => ?_)
  · obtain ⟨T0, zs, rfl, hT, hz, k⟩ := h
    rfl
  · obtain ⟨T0, zs, rfl, hT, hz, k⟩ := h
    refine ⟨_, (pss_cons (ps_if (pt_cmpR op_eq (pe_callB (r := VG.rLen K) VG.call_len (by rfl) T.len (by decide +kernel) (pa_cons (pv 0) pa_nil)) pe_int (nomark _)) (pss_one (ps_ret pe_int)) pss_nil)
    (pss_cons (ps_for PassesOwn.never rfl (VE.pi_enumT (by rfl) T.enumerate (pa_cons (pv 0) pa_nil)) (pg_tup rfl (pgs_cons (pg_name (i := 1) sc_find_wrong_piece.nd rfl (by first | exact Or.inl rfl | exact Or.inr rfl)) (pgs_cons (pg_name (i := 2) sc_find_wrong_piece.nd rfl (by first | exact Or.inl rfl | exact Or.inr rfl)) pgs_nil)))
      (pss_one (ps_if (pt_not (pt_val (pe_call G_is_piece (hr.mono (by decide)) rfl T.m_is_piece T.k_is_piece T.b_is_piece .nil pass0 (pa_cons (pv 2) pa_nil)))) (pss_one (ps_ret (pv 1))) pss_nil)))
    (pss_one (ps_ret pe_non)))), ?_⟩
    refine ⟨_, rfl, T0, _, rfl, .inr (SqT.of hT), rfl, _, rfl, ?_⟩
    have l0 := hz.len0
    have pl : (pzV zs).length = zs.length := List.length_map _
    rw [pl]
    refine ifEq (fun c => absurd c (by omega)) (fun _ => ?_)
    refine ⟨_, rfl, T0, _, rfl, SqT.of hT, for_it (VE.walk_enumT (K := K) (a := T0) (xs := pzV zs) (k := 0)) (fun i σ H' => ∃ v1 v2, σ = [some (.ref T0), v1, v2] ∧ Same H H') ⟨none, none, rfl, Same.refl H⟩ (fun i σ H' _ ⟨_, _, _, s0⟩ => SqT.of (s0 _ _ hT)) ?_ ?_⟩
    · rintro i y σ H' H2 hi ⟨v1, v2, rfl, s0⟩ ⟨t, a, b', rfl, ht, rfl, ea, eb⟩
      obtain ⟨z, ez, rfl, hz1, ok⟩ := (hz.same s0).nth eb
      cases ea
      have s1 : Same H' (upd H' t (.tup [.int (0 + (i : Nat)), .ref z.1])) := Same.upd (Same.refl _) ht
      refine ⟨t, _, rfl, SqT.of upd_same, rfl, _, _, rfl, _, _, rfl, rfl, ?_⟩
      refine ⟨_, rfl, z.1, z.2, rfl, s1 _ _ hz1, ok, fun H3 s3 => ⟨_, rfl, iteF ?_⟩⟩
      exact ⟨_, _, rfl, (s0.trans s1).trans s3⟩
    · rintro σ H' ⟨v1, v2, rfl, s0⟩
      exact k _ s0
theorem ok_form_of_pieces (T : Txt K mg A) : FnOk P w K mg base CX0 5 A.f_form_of_pieces A.d_form_of_pieces ["pieces"] (sp_form_of_pieces K A) := by
  have G_least_form := ok_least_form (P := P) (w := w) (base := base) T
  have G_line_at := ok_line_at (P := P) (w := w) (base := base) T
  refine T.F_form_of_pieces.ok sc_form_of_pieces (fun vs H Q E h => ?_) (fun cdv A0 outer s H vs Q E hr h => ?_)
  · obtain ⟨T0, zs, rfl, hT, hz, k⟩ := h
    rfl
  · obtain ⟨T0, zs, rfl, hT, hz, k⟩ := h
    refine ⟨_, (pss_cons (ps_set (i := 1) sc_form_of_pieces.nd rfl (by first | exact Or.inl rfl | exact Or.inr rfl) (pe_callB (r := rMax K) (cr_max rfl) (by rfl) T.max (by decide +kernel) (pa_cons (pe_lc (own := [("piece", 5)]) (g := gName 5) (tt := tYes) rfl sc_form_of_pieces.nd (pi_tup (pv 0)) (blkOk_by (own := [("piece", 5)]) (N := ["pieces", "burst", "gain", "many", "values", "piece", "_", "units", "ticks", "length"]) (sc := defScope s_form_of_pieces) (by decide +kernel)) (fun _ _ _ _ _ => pg_name (i := 5) sc_form_of_pieces.nd rfl (by first | exact Or.inl rfl | exact Or.inr rfl)) (fun _ _ _ _ _ => pts_nil) (fun _ _ _ _ _ => (pe_ix (r := rIxT K) ix_tup (pv 5) pe_int (fun _ _ => rfl)))) pa_nil)))
    (pss_cons (ps_set (i := 2) sc_form_of_pieces.nd rfl (by first | exact Or.inl rfl | exact Or.inr rfl) (pe_callB (r := rMin K) (cr_min rfl) (by rfl) T.min (by decide +kernel) (pa_cons (pe_lc (own := [("_", 6), ("units", 7), ("ticks", 8)]) (g := gTup K 3 (gCons (gName 6) (gCons (gName 7) (gCons (gName 8) gNil)))) (tt := tYes) rfl sc_form_of_pieces.nd (pi_tup (pv 0)) (blkOk_by (own := [("_", 6), ("units", 7), ("ticks", 8)]) (N := ["pieces", "burst", "gain", "many", "values", "piece", "_", "units", "ticks", "length"]) (sc := defScope s_form_of_pieces) (by decide +kernel)) (fun _ _ _ _ _ => pg_tup rfl (pgs_cons (pg_name (i := 6) sc_form_of_pieces.nd rfl (by first | exact Or.inl rfl | exact Or.inr rfl)) (pgs_cons (pg_name (i := 7) sc_form_of_pieces.nd rfl (by first | exact Or.inl rfl | exact Or.inr rfl)) (pgs_cons (pg_name (i := 8) sc_form_of_pieces.nd rfl (by first | exact Or.inl rfl | exact Or.inr rfl)) pgs_nil)))) (fun _ _ _ _ _ => pts_nil) (fun _ _ _ _ _ => (pe_op op_fdiv (pe_op op_mul (pv 7) (pe_glob (v := .int 12) rfl T.v_LONGEST_PERIOD ⟨_, rfl⟩)) (pv 8)))) pa_nil)))
    (pss_cons (ps_set (i := 3) sc_form_of_pieces.nd rfl (by first | exact Or.inl rfl | exact Or.inr rfl) (pe_op op_mul (pe_glob (v := .int 12) rfl T.v_LONGEST_PERIOD ⟨_, rfl⟩) (pe_op op_add (pv 1) pe_int)))
    (pss_cons (ps_setLc (i := 4) (own := [("length", 9)]) (g := gName 9) (tt := tYes) rfl sc_form_of_pieces.nd rfl rfl (sw_true rfl rfl rfl (by decide +kernel)) (pi_range2 rfl T.range (pa_cons pe_int (pa_cons (pe_op op_add (pv 3) pe_int) pa_nil))) (blkOk_by (own := [("length", 9)]) (N := ["pieces", "burst", "gain", "many", "values", "piece", "_", "units", "ticks", "length"]) (sc := defScope s_form_of_pieces) (by decide +kernel)) (fun _ _ _ _ _ => pg_name (i := 9) sc_form_of_pieces.nd rfl (by first | exact Or.inl rfl | exact Or.inr rfl)) (fun _ _ _ _ _ => pts_nil) (fun _ _ _ _ _ => (pe_callB (r := rMin K) (cr_min rfl) (by rfl) T.min (by decide +kernel) (pa_cons (pe_lc (own := [("piece", 5)]) (g := gName 5) (tt := tYes) rfl sc_form_of_pieces.nd (VP.pi_tupK (K' := K) (pv 0) rfl) (blkOk_by (own := [("piece", 5)]) (N := ["pieces", "burst", "gain", "many", "values", "piece", "_", "units", "ticks", "length"]) (sc := { kind := .function, names := [(".0", .local), ("length", .cell), ("min", .globalImplicit), ("pieces", .cell)], isGenerator := false, isCoroutine := false }) (by decide +kernel)) (fun _ _ _ _ _ => pg_name (i := 5) sc_form_of_pieces.nd rfl (by first | exact Or.inl rfl | exact Or.inr rfl)) (fun _ _ _ _ _ => pts_nil) (fun _ _ _ _ _ => (pe_call G_line_at (hr.mono (by decide)) rfl T.m_line_at T.k_line_at T.b_line_at .nil pass0 (pa_cons (pv 5) (pa_cons (pv 9) pa_nil))))) pa_nil))))
    (pss_one (ps_ret (pe_call G_least_form (hr.mono (by decide)) rfl T.m_least_form T.k_least_form T.b_least_form .nil pass0 (pa_cons (pv 4) (pa_cons (pe_glob (v := .int 12) rfl T.v_LONGEST_PERIOD ⟨_, rfl⟩) (pa_cons (pv 2) pa_nil)))))))))), ?_⟩
    refine ⟨_, rfl, T0, rfl, ⟨_, SqT.of hT⟩, fun D hD => ?_⟩
    refine lc_tup (K := K) (a := T0) (xs := pzV zs) (fun j H' => H' D = some (.lst (((zs.take j).map (fun z => z.2.b)).map V.int)) ∧ Same H H') ⟨upd_same, Same.upd (Same.refl _) hD⟩ (fun i H' _ h => SqT.of (h.2 _ _ hT)) ?_ ?_
    · rintro j v H' hv ⟨hD2, s2⟩
      obtain ⟨z, ez, rfl, hz1, _⟩ := (hz.same s2).nth hv
      refine ⟨rfl, _, rfl, z.1, _, 0, _, rfl, rfl, SqT.of hz1, rfl, ?_⟩
      refine ⟨_, hD2, small (by rw [List.length_map, List.length_map, List.length_take]; have := hz.few; omega), ?_, Same.upd s2 hD⟩
      rw [upd_same, take_nth ez, List.map_append]; rfl
    rintro H1 ⟨hD1, s1⟩
    have pl : (pzV zs).length = zs.length := List.length_map _
    have l0 := hz.len0
    have lf := hz.few
    have pn := hz.pne
    have po := hz.pok
    rw [pl, pcs_map (f := Pc.b)] at hD1
    refine ⟨D, (pcs zs).map Pc.b, rfl, SqL.of hD1, (by unfold pcs; rw [List.length_map, List.length_map]; exact l0), fun m hm hmx => ?_⟩
    have em := maxOf_eq hm hmx
    refine ⟨_, rfl, T0, rfl, ⟨_, SqT.of (s1 _ _ hT)⟩, fun D2 hD2 => ?_⟩
    refine lc_tup (K := K) (a := T0) (xs := pzV zs) (fun j H' => H' D2 = some (.lst (((zs.take j).map (fun z => z.2.r)).map V.int)) ∧ Same H1 H') ⟨upd_same, Same.upd (Same.refl _) hD2⟩ (fun i H' _ h => SqT.of (h.2 _ _ (s1 _ _ hT))) ?_ ?_
    · rintro j v H' hv ⟨hD3, s2⟩
      obtain ⟨z, ez, rfl, hz1, ok⟩ := (hz.same (s1.trans s2)).nth hv
      have t0 : 0 < z.2.t ∧ z.2.t ≤ 12 := by rcases ok.t_ with h | h | h | h | h | h <;> omega
      refine ⟨z.1, _, rfl, SqT.of hz1, rfl, _, _, rfl, _, _, rfl, _, _, rfl, rfl, ?_⟩
      refine ⟨rfl, ?_⟩
      refine ⟨_, rfl, _, _, rfl, rfl, .inr ⟨by decide, by decide⟩, _, rfl, _, _, rfl, rfl, ⟨t0.1, by omega⟩, ?_⟩
      refine ⟨_, hD3, small (by rw [List.length_map, List.length_map, List.length_take]; omega), ?_, Same.upd s2 hD2⟩
      rw [upd_same, take_nth ez, List.map_append]; rfl
    rintro H2 ⟨hD3, s2⟩
    rw [pl, pcs_map (f := Pc.r)] at hD3
    refine ⟨D2, (pcs zs).map Pc.r, rfl, SqL.of hD3, (by unfold pcs; rw [List.length_map, List.length_map]; exact l0), fun g hg hgx => ?_⟩
    have eg := minOf_eq hg hgx
    have s02 := s1.trans s2
    have nb := lnN_b pn po
    refine ⟨_, rfl, _, _, rfl, rfl, _, _, rfl, rfl, .inl ⟨by decide, by decide⟩, ?_⟩
    have eN : 12 * (m + 2) = lnN (pcs zs) := by rw [em]; rfl
    have eG : g = lnG (pcs zs) := eg
    show gName 3 (V.int (12 * (m + 2))) _ _ _
    rw [eN, eG]
    generalize hN : lnN (pcs zs) = N at *
    clear em hm hmx eg hg hgx eN eG
    refine ⟨_, rfl, _, _, rfl, rfl, _, _, rfl, ⟨by omega, by omega, by omega, by omega⟩, fun D4 hD4 => ?_⟩
    refine lc_range (lo := 1) (n := (N + 1 - 1).toNat) (fun j H3 => H3 D4 = some (.lst ((row (fun i => lnF (pcs zs) (1 + i)) j).map V.int)) ∧ Same H2 H3) ⟨upd_same, Same.upd (Same.refl _) hD4⟩ ?_ ?_
    · rintro j H3 hj ⟨hD5, s3⟩
      have s03 := s02.trans s3
      refine ⟨rfl, _, rfl, T0, rfl, ⟨_, SqT.of (s03 _ _ hT)⟩, fun D6 hD6 => ?_⟩
      refine lc_tup (K := K) (a := T0) (xs := pzV zs) (fun k H' => H' D6 = some (.lst (((zs.take k).map (fun z => z.2.at (1 + (j : Int)))).map V.int)) ∧ Same H3 H') ⟨upd_same, Same.upd (Same.refl _) hD6⟩ (fun i H' _ h => SqT.of (h.2 _ _ (s03 _ _ hT))) ?_ ?_
      · rintro k v H' hv ⟨hD7, s4⟩
        obtain ⟨z, ez, rfl, hz1, ok⟩ := (hz.same (s03.trans s4)).nth hv
        refine ⟨rfl, _, rfl, _, rfl, z.1, z.2, 1 + (j : Int), rfl, hz1, ok, ?_⟩
        refine ⟨_, hD7, small (by rw [List.length_map, List.length_map, List.length_take]; omega), ?_, Same.upd s4 hD6⟩
        rw [upd_same, take_nth ez, List.map_append]; rfl
      rintro H4 ⟨hD7, s4⟩
      rw [pl, pcs_map (f := fun q => q.at (1 + (j : Int)))] at hD7
      refine ⟨D6, (pcs zs).map (fun q => q.at (1 + (j : Int))), rfl, SqL.of hD7, (by unfold pcs; rw [List.length_map, List.length_map]; exact l0), fun m hm hmx => ?_⟩
      have em := minOf_eq hm hmx
      rw [← lnF_pos (show 0 < 1 + (j : Int) by omega)] at em
      subst em
      refine ⟨_, s4 _ _ hD5, small (by rw [List.length_map, row_length]; omega), ?_, Same.upd (s3.trans s4) hD4⟩
      rw [upd_same, rowI_succ]
    rintro H3 ⟨hD5, s3⟩
    rw [row_vals (f := lnF (pcs zs)), show (N + 1 - 1).toNat = N.toNat by omega] at hD5
    have s03 := s02.trans s3
    refine ⟨_, rfl, _, rfl, D4, vals (lnF (pcs zs)) N.toNat, 12, lnG (pcs zs), rfl, SqL.of hD5, by decide, by rw [vals_length]; omega, by rw [vals_length]; omega, fun H5 t l' s5 ht0 hl0 ht hl => ?_⟩
    exact k H5 t l' (s03.trans s5) (s03.free ht0) (s03.free hl0) ht hl
end
end VK


namespace VK
open PySem PySem.Spec PyProof.Rows L2 VM
theorem kb_init2 {K : PySem.W.Frag} {mg : Str → Option Value} {A : Ad} (T : Txt K mg A) : ∃ mv : List Value, KBn K A.d_C_init ["self", "values", "period", "gain"] 2 ["period", "gain"] (fun us ws => us ++ ws) (fun vs zs => vs ++ zs) := by
  obtain ⟨mv, h⟩ := T.F_C_init.kbinds0 (ps := ["self", "values", "period", "gain"]) 2 ["period", "gain"] [] (fun us _ ws => us ++ ws) (by simp) (by simp) (fun a _ c => a.append c)
    (fun D doc pm an cdv ct us mv ws h1 h2 h3 => match us, mv, ws, h1, h2, h3 with | [_, _], [], [_, _], _, _, _ => rfl)
  exact ⟨mv, h⟩
theorem make_same {H H1 : Hp} {x dx : Addr} {o1 o2 : HO} (hx : H x = none) (hdx : H dx = none) (keep : ∀ b o, b ≠ x → upd (upd H dx o1) x o2 b = some o → H1 b = some o) : Same H H1 :=
  fun b o e => keep b o (ne_of_none e hx) (by rw [upd_ne (ne_of_none e hx), upd_ne (ne_of_none e hdx)]; exact e)
/-- the form of a function that rises and repeats may be written, if it is short -/
theorem fm_okRow {F : Int → Int} {n : Nat} {G : Int} (R : Rep F n 12 G) (hn : 12 ≤ n) (F0 : F 0 = 0) (up : ∀ x : Int, 0 ≤ x → F x ≤ F (x + 1)) (hi : F 24 ≤ 2000) (hG : G ≤ 2000) (sh : (formV (vals F n) 12 G).length ≤ 24) :
    OkRow (formV (vals F n) 12 G) (formP (vals F n) 12 G).1 (formP (vals F n) 12 G).2 := by
  have h12 : (12 : Int) ≤ (vals F n).length := by rw [vals_length]; omega
  obtain ⟨f1, f2, f3, f4, f5⟩ := form_spec (vs := vals F n) (g := G) (by decide) h12
  have FV := fm_vals R hn F0
  have RF := fm_rep (g := G) (show (0 : Int) < 12 by decide) h12
  have dv := (fm_least (g := G) (show (0 : Int) < 12 by decide) h12).1
  have per := per6_dvd f1 (show per6 12 by unfold per6; omega) dv
  have get : ∀ i, i < (formV (vals F n) 12 G).length → (formV (vals F n) 12 G).getD i 0 = F ((i : Int) + 1) := fun i hi => by
    rw [form_get hi, FV _ (by omega)]
  have mono : ∀ d k : Nat, F k ≤ F ((k + d : Nat) : Int) := fun d k => by
    induction d with
    | zero => exact Int.le_refl _
    | succ d ih =>
      have := up ((k + d : Nat) : Int) (by omega)
      rw [show ((k + (d + 1) : Nat) : Int) = ((k + d : Nat) : Int) + 1 by omega]
      omega
  have RF' : Rep F (formV (vals F n) 12 G).length (formP (vals F n) 12 G).1 (formP (vals F n) 12 G).2 := RF.congr FV f1 f3
  generalize formV (vals F n) 12 G = xs at *
  generalize (formP (vals F n) 12 G).1 = p at *
  generalize (formP (vals F n) 12 G).2 = g at *
  have p12 : p ≤ 12 := f2
  have last := RF' ((xs.length : Int) + 1) (by omega)
  have m1 := mono p.toNat (xs.length + 1 - p.toNat)
  rw [show ((xs.length + 1 - p.toNat : Nat) : Int) = (xs.length : Int) + 1 - p by omega, show ((xs.length + 1 - p.toNat + p.toNat : Nat) : Int) = (xs.length : Int) + 1 by omega] at m1
  have m2 := mono 1 xs.length
  rw [show ((xs.length + 1 : Nat) : Int) = (xs.length : Int) + 1 by omega] at m2
  have gG : g ≤ G := by
    have q := (RF'.mul f1 dv (by decide) (show (xs.length : Int) - p + 12 ≤ xs.length + 12 by omega))
    have e := rep_gain R q
    have g0 : 0 ≤ g := by omega
    rcases per with h | h | h | h | h | h <;> subst h <;> omega
  refine ⟨by omega, sh, fun i hi => ?_, fun i hi2 => ?_, fun i hi => ?_, per, f3, by omega, by omega, ?_⟩
  · rw [get i hi]
    have := mono (i + 1) 0
    rw [show ((0 + (i + 1) : Nat) : Int) = (i : Int) + 1 by omega, show F ((0 : Nat) : Int) = 0 from F0] at this
    exact this
  · rw [get i hi2]
    have := mono (23 - i) (i + 1)
    rw [show ((i + 1 : Nat) : Int) = (i : Int) + 1 by omega, show ((i + 1 + (23 - i) : Nat) : Int) = 24 by omega] at this
    omega
  · rw [get i (by omega), get (i + 1) hi]
    have := up ((i : Int) + 1) (by omega)
    rw [show ((i + 1 : Nat) : Int) + 1 = (i : Int) + 1 + 1 by omega]
    exact this
  · rw [get _ (by omega), get _ (by omega)]
    rw [show ((xs.length - 1 : Nat) : Int) + 1 = xs.length by omega, show ((xs.length - p.toNat : Nat) : Int) + 1 = (xs.length : Int) + 1 - p by omega]
    omega
/-- the form of the least of lines -/
def lnV (qs : List Pc) : List Int := formV (vals (lnF qs) (lnN qs).toNat) 12 (lnG qs)
def lnP (qs : List Pc) : Int × Int := formP (vals (lnF qs) (lnN qs).toNat) 12 (lnG qs)
theorem ln_rep' {qs : List Pc} (ne : qs ≠ []) (ok : ∀ q ∈ qs, q.Ok) : Rep (lnF qs) ((lnN qs).toNat : Nat) 12 (lnG qs) := by
  have := lnN_b ne ok
  rw [Int.toNat_of_nonneg (by omega)]
  exact ln_rep ne ok
theorem ln_okRow {qs : List Pc} (ne : qs ≠ []) (ok : ∀ q ∈ qs, q.Ok) (sh : (lnV qs).length ≤ 24) : OkRow (lnV qs) (lnP qs).1 (lnP qs).2 := by
  have nb := lnN_b ne ok
  have gb := lnG_b ne ok
  exact fm_okRow (ln_rep' ne ok) (by omega) lnF_zero (fun x hx => ln_up ne ok x hx) (by have := ln_hi ne ok 24 (by decide); omega) (by omega) sh
theorem ln_spec {qs : List Pc} (ne : qs ≠ []) (ok : ∀ q ∈ qs, q.Ok) : 0 < (lnP qs).1 ∧ (lnP qs).1 ≤ 12 ∧ (lnP qs).1 ≤ (lnV qs).length ∧ (lnV qs).length ≤ 744 ∧ ∀ t, 0 ≤ t → cvAt (lnV qs) (lnP qs).1 (lnP qs).2 t = lnF qs t := by
  have nb := lnN_b ne ok
  obtain ⟨f1, f2, f3, f4, f5⟩ := form_spec (vs := vals (lnF qs) (lnN qs).toNat) (g := lnG qs) (p := 12) (by decide) (by rw [vals_length]; omega)
  rw [vals_length] at f4
  refine ⟨f1, f2, f3, show (formV _ _ _).length ≤ _ by omega, fun t ht => ?_⟩
  rw [← fm_vals (ln_rep' ne ok) (by omega) lnF_zero t ht]
  exact f5 t ht
theorem ln_idem {qs : List Pc} (ne : qs ≠ []) (ok : ∀ q ∈ qs, q.Ok) : formV (lnV qs) (lnP qs).1 (lnP qs).2 = lnV qs ∧ formP (lnV qs) (lnP qs).1 (lnP qs).2 = lnP qs := by
  have nb := lnN_b ne ok
  exact fm_idem (by decide) (by rw [vals_length]; omega)
def sp_C_of_pieces (K : PySem.W.Frag) (A : Ad) : Sp := fun vs H Q _ => ∃ (T : Addr) (zs : List (Addr × Pc)), vs = [.ref A.Curve, .ref T] ∧ H T = some (.tup (pzV zs)) ∧ Pz H zs ∧ (lnV (pcs zs)).length ≤ 24 ∧
  ∀ H' x dx l', Same H H' → H x = none → H l' = none → H' x = some (.ins A.Curve dx (cfs l' (lnP (pcs zs)).1 (lnP (pcs zs)).2 false .non)) → H' l' = some (.lst ((lnV (pcs zs)).map V.int)) → Q (.ref x) H'
section
variable {P : Program} {w : World} {K : PySem.W.Frag} {mg : Str → Option Value} {base : Heap} {A : Ad}
theorem ok_C_of_pieces (T : Txt K mg A) : FnR P w K mg base CX0 7 A.f_C_of_pieces (fun vs H Q E => ∃ a rest, vs = a :: rest ∧ rest.length ≤ sizeLine ∧ ∀ p, H p = Option.none → sp_C_of_pieces K A [a, V.ref p] (upd H p (.tup rest)) Q E) := by
  have G_C_init := ok_C_init (P := P) (w := w) (base := base) T
  have G_find_wrong_piece := ok_find_wrong_piece (P := P) (w := w) (base := base) T
  have G_form_of_pieces := ok_form_of_pieces (P := P) (w := w) (base := base) T
  obtain ⟨mv1, kb_Curve_period_gain⟩ := kb_init2 T
  refine VP.okStar T.F_C_of_pieces sc_C_of_pieces (fun _ _ _ _ _ _ _ => rfl) (fun _ _ _ _ _ _ _ _ _ => rfl) (fun cdv A0 outer s H vs Q E hr h => ?_)
  obtain ⟨T0, zs, rfl, hT, hz, sh, k⟩ := h
  refine ⟨_, (pss_cons (ps_set (i := 2) sc_C_of_pieces.nd rfl (by first | exact Or.inl rfl | exact Or.inr rfl) (pe_call G_find_wrong_piece (hr.mono (by decide)) rfl T.m_find_wrong_piece T.k_find_wrong_piece T.b_find_wrong_piece .nil pass0 (pa_cons (pv 1) pa_nil)))
    (pss_cons (ps_if (pt_cmp (pc_notN (pv 2)) rfl) (pss_one ps_never) pss_nil)
    (pss_cons (ps_asg (pe_call G_form_of_pieces (hr.mono (by decide)) rfl T.m_form_of_pieces T.k_form_of_pieces T.b_form_of_pieces .nil pass0 (pa_cons (pv 1) pa_nil)) (pg_tup rfl (pgs_cons (pg_name (i := 3) sc_C_of_pieces.nd rfl (by first | exact Or.inl rfl | exact Or.inr rfl)) (pgs_cons (pg_name (i := 4) sc_C_of_pieces.nd rfl (by first | exact Or.inl rfl | exact Or.inr rfl)) (pgs_cons (pg_name (i := 5) sc_C_of_pieces.nd rfl (by first | exact Or.inl rfl | exact Or.inr rfl)) pgs_nil)))))
    (pss_cons (ps_if (pt_cmpR op_gt (pe_callB (r := VG.rLen K) VG.call_len (by rfl) T.len (by decide +kernel) (pa_cons (pv 3) pa_nil)) (pe_glob (v := .int 24) rfl T.v_MAX_VALUES ⟨_, rfl⟩) (nomark _)) (pss_one ps_never) pss_nil)
    (pss_one (ps_ret (VP.pe_makeKL (i := 0) (n := 1) T.M_Curve G_C_init (hr.mono (by decide)) rfl (by exact Or.inl rfl) kb_Curve_period_gain pass0 (pa_cons (pv 3) pa_nil) (pk_cons (pv 4) (pk_cons (pv 5) pk_nil))))))))), ?_⟩
  have nb := lnN_b hz.pne hz.pok
  have ok := ln_okRow hz.pne hz.pok sh
  obtain ⟨i1, i2⟩ := ln_idem hz.pne hz.pok
  refine ⟨_, rfl, T0, zs, rfl, hT, hz, fun H1 s1 => ?_⟩
  refine ⟨_, rfl, _, rfl, iteF ?_⟩
  refine ⟨_, rfl, T0, zs, rfl, s1 _ _ hT, hz.same s1, fun H2 t l s2 ht0 hl0 ht hl => ?_⟩
  have hl : H2 l = some (.lst ((lnV (pcs zs)).map V.int)) := hl
  have ht : H2 t = some (.tup [.ref l, .int (lnP (pcs zs)).1, .int (lnP (pcs zs)).2]) := ht
  refine ⟨t, _, rfl, SqT.of ht, rfl, _, _, rfl, _, _, rfl, _, _, rfl, rfl, ?_⟩
  refine ⟨_, rfl, l, _, rfl, .inl (SqL.of hl), ?_⟩
  rw [List.length_map]
  refine ⟨_, _, rfl, rfl, _, rfl, ?_⟩
  refine ifD (fun c => absurd c (by omega)) (fun _ => ?_)
  refine ⟨rfl, _, rfl, _, rfl, _, rfl, rfl, rfl, fun x dx hx hdx hne => ?_⟩
  refine ⟨x, dx, l, _, _, _, rfl, upd_same, SqL.of (show upd _ x _ l = some (.lst ((lnV (pcs zs)).map V.int)) by rw [upd_ne (ne_of_none hl hx), upd_ne (ne_of_none hl hdx)]; exact hl), ok, fun H3 dxc lc keep hlc c1 c2 => ⟨rfl, ?_⟩⟩
  have s3 := make_same hx hdx keep
  rw [i2] at c1
  rw [i1] at c2
  have s12 := s1.trans s2
  refine k H3 x dxc lc (s12.trans s3) (s12.free hx) ?_ c1 c2
  exact s12.free ((Same.upd (o := .own x) (Same.refl H2) hdx).free ((Same.upd (o := .ins A.Curve dx []) (Same.refl (upd H2 dx (.own x))) (by rw [upd_ne (Ne.symm hne)]; exact hx)).free hlc))
end
end VK


namespace VK
open PySem PySem.Spec PyProof.Rows L2 VM
/-- cs, p, g is the form of F -/
structure CFo (cs : List Int) (p g : Int) (F : Int → Int) (N : Nat) : Prop where
  p0 : 0 < p
  pd : p ∣ 12
  pn : p ≤ cs.length
  n : cs.length ≤ N
  eq : ∀ t : Int, 0 ≤ t → cvAt cs p g t = F t
  c1 : formV cs p g = cs
  c2 : formP cs p g = (p, g)
theorem CFo.p12 {cs : List Int} {p g : Int} {F : Int → Int} {N : Nat} (h : CFo cs p g F N) : p ≤ 12 := Int.le_of_dvd (by decide) h.pd
theorem CFo.of {vs : List Int} {P G : Int} {F : Int → Int} {N : Nat} (p0 : 0 < P) (pd : P ∣ 12) (pn : P ≤ vs.length) (n : vs.length ≤ N) (eq : ∀ t : Int, 0 ≤ t → cvAt vs P G t = F t) : CFo (formV vs P G) (formP vs P G).1 (formP vs P G).2 F N := by
  obtain ⟨f1, f2, f3, f4, f5⟩ := form_spec (g := G) p0 pn
  obtain ⟨i1, i2⟩ := fm_idem (g := G) p0 pn
  exact ⟨f1, Int.dvd_trans (fm_least (g := G) p0 pn).1 pd, f3, by omega, fun t ht => by rw [f5 t ht]; exact eq t ht, i1, i2⟩
theorem CFo.uniq {c1 c2 : List Int} {p1 g1 p2 g2 : Int} {F1 F2 : Int → Int} {N1 N2 : Nat} (a : CFo c1 p1 g1 F1 N1) (b : CFo c2 p2 g2 F2 N2) (e : ∀ t : Int, 0 ≤ t → F1 t = F2 t) : c1 = c2 ∧ p1 = p2 ∧ g1 = g2 := by
  obtain ⟨u1, u2⟩ := form_unique (g := g1) (e := g2) a.p0 a.pn b.p0 b.pn (fun t ht => by rw [a.eq t ht, b.eq t ht, e t ht])
  rw [a.c2, b.c2] at u1
  rw [a.c1, b.c1] at u2
  exact ⟨u2, (Prod.mk.inj u1).1, (Prod.mk.inj u1).2⟩
theorem dvd12 {p : Int} (h : p = 1 ∨ p = 2 ∨ p = 3 ∨ p = 4 ∨ p = 6 ∨ p = 12) : p ∣ 12 := by
  rcases h with h | h | h | h | h | h <;> subst h <;> decide
theorem CFo.row {xs : List Int} {p g : Int} (R : OkRow xs p g) : CFo (formV xs p g) (formP xs p g).1 (formP xs p g).2 (cvAt xs p g) 24 :=
  .of (by rcases R.per with h | h | h | h | h | h <;> omega) (dvd12 R.per) R.pn R.l2 fun _ _ => rfl
theorem CFo.later {cs : List Int} {p g : Int} {F : Int → Int} {N n : Nat} (h : CFo cs p g F N) (hn : n ≤ 100) :
    CFo (formV (List.replicate n 0 ++ cs) p g) (formP (List.replicate n 0 ++ cs) p g).1 (formP (List.replicate n 0 ++ cs) p g).2 (laterF F n) (N + 100) := by
  have pn := h.pn
  have nn := h.n
  refine .of h.p0 h.pd (by simp; omega) (by simp; omega) fun t ht => ?_
  rw [cvAt_later h.p0 h.pn ht]
  unfold laterF
  by_cases c : t ≤ n
  · rw [if_pos c, if_pos c]
  · rw [if_neg c, if_neg c]; exact h.eq _ (by omega)
theorem CFo.rep {cs : List Int} {p g : Int} {F : Int → Int} {N : Nat} (h : CFo cs p g F N) : Rep (cvAt cs p g) cs.length p g := Rep.cvAt h.p0 h.pn
theorem lcm12 {p q : Int} (p0 : 0 < p) (q0 : 0 < q) (pd : p ∣ 12) (qd : q ∣ 12) : ((Nat.lcm p.toNat q.toNat : Nat) : Int) ∣ 12 := by
  have a : p.toNat ∣ 12 := by
    have : ((p.toNat : Nat) : Int) ∣ ((12 : Nat) : Int) := by rw [Int.toNat_of_nonneg (by omega)]; exact pd
    exact Int.natCast_dvd_natCast.mp this
  have b : q.toNat ∣ 12 := by
    have : ((q.toNat : Nat) : Int) ∣ ((12 : Nat) : Int) := by rw [Int.toNat_of_nonneg (by omega)]; exact qd
    exact Int.natCast_dvd_natCast.mp this
  exact Int.natCast_dvd_natCast.mpr (Nat.lcm_dvd a b)
theorem CFo.add {c1 c2 : List Int} {p1 g1 p2 g2 : Int} {F1 F2 : Int → Int} {N1 N2 N : Nat} (a : CFo c1 p1 g1 F1 N1) (b : CFo c2 p2 g2 F2 N2) (h1 : N1 + 12 ≤ N) (h2 : N2 + 12 ≤ N) :
    CFo (formV (vals (fun t => cvAt c1 p1 g1 t + cvAt c2 p2 g2 t) (addN c1.length c2.length p1 p2)) (Nat.lcm p1.toNat p2.toNat : Nat) (addG p1 g1 p2 g2))
      (formP (vals (fun t => cvAt c1 p1 g1 t + cvAt c2 p2 g2 t) (addN c1.length c2.length p1 p2)) (Nat.lcm p1.toNat p2.toNat : Nat) (addG p1 g1 p2 g2)).1
      (formP (vals (fun t => cvAt c1 p1 g1 t + cvAt c2 p2 g2 t) (addN c1.length c2.length p1 p2)) (Nat.lcm p1.toNat p2.toNat : Nat) (addG p1 g1 p2 g2)).2
      (fun t => F1 t + F2 t) N := by
  have R := add_rep a.rep b.rep a.p0 a.pn b.p0 b.pn
  have d := lcm12 a.p0 b.p0 a.pd b.pd
  have l12 := Int.le_of_dvd (by decide) d
  have l0 : 0 < Nat.lcm p1.toNat p2.toNat := Nat.lcm_pos (by have := a.p0; omega) (by have := b.p0; omega)
  have x1 := a.n
  have x2 := b.n
  have x3 := a.pn
  have x4 := b.pn
  have x5 := a.p0
  have x6 := b.p0
  have eN : ((addN c1.length c2.length p1 p2 : Nat) : Int) = max ((c1.length : Int) - p1) ((c2.length : Int) - p2) + (Nat.lcm p1.toNat p2.toNat : Nat) := by unfold addN; omega
  refine .of (by omega) d (by rw [vals_length]; omega) (by rw [vals_length]; omega) fun t ht => ?_
  rw [cvAt_vals (by omega) (by omega) (by show cvAt c1 p1 g1 0 + cvAt c2 p2 g2 0 = 0; rw [cvAt_zero, cvAt_zero]; rfl) R t ht]
  show cvAt c1 p1 g1 t + cvAt c2 p2 g2 t = F1 t + F2 t
  rw [a.eq t ht, b.eq t ht]
end VK


namespace VK
open PySem PySem.Spec PyProof.Rows L2 VM
/-- a row in the heap -/
def RowH (H : Hp) (t l : Addr) (xs : List Int) (p g : Int) : Prop := H t = some (.tup [.ref l, .int p, .int g]) ∧ H l = some (.lst (xs.map V.int))
theorem RowH.same {H H' : Hp} {t l : Addr} {xs : List Int} {p g : Int} (h : RowH H t l xs p g) (s : Same H H') : RowH H' t l xs p g := ⟨s _ _ h.1, s _ _ h.2⟩
theorem vals_more {f : Int → Int} {j : Nat} : vals f (j + 1) = vals f j ++ [f ((j : Int) + 1)] := by
  unfold vals
  rw [List.range_succ, List.map_append]
  rfl
def sp_l_values (_ : PySem.W.Frag) (_ : Ad) : Sp := fun vs H Q _ => ∃ (t l : Addr) (xs : List Int) (p g : Int) (n : Nat), vs = [.ref t, .int n] ∧ RowH H t l xs p g ∧ 0 < p ∧ p ≤ xs.length ∧ xs.length ≤ 1000 ∧ n ≤ 1000 ∧
  ∀ H' q, Same H H' → H q = none → H' q = some (.lst ((vals (cvAt xs p g) n).map V.int)) → Q (.ref q) H'
def sp_l_line (_ : PySem.W.Frag) (_ : Ad) : Sp := fun vs H Q _ => ∃ (t : Addr) (q : Pc) (x : Int), vs = [.ref t, .int x] ∧ H t = some (.tup (pcV q)) ∧ q.Ok ∧ Q (.int (q.at x)) H
section
variable {P : Program} {w : World} {K : PySem.W.Frag} {mg : Str → Option Value} {base : Heap} {A : Ad}
theorem ok_l_values (T : Txt K mg A) : FnOk P w K mg base CX0 3 A.f_l_values A.d_l_values ["_law_row", "_law_many"] (sp_l_values K A) := by
  have G_l_at := ok_l_at (P := P) (w := w) (base := base) T
  refine T.F_l_values.ok sc_l_values (fun vs H Q E h => ?_) (fun cdv A0 outer s H vs Q E hr h => ?_)
  · obtain ⟨t, l, xs, p, g, n, rfl, R, p0, pn, xn, nn, k⟩ := h
    rfl
  · obtain ⟨t, l, xs, p, g, n, rfl, R, p0, pn, xn, nn, k⟩ := h
    refine ⟨_, (pss_one (ps_ret (pe_lc (own := [("_law_span", 2)]) (g := gName 2) (tt := tYes) rfl sc_l_values.nd (pi_range2 rfl T.range (pa_cons pe_int (pa_cons (pe_op op_add (pv 1) pe_int) pa_nil))) (blkOk_by (own := [("_law_span", 2)]) (N := ["_law_row", "_law_many", "_law_span"]) (sc := defScope s_l_values) (by decide +kernel)) (fun _ _ _ _ _ => pg_name (i := 2) sc_l_values.nd rfl (by first | exact Or.inl rfl | exact Or.inr rfl)) (fun _ _ _ _ _ => pts_nil) (fun _ _ _ _ _ => (pe_call G_l_at (hr.mono (by decide)) rfl T.m_l_at T.k_l_at T.b_l_at .nil pass0 (pa_cons (pv 0) (pa_cons (pv 2) pa_nil))))))), ?_⟩
    refine ⟨_, rfl, _, _, rfl, rfl, _, _, rfl, ⟨by decide, by decide, by omega, by omega⟩, fun D hD => ?_⟩
    refine lc_range (lo := 1) (n := ((n : Int) + 1 - 1).toNat) (fun j H' => Same H H' ∧ H' D = some (.lst ((vals (cvAt xs p g) j).map V.int))) ⟨Same.upd (Same.refl _) hD, upd_same⟩ ?_ ?_
    · rintro j H' hj ⟨s1, hD2⟩
      refine ⟨rfl, _, rfl, _, rfl, t, l, xs, p, g, _, rfl, SqT.of (s1 _ _ R.1), SqL.of (s1 _ _ R.2), p0, pn, xn, by omega, by omega, ?_⟩
      refine ⟨_, hD2, small (by rw [List.length_map, vals_length]; omega), Same.upd s1 hD, ?_⟩
      rw [upd_same, vals_more, List.map_append, Int.add_comm 1]
      rfl
    rintro H' ⟨s1, hD2⟩
    rw [show ((n : Int) + 1 - 1).toNat = n by omega] at hD2
    exact k H' D s1 hD hD2
theorem ok_l_line (T : Txt K mg A) : FnOk P w K mg base CX0 1 A.f_l_line A.d_l_line ["_law_piece", "_law_span"] (sp_l_line K A) := by
  refine T.F_l_line.ok sc_l_line (fun vs H Q E h => ?_) (fun cdv A0 outer s H vs Q E hr h => ?_)
  · obtain ⟨t, q, x, rfl, ht, ok, k⟩ := h
    rfl
  · obtain ⟨t, q, x, rfl, ht, ok, k⟩ := h
    refine ⟨_, (pss_cons (ps_set (i := 2) sc_l_line.nd rfl (by first | exact Or.inl rfl | exact Or.inr rfl) (pe_op op_mul (pe_ix (r := rIxT K) ix_tup (pv 0) pe_int (fun _ _ => rfl)) (pv 1)))
    (pss_one (ps_ret (pe_op op_add (pe_op op_add (pe_ix (r := rIxT K) ix_tup (pv 0) pe_int (fun _ _ => rfl)) (pe_op op_fdiv (pv 2) (pe_ix (r := rIxT K) ix_tup (pv 0) pe_int (fun _ _ => rfl)))) (pe_callTy call_int1 (by rfl) T.int (by decide +kernel) (pa_cons (pe_cmpR op_gt (pe_op op_mod (pv 2) (pe_ix (r := rIxT K) ix_tup (pv 0) pe_int (fun _ _ => rfl))) pe_int (nomark _)) pa_nil)))))), ?_⟩
    have t0 : 0 < q.t ∧ q.t ≤ 12 := by rcases ok.t_ with h | h | h | h | h | h <;> omega
    have u0 := ok.u0
    have u1 := ok.u1
    refine ⟨_, rfl, t, _, _, _, rfl, rfl, SqT.of ht, rfl, _, rfl, _, _, rfl, rfl, .inl ⟨by omega, by omega⟩, ?_⟩
    refine ⟨_, rfl, t, _, _, _, rfl, rfl, SqT.of ht, rfl, _, rfl, _, rfl, t, _, _, _, rfl, rfl, SqT.of ht, rfl, _, _, rfl, rfl, ⟨t0.1, by omega⟩, _, _, rfl, rfl, ?_⟩
    refine ⟨_, rfl, _, rfl, t, _, _, _, rfl, rfl, SqT.of ht, rfl, _, _, rfl, rfl, t0.1, ?_⟩
    refine ⟨_, _, rfl, rfl, .inr ⟨_, rfl, _, _, rfl, rfl, ?_⟩⟩
    have e := ok.at_rest x
    have e2 : (if decide (0 < q.u * x % q.t) = true then (1 : Int) else 0) = if q.u * x % q.t > 0 then 1 else 0 := by simp only [decide_eq_true_eq]
    show Q (.int (q.b + q.u * x / q.t + (if decide (0 < q.u * x % q.t) = true then (1 : Int) else 0))) H
    rw [e2, e]
    exact k
end
end VK


namespace VK
open PySem PySem.Spec PyProof.Rows L2 VM
theorem Ext.put {r l : Addr} {H H' : Hp} {o : HO} (e : Ext r H H') (h : H l = none) (n : l ≠ r) : Ext r H (upd H' l o) := by
  refine ⟨fun b u hb q => ?_, ?_⟩
  · rw [upd_ne (ne_of_none q h)]; exact e.keep b u hb q
  · obtain ⟨a1, a2, a3, a4⟩ := e.rng
    exact ⟨a1, a2, by rw [upd_ne (Ne.symm n)]; exact a3, a4⟩
theorem Ext.new {r q : Addr} {H H' : Hp} {o : HO} (e : Ext r H H') (h : H' q = none) : Ext r H (upd H' q o) := e.same (Same.upd (Same.refl _) h)
def sp_l_written (_ : PySem.W.Frag) (_ : Ad) : Sp := fun vs H Q _ => ∃ (r : Addr), vs = [.ref r] ∧ Rng H r ∧
  ∀ H' t l xs p g, Ext r H H' → H t = none → H l = none → RowH H' t l xs p g → Dr xs p g → Q (.ref t) H'
section
variable {P : Program} {w : World} {K : PySem.W.Frag} {mg : Str → Option Value} {base : Heap} {A : Ad}
theorem ok_l_written (T : Txt K mg A) : FnOk P w K mg base CX0 3 A.f_l_written A.d_l_written ["_law_rng_here"] (sp_l_written K A) := by
  have G_l_choice := ok_l_choice (P := P) (w := w) (base := base) T
  have G_l_draw := ok_l_draw (P := P) (w := w) (base := base) T
  refine T.F_l_written.ok sc_l_written (fun vs H Q E h => ?_) (fun cdv A0 outer s H vs Q E hr h => ?_)
  · obtain ⟨r, rfl, hr0, k⟩ := h
    rfl
  · obtain ⟨r, rfl, hr0, k⟩ := h
    refine ⟨_, (pss_cons (ps_set (i := 1) sc_l_written.nd rfl (by first | exact Or.inl rfl | exact Or.inr rfl) (pe_op op_add pe_int (pe_call G_l_draw (hr.mono (by decide)) rfl T.m_l_draw T.k_l_draw T.b_l_draw .nil pass0 (pa_cons (pv 0) (pa_cons pe_int pa_nil)))))
    (pss_cons (ps_set (i := 2) sc_l_written.nd rfl (by first | exact Or.inl rfl | exact Or.inr rfl) (pe_lst pa_nil))
    (pss_cons (ps_for PassesOwn.never rfl (pi_range1 rfl T.range (pa_cons (pv 1) pa_nil)) (pg_name (i := 3) sc_l_written.nd rfl (by first | exact Or.inl rfl | exact Or.inr rfl))
      (pss_one (ps_expr (pe_bm PySem.F.plainAttrs_list PySem.F.slot_list_append PySem.F.type_list_append mt_append (pv 2) (pa_cons (pe_op op_add (pe_ix (r := rIxL K) ix_list (pe_op op_cat (pe_lst (pa_cons pe_int pa_nil)) (pv 2)) (pe_un un_neg pe_int) (fun _ _ => rfl)) (pe_ix (r := rIxL K) ix_list (pe_lst (pa_cons pe_int (pa_cons pe_int (pa_cons pe_int (pa_cons pe_int (pa_cons (pe_call G_l_draw (hr.mono (by decide)) rfl T.m_l_draw T.k_l_draw T.b_l_draw .nil pass0 (pa_cons (pv 0) (pa_cons pe_int pa_nil))) pa_nil)))))) (pe_call G_l_draw (hr.mono (by decide)) rfl T.m_l_draw T.k_l_draw T.b_l_draw .nil pass0 (pa_cons (pv 0) (pa_cons pe_int pa_nil))) (fun _ _ => rfl))) pa_nil)))))
    (pss_cons (ps_set (i := 4) sc_l_written.nd rfl (by first | exact Or.inl rfl | exact Or.inr rfl) (pe_call G_l_choice (hr.mono (by decide)) rfl T.m_l_choice T.k_l_choice T.b_l_choice .nil pass0 (pa_cons (pv 0) (pa_cons (pe_lc (own := [("_law_one", 6)]) (g := gName 6) rfl sc_l_written.nd (pi_list (pe_lst (pa_cons pe_int (pa_cons pe_int (pa_cons pe_int (pa_cons pe_int (pa_cons pe_int pa_nil))))))) (blkOk_by (own := [("_law_one", 6)]) (N := ["_law_rng_here", "_law_many", "_law_told", "_law_k", "_law_cycle", "_law_low", "_law_one"]) (sc := defScope s_l_written) (by decide +kernel)) (fun _ _ _ _ _ => pg_name (i := 6) sc_l_written.nd rfl (by first | exact Or.inl rfl | exact Or.inr rfl)) (fun _ _ _ _ _ => (pts_one (pt_cmpR op_le (pv 6) (pv 1) (nomark _)))) (fun _ _ _ _ _ => (pv 6))) pa_nil))))
    (pss_cons (ps_set (i := 5) sc_l_written.nd rfl (by first | exact Or.inl rfl | exact Or.inr rfl) (pe_op op_sub (pe_ix (r := rIxL K) ix_list (pv 2) (pe_un un_neg pe_int) (fun _ _ => rfl)) (pe_ix (r := rIxL K) ix_list (pe_op op_cat (pe_lst (pa_cons pe_int pa_nil)) (pv 2)) (pe_op op_sub (pe_op op_add (pv 1) pe_int) (pv 4)) (fun _ _ => rfl))))
    (pss_one (ps_ret (pe_tup (pa_cons (pv 2) (pa_cons (pv 4) (pa_cons (pe_op op_add (pv 5) (pe_call G_l_draw (hr.mono (by decide)) rfl T.m_l_draw T.k_l_draw T.b_l_draw .nil pass0 (pa_cons (pv 0) (pa_cons pe_int pa_nil)))) pa_nil))))))))))), ?_⟩
    refine ⟨_, rfl, r, _, rfl, hr0, by decide, by decide, fun H2 d e2 d0 d1 => ⟨_, _, rfl, rfl, ?_⟩⟩
    obtain ⟨n, rfl⟩ : ∃ n : Nat, d = (n : Int) := ⟨d.toNat, by omega⟩
    refine ⟨(by show 0 ≤ sizeLine; decide), fun l hl => ?_⟩
    have nlr := e2.rng.ne hl
    have hlH := e2.free hl
    refine ⟨_, rfl, _, rfl, by omega, by omega, ?_⟩
    refine for_range (lo := 0) (n := (1 + (n : Int)).toNat) (fun i σ H' => ∃ (v3 : Option V) (xs : List Int), σ = [some (.ref r), some (.int (1 + (n : Int))), some (.ref l), v3, none, none, none] ∧ Ext r H H' ∧ H' l = some (.lst (xs.map V.int)) ∧ xs.length = i ∧ Wr xs)
      ⟨_, [], rfl, e2.put hlH nlr, upd_same, rfl, Wr.nil⟩ ?_ ?_
    · rintro i σ H' hi ⟨v3, xs, rfl, e4, hx, hn, R⟩
      have il : i < 8 := by omega
      refine ⟨_, rfl, .inl ⟨rfl, _, SqL.of hx⟩, (by show 1 ≤ sizeLine; decide), fun p1 hp1 => ?_⟩
      have hx1 : upd H' p1 (.lst [.int 0]) l = some (.lst (xs.map V.int)) := by rw [upd_ne (ne_of_none hx hp1)]; exact hx
      have e5 := e4.new (o := .lst [.int 0]) hp1
      refine ⟨_, rfl, p1, l, _, _, rfl, rfl, upd_same, hx1, (by rw [List.length_map, sizeLine_eq]; show 1 + xs.length ≤ _; omega), fun p2 hp2 => ?_⟩
      have hx2 : upd (upd H' p1 (.lst [.int 0])) p2 (.lst (([.int 0] : List V) ++ xs.map V.int)) l = some (.lst (xs.map V.int)) := by rw [upd_ne (ne_of_none hx1 hp2)]; exact hx1
      have e6 := e5.new (o := .lst (([.int 0] : List V) ++ xs.map V.int)) hp2
      have h9 : upd (upd H' p1 (.lst [.int 0])) p2 (.lst (([.int 0] : List V) ++ xs.map V.int)) p2 = some (.lst (((0 : Int) :: xs).map V.int)) := upd_same
      generalize upd (upd H' p1 (.lst [.int 0])) p2 (.lst (([.int 0] : List V) ++ xs.map V.int)) = H6 at *
      refine ⟨_, rfl, p2, _, _, _, rfl, rfl, SqL.of h9, at_back (by decide) (by rw [List.length_cons]; omega), ?_⟩
      refine ⟨_, rfl, r, _, rfl, e6.rng, by decide, by decide, fun H7 d e7 d0 d1 => ⟨(by show 5 ≤ sizeLine; decide), fun q hq => ?_⟩⟩
      have hx7 := e7.keep _ _ nlr hx2
      have nq := e7.rng.ne hq
      have hx8 : upd H7 q (.lst (([0, 0, 1, 2, d] : List Int).map V.int)) l = some (.lst (xs.map V.int)) := by rw [upd_ne (ne_of_none hx7 hq)]; exact hx7
      have hq8 : upd H7 q (.lst (([0, 0, 1, 2, d] : List Int).map V.int)) q = some (.lst (([0, 0, 1, 2, d] : List Int).map V.int)) := upd_same
      have e8 := (e6.trans e7).new (o := .lst (([0, 0, 1, 2, d] : List Int).map V.int)) hq
      refine ⟨_, rfl, r, _, rfl, e8.rng, by decide, by decide, fun H9 z e9 z0 z1 => ?_⟩
      have e09 := e8.trans e9
      have hx9 := e9.keep _ _ nlr hx8
      refine ⟨q, _, _, _, rfl, rfl, SqL.of (e9.keep _ _ nq hq8), at_map (xs := [0, 0, 1, 2, d]) z0 z1, _, _, rfl, rfl, ?_⟩
      have hs : 0 ≤ ([0, 0, 1, 2, d] : List Int).getD z.toNat 0 ∧ ([0, 0, 1, 2, d] : List Int).getD z.toNat 0 ≤ 4 := by
        rcases (show z = 0 ∨ z = 1 ∨ z = 2 ∨ z = 3 ∨ z = 4 by omega) with y | y | y | y | y <;> subst y
        · show (0 : Int) ≤ 0 ∧ (0 : Int) ≤ 4; decide
        · show (0 : Int) ≤ 0 ∧ (0 : Int) ≤ 4; decide
        · show (0 : Int) ≤ 1 ∧ (1 : Int) ≤ 4; decide
        · show (0 : Int) ≤ 2 ∧ (2 : Int) ≤ 4; decide
        · show 0 ≤ d ∧ d ≤ 4; omega
      generalize ([0, 0, 1, 2, d] : List Int).getD z.toNat 0 = s at *
      refine ⟨l, _, _, rfl, rfl, hx9, small (by rw [List.length_map]; omega), ?_⟩
      refine ⟨_, xs ++ [((0 : Int) :: xs).getD xs.length 0 + s], rfl, e09.put hlH nlr, ?_, by rw [List.length_append, hn]; rfl, R.push hs.1 hs.2⟩
      rw [upd_same, List.map_append, show (-1 + ((((0 : Int) :: xs).length : Nat) : Int)).toNat = xs.length by rw [List.length_cons]; omega]
      rfl
    rintro σ H' ⟨v3, xs, rfl, e4, hx, hn, R⟩
    have xn : xs.length = n + 1 := by omega
    clear e2
    refine ⟨_, rfl, (by show 5 ≤ sizeLine; decide), fun p0 hp0 => ?_⟩
    have hp : upd H' p0 (.lst [.int 1, .int 2, .int 3, .int 4, .int 6]) p0 = some (.lst [.int 1, .int 2, .int 3, .int 4, .int 6]) := upd_same
    have hx4 : upd H' p0 (.lst [.int 1, .int 2, .int 3, .int 4, .int 6]) l = some (.lst (xs.map V.int)) := by rw [upd_ne (ne_of_none hx hp0)]; exact hx
    have e5 := e4.new (o := .lst [.int 1, .int 2, .int 3, .int 4, .int 6]) hp0
    generalize upd H' p0 (.lst [.int 1, .int 2, .int 3, .int 4, .int 6]) = H5 at *
    refine ⟨p0, rfl, ⟨_, SqL.of hp⟩, fun D hD => ?_⟩
    have nD := e5.rng.ne hD
    refine lc_list (K := K) (a := p0) (xs := [.int 1, .int 2, .int 3, .int 4, .int 6]) (fun i H2 => Same H5 H2 ∧
        ∃ ys : List Int, H2 D = some (.lst (ys.map V.int)) ∧ ys.length ≤ i ∧ (0 < i → 0 < ys.length) ∧ ∀ y ∈ ys, (y = 1 ∨ y = 2 ∨ y = 3 ∨ y = 4 ∨ y = 6) ∧ y ≤ xs.length)
        ⟨Same.upd (Same.refl _) hD, [], upd_same, Nat.le_refl _, fun h => absurd h (Nat.lt_irrefl _), fun y h => by cases h⟩ (fun i H2 _ ⟨s5, _⟩ => s5.seq (SqL.of hp)) ?_ ?_
    · rintro i x H2 hi ⟨s5, ys, hD2, hy, hy0, hys⟩
      have i5 : i < 5 := (List.getElem?_eq_some_iff.mp hi).1
      obtain ⟨z, rfl, hz, hz1⟩ : ∃ z : Int, x = .int z ∧ (z = 1 ∨ z = 2 ∨ z = 3 ∨ z = 4 ∨ z = 6) ∧ (i = 0 → z = 1) := by
        match i, hi with
        | 0, h => cases h; exact ⟨1, rfl, by omega, fun _ => rfl⟩
        | 1, h => cases h; exact ⟨2, rfl, by omega, fun z => absurd z (by decide)⟩
        | 2, h => cases h; exact ⟨3, rfl, by omega, fun z => absurd z (by decide)⟩
        | 3, h => cases h; exact ⟨4, rfl, by omega, fun z => absurd z (by decide)⟩
        | 4, h => cases h; exact ⟨6, rfl, by omega, fun z => absurd z (by decide)⟩
        | n + 5, h => cases h
      refine ⟨rfl, _, rfl, _, rfl, _, _, rfl, rfl, _, rfl, ifD (fun c => ?_) (fun c => ?_)⟩
      · refine ⟨_, rfl, _, hD2, small (by rw [List.length_map]; omega), Same.upd s5 hD, ys ++ [z], ?_, by rw [List.length_append, List.length_singleton]; omega, fun _ => by rw [List.length_append, List.length_singleton]; omega, fun y h => ?_⟩
        · rw [upd_same, List.map_append]; rfl
        · rcases List.mem_append.mp h with h | h
          · exact hys y h
          · cases List.mem_singleton.mp h; exact ⟨hz, by omega⟩
      · refine ⟨s5, ys, hD2, by omega, fun _ => ?_, hys⟩
        by_cases i0 : i = 0
        · exact absurd (hz1 i0) (by omega)
        · exact hy0 (by omega)
    rintro H2 ⟨s5, ys, hD2, hy, hy0, hys⟩
    have e6 := e5.same s5
    have hlen : 0 < ys.length := hy0 (by decide)
    have hy5 : ys.length ≤ 5 := hy
    refine ⟨r, D, _, rfl, e6.rng, SqL.of hD2, nD, by rw [List.length_map]; exact hlen, by rw [List.length_map]; omega, fun H3 v e7 hv => ?_⟩
    obtain ⟨p, hpm, rfl⟩ := List.mem_map.mp hv
    obtain ⟨hper, hpn⟩ := hys p hpm
    have pp : 0 < p ∧ p ≤ 6 := by omega
    have hx6 := e7.keep _ _ nlr (s5 _ _ hx4)
    have e06 := e6.trans e7
    refine ⟨_, rfl, _, rfl, l, _, _, _, rfl, rfl, SqL.of hx6, at_back (by omega) (by omega), (by show 1 ≤ sizeLine; decide), fun p1 hp1 => ?_⟩
    have hx7 : upd H3 p1 (.lst [.int 0]) l = some (.lst (xs.map V.int)) := by rw [upd_ne (ne_of_none hx6 hp1)]; exact hx6
    have e07 := e06.new (o := .lst [.int 0]) hp1
    refine ⟨_, rfl, p1, l, _, _, rfl, rfl, upd_same, hx7, (by rw [List.length_map, sizeLine_eq]; show 1 + xs.length ≤ _; omega), fun p2 hp2 => ?_⟩
    have hx8 : upd (upd H3 p1 (.lst [.int 0])) p2 (.lst (([.int 0] : List V) ++ xs.map V.int)) l = some (.lst (xs.map V.int)) := by rw [upd_ne (ne_of_none hx7 hp2)]; exact hx7
    have e08 := e07.new (o := .lst (([.int 0] : List V) ++ xs.map V.int)) hp2
    have h9 : upd (upd H3 p1 (.lst [.int 0])) p2 (.lst (([.int 0] : List V) ++ xs.map V.int)) p2 = some (.lst ((0 :: xs).map V.int)) := upd_same
    refine ⟨_, rfl, _, _, rfl, rfl, _, rfl, _, _, rfl, rfl, p2, _, _, _, rfl, rfl, SqL.of h9, at_map (by omega) (by rw [List.length_cons]; omega), _, _, rfl, rfl, ?_⟩
    refine ⟨_, rfl, _, rfl, _, rfl, ?_⟩
    refine ⟨_, rfl, r, _, rfl, e08.rng, by decide, by decide, fun H9 d9 e9 y0 y1 => ⟨_, _, rfl, rfl, ?_⟩⟩
    have e09 := e08.trans e9
    have hx9 := e9.keep _ _ nlr hx8
    refine ⟨(by show 3 ≤ sizeLine; decide), fun t ht => ?_⟩
    have eg : xs.getD (-1 + (xs.length : Int)).toNat 0 - ((0 : Int) :: xs).getD (1 + (n : Int) + 1 - p).toNat 0 = xs.getD (xs.length - 1) 0 - xs.getD (xs.length - p.toNat) 0 := by
      rw [show (-1 + (xs.length : Int)).toNat = xs.length - 1 by omega, show (1 + (n : Int) + 1 - p).toNat = (xs.length - p.toNat) + 1 by omega]
      rfl
    rw [eg]
    exact k _ t l xs p _ (e09.new ht) (e09.free ht) hlH ⟨upd_same, by rw [upd_ne (ne_of_none hx9 ht)]; exact hx9⟩ ⟨R, by omega, by omega, hper, hpn, by omega, by omega⟩
end
end VK


namespace VK
open PySem PySem.Spec PyProof.Rows L2 VM
/-- all that is told of a curve's form -/
def shownD (xs : List Int) (p g : Int) : PyData := .list [.list (xs.map PyData.int), .int p, .int g, .tuple [.int (g / (Nat.gcd g.natAbs p.natAbs : Nat)), .int (p / (Nat.gcd g.natAbs p.natAbs : Nat))], .str (crvS xs p g), .str (strS xs p g)]
theorem crv_asc (xs : List Int) (p g : Int) : VT.Asc (crvS xs p g) := by
  unfold crvS
  exact (((((((VT.Asc.of "").app (VT.Asc.of _)).app (VT.Asc.ints xs)).app (VT.Asc.of _)).app (VT.Asc.int p)).app (VT.Asc.of _)).app (VT.Asc.int g)).app (VT.Asc.of _)
theorem str_asc (xs : List Int) (p g : Int) : VT.Asc (strS xs p g) := by
  unfold strS
  refine VT.Asc.join (VT.Asc.of _) fun t ht => ?_
  simp only [List.mem_cons, List.not_mem_nil, or_false] at ht
  rcases ht with rfl | rfl | rfl
  · refine VT.Asc.join (VT.Asc.of _) fun t ht => ?_
    obtain ⟨u, _, rfl⟩ := List.mem_map.mp ht
    exact VT.Asc.int u
  · exact VT.Asc.int p
  · exact VT.Asc.int g
theorem str_len {xs : List Int} {p g : Int} (hv : ∀ u ∈ xs, u.natAbs < 10 ^ 100) (hn : xs.length ≤ 1000) (hp : p.natAbs < 10 ^ 100) (hg : g.natAbs < 10 ^ 100) : (strS xs p g).length ≤ 200000 := by
  have len1 : ∀ v ∈ (xs.map fun u => (toString u : Str)).map (·.length), v ≤ 101 := fun v hm => by
    obtain ⟨y, hy, rfl⟩ := List.mem_map.mp hm
    obtain ⟨u, hu, rfl⟩ := List.mem_map.mp hy
    exact int_len (hv u hu)
  have s1 := sum_le_mul len1
  rw [List.length_map, List.length_map] at s1
  have kc := lit_len "," (n := 1)
  have ks := lit_len "/" (n := 1)
  have j1 := len_join_le' ("," : Str) (xs.map fun u => (toString u : Str))
  rw [List.length_map, kc] at j1
  have l1 := int_len hp
  have l2 := int_len hg
  have j2 := len_join_le' ("/" : Str) [Txt.join ("," : Str) (xs.map fun u => (toString u : Str)), (toString p : Str), (toString g : Str)]
  rw [ks] at j2
  simp only [List.map_cons, List.map_nil, List.sum_cons, List.sum_nil, List.length_cons, List.length_nil] at j2
  show (Txt.join _ _).length ≤ _
  omega
theorem crv_len {xs : List Int} {p g : Int} (sz : VR.Sz 1 150000 (.list (xs.map PyData.int))) (hp : p.natAbs < 10 ^ 100) (hg : g.natAbs < 10 ^ 100) : (crvS xs p g).length ≤ 200000 := by
  have l1 := int_len hp
  have l2 := int_len hg
  have l3 := sz.ln
  have k1 := lit_len "Curve(" (n := 6)
  have k2 := lit_len ", period=" (n := 9)
  have k3 := lit_len ", gain=" (n := 7)
  have k5 := lit_len ")" (n := 1)
  have k0 : Str.empty.length = 0 := rfl
  unfold crvS
  simp only [Str.length_append]
  omega
theorem shown_sz {xs : List Int} {p g : Int} (hv : ∀ u ∈ xs, u.natAbs < 10 ^ 100) (hn : xs.length ≤ 1000) (hp : p.natAbs < 10 ^ 100) (hg : g.natAbs < 10 ^ 100) : (shownD xs p g).showable = true ∧ (shownD xs p g).depth ≤ 60 ∧ (shownD xs p g).shown.length ≤ sizeLine := by
  have sz : VR.Sz 1 150000 (.list (xs.map PyData.int)) := (VR.Sz.ints hv hn).mono (by decide) (by decide)
  have q1 : (g / (Nat.gcd g.natAbs p.natAbs : Nat)).natAbs < 10 ^ 100 := Nat.lt_of_le_of_lt (Int.natAbs_ediv_le_natAbs _ _) hg
  have q2 : (p / (Nat.gcd g.natAbs p.natAbs : Nat)).natAbs < 10 ^ 100 := Nat.lt_of_le_of_lt (Int.natAbs_ediv_le_natAbs _ _) hp
  have z : VR.Sz 2 ((2000002 + 2) * 6 + 3) (shownD xs p g) := by
    refine VR.Sz.list (k := 1) (L := 2000002) (n := 6) (fun d hd => ?_) (by simp)
    simp only [List.mem_cons, List.not_mem_nil, or_false] at hd
    rcases hd with rfl | rfl | rfl | rfl | rfl | rfl
    · exact sz.mono (by decide) (by decide)
    · exact (VR.Sz.int hp).mono (by decide) (by decide)
    · exact (VR.Sz.int hg).mono (by decide) (by decide)
    · refine (VR.Sz.tuple (k := 0) (L := 101) (n := 2) (fun d hd => ?_) (by simp)).mono (by decide) (by decide)
      simp only [List.mem_cons, List.not_mem_nil, or_false] at hd
      rcases hd with rfl | rfl
      · exact VR.Sz.int q1
      · exact VR.Sz.int q2
    · exact (VT.Sz.str (crv_asc xs p g) (crv_len sz hp hg)).mono (by decide) (by decide)
    · exact (VT.Sz.str (str_asc xs p g) (str_len hv hn hp hg)).mono (by decide) (by decide)
  exact ⟨z.sh, Nat.le_trans z.dp (by decide), Nat.le_trans z.ln (by rw [sizeLine_eq]; decide)⟩
theorem low_gcd {g p c : Int} (p0 : 0 < p) (c0 : 0 < c) (hg : g % c = 0) (hp : p % c = 0) (no : ∀ e : Int, c < e → e ≤ p → ¬ (g % e = 0 ∧ p % e = 0)) : (Nat.gcd g.natAbs p.natAbs : Int) = c := by
  have d1 : c.natAbs ∣ g.natAbs := Int.natAbs_dvd_natAbs.mpr (Int.dvd_of_emod_eq_zero hg)
  have d2 : c.natAbs ∣ p.natAbs := Int.natAbs_dvd_natAbs.mpr (Int.dvd_of_emod_eq_zero hp)
  have d3 := Nat.dvd_gcd d1 d2
  have gp : 0 < Nat.gcd g.natAbs p.natAbs := Nat.gcd_pos_of_pos_right _ (by omega)
  have le := Nat.le_of_dvd gp d3
  have e1 : ((Nat.gcd g.natAbs p.natAbs : Nat) : Int) ∣ g := Int.dvd_natAbs.mp (Int.natCast_dvd_natCast.mpr (Nat.gcd_dvd_left _ _))
  have e2 : ((Nat.gcd g.natAbs p.natAbs : Nat) : Int) ∣ p := Int.dvd_natAbs.mp (Int.natCast_dvd_natCast.mpr (Nat.gcd_dvd_right _ _))
  have le2 := Int.le_of_dvd p0 e2
  by_cases z : c < (Nat.gcd g.natAbs p.natAbs : Int)
  · exact absurd ⟨Int.emod_eq_zero_of_dvd e1, Int.emod_eq_zero_of_dvd e2⟩ (no _ z le2)
  · omega
def sp_l_shown (_ : PySem.W.Frag) (A : Ad) : Sp := fun vs H Q _ => ∃ (x : Addr) (cs : List Int) (p g : Int), vs = [.ref x] ∧ CrvAt A H x cs p g ∧ (∀ u ∈ cs, u.natAbs < 10 ^ 100) ∧ cs.length ≤ 1000 ∧ 0 < p ∧ p ≤ 1000 ∧ g.natAbs < 10 ^ 100 ∧
  ∀ H', Same H H' → Q (.str (shownD cs p g).shown) H'
section
variable {P : Program} {w : World} {K : PySem.W.Frag} {mg : Str → Option Value} {base : Heap} {A : Ad}
theorem ok_l_shown (T : Txt K mg A) : VG.FnG P w K mg base CX0 4 A.f_l_shown A.d_l_shown ["_law_curve"] (sp_l_shown K A) := by
  have G_C_first_values := ok_C_first_values (P := P) (w := w) (base := base) T
  have G_C_gain := ok_C_gain (P := P) (w := w) (base := base) T
  have G_C_period := ok_C_period (P := P) (w := w) (base := base) T
  have G_C_rate := ok_C_rate (P := P) (w := w) (base := base) T
  have G_C_repr := ok_C_repr (P := P) (w := w) (base := base) T
  have G_C_str := ok_C_str (P := P) (w := w) (base := base) T
  have G_C_repr := ok_C_repr (P := P) (w := w) (base := base) T
  have G_C_str := ok_C_str (P := P) (w := w) (base := base) T
  refine VG.okG0 T.F_l_shown sc_l_shown (fun vs H Q E h => ?_) (fun cdv A0 outer s H vs Q E hA hr h => ?_)
  · obtain ⟨x, cs, p, g, rfl, hC, hv, hn, p0, p1, hg, k⟩ := h
    rfl
  · obtain ⟨x, cs, p, g, rfl, hC, hv, hn, p0, p1, hg, k⟩ := h
    refine ⟨_, (pss_one (ps_ret (pe_callB (r := VG.rRepr K) (VG.call_repr hA hr.units) (by rfl) T.repr (by decide +kernel) (pa_cons (pe_lst (pa_cons (pe_meth0 (pv 0) T.cl T.me_first_values G_C_first_values (hr.mono (by decide)) T.b_C_first_values .nil pass0) (pa_cons (pe_prop (pv 0) T.cl T.pr_C_period G_C_period (hr.mono (by decide)) T.b_C_period .nil pass0 rfl) (pa_cons (pe_prop (pv 0) T.cl T.pr_C_gain G_C_gain (hr.mono (by decide)) T.b_C_gain .nil pass0 rfl) (pa_cons (pe_prop (pv 0) T.cl T.pr_C_rate G_C_rate (hr.mono (by decide)) T.b_C_rate .nil pass0 rfl) (pa_cons (pe_callB (VQ.call_reprOwnG (C := A.Curve) G_C_repr hA (hr.mono (by decide)) T.me___repr__ T.b_C_repr pass0) (by rfl) T.repr (by decide +kernel) (pa_cons (pv 0) pa_nil)) (pa_cons (pe_callTy (VO.call_strOwn (C := A.Curve) G_C_str (hr.mono (by decide)) T.me___str__ T.b_C_str pass0) (by rfl) T.str (by decide +kernel) (pa_cons (pv 0) pa_nil)) pa_nil))))))) pa_nil)))), ?_⟩
    have hp : p.natAbs < 10 ^ 100 := Nat.lt_of_le_of_lt (show p.natAbs ≤ 1000 by omega) (by decide +kernel)
    obtain ⟨z1, z2, z3⟩ := shown_sz hv hn hp hg
    have sz : VR.Sz 1 1000000 (.list (cs.map PyData.int)) := (VR.Sz.ints (n := 1000) hv hn).mono (by decide) (by decide)
    obtain ⟨dx, l, w, b, hx, hl⟩ := id hC
    refine ⟨_, rfl, x, dx, _, rfl, hx, cfs_no _ _ _ (by decide +kernel) (by decide +kernel) (by decide +kernel), x, cs, p, g, rfl, hC, fun H1 q s1 _ hq => ?_⟩
    have C1 := hC.same s1
    have hx1 := s1 _ _ hx
    refine ⟨_, rfl, x, dx, _, rfl, hx1, x, cs, p, g, rfl, C1, _, rfl, x, dx, _, rfl, hx1, x, cs, p, g, rfl, C1, _, rfl, x, dx, _, rfl, hx1, x, cs, p, g, rfl, C1, p0, p1, fun H2 t s2 ht => ?_⟩
    have C2 := C1.same s2
    have hx2 := s2 _ _ hx1
    refine ⟨_, rfl, x, dx, _, rfl, hx2, x, cs, p, g, rfl, C2, sz, hp, hg, _, rfl, ?_⟩
    refine ⟨_, rfl, x, dx, _, rfl, hx2, x, cs, p, g, rfl, C2, hv, hn, hp, hg, fun H3 s3 _ => ⟨_, rfl, (by show 6 ≤ sizeLine; decide), fun L hL => ?_⟩⟩
    have s4 := Same.upd (o := .lst [.ref q, .int p, .int g, .ref t, .str (crvS cs p g), .str (strS cs p g)]) s3 (s3.free hL)
    refine ⟨.ref L, shownD cs p g, rfl, .lst (SqL.of upd_same) (.cons (.lst (SqL.of (s4 _ _ (s2 _ _ hq))) (dp_ints cs)) (.cons (.int p) (.cons (.int g) (.cons (.tup (SqT.of (s4 _ _ ht)) (.cons (.int _) (.cons (.int _) .nil))) (.cons (.str _) (.cons (.str _) .nil)))))), z1, z2, z3, ?_⟩
    exact k _ ((s1.trans s2).trans s4)
end
end VK


namespace VK
open PySem PySem.Spec PyProof.Rows L2 VM
def sp_l_nearly (_ : PySem.W.Frag) (_ : Ad) : Sp := fun vs H Q _ => ∃ (r t l : Addr) (xs : List Int) (p g : Int), vs = [.ref r, .ref t] ∧ Rng H r ∧ RowH H t l xs p g ∧ t ≠ r ∧ l ≠ r ∧ Dr xs p g ∧
  ∀ H' t' l' ys h, Ext r H H' → H t' = none → H l' = none → RowH H' t' l' ys p h → Near xs p g ys h → Q (.ref t') H'
section
variable {P : Program} {w : World} {K : PySem.W.Frag} {mg : Str → Option Value} {base : Heap} {A : Ad}
theorem ok_l_nearly (T : Txt K mg A) : FnOk P w K mg base CX0 4 A.f_l_nearly A.d_l_nearly ["_law_rng_here", "_law_row"] (sp_l_nearly K A) := by
  have G_l_at := ok_l_at (P := P) (w := w) (base := base) T
  have G_l_draw := ok_l_draw (P := P) (w := w) (base := base) T
  refine T.F_l_nearly.ok sc_l_nearly (fun vs H Q E h => ?_) (fun cdv A0 outer s H vs Q E hr h => ?_)
  · obtain ⟨r, t, l, xs, p, g, rfl, hr0, R, nt, nl, D, k⟩ := h
    rfl
  · obtain ⟨r, t, l, xs, p, g, rfl, hr0, R, nt, nl, D, k⟩ := h
    refine ⟨_, (pss_cons (ps_par3 (i := 2) (j := 3) (l := 4) (by rfl) sc_l_nearly.nd rfl rfl rfl (by decide) (by decide) (by decide) rfl rfl rfl (pa_cons (pe_callTy (r := VG.rListOf K) VG.call_listOf (by rfl) T.list (by decide +kernel) (pa_cons (pe_ix (r := rIxT K) ix_tup (pv 1) pe_int (fun _ _ => rfl)) pa_nil)) (pa_cons (pe_ix (r := rIxT K) ix_tup (pv 1) pe_int (fun _ _ => rfl)) (pa_cons (pe_ix (r := rIxT K) ix_tup (pv 1) pe_int (fun _ _ => rfl)) pa_nil))) (by rfl))
    (pss_cons (ps_set (i := 5) sc_l_nearly.nd rfl (by first | exact Or.inl rfl | exact Or.inr rfl) (pe_call G_l_draw (hr.mono (by decide)) rfl T.m_l_draw T.k_l_draw T.b_l_draw .nil pass0 (pa_cons (pv 0) (pa_cons pe_int pa_nil))))
    (pss_cons (ps_if (pt_cmpR op_eq (pv 5) pe_int (nomark _)) (pss_cons (ps_asg (pe_op op_add (pe_ix (r := rIxL K) ix_list (pv 2) (pe_un un_neg pe_int) (fun _ _ => rfl)) pe_int) (pg_sub (pv 2) (pe_un un_neg pe_int) set_list))
    (pss_one (ps_set (i := 4) sc_l_nearly.nd rfl (by first | exact Or.inl rfl | exact Or.inr rfl) (pe_op op_add (pv 4) pe_int)))) (pss_one (ps_if (pt_cmpR op_eq (pv 5) pe_int (nomark _)) (pss_one (ps_set (i := 4) sc_l_nearly.nd rfl (by first | exact Or.inl rfl | exact Or.inr rfl) (pe_op op_add (pv 4) pe_int))) (pss_one (ps_if (pt_cmpR op_eq (pv 5) pe_int (nomark _)) (pss_one (ps_setLc (i := 2) (own := [("_law_span", 6)]) (g := gName 6) (tt := tYes) rfl sc_l_nearly.nd rfl rfl (sw_true rfl rfl rfl (by decide +kernel)) (pi_range2 rfl T.range (pa_cons pe_int (pa_cons (pe_op op_add (pe_op op_add (pe_callB (r := VG.rLen K) VG.call_len (by rfl) T.len (by decide +kernel) (pa_cons (pv 2) pa_nil)) (pv 3)) pe_int) pa_nil))) (blkOk_by (own := [("_law_span", 6)]) (N := ["_law_rng_here", "_law_row", "_law_told", "_law_cycle", "_law_more", "_law_way", "_law_span"]) (sc := defScope s_l_nearly) (by decide +kernel)) (fun _ _ _ _ _ => pg_name (i := 6) sc_l_nearly.nd rfl (by first | exact Or.inl rfl | exact Or.inr rfl)) (fun _ _ _ _ _ => pts_nil) (fun _ _ _ _ _ => (pe_call G_l_at (hr.mono (by decide)) rfl T.m_l_at T.k_l_at T.b_l_at .nil pass0 (pa_cons (pv 1) (pa_cons (pv 6) pa_nil)))))) (pss_one (ps_if (pt_cmpR op_eq (pv 5) pe_int (nomark _)) (pss_one (ps_set (i := 2) sc_l_nearly.nd rfl (by first | exact Or.inl rfl | exact Or.inr rfl) (pe_op op_cat (pe_lst (pa_cons pe_int pa_nil)) (pv 2)))) (pss_one (ps_if (PW.pt (pw_and (pt_cmpR op_eq (pv 5) pe_int (nomark _)) (pw_and1 (pt_cmpR op_gt (pe_callB (r := VG.rLen K) VG.call_len (by rfl) T.len (by decide +kernel) (pa_cons (pv 2) pa_nil)) (pv 3) (nomark _))))) (pss_one (ps_asg (pe_callB (call_max2 rfl) (by rfl) T.max (by decide +kernel) (pa_cons pe_int (pa_cons (pe_op op_sub (pe_ix (r := rIxL K) ix_list (pv 2) pe_int (fun _ _ => rfl)) pe_int) pa_nil))) (pg_sub (pv 2) pe_int set_list))) pss_nil)))))))))
    (pss_one (ps_ret (pe_tup (pa_cons (pv 2) (pa_cons (pv 3) (pa_cons (pv 4) pa_nil))))))))), ?_⟩
    refine ⟨_, rfl, t, _, _, _, rfl, rfl, SqT.of R.1, rfl, l, _, rfl, .inl (SqL.of R.2), fun q hq => ?_⟩
    have R1 := R.same (Same.upd (o := .lst (xs.map V.int)) (Same.refl H) hq)
    have nq : q ≠ r := hr0.ne hq
    have hq1 : upd H q (.lst (xs.map V.int)) q = some (.lst (xs.map V.int)) := upd_same
    have e1 := (Ext.refl hr0).new (o := .lst (xs.map V.int)) hq
    generalize upd H q (.lst (xs.map V.int)) = H1 at *
    refine ⟨_, rfl, t, _, _, _, rfl, rfl, SqT.of R1.1, rfl, _, rfl, t, _, _, _, rfl, rfl, SqT.of R1.1, rfl, ?_⟩
    refine ⟨_, _, _, rfl, _, rfl, r, _, rfl, e1.rng, by decide, by decide, fun H2 d e2 d0 d1 => ?_⟩
    have R2 : RowH H2 t l xs p g := ⟨e2.keep _ _ nt R1.1, e2.keep _ _ nl R1.2⟩
    have hq2 := e2.keep _ _ nq hq1
    have e02 := e1.trans e2
    have n1 := D.n1
    have n2 := D.n2
    have p0 := D.nr.p0
    have pn := D.pn
    have fin : ∀ (H3 : Hp) (z : Addr) (ys : List Int) (h : Int), Ext r H H3 → H z = none → H3 z = some (.lst (ys.map V.int)) → Near xs p g ys h → ∀ u : Addr, H3 u = none → Q (.ref u) (upd H3 u (.tup [.ref z, .int p, .int h])) := fun H3 z ys h e3 hz0 hz N u hu =>
      k _ u z ys h (e3.new hu) (e3.free hu) hz0 ⟨upd_same, by rw [upd_ne (ne_of_none hz hu)]; exact hz⟩ N
    have ix1 : ixN (xs.map V.int).length (-1) = some (xs.length - 1) := by
      unfold ixN
      rw [if_neg (by decide), List.length_map, if_pos (by omega), show (-1 + (xs.length : Int)).toNat = xs.length - 1 by omega]
    have ix0 : ixN (xs.map V.int).length 0 = some 0 := by
      unfold ixN
      rw [if_pos (by decide), List.length_map, if_pos (by omega)]
      rfl
    refine ⟨_, rfl, rfl, _, rfl, ifEq (fun c => ?_) (fun c => ?_)⟩
    · refine ⟨_, rfl, _, rfl, q, _, _, _, rfl, rfl, SqL.of hq2, at_back (by decide) (by omega), _, _, rfl, rfl, _, rfl, _, rfl, q, _, _, _, rfl, rfl, hq2, ix1, ?_⟩
      have hq3 : upd H2 q (.lst ((xs.map V.int).set (xs.length - 1) (.int (xs.getD (-1 + (xs.length : Int)).toNat 0 + 1)))) q = some (.lst ((xs.set (xs.length - 1) (xs.getD (xs.length - 1) 0 + 1)).map V.int)) := by
        rw [upd_same, List.map_set, show (-1 + (xs.length : Int)).toNat = xs.length - 1 by omega]
      have e3 := e02.put (o := .lst ((xs.map V.int).set (xs.length - 1) (.int (xs.getD (-1 + (xs.length : Int)).toNat 0 + 1)))) hq nq
      generalize upd H2 q (.lst ((xs.map V.int).set (xs.length - 1) (.int (xs.getD (-1 + (xs.length : Int)).toNat 0 + 1)))) = H3 at *
      refine ⟨_, rfl, _, _, rfl, rfl, _, rfl, _, rfl, _, rfl, (by show 3 ≤ sizeLine; decide), fun u hu => ?_⟩
      exact fin _ _ _ _ e3 hq hq3 .last u hu
    refine ⟨_, rfl, rfl, _, rfl, ifEq (fun c => ?_) (fun c => ?_)⟩
    · refine ⟨_, rfl, _, _, rfl, rfl, _, rfl, _, rfl, _, rfl, (by show 3 ≤ sizeLine; decide), fun u hu => ?_⟩
      exact fin _ _ _ _ e02 hq hq2 .gain u hu
    refine ⟨_, rfl, rfl, _, rfl, ifEq (fun c => ?_) (fun c => ?_)⟩
    · refine ⟨_, rfl, q, _, rfl, .inl (SqL.of hq2), _, rfl, _, _, rfl, rfl, _, _, rfl, rfl, _, _, rfl, ⟨by decide, by decide, by rw [List.length_map]; omega, by rw [List.length_map]; omega⟩, fun D2 hD => ?_⟩
      rw [List.length_map]
      refine lc_range (lo := 1) (n := ((xs.length : Int) + p + 1 - 1).toNat) (fun j H' => Same H2 H' ∧ H' D2 = some (.lst ((vals (cvAt xs p g) j).map V.int))) ⟨Same.upd (Same.refl _) hD, upd_same⟩ ?_ ?_
      · rintro j H' hj ⟨s1, hD2⟩
        refine ⟨rfl, _, rfl, _, rfl, t, l, xs, p, g, _, rfl, SqT.of (s1 _ _ R2.1), SqL.of (s1 _ _ R2.2), p0.1, pn, by omega, by omega, by omega, ?_⟩
        refine ⟨_, hD2, small (by rw [List.length_map, vals_length]; omega), Same.upd s1 hD, ?_⟩
        rw [upd_same, vals_more, List.map_append, Int.add_comm 1]
        rfl
      rintro H' ⟨s1, hD2⟩
      rw [show ((xs.length : Int) + p + 1 - 1).toNat = xs.length + p.toNat by omega] at hD2
      refine ⟨_, rfl, _, rfl, _, rfl, (by show 3 ≤ sizeLine; decide), fun u hu => ?_⟩
      exact fin _ _ _ _ (e02.same s1) (e02.free hD) hD2 .long u hu
    refine ⟨_, rfl, rfl, _, rfl, ifEq (fun c => ?_) (fun c => ?_)⟩
    · refine ⟨(by show 1 ≤ sizeLine; decide), fun p1 hp1 => ?_⟩
      have s3 := Same.upd (o := .lst [.int 0]) (Same.refl H2) hp1
      refine ⟨_, rfl, p1, q, _, _, rfl, rfl, upd_same, s3 _ _ hq2, (by rw [List.length_map, sizeLine_eq]; show 1 + xs.length ≤ _; omega), fun p2 hp2 => ?_⟩
      have s4 := s3.trans (Same.upd (o := .lst (([.int 0] : List V) ++ xs.map V.int)) (Same.refl _) hp2)
      have h9 : upd (upd H2 p1 (.lst [.int 0])) p2 (.lst (([.int 0] : List V) ++ xs.map V.int)) p2 = some (.lst (((0 : Int) :: xs).map V.int)) := upd_same
      refine ⟨_, rfl, _, rfl, _, rfl, (by show 3 ≤ sizeLine; decide), fun u hu => ?_⟩
      exact fin _ _ _ _ (e02.same s4) (e02.free (s3.free hp2)) h9 .late u hu
    refine ⟨_, rfl, rfl, _, rfl, ite2 (fun c4 => ?_) (fun c4 => ?_)⟩
    · refine ⟨_, rfl, q, _, rfl, .inl (SqL.of hq2), _, rfl, _, _, rfl, rfl, _, rfl, ifD (fun c5 => ?_) (fun c5 => ?_)⟩
      · rw [List.length_map] at c5
        refine ⟨_, rfl, q, _, _, _, rfl, rfl, SqL.of hq2, at_map (by decide) (by omega), _, _, rfl, rfl, _, _, rfl, ?_⟩
        rw [show (if xs.getD (0 : Int).toNat 0 - 1 > 0 then xs.getD (0 : Int).toNat 0 - 1 else 0) = max 0 (xs.getD 0 0 - 1) by rw [show (0 : Int).toNat = 0 from rfl]; split <;> omega]
        refine ⟨_, rfl, q, _, _, _, rfl, rfl, hq2, ix0, ?_⟩
        have hq3 : upd H2 q (.lst ((xs.map V.int).set 0 (.int (max 0 (xs.getD 0 0 - 1))))) q = some (.lst ((xs.set 0 (max 0 (xs.getD 0 0 - 1))).map V.int)) := by
          rw [upd_same, List.map_set]
        have e3 := e02.put (o := .lst ((xs.map V.int).set 0 (.int (max 0 (xs.getD 0 0 - 1))))) hq nq
        generalize upd H2 q (.lst ((xs.map V.int).set 0 (.int (max 0 (xs.getD 0 0 - 1))))) = H3 at *
        refine ⟨_, rfl, _, rfl, _, rfl, (by show 3 ≤ sizeLine; decide), fun u hu => ?_⟩
        exact fin _ _ _ _ e3 hq hq3 (.less c5) u hu
      · refine ⟨_, rfl, _, rfl, _, rfl, (by show 3 ≤ sizeLine; decide), fun u hu => ?_⟩
        exact fin _ _ _ _ e02 hq hq2 .same u hu
    · refine iteF ⟨_, rfl, _, rfl, _, rfl, (by show 3 ≤ sizeLine; decide), fun u hu => ?_⟩
      exact fin _ _ _ _ e02 hq hq2 .same u hu
end
end VK


namespace VK
open PySem PySem.Spec PyProof.Rows L2 VM
/-- a curve that is told by its function -/
def CvR (A : Ad) (H : Hp) (r x : Addr) (F : Int → Int) (N : Nat) : Prop := ∃ cs p g dx l w b, H x = some (.ins A.Curve dx (cfs l p g w b)) ∧ H l = some (.lst (cs.map V.int)) ∧ CFo cs p g F N ∧ x ≠ r ∧ l ≠ r
theorem CvR.ext {A : Ad} {H H' : Hp} {r x : Addr} {F : Int → Int} {N : Nat} (h : CvR A H r x F N) (e : Ext r H H') : CvR A H' r x F N := by
  obtain ⟨cs, p, g, dx, l, w, b, h1, h2, h3, h4, h5⟩ := h
  exact ⟨cs, p, g, dx, l, w, b, e.keep _ _ h4 h1, e.keep _ _ h5 h2, h3, h4, h5⟩
theorem CvR.same {A : Ad} {H H' : Hp} {r x : Addr} {F : Int → Int} {N : Nat} (h : CvR A H r x F N) (s : Same H H') : CvR A H' r x F N := by
  obtain ⟨cs, p, g, dx, l, w, b, h1, h2, h3, h4, h5⟩ := h
  exact ⟨cs, p, g, dx, l, w, b, s _ _ h1, s _ _ h2, h3, h4, h5⟩
theorem CvR.crv {A : Ad} {H : Hp} {r x : Addr} {F : Int → Int} {N : Nat} (h : CvR A H r x F N) : ∃ cs p g, CrvAt A H x cs p g ∧ CFo cs p g F N := by
  obtain ⟨cs, p, g, dx, l, w, b, h1, h2, h3, h4, h5⟩ := h
  exact ⟨cs, p, g, ⟨dx, l, w, b, h1, h2⟩, h3⟩
theorem CvR.fn {A : Ad} {H : Hp} {r x : Addr} {F G : Int → Int} {N : Nat} (h : CvR A H r x F N) (e : ∀ t : Int, 0 ≤ t → F t = G t) : CvR A H r x G N := by
  obtain ⟨cs, p, g, dx, l, w, b, h1, h2, h3, h4, h5⟩ := h
  exact ⟨cs, p, g, dx, l, w, b, h1, h2, ⟨h3.p0, h3.pd, h3.pn, h3.n, fun t ht => by rw [h3.eq t ht, e t ht], h3.c1, h3.c2⟩, h4, h5⟩
theorem CvR.ins {A : Ad} {H : Hp} {r x : Addr} {F : Int → Int} {N : Nat} (h : CvR A H r x F N) : ∃ dx l p g w b, H x = some (.ins A.Curve dx (cfs l p g w b)) := by
  obtain ⟨cs, p, g, dx, l, w, b, h1, h2, h3, h4, h5⟩ := h
  exact ⟨dx, l, p, g, w, b, h1⟩
theorem CvR.put {A : Ad} {H : Hp} {r D x : Addr} {F : Int → Int} {N : Nat} {o : HO} (h : CvR A H r x F N) (h2 : CvR A H D x F N) : CvR A (upd H D o) r x F N ∧ CvR A (upd H D o) D x F N := by
  obtain ⟨cs, p, g, dx, l, w, b, a1, a2, a3, a4, a5⟩ := h
  obtain ⟨cs2, p2, g2, dx2, l2, w2, b2, c1, c2, c3, c4, c5⟩ := h2
  have e := Option.some.inj (a1.symm.trans c1)
  have el : l = l2 := by
    unfold cfs at e
    injection e with e1 e2 e3
    injection e3 with e4 e5
    injection e4 with e6 e7
    injection e7
  subst el
  exact ⟨⟨cs, p, g, dx, l, w, b, by rw [upd_ne c4]; exact a1, by rw [upd_ne c5]; exact a2, a3, a4, a5⟩, ⟨cs, p, g, dx, l, w, b, by rw [upd_ne c4]; exact a1, by rw [upd_ne c5]; exact a2, a3, c4, c5⟩⟩
section
variable {P : Program} {w : World} {K : PySem.W.Frag} {mg : Str → Option Value} {base : Heap} {A : Ad}
/-- curve.at(t) -/
theorem cv_at {H : Hp} {r x : Addr} {F : Int → Int} {N : Nat} {t : Int} {Q : VK} {E : XK} (h : CvR A H r x F N) (hN : N ≤ 900) (t0 : 0 ≤ t) (t1 : t < 2 ^ 62) (k : Q (.int (F t)) H) : sp_C_at K A [.ref x, .int t] H Q E := by
  obtain ⟨cs, p, g, C, O⟩ := h.crv
  have := O.n
  rw [← O.eq t t0] at k
  exact ⟨x, cs, p, g, t, rfl, C, O.p0, O.pn, by omega, t0, t1, k⟩
/-- x + y -/
theorem cv_add {H : Hp} {r x y : Addr} {F1 F2 : Int → Int} {N1 N2 N : Nat} {Q : VK} {E : XK} (h1 : CvR A H r x F1 N1) (h2 : CvR A H r y F2 N2) (hr : Rng H r) (b1 : N1 + 12 ≤ N) (b2 : N2 + 12 ≤ N) (hN : N ≤ 400)
    (k : ∀ H' z, Same H H' → H z = none → CvR A H' r z (fun t => F1 t + F2 t) N → Q (.ref z) H') : VO.rAddOwn A.Curve (sp_C_add K A) E (.ref x) (.ref y) H Q := by
  obtain ⟨c1, p1, g1, C1, O1⟩ := h1.crv
  obtain ⟨c2, p2, g2, C2, O2⟩ := h2.crv
  obtain ⟨dx, lx, wx, bx, hx, hlx⟩ := id C1
  obtain ⟨dy, ly, wy, by_, hy, hly⟩ := id C2
  have n1 := O1.n
  have n2 := O2.n
  refine ⟨x, dx, _, y, dy, _, rfl, hx, rfl, hy, x, y, c1, c2, p1, g1, p2, g2, rfl, C1, C2, O1.p0, O1.pn, O1.p12, by omega, O2.p0, O2.pn, O2.p12, by omega, fun H' z dz lz s hz hlz h3 h4 => ⟨z, rfl, ?_⟩⟩
  exact k H' z s hz ⟨_, _, _, dz, lz, false, .non, h3, h4, O1.add O2 b1 b2, hr.ne hz, hr.ne hlz⟩
/-- x.later(n) -/
theorem cv_later {H : Hp} {r x : Addr} {F : Int → Int} {N n : Nat} {Q : VK} {E : XK} (h : CvR A H r x F N) (hr : Rng H r) (hn : n ≤ 100) (hN : N ≤ 400)
    (k : ∀ H' z, Same H H' → H z = none → CvR A H' r z (laterF F n) (N + 100) → Q (.ref z) H') : sp_C_later K A [.ref x, .int n] H Q E := by
  obtain ⟨cs, p, g, C, O⟩ := h.crv
  have := O.n
  exact ⟨x, cs, p, g, n, rfl, C, O.p0, O.pn, by omega, hn, fun H' y dx l' s hy hl h1 h2 => k H' y s hy ⟨_, _, _, dx, l', false, .non, h1, h2, O.later hn, hr.ne hy, hr.ne hl⟩⟩
/-- x == y -/
theorem cv_eq (T : Txt K mg A) {H : Hp} {r x y : Addr} {F1 F2 : Int → Int} {N1 N2 : Nat} {Q : VK} {E : XK} (h1 : CvR A H r x F1 N1) (h2 : CvR A H r y F2 N2) (e : ∀ t : Int, 0 ≤ t → F1 t = F2 t) (k : Q (.bl true) H) : VN.rOwn K A.Curve (sp_C_eq K A) E (.ref x) (.ref y) H Q := by
  obtain ⟨c1, p1, g1, C1, O1⟩ := h1.crv
  obtain ⟨c2, p2, g2, C2, O2⟩ := h2.crv
  obtain ⟨rfl, rfl, rfl⟩ := O1.uniq O2 e
  refine own_eq T C1 C2 ?_
  rw [same3]
  exact k
/-- x.at_most(y) -/
theorem cv_most {H : Hp} {r x y : Addr} {F1 F2 : Int → Int} {N1 N2 : Nat} {Q : VK} {E : XK} (h1 : CvR A H r x F1 N1) (h2 : CvR A H r y F2 N2) (b1 : N1 ≤ 900) (b2 : N2 ≤ 900)
    (k : ∀ H' b, Same H H' → (b = true ↔ ∀ t : Int, 1 ≤ t → F1 t ≤ F2 t) → Q (.bl b) H') : sp_C_at_most K A [.ref x, .ref y] H Q E := by
  obtain ⟨c1, p1, g1, C1, O1⟩ := h1.crv
  obtain ⟨c2, p2, g2, C2, O2⟩ := h2.crv
  have := O1.n
  have := O2.n
  refine ⟨x, y, c1, c2, p1, g1, p2, g2, rfl, C1, C2, O1.p0, O1.pn, by omega, O2.p0, O2.pn, by omega, fun H' s => k H' _ s ?_⟩
  rw [am_iff O1.rep O2.rep O1.p0 O1.pn O2.p0 O2.pn]
  exact ⟨fun h t ht => by rw [← O1.eq t (by omega), ← O2.eq t (by omega)]; exact h t ht, fun h t ht => by rw [O1.eq t (by omega), O2.eq t (by omega)]; exact h t ht⟩
end
end VK
namespace VK
open PySem PySem.Spec PyProof.Rows L2 VM
theorem cv_mono {xs : List Int} {p g : Int} (R : OkRow xs p g) : ∀ d k : Nat, cvAt xs p g k ≤ cvAt xs p g ((k + d : Nat) : Int) := fun d k => by
  have p0 : 0 < p := by rcases R.per with h | h | h | h | h | h <;> omega
  have U := up_cv p0 R.pn (R.lo 0 (by have := R.l1; omega)) R.up R.last
  induction d with
  | zero => exact Int.le_refl _
  | succ d ih =>
    rw [show ((k + (d + 1) : Nat) : Int) = ((k + d : Nat) : Int) + 1 by omega]
    refine Int.le_trans ih ?_
    by_cases z : k + d = 0
    · rw [z, show ((0 : Nat) : Int) = 0 from rfl, cvAt_zero]
      exact U.one
    · exact U.up (k + d) (by omega)
theorem OkRow.form {xs : List Int} {p g : Int} (R : OkRow xs p g) : OkRow (formV xs p g) (formP xs p g).1 (formP xs p g).2 := by
  have pp : 0 < p ∧ p ≤ 12 := by rcases R.per with h | h | h | h | h | h <;> omega
  have pn := R.pn
  have xn := R.l2
  obtain ⟨f1, f2, f3, f4, f5⟩ := form_spec (vs := xs) (g := g) pp.1 pn
  have RF := fm_rep (g := g) pp.1 pn
  have dv := (fm_least (g := g) pp.1 pn).1
  have per := per6_dvd f1 (show per6 p from R.per) dv
  have mono := cv_mono R
  have get : ∀ i, i < (formV xs p g).length → (formV xs p g).getD i 0 = cvAt xs p g ((i : Int) + 1) := fun i hi => form_get hi
  have R0 := Rep.cvAt (g := g) pp.1 pn
  have eG : g = (formP xs p g).2 * (p / (formP xs p g).1) := rep_gain R0 (RF.mul f1 dv pp.1 (show ((formV xs p g).length : Int) - (formP xs p g).1 + p ≤ xs.length + 12 by omega))
  have q1 : 1 ≤ p / (formP xs p g).1 := by
    have := Int.ediv_mul_cancel dv
    by_cases z : 1 ≤ p / (formP xs p g).1
    · exact z
    · have a : p / (formP xs p g).1 ≤ 0 := by omega
      have := Int.mul_le_mul_of_nonneg_right a (show 0 ≤ (formP xs p g).1 by omega)
      omega
  have g1 := R.g1
  have hi := R.hi
  generalize formV xs p g = ys at *
  generalize (formP xs p g).1 = q at *
  generalize (formP xs p g).2 = e at *
  have last := RF ((ys.length : Int) + 1) (by omega)
  have m1 := mono q.toNat (ys.length + 1 - q.toNat)
  rw [show ((ys.length + 1 - q.toNat : Nat) : Int) = (ys.length : Int) + 1 - q by omega, show ((ys.length + 1 - q.toNat + q.toNat : Nat) : Int) = (ys.length : Int) + 1 by omega] at m1
  have m2 := mono 1 ys.length
  rw [show ((ys.length + 1 : Nat) : Int) = (ys.length : Int) + 1 by omega] at m2
  have e0 : 0 ≤ e := by omega
  have eg : e ≤ g := by
    have := Int.mul_le_mul_of_nonneg_left q1 e0
    omega
  refine ⟨by omega, by omega, fun i hi2 => ?_, fun i hi2 => ?_, fun i hi2 => ?_, per, f3, e0, by omega, ?_⟩
  · rw [get i hi2]
    have := mono (i + 1) 0
    rw [show ((0 + (i + 1) : Nat) : Int) = (i : Int) + 1 by omega, show ((0 : Nat) : Int) = 0 from rfl, cvAt_zero] at this
    exact this
  · rw [get i hi2, cvAt_in (by omega) (by omega), show ((i : Int) + 1 - 1).toNat = i by omega]
    exact hi i (by omega)
  · rw [get i (by omega), get (i + 1) hi2]
    have := mono 1 (i + 1)
    rw [show ((i + 1 : Nat) : Int) = (i : Int) + 1 by omega] at this ⊢
    rw [show ((i + 1 + 1 : Nat) : Int) = (i : Int) + 1 + 1 by omega] at this
    exact this
  · rw [get _ (by omega), get _ (by omega)]
    rw [show ((ys.length - 1 : Nat) : Int) + 1 = ys.length by omega, show ((ys.length - q.toNat : Nat) : Int) + 1 = (ys.length : Int) + 1 - q by omega]
    omega
theorem okRow_of {xs : List Int} {p g : Int} (N : Nr xs p g) : OkRow xs p g := by
  have n2 := N.n2
  have g_ := N.g_
  exact ⟨N.n1, by omega, fun i h => (N.vs i h).1, fun i h => by have := (N.vs i h).2; omega, fun i h => (N.st i h).1, by rcases N.per with h | h | h | h | h <;> omega, N.pn, g_.1, by omega, N.wr.1⟩
/-- a made curve with its values -/
structure Md (A : Ad) (H : Hp) (r y : Addr) (e1 e2 s : Int) (x lv : Addr) (F : Int → Int) : Prop where
  tup : H y = some (.tup [.ref x, .ref lv])
  lst : H lv = some (.lst ((vals F 900).map V.int))
  cv : CvR A H r x F 124
  fit : Fit e1 e2 s F
  z : F 0 = 0
  b : ∀ t : Int, 0 ≤ t → t ≤ 500 → 0 ≤ F t ∧ F t ≤ 10 ^ 9
  ny : y ≠ r
  nl : lv ≠ r
theorem Md.ext {A : Ad} {H H' : Hp} {r y x lv : Addr} {e1 e2 s : Int} {F : Int → Int} (h : Md A H r y e1 e2 s x lv F) (e : Ext r H H') : Md A H' r y e1 e2 s x lv F :=
  ⟨e.keep _ _ h.ny h.tup, e.keep _ _ h.nl h.lst, h.cv.ext e, h.fit, h.z, h.b, h.ny, h.nl⟩
theorem Md.same {A : Ad} {H H' : Hp} {r y x lv : Addr} {e1 e2 s : Int} {F : Int → Int} (h : Md A H r y e1 e2 s x lv F) (e : Same H H') : Md A H' r y e1 e2 s x lv F :=
  ⟨e _ _ h.tup, e _ _ h.lst, h.cv.same e, h.fit, h.z, h.b, h.ny, h.nl⟩
theorem CvR.more {A : Ad} {H : Hp} {r x : Addr} {F : Int → Int} {N M : Nat} (h : CvR A H r x F N) (l : N ≤ M) : CvR A H r x F M := by
  obtain ⟨cs, p, g, dx, l, w, b, h1, h2, h3, h4, h5⟩ := h
  exact ⟨cs, p, g, dx, l, w, b, h1, h2, ⟨h3.p0, h3.pd, h3.pn, by have := h3.n; omega, h3.eq, h3.c1, h3.c2⟩, h4, h5⟩
theorem vals_at {f : Int → Int} {n j : Nat} (h : j < n) : ((vals f n).map V.int)[j]? = some (.int (f ((j : Int) + 1))) := by
  rw [List.getElem?_map]
  unfold vals
  rw [List.getElem?_map, List.getElem?_range h]
  rfl
theorem cut_to {xs : List V} {b : Nat} (h : b ≤ xs.length) : cutV xs none (some (b : Int)) = xs.take b := by
  unfold cutV
  rw [HT.sIx_nat, HT.sIx_none, Nat.min_eq_left h]
  rfl
theorem cut_from {x : Int} {ys : List Int} : cutV ((x :: ys).map V.int) (some 1) none = ys.map V.int := by
  unfold cutV
  rw [show (some 1 : Option Int) = some ((1 : Nat) : Int) from rfl, HT.sIx_nat, HT.sIx_none, List.length_map, List.length_cons, Nat.min_eq_left (by omega), List.map_cons, List.drop_succ_cons, List.drop_zero]
  exact List.take_of_length_le (by rw [List.length_map]; omega)
theorem rep_map (n : Nat) (x : Int) : (List.replicate n [V.int x]).flatten = (List.replicate n x).map V.int := by
  induction n with
  | zero => rfl
  | succ n ih => rw [List.replicate_succ, List.flatten_cons, ih, List.replicate_succ, List.map_cons]; rfl
theorem cut_win {us : List Int} {s k : Nat} (h : s + k ≤ us.length) : cutV (us.map V.int) (some (s : Int)) (some ((s : Int) + k)) = ((us.drop s).take k).map V.int := by
  rw [show (s : Int) + (k : Int) = ((s + k : Nat) : Int) by omega, cut_nat (by rw [List.length_map]; omega) (by rw [List.length_map]; omega), List.map_take, List.map_drop, show s + k - s = k by omega]
theorem cv_zero (t : Int) : cvAt [0] 1 0 t = 0 := by
  unfold cvAt
  split
  · rfl
  · split
    · exact zero_at _
    · rw [zero_at, Int.mul_zero]; rfl
theorem cv_bd {xs : List Int} {p g : Int} (N : Nr xs p g) : ∀ t : Int, 0 ≤ t → t ≤ 500 → 0 ≤ cvAt xs p g t ∧ cvAt xs p g t ≤ 10 ^ 4 := fun t t0 t1 => by
  have := N.bd t.toNat
  rw [Int.toNat_of_nonneg t0] at this
  omega
def sp_l_made (_ : PySem.W.Frag) (A : Ad) : Sp := fun vs H Q _ => ∃ (r t l : Addr) (xs : List Int) (p g e1 e2 e : Int), vs = [.ref r, .ref t] ∧ Rng H r ∧ RowH H t l xs p g ∧ t ≠ r ∧ l ≠ r ∧ Nr xs p g ∧ 3 ≤ stp p ∧ (e = e1 ∨ e = e2) ∧ off (cvAt xs p g) (gn p g) = e ∧
  ∀ H' y x lv F, Ext r H H' → Md A H' r y e1 e2 (stp p) x lv F → Q (.ref y) H'
section
variable {P : Program} {w : World} {K : PySem.W.Frag} {mg : Str → Option Value} {base : Heap} {A : Ad}
theorem ok_l_made (T : Txt K mg A) : FnOk P w K mg base CX0 9 A.f_l_made A.d_l_made ["_law_rng_here", "_law_row"] (sp_l_made K A) := by
  have G_C_add := ok_C_add (P := P) (w := w) (base := base) T
  have G_C_first_values := ok_C_first_values (P := P) (w := w) (base := base) T
  have G_C_gain := ok_C_gain (P := P) (w := w) (base := base) T
  have G_C_init := ok_C_init (P := P) (w := w) (base := base) T
  have G_C_later := ok_C_later (P := P) (w := w) (base := base) T
  have G_C_of_pieces := ok_C_of_pieces (P := P) (w := w) (base := base) T
  have G_C_period := ok_C_period (P := P) (w := w) (base := base) T
  have G_l_choice := ok_l_choice (P := P) (w := w) (base := base) T
  have G_l_draw := ok_l_draw (P := P) (w := w) (base := base) T
  have G_l_line := ok_l_line (P := P) (w := w) (base := base) T
  have G_l_values := ok_l_values (P := P) (w := w) (base := base) T
  have G_l_written := ok_l_written (P := P) (w := w) (base := base) T
  have G_tightest := ok_tightest (P := P) (w := w) (base := base) T
  have G_C_add := ok_C_add (P := P) (w := w) (base := base) T
  obtain ⟨mv1, kb_Curve_period_gain⟩ := kb_init2 T
  obtain ⟨dc, hvC, hbC⟩ := db_cinit T
  refine T.F_l_made.ok sc_l_made (fun vs H Q E h => ?_) (fun cdv A0 outer s H vs Q E hr h => ?_)
  · obtain ⟨r, t, l, xs, p, g, e1, e2, e, rfl, hr0, R, nt, nl, N, s3, he, ho, k⟩ := h
    rfl
  · obtain ⟨r, t, l, xs, p, g, e1, e2, e, rfl, hr0, R, nt, nl, N, s3, he, ho, k⟩ := h
    refine ⟨_, (pss_cons (ps_set (i := 2) sc_l_made.nd rfl (by first | exact Or.inl rfl | exact Or.inr rfl) (pe_call G_l_draw (hr.mono (by decide)) rfl T.m_l_draw T.k_l_draw T.b_l_draw .nil pass0 (pa_cons (pv 0) (pa_cons pe_int pa_nil))))
    (pss_cons (ps_set (i := 3) sc_l_made.nd rfl (by first | exact Or.inl rfl | exact Or.inr rfl) (pe_call G_l_values (hr.mono (by decide)) rfl T.m_l_values T.k_l_values T.b_l_values .nil pass0 (pa_cons (pv 1) (pa_cons pe_int pa_nil))))
    (pss_cons (ps_set (i := 4) sc_l_made.nd rfl (by first | exact Or.inl rfl | exact Or.inr rfl) (pe_makeK (n := 1) T.M_Curve G_C_init (hr.mono (by decide)) rfl T.m_Curve kb_Curve_period_gain pass0 (pa_cons (pe_ix (r := rIxT K) ix_tup (pv 1) pe_int (fun _ _ => rfl)) pa_nil) (pk_cons (pe_ix (r := rIxT K) ix_tup (pv 1) pe_int (fun _ _ => rfl)) (pk_cons (pe_ix (r := rIxT K) ix_tup (pv 1) pe_int (fun _ _ => rfl)) pk_nil))))
    (pss_cons (ps_if (pt_cmpR op_eq (pv 2) pe_int (nomark _)) (pss_one (ps_ret (pe_tup (pa_cons (pe_makeK (n := 1) T.M_Curve G_C_init (hr.mono (by decide)) rfl T.m_Curve kb_Curve_period_gain pass0 (pa_cons (pe_meth0 (pv 4) T.cl T.me_first_values G_C_first_values (hr.mono (by decide)) T.b_C_first_values .nil pass0) pa_nil) (pk_cons (pe_prop (pv 4) T.cl T.pr_C_period G_C_period (hr.mono (by decide)) T.b_C_period .nil pass0 rfl) (pk_cons (pe_prop (pv 4) T.cl T.pr_C_gain G_C_gain (hr.mono (by decide)) T.b_C_gain .nil pass0 rfl) pk_nil))) (pa_cons (pv 3) pa_nil))))) pss_nil)
    (pss_cons (ps_if (pt_cmpR op_eq (pv 2) pe_int (nomark _)) (pss_cons (ps_set (i := 5) sc_l_made.nd rfl (by first | exact Or.inl rfl | exact Or.inr rfl) (pe_call G_l_draw (hr.mono (by decide)) rfl T.m_l_draw T.k_l_draw T.b_l_draw .nil pass0 (pa_cons (pv 0) (pa_cons pe_int pa_nil))))
    (pss_one (ps_ret (pe_tup (pa_cons (pe_meth (pv 4) T.cl T.me_later G_C_later (hr.mono (by decide)) T.b_C_later .nil pass0 (pa_cons (pv 5) pa_nil)) (pa_cons (pe_slice (r := rSlL K) sl_list (pe_op op_cat (pe_op op_rep (pe_lst (pa_cons pe_int pa_nil)) (pv 5)) (pv 3)) po_none (po_some pe_int)) pa_nil)))))) pss_nil)
    (pss_cons (ps_if (pt_cmpR op_eq (pv 2) pe_int (nomark _)) (pss_one (ps_ret (pe_tup (pa_cons (pe_op (VO.op_addOwn (C := A.Curve) G_C_add (hr.mono (by decide)) T.me___add__ T.sf_Curve T.b_C_add pass0) (pv 4) (pe_make T.M_Curve G_C_init (hr.mono (by decide)) rfl T.m_Curve hbC hvC pass0 (pa_cons (pe_lst (pa_cons pe_int pa_nil)) pa_nil))) (pa_cons (pv 3) pa_nil))))) pss_nil)
    (pss_cons (ps_if (pt_cmpR op_eq (pv 2) pe_int (nomark _)) (pss_cons (ps_set (i := 6) sc_l_made.nd rfl (by first | exact Or.inl rfl | exact Or.inr rfl) (pe_call G_l_written (hr.mono (by decide)) rfl T.m_l_written T.k_l_written T.b_l_written .nil pass0 (pa_cons (pv 0) pa_nil)))
    (pss_cons (ps_setLc (i := 7) (own := [("_law_one", 15), ("_law_two", 16)]) (g := gTup K 2 (gCons (gName 15) (gCons (gName 16) gNil))) (tt := tYes) rfl sc_l_made.nd rfl rfl (sw_true rfl rfl rfl (by decide +kernel)) (pi_zip (by rfl) T.zip (pa_cons (pv 3) (pa_cons (pe_call G_l_values (hr.mono (by decide)) rfl T.m_l_values T.k_l_values T.b_l_values .nil pass0 (pa_cons (pv 6) (pa_cons pe_int pa_nil))) pa_nil))) (blkOk_by (own := [("_law_one", 15), ("_law_two", 16)]) (N := ["_law_rng_here", "_law_row", "_law_way", "_law_due", "_law_plain", "_law_late", "_law_other", "_law_both", "_law_pieces", "_law_k", "_law_found", "_law_record", "_law_many", "_law_best", "_law_span", "_law_one", "_law_two", "_law_piece", "_law_start"]) (sc := defScope s_l_made) (by decide +kernel)) (fun _ _ _ _ _ => pg_tup rfl (pgs_cons (pg_name (i := 15) sc_l_made.nd rfl (by first | exact Or.inl rfl | exact Or.inr rfl)) (pgs_cons (pg_name (i := 16) sc_l_made.nd rfl (by first | exact Or.inl rfl | exact Or.inr rfl)) pgs_nil))) (fun _ _ _ _ _ => pts_nil) (fun _ _ _ _ _ => (pe_op op_add (pv 15) (pv 16))))
    (pss_one (ps_ret (pe_tup (pa_cons (pe_op (VO.op_addOwn (C := A.Curve) G_C_add (hr.mono (by decide)) T.me___add__ T.sf_Curve T.b_C_add pass0) (pe_makeK (n := 1) T.M_Curve G_C_init (hr.mono (by decide)) rfl T.m_Curve kb_Curve_period_gain pass0 (pa_cons (pe_ix (r := rIxT K) ix_tup (pv 6) pe_int (fun _ _ => rfl)) pa_nil) (pk_cons (pe_ix (r := rIxT K) ix_tup (pv 6) pe_int (fun _ _ => rfl)) (pk_cons (pe_ix (r := rIxT K) ix_tup (pv 6) pe_int (fun _ _ => rfl)) pk_nil))) (pv 4)) (pa_cons (pv 7) pa_nil))))))) pss_nil)
    (pss_cons (ps_if (pt_cmpR op_eq (pv 2) pe_int (nomark _)) (pss_cons (ps_set (i := 8) sc_l_made.nd rfl (by first | exact Or.inl rfl | exact Or.inr rfl) (pe_lst pa_nil))
    (pss_cons (ps_for PassesOwn.never rfl (pi_range1 rfl T.range (pa_cons pe_int pa_nil)) (pg_name (i := 9) sc_l_made.nd rfl (by first | exact Or.inl rfl | exact Or.inr rfl))
      (pss_one (ps_expr (pe_bm PySem.F.plainAttrs_list PySem.F.slot_list_append PySem.F.type_list_append mt_append (pv 8) (pa_cons (pe_tup (pa_cons (pe_call G_l_draw (hr.mono (by decide)) rfl T.m_l_draw T.k_l_draw T.b_l_draw .nil pass0 (pa_cons (pv 0) (pa_cons pe_int pa_nil))) (pa_cons (pe_call G_l_draw (hr.mono (by decide)) rfl T.m_l_draw T.k_l_draw T.b_l_draw .nil pass0 (pa_cons (pv 0) (pa_cons pe_int pa_nil))) (pa_cons (pe_call G_l_choice (hr.mono (by decide)) rfl T.m_l_choice T.k_l_choice T.b_l_choice .nil pass0 (pa_cons (pv 0) (pa_cons (pe_lst (pa_cons pe_int (pa_cons pe_int (pa_cons pe_int pa_nil)))) pa_nil))) pa_nil)))) pa_nil)))))
    (pss_cons (ps_set (i := 10) sc_l_made.nd rfl (by first | exact Or.inl rfl | exact Or.inr rfl) (ClX.pe_cmeth (pe_glob (v := .ref A.Curve) rfl T.m_Curve rfl) T.rd_Curve T.cm_of_pieces G_C_of_pieces (hr.mono (by decide)) pass0 (pa_cons (pe_ix (r := rIxL K) ix_list (pv 8) pe_int (fun _ _ => rfl)) (pa_cons (pe_ix (r := rIxL K) ix_list (pv 8) pe_int (fun _ _ => rfl)) pa_nil))))
    (pss_one (ps_ret (pe_tup (pa_cons (pv 10) (pa_cons (pe_lc (own := [("_law_span", 14)]) (g := gName 14) (tt := tYes) rfl sc_l_made.nd (pi_range2 rfl T.range (pa_cons pe_int (pa_cons pe_int pa_nil))) (blkOk_by (own := [("_law_span", 14)]) (N := ["_law_rng_here", "_law_row", "_law_way", "_law_due", "_law_plain", "_law_late", "_law_other", "_law_both", "_law_pieces", "_law_k", "_law_found", "_law_record", "_law_many", "_law_best", "_law_span", "_law_one", "_law_two", "_law_piece", "_law_start"]) (sc := defScope s_l_made) (by decide +kernel)) (fun _ _ _ _ _ => pg_name (i := 14) sc_l_made.nd rfl (by first | exact Or.inl rfl | exact Or.inr rfl)) (fun _ _ _ _ _ => pts_nil) (fun _ _ _ _ _ => (pe_callB (r := rMin K) (cr_min rfl) (by rfl) T.min (by decide +kernel) (pa_cons (pe_lc (own := [("_law_piece", 17)]) (g := gName 17) (tt := tYes) rfl sc_l_made.nd (VP.pi_listK (K' := K) (pv 8) rfl) (blkOk_by (own := [("_law_piece", 17)]) (N := ["_law_rng_here", "_law_row", "_law_way", "_law_due", "_law_plain", "_law_late", "_law_other", "_law_both", "_law_pieces", "_law_k", "_law_found", "_law_record", "_law_many", "_law_best", "_law_span", "_law_one", "_law_two", "_law_piece", "_law_start"]) (sc := { kind := .function, names := [(".0", .local), ("_law_span", .cell), ("min", .globalImplicit), ("_law_pieces", .cell)], isGenerator := false, isCoroutine := false }) (by decide +kernel)) (fun _ _ _ _ _ => pg_name (i := 17) sc_l_made.nd rfl (by first | exact Or.inl rfl | exact Or.inr rfl)) (fun _ _ _ _ _ => pts_nil) (fun _ _ _ _ _ => (pe_call G_l_line (hr.mono (by decide)) rfl T.m_l_line T.k_l_line T.b_l_line .nil pass0 (pa_cons (pv 17) (pa_cons (pv 14) pa_nil))))) pa_nil)))) pa_nil)))))))) pss_nil)
    (pss_cons (ps_if (pt_cmpR op_eq (pv 2) pe_int (nomark _)) (pss_cons (ps_set (i := 11) sc_l_made.nd rfl (by first | exact Or.inl rfl | exact Or.inr rfl) (pe_lc (own := [("_law_k", 9)]) (g := gName 9) (tt := tYes) rfl sc_l_made.nd (pi_range1 rfl T.range (pa_cons (pe_call G_l_draw (hr.mono (by decide)) rfl T.m_l_draw T.k_l_draw T.b_l_draw .nil pass0 (pa_cons (pv 0) (pa_cons pe_int pa_nil))) pa_nil)) (blkOk_by (own := [("_law_k", 9)]) (N := ["_law_rng_here", "_law_row", "_law_way", "_law_due", "_law_plain", "_law_late", "_law_other", "_law_both", "_law_pieces", "_law_k", "_law_found", "_law_record", "_law_many", "_law_best", "_law_span", "_law_one", "_law_two", "_law_piece", "_law_start"]) (sc := defScope s_l_made) (by decide +kernel)) (fun _ _ _ _ _ => pg_name (i := 9) sc_l_made.nd rfl (by first | exact Or.inl rfl | exact Or.inr rfl)) (fun _ _ _ _ _ => pts_nil) (fun _ _ _ _ _ => (pe_call G_l_draw (hr.mono (by decide)) rfl T.m_l_draw T.k_l_draw T.b_l_draw .nil pass0 (pa_cons (pv 0) (pa_cons pe_int pa_nil))))))
    (pss_cons (ps_set (i := 12) sc_l_made.nd rfl (by first | exact Or.inl rfl | exact Or.inr rfl) (pe_callB (r := VG.rLen K) VG.call_len (by rfl) T.len (by decide +kernel) (pa_cons (pv 11) pa_nil)))
    (pss_cons (ps_set (i := 13) sc_l_made.nd rfl (by first | exact Or.inl rfl | exact Or.inr rfl) (pe_lst (pa_cons pe_int pa_nil)))
    (pss_cons (ps_for PassesOwn.never rfl (pi_range2 rfl T.range (pa_cons pe_int (pa_cons (pe_op op_add (pv 12) pe_int) pa_nil))) (pg_name (i := 14) sc_l_made.nd rfl (by first | exact Or.inl rfl | exact Or.inr rfl))
      (pss_one (ps_expr (pe_bm PySem.F.plainAttrs_list PySem.F.slot_list_append PySem.F.type_list_append mt_append (pv 13) (pa_cons (pe_callB (r := rMax K) (cr_max rfl) (by rfl) T.max (by decide +kernel) (pa_cons (pe_lc (own := [("_law_start", 18)]) (g := gName 18) (tt := tYes) rfl sc_l_made.nd (pi_range1 rfl T.range (pa_cons (pe_op op_add (pe_op op_sub (pv 12) (pv 14)) pe_int) pa_nil)) (blkOk_by (own := [("_law_start", 18)]) (N := ["_law_rng_here", "_law_row", "_law_way", "_law_due", "_law_plain", "_law_late", "_law_other", "_law_both", "_law_pieces", "_law_k", "_law_found", "_law_record", "_law_many", "_law_best", "_law_span", "_law_one", "_law_two", "_law_piece", "_law_start"]) (sc := defScope s_l_made) (by decide +kernel)) (fun _ _ _ _ _ => pg_name (i := 18) sc_l_made.nd rfl (by first | exact Or.inl rfl | exact Or.inr rfl)) (fun _ _ _ _ _ => pts_nil) (fun _ _ _ _ _ => (pe_callB (r := rSum K) (cr_sum rfl) (by rfl) T.sum (by decide +kernel) (pa_cons (pe_slice (r := rSlL K) sl_list (pv 11) (po_some (pv 18)) (po_some (pe_op op_add (pv 18) (pv 14)))) pa_nil)))) pa_nil)) pa_nil)))))
    (pss_one (ps_ret (pe_tup (pa_cons (pe_call G_tightest (hr.mono (by decide)) rfl T.m_tightest T.k_tightest T.b_tightest .nil pass0 (pa_cons (pv 11) pa_nil)) (pa_cons (pe_slice (r := rSlL K) sl_list (pe_op op_cat (pe_slice (r := rSlL K) sl_list (pv 13) (po_some pe_int) po_none) (pe_op op_rep (pe_lst (pa_cons (pe_ix (r := rIxL K) ix_list (pv 13) (pe_un un_neg pe_int) (fun _ _ => rfl)) pa_nil)) pe_int)) po_none (po_some pe_int)) pa_nil))))))))) pss_nil)
    (pss_one (ps_ret (pe_tup (pa_cons (pv 4) (pa_cons (pv 3) pa_nil)))))))))))))), ?_⟩
    refine ⟨_, rfl, r, _, rfl, hr0, by decide, by decide, fun H1 d e1_ d0 d1 => ?_⟩
    have R1 : RowH H1 t l xs p g := ⟨e1_.keep _ _ nt R.1, e1_.keep _ _ nl R.2⟩
    have p0 := N.p0
    have pn := N.pn
    have n2 := N.n2
    refine ⟨_, rfl, t, l, xs, p, g, 900, rfl, R1, p0.1, pn, by omega, by decide, fun H2 lv s2 hlv hv => ?_⟩
    have R2 := R1.same s2
    have nlv := e1_.rng.ne hlv
    refine ⟨_, rfl, t, _, _, _, rfl, rfl, SqT.of R2.1, rfl, _, rfl, t, _, _, _, rfl, rfl, SqT.of R2.1, rfl, _, rfl, t, _, _, _, rfl, rfl, SqT.of R2.1, rfl, rfl, rfl, fun x dx hx hdx hne => ?_⟩
    refine ⟨x, dx, l, xs, p, g, rfl, upd_same, SqL.of (show upd _ x _ l = some (.lst (xs.map V.int)) by rw [upd_ne (ne_of_none R2.2 hx), upd_ne (ne_of_none R2.2 hdx)]; exact R2.2), (okRow_of N), fun H3 dxc lc keep hlc c1 c2 => ⟨rfl, ?_⟩⟩
    have s3_ := make_same hx hdx keep
    have e3 := (e1_.same s2).same s3_
    have X : CvR A H3 r x (cvAt xs p g) 24 := ⟨_, _, _, dxc, lc, false, .non, c1, c2, CFo.row (okRow_of N), (e1_.same s2).rng.ne hx, (e1_.same s2).rng.ne ((Same.upd (Same.upd (Same.refl _) hdx) hx).free hlc)⟩
    have hv3 := s3_ _ _ hv
    have R3 := R2.same s3_
    have bd := cv_bd N
    have fin : ∀ (H4 : Hp) (z v : Addr) (F : Int → Int), Ext r H H4 → H4 v = some (.lst ((vals F 900).map V.int)) → v ≠ r → CvR A H4 r z F 124 → Fit e1 e2 (stp p) F → F 0 = 0 → (∀ t : Int, 0 ≤ t → t ≤ 500 → 0 ≤ F t ∧ F t ≤ 10 ^ 9) →
        ∀ u : Addr, H4 u = none → Q (.ref u) (upd H4 u (.tup [.ref z, .ref v])) := fun H4 z v F e4 hv nv C ft f0 fb u hu =>
      k _ u z v F (e4.new hu) ⟨upd_same, by rw [upd_ne (ne_of_none hv hu)]; exact hv, C.same (Same.upd (Same.refl _) hu), ft, f0, fb, e4.rng.ne hu, nv⟩
    clear keep hlc hx hdx hne s3_ R2 R1 R s2 hv
    refine ⟨_, rfl, rfl, _, rfl, ifEq (fun c => ?_) (fun c => ?_)⟩
    · have C0 : CrvAt A H3 x (formV xs p g) (formP xs p g).1 (formP xs p g).2 := ⟨dxc, lc, false, .non, c1, c2⟩
      refine ⟨_, rfl, x, dxc, _, rfl, c1, cfs_no _ _ _ (by decide +kernel) (by decide +kernel) (by decide +kernel), x, _, _, _, rfl, C0, fun H4 q s4 hq0 hq => ?_⟩
      have c14 := s4 _ _ c1
      refine ⟨_, rfl, x, dxc, _, rfl, c14, x, _, _, _, rfl, C0.same s4, _, rfl, x, dxc, _, rfl, c14, x, _, _, _, rfl, C0.same s4, rfl, rfl, fun x2 dx2 hx hdx hne => ?_⟩
      refine ⟨x2, dx2, q, _, _, _, rfl, upd_same, SqL.of (show upd _ x2 _ q = some (.lst ((formV xs p g).map V.int)) by rw [upd_ne (ne_of_none hq hx), upd_ne (ne_of_none hq hdx)]; exact hq), (okRow_of N).form, fun H5 dxd ld keep hld d1 d2 => ⟨rfl, ?_⟩⟩
      have s5 := make_same hx hdx keep
      have s35 := s4.trans s5
      have X2 : CvR A H5 r x2 (cvAt xs p g) 24 := (show CvR A H5 r x2 (cvAt (formV xs p g) (formP xs p g).1 (formP xs p g).2) 24 from ⟨_, _, _, dxd, ld, false, .non, d1, d2, CFo.row (okRow_of N).form, (e3.same s4).rng.ne hx, (e3.same s4).rng.ne ((Same.upd (Same.upd (Same.refl _) hdx) hx).free hld)⟩).fn fun t ht => (form_spec (g := g) p0.1 pn).2.2.2.2 t ht
      refine ⟨_, rfl, (by show 2 ≤ sizeLine; decide), fun u hu => ?_⟩
      exact fin _ _ _ _ (e3.same s35) (s35 _ _ hv3) nlv (X2.more (by decide)) (Fit.row N s3 he ho) cvAt_zero (fun t t0 t1 => by have := bd t t0 t1; omega) u hu
    refine ⟨_, rfl, rfl, _, rfl, ifEq (fun c => ?_) (fun c => ?_)⟩
    · refine ⟨_, rfl, r, _, rfl, e3.rng, by decide, by decide, fun H4 n_ e4 n0 n1 => ?_⟩
      obtain ⟨n, rfl⟩ : ∃ n : Nat, n_ = (n : Int) := ⟨n_.toNat, by omega⟩
      have X4 := X.ext e4
      obtain ⟨dx4, l4, p4, g4, w4, b4, hx4⟩ := X4.ins
      have hv4 := e4.keep _ _ nlv hv3
      refine ⟨_, rfl, x, dx4, _, rfl, hx4, cfs_no _ _ _ (by decide +kernel) (by decide +kernel) (by decide +kernel), _, rfl, ?_⟩
      try delta tNil
      refine cv_later X4 e4.rng (n := n) (by omega) (by decide) fun H5 z s5 hz Z => ?_
      refine ⟨(by show 1 ≤ sizeLine; decide), fun q hq => ?_⟩
      have t1 := Same.upd (o := .lst [.int 0]) (Same.refl H5) hq
      refine ⟨_, rfl, q, _, _, rfl, rfl, upd_same, by omega, by omega, (by show 1 * _ ≤ sizeLine; rw [sizeLine_eq]; omega), fun q2 hq2 => ?_⟩
      have t2 := t1.trans (Same.upd (o := .lst (List.replicate (n : Int).toNat [V.int 0]).flatten) (Same.refl _) hq2)
      have ez : (List.replicate (n : Int).toNat [V.int 0]).flatten = (List.replicate n (0 : Int)).map V.int := by rw [Int.toNat_natCast, zeros_map]
      refine ⟨_, rfl, q2, lv, _, _, rfl, rfl, upd_same, t2 _ _ (s5 _ _ hv4), (by rw [ez, List.length_map, List.length_map, List.length_replicate, vals_length, sizeLine_eq]; omega), fun q3 hq3 => ?_⟩
      have t3 := t2.trans (Same.upd (o := .lst ((List.replicate (n : Int).toNat [V.int 0]).flatten ++ (vals (cvAt xs p g) 900).map V.int)) (Same.refl _) hq3)
      refine ⟨_, rfl, q3, _, rfl, SqL.of upd_same, fun q4 hq4 => ?_⟩
      rw [show (some 900 : Option Int) = some ((900 : Nat) : Int) from rfl, cut_to (by rw [List.length_append, List.length_map, vals_length]; omega)]
      rw [show ((List.replicate (n : Int).toNat [V.int 0]).flatten ++ (vals (cvAt xs p g) 900).map V.int).take 900 = (vals (laterF (cvAt xs p g) n) 900).map V.int by
        rw [ez, ← List.map_append, later_vals, ← List.map_take, vals_take (by omega)]] at *
      have t4 := t3.trans (Same.upd (o := .lst ((vals (laterF (cvAt xs p g) n) 900).map V.int)) (Same.refl _) hq4)
      refine ⟨(by show 2 ≤ sizeLine; decide), fun u hu => ?_⟩
      have e5 := (e3.trans e4).same (s5.trans t4)
      exact fin _ _ _ _ e5 upd_same (((e3.trans e4).same (s5.trans t3)).rng.ne hq4) (Z.same t4) (Fit.late N s3 he ho (by omega)) (later_zero (by omega)) (fun t t0 t1 => by
        unfold laterF
        by_cases c : t ≤ n
        · rw [if_pos c]; decide
        · rw [if_neg c]; have := bd (t - n) (by omega) (by omega); omega) u hu
    refine ⟨_, rfl, rfl, _, rfl, ifEq (fun c => ?_) (fun c => ?_)⟩
    · refine ⟨_, rfl, (by show 1 ≤ sizeLine; decide), fun q hq => fun x2 dx2 hx hdx hne => ⟨x2, dx2, q, [0], 1, 0, rfl, upd_same, SqL.of ?_, ok_zero, fun H5 dxd ld keep hld d1 d2 => ⟨rfl, ?_⟩⟩⟩
      · rw [upd_ne (ne_of_none upd_same hx), upd_ne (ne_of_none upd_same hdx)]; exact upd_same
      have s0 := Same.upd (o := .lst [.int 0]) (Same.refl H3) hq
      have s5 := s0.trans (make_same hx hdx keep)
      have e4 := e3.same s0
      have Z0 : CvR A H5 r x2 (cvAt [0] 1 0) 24 := ⟨_, _, _, dxd, ld, false, .non, d1, d2, CFo.row ok_zero, e4.rng.ne hx, e4.rng.ne ((Same.upd (Same.upd (Same.refl _) hdx) hx).free hld)⟩
      refine cv_add (X.same s5) Z0 (e3.same s5).rng (N := 36) (by decide) (by decide) (by decide) fun H6 z s6 hz Z => ?_
      refine ⟨_, rfl, (by show 2 ≤ sizeLine; decide), fun u hu => ?_⟩
      exact fin _ _ _ _ (e3.same (s5.trans s6)) ((s5.trans s6) _ _ hv3) nlv ((Z.fn fun t _ => by rw [cv_zero]; omega).more (by decide)) (Fit.row N s3 he ho) cvAt_zero (fun t t0 t1 => by have := bd t t0 t1; omega) u hu
    refine ⟨_, rfl, rfl, _, rfl, ifEq (fun c => ?_) (fun c => ?_)⟩
    · refine ⟨_, rfl, r, rfl, e3.rng, fun H4 t2 l2 ys q h e4 ht2 hl2 RO DO => ?_⟩
      have nt2 := e3.rng.ne ht2
      have nl2 := e3.rng.ne hl2
      have hv4 := e4.keep _ _ nlv hv3
      have o0 := DO.nr.p0
      have on := DO.pn
      have o2 := DO.n2
      refine ⟨_, rfl, _, rfl, t2, l2, ys, q, h, 900, rfl, RO, o0.1, on, by omega, by decide, fun H5 lo s5 hlo ho5 => ?_⟩
      refine ⟨lv, lo, _, _, rfl, SqL.of (s5 _ _ hv4), SqL.of ho5, fun B hB => ?_⟩
      refine lc_it (walk_zip (K := K) (a := lv) (b := lo) (xs := (vals (cvAt xs p g) 900).map V.int) (ys := (vals (cvAt ys q h) 900).map V.int) (n := 900) (by rw [List.length_map, List.length_map, vals_length, vals_length]; decide))
        (fun j H' => H' B = some (.lst ((vals (fun t => cvAt ys q h t + cvAt xs p g t) j).map V.int)) ∧ Same H5 H') ⟨upd_same, Same.upd (Same.refl _) hB⟩ (fun j H' _ ⟨_, s⟩ => ⟨s.seq (SqL.of (s5 _ _ hv4)), s.seq (SqL.of ho5)⟩) ?_ ?_
      · rintro j y Hc Hd hj ⟨hB2, sB⟩ ⟨T', a', b', rfl, hT, rfl, ea, eb⟩
        replace ea := (vals_at hj).symm.trans ea
        replace eb := (vals_at hj).symm.trans eb
        cases ea
        cases eb
        have nBT : B ≠ T' := ne_of_none hB2 hT
        refine ⟨T', _, rfl, SqT.of upd_same, rfl, _, _, rfl, _, _, rfl, rfl, rfl, _, rfl, _, rfl, _, _, rfl, rfl, _, by rw [upd_ne nBT]; exact hB2, small (by rw [List.length_map, vals_length]; omega), ?_, Same.upd (Same.upd sB (sB.free hT)) hB⟩
        rw [upd_same, vals_more, List.map_append]
        show some (HO.lst (_ ++ [V.int (cvAt xs p g ((j : Int) + 1) + cvAt ys q h ((j : Int) + 1))])) = _
        rw [Int.add_comm (cvAt xs p g ((j : Int) + 1))]
        rfl
      rintro H6 ⟨hB6, s6⟩
      have s46 := s5.trans s6
      have e6 := (e3.trans e4).same s46
      have nB := ((e3.trans e4).same s5).rng.ne hB
      have X6 := (X.ext e4).same s46
      have RO6 := RO.same s46
      refine ⟨_, rfl, t2, _, _, _, rfl, rfl, SqT.of RO6.1, rfl, _, rfl, t2, _, _, _, rfl, rfl, SqT.of RO6.1, rfl, _, rfl, t2, _, _, _, rfl, rfl, SqT.of RO6.1, rfl, rfl, rfl, fun x2 dx2 hx hdx hne => ?_⟩
      refine ⟨x2, dx2, l2, ys, q, h, rfl, upd_same, SqL.of (show upd _ x2 _ l2 = some (.lst (ys.map V.int)) by rw [upd_ne (ne_of_none RO6.2 hx), upd_ne (ne_of_none RO6.2 hdx)]; exact RO6.2), (okRow_of DO.nr), fun H7 dxd ld keep hld d1 d2 => ⟨rfl, ?_⟩⟩
      have s7 := make_same hx hdx keep
      have Z0 : CvR A H7 r x2 (cvAt ys q h) 24 := ⟨_, _, _, dxd, ld, false, .non, d1, d2, CFo.row (okRow_of DO.nr), e6.rng.ne hx, e6.rng.ne ((Same.upd (Same.upd (Same.refl _) hdx) hx).free hld)⟩
      refine ⟨_, rfl, ?_⟩
      refine cv_add Z0 (X6.same s7) (e6.same s7).rng (N := 36) (by decide) (by decide) (by decide) fun H8 z s8 hz Z => ?_
      refine ⟨_, rfl, (by show 2 ≤ sizeLine; decide), fun u hu => ?_⟩
      have bo := cv_bd DO.nr
      exact fin _ _ _ _ (e6.same (s7.trans s8)) ((s7.trans s8) _ _ hB6) nB (Z.more (by decide)) (Fit.sum N DO s3 he ho) (by show cvAt ys q h 0 + cvAt xs p g 0 = 0; rw [cvAt_zero, cvAt_zero]; rfl) (fun t t0 t1 => by have := bd t t0 t1; have := bo t t0 t1; show 0 ≤ cvAt ys q h t + cvAt xs p g t ∧ cvAt ys q h t + cvAt xs p g t ≤ _; omega) u hu
    refine ⟨_, rfl, rfl, _, rfl, ifEq (fun c => ?_) (fun c => ?_)⟩
    · refine ⟨(by show 0 ≤ sizeLine; decide), fun L hL => ?_⟩
      have nL := e3.rng.ne hL
      have LH := e3.free hL
      refine ⟨_, rfl, by decide, by decide, ?_⟩
      refine for_range (lo := 0) (n := 2) (fun i σ H' => ∃ v9, σ = [some (.ref r), some (.ref t), some (.int d), some (.ref lv), some (.ref x), none, none, none, some (.ref L), v9, none, none, none, none, none, none, none, none, none] ∧ Ext r H H' ∧
          ∃ zs : List (Addr × Pc), zs.length = i ∧ H' L = some (.lst (pzV zs)) ∧ ∀ z ∈ zs, z.1 ≠ r ∧ z.1 ≠ L ∧ H' z.1 = some (.tup (pcV z.2)) ∧ PcS z.2)
        ⟨_, rfl, e3.put LH nL, [], rfl, upd_same, fun z h => by cases h⟩ ?_ ?_
      · rintro i σ H4 hi ⟨v9, rfl, e4, zs, zl, hL4, hz⟩
        refine ⟨_, rfl, .inl ⟨rfl, _, SqL.of hL4⟩, ?_⟩
        refine ⟨_, rfl, r, _, rfl, e4.rng, by decide, by decide, fun H5 b0 e5 b1 b2 => ?_⟩
        refine ⟨_, rfl, r, _, rfl, e5.rng, by decide, by decide, fun H6 u0 e6 u1 u2 => ?_⟩
        refine ⟨_, rfl, (by show 3 ≤ sizeLine; decide), fun q hq => ?_⟩
        have s7 := Same.upd (o := .lst [.int 1, .int 2, .int 4]) (Same.refl H6) hq
        refine ⟨r, q, _, rfl, e6.rng.same s7, SqL.of upd_same, e6.rng.ne hq, by decide, by decide, fun H7 v e7 hv => ?_⟩
        obtain ⟨t0, rfl, ht0⟩ : ∃ t0, v = .int t0 ∧ (t0 = 1 ∨ t0 = 2 ∨ t0 = 4) := by
          simp only [List.mem_cons, List.not_mem_nil, or_false] at hv
          rcases hv with rfl | rfl | rfl
          · exact ⟨1, rfl, .inl rfl⟩
          · exact ⟨2, rfl, .inr (.inl rfl)⟩
          · exact ⟨4, rfl, .inr (.inr rfl)⟩
        refine ⟨(by show 3 ≤ sizeLine; decide), fun y hy => ?_⟩
        have e47 : Ext r H4 H7 := ((e5.trans e6).same s7).trans e7
        have hL7 := e47.keep _ _ nL hL4
        have nLy : L ≠ y := ne_of_none hL7 hy
        have e8 := e47.new (o := .tup [.int b0, .int u0, .int t0]) hy
        have hL8 : upd H7 y (.tup [.int b0, .int u0, .int t0]) L = some (.lst (pzV zs)) := by rw [upd_ne nLy]; exact hL7
        have hy8 : upd H7 y (.tup [.int b0, .int u0, .int t0]) y = some (.tup (pcV ⟨b0, u0, t0⟩)) := upd_same
        have ny := e47.rng.ne hy
        generalize upd H7 y (.tup [.int b0, .int u0, .int t0]) = H8 at *
        refine ⟨L, _, _, rfl, rfl, hL8, small (by unfold pzV; rw [List.length_map]; omega), ?_⟩
        refine ⟨_, rfl, (e4.trans e8).put LH nL, zs ++ [(y, ⟨b0, u0, t0⟩)], by rw [List.length_append, zl]; rfl, by rw [upd_same]; unfold pzV; rw [List.map_append]; rfl, fun z h => ?_⟩
        rcases List.mem_append.mp h with h | h
        · obtain ⟨z1, z2, z3, z4⟩ := hz z h
          exact ⟨z1, z2, by rw [upd_ne z2]; exact e8.keep _ _ z1 z3, z4⟩
        · cases List.mem_singleton.mp h
          exact ⟨ny, Ne.symm nLy, by rw [upd_ne (Ne.symm nLy)]; exact hy8, b1, by show b0 ≤ 3; omega, u1, by show u0 ≤ 2; omega, ht0⟩
      rintro σ H4 ⟨v9, rfl, e4, zs, zl, hL4, hz⟩
      obtain ⟨a1, q1, a2, q2, rfl⟩ : ∃ a1 q1 a2 q2, zs = [(a1, q1), (a2, q2)] := match zs, zl with | [(a, b), (c, d)], _ => ⟨a, b, c, d, rfl⟩
      obtain ⟨z11, _, z13, z14⟩ := hz (a1, q1) (by simp)
      obtain ⟨z21, _, z23, z24⟩ := hz (a2, q2) (by simp)
      have PZ : Pz H4 [(a1, q1), (a2, q2)] := ⟨fun z h => (hz z h).2.2.1, fun z h => (hz z h).2.2.2.ok, by simp, by simp⟩
      have hL4' : H4 L = some (.lst [.ref a1, .ref a2]) := hL4
      refine ⟨rfl, _, rfl, L, _, _, _, rfl, rfl, SqL.of hL4', (show atI [V.ref a1, V.ref a2] ((0 : Nat) : Int) = some (.ref a1) from atI_nat rfl), _, rfl, L, _, _, _, rfl, rfl, SqL.of hL4', (show atI [V.ref a1, V.ref a2] ((1 : Nat) : Int) = some (.ref a2) from atI_nat rfl), ?_⟩
      refine ⟨_, _, rfl, (by show 2 ≤ sizeLine; decide), fun p2 hp2 => ?_⟩
      have s5 := Same.upd (o := .tup [.ref a1, .ref a2]) (Same.refl H4) hp2
      refine ⟨p2, [(a1, q1), (a2, q2)], rfl, upd_same, PZ.same s5, two_short z14 z24, fun H5 y dy l' s6 hy0 hl0 hy hl => ?_⟩
      have lok : ∀ q ∈ [q1, q2], q.Ok := PZ.pok
      have lne : [q1, q2] ≠ [] := by simp
      obtain ⟨f1, f2, f3, f4, f5⟩ := ln_spec lne lok
      obtain ⟨i1, i2⟩ := ln_idem lne lok
      have nbN := lnN_b lne lok
      have CF : CFo (lnV [q1, q2]) (lnP [q1, q2]).1 (lnP [q1, q2]).2 (lnF [q1, q2]) 24 := ⟨f1, (fm_least (g := lnG [q1, q2]) (xs := vals (lnF [q1, q2]) (lnN [q1, q2]).toNat) (p := 12) (by decide) (by rw [vals_length]; omega)).1, f3, two_short z14 z24, f5, i1, i2⟩
      have e5 := (e4.same s5).same s6
      have Y : CvR A H5 r y (lnF [q1, q2]) 24 := ⟨_, _, _, dy, l', false, .non, hy, hl, CF, (e4.same s5).rng.ne hy0, (e4.same s5).rng.ne hl0⟩
      have PZ5 := (PZ.same s5).same s6
      have hL5 : H5 L = some (.lst (pzV [(a1, q1), (a2, q2)])) := s6 _ _ (s5 _ _ hL4)
      clear CF f1 f2 f3 f4 f5 i1 i2 hy hl hy0 hl0 hp2 s6 s5 PZ hL4 hL4' hz z13 z23
      refine ⟨_, rfl, _, _, rfl, ⟨by decide, by decide, by decide, by decide⟩, fun D hD => ?_⟩
      refine lc_range (lo := 1) (n := 900) (fun j H' => H' D = some (.lst ((vals (lnF [q1, q2]) j).map V.int)) ∧ Same H5 H') ⟨upd_same, Same.upd (Same.refl _) hD⟩ ?_ ?_
      · rintro j H6 hj ⟨hD6, s6⟩
        refine ⟨rfl, _, rfl, L, rfl, ⟨_, SqL.of (s6 _ _ hL5)⟩, fun D2 hD2 => ?_⟩
        refine lc_list (K := K) (a := L) (xs := pzV [(a1, q1), (a2, q2)]) (fun k H' => H' D2 = some (.lst (((([(a1, q1), (a2, q2)] : List (Addr × Pc)).take k).map (fun z => z.2.at (1 + (j : Int)))).map V.int)) ∧ Same H6 H') ⟨upd_same, Same.upd (Same.refl _) hD2⟩ (fun i H' _ h => SqL.of (h.2 _ _ (s6 _ _ hL5))) ?_ ?_
        · rintro k v H7 hv ⟨hD7, s7⟩
          obtain ⟨z, ez, rfl, hz1, ok⟩ := (PZ5.same (s6.trans s7)).nth hv
          refine ⟨rfl, _, rfl, _, rfl, z.1, z.2, 1 + (j : Int), rfl, hz1, ok, ?_⟩
          refine ⟨_, hD7, small (by rw [List.length_map, List.length_map, List.length_take]; simp; omega), ?_, Same.upd s7 hD2⟩
          rw [upd_same, take_nth ez, List.map_append]; rfl
        rintro H7 ⟨hD7, s7⟩
        have hD7 : H7 D2 = some (.lst (([q1, q2].map (fun q : Pc => q.at (1 + (j : Int)))).map V.int)) := hD7
        refine ⟨D2, [q1, q2].map (fun q => q.at (1 + (j : Int))), rfl, SqL.of hD7, by simp, fun m hm hmx => ?_⟩
        have em := minOf_eq hm hmx
        rw [← lnF_pos (show 0 < 1 + (j : Int) by omega)] at em
        subst em
        refine ⟨_, s7 _ _ hD6, small (by rw [List.length_map, vals_length]; omega), ?_, Same.upd (s6.trans s7) hD⟩
        rw [upd_same, vals_more, List.map_append, Int.add_comm 1]
        rfl
      rintro H6 ⟨hD6, s6⟩
      refine ⟨(by show 2 ≤ sizeLine; decide), fun u hu => ?_⟩
      exact fin _ _ _ _ (e5.same s6) hD6 (e5.rng.ne hD) ((Y.same s6).more (by decide)) (Fit.lines z14 z24) lnF_zero (fun t t0 t1 => by
        have := ln_nn lne lok t t0
        have := ln_hi lne lok t t0
        omega) u hu
    refine ⟨_, rfl, rfl, _, rfl, ifEq (fun c => ?_) (fun c => ?_)⟩
    · refine ⟨_, rfl, r, _, rfl, e3.rng, by decide, by decide, fun H4 N_ e34 n0 n1 => ?_⟩
      have e4 := e3.trans e34
      clear e34
      refine ⟨_, rfl, by omega, by omega, fun D hD => ?_⟩
      have nD := e4.rng.ne hD
      have DH := e4.free hD
      refine lc_range (lo := 0) (n := N_.toNat) (fun j H' => Ext r H H' ∧ ∃ us : List Int, us.length = j ∧ H' D = some (.lst (us.map V.int)) ∧ ∀ u ∈ us, 0 ≤ u ∧ u ≤ 2) ⟨e4.put DH nD, [], rfl, upd_same, fun u h => by cases h⟩ ?_ ?_
      · rintro j H5 hj ⟨e5, us, ul, hD5, hus⟩
        refine ⟨rfl, _, rfl, r, _, rfl, e5.rng, by decide, by decide, fun H6 b e6 b0 b1 => ?_⟩
        refine ⟨_, e6.keep _ _ nD hD5, small (by rw [List.length_map]; omega), (e5.trans e6).put DH nD, us ++ [b], by rw [List.length_append, ul]; rfl, by rw [upd_same, List.map_append]; rfl, fun u h => ?_⟩
        rcases List.mem_append.mp h with h | h
        · exact hus u h
        · cases List.mem_singleton.mp h; exact ⟨b0, by omega⟩
      rintro H5 ⟨e5, us, ul, hD5, hus⟩
      have u5 : us.length ≤ 5 := by omega
      have C5 : Cnts us := fun i hi => by
        have := (hus us[i] (List.getElem_mem hi)).1
        rw [List.getD_eq_getElem?_getD, List.getElem?_eq_getElem hi]; exact this
      have un : ∀ u ∈ us, 0 ≤ u := fun u hu => (hus u hu).1
      have us10 := sum_le2 fun u hu => (hus u hu).2
      refine ⟨_, rfl, D, _, rfl, .inl (SqL.of hD5), ?_⟩
      rw [List.length_map]
      refine ⟨(by show 1 ≤ sizeLine; decide), fun B hB => ?_⟩
      have nB := e5.rng.ne hB
      have BH := e5.free hB
      have nDB : D ≠ B := ne_of_none hD5 hB
      have D6 : upd H5 B (.lst [.int 0]) D = some (.lst (us.map V.int)) := by rw [upd_ne nDB]; exact hD5
      refine ⟨_, rfl, _, _, rfl, rfl, _, _, rfl, ⟨by decide, by decide, by omega, by omega⟩, ?_⟩
      refine for_range (lo := 1) (n := ((us.length : Int) + 1 - 1).toNat) (fun i σ H' => ∃ v14 v18, σ = [some (.ref r), some (.ref t), some (.int d), some (.ref lv), some (.ref x), none, none, none, none, none, none, some (.ref D), some (.int us.length), some (.ref B), v14, none, none, none, v18] ∧ Ext r H H' ∧ H' D = some (.lst (us.map V.int)) ∧ H' B = some (.lst (((0 : Int) :: vals (tF us) i).map V.int)))
        ⟨_, _, rfl, e5.put BH nB, D6, upd_same⟩ ?_ ?_
      · rintro i σ H6 hi ⟨v14, v18, rfl, e7, D6, B6⟩
        have hi' : i < us.length := by omega
        refine ⟨_, rfl, .inl ⟨rfl, _, SqL.of B6⟩, ?_⟩
        refine ⟨_, rfl, _, rfl, _, _, rfl, rfl, _, _, rfl, rfl, _, rfl, by omega, by omega, fun D2 hD2 => ?_⟩
        refine lc_range (lo := 0) (n := ((us.length : Int) - (1 + (i : Int)) + 1).toNat) (fun j H7 => H7 D2 = some (.lst ((row (fun s => win us s ((i + 1 : Nat) : Int)) j).map V.int)) ∧ Same H6 H7) ⟨upd_same, Same.upd (Same.refl _) hD2⟩ ?_ ?_
        · rintro j H7 hj ⟨hD7, s7⟩
          refine ⟨rfl, _, rfl, _, rfl, _, rfl, _, rfl, _, rfl, _, _, rfl, rfl, _, rfl, D, _, rfl, SqL.of (s7 _ _ D6), fun q hq => ?_⟩
          have hDq : D2 ≠ q := ne_of_none hD7 hq
          have ec : cutV (us.map V.int) (some (0 + (j : Int))) (some (0 + (j : Int) + (1 + (i : Int)))) = ((us.drop j).take (i + 1)).map V.int := by
            rw [Int.zero_add, show 1 + (i : Int) = ((i + 1 : Nat) : Int) by omega]; exact cut_win (by omega)
          have hq2 : upd H7 q (.lst (cutV (us.map V.int) (some (0 + (j : Int))) (some (0 + (j : Int) + (1 + (i : Int)))))) q = some (.lst (((us.drop j).take (i + 1)).map V.int)) := by rw [upd_same, ec]
          refine ⟨q, _, rfl, SqL.of hq2, _, (upd_ne hDq).trans hD7, small (by rw [List.length_map, row_length]; omega), ?_, Same.upd (Same.upd s7 (s7.free hq)) hD2⟩
          rw [upd_same, rowI_succ, sum_cut]
        rintro H7 ⟨hD7, s7⟩
        rw [show ((us.length : Int) - (1 + (i : Int)) + 1).toNat = us.length + 1 - (i + 1) by omega] at hD7
        refine ⟨D2, _, rfl, SqL.of hD7, by rw [row_length]; omega, fun m hm hmx => ?_⟩
        have em := row_win (k := i + 1) (by omega) hm hmx
        subst em
        refine ⟨B, _, _, rfl, rfl, s7 _ _ B6, small (by rw [List.length_map, List.length_cons, vals_length]; omega), ?_⟩
        refine ⟨_, _, rfl, (e7.same s7).put BH nB, by rw [upd_ne nDB]; exact s7 _ _ D6, ?_⟩
        rw [upd_same, vals_more, show tF us ((i : Int) + 1) = mostM us (i + 1) by unfold tF; rw [show ((i : Int) + 1).toNat = i + 1 by omega], ← List.cons_append, List.map_append]
        rfl
      rintro σ H6 ⟨v14, v18, rfl, e6, D6, B6⟩
      rw [show ((us.length : Int) + 1 - 1).toNat = us.length by omega] at B6
      refine ⟨_, rfl, D, us, rfl, SqL.of D6, by omega, C5, fun H7 y dy ly s7 hy0 hly0 hy hly => ?_⟩
      have wl := tW_len (us := us)
      have tl := tV_length (us := us)
      have i1 := fm_idem (xs := tV us) (p := 1) (g := 0) (by decide) (by omega)
      rw [tV_p, tW_eq] at i1
      have CF : CFo (tW us) 1 0 (tF us) 24 := ⟨by decide, by decide, by omega, by omega, tW_at, i1.1, i1.2⟩
      have Y : CvR A H7 r y (tF us) 24 := ⟨_, _, _, dy, ly, false, .non, hy, hly, CF, e6.rng.ne hy0, e6.rng.ne hly0⟩
      have e7 := e6.same s7
      have B7 := s7 _ _ B6
      have lst : atI (((0 : Int) :: vals (tF us) us.length).map V.int) (-1) = some (.int us.sum) := by
        rw [at_back (by decide) (by rw [List.length_cons, vals_length]; omega), List.length_cons, vals_length, show (-1 + ((us.length + 1 : Nat) : Int)).toNat = us.length by omega]
        cases e : us.length with
        | zero =>
          have : us = [] := List.length_eq_zero_iff.mp e
          subst this
          rfl
        | succ n =>
          rw [List.getD_cons_succ, vals_getD (by omega)]
          unfold tF
          rw [most_far (by omega)]
      refine ⟨_, rfl, _, rfl, B, _, rfl, SqL.of B7, fun q1 h1 => ?_⟩
      rw [cut_from]
      have t1 := Same.upd (o := .lst ((vals (tF us) us.length).map V.int)) (Same.refl H7) h1
      refine ⟨_, rfl, _, rfl, B, _, _, _, rfl, rfl, SqL.of (t1 _ _ B7), lst, (by show 1 ≤ sizeLine; decide), fun q2 h2 => ?_⟩
      have t2 := t1.trans (Same.upd (o := .lst [.int us.sum]) (Same.refl _) h2)
      refine ⟨q2, _, _, rfl, rfl, upd_same, by decide, by decide, (by show 1 * _ ≤ sizeLine; rw [sizeLine_eq]; decide), fun q3 h3 => ?_⟩
      have ez : (List.replicate (900 : Int).toNat [V.int us.sum]).flatten = (List.replicate 900 us.sum).map V.int := rep_map _ _
      have t3 := Same.upd (o := .lst (List.replicate (900 : Int).toNat [V.int us.sum]).flatten) (Same.refl _) h3
      refine ⟨q1, q3, _, _, rfl, rfl, t3 _ _ (by rw [upd_ne (ne_of_none upd_same h2), upd_same]), upd_same, (by rw [ez, List.length_map, List.length_map, List.length_replicate, vals_length, sizeLine_eq]; omega), fun q4 h4 => ?_⟩
      have t4 := (t2.trans t3).trans (Same.upd (o := .lst ((vals (tF us) us.length).map V.int ++ (List.replicate (900 : Int).toNat [V.int us.sum]).flatten)) (Same.refl _) h4)
      refine ⟨_, rfl, q4, _, rfl, SqL.of upd_same, fun q5 h5 => ?_⟩
      rw [show (some 900 : Option Int) = some ((900 : Nat) : Int) from rfl, cut_to (by rw [ez, List.length_append, List.length_map, List.length_map, List.length_replicate]; omega)]
      rw [show ((vals (tF us) us.length).map V.int ++ (List.replicate (900 : Int).toNat [V.int us.sum]).flatten).take 900 = (vals (tF us) 900).map V.int by
        rw [ez, ← List.map_append, ← List.map_take, tight_vals u5]] at *
      have t5 := t4.trans (Same.upd (o := .lst ((vals (tF us) 900).map V.int)) (Same.refl _) h5)
      refine ⟨(by show 2 ≤ sizeLine; decide), fun u hu => ?_⟩
      exact fin _ _ _ _ (e7.same t5) upd_same ((e7.same t4).rng.ne h5) ((Y.same t5).more (by decide)) (Fit.tight un u5 (by omega)) tF_zero (fun t t0 t1 => by
        have a := most_nn un t.toNat
        have b := most_sum un t.toNat
        have c : tF us t = mostM us t.toNat := rfl
        omega) u hu
    refine ⟨_, rfl, _, rfl, (by show 2 ≤ sizeLine; decide), fun u hu => ?_⟩
    exact fin _ _ _ _ e3 hv3 nlv (X.more (by decide)) (Fit.row N s3 he ho) cvAt_zero (fun t t0 t1 => by have := bd t t0 t1; omega) u hu
end
end VK


namespace VK
open PySem PySem.Spec PyProof.Rows L2 VM
theorem CFo.small {cs : List Int} {p g : Int} {F : Int → Int} {N : Nat} (O : CFo cs p g F N) (b : ∀ t : Int, 0 ≤ t → t ≤ N + 12 → 0 ≤ F t ∧ F t ≤ 10 ^ 9) : (∀ u ∈ cs, u.natAbs < 10 ^ 100) ∧ p.natAbs < 10 ^ 100 ∧ g.natAbs < 10 ^ 100 := by
  have big : (10000000000 : Nat) < 10 ^ 100 := by decide +kernel
  have p0 := O.p0
  have p12 := O.p12
  have pn := O.pn
  have n := O.n
  have e9 : (10 : Int) ^ 9 = 1000000000 := by decide
  refine ⟨fun u hu => ?_, Nat.lt_trans (show p.natAbs < 10000000000 by omega) big, ?_⟩
  · obtain ⟨i, hi, rfl⟩ := List.getElem_of_mem hu
    have h := cvAt_in (vs := cs) (p := p) (g := g) (t := (i : Int) + 1) (by omega) (by omega)
    rw [O.eq _ (by omega)] at h
    have hb := b ((i : Int) + 1) (by omega) (by omega)
    rw [show ((i : Int) + 1 - 1).toNat = i by omega, List.getD_eq_getElem?_getD, List.getElem?_eq_getElem hi] at h
    have h : F ((i : Int) + 1) = cs[i] := h
    exact Nat.lt_trans (show cs[i].natAbs < 10000000000 by omega) big
  · have r := O.rep ((cs.length : Int) + 1) (by omega)
    rw [O.eq _ (by omega), O.eq _ (by omega)] at r
    have b1 := b ((cs.length : Int) + 1) (by omega) (by omega)
    have b2 := b ((cs.length : Int) + 1 - p) (by omega) (by omega)
    exact Nat.lt_trans (show g.natAbs < 10000000000 by omega) big
/-- equal or not, told in four ways -/
theorem tell {c1 c2 : List Int} {p1 p2 g1 g2 : Int} {F1 F2 : Int → Int} {e1 e2 m s : Int} (S : Sp2 e1 e2 m s) (f1 : Fit e1 e2 s F1) (f2 : Fit e1 e2 s F2) (z1 : F1 0 = 0) (z2 : F2 0 = 0) (O1 : CFo c1 p1 g1 F1 124) (O2 : CFo c2 p2 g2 F2 124) :
    ∃ b : Bool, decide (vals F1 900 = vals F2 900) = b ∧ (decide (c1 = c2) && (decide (p1 = p2) && decide (g1 = g2))) = b ∧ (decide (c2 = c1) && (decide (p2 = p1) && decide (g2 = g1))) = b ∧ decide (V.str (shownD c1 p1 g1).shown = V.str (shownD c2 p2 g2).shown) = b := by
  by_cases E : ∀ t : Int, 0 ≤ t → F1 t = F2 t
  · obtain ⟨rfl, rfl, rfl⟩ := O1.uniq O2 E
    refine ⟨true, decide_eq_true (vals_eq fun t h1 h2 => E t (by omega)), same3, same3, decide_eq_true rfl⟩
  · have ne : ¬ (c1 = c2 ∧ p1 = p2 ∧ g1 = g2) := fun ⟨h1, h2, h3⟩ => E fun t ht => by
      subst h1 h2 h3
      rw [← O1.eq t ht, ← O2.eq t ht]
    refine ⟨false, decide_eq_false fun h => E (Fit.eq S f1 f2 (by rw [z1, z2]) (vals_inj h)), ?_, ?_, decide_eq_false fun h => ?_⟩
    · by_cases a : c1 = c2 <;> by_cases b : p1 = p2 <;> by_cases c : g1 = g2 <;> simp [a, b, c]
      exact ne ⟨a, b, c⟩
    · by_cases a : c1 = c2 <;> by_cases b : p1 = p2 <;> by_cases c : g1 = g2 <;> simp [a, b, c, eq_comm]
      exact ne ⟨a, b, c⟩
    · injection h with h
      exact ne (IJ.form_inj h)
theorem all_le {F G : Int → Int} {n : Nat} {m : Int} {bs : List Bool} {b : Bool} (e : bs = (List.range n).map fun i : Nat => decide (F ((i : Int) + 1) ≤ G ((i : Int) + 1))) (hm : (n : Int) = m) (h1 : (∀ t : Int, 1 ≤ t → t ≤ m → F t ≤ G t) → b = true) (h2 : b = true → ∀ t : Int, 1 ≤ t → t ≤ m → F t ≤ G t) : bs.all id = b := by
  subst hm
  rw [e, List.all_map, Bool.eq_iff_iff]
  exact (all_iff (f := F) (g := G) (n := n)).trans ⟨h1, h2⟩
theorem vals_last {F : Int → Int} : atI ((vals F 900).map V.int) (-1) = some (.int (F 900)) := by
  rw [at_back (by decide) (by rw [vals_length]; decide), vals_length, show (-1 + ((900 : Nat) : Int)).toNat = 899 from rfl, vals_getD (by decide)]
  rfl
theorem eqv_self3 (b c : Bool) : (!PyData.eqv (.list [.bool b, .bool c, .bool true]) (.list [.bool b, .bool c, .bool true])) = false := by cases b <;> cases c <;> rfl
theorem eqv_self4 (b : Bool) : (!PyData.eqv (.list [.bool b, .bool b, .bool (!b), .bool (!b)]) (.list [.bool b, .bool b, .bool (!b), .bool (!b)])) = false := by cases b <;> rfl
def sp_l_pair_right (_ : PySem.W.Frag) (A : Ad) : Sp := fun vs H Q _ => ∃ (r y1 y2 x1 l1 x2 l2 : Addr) (F1 F2 : Int → Int) (e1 e2 m s : Int), vs = [.ref y1, .ref y2] ∧ Sp2 e1 e2 m s ∧ Md A H r y1 e1 e2 s x1 l1 F1 ∧ Md A H r y2 e1 e2 s x2 l2 F2 ∧ 
  ∀ H', Same H H' → Q (.bl true) H'
section
variable {P : Program} {w : World} {K : PySem.W.Frag} {mg : Str → Option Value} {base : Heap} {A : Ad}
theorem ok_l_pair_right (T : Txt K mg A) : VG.FnG P w K mg base CX0 6 A.f_l_pair_right A.d_l_pair_right ["_law_first", "_law_second"] (sp_l_pair_right K A) := by
  have G_C_at := ok_C_at (P := P) (w := w) (base := base) T
  have G_C_at_most := ok_C_at_most (P := P) (w := w) (base := base) T
  have G_C_eq := ok_C_eq (P := P) (w := w) (base := base) T
  have G_l_shown := ok_l_shown (P := P) (w := w) (base := base) T
  have G_C_eq := ok_C_eq (P := P) (w := w) (base := base) T
  refine VG.okG0 T.F_l_pair_right sc_l_pair_right (fun vs H Q E h => ?_) (fun cdv A0 outer s H vs Q E hA hr h => ?_)
  · obtain ⟨r, y1, y2, x1, l1, x2, l2, F1, F2, e1, e2, m, s, rfl, S, M1, M2, k⟩ := h
    rfl
  · obtain ⟨r, y1, y2, x1, l1, x2, l2, F1, F2, e1, e2, m, s, rfl, S, M1, M2, k⟩ := h
    refine ⟨_, (pss_cons (ps_asg (pv 0) (pg_tup rfl (pgs_cons (pg_name (i := 2) sc_l_pair_right.nd rfl (by first | exact Or.inl rfl | exact Or.inr rfl)) (pgs_cons (pg_name (i := 3) sc_l_pair_right.nd rfl (by first | exact Or.inl rfl | exact Or.inr rfl)) pgs_nil))))
    (pss_cons (ps_asg (pv 1) (pg_tup rfl (pgs_cons (pg_name (i := 4) sc_l_pair_right.nd rfl (by first | exact Or.inl rfl | exact Or.inr rfl)) (pgs_cons (pg_name (i := 5) sc_l_pair_right.nd rfl (by first | exact Or.inl rfl | exact Or.inr rfl)) pgs_nil))))
    (pss_cons (ps_set (i := 6) sc_l_pair_right.nd rfl (by first | exact Or.inl rfl | exact Or.inr rfl) (pe_lst (pa_cons (VG.pe_callG G_l_shown hA (hr.mono (by decide)) rfl T.m_l_shown T.k_l_shown T.b_l_shown pass0 (pa_cons (pv 2) pa_nil)) (pa_cons (VG.pe_callG G_l_shown hA (hr.mono (by decide)) rfl T.m_l_shown T.k_l_shown T.b_l_shown pass0 (pa_cons (pv 4) pa_nil)) pa_nil))))
    (pss_cons (ps_set (i := 7) sc_l_pair_right.nd rfl (by first | exact Or.inl rfl | exact Or.inr rfl) (pe_cmpR (op_eqD hr.units) (pv 3) (pv 5) (nomark _)))
    (pss_cons (ps_if (pt_cmpR (op_neD hr.units) (pe_lst (pa_cons (pe_cmpR (VN.op_eqOwn (C := A.Curve) G_C_eq (hr.mono (by decide)) T.me___eq__ T.ic_Curve T.b_C_eq pass0) (pv 2) (pv 4) (nomark _)) (pa_cons (pe_cmpR (VN.op_eqOwn (C := A.Curve) G_C_eq (hr.mono (by decide)) T.me___eq__ T.ic_Curve T.b_C_eq pass0) (pv 4) (pv 2) (nomark _)) (pa_cons (pe_cmpR (VN.op_neOwn (C := A.Curve) G_C_eq (hr.mono (by decide)) T.me___eq__ T.ic_Curve T.b_C_eq pass0) (pv 2) (pv 4) (nomark _)) (pa_cons (pe_cmpR (VN.op_neOwn (C := A.Curve) G_C_eq (hr.mono (by decide)) T.me___eq__ T.ic_Curve T.b_C_eq pass0) (pv 4) (pv 2) (nomark _)) pa_nil))))) (pe_lst (pa_cons (pv 7) (pa_cons (pv 7) (pa_cons (pe_not (pv 7)) (pa_cons (pe_not (pv 7)) pa_nil))))) (nomark _)) (pss_one (ps_ret pe_bl)) pss_nil)
    (pss_cons (ps_if (pt_cmpR op_ne (pe_cmpR op_eq (pe_ix (r := rIxL K) ix_list (pv 6) pe_int (fun _ _ => rfl)) (pe_ix (r := rIxL K) ix_list (pv 6) pe_int (fun _ _ => rfl)) (nomark _)) (pv 7) (nomark _)) (pss_one (ps_ret pe_bl)) pss_nil)
    (pss_cons (ps_set (i := 8) sc_l_pair_right.nd rfl (by first | exact Or.inl rfl | exact Or.inr rfl) (pe_callB (r := rAll K) (cr_all rfl) (by rfl) T.all (by decide +kernel) (pa_cons (pe_lc (own := [("_law_low", 10), ("_law_high", 11)]) (g := gTup K 2 (gCons (gName 10) (gCons (gName 11) gNil))) (tt := tYes) rfl sc_l_pair_right.nd (pi_zip (by rfl) T.zip (pa_cons (pv 3) (pa_cons (pv 5) pa_nil))) (blkOk_by (own := [("_law_low", 10), ("_law_high", 11)]) (N := ["_law_first", "_law_second", "_law_one", "_law_due", "_law_other", "_law_expected", "_law_before", "_law_same", "_law_below", "_law_above", "_law_low", "_law_high", "_law_span"]) (sc := defScope s_l_pair_right) (by decide +kernel)) (fun _ _ _ _ _ => pg_tup rfl (pgs_cons (pg_name (i := 10) sc_l_pair_right.nd rfl (by first | exact Or.inl rfl | exact Or.inr rfl)) (pgs_cons (pg_name (i := 11) sc_l_pair_right.nd rfl (by first | exact Or.inl rfl | exact Or.inr rfl)) pgs_nil))) (fun _ _ _ _ _ => pts_nil) (fun _ _ _ _ _ => (pe_cmpR op_le (pv 10) (pv 11) (nomark _)))) pa_nil)))
    (pss_cons (ps_set (i := 9) sc_l_pair_right.nd rfl (by first | exact Or.inl rfl | exact Or.inr rfl) (pe_callB (r := rAll K) (cr_all rfl) (by rfl) T.all (by decide +kernel) (pa_cons (pe_lc (own := [("_law_low", 10), ("_law_high", 11)]) (g := gTup K 2 (gCons (gName 10) (gCons (gName 11) gNil))) (tt := tYes) rfl sc_l_pair_right.nd (pi_zip (by rfl) T.zip (pa_cons (pv 3) (pa_cons (pv 5) pa_nil))) (blkOk_by (own := [("_law_low", 10), ("_law_high", 11)]) (N := ["_law_first", "_law_second", "_law_one", "_law_due", "_law_other", "_law_expected", "_law_before", "_law_same", "_law_below", "_law_above", "_law_low", "_law_high", "_law_span"]) (sc := defScope s_l_pair_right) (by decide +kernel)) (fun _ _ _ _ _ => pg_tup rfl (pgs_cons (pg_name (i := 10) sc_l_pair_right.nd rfl (by first | exact Or.inl rfl | exact Or.inr rfl)) (pgs_cons (pg_name (i := 11) sc_l_pair_right.nd rfl (by first | exact Or.inl rfl | exact Or.inr rfl)) pgs_nil))) (fun _ _ _ _ _ => pts_nil) (fun _ _ _ _ _ => (pe_cmpR op_ge (pv 10) (pv 11) (nomark _)))) pa_nil)))
    (pss_cons (ps_if (pt_cmpR (op_neD hr.units) (pe_lst (pa_cons (pe_meth (pv 2) T.cl T.me_at_most G_C_at_most (hr.mono (by decide)) T.b_C_at_most .nil pass0 (pa_cons (pv 4) pa_nil)) (pa_cons (pe_meth (pv 4) T.cl T.me_at_most G_C_at_most (hr.mono (by decide)) T.b_C_at_most .nil pass0 (pa_cons (pv 2) pa_nil)) (pa_cons (pe_meth (pv 2) T.cl T.me_at_most G_C_at_most (hr.mono (by decide)) T.b_C_at_most .nil pass0 (pa_cons (pv 2) pa_nil)) pa_nil)))) (pe_lst (pa_cons (pv 8) (pa_cons (pv 9) (pa_cons pe_bl pa_nil)))) (nomark _)) (pss_one (ps_ret pe_bl)) pss_nil)
    (pss_cons (ps_if (PW.pt (pw_or (pt_cmpR (op_neD hr.units) (pe_lc (own := [("_law_span", 12)]) (g := gName 12) (tt := tYes) rfl sc_l_pair_right.nd (pi_range1 rfl T.range (pa_cons pe_int pa_nil)) (blkOk_by (own := [("_law_span", 12)]) (N := ["_law_first", "_law_second", "_law_one", "_law_due", "_law_other", "_law_expected", "_law_before", "_law_same", "_law_below", "_law_above", "_law_low", "_law_high", "_law_span"]) (sc := defScope s_l_pair_right) (by decide +kernel)) (fun _ _ _ _ _ => pg_name (i := 12) sc_l_pair_right.nd rfl (by first | exact Or.inl rfl | exact Or.inr rfl)) (fun _ _ _ _ _ => pts_nil) (fun _ _ _ _ _ => (pe_meth (pv 2) T.cl T.me_at G_C_at (hr.mono (by decide)) T.b_C_at .nil pass0 (pa_cons (pe_op op_add (pv 12) pe_int) pa_nil)))) (pe_slice (r := rSlL K) sl_list (pv 3) po_none (po_some pe_int)) (nomark _)) (pw_or1 (pt_cmpR (op_neD hr.units) (pe_lst (pa_cons (pe_meth (pv 4) T.cl T.me_at G_C_at (hr.mono (by decide)) T.b_C_at .nil pass0 (pa_cons pe_int pa_nil)) (pa_cons (pe_meth (pv 2) T.cl T.me_at G_C_at (hr.mono (by decide)) T.b_C_at .nil pass0 (pa_cons pe_int pa_nil)) pa_nil))) (pe_lst (pa_cons (pe_ix (r := rIxL K) ix_list (pv 5) (pe_un un_neg pe_int) (fun _ _ => rfl)) (pa_cons (pe_ix (r := rIxL K) ix_list (pv 3) (pe_un un_neg pe_int) (fun _ _ => rfl)) pa_nil))) (nomark _))))) (pss_one (ps_ret pe_bl)) pss_nil)
    (pss_one (ps_ret (pe_cmpR (op_eqV hr.units) (pe_lst (pa_cons (VG.pe_callG G_l_shown hA (hr.mono (by decide)) rfl T.m_l_shown T.k_l_shown T.b_l_shown pass0 (pa_cons (pv 2) pa_nil)) (pa_cons (VG.pe_callG G_l_shown hA (hr.mono (by decide)) rfl T.m_l_shown T.k_l_shown T.b_l_shown pass0 (pa_cons (pv 4) pa_nil)) pa_nil))) (pv 6) (nomark _)))))))))))))), ?_⟩
    refine ⟨_, rfl, y1, _, rfl, SqT.of M1.tup, rfl, _, _, rfl, _, _, rfl, rfl, ?_⟩
    refine ⟨_, rfl, y2, _, rfl, SqT.of M2.tup, rfl, _, _, rfl, _, _, rfl, rfl, ?_⟩
    obtain ⟨c1, p1, g1, dx1, la, w1, b1, hx1, hl1, O1, nx1, nl1⟩ := M1.cv
    obtain ⟨c2, p2, g2, dx2, lb, w2, b2, hx2, hl2, O2, nx2, nl2⟩ := M2.cv
    have C1 : CrvAt A H x1 c1 p1 g1 := ⟨dx1, la, w1, b1, hx1, hl1⟩
    have C2 : CrvAt A H x2 c2 p2 g2 := ⟨dx2, lb, w2, b2, hx2, hl2⟩
    obtain ⟨v1, q1, h1⟩ := O1.small fun t t0 t1 => M1.b t t0 (by omega)
    obtain ⟨v2, q2, h2⟩ := O2.small fun t t0 t1 => M2.b t t0 (by omega)
    have n1 := O1.n
    have n2 := O2.n
    have p10 := O1.p0
    have p20 := O2.p0
    have p112 := O1.p12
    have p212 := O2.p12
    obtain ⟨b, tv, tf, tf', ts⟩ := tell S M1.fit M2.fit M1.z M2.z O1 O2
    refine ⟨_, rfl, x1, c1, p1, g1, rfl, C1, v1, by omega, p10, by omega, h1, fun H1 s1 => ?_⟩
    refine ⟨_, rfl, x2, c2, p2, g2, rfl, C2.same s1, v2, by omega, p20, by omega, h2, fun H2 s2 => ?_⟩
    have s12 := s1.trans s2
    generalize hS1 : (shownD c1 p1 g1).shown = S1 at *
    generalize hS2 : (shownD c2 p2 g2).shown = S2 at *
    refine ⟨(by show 2 ≤ sizeLine; decide), fun B hB => ?_⟩
    have s3 := s12.trans (Same.upd (o := .lst [.str S1, .str S2]) (Same.refl _) hB)
    have B3 : upd H2 B (.lst [.str S1, .str S2]) B = some (.lst [.str S1, .str S2]) := upd_same
    generalize upd H2 B (.lst [.str S1, .str S2]) = H3 at *
    refine ⟨_, rfl, _, rfl, _, _, .lst (SqL.of (s3 _ _ M1.lst)) (dp_ints _), .lst (SqL.of (s3 _ _ M2.lst)) (dp_ints _), shaped_ints _, shaped_ints _, ?_⟩
    rw [eqv_ints, tv]
    have C13 := C1.same s3
    have C23 := C2.same s3
    clear s1 s2 s12 hB hx1 hl1 hx2 hl2
    refine ⟨_, rfl, _, rfl, own_eq T C13 C23 ?_⟩
    rw [tf]
    refine ⟨_, rfl, _, rfl, own_eq T C23 C13 ?_⟩
    rw [tf']
    refine ⟨_, rfl, _, rfl, own_ne T C13 C23 ?_⟩
    rw [tf]
    refine ⟨_, rfl, _, rfl, own_ne T C23 C13 ?_⟩
    rw [tf']
    refine ⟨(by show 4 ≤ sizeLine; decide), fun X hX => ?_⟩
    have s4 := Same.upd (o := .lst [.bl b, .bl b, .bl (!b), .bl (!b)]) (Same.refl H3) hX
    have X4 : upd H3 X (.lst [.bl b, .bl b, .bl (!b), .bl (!b)]) X = some (.lst [.bl b, .bl b, .bl (!b), .bl (!b)]) := upd_same
    generalize upd H3 X (.lst [.bl b, .bl b, .bl (!b), .bl (!b)]) = H4 at *
    refine ⟨_, rfl, _, rfl, _, rfl, _, rfl, _, rfl, _, rfl, (by show 4 ≤ sizeLine; decide), fun Y hY => ?_⟩
    have s5 := s4.trans (Same.upd (o := .lst [.bl b, .bl b, .bl (!b), .bl (!b)]) (Same.refl H4) hY)
    have X5 := Same.upd (o := .lst [.bl b, .bl b, .bl (!b), .bl (!b)]) (Same.refl H4) hY _ _ X4
    have dB : DpAll K (upd H4 Y (.lst [.bl b, .bl b, .bl (!b), .bl (!b)])) [.bl b, .bl b, .bl (!b), .bl (!b)] [.bool b, .bool b, .bool (!b), .bool (!b)] := .cons (.bl _) (.cons (.bl _) (.cons (.bl _) (.cons (.bl _) .nil)))
    refine ⟨_, _, .lst (SqL.of X5) dB, .lst (SqL.of upd_same) dB, rfl, rfl, ?_⟩
    rw [eqv_self4]
    refine ⟨_, rfl, iteF ?_⟩
    generalize upd H4 Y (.lst [.bl b, .bl b, .bl (!b), .bl (!b)]) = H5 at *
    clear dB X5 X4 s4 hY hX
    have B5 := s5 _ _ B3
    refine ⟨_, rfl, B, _, _, _, rfl, rfl, SqL.of B5, (show atI [V.str S1, V.str S2] ((0 : Nat) : Int) = some (.str S1) from atI_nat rfl), _, rfl, B, _, _, _, rfl, rfl, SqL.of B5, (show atI [V.str S1, V.str S2] ((1 : Nat) : Int) = some (.str S2) from atI_nat rfl), rfl, ?_⟩
    rw [ts]
    refine ⟨_, rfl, rfl, _, rfl, iteNeV ?_⟩
    have L15 := s5 _ _ (s3 _ _ M1.lst)
    have L25 := s5 _ _ (s3 _ _ M2.lst)
    have row : ∀ (F G : Int → Int) (j : Nat), ((List.range j).map fun i : Nat => decide (F ((i : Int) + 1) ≤ G ((i : Int) + 1))).length = j := fun F G j => by rw [List.length_map, List.length_range]
    simp only [L2.start, List.map_cons, List.map_nil, List.length_cons, List.length_nil, Nat.reduceAdd, Nat.reduceSub, List.replicate, List.cons_append, List.nil_append, List.set_cons_zero, List.set_cons_succ]
    refine ⟨_, rfl, _, rfl, l1, l2, _, _, rfl, SqL.of L15, SqL.of L25, fun D hD => ?_⟩
    refine lc_it (walk_zip (K := K) (a := l1) (b := l2) (xs := (vals F1 900).map V.int) (ys := (vals F2 900).map V.int) (n := 900) (by rw [List.length_map, List.length_map, vals_length, vals_length]; decide))
      (fun j H' => H' D = some (.lst (((List.range j).map fun i : Nat => decide (F1 ((i : Int) + 1) ≤ F2 ((i : Int) + 1))).map V.bl)) ∧ Same H5 H') ⟨upd_same, Same.upd (Same.refl _) hD⟩ (fun j H' _ ⟨_, s⟩ => ⟨s.seq (SqL.of L15), s.seq (SqL.of L25)⟩) ?_ ?_
    · rintro j y Hc Hd hj ⟨hB2, sB⟩ ⟨T', a', b', rfl, hT, rfl, ea, eb⟩
      replace ea := (vals_at hj).symm.trans ea
      replace eb := (vals_at hj).symm.trans eb
      cases ea
      cases eb
      have nBT : D ≠ T' := ne_of_none hB2 hT
      refine ⟨T', _, rfl, SqT.of upd_same, rfl, _, _, rfl, _, _, rfl, rfl, rfl, _, rfl, _, rfl, _, _, rfl, rfl, _, by rw [upd_ne nBT]; exact hB2, small (by rw [List.length_map, row]; omega), ?_, Same.upd (Same.upd sB (sB.free hT)) hD⟩
      rw [upd_same, List.range_succ, List.map_append, List.map_append]
      rfl
    rintro H6 ⟨hD6, s6⟩
    obtain ⟨bs, hbs⟩ : ∃ bs : List Bool, bs = (List.range 900).map fun i : Nat => decide (F1 ((i : Int) + 1) ≤ F2 ((i : Int) + 1)) := ⟨_, rfl⟩
    rw [← hbs] at hD6
    refine ⟨D, _, rfl, SqL.of hD6, ?_⟩
    have L16 := s6 _ _ L15
    have L26 := s6 _ _ L25
    simp only [L2.start, List.map_cons, List.map_nil, List.length_cons, List.length_nil, Nat.reduceAdd, Nat.reduceSub, List.replicate, List.cons_append, List.nil_append, List.set_cons_zero, List.set_cons_succ]
    refine ⟨_, rfl, _, rfl, l1, l2, _, _, rfl, SqL.of L16, SqL.of L26, fun D2 hD2 => ?_⟩
    refine lc_it (walk_zip (K := K) (a := l1) (b := l2) (xs := (vals F1 900).map V.int) (ys := (vals F2 900).map V.int) (n := 900) (by rw [List.length_map, List.length_map, vals_length, vals_length]; decide))
      (fun j H' => H' D2 = some (.lst (((List.range j).map fun i : Nat => decide (F2 ((i : Int) + 1) ≤ F1 ((i : Int) + 1))).map V.bl)) ∧ Same H6 H') ⟨upd_same, Same.upd (Same.refl _) hD2⟩ (fun j H' _ ⟨_, s⟩ => ⟨s.seq (SqL.of L16), s.seq (SqL.of L26)⟩) ?_ ?_
    · rintro j y Hc Hd hj ⟨hB2, sB⟩ ⟨T', a', b', rfl, hT, rfl, ea, eb⟩
      replace ea := (vals_at hj).symm.trans ea
      replace eb := (vals_at hj).symm.trans eb
      cases ea
      cases eb
      have nBT : D2 ≠ T' := ne_of_none hB2 hT
      refine ⟨T', _, rfl, SqT.of upd_same, rfl, _, _, rfl, _, _, rfl, rfl, rfl, _, rfl, _, rfl, _, _, rfl, rfl, _, by rw [upd_ne nBT]; exact hB2, small (by rw [List.length_map, row]; omega), ?_, Same.upd (Same.upd sB (sB.free hT)) hD2⟩
      rw [upd_same, List.range_succ, List.map_append, List.map_append]
      rfl
    rintro H7 ⟨hD7, s7⟩
    obtain ⟨cs, hcs⟩ : ∃ cs : List Bool, cs = (List.range 900).map fun i : Nat => decide (F2 ((i : Int) + 1) ≤ F1 ((i : Int) + 1)) := ⟨_, rfl⟩
    rw [← hcs] at hD7
    refine ⟨D2, _, rfl, SqL.of hD7, ?_⟩
    have hA : ∀ F G : Int → Int, Fit e1 e2 s F → Fit e1 e2 s G → ∀ (bs : List Bool) (b : Bool), bs = ((List.range 900).map fun i : Nat => decide (F ((i : Int) + 1) ≤ G ((i : Int) + 1))) → (b = true ↔ ∀ t : Int, 1 ≤ t → F t ≤ G t) → bs.all id = b := fun F G fF fG bs b e hb =>
      all_le e rfl (fun h => hb.mpr (Fit.le S fF fG h)) (fun h t h1 _ => hb.mp h t h1)
    have s07 := (s3.trans s5).trans (s6.trans s7)
    have R1 := M1.cv.same s07
    have R2 := M2.cv.same s07
    obtain ⟨dy1, ly1, py1, gy1, wy1, by1, hy1⟩ := R1.ins
    obtain ⟨dy2, ly2, py2, gy2, wy2, by2, hy2⟩ := R2.ins
    refine ⟨_, rfl, x1, dy1, _, rfl, hy1, cfs_no _ _ _ (by decide +kernel) (by decide +kernel) (by decide +kernel), _, rfl, ?_⟩
    try delta tNil
    refine cv_most R1 R2 (by decide) (by decide) fun H8 b8 s8 h8 => ?_
    have a8 := hA F1 F2 M1.fit M2.fit bs b8 hbs h8
    have R18 := R1.same s8
    have R28 := R2.same s8
    refine ⟨_, rfl, x2, dy2, _, rfl, s8 _ _ hy2, cfs_no _ _ _ (by decide +kernel) (by decide +kernel) (by decide +kernel), _, rfl, ?_⟩
    try delta tNil
    refine cv_most R28 R18 (by decide) (by decide) fun H9 b9 s9 h9 => ?_
    have a9 := hA F2 F1 M2.fit M1.fit cs b9 hcs h9
    have s89 := s8.trans s9
    have R19 := R1.same s89
    refine ⟨_, rfl, x1, dy1, _, rfl, s89 _ _ hy1, cfs_no _ _ _ (by decide +kernel) (by decide +kernel) (by decide +kernel), _, rfl, ?_⟩
    try delta tNil
    refine cv_most R19 R19 (by decide) (by decide) fun H10 b10 s10 h10 => ?_
    obtain rfl : b10 = true := h10.mpr fun t _ => Int.le_refl _
    rw [a8, a9]
    have s010 := s07.trans (s89.trans s10)
    have s510 := (s6.trans s7).trans (s89.trans s10)
    clear hA a8 a9 h8 h9 h10 hbs hcs row hD hD2 hD6 hD7 L15 L16 L25 L26 R19 R18 R28
    refine ⟨(by show 3 ≤ sizeLine; decide), fun X hX => ?_⟩
    have t1 := Same.upd (o := .lst [.bl b8, .bl b9, .bl true]) (Same.refl H10) hX
    have X4 : upd H10 X (.lst [.bl b8, .bl b9, .bl true]) X = some (.lst [.bl b8, .bl b9, .bl true]) := upd_same
    generalize upd H10 X (.lst [.bl b8, .bl b9, .bl true]) = H11 at *
    refine ⟨_, rfl, _, rfl, (by show 3 ≤ sizeLine; decide), fun Y hY => ?_⟩
    have t2 := t1.trans (Same.upd (o := .lst [.bl b8, .bl b9, .bl true]) (Same.refl H11) hY)
    have X5 := Same.upd (o := .lst [.bl b8, .bl b9, .bl true]) (Same.refl H11) hY _ _ X4
    have dB : DpAll K (upd H11 Y (.lst [.bl b8, .bl b9, .bl true])) [.bl b8, .bl b9, .bl true] [.bool b8, .bool b9, .bool true] := .cons (.bl _) (.cons (.bl _) (.cons (.bl _) .nil))
    refine ⟨_, _, .lst (SqL.of X5) dB, .lst (SqL.of upd_same) dB, rfl, rfl, ?_⟩
    rw [eqv_self3]
    refine ⟨_, rfl, iteF ?_⟩
    have s12 := s010.trans t2
    have B12 := (s510.trans t2) _ _ B5
    generalize upd H11 Y (.lst [.bl b8, .bl b9, .bl true]) = H12 at *
    clear dB X5 X4 t1 t2 s010 hY hX
    simp only [L2.start, List.map_cons, List.map_nil, List.length_cons, List.length_nil, Nat.reduceAdd, Nat.reduceSub, List.replicate, List.cons_append, List.nil_append, List.set_cons_zero, List.set_cons_succ]
    have L12 := s12 _ _ M1.lst
    have L22 := s12 _ _ M2.lst
    have R12 := M1.cv.same s12
    have R22 := M2.cv.same s12
    refine ⟨_, rfl, by decide, by decide, fun D hD => ?_⟩
    refine lc_range (lo := 0) (n := 60) (fun j H' => H' D = some (.lst ((vals F1 j).map V.int)) ∧ Same H12 H') ⟨upd_same, Same.upd (Same.refl _) hD⟩ ?_ ?_
    · rintro j H' hj ⟨hD2, s1⟩
      obtain ⟨dz, lz, pz, gz, wz, bz, hz⟩ := (R12.same s1).ins
      refine ⟨rfl, _, rfl, x1, dz, _, rfl, hz, cfs_no _ _ _ (by decide +kernel) (by decide +kernel) (by decide +kernel), _, rfl, _, _, rfl, rfl, ?_⟩
      try delta tNil
      refine cv_at (R12.same s1) (by decide) (by omega) (by omega) ?_
      refine ⟨_, hD2, small (by rw [List.length_map, vals_length]; omega), ?_, Same.upd s1 hD⟩
      rw [upd_same, vals_more, List.map_append, Int.zero_add]
      rfl
    rintro H13 ⟨hD3, s13⟩
    refine ⟨_, rfl, _, rfl, l1, _, rfl, SqL.of (s13 _ _ L12), fun q hq => ?_⟩
    rw [show (some 60 : Option Int) = some ((60 : Nat) : Int) from rfl, cut_to (by rw [List.length_map, vals_length]; decide), ← List.map_take, vals_take (by decide)]
    have s14 := s13.trans (Same.upd (o := .lst ((vals F1 60).map V.int)) (Same.refl _) hq)
    refine ⟨_, _, .lst (SqL.of (Same.upd (o := .lst ((vals F1 60).map V.int)) (Same.refl _) hq _ _ hD3)) (dp_ints _), .lst (SqL.of upd_same) (dp_ints _), shaped_ints _, shaped_ints _, ?_⟩
    rw [eqv_ints, decide_eq_true rfl]
    refine ⟨_, rfl, iteF ?_⟩
    generalize upd H13 q (.lst ((vals F1 60).map V.int)) = H14 at *
    clear hq hD3 s13 hD
    obtain ⟨dz2, lz2, pz2, gz2, wz2, bz2, hz2⟩ := (R22.same s14).ins
    obtain ⟨dz1, lz1, pz1, gz1, wz1, bz1, hz1⟩ := (R12.same s14).ins
    refine ⟨_, rfl, x2, dz2, _, rfl, hz2, cfs_no _ _ _ (by decide +kernel) (by decide +kernel) (by decide +kernel), ?_⟩
    refine ⟨x2, c2, p2, g2, 900, rfl, (C2.same s12).same s14, p20, O2.pn, by omega, by decide, by decide, ?_⟩
    rw [O2.eq 900 (by decide)]
    refine ⟨_, rfl, x1, dz1, _, rfl, hz1, cfs_no _ _ _ (by decide +kernel) (by decide +kernel) (by decide +kernel), ?_⟩
    refine ⟨x1, c1, p1, g1, 900, rfl, (C1.same s12).same s14, p10, O1.pn, by omega, by decide, by decide, ?_⟩
    rw [O1.eq 900 (by decide)]
    refine ⟨(by show 2 ≤ sizeLine; decide), fun q1 hq1 => ?_⟩
    have s15 := s14.trans (Same.upd (o := .lst [.int (F2 900), .int (F1 900)]) (Same.refl _) hq1)
    refine ⟨_, rfl, _, rfl, l2, _, _, _, rfl, rfl, SqL.of (s15 _ _ L22), vals_last, _, rfl, _, rfl, l1, _, _, _, rfl, rfl, SqL.of (s15 _ _ L12), vals_last, (by show 2 ≤ sizeLine; decide), fun q2 hq2 => ?_⟩
    have s16 := s15.trans (Same.upd (o := .lst [.int (F2 900), .int (F1 900)]) (Same.refl _) hq2)
    have t16 := Same.upd (o := .lst [.int (F2 900), .int (F1 900)]) (Same.refl _) hq2 _ _ (upd_same (H := H14) (a := q1) (o := .lst [.int (F2 900), .int (F1 900)]))
    refine ⟨_, _, .lst (SqL.of t16) (dp_ints [F2 900, F1 900]), .lst (SqL.of upd_same) (dp_ints [F2 900, F1 900]), shaped_ints [F2 900, F1 900], shaped_ints [F2 900, F1 900], ?_⟩
    rw [eqv_ints, decide_eq_true rfl]
    refine ⟨_, rfl, iteF ?_⟩
    have sH := s12.trans s16
    have Bq := s16 _ _ B12
    generalize upd (upd H14 q1 (.lst [.int (F2 900), .int (F1 900)])) q2 (.lst [.int (F2 900), .int (F1 900)]) = H16 at *
    refine ⟨_, rfl, x1, c1, p1, g1, rfl, C1.same sH, v1, by omega, p10, by omega, h1, fun H17 s17 => ?_⟩
    rw [hS1]
    refine ⟨_, rfl, x2, c2, p2, g2, rfl, (C2.same sH).same s17, v2, by omega, p20, by omega, h2, fun H18 s18 => ?_⟩
    rw [hS2]
    refine ⟨(by show 2 ≤ sizeLine; decide), fun Z hZ => ?_⟩
    have s19 := s18.trans (Same.upd (o := .lst [.str S1, .str S2]) (Same.refl _) hZ)
    refine ⟨_, rfl, 1, by decide, .inl ⟨_, _, _, _, rfl, rfl, SqL.of upd_same, SqL.of (s19 _ _ (s17 _ _ Bq)), .cons (.inl ⟨rfl, rfl⟩) (.cons (.inl ⟨rfl, rfl⟩) .nil)⟩, ?_⟩
    exact k _ (sH.trans (s17.trans s19))
end
end VK


namespace VK
open PySem PySem.Spec PyProof.Rows L2 VM
def spL (K : PySem.W.Frag) : Sp := fun vs H Q _ => ∃ (a : Addr) (ns : List Int), vs = [.ref a] ∧ SqL K H a (ns.map V.int) ∧ ns.length ≤ 63 ∧ ∀ H', Q (.bl true) H'
def sp_law (K : PySem.W.Frag) (_ : Ad) : Sp := spL K
theorem Fit.wk {e e1 e2 s : Int} {F : Int → Int} (h : Fit e e s F) (he : e = e1 ∨ e = e2) : Fit e1 e2 s F := by
  obtain ⟨a, R, h⟩ := h
  refine ⟨a, R, ?_⟩
  rcases h with ⟨d, hd, h⟩ | h
  · rcases hd with rfl | rfl <;> exact .inl ⟨_, he, h⟩
  · exact .inr h
theorem Md.wk {A : Ad} {H : Hp} {r y x lv : Addr} {e e1 e2 s : Int} {F : Int → Int} (h : Md A H r y e e s x lv F) (he : e = e1 ∨ e = e2) : Md A H r y e1 e2 s x lv F :=
  ⟨h.tup, h.lst, h.cv, Fit.wk h.fit he, h.z, h.b, h.ny, h.nl⟩
section
variable {P : Program} {w : World} {K : PySem.W.Frag} {mg : Str → Option Value} {base : Heap} {A : Ad}
theorem ok_law (T : Txt K mg A) : VG.FnG P w K mg base CX0 12 A.f_law A.d_law ["_law_script"] (sp_law K A) := by
  have G_C_eq := ok_C_eq (P := P) (w := w) (base := base) T
  have G_C_first_values := ok_C_first_values (P := P) (w := w) (base := base) T
  have G_C_rate := ok_C_rate (P := P) (w := w) (base := base) T
  have G_C_repr := ok_C_repr (P := P) (w := w) (base := base) T
  have G_C_str := ok_C_str (P := P) (w := w) (base := base) T
  have G_l_made := ok_l_made (P := P) (w := w) (base := base) T
  have G_l_nearly := ok_l_nearly (P := P) (w := w) (base := base) T
  have G_l_pair_right := ok_l_pair_right (P := P) (w := w) (base := base) T
  have G_l_rng := ok_l_rng (P := P) (w := w) (base := base) T
  have G_l_written := ok_l_written (P := P) (w := w) (base := base) T
  have G_C_eq := ok_C_eq (P := P) (w := w) (base := base) T
  have G_C_repr := ok_C_repr (P := P) (w := w) (base := base) T
  have G_C_str := ok_C_str (P := P) (w := w) (base := base) T
  refine VG.okG0 T.F_law sc_law (fun vs H Q E h => ?_) (fun cdv A0 outer s H vs Q E hA hr h => ?_)
  · obtain ⟨a, ns, rfl, hS, hn, k⟩ := h
    rfl
  · obtain ⟨a, ns, rfl, hS, hn, k⟩ := h
    refine ⟨_, (pss_cons (ps_for PassesOwn.never rfl (pi_range1 rfl T.range (pa_cons (pe_callB (call_max2 rfl) (by rfl) T.max (by decide +kernel) (pa_cons pe_int (pa_cons (pe_callB (call_min2 rfl) (by rfl) T.min (by decide +kernel) (pa_cons pe_int (pa_cons (pe_callB (r := VG.rLen K) VG.call_len (by rfl) T.len (by decide +kernel) (pa_cons (pv 0) pa_nil)) pa_nil))) pa_nil))) pa_nil)) (pg_name (i := 1) sc_law.nd rfl (by first | exact Or.inl rfl | exact Or.inr rfl))
      (pss_cons (ps_set (i := 2) sc_law.nd rfl (by first | exact Or.inl rfl | exact Or.inr rfl) (pe_call G_l_rng (hr.mono (by decide)) rfl T.m_l_rng T.k_l_rng T.b_l_rng .nil pass0 (pa_cons (pv 0) (pa_cons (pv 1) pa_nil))))
    (pss_cons (ps_set (i := 3) sc_law.nd rfl (by first | exact Or.inl rfl | exact Or.inr rfl) (pe_call G_l_written (hr.mono (by decide)) rfl T.m_l_written T.k_l_written T.b_l_written .nil pass0 (pa_cons (pv 2) pa_nil)))
    (pss_cons (ps_set (i := 4) sc_law.nd rfl (by first | exact Or.inl rfl | exact Or.inr rfl) (pe_lst (pa_cons (pe_call G_l_made (hr.mono (by decide)) rfl T.m_l_made T.k_l_made T.b_l_made .nil pass0 (pa_cons (pv 2) (pa_cons (pv 3) pa_nil))) (pa_cons (pe_call G_l_made (hr.mono (by decide)) rfl T.m_l_made T.k_l_made T.b_l_made .nil pass0 (pa_cons (pv 2) (pa_cons (pv 3) pa_nil))) (pa_cons (pe_call G_l_made (hr.mono (by decide)) rfl T.m_l_made T.k_l_made T.b_l_made .nil pass0 (pa_cons (pv 2) (pa_cons (pe_call G_l_nearly (hr.mono (by decide)) rfl T.m_l_nearly T.k_l_nearly T.b_l_nearly .nil pass0 (pa_cons (pv 2) (pa_cons (pv 3) pa_nil))) pa_nil))) pa_nil)))))
    (pss_cons (ps_for PassesOwn.never rfl (pi_list (pv 4)) (pg_name (i := 5) sc_law.nd rfl (by first | exact Or.inl rfl | exact Or.inr rfl))
      (pss_one (ps_for PassesOwn.never rfl (pi_list (pv 4)) (pg_name (i := 6) sc_law.nd rfl (by first | exact Or.inl rfl | exact Or.inr rfl))
      (pss_one (ps_if (pt_not (pt_val (VG.pe_callG G_l_pair_right hA (hr.mono (by decide)) rfl T.m_l_pair_right T.k_l_pair_right T.b_l_pair_right pass0 (pa_cons (pv 5) (pa_cons (pv 6) pa_nil))))) (pss_one (ps_ret pe_bl)) pss_nil)))))
    (pss_cons (ps_set (i := 7) sc_law.nd rfl (by first | exact Or.inl rfl | exact Or.inr rfl) (pe_ix (r := rIxT K) ix_tup (pe_ix (r := rIxL K) ix_list (pv 4) pe_int (fun _ _ => rfl)) pe_int (fun _ _ => rfl)))
    (pss_cons (ps_set (i := 5) sc_law.nd rfl (by first | exact Or.inl rfl | exact Or.inr rfl) (pe_meth0 (pv 7) T.cl T.me_first_values G_C_first_values (hr.mono (by decide)) T.b_C_first_values .nil pass0))
    (pss_one (ps_for PassesOwn.never rfl (pi_list (pe_lst (pa_cons pe_non (pa_cons pe_int (pa_cons pe_str (pa_cons (pv 5) (pa_cons (pe_callTy call_tuple_of (by rfl) T.tuple (by decide +kernel) (pa_cons (pv 5) pa_nil)) (pa_cons (pe_callB (VQ.call_reprOwnG (C := A.Curve) G_C_repr hA (hr.mono (by decide)) T.me___repr__ T.b_C_repr pass0) (by rfl) T.repr (by decide +kernel) (pa_cons (pv 7) pa_nil)) (pa_cons (pe_callTy (VO.call_strOwn (C := A.Curve) G_C_str (hr.mono (by decide)) T.me___str__ T.b_C_str pass0) (by rfl) T.str (by decide +kernel) (pa_cons (pv 7) pa_nil)) (pa_cons (pe_prop (pv 7) T.cl T.pr_C_rate G_C_rate (hr.mono (by decide)) T.b_C_rate .nil pass0 rfl) (pa_cons pe_dnewK (pa_cons pe_bl pa_nil)))))))))))) (pg_name (i := 8) sc_law.nd rfl (by first | exact Or.inl rfl | exact Or.inr rfl))
      (pss_one (ps_if (PW.pt (pw_or (pt_cmpR (VN.op_eqOwn (C := A.Curve) G_C_eq (hr.mono (by decide)) T.me___eq__ T.ic_Curve T.b_C_eq pass0) (pv 7) (pv 8) (nomark _)) (pw_or1 (pt_not (pt_cmpR (VN.op_neOwn (C := A.Curve) G_C_eq (hr.mono (by decide)) T.me___eq__ T.ic_Curve T.b_C_eq pass0) (pv 7) (pv 8) (nomark _)))))) (pss_one (ps_ret pe_bl)) pss_nil)))))))))))
    (pss_one (ps_ret pe_bl))), ?_⟩
    refine ⟨_, rfl, a, _, rfl, .inl hS, _, _, rfl, _, _, rfl, _, rfl, ?_⟩
    rw [List.length_map]
    have b6 : (if (if (ns.length : Int) < (5 : Int) then (ns.length : Int) else (5 : Int)) > 1 then (if (ns.length : Int) < (5 : Int) then (ns.length : Int) else (5 : Int)) else 1) ≤ 5 := by
      split <;> split <;> omega
    have b0 : 0 ≤ (if (if (ns.length : Int) < (5 : Int) then (ns.length : Int) else (5 : Int)) > 1 then (if (ns.length : Int) < (5 : Int) then (ns.length : Int) else (5 : Int)) else 1) := by
      split <;> split <;> omega
    generalize (if (if (ns.length : Int) < (5 : Int) then (ns.length : Int) else (5 : Int)) > 1 then (if (ns.length : Int) < (5 : Int) then (ns.length : Int) else (5 : Int)) else 1) = N at *
    refine ⟨by omega, by omega, ?_⟩
    refine for_range (lo := 0) (n := N.toNat) (fun i σ H' => ∃ v1 v2 v3 v4 v5 v6 v7 v8, σ = [some (.ref a), v1, v2, v3, v4, v5, v6, v7, v8] ∧ Same H H') ⟨_, _, _, _, _, _, _, _, rfl, Same.refl _⟩ ?_ ?_
    · rintro i σ H1 hi ⟨v1, v2, v3, v4, v5, v6, v7, v8, rfl, s1⟩
      refine ⟨_, rfl, _, rfl, a, ns, _, rfl, s1.seq hS, by omega, by omega, fun H2 r s2 hr0 hr1 => ?_⟩
      have top : ∀ {H' : Hp}, Ext r H2 H' → Same H H' := fun e b o h => e.keep b o (ne_of_none (s1 _ _ h) hr0) (s2 _ _ (s1 _ _ h))
      refine ⟨_, rfl, r, rfl, hr1, fun H3 t l xs p g e3 ht hl R D => ?_⟩
      have nt := hr1.ne ht
      have nl := hr1.ne hl
      have s3 : 3 ≤ stp p := by unfold stp; split <;> decide
      refine ⟨_, rfl, _, rfl, r, t, l, xs, p, g, off (cvAt xs p g) (gn p g), off (cvAt xs p g) (gn p g), off (cvAt xs p g) (gn p g), rfl, e3.rng, R, nt, nl, D.nr, s3, .inl rfl, rfl, fun H4 y1 x1 l1 F1 e4 M1 => ?_⟩
      have R4 : RowH H4 t l xs p g := ⟨e4.keep _ _ nt R.1, e4.keep _ _ nl R.2⟩
      refine ⟨_, rfl, _, rfl, r, t, l, xs, p, g, off (cvAt xs p g) (gn p g), off (cvAt xs p g) (gn p g), off (cvAt xs p g) (gn p g), rfl, e4.rng, R4, nt, nl, D.nr, s3, .inl rfl, rfl, fun H5 y2 x2 l2 F2 e5 M2 => ?_⟩
      have R5 : RowH H5 t l xs p g := ⟨e5.keep _ _ nt R4.1, e5.keep _ _ nl R4.2⟩
      refine ⟨_, rfl, _, rfl, _, rfl, r, t, l, xs, p, g, rfl, e5.rng, R5, nt, nl, D, fun H6 t' l' ys h e6 ht' hl' R' NR => ?_⟩
      have N' := NR.nr D
      refine ⟨r, t', l', ys, p, h, off (cvAt ys p h) (gn p h), off (cvAt ys p h) (gn p h), off (cvAt ys p h) (gn p h), rfl, e6.rng, R', e5.rng.ne ht', e5.rng.ne hl', N', s3, .inl rfl, rfl, fun H7 y3 x3 l3 F3 e7 M3 => ?_⟩
      refine ⟨(by show 3 ≤ sizeLine; decide), fun L hL => ?_⟩
      have SP := NR.spec D
      have e27 := (((e3.trans e4).trans e5).trans e6).trans e7
      have s8 := Same.upd (o := .lst [.ref y1, .ref y2, .ref y3]) (Same.refl H7) hL
      have M18 := (((M1.ext e5).ext (e6.trans e7)).same s8).wk (e2 := off (cvAt ys p h) (gn p h)) (.inl rfl)
      have M28 := ((M2.ext (e6.trans e7)).same s8).wk (e2 := off (cvAt ys p h) (gn p h)) (.inl rfl)
      have M38 := (M3.same s8).wk (e1 := off (cvAt xs p g) (gn p g)) (.inr rfl)
      have e28 := e27.same s8
      have hL8 : upd H7 L (.lst [.ref y1, .ref y2, .ref y3]) L = some (.lst [.ref y1, .ref y2, .ref y3]) := upd_same
      generalize upd H7 L (.lst [.ref y1, .ref y2, .ref y3]) = H8 at *
      have all : ∀ (i : Nat) (v : V), ([.ref y1, .ref y2, .ref y3] : List V)[i]? = some v → ∃ y x l F, v = .ref y ∧ Md A H8 r y (off (cvAt xs p g) (gn p g)) (off (cvAt ys p h) (gn p h)) (stp p) x l F := fun i v hv => by
        match i, hv with
        | 0, e => cases e; exact ⟨_, _, _, _, rfl, M18⟩
        | 1, e => cases e; exact ⟨_, _, _, _, rfl, M28⟩
        | 2, e => cases e; exact ⟨_, _, _, _, rfl, M38⟩
        | n + 3, e => cases e
      clear M1 M2 M3 M28 M38 R R4 R5 R' e3 e4 e5 e6 e7 e27 s8 N' ht hl ht' hl'
      refine ⟨_, rfl, L, rfl, ⟨_, SqL.of hL8⟩, ?_⟩
      refine for_list (K := K) (a := L) (xs := [.ref y1, .ref y2, .ref y3]) (fun j σ H' => ∃ v5 v6, σ = [some (.ref a), some (.int (0 + (i : Int))), some (.ref r), some (.ref t), some (.ref L), v5, v6, v7, v8] ∧ Same H8 H')
        ⟨_, _, rfl, Same.refl _⟩ (fun j σ H' _ ⟨_, _, _, s⟩ => SqL.of (s _ _ hL8)) ?_ ?_
      · rintro j v σ H9 hv ⟨v5, v6, rfl, s9⟩
        obtain ⟨y, x, ly, F, rfl, M⟩ := all j v hv
        refine ⟨_, rfl, L, rfl, ⟨_, SqL.of (s9 _ _ hL8)⟩, ?_⟩
        refine for_list (K := K) (a := L) (xs := [.ref y1, .ref y2, .ref y3]) (fun j σ H' => ∃ v6, σ = [some (.ref a), some (.int (0 + (i : Int))), some (.ref r), some (.ref t), some (.ref L), some (.ref y), v6, v7, v8] ∧ Same H8 H')
          ⟨_, rfl, s9⟩ (fun j σ H' _ ⟨_, _, s⟩ => SqL.of (s _ _ hL8)) ?_ ?_
        · rintro j2 v2 σ H10 hv2 ⟨v6, rfl, s10⟩
          obtain ⟨y', x', ly', F', rfl, M'⟩ := all j2 v2 hv2
          refine ⟨_, rfl, _, rfl, r, y, y', x, ly, x', ly', F, F', _, _, _, _, rfl, SP, M.same s10, M'.same s10, fun H11 s11 => ⟨_, rfl, iteF ?_⟩⟩
          exact ⟨_, rfl, s10.trans s11⟩
        · rintro σ H10 ⟨v6, rfl, s10⟩
          exact ⟨_, _, rfl, s10⟩
      rintro σ H9 ⟨v5, v6, rfl, s9⟩
      have M19 := M18.same s9
      have e29 := e28.same s9
      refine ⟨_, rfl, L, _, _, _, rfl, rfl, SqL.of (s9 _ _ hL8), (show atI [V.ref y1, V.ref y2, V.ref y3] ((0 : Nat) : Int) = some (.ref y1) from atI_nat rfl), y1, _, _, _, rfl, rfl, SqT.of M19.tup, (show atI [V.ref x1, V.ref l1] ((0 : Nat) : Int) = some (.ref x1) from atI_nat rfl), ?_⟩
      clear all M18 e28 s9 SP NR hL8 hL
      obtain ⟨c1, p1, g1, dx1, la, w1, b1, hx1, hl1, O1, nx1, nl1⟩ := M19.cv
      obtain ⟨u1, q1, h1⟩ := O1.small fun t t0 t1 => M19.b t t0 (by omega)
      have n1 := O1.n
      have p10 := O1.p0
      have p112 := O1.p12
      have C1 : CrvAt A H9 x1 c1 p1 g1 := ⟨dx1, la, w1, b1, hx1, hl1⟩
      refine ⟨_, rfl, x1, dx1, _, rfl, hx1, cfs_no _ _ _ (by decide +kernel) (by decide +kernel) (by decide +kernel), x1, c1, p1, g1, rfl, C1, fun H10 q s10 hq0 hq => ?_⟩
      have sz : VR.Sz 1 1000000 (.list (c1.map PyData.int)) := (VR.Sz.ints (n := 1000) u1 (by omega)).mono (by decide) (by decide)
      refine ⟨_, rfl, _, rfl, q, _, rfl, .inl ⟨SqL.of hq, fun tq htq => ?_⟩⟩
      have s11 := Same.upd (o := .tup (c1.map V.int)) (Same.refl H10) htq
      have t11 : upd H10 tq (.tup (c1.map V.int)) tq = some (.tup (c1.map V.int)) := upd_same
      generalize upd H10 tq (.tup (c1.map V.int)) = H11 at *
      have s911 := s10.trans s11
      refine ⟨_, rfl, x1, dx1, _, rfl, s911 _ _ hx1, x1, c1, p1, g1, rfl, C1.same s911, sz, q1, h1, _, rfl, ?_⟩
      refine ⟨_, rfl, x1, dx1, _, rfl, s911 _ _ hx1, x1, c1, p1, g1, rfl, C1.same s911, u1, by omega, q1, h1, fun H12 s12 _ => ⟨_, rfl, ?_⟩⟩
      have s912 := s911.trans s12
      refine ⟨_, rfl, x1, dx1, _, rfl, s912 _ _ hx1, x1, c1, p1, g1, rfl, C1.same s912, p10, by omega, fun H13 rt s13 hrt => ?_⟩
      intro dd hdd
      have s14 := Same.upd (o := .dK []) (Same.refl H13) hdd
      have d14 : upd H13 dd (.dK []) dd = some (.dK []) := upd_same
      generalize upd H13 dd (.dK []) = H14 at *
      refine ⟨(by show 10 ≤ sizeLine; decide), fun Z hZ => ?_⟩
      generalize crvS c1 p1 g1 = S1
      generalize strS c1 p1 g1 = S2
      generalize hxs : ([.non, .int 0, .str "", .ref q, .ref tq, .str S1, .str S2, .ref rt, .ref dd, .bl true] : List V) = things at *
      have s15 := Same.upd (o := .lst things) (Same.refl H14) hZ
      have z15 : upd H14 Z (.lst things) Z = some (.lst things) := upd_same
      generalize upd H14 Z (.lst things) = H15 at *
      have kd : ∀ (i : Nat) (v : V), things[i]? = some v → ∃ n, TyX K H15 v (.type n) ∧ n ∈ VN.kinds := fun i v hv => by
        subst hxs
        match i, hv with
        | 0, e => cases e; exact ⟨_, .base .non, by decide⟩
        | 1, e => cases e; exact ⟨_, .base (.int _), by decide⟩
        | 2, e => cases e; exact ⟨_, .base (.str _), by decide⟩
        | 3, e => cases e; exact ⟨_, .base (.lst (s15 _ _ (s14 _ _ (s13 _ _ (s12 _ _ (s11 _ _ hq)))))), by decide⟩
        | 4, e => cases e; exact ⟨_, .base (.tup (s15 _ _ (s14 _ _ (s13 _ _ (s12 _ _ t11))))), by decide⟩
        | 5, e => cases e; exact ⟨_, .base (.str _), by decide⟩
        | 6, e => cases e; exact ⟨_, .base (.str _), by decide⟩
        | 7, e => cases e; exact ⟨_, .base (.tup (s15 _ _ (s14 _ _ hrt))), by decide⟩
        | 8, e => cases e; exact ⟨_, .base (.dK (s15 _ _ d14)), by decide⟩
        | 9, e => cases e; exact ⟨_, .base (.bl _), by decide⟩
        | n + 10, e => cases e
      have s915 := ((s912.trans s13).trans s14).trans s15
      have C15 := C1.same s915
      have hx15 := s915 _ _ hx1
      have fin := top (e29.same s915)
      clear s11 t11 s12 s13 s14 d14 hZ hrt hdd htq s912 s911 s915 hq hq0 s10 hxs
      refine ⟨Z, rfl, ⟨_, SqL.of z15⟩, ?_⟩
      refine for_list (K := K) (a := Z) (xs := things) (fun j σ H' => ∃ v8, σ = [some (.ref a), some (.int (0 + (i : Int))), some (.ref r), some (.ref t), some (.ref L), some (.ref q), v6, some (.ref x1), v8] ∧ H' = H15)
        ⟨_, rfl, rfl⟩ (fun j σ H' _ ⟨_, _, e⟩ => e ▸ SqL.of z15) ?_ ?_
      · rintro j v σ H16 hv ⟨v8, rfl, rfl⟩
        obtain ⟨n, ty, hn⟩ := kd j v hv
        refine ⟨_, rfl, _, rfl, x1, dx1, _, _, rfl, hx15, ty, VN.notFirst_ty hn, x1, c1, p1, g1, v, rfl, C15, .inr ⟨n, ty, hn, ⟨_, rfl, ?_⟩⟩⟩
        refine ⟨_, rfl, iteF ?_⟩
        refine ⟨_, rfl, _, rfl, x1, dx1, _, _, rfl, hx15, ty, VN.notFirst_ty hn, x1, c1, p1, g1, v, rfl, C15, .inr ⟨n, ty, hn, ⟨_, rfl, ?_⟩⟩⟩
        exact ⟨_, rfl, iteF ⟨_, rfl, rfl⟩⟩
      · rintro σ H16 ⟨v8, rfl, rfl⟩
        exact ⟨_, _, _, _, _, _, _, _, rfl, fin⟩
    · rintro σ H1 ⟨v1, v2, v3, v4, v5, v6, v7, v8, rfl, s1⟩
      exact k _
end
end VK


namespace VK
open PySem PySem.Spec PyProof.Rows L2 VM
theorem all_mk {l : PySem.W.OpenLaw} {w : World} {K : PySem.W.Frag} {h : Heap} {mg : Str → Option Value} {fa : Addr} (X : K.In h) (G : h.Ns mainGlobals mg) (hfa : mg "law" = some (.ref fa))
    {C_Curve : Addr}
    {f_is_integer : Addr} {od_is_integer an_is_integer : Option Addr} {sl_is_integer : Array (Option Value)} {oc_is_integer kV_is_integer dc_is_integer pm_is_integer cd_is_integer ct_is_integer : Value}
    {f_is_count : Addr} {od_is_count an_is_count : Option Addr} {sl_is_count : Array (Option Value)} {oc_is_count kV_is_count dc_is_count pm_is_count cd_is_count ct_is_count : Value}
    {f_is_count_to : Addr} {od_is_count_to an_is_count_to : Option Addr} {sl_is_count_to : Array (Option Value)} {oc_is_count_to kV_is_count_to dc_is_count_to pm_is_count_to cd_is_count_to ct_is_count_to : Value}
    {f_require_count_to : Addr} {od_require_count_to an_require_count_to : Option Addr} {sl_require_count_to : Array (Option Value)} {oc_require_count_to kV_require_count_to dc_require_count_to pm_require_count_to cd_require_count_to ct_require_count_to : Value}
    {f_rounded_up : Addr} {od_rounded_up an_rounded_up : Option Addr} {sl_rounded_up : Array (Option Value)} {oc_rounded_up kV_rounded_up dc_rounded_up pm_rounded_up cd_rounded_up ct_rounded_up : Value}
    {f_value_at : Addr} {od_value_at an_value_at : Option Addr} {sl_value_at : Array (Option Value)} {oc_value_at kV_value_at dc_value_at pm_value_at cd_value_at ct_value_at : Value}
    {f_least_form : Addr} {od_least_form an_least_form : Option Addr} {sl_least_form : Array (Option Value)} {oc_least_form kV_least_form dc_least_form pm_least_form cd_least_form ct_least_form : Value}
    {f_least_period : Addr} {od_least_period an_least_period : Option Addr} {sl_least_period : Array (Option Value)} {oc_least_period kV_least_period dc_least_period pm_least_period cd_least_period ct_least_period : Value}
    {f_form_of_pieces : Addr} {od_form_of_pieces an_form_of_pieces : Option Addr} {sl_form_of_pieces : Array (Option Value)} {oc_form_of_pieces kV_form_of_pieces dc_form_of_pieces pm_form_of_pieces cd_form_of_pieces ct_form_of_pieces : Value}
    {f_line_at : Addr} {od_line_at an_line_at : Option Addr} {sl_line_at : Array (Option Value)} {oc_line_at kV_line_at dc_line_at pm_line_at cd_line_at ct_line_at : Value}
    {f_C_init : Addr} {od_C_init an_C_init : Option Addr} {sl_C_init : Array (Option Value)} {oc_C_init dc_C_init pm_C_init cd_C_init ct_C_init : Value}
    {D_C_init : Addr}
    {t_C_init_period : Tok}
    {t_C_init_gain : Tok}
    {f_C_of_pieces : Addr} {od_C_of_pieces an_C_of_pieces : Option Addr} {sl_C_of_pieces : Array (Option Value)} {oc_C_of_pieces kV_C_of_pieces dc_C_of_pieces pm_C_of_pieces cd_C_of_pieces ct_C_of_pieces : Value}
    {p_C_of_pieces : Addr} {r_C_of_pieces : List Value}
    {f_C_eq : Addr} {od_C_eq an_C_eq : Option Addr} {sl_C_eq : Array (Option Value)} {oc_C_eq kV_C_eq dc_C_eq pm_C_eq cd_C_eq ct_C_eq : Value}
    {f_C_repr : Addr} {od_C_repr an_C_repr : Option Addr} {sl_C_repr : Array (Option Value)} {oc_C_repr kV_C_repr dc_C_repr pm_C_repr cd_C_repr ct_C_repr : Value}
    {f_C_str : Addr} {od_C_str an_C_str : Option Addr} {sl_C_str : Array (Option Value)} {oc_C_str kV_C_str dc_C_str pm_C_str cd_C_str ct_C_str : Value}
    {f_C_add : Addr} {od_C_add an_C_add : Option Addr} {sl_C_add : Array (Option Value)} {oc_C_add kV_C_add dc_C_add pm_C_add cd_C_add ct_C_add : Value}
    {f_C_period : Addr} {od_C_period an_C_period : Option Addr} {sl_C_period : Array (Option Value)} {oc_C_period kV_C_period dc_C_period pm_C_period cd_C_period ct_C_period : Value}
    {p_C_period : Addr} {r_C_period : List Value}
    {f_C_gain : Addr} {od_C_gain an_C_gain : Option Addr} {sl_C_gain : Array (Option Value)} {oc_C_gain kV_C_gain dc_C_gain pm_C_gain cd_C_gain ct_C_gain : Value}
    {p_C_gain : Addr} {r_C_gain : List Value}
    {f_C_rate : Addr} {od_C_rate an_C_rate : Option Addr} {sl_C_rate : Array (Option Value)} {oc_C_rate kV_C_rate dc_C_rate pm_C_rate cd_C_rate ct_C_rate : Value}
    {p_C_rate : Addr} {r_C_rate : List Value}
    {f_C_first_values : Addr} {od_C_first_values an_C_first_values : Option Addr} {sl_C_first_values : Array (Option Value)} {oc_C_first_values kV_C_first_values dc_C_first_values pm_C_first_values cd_C_first_values ct_C_first_values : Value}
    {f_C_at : Addr} {od_C_at an_C_at : Option Addr} {sl_C_at : Array (Option Value)} {oc_C_at kV_C_at dc_C_at pm_C_at cd_C_at ct_C_at : Value}
    {f_C_at_most : Addr} {od_C_at_most an_C_at_most : Option Addr} {sl_C_at_most : Array (Option Value)} {oc_C_at_most kV_C_at_most dc_C_at_most pm_C_at_most cd_C_at_most ct_C_at_most : Value}
    {f_C_later : Addr} {od_C_later an_C_later : Option Addr} {sl_C_later : Array (Option Value)} {oc_C_later kV_C_later dc_C_later pm_C_later cd_C_later ct_C_later : Value}
    {f_make_curve : Addr} {od_make_curve an_make_curve : Option Addr} {sl_make_curve : Array (Option Value)} {oc_make_curve kV_make_curve dc_make_curve pm_make_curve cd_make_curve ct_make_curve : Value}
    {f_find_problem : Addr} {od_find_problem an_find_problem : Option Addr} {sl_find_problem : Array (Option Value)} {oc_find_problem kV_find_problem dc_find_problem pm_find_problem cd_find_problem ct_find_problem : Value}
    {f_find_wrong_piece : Addr} {od_find_wrong_piece an_find_wrong_piece : Option Addr} {sl_find_wrong_piece : Array (Option Value)} {oc_find_wrong_piece kV_find_wrong_piece dc_find_wrong_piece pm_find_wrong_piece cd_find_wrong_piece ct_find_wrong_piece : Value}
    {f_is_piece : Addr} {od_is_piece an_is_piece : Option Addr} {sl_is_piece : Array (Option Value)} {oc_is_piece kV_is_piece dc_is_piece pm_is_piece cd_is_piece ct_is_piece : Value}
    {f_common_writing : Addr} {od_common_writing an_common_writing : Option Addr} {sl_common_writing : Array (Option Value)} {oc_common_writing kV_common_writing dc_common_writing pm_common_writing cd_common_writing ct_common_writing : Value}
    {f_gain_in : Addr} {od_gain_in an_gain_in : Option Addr} {sl_gain_in : Array (Option Value)} {oc_gain_in kV_gain_in dc_gain_in pm_gain_in cd_gain_in ct_gain_in : Value}
    {f_tightest : Addr} {od_tightest an_tightest : Option Addr} {sl_tightest : Array (Option Value)} {oc_tightest kV_tightest dc_tightest pm_tightest cd_tightest ct_tightest : Value}
    {f_require_record : Addr} {od_require_record an_require_record : Option Addr} {sl_require_record : Array (Option Value)} {oc_require_record kV_require_record dc_require_record pm_require_record cd_require_record ct_require_record : Value}
    {f_sums_before : Addr} {od_sums_before an_sums_before : Option Addr} {sl_sums_before : Array (Option Value)} {oc_sums_before kV_sums_before dc_sums_before pm_sums_before cd_sums_before ct_sums_before : Value}
    {f_window_sums : Addr} {od_window_sums an_window_sums : Option Addr} {sl_window_sums : Array (Option Value)} {oc_window_sums kV_window_sums dc_window_sums pm_window_sums cd_window_sums ct_window_sums : Value}
    {f_l_rng : Addr} {od_l_rng an_l_rng : Option Addr} {sl_l_rng : Array (Option Value)} {oc_l_rng kV_l_rng dc_l_rng pm_l_rng cd_l_rng ct_l_rng : Value}
    {f_l_draw : Addr} {od_l_draw an_l_draw : Option Addr} {sl_l_draw : Array (Option Value)} {oc_l_draw kV_l_draw dc_l_draw pm_l_draw cd_l_draw ct_l_draw : Value}
    {f_l_choice : Addr} {od_l_choice an_l_choice : Option Addr} {sl_l_choice : Array (Option Value)} {oc_l_choice kV_l_choice dc_l_choice pm_l_choice cd_l_choice ct_l_choice : Value}
    {f_l_at : Addr} {od_l_at an_l_at : Option Addr} {sl_l_at : Array (Option Value)} {oc_l_at kV_l_at dc_l_at pm_l_at cd_l_at ct_l_at : Value}
    {f_l_written : Addr} {od_l_written an_l_written : Option Addr} {sl_l_written : Array (Option Value)} {oc_l_written kV_l_written dc_l_written pm_l_written cd_l_written ct_l_written : Value}
    {f_l_nearly : Addr} {od_l_nearly an_l_nearly : Option Addr} {sl_l_nearly : Array (Option Value)} {oc_l_nearly kV_l_nearly dc_l_nearly pm_l_nearly cd_l_nearly ct_l_nearly : Value}
    {f_l_values : Addr} {od_l_values an_l_values : Option Addr} {sl_l_values : Array (Option Value)} {oc_l_values kV_l_values dc_l_values pm_l_values cd_l_values ct_l_values : Value}
    {f_l_line : Addr} {od_l_line an_l_line : Option Addr} {sl_l_line : Array (Option Value)} {oc_l_line kV_l_line dc_l_line pm_l_line cd_l_line ct_l_line : Value}
    {f_l_made : Addr} {od_l_made an_l_made : Option Addr} {sl_l_made : Array (Option Value)} {oc_l_made kV_l_made dc_l_made pm_l_made cd_l_made ct_l_made : Value}
    {f_l_shown : Addr} {od_l_shown an_l_shown : Option Addr} {sl_l_shown : Array (Option Value)} {oc_l_shown kV_l_shown dc_l_shown pm_l_shown cd_l_shown ct_l_shown : Value}
    {f_l_pair_right : Addr} {od_l_pair_right an_l_pair_right : Option Addr} {sl_l_pair_right : Array (Option Value)} {oc_l_pair_right kV_l_pair_right dc_l_pair_right pm_l_pair_right cd_l_pair_right ct_l_pair_right : Value}
    {f_law : Addr} {od_law an_law : Option Addr} {sl_law : Array (Option Value)} {oc_law kV_law dc_law pm_law cd_law ct_law : Value}
    {t_LONGEST_PERIOD : Tok}
    {t_MAX_IN_PIECE : Tok}
    {t_MAX_LATER : Tok}
    {t_MAX_VALUE : Tok}
    {t_MAX_VALUES : Tok}
    {a_PERIODS : Addr} {uPERIODS0 uPERIODS1 uPERIODS2 uPERIODS3 uPERIODS4 uPERIODS5 : Tok} {od_PERIODS : Option Addr} {n_PERIODS : Nat} {sl_PERIODS : Array (Option Value)}
    (fun_lcm : PySem.W.nsIn K mainGlobals "lcm" = some (some (.builtin "math.lcm")))
    (fun_gcd : PySem.W.nsIn K mainGlobals "gcd" = some (some (.builtin "math.gcd")))
    (g_Curve : PySem.W.nsIn K mainGlobals "Curve" = some (some (.ref C_Curve)))
    (pg_Curve : PySem.W.plainGet K C_Curve Str.empty = true)
    (hd_Curve : PySem.W.hasDictIn K C_Curve = true)
    (po_Curve : PySem.W.plainOver K C_Curve = true)
    (sa_Curve : PySem.W.findIn K (.ref C_Curve) "__setattr__" = some (some (.builtin "object.__setattr__")))
    (mk_Curve : PySem.W.makesIn K C_Curve = true)
    (kc_Curve : PySem.W.keepIn K (.ref C_Curve) = true)
    (ic_Curve : PySem.W.isClsIn K C_Curve = true)
    (it_Curve : PySem.W.typeIn K (.ref C_Curve) = some (.type "type"))
    (ig_Curve : PySem.W.findIn K (.ref C_Curve) "__class__" = some (some (.builtin "object.__class__")))
    (io_Curve : PySem.W.mroIn K C_Curve (.type "object") = some true)
    (ie_Curve : PySem.W.findIn K (.ref C_Curve) "__ne__" = some (some (.builtin "object.__ne__")))
    (i_gn : PySem.W.specialIn K (.builtin "object.__class__") "__get__" = some (some (.builtin "getset_descriptor.__get__")))
    (i_tk : PySem.W.takesIn K (.builtin "object.__class__") = some true)
    (sf_Curve : PySem.W.selfFirst K C_Curve = true)
    (n_Curve_values : PySem.W.findIn K (.ref C_Curve) "_values" = some none)
    (n_Curve_period : PySem.W.findIn K (.ref C_Curve) "_period" = some none)
    (n_Curve_gain : PySem.W.findIn K (.ref C_Curve) "_gain" = some none)
    (n_Curve_was_searched : PySem.W.findIn K (.ref C_Curve) "_was_searched" = some none)
    (n_Curve_break : PySem.W.findIn K (.ref C_Curve) "_break" = some none)
    (a_is_integer : PySem.W.nsIn K mainGlobals "is_integer" = some (some (.ref f_is_integer)))
    (l_is_integer : K.lookup f_is_integer = some ⟨oc_is_integer, od_is_integer, .func (PySem.W.fnOf "is_integer" "is_integer" (defArgs s_is_integer) (defBody s_is_integer) (defScope s_is_integer) .none kV_is_integer dc_is_integer pm_is_integer an_is_integer cd_is_integer ct_is_integer), sl_is_integer⟩)
    (c_is_integer : PySem.W.codeIn K cd_is_integer "is_integer" = true)
    (k_is_integer : PySem.W.keepIn K (.ref f_is_integer) = true)
    (a_is_count : PySem.W.nsIn K mainGlobals "is_count" = some (some (.ref f_is_count)))
    (l_is_count : K.lookup f_is_count = some ⟨oc_is_count, od_is_count, .func (PySem.W.fnOf "is_count" "is_count" (defArgs s_is_count) (defBody s_is_count) (defScope s_is_count) .none kV_is_count dc_is_count pm_is_count an_is_count cd_is_count ct_is_count), sl_is_count⟩)
    (c_is_count : PySem.W.codeIn K cd_is_count "is_count" = true)
    (k_is_count : PySem.W.keepIn K (.ref f_is_count) = true)
    (a_is_count_to : PySem.W.nsIn K mainGlobals "is_count_to" = some (some (.ref f_is_count_to)))
    (l_is_count_to : K.lookup f_is_count_to = some ⟨oc_is_count_to, od_is_count_to, .func (PySem.W.fnOf "is_count_to" "is_count_to" (defArgs s_is_count_to) (defBody s_is_count_to) (defScope s_is_count_to) .none kV_is_count_to dc_is_count_to pm_is_count_to an_is_count_to cd_is_count_to ct_is_count_to), sl_is_count_to⟩)
    (c_is_count_to : PySem.W.codeIn K cd_is_count_to "is_count_to" = true)
    (k_is_count_to : PySem.W.keepIn K (.ref f_is_count_to) = true)
    (a_require_count_to : PySem.W.nsIn K mainGlobals "require_count_to" = some (some (.ref f_require_count_to)))
    (l_require_count_to : K.lookup f_require_count_to = some ⟨oc_require_count_to, od_require_count_to, .func (PySem.W.fnOf "require_count_to" "require_count_to" (defArgs s_require_count_to) (defBody s_require_count_to) (defScope s_require_count_to) .none kV_require_count_to dc_require_count_to pm_require_count_to an_require_count_to cd_require_count_to ct_require_count_to), sl_require_count_to⟩)
    (c_require_count_to : PySem.W.codeIn K cd_require_count_to "require_count_to" = true)
    (k_require_count_to : PySem.W.keepIn K (.ref f_require_count_to) = true)
    (a_rounded_up : PySem.W.nsIn K mainGlobals "rounded_up" = some (some (.ref f_rounded_up)))
    (l_rounded_up : K.lookup f_rounded_up = some ⟨oc_rounded_up, od_rounded_up, .func (PySem.W.fnOf "rounded_up" "rounded_up" (defArgs s_rounded_up) (defBody s_rounded_up) (defScope s_rounded_up) .none kV_rounded_up dc_rounded_up pm_rounded_up an_rounded_up cd_rounded_up ct_rounded_up), sl_rounded_up⟩)
    (c_rounded_up : PySem.W.codeIn K cd_rounded_up "rounded_up" = true)
    (k_rounded_up : PySem.W.keepIn K (.ref f_rounded_up) = true)
    (a_value_at : PySem.W.nsIn K mainGlobals "value_at" = some (some (.ref f_value_at)))
    (l_value_at : K.lookup f_value_at = some ⟨oc_value_at, od_value_at, .func (PySem.W.fnOf "value_at" "value_at" (defArgs s_value_at) (defBody s_value_at) (defScope s_value_at) .none kV_value_at dc_value_at pm_value_at an_value_at cd_value_at ct_value_at), sl_value_at⟩)
    (c_value_at : PySem.W.codeIn K cd_value_at "value_at" = true)
    (k_value_at : PySem.W.keepIn K (.ref f_value_at) = true)
    (a_least_form : PySem.W.nsIn K mainGlobals "least_form" = some (some (.ref f_least_form)))
    (l_least_form : K.lookup f_least_form = some ⟨oc_least_form, od_least_form, .func (PySem.W.fnOf "least_form" "least_form" (defArgs s_least_form) (defBody s_least_form) (defScope s_least_form) .none kV_least_form dc_least_form pm_least_form an_least_form cd_least_form ct_least_form), sl_least_form⟩)
    (c_least_form : PySem.W.codeIn K cd_least_form "least_form" = true)
    (k_least_form : PySem.W.keepIn K (.ref f_least_form) = true)
    (a_least_period : PySem.W.nsIn K mainGlobals "least_period" = some (some (.ref f_least_period)))
    (l_least_period : K.lookup f_least_period = some ⟨oc_least_period, od_least_period, .func (PySem.W.fnOf "least_period" "least_period" (defArgs s_least_period) (defBody s_least_period) (defScope s_least_period) .none kV_least_period dc_least_period pm_least_period an_least_period cd_least_period ct_least_period), sl_least_period⟩)
    (c_least_period : PySem.W.codeIn K cd_least_period "least_period" = true)
    (k_least_period : PySem.W.keepIn K (.ref f_least_period) = true)
    (a_form_of_pieces : PySem.W.nsIn K mainGlobals "form_of_pieces" = some (some (.ref f_form_of_pieces)))
    (l_form_of_pieces : K.lookup f_form_of_pieces = some ⟨oc_form_of_pieces, od_form_of_pieces, .func (PySem.W.fnOf "form_of_pieces" "form_of_pieces" (defArgs s_form_of_pieces) (defBody s_form_of_pieces) (defScope s_form_of_pieces) .none kV_form_of_pieces dc_form_of_pieces pm_form_of_pieces an_form_of_pieces cd_form_of_pieces ct_form_of_pieces), sl_form_of_pieces⟩)
    (c_form_of_pieces : PySem.W.codeIn K cd_form_of_pieces "form_of_pieces" = true)
    (k_form_of_pieces : PySem.W.keepIn K (.ref f_form_of_pieces) = true)
    (a_line_at : PySem.W.nsIn K mainGlobals "line_at" = some (some (.ref f_line_at)))
    (l_line_at : K.lookup f_line_at = some ⟨oc_line_at, od_line_at, .func (PySem.W.fnOf "line_at" "line_at" (defArgs s_line_at) (defBody s_line_at) (defScope s_line_at) .none kV_line_at dc_line_at pm_line_at an_line_at cd_line_at ct_line_at), sl_line_at⟩)
    (c_line_at : PySem.W.codeIn K cd_line_at "line_at" = true)
    (k_line_at : PySem.W.keepIn K (.ref f_line_at) = true)
    (a_C_init : PySem.W.findIn K (.ref C_Curve) "__init__" = some (some (.ref f_C_init)))
    (i_C_init : PySem.W.isFn K (.ref f_C_init) = true)
    (l_C_init : K.lookup f_C_init = some ⟨oc_C_init, od_C_init, .func (PySem.W.fnOf "__init__" "Curve.__init__" (defArgs s_C_init) (defBody s_C_init) (defScope s_C_init) .none (.ref D_C_init) dc_C_init pm_C_init an_C_init cd_C_init ct_C_init), sl_C_init⟩)
    (c_C_init : PySem.W.codeIn K cd_C_init "Curve.__init__" = true)
    (k_C_init : PySem.W.keepIn K (.ref f_C_init) = true)
    (d_C_init_period : PySem.W.nsIn K D_C_init "period" = some (some (.int 1 t_C_init_period)))
    (d_C_init_gain : PySem.W.nsIn K D_C_init "gain" = some (some (.int 0 t_C_init_gain)))
    (a_C_of_pieces : PySem.W.findCls K (.ref C_Curve) (.type "type") "of_pieces" = some (.get (.builtin "classmethod.__get__") (.ref p_C_of_pieces) .none (.ref C_Curve)))
    (rc_C_of_pieces : PySem.W.recIn K p_C_of_pieces "classmethod" = some (.ref f_C_of_pieces :: r_C_of_pieces))
    (fi_C_of_pieces : PySem.W.fnIn K f_C_of_pieces = true)
    (rr_C_of_pieces : PySem.W.readsIn K C_Curve (.type "type") = true)
    (rg_C_of_pieces : PySem.W.specialIn K (.ref C_Curve) "__getattribute__" = some (some (.builtin "type.__getattribute__")))
    (l_C_of_pieces : K.lookup f_C_of_pieces = some ⟨oc_C_of_pieces, od_C_of_pieces, .func (PySem.W.fnOf "of_pieces" "Curve.of_pieces" (defArgs s_C_of_pieces) (defBody s_C_of_pieces) (defScope s_C_of_pieces) .none kV_C_of_pieces dc_C_of_pieces pm_C_of_pieces an_C_of_pieces cd_C_of_pieces ct_C_of_pieces), sl_C_of_pieces⟩)
    (c_C_of_pieces : PySem.W.codeIn K cd_C_of_pieces "Curve.of_pieces" = true)
    (k_C_of_pieces : PySem.W.keepIn K (.ref f_C_of_pieces) = true)
    (a_C_eq : PySem.W.findIn K (.ref C_Curve) "__eq__" = some (some (.ref f_C_eq)))
    (i_C_eq : PySem.W.isFn K (.ref f_C_eq) = true)
    (l_C_eq : K.lookup f_C_eq = some ⟨oc_C_eq, od_C_eq, .func (PySem.W.fnOf "__eq__" "Curve.__eq__" (defArgs s_C_eq) (defBody s_C_eq) (defScope s_C_eq) .none kV_C_eq dc_C_eq pm_C_eq an_C_eq cd_C_eq ct_C_eq), sl_C_eq⟩)
    (c_C_eq : PySem.W.codeIn K cd_C_eq "Curve.__eq__" = true)
    (k_C_eq : PySem.W.keepIn K (.ref f_C_eq) = true)
    (a_C_repr : PySem.W.findIn K (.ref C_Curve) "__repr__" = some (some (.ref f_C_repr)))
    (i_C_repr : PySem.W.isFn K (.ref f_C_repr) = true)
    (l_C_repr : K.lookup f_C_repr = some ⟨oc_C_repr, od_C_repr, .func (PySem.W.fnOf "__repr__" "Curve.__repr__" (defArgs s_C_repr) (defBody s_C_repr) (defScope s_C_repr) .none kV_C_repr dc_C_repr pm_C_repr an_C_repr cd_C_repr ct_C_repr), sl_C_repr⟩)
    (c_C_repr : PySem.W.codeIn K cd_C_repr "Curve.__repr__" = true)
    (k_C_repr : PySem.W.keepIn K (.ref f_C_repr) = true)
    (a_C_str : PySem.W.findIn K (.ref C_Curve) "__str__" = some (some (.ref f_C_str)))
    (i_C_str : PySem.W.isFn K (.ref f_C_str) = true)
    (l_C_str : K.lookup f_C_str = some ⟨oc_C_str, od_C_str, .func (PySem.W.fnOf "__str__" "Curve.__str__" (defArgs s_C_str) (defBody s_C_str) (defScope s_C_str) .none kV_C_str dc_C_str pm_C_str an_C_str cd_C_str ct_C_str), sl_C_str⟩)
    (c_C_str : PySem.W.codeIn K cd_C_str "Curve.__str__" = true)
    (k_C_str : PySem.W.keepIn K (.ref f_C_str) = true)
    (a_C_add : PySem.W.findIn K (.ref C_Curve) "__add__" = some (some (.ref f_C_add)))
    (i_C_add : PySem.W.isFn K (.ref f_C_add) = true)
    (l_C_add : K.lookup f_C_add = some ⟨oc_C_add, od_C_add, .func (PySem.W.fnOf "__add__" "Curve.__add__" (defArgs s_C_add) (defBody s_C_add) (defScope s_C_add) .none kV_C_add dc_C_add pm_C_add an_C_add cd_C_add ct_C_add), sl_C_add⟩)
    (c_C_add : PySem.W.codeIn K cd_C_add "Curve.__add__" = true)
    (k_C_add : PySem.W.keepIn K (.ref f_C_add) = true)
    (a_C_period : PySem.W.findIn K (.ref C_Curve) "period" = some (some (.ref p_C_period)))
    (pg_C_period : PySem.W.specialIn K (.ref p_C_period) "__get__" = some (some (.builtin "property.__get__")))
    (pt_C_period : PySem.W.takesIn K (.ref p_C_period) = some true)
    (pr_C_period : PySem.W.recIn K p_C_period "property" = some (.ref f_C_period :: r_C_period))
    (l_C_period : K.lookup f_C_period = some ⟨oc_C_period, od_C_period, .func (PySem.W.fnOf "period" "Curve.period" (defArgs s_C_period) (defBody s_C_period) (defScope s_C_period) .none kV_C_period dc_C_period pm_C_period an_C_period cd_C_period ct_C_period), sl_C_period⟩)
    (c_C_period : PySem.W.codeIn K cd_C_period "Curve.period" = true)
    (k_C_period : PySem.W.keepIn K (.ref f_C_period) = true)
    (a_C_gain : PySem.W.findIn K (.ref C_Curve) "gain" = some (some (.ref p_C_gain)))
    (pg_C_gain : PySem.W.specialIn K (.ref p_C_gain) "__get__" = some (some (.builtin "property.__get__")))
    (pt_C_gain : PySem.W.takesIn K (.ref p_C_gain) = some true)
    (pr_C_gain : PySem.W.recIn K p_C_gain "property" = some (.ref f_C_gain :: r_C_gain))
    (l_C_gain : K.lookup f_C_gain = some ⟨oc_C_gain, od_C_gain, .func (PySem.W.fnOf "gain" "Curve.gain" (defArgs s_C_gain) (defBody s_C_gain) (defScope s_C_gain) .none kV_C_gain dc_C_gain pm_C_gain an_C_gain cd_C_gain ct_C_gain), sl_C_gain⟩)
    (c_C_gain : PySem.W.codeIn K cd_C_gain "Curve.gain" = true)
    (k_C_gain : PySem.W.keepIn K (.ref f_C_gain) = true)
    (a_C_rate : PySem.W.findIn K (.ref C_Curve) "rate" = some (some (.ref p_C_rate)))
    (pg_C_rate : PySem.W.specialIn K (.ref p_C_rate) "__get__" = some (some (.builtin "property.__get__")))
    (pt_C_rate : PySem.W.takesIn K (.ref p_C_rate) = some true)
    (pr_C_rate : PySem.W.recIn K p_C_rate "property" = some (.ref f_C_rate :: r_C_rate))
    (l_C_rate : K.lookup f_C_rate = some ⟨oc_C_rate, od_C_rate, .func (PySem.W.fnOf "rate" "Curve.rate" (defArgs s_C_rate) (defBody s_C_rate) (defScope s_C_rate) .none kV_C_rate dc_C_rate pm_C_rate an_C_rate cd_C_rate ct_C_rate), sl_C_rate⟩)
    (c_C_rate : PySem.W.codeIn K cd_C_rate "Curve.rate" = true)
    (k_C_rate : PySem.W.keepIn K (.ref f_C_rate) = true)
    (a_C_first_values : PySem.W.findIn K (.ref C_Curve) "first_values" = some (some (.ref f_C_first_values)))
    (i_C_first_values : PySem.W.isFn K (.ref f_C_first_values) = true)
    (l_C_first_values : K.lookup f_C_first_values = some ⟨oc_C_first_values, od_C_first_values, .func (PySem.W.fnOf "first_values" "Curve.first_values" (defArgs s_C_first_values) (defBody s_C_first_values) (defScope s_C_first_values) .none kV_C_first_values dc_C_first_values pm_C_first_values an_C_first_values cd_C_first_values ct_C_first_values), sl_C_first_values⟩)
    (c_C_first_values : PySem.W.codeIn K cd_C_first_values "Curve.first_values" = true)
    (k_C_first_values : PySem.W.keepIn K (.ref f_C_first_values) = true)
    (a_C_at : PySem.W.findIn K (.ref C_Curve) "at" = some (some (.ref f_C_at)))
    (i_C_at : PySem.W.isFn K (.ref f_C_at) = true)
    (l_C_at : K.lookup f_C_at = some ⟨oc_C_at, od_C_at, .func (PySem.W.fnOf "at" "Curve.at" (defArgs s_C_at) (defBody s_C_at) (defScope s_C_at) .none kV_C_at dc_C_at pm_C_at an_C_at cd_C_at ct_C_at), sl_C_at⟩)
    (c_C_at : PySem.W.codeIn K cd_C_at "Curve.at" = true)
    (k_C_at : PySem.W.keepIn K (.ref f_C_at) = true)
    (a_C_at_most : PySem.W.findIn K (.ref C_Curve) "at_most" = some (some (.ref f_C_at_most)))
    (i_C_at_most : PySem.W.isFn K (.ref f_C_at_most) = true)
    (l_C_at_most : K.lookup f_C_at_most = some ⟨oc_C_at_most, od_C_at_most, .func (PySem.W.fnOf "at_most" "Curve.at_most" (defArgs s_C_at_most) (defBody s_C_at_most) (defScope s_C_at_most) .none kV_C_at_most dc_C_at_most pm_C_at_most an_C_at_most cd_C_at_most ct_C_at_most), sl_C_at_most⟩)
    (c_C_at_most : PySem.W.codeIn K cd_C_at_most "Curve.at_most" = true)
    (k_C_at_most : PySem.W.keepIn K (.ref f_C_at_most) = true)
    (a_C_later : PySem.W.findIn K (.ref C_Curve) "later" = some (some (.ref f_C_later)))
    (i_C_later : PySem.W.isFn K (.ref f_C_later) = true)
    (l_C_later : K.lookup f_C_later = some ⟨oc_C_later, od_C_later, .func (PySem.W.fnOf "later" "Curve.later" (defArgs s_C_later) (defBody s_C_later) (defScope s_C_later) .none kV_C_later dc_C_later pm_C_later an_C_later cd_C_later ct_C_later), sl_C_later⟩)
    (c_C_later : PySem.W.codeIn K cd_C_later "Curve.later" = true)
    (k_C_later : PySem.W.keepIn K (.ref f_C_later) = true)
    (a_make_curve : PySem.W.nsIn K mainGlobals "make_curve" = some (some (.ref f_make_curve)))
    (l_make_curve : K.lookup f_make_curve = some ⟨oc_make_curve, od_make_curve, .func (PySem.W.fnOf "make_curve" "make_curve" (defArgs s_make_curve) (defBody s_make_curve) (defScope s_make_curve) .none kV_make_curve dc_make_curve pm_make_curve an_make_curve cd_make_curve ct_make_curve), sl_make_curve⟩)
    (c_make_curve : PySem.W.codeIn K cd_make_curve "make_curve" = true)
    (k_make_curve : PySem.W.keepIn K (.ref f_make_curve) = true)
    (a_find_problem : PySem.W.nsIn K mainGlobals "find_problem" = some (some (.ref f_find_problem)))
    (l_find_problem : K.lookup f_find_problem = some ⟨oc_find_problem, od_find_problem, .func (PySem.W.fnOf "find_problem" "find_problem" (defArgs s_find_problem) (defBody s_find_problem) (defScope s_find_problem) .none kV_find_problem dc_find_problem pm_find_problem an_find_problem cd_find_problem ct_find_problem), sl_find_problem⟩)
    (c_find_problem : PySem.W.codeIn K cd_find_problem "find_problem" = true)
    (k_find_problem : PySem.W.keepIn K (.ref f_find_problem) = true)
    (a_find_wrong_piece : PySem.W.nsIn K mainGlobals "find_wrong_piece" = some (some (.ref f_find_wrong_piece)))
    (l_find_wrong_piece : K.lookup f_find_wrong_piece = some ⟨oc_find_wrong_piece, od_find_wrong_piece, .func (PySem.W.fnOf "find_wrong_piece" "find_wrong_piece" (defArgs s_find_wrong_piece) (defBody s_find_wrong_piece) (defScope s_find_wrong_piece) .none kV_find_wrong_piece dc_find_wrong_piece pm_find_wrong_piece an_find_wrong_piece cd_find_wrong_piece ct_find_wrong_piece), sl_find_wrong_piece⟩)
    (c_find_wrong_piece : PySem.W.codeIn K cd_find_wrong_piece "find_wrong_piece" = true)
    (k_find_wrong_piece : PySem.W.keepIn K (.ref f_find_wrong_piece) = true)
    (a_is_piece : PySem.W.nsIn K mainGlobals "is_piece" = some (some (.ref f_is_piece)))
    (l_is_piece : K.lookup f_is_piece = some ⟨oc_is_piece, od_is_piece, .func (PySem.W.fnOf "is_piece" "is_piece" (defArgs s_is_piece) (defBody s_is_piece) (defScope s_is_piece) .none kV_is_piece dc_is_piece pm_is_piece an_is_piece cd_is_piece ct_is_piece), sl_is_piece⟩)
    (c_is_piece : PySem.W.codeIn K cd_is_piece "is_piece" = true)
    (k_is_piece : PySem.W.keepIn K (.ref f_is_piece) = true)
    (a_common_writing : PySem.W.nsIn K mainGlobals "common_writing" = some (some (.ref f_common_writing)))
    (l_common_writing : K.lookup f_common_writing = some ⟨oc_common_writing, od_common_writing, .func (PySem.W.fnOf "common_writing" "common_writing" (defArgs s_common_writing) (defBody s_common_writing) (defScope s_common_writing) .none kV_common_writing dc_common_writing pm_common_writing an_common_writing cd_common_writing ct_common_writing), sl_common_writing⟩)
    (c_common_writing : PySem.W.codeIn K cd_common_writing "common_writing" = true)
    (k_common_writing : PySem.W.keepIn K (.ref f_common_writing) = true)
    (a_gain_in : PySem.W.nsIn K mainGlobals "gain_in" = some (some (.ref f_gain_in)))
    (l_gain_in : K.lookup f_gain_in = some ⟨oc_gain_in, od_gain_in, .func (PySem.W.fnOf "gain_in" "gain_in" (defArgs s_gain_in) (defBody s_gain_in) (defScope s_gain_in) .none kV_gain_in dc_gain_in pm_gain_in an_gain_in cd_gain_in ct_gain_in), sl_gain_in⟩)
    (c_gain_in : PySem.W.codeIn K cd_gain_in "gain_in" = true)
    (k_gain_in : PySem.W.keepIn K (.ref f_gain_in) = true)
    (a_tightest : PySem.W.nsIn K mainGlobals "tightest" = some (some (.ref f_tightest)))
    (l_tightest : K.lookup f_tightest = some ⟨oc_tightest, od_tightest, .func (PySem.W.fnOf "tightest" "tightest" (defArgs s_tightest) (defBody s_tightest) (defScope s_tightest) .none kV_tightest dc_tightest pm_tightest an_tightest cd_tightest ct_tightest), sl_tightest⟩)
    (c_tightest : PySem.W.codeIn K cd_tightest "tightest" = true)
    (k_tightest : PySem.W.keepIn K (.ref f_tightest) = true)
    (a_require_record : PySem.W.nsIn K mainGlobals "require_record" = some (some (.ref f_require_record)))
    (l_require_record : K.lookup f_require_record = some ⟨oc_require_record, od_require_record, .func (PySem.W.fnOf "require_record" "require_record" (defArgs s_require_record) (defBody s_require_record) (defScope s_require_record) .none kV_require_record dc_require_record pm_require_record an_require_record cd_require_record ct_require_record), sl_require_record⟩)
    (c_require_record : PySem.W.codeIn K cd_require_record "require_record" = true)
    (k_require_record : PySem.W.keepIn K (.ref f_require_record) = true)
    (a_sums_before : PySem.W.nsIn K mainGlobals "sums_before" = some (some (.ref f_sums_before)))
    (l_sums_before : K.lookup f_sums_before = some ⟨oc_sums_before, od_sums_before, .func (PySem.W.fnOf "sums_before" "sums_before" (defArgs s_sums_before) (defBody s_sums_before) (defScope s_sums_before) .none kV_sums_before dc_sums_before pm_sums_before an_sums_before cd_sums_before ct_sums_before), sl_sums_before⟩)
    (c_sums_before : PySem.W.codeIn K cd_sums_before "sums_before" = true)
    (k_sums_before : PySem.W.keepIn K (.ref f_sums_before) = true)
    (a_window_sums : PySem.W.nsIn K mainGlobals "window_sums" = some (some (.ref f_window_sums)))
    (l_window_sums : K.lookup f_window_sums = some ⟨oc_window_sums, od_window_sums, .func (PySem.W.fnOf "window_sums" "window_sums" (defArgs s_window_sums) (defBody s_window_sums) (defScope s_window_sums) .none kV_window_sums dc_window_sums pm_window_sums an_window_sums cd_window_sums ct_window_sums), sl_window_sums⟩)
    (c_window_sums : PySem.W.codeIn K cd_window_sums "window_sums" = true)
    (k_window_sums : PySem.W.keepIn K (.ref f_window_sums) = true)
    (a_l_rng : PySem.W.nsIn K mainGlobals "_law_rng" = some (some (.ref f_l_rng)))
    (l_l_rng : K.lookup f_l_rng = some ⟨oc_l_rng, od_l_rng, .func (PySem.W.fnOf "_law_rng" "_law_rng" (defArgs s_l_rng) (defBody s_l_rng) (defScope s_l_rng) .none kV_l_rng dc_l_rng pm_l_rng an_l_rng cd_l_rng ct_l_rng), sl_l_rng⟩)
    (c_l_rng : PySem.W.codeIn K cd_l_rng "_law_rng" = true)
    (k_l_rng : PySem.W.keepIn K (.ref f_l_rng) = true)
    (a_l_draw : PySem.W.nsIn K mainGlobals "_law_draw" = some (some (.ref f_l_draw)))
    (l_l_draw : K.lookup f_l_draw = some ⟨oc_l_draw, od_l_draw, .func (PySem.W.fnOf "_law_draw" "_law_draw" (defArgs s_l_draw) (defBody s_l_draw) (defScope s_l_draw) .none kV_l_draw dc_l_draw pm_l_draw an_l_draw cd_l_draw ct_l_draw), sl_l_draw⟩)
    (c_l_draw : PySem.W.codeIn K cd_l_draw "_law_draw" = true)
    (k_l_draw : PySem.W.keepIn K (.ref f_l_draw) = true)
    (a_l_choice : PySem.W.nsIn K mainGlobals "_law_choice" = some (some (.ref f_l_choice)))
    (l_l_choice : K.lookup f_l_choice = some ⟨oc_l_choice, od_l_choice, .func (PySem.W.fnOf "_law_choice" "_law_choice" (defArgs s_l_choice) (defBody s_l_choice) (defScope s_l_choice) .none kV_l_choice dc_l_choice pm_l_choice an_l_choice cd_l_choice ct_l_choice), sl_l_choice⟩)
    (c_l_choice : PySem.W.codeIn K cd_l_choice "_law_choice" = true)
    (k_l_choice : PySem.W.keepIn K (.ref f_l_choice) = true)
    (a_l_at : PySem.W.nsIn K mainGlobals "_law_at" = some (some (.ref f_l_at)))
    (l_l_at : K.lookup f_l_at = some ⟨oc_l_at, od_l_at, .func (PySem.W.fnOf "_law_at" "_law_at" (defArgs s_l_at) (defBody s_l_at) (defScope s_l_at) .none kV_l_at dc_l_at pm_l_at an_l_at cd_l_at ct_l_at), sl_l_at⟩)
    (c_l_at : PySem.W.codeIn K cd_l_at "_law_at" = true)
    (k_l_at : PySem.W.keepIn K (.ref f_l_at) = true)
    (a_l_written : PySem.W.nsIn K mainGlobals "_law_written" = some (some (.ref f_l_written)))
    (l_l_written : K.lookup f_l_written = some ⟨oc_l_written, od_l_written, .func (PySem.W.fnOf "_law_written" "_law_written" (defArgs s_l_written) (defBody s_l_written) (defScope s_l_written) .none kV_l_written dc_l_written pm_l_written an_l_written cd_l_written ct_l_written), sl_l_written⟩)
    (c_l_written : PySem.W.codeIn K cd_l_written "_law_written" = true)
    (k_l_written : PySem.W.keepIn K (.ref f_l_written) = true)
    (a_l_nearly : PySem.W.nsIn K mainGlobals "_law_nearly" = some (some (.ref f_l_nearly)))
    (l_l_nearly : K.lookup f_l_nearly = some ⟨oc_l_nearly, od_l_nearly, .func (PySem.W.fnOf "_law_nearly" "_law_nearly" (defArgs s_l_nearly) (defBody s_l_nearly) (defScope s_l_nearly) .none kV_l_nearly dc_l_nearly pm_l_nearly an_l_nearly cd_l_nearly ct_l_nearly), sl_l_nearly⟩)
    (c_l_nearly : PySem.W.codeIn K cd_l_nearly "_law_nearly" = true)
    (k_l_nearly : PySem.W.keepIn K (.ref f_l_nearly) = true)
    (a_l_values : PySem.W.nsIn K mainGlobals "_law_values" = some (some (.ref f_l_values)))
    (l_l_values : K.lookup f_l_values = some ⟨oc_l_values, od_l_values, .func (PySem.W.fnOf "_law_values" "_law_values" (defArgs s_l_values) (defBody s_l_values) (defScope s_l_values) .none kV_l_values dc_l_values pm_l_values an_l_values cd_l_values ct_l_values), sl_l_values⟩)
    (c_l_values : PySem.W.codeIn K cd_l_values "_law_values" = true)
    (k_l_values : PySem.W.keepIn K (.ref f_l_values) = true)
    (a_l_line : PySem.W.nsIn K mainGlobals "_law_line" = some (some (.ref f_l_line)))
    (l_l_line : K.lookup f_l_line = some ⟨oc_l_line, od_l_line, .func (PySem.W.fnOf "_law_line" "_law_line" (defArgs s_l_line) (defBody s_l_line) (defScope s_l_line) .none kV_l_line dc_l_line pm_l_line an_l_line cd_l_line ct_l_line), sl_l_line⟩)
    (c_l_line : PySem.W.codeIn K cd_l_line "_law_line" = true)
    (k_l_line : PySem.W.keepIn K (.ref f_l_line) = true)
    (a_l_made : PySem.W.nsIn K mainGlobals "_law_made" = some (some (.ref f_l_made)))
    (l_l_made : K.lookup f_l_made = some ⟨oc_l_made, od_l_made, .func (PySem.W.fnOf "_law_made" "_law_made" (defArgs s_l_made) (defBody s_l_made) (defScope s_l_made) .none kV_l_made dc_l_made pm_l_made an_l_made cd_l_made ct_l_made), sl_l_made⟩)
    (c_l_made : PySem.W.codeIn K cd_l_made "_law_made" = true)
    (k_l_made : PySem.W.keepIn K (.ref f_l_made) = true)
    (a_l_shown : PySem.W.nsIn K mainGlobals "_law_shown" = some (some (.ref f_l_shown)))
    (l_l_shown : K.lookup f_l_shown = some ⟨oc_l_shown, od_l_shown, .func (PySem.W.fnOf "_law_shown" "_law_shown" (defArgs s_l_shown) (defBody s_l_shown) (defScope s_l_shown) .none kV_l_shown dc_l_shown pm_l_shown an_l_shown cd_l_shown ct_l_shown), sl_l_shown⟩)
    (c_l_shown : PySem.W.codeIn K cd_l_shown "_law_shown" = true)
    (k_l_shown : PySem.W.keepIn K (.ref f_l_shown) = true)
    (a_l_pair_right : PySem.W.nsIn K mainGlobals "_law_pair_right" = some (some (.ref f_l_pair_right)))
    (l_l_pair_right : K.lookup f_l_pair_right = some ⟨oc_l_pair_right, od_l_pair_right, .func (PySem.W.fnOf "_law_pair_right" "_law_pair_right" (defArgs s_l_pair_right) (defBody s_l_pair_right) (defScope s_l_pair_right) .none kV_l_pair_right dc_l_pair_right pm_l_pair_right an_l_pair_right cd_l_pair_right ct_l_pair_right), sl_l_pair_right⟩)
    (c_l_pair_right : PySem.W.codeIn K cd_l_pair_right "_law_pair_right" = true)
    (k_l_pair_right : PySem.W.keepIn K (.ref f_l_pair_right) = true)
    (a_law : PySem.W.nsIn K mainGlobals "law" = some (some (.ref f_law)))
    (l_law : K.lookup f_law = some ⟨oc_law, od_law, .func (PySem.W.fnOf "law" "law" (defArgs s_law) (defBody s_law) (defScope s_law) .none kV_law dc_law pm_law an_law cd_law ct_law), sl_law⟩)
    (c_law : PySem.W.codeIn K cd_law "law" = true)
    (k_law : PySem.W.keepIn K (.ref f_law) = true)
    (v_LONGEST_PERIOD : PySem.W.nsIn K mainGlobals "LONGEST_PERIOD" = some (some (.int 12 t_LONGEST_PERIOD)))
    (v_MAX_IN_PIECE : PySem.W.nsIn K mainGlobals "MAX_IN_PIECE" = some (some (.int 60 t_MAX_IN_PIECE)))
    (v_MAX_LATER : PySem.W.nsIn K mainGlobals "MAX_LATER" = some (some (.int 100 t_MAX_LATER)))
    (v_MAX_VALUE : PySem.W.nsIn K mainGlobals "MAX_VALUE" = some (some (.int 2000 t_MAX_VALUE)))
    (v_MAX_VALUES : PySem.W.nsIn K mainGlobals "MAX_VALUES" = some (some (.int 24 t_MAX_VALUES)))
    (v_PERIODS : PySem.W.nsIn K mainGlobals "PERIODS" = some (some (.ref a_PERIODS)))
    (l_PERIODS : K.lookup a_PERIODS = some ⟨.type "tuple", od_PERIODS, .seq #[.int 1 uPERIODS0, .int 2 uPERIODS1, .int 3 uPERIODS2, .int 4 uPERIODS3, .int 6 uPERIODS4, .int 12 uPERIODS5] n_PERIODS, sl_PERIODS⟩)
    (z_abs : PySem.W.nsIn K mainGlobals "abs" = some none)
    (z_all : PySem.W.nsIn K mainGlobals "all" = some none)
    (z_bool : PySem.W.nsIn K mainGlobals "bool" = some none)
    (z_divmod : PySem.W.nsIn K mainGlobals "divmod" = some none)
    (z_enumerate : PySem.W.nsIn K mainGlobals "enumerate" = some none)
    (z_int : PySem.W.nsIn K mainGlobals "int" = some none)
    (z_isinstance : PySem.W.nsIn K mainGlobals "isinstance" = some none)
    (z_len : PySem.W.nsIn K mainGlobals "len" = some none)
    (z_list : PySem.W.nsIn K mainGlobals "list" = some none)
    (z_max : PySem.W.nsIn K mainGlobals "max" = some none)
    (z_min : PySem.W.nsIn K mainGlobals "min" = some none)
    (z_range : PySem.W.nsIn K mainGlobals "range" = some none)
    (z_repr : PySem.W.nsIn K mainGlobals "repr" = some none)
    (z_str : PySem.W.nsIn K mainGlobals "str" = some none)
    (z_sum : PySem.W.nsIn K mainGlobals "sum" = some none)
    (z_tuple : PySem.W.nsIn K mainGlobals "tuple" = some none)
    (z_zip : PySem.W.nsIn K mainGlobals "zip" = some none)
    : ∃ fd : FuncData, (∀ (s : Shared) (v : Value), BindsTo s fd ⟨[v], []⟩ [("_law_script", v)]) ∧ ∀ base : Heap, K.In base → base.Ns mainGlobals mg → VG.FnG l.prog w K mg base CX0 12 fa fd ["_law_script"] (spL K) := by
  have e := hfa.symm.trans (PySem.W.mg_of X G a_law)
  cases e
  let A : Ad := {
    Curve := C_Curve,
    f_is_integer := f_is_integer,
    d_is_integer := PySem.W.fnOf "is_integer" "is_integer" (defArgs s_is_integer) (defBody s_is_integer) (defScope s_is_integer) .none kV_is_integer dc_is_integer pm_is_integer an_is_integer cd_is_integer ct_is_integer,
    f_is_count := f_is_count,
    d_is_count := PySem.W.fnOf "is_count" "is_count" (defArgs s_is_count) (defBody s_is_count) (defScope s_is_count) .none kV_is_count dc_is_count pm_is_count an_is_count cd_is_count ct_is_count,
    f_is_count_to := f_is_count_to,
    d_is_count_to := PySem.W.fnOf "is_count_to" "is_count_to" (defArgs s_is_count_to) (defBody s_is_count_to) (defScope s_is_count_to) .none kV_is_count_to dc_is_count_to pm_is_count_to an_is_count_to cd_is_count_to ct_is_count_to,
    f_require_count_to := f_require_count_to,
    d_require_count_to := PySem.W.fnOf "require_count_to" "require_count_to" (defArgs s_require_count_to) (defBody s_require_count_to) (defScope s_require_count_to) .none kV_require_count_to dc_require_count_to pm_require_count_to an_require_count_to cd_require_count_to ct_require_count_to,
    f_rounded_up := f_rounded_up,
    d_rounded_up := PySem.W.fnOf "rounded_up" "rounded_up" (defArgs s_rounded_up) (defBody s_rounded_up) (defScope s_rounded_up) .none kV_rounded_up dc_rounded_up pm_rounded_up an_rounded_up cd_rounded_up ct_rounded_up,
    f_value_at := f_value_at,
    d_value_at := PySem.W.fnOf "value_at" "value_at" (defArgs s_value_at) (defBody s_value_at) (defScope s_value_at) .none kV_value_at dc_value_at pm_value_at an_value_at cd_value_at ct_value_at,
    f_least_form := f_least_form,
    d_least_form := PySem.W.fnOf "least_form" "least_form" (defArgs s_least_form) (defBody s_least_form) (defScope s_least_form) .none kV_least_form dc_least_form pm_least_form an_least_form cd_least_form ct_least_form,
    f_least_period := f_least_period,
    d_least_period := PySem.W.fnOf "least_period" "least_period" (defArgs s_least_period) (defBody s_least_period) (defScope s_least_period) .none kV_least_period dc_least_period pm_least_period an_least_period cd_least_period ct_least_period,
    f_form_of_pieces := f_form_of_pieces,
    d_form_of_pieces := PySem.W.fnOf "form_of_pieces" "form_of_pieces" (defArgs s_form_of_pieces) (defBody s_form_of_pieces) (defScope s_form_of_pieces) .none kV_form_of_pieces dc_form_of_pieces pm_form_of_pieces an_form_of_pieces cd_form_of_pieces ct_form_of_pieces,
    f_line_at := f_line_at,
    d_line_at := PySem.W.fnOf "line_at" "line_at" (defArgs s_line_at) (defBody s_line_at) (defScope s_line_at) .none kV_line_at dc_line_at pm_line_at an_line_at cd_line_at ct_line_at,
    f_C_init := f_C_init,
    d_C_init := PySem.W.fnOf "__init__" "Curve.__init__" (defArgs s_C_init) (defBody s_C_init) (defScope s_C_init) .none (.ref D_C_init) dc_C_init pm_C_init an_C_init cd_C_init ct_C_init,
    p_C_of_pieces := p_C_of_pieces,
    f_C_of_pieces := f_C_of_pieces,
    d_C_of_pieces := PySem.W.fnOf "of_pieces" "Curve.of_pieces" (defArgs s_C_of_pieces) (defBody s_C_of_pieces) (defScope s_C_of_pieces) .none kV_C_of_pieces dc_C_of_pieces pm_C_of_pieces an_C_of_pieces cd_C_of_pieces ct_C_of_pieces,
    f_C_eq := f_C_eq,
    d_C_eq := PySem.W.fnOf "__eq__" "Curve.__eq__" (defArgs s_C_eq) (defBody s_C_eq) (defScope s_C_eq) .none kV_C_eq dc_C_eq pm_C_eq an_C_eq cd_C_eq ct_C_eq,
    f_C_repr := f_C_repr,
    d_C_repr := PySem.W.fnOf "__repr__" "Curve.__repr__" (defArgs s_C_repr) (defBody s_C_repr) (defScope s_C_repr) .none kV_C_repr dc_C_repr pm_C_repr an_C_repr cd_C_repr ct_C_repr,
    f_C_str := f_C_str,
    d_C_str := PySem.W.fnOf "__str__" "Curve.__str__" (defArgs s_C_str) (defBody s_C_str) (defScope s_C_str) .none kV_C_str dc_C_str pm_C_str an_C_str cd_C_str ct_C_str,
    f_C_add := f_C_add,
    d_C_add := PySem.W.fnOf "__add__" "Curve.__add__" (defArgs s_C_add) (defBody s_C_add) (defScope s_C_add) .none kV_C_add dc_C_add pm_C_add an_C_add cd_C_add ct_C_add,
    p_C_period := p_C_period,
    f_C_period := f_C_period,
    d_C_period := PySem.W.fnOf "period" "Curve.period" (defArgs s_C_period) (defBody s_C_period) (defScope s_C_period) .none kV_C_period dc_C_period pm_C_period an_C_period cd_C_period ct_C_period,
    p_C_gain := p_C_gain,
    f_C_gain := f_C_gain,
    d_C_gain := PySem.W.fnOf "gain" "Curve.gain" (defArgs s_C_gain) (defBody s_C_gain) (defScope s_C_gain) .none kV_C_gain dc_C_gain pm_C_gain an_C_gain cd_C_gain ct_C_gain,
    p_C_rate := p_C_rate,
    f_C_rate := f_C_rate,
    d_C_rate := PySem.W.fnOf "rate" "Curve.rate" (defArgs s_C_rate) (defBody s_C_rate) (defScope s_C_rate) .none kV_C_rate dc_C_rate pm_C_rate an_C_rate cd_C_rate ct_C_rate,
    f_C_first_values := f_C_first_values,
    d_C_first_values := PySem.W.fnOf "first_values" "Curve.first_values" (defArgs s_C_first_values) (defBody s_C_first_values) (defScope s_C_first_values) .none kV_C_first_values dc_C_first_values pm_C_first_values an_C_first_values cd_C_first_values ct_C_first_values,
    f_C_at := f_C_at,
    d_C_at := PySem.W.fnOf "at" "Curve.at" (defArgs s_C_at) (defBody s_C_at) (defScope s_C_at) .none kV_C_at dc_C_at pm_C_at an_C_at cd_C_at ct_C_at,
    f_C_at_most := f_C_at_most,
    d_C_at_most := PySem.W.fnOf "at_most" "Curve.at_most" (defArgs s_C_at_most) (defBody s_C_at_most) (defScope s_C_at_most) .none kV_C_at_most dc_C_at_most pm_C_at_most an_C_at_most cd_C_at_most ct_C_at_most,
    f_C_later := f_C_later,
    d_C_later := PySem.W.fnOf "later" "Curve.later" (defArgs s_C_later) (defBody s_C_later) (defScope s_C_later) .none kV_C_later dc_C_later pm_C_later an_C_later cd_C_later ct_C_later,
    f_make_curve := f_make_curve,
    d_make_curve := PySem.W.fnOf "make_curve" "make_curve" (defArgs s_make_curve) (defBody s_make_curve) (defScope s_make_curve) .none kV_make_curve dc_make_curve pm_make_curve an_make_curve cd_make_curve ct_make_curve,
    f_find_problem := f_find_problem,
    d_find_problem := PySem.W.fnOf "find_problem" "find_problem" (defArgs s_find_problem) (defBody s_find_problem) (defScope s_find_problem) .none kV_find_problem dc_find_problem pm_find_problem an_find_problem cd_find_problem ct_find_problem,
    f_find_wrong_piece := f_find_wrong_piece,
    d_find_wrong_piece := PySem.W.fnOf "find_wrong_piece" "find_wrong_piece" (defArgs s_find_wrong_piece) (defBody s_find_wrong_piece) (defScope s_find_wrong_piece) .none kV_find_wrong_piece dc_find_wrong_piece pm_find_wrong_piece an_find_wrong_piece cd_find_wrong_piece ct_find_wrong_piece,
    f_is_piece := f_is_piece,
    d_is_piece := PySem.W.fnOf "is_piece" "is_piece" (defArgs s_is_piece) (defBody s_is_piece) (defScope s_is_piece) .none kV_is_piece dc_is_piece pm_is_piece an_is_piece cd_is_piece ct_is_piece,
    f_common_writing := f_common_writing,
    d_common_writing := PySem.W.fnOf "common_writing" "common_writing" (defArgs s_common_writing) (defBody s_common_writing) (defScope s_common_writing) .none kV_common_writing dc_common_writing pm_common_writing an_common_writing cd_common_writing ct_common_writing,
    f_gain_in := f_gain_in,
    d_gain_in := PySem.W.fnOf "gain_in" "gain_in" (defArgs s_gain_in) (defBody s_gain_in) (defScope s_gain_in) .none kV_gain_in dc_gain_in pm_gain_in an_gain_in cd_gain_in ct_gain_in,
    f_tightest := f_tightest,
    d_tightest := PySem.W.fnOf "tightest" "tightest" (defArgs s_tightest) (defBody s_tightest) (defScope s_tightest) .none kV_tightest dc_tightest pm_tightest an_tightest cd_tightest ct_tightest,
    f_require_record := f_require_record,
    d_require_record := PySem.W.fnOf "require_record" "require_record" (defArgs s_require_record) (defBody s_require_record) (defScope s_require_record) .none kV_require_record dc_require_record pm_require_record an_require_record cd_require_record ct_require_record,
    f_sums_before := f_sums_before,
    d_sums_before := PySem.W.fnOf "sums_before" "sums_before" (defArgs s_sums_before) (defBody s_sums_before) (defScope s_sums_before) .none kV_sums_before dc_sums_before pm_sums_before an_sums_before cd_sums_before ct_sums_before,
    f_window_sums := f_window_sums,
    d_window_sums := PySem.W.fnOf "window_sums" "window_sums" (defArgs s_window_sums) (defBody s_window_sums) (defScope s_window_sums) .none kV_window_sums dc_window_sums pm_window_sums an_window_sums cd_window_sums ct_window_sums,
    f_l_rng := f_l_rng,
    d_l_rng := PySem.W.fnOf "_law_rng" "_law_rng" (defArgs s_l_rng) (defBody s_l_rng) (defScope s_l_rng) .none kV_l_rng dc_l_rng pm_l_rng an_l_rng cd_l_rng ct_l_rng,
    f_l_draw := f_l_draw,
    d_l_draw := PySem.W.fnOf "_law_draw" "_law_draw" (defArgs s_l_draw) (defBody s_l_draw) (defScope s_l_draw) .none kV_l_draw dc_l_draw pm_l_draw an_l_draw cd_l_draw ct_l_draw,
    f_l_choice := f_l_choice,
    d_l_choice := PySem.W.fnOf "_law_choice" "_law_choice" (defArgs s_l_choice) (defBody s_l_choice) (defScope s_l_choice) .none kV_l_choice dc_l_choice pm_l_choice an_l_choice cd_l_choice ct_l_choice,
    f_l_at := f_l_at,
    d_l_at := PySem.W.fnOf "_law_at" "_law_at" (defArgs s_l_at) (defBody s_l_at) (defScope s_l_at) .none kV_l_at dc_l_at pm_l_at an_l_at cd_l_at ct_l_at,
    f_l_written := f_l_written,
    d_l_written := PySem.W.fnOf "_law_written" "_law_written" (defArgs s_l_written) (defBody s_l_written) (defScope s_l_written) .none kV_l_written dc_l_written pm_l_written an_l_written cd_l_written ct_l_written,
    f_l_nearly := f_l_nearly,
    d_l_nearly := PySem.W.fnOf "_law_nearly" "_law_nearly" (defArgs s_l_nearly) (defBody s_l_nearly) (defScope s_l_nearly) .none kV_l_nearly dc_l_nearly pm_l_nearly an_l_nearly cd_l_nearly ct_l_nearly,
    f_l_values := f_l_values,
    d_l_values := PySem.W.fnOf "_law_values" "_law_values" (defArgs s_l_values) (defBody s_l_values) (defScope s_l_values) .none kV_l_values dc_l_values pm_l_values an_l_values cd_l_values ct_l_values,
    f_l_line := f_l_line,
    d_l_line := PySem.W.fnOf "_law_line" "_law_line" (defArgs s_l_line) (defBody s_l_line) (defScope s_l_line) .none kV_l_line dc_l_line pm_l_line an_l_line cd_l_line ct_l_line,
    f_l_made := f_l_made,
    d_l_made := PySem.W.fnOf "_law_made" "_law_made" (defArgs s_l_made) (defBody s_l_made) (defScope s_l_made) .none kV_l_made dc_l_made pm_l_made an_l_made cd_l_made ct_l_made,
    f_l_shown := f_l_shown,
    d_l_shown := PySem.W.fnOf "_law_shown" "_law_shown" (defArgs s_l_shown) (defBody s_l_shown) (defScope s_l_shown) .none kV_l_shown dc_l_shown pm_l_shown an_l_shown cd_l_shown ct_l_shown,
    f_l_pair_right := f_l_pair_right,
    d_l_pair_right := PySem.W.fnOf "_law_pair_right" "_law_pair_right" (defArgs s_l_pair_right) (defBody s_l_pair_right) (defScope s_l_pair_right) .none kV_l_pair_right dc_l_pair_right pm_l_pair_right an_l_pair_right cd_l_pair_right ct_l_pair_right,
    f_law := fa,
    d_law := PySem.W.fnOf "law" "law" (defArgs s_law) (defBody s_law) (defScope s_law) .none kV_law dc_law pm_law an_law cd_law ct_law,
    t_LONGEST_PERIOD := t_LONGEST_PERIOD,
    t_MAX_IN_PIECE := t_MAX_IN_PIECE,
    t_MAX_LATER := t_MAX_LATER,
    t_MAX_VALUE := t_MAX_VALUE,
    t_MAX_VALUES := t_MAX_VALUES,
    a_PERIODS := a_PERIODS }
  have T : Txt K mg A := {
    fun_lcm := PySem.W.mg_of X G fun_lcm,
    fun_gcd := PySem.W.mg_of X G fun_gcd,
    m_Curve := PySem.W.mg_of X G g_Curve,
    cl := ⟨pg_Curve, hd_Curve, po_Curve, sa_Curve⟩,
    M_Curve := ⟨mk_Curve, a_C_init, i_C_init, kc_Curve⟩,
    ic_Curve := ⟨ic_Curve, it_Curve, ig_Curve, i_gn, i_tk, io_Curve, ie_Curve⟩,
    sf_Curve := sf_Curve,
    n_values := n_Curve_values,
    n_period := n_Curve_period,
    n_gain := n_Curve_gain,
    n_was_searched := n_Curve_was_searched,
    n_break := n_Curve_break,
    F_is_integer := fun_mk (st := s_is_integer) l_is_integer c_is_integer k_is_integer,
    m_is_integer := PySem.W.mg_of X G a_is_integer,
    k_is_integer := k_is_integer,
    b_is_integer := ((fun_mk (st := s_is_integer) l_is_integer c_is_integer k_is_integer).binds (ps := ["value"]) fun _ _ _ _ _ _ us hl => match us, hl with | [_], _ => rfl),
    F_is_count := fun_mk (st := s_is_count) l_is_count c_is_count k_is_count,
    m_is_count := PySem.W.mg_of X G a_is_count,
    k_is_count := k_is_count,
    b_is_count := ((fun_mk (st := s_is_count) l_is_count c_is_count k_is_count).binds (ps := ["value"]) fun _ _ _ _ _ _ us hl => match us, hl with | [_], _ => rfl),
    F_is_count_to := fun_mk (st := s_is_count_to) l_is_count_to c_is_count_to k_is_count_to,
    m_is_count_to := PySem.W.mg_of X G a_is_count_to,
    k_is_count_to := k_is_count_to,
    b_is_count_to := ((fun_mk (st := s_is_count_to) l_is_count_to c_is_count_to k_is_count_to).binds (ps := ["value", "most"]) fun _ _ _ _ _ _ us hl => match us, hl with | [_, _], _ => rfl),
    F_require_count_to := fun_mk (st := s_require_count_to) l_require_count_to c_require_count_to k_require_count_to,
    m_require_count_to := PySem.W.mg_of X G a_require_count_to,
    k_require_count_to := k_require_count_to,
    b_require_count_to := ((fun_mk (st := s_require_count_to) l_require_count_to c_require_count_to k_require_count_to).binds (ps := ["value", "most"]) fun _ _ _ _ _ _ us hl => match us, hl with | [_, _], _ => rfl),
    F_rounded_up := fun_mk (st := s_rounded_up) l_rounded_up c_rounded_up k_rounded_up,
    m_rounded_up := PySem.W.mg_of X G a_rounded_up,
    k_rounded_up := k_rounded_up,
    b_rounded_up := ((fun_mk (st := s_rounded_up) l_rounded_up c_rounded_up k_rounded_up).binds (ps := ["units", "parts"]) fun _ _ _ _ _ _ us hl => match us, hl with | [_, _], _ => rfl),
    F_value_at := fun_mk (st := s_value_at) l_value_at c_value_at k_value_at,
    m_value_at := PySem.W.mg_of X G a_value_at,
    k_value_at := k_value_at,
    b_value_at := ((fun_mk (st := s_value_at) l_value_at c_value_at k_value_at).binds (ps := ["values", "period", "gain", "length"]) fun _ _ _ _ _ _ us hl => match us, hl with | [_, _, _, _], _ => rfl),
    F_least_form := fun_mk (st := s_least_form) l_least_form c_least_form k_least_form,
    m_least_form := PySem.W.mg_of X G a_least_form,
    k_least_form := k_least_form,
    b_least_form := ((fun_mk (st := s_least_form) l_least_form c_least_form k_least_form).binds (ps := ["values", "period", "gain"]) fun _ _ _ _ _ _ us hl => match us, hl with | [_, _, _], _ => rfl),
    F_least_period := fun_mk (st := s_least_period) l_least_period c_least_period k_least_period,
    m_least_period := PySem.W.mg_of X G a_least_period,
    k_least_period := k_least_period,
    b_least_period := ((fun_mk (st := s_least_period) l_least_period c_least_period k_least_period).binds (ps := ["row", "many", "period"]) fun _ _ _ _ _ _ us hl => match us, hl with | [_, _, _], _ => rfl),
    F_form_of_pieces := fun_mk (st := s_form_of_pieces) l_form_of_pieces c_form_of_pieces k_form_of_pieces,
    m_form_of_pieces := PySem.W.mg_of X G a_form_of_pieces,
    k_form_of_pieces := k_form_of_pieces,
    b_form_of_pieces := ((fun_mk (st := s_form_of_pieces) l_form_of_pieces c_form_of_pieces k_form_of_pieces).binds (ps := ["pieces"]) fun _ _ _ _ _ _ us hl => match us, hl with | [_], _ => rfl),
    F_line_at := fun_mk (st := s_line_at) l_line_at c_line_at k_line_at,
    m_line_at := PySem.W.mg_of X G a_line_at,
    k_line_at := k_line_at,
    b_line_at := ((fun_mk (st := s_line_at) l_line_at c_line_at k_line_at).binds (ps := ["piece", "length"]) fun _ _ _ _ _ _ us hl => match us, hl with | [_, _], _ => rfl),
    F_C_init := ⟨⟨_, _, _, _, _, _, _, _, _, _, rfl, l_C_init, c_C_init, .inl ⟨rfl, rfl⟩, .inr ⟨D_C_init, rfl, by
      intro q hq
      simp only [List.mem_cons, List.not_mem_nil, or_false] at hq
      rcases hq with rfl | rfl
      · exact ⟨_, d_C_init_period, ⟨_, rfl⟩⟩
      · exact ⟨_, d_C_init_gain, ⟨_, rfl⟩⟩⟩⟩, k_C_init⟩,
    F_C_of_pieces := fun_mk (st := s_C_of_pieces) l_C_of_pieces c_C_of_pieces k_C_of_pieces,
    cm_of_pieces := ⟨a_C_of_pieces, ⟨_, rc_C_of_pieces⟩, fi_C_of_pieces⟩,
    rd_Curve := ⟨rr_C_of_pieces, rg_C_of_pieces⟩,
    F_C_eq := fun_mk (st := s_C_eq) l_C_eq c_C_eq k_C_eq,
    b_C_eq := ((fun_mk (st := s_C_eq) l_C_eq c_C_eq k_C_eq).binds (ps := ["self", "other"]) fun _ _ _ _ _ _ us hl => match us, hl with | [_, _], _ => rfl),
    me___eq__ := ⟨a_C_eq, i_C_eq, k_C_eq⟩,
    F_C_repr := fun_mk (st := s_C_repr) l_C_repr c_C_repr k_C_repr,
    b_C_repr := ((fun_mk (st := s_C_repr) l_C_repr c_C_repr k_C_repr).binds (ps := ["self"]) fun _ _ _ _ _ _ us hl => match us, hl with | [_], _ => rfl),
    me___repr__ := ⟨a_C_repr, i_C_repr, k_C_repr⟩,
    F_C_str := fun_mk (st := s_C_str) l_C_str c_C_str k_C_str,
    b_C_str := ((fun_mk (st := s_C_str) l_C_str c_C_str k_C_str).binds (ps := ["self"]) fun _ _ _ _ _ _ us hl => match us, hl with | [_], _ => rfl),
    me___str__ := ⟨a_C_str, i_C_str, k_C_str⟩,
    F_C_add := fun_mk (st := s_C_add) l_C_add c_C_add k_C_add,
    b_C_add := ((fun_mk (st := s_C_add) l_C_add c_C_add k_C_add).binds (ps := ["self", "other"]) fun _ _ _ _ _ _ us hl => match us, hl with | [_, _], _ => rfl),
    me___add__ := ⟨a_C_add, i_C_add, k_C_add⟩,
    F_C_period := fun_mk (st := s_C_period) l_C_period c_C_period k_C_period,
    b_C_period := ((fun_mk (st := s_C_period) l_C_period c_C_period k_C_period).binds (ps := ["self"]) fun _ _ _ _ _ _ us hl => match us, hl with | [_], _ => rfl),
    pr_C_period := ⟨a_C_period, pg_C_period, pt_C_period, _, pr_C_period⟩,
    F_C_gain := fun_mk (st := s_C_gain) l_C_gain c_C_gain k_C_gain,
    b_C_gain := ((fun_mk (st := s_C_gain) l_C_gain c_C_gain k_C_gain).binds (ps := ["self"]) fun _ _ _ _ _ _ us hl => match us, hl with | [_], _ => rfl),
    pr_C_gain := ⟨a_C_gain, pg_C_gain, pt_C_gain, _, pr_C_gain⟩,
    F_C_rate := fun_mk (st := s_C_rate) l_C_rate c_C_rate k_C_rate,
    b_C_rate := ((fun_mk (st := s_C_rate) l_C_rate c_C_rate k_C_rate).binds (ps := ["self"]) fun _ _ _ _ _ _ us hl => match us, hl with | [_], _ => rfl),
    pr_C_rate := ⟨a_C_rate, pg_C_rate, pt_C_rate, _, pr_C_rate⟩,
    F_C_first_values := fun_mk (st := s_C_first_values) l_C_first_values c_C_first_values k_C_first_values,
    b_C_first_values := ((fun_mk (st := s_C_first_values) l_C_first_values c_C_first_values k_C_first_values).binds (ps := ["self"]) fun _ _ _ _ _ _ us hl => match us, hl with | [_], _ => rfl),
    me_first_values := ⟨a_C_first_values, i_C_first_values, k_C_first_values⟩,
    F_C_at := fun_mk (st := s_C_at) l_C_at c_C_at k_C_at,
    b_C_at := ((fun_mk (st := s_C_at) l_C_at c_C_at k_C_at).binds (ps := ["self", "length"]) fun _ _ _ _ _ _ us hl => match us, hl with | [_, _], _ => rfl),
    me_at := ⟨a_C_at, i_C_at, k_C_at⟩,
    F_C_at_most := fun_mk (st := s_C_at_most) l_C_at_most c_C_at_most k_C_at_most,
    b_C_at_most := ((fun_mk (st := s_C_at_most) l_C_at_most c_C_at_most k_C_at_most).binds (ps := ["self", "other"]) fun _ _ _ _ _ _ us hl => match us, hl with | [_, _], _ => rfl),
    me_at_most := ⟨a_C_at_most, i_C_at_most, k_C_at_most⟩,
    F_C_later := fun_mk (st := s_C_later) l_C_later c_C_later k_C_later,
    b_C_later := ((fun_mk (st := s_C_later) l_C_later c_C_later k_C_later).binds (ps := ["self", "ticks"]) fun _ _ _ _ _ _ us hl => match us, hl with | [_, _], _ => rfl),
    me_later := ⟨a_C_later, i_C_later, k_C_later⟩,
    F_make_curve := fun_mk (st := s_make_curve) l_make_curve c_make_curve k_make_curve,
    m_make_curve := PySem.W.mg_of X G a_make_curve,
    k_make_curve := k_make_curve,
    b_make_curve := ((fun_mk (st := s_make_curve) l_make_curve c_make_curve k_make_curve).binds (ps := ["values", "period", "gain"]) fun _ _ _ _ _ _ us hl => match us, hl with | [_, _, _], _ => rfl),
    F_find_problem := fun_mk (st := s_find_problem) l_find_problem c_find_problem k_find_problem,
    m_find_problem := PySem.W.mg_of X G a_find_problem,
    k_find_problem := k_find_problem,
    b_find_problem := ((fun_mk (st := s_find_problem) l_find_problem c_find_problem k_find_problem).binds (ps := ["values", "period", "gain"]) fun _ _ _ _ _ _ us hl => match us, hl with | [_, _, _], _ => rfl),
    F_find_wrong_piece := fun_mk (st := s_find_wrong_piece) l_find_wrong_piece c_find_wrong_piece k_find_wrong_piece,
    m_find_wrong_piece := PySem.W.mg_of X G a_find_wrong_piece,
    k_find_wrong_piece := k_find_wrong_piece,
    b_find_wrong_piece := ((fun_mk (st := s_find_wrong_piece) l_find_wrong_piece c_find_wrong_piece k_find_wrong_piece).binds (ps := ["pieces"]) fun _ _ _ _ _ _ us hl => match us, hl with | [_], _ => rfl),
    F_is_piece := fun_mk (st := s_is_piece) l_is_piece c_is_piece k_is_piece,
    m_is_piece := PySem.W.mg_of X G a_is_piece,
    k_is_piece := k_is_piece,
    b_is_piece := ((fun_mk (st := s_is_piece) l_is_piece c_is_piece k_is_piece).binds (ps := ["value"]) fun _ _ _ _ _ _ us hl => match us, hl with | [_], _ => rfl),
    F_common_writing := fun_mk (st := s_common_writing) l_common_writing c_common_writing k_common_writing,
    m_common_writing := PySem.W.mg_of X G a_common_writing,
    k_common_writing := k_common_writing,
    b_common_writing := ((fun_mk (st := s_common_writing) l_common_writing c_common_writing k_common_writing).binds (ps := ["one", "other"]) fun _ _ _ _ _ _ us hl => match us, hl with | [_, _], _ => rfl),
    F_gain_in := fun_mk (st := s_gain_in) l_gain_in c_gain_in k_gain_in,
    m_gain_in := PySem.W.mg_of X G a_gain_in,
    k_gain_in := k_gain_in,
    b_gain_in := ((fun_mk (st := s_gain_in) l_gain_in c_gain_in k_gain_in).binds (ps := ["curve", "ticks"]) fun _ _ _ _ _ _ us hl => match us, hl with | [_, _], _ => rfl),
    F_tightest := fun_mk (st := s_tightest) l_tightest c_tightest k_tightest,
    m_tightest := PySem.W.mg_of X G a_tightest,
    k_tightest := k_tightest,
    b_tightest := ((fun_mk (st := s_tightest) l_tightest c_tightest k_tightest).binds (ps := ["record"]) fun _ _ _ _ _ _ us hl => match us, hl with | [_], _ => rfl),
    F_require_record := fun_mk (st := s_require_record) l_require_record c_require_record k_require_record,
    m_require_record := PySem.W.mg_of X G a_require_record,
    k_require_record := k_require_record,
    b_require_record := ((fun_mk (st := s_require_record) l_require_record c_require_record k_require_record).binds (ps := ["record"]) fun _ _ _ _ _ _ us hl => match us, hl with | [_], _ => rfl),
    F_sums_before := fun_mk (st := s_sums_before) l_sums_before c_sums_before k_sums_before,
    m_sums_before := PySem.W.mg_of X G a_sums_before,
    k_sums_before := k_sums_before,
    b_sums_before := ((fun_mk (st := s_sums_before) l_sums_before c_sums_before k_sums_before).binds (ps := ["record"]) fun _ _ _ _ _ _ us hl => match us, hl with | [_], _ => rfl),
    F_window_sums := fun_mk (st := s_window_sums) l_window_sums c_window_sums k_window_sums,
    m_window_sums := PySem.W.mg_of X G a_window_sums,
    k_window_sums := k_window_sums,
    b_window_sums := ((fun_mk (st := s_window_sums) l_window_sums c_window_sums k_window_sums).binds (ps := ["sums", "length"]) fun _ _ _ _ _ _ us hl => match us, hl with | [_, _], _ => rfl),
    F_l_rng := fun_mk (st := s_l_rng) l_l_rng c_l_rng k_l_rng,
    m_l_rng := PySem.W.mg_of X G a_l_rng,
    k_l_rng := k_l_rng,
    b_l_rng := ((fun_mk (st := s_l_rng) l_l_rng c_l_rng k_l_rng).binds (ps := ["_law_script", "_law_k"]) fun _ _ _ _ _ _ us hl => match us, hl with | [_, _], _ => rfl),
    F_l_draw := fun_mk (st := s_l_draw) l_l_draw c_l_draw k_l_draw,
    m_l_draw := PySem.W.mg_of X G a_l_draw,
    k_l_draw := k_l_draw,
    b_l_draw := ((fun_mk (st := s_l_draw) l_l_draw c_l_draw k_l_draw).binds (ps := ["_law_rng_here", "_law_many"]) fun _ _ _ _ _ _ us hl => match us, hl with | [_, _], _ => rfl),
    F_l_choice := fun_mk (st := s_l_choice) l_l_choice c_l_choice k_l_choice,
    m_l_choice := PySem.W.mg_of X G a_l_choice,
    k_l_choice := k_l_choice,
    b_l_choice := ((fun_mk (st := s_l_choice) l_l_choice c_l_choice k_l_choice).binds (ps := ["_law_rng_here", "_law_some"]) fun _ _ _ _ _ _ us hl => match us, hl with | [_, _], _ => rfl),
    F_l_at := fun_mk (st := s_l_at) l_l_at c_l_at k_l_at,
    m_l_at := PySem.W.mg_of X G a_l_at,
    k_l_at := k_l_at,
    b_l_at := ((fun_mk (st := s_l_at) l_l_at c_l_at k_l_at).binds (ps := ["_law_row", "_law_span"]) fun _ _ _ _ _ _ us hl => match us, hl with | [_, _], _ => rfl),
    F_l_written := fun_mk (st := s_l_written) l_l_written c_l_written k_l_written,
    m_l_written := PySem.W.mg_of X G a_l_written,
    k_l_written := k_l_written,
    b_l_written := ((fun_mk (st := s_l_written) l_l_written c_l_written k_l_written).binds (ps := ["_law_rng_here"]) fun _ _ _ _ _ _ us hl => match us, hl with | [_], _ => rfl),
    F_l_nearly := fun_mk (st := s_l_nearly) l_l_nearly c_l_nearly k_l_nearly,
    m_l_nearly := PySem.W.mg_of X G a_l_nearly,
    k_l_nearly := k_l_nearly,
    b_l_nearly := ((fun_mk (st := s_l_nearly) l_l_nearly c_l_nearly k_l_nearly).binds (ps := ["_law_rng_here", "_law_row"]) fun _ _ _ _ _ _ us hl => match us, hl with | [_, _], _ => rfl),
    F_l_values := fun_mk (st := s_l_values) l_l_values c_l_values k_l_values,
    m_l_values := PySem.W.mg_of X G a_l_values,
    k_l_values := k_l_values,
    b_l_values := ((fun_mk (st := s_l_values) l_l_values c_l_values k_l_values).binds (ps := ["_law_row", "_law_many"]) fun _ _ _ _ _ _ us hl => match us, hl with | [_, _], _ => rfl),
    F_l_line := fun_mk (st := s_l_line) l_l_line c_l_line k_l_line,
    m_l_line := PySem.W.mg_of X G a_l_line,
    k_l_line := k_l_line,
    b_l_line := ((fun_mk (st := s_l_line) l_l_line c_l_line k_l_line).binds (ps := ["_law_piece", "_law_span"]) fun _ _ _ _ _ _ us hl => match us, hl with | [_, _], _ => rfl),
    F_l_made := fun_mk (st := s_l_made) l_l_made c_l_made k_l_made,
    m_l_made := PySem.W.mg_of X G a_l_made,
    k_l_made := k_l_made,
    b_l_made := ((fun_mk (st := s_l_made) l_l_made c_l_made k_l_made).binds (ps := ["_law_rng_here", "_law_row"]) fun _ _ _ _ _ _ us hl => match us, hl with | [_, _], _ => rfl),
    F_l_shown := fun_mk (st := s_l_shown) l_l_shown c_l_shown k_l_shown,
    m_l_shown := PySem.W.mg_of X G a_l_shown,
    k_l_shown := k_l_shown,
    b_l_shown := ((fun_mk (st := s_l_shown) l_l_shown c_l_shown k_l_shown).binds (ps := ["_law_curve"]) fun _ _ _ _ _ _ us hl => match us, hl with | [_], _ => rfl),
    F_l_pair_right := fun_mk (st := s_l_pair_right) l_l_pair_right c_l_pair_right k_l_pair_right,
    m_l_pair_right := PySem.W.mg_of X G a_l_pair_right,
    k_l_pair_right := k_l_pair_right,
    b_l_pair_right := ((fun_mk (st := s_l_pair_right) l_l_pair_right c_l_pair_right k_l_pair_right).binds (ps := ["_law_first", "_law_second"]) fun _ _ _ _ _ _ us hl => match us, hl with | [_, _], _ => rfl),
    F_law := fun_mk (st := s_law) l_law c_law k_law,
    m_law := PySem.W.mg_of X G a_law,
    k_law := k_law,
    b_law := ((fun_mk (st := s_law) l_law c_law k_law).binds (ps := ["_law_script"]) fun _ _ _ _ _ _ us hl => match us, hl with | [_], _ => rfl),
    v_LONGEST_PERIOD := PySem.W.mg_of X G v_LONGEST_PERIOD,
    v_MAX_IN_PIECE := PySem.W.mg_of X G v_MAX_IN_PIECE,
    v_MAX_LATER := PySem.W.mg_of X G v_MAX_LATER,
    v_MAX_VALUE := PySem.W.mg_of X G v_MAX_VALUE,
    v_MAX_VALUES := PySem.W.mg_of X G v_MAX_VALUES,
    v_PERIODS := PySem.W.mg_of X G v_PERIODS,
    periods := fun H => .inr ⟨_, _, _, l_PERIODS, rfl, rfl, (by rw [sizeLine_eq]; show 6 ≤ _; decide), (.cons ⟨_, rfl⟩ (.cons ⟨_, rfl⟩ (.cons ⟨_, rfl⟩ (.cons ⟨_, rfl⟩ (.cons ⟨_, rfl⟩ (.cons ⟨_, rfl⟩ .nil))))))⟩,
    abs := PySem.W.mg_none_of X G z_abs,
    all := PySem.W.mg_none_of X G z_all,
    bool := PySem.W.mg_none_of X G z_bool,
    divmod := PySem.W.mg_none_of X G z_divmod,
    enumerate := PySem.W.mg_none_of X G z_enumerate,
    int := PySem.W.mg_none_of X G z_int,
    isinstance := PySem.W.mg_none_of X G z_isinstance,
    len := PySem.W.mg_none_of X G z_len,
    list := PySem.W.mg_none_of X G z_list,
    max := PySem.W.mg_none_of X G z_max,
    min := PySem.W.mg_none_of X G z_min,
    range := PySem.W.mg_none_of X G z_range,
    repr := PySem.W.mg_none_of X G z_repr,
    str := PySem.W.mg_none_of X G z_str,
    sum := PySem.W.mg_none_of X G z_sum,
    tuple := PySem.W.mg_none_of X G z_tuple,
    zip := PySem.W.mg_none_of X G z_zip }
  exact ⟨_, fun s v => .of_eq rfl, fun base _ _ => ok_law (P := l.prog) (w := w) (base := base) T⟩
end VK

open PySem PySem.W PyProof.Rows in
set_option maxRecDepth 100000 in
set_option maxHeartbeats 0 in
theorem PySem.Challenge.cw_dueways_k13_whole_equal_curves_holds : PySem.Challenge.rw_dueways_k13_whole_equal_curves.Holds := by
  w_on; o_law; k_head; (case hw => w_witness2)
  k_fill
  refine VG.walkG (n := 63) (k := 12) (x := "_law_script") (CX := fun _ => L2.CX0) (sp := fun w => VK.spL _) rfl (by decide) rfl ⟨rfl, by decide, by decide⟩ (fun w h Y => PySem.W.kIn_of Y) ?F (fun _ _ a ns hl _ hS => ⟨a, ns, rfl, hS, hl, fun _ => rfl⟩) fun _ _ _ _ _ z => z
  case F =>
    intro w mg fa h KX G hmg
    refine' VK.all_mk KX G hmg ?fun_lcm ?fun_gcd ?g_Curve ?pg_Curve ?hd_Curve ?po_Curve ?sa_Curve ?mk_Curve ?kc_Curve ?ic_Curve ?it_Curve ?ig_Curve ?io_Curve ?ie_Curve ?i_gn ?i_tk ?sf_Curve ?n_Curve_values ?n_Curve_period ?n_Curve_gain ?n_Curve_was_searched ?n_Curve_break ?a_is_integer ?l_is_integer ?c_is_integer ?k_is_integer ?a_is_count ?l_is_count ?c_is_count ?k_is_count ?a_is_count_to ?l_is_count_to ?c_is_count_to ?k_is_count_to ?a_require_count_to ?l_require_count_to ?c_require_count_to ?k_require_count_to ?a_rounded_up ?l_rounded_up ?c_rounded_up ?k_rounded_up ?a_value_at ?l_value_at ?c_value_at ?k_value_at ?a_least_form ?l_least_form ?c_least_form ?k_least_form ?a_least_period ?l_least_period ?c_least_period ?k_least_period ?a_form_of_pieces ?l_form_of_pieces ?c_form_of_pieces ?k_form_of_pieces ?a_line_at ?l_line_at ?c_line_at ?k_line_at ?a_C_init ?i_C_init ?l_C_init ?c_C_init ?k_C_init ?d_C_init_period ?d_C_init_gain ?a_C_of_pieces ?rc_C_of_pieces ?fi_C_of_pieces ?rr_C_of_pieces ?rg_C_of_pieces ?l_C_of_pieces ?c_C_of_pieces ?k_C_of_pieces ?a_C_eq ?i_C_eq ?l_C_eq ?c_C_eq ?k_C_eq ?a_C_repr ?i_C_repr ?l_C_repr ?c_C_repr ?k_C_repr ?a_C_str ?i_C_str ?l_C_str ?c_C_str ?k_C_str ?a_C_add ?i_C_add ?l_C_add ?c_C_add ?k_C_add ?a_C_period ?pg_C_period ?pt_C_period ?pr_C_period ?l_C_period ?c_C_period ?k_C_period ?a_C_gain ?pg_C_gain ?pt_C_gain ?pr_C_gain ?l_C_gain ?c_C_gain ?k_C_gain ?a_C_rate ?pg_C_rate ?pt_C_rate ?pr_C_rate ?l_C_rate ?c_C_rate ?k_C_rate ?a_C_first_values ?i_C_first_values ?l_C_first_values ?c_C_first_values ?k_C_first_values ?a_C_at ?i_C_at ?l_C_at ?c_C_at ?k_C_at ?a_C_at_most ?i_C_at_most ?l_C_at_most ?c_C_at_most ?k_C_at_most ?a_C_later ?i_C_later ?l_C_later ?c_C_later ?k_C_later ?a_make_curve ?l_make_curve ?c_make_curve ?k_make_curve ?a_find_problem ?l_find_problem ?c_find_problem ?k_find_problem ?a_find_wrong_piece ?l_find_wrong_piece ?c_find_wrong_piece ?k_find_wrong_piece ?a_is_piece ?l_is_piece ?c_is_piece ?k_is_piece ?a_common_writing ?l_common_writing ?c_common_writing ?k_common_writing ?a_gain_in ?l_gain_in ?c_gain_in ?k_gain_in ?a_tightest ?l_tightest ?c_tightest ?k_tightest ?a_require_record ?l_require_record ?c_require_record ?k_require_record ?a_sums_before ?l_sums_before ?c_sums_before ?k_sums_before ?a_window_sums ?l_window_sums ?c_window_sums ?k_window_sums ?a_l_rng ?l_l_rng ?c_l_rng ?k_l_rng ?a_l_draw ?l_l_draw ?c_l_draw ?k_l_draw ?a_l_choice ?l_l_choice ?c_l_choice ?k_l_choice ?a_l_at ?l_l_at ?c_l_at ?k_l_at ?a_l_written ?l_l_written ?c_l_written ?k_l_written ?a_l_nearly ?l_l_nearly ?c_l_nearly ?k_l_nearly ?a_l_values ?l_l_values ?c_l_values ?k_l_values ?a_l_line ?l_l_line ?c_l_line ?k_l_line ?a_l_made ?l_l_made ?c_l_made ?k_l_made ?a_l_shown ?l_l_shown ?c_l_shown ?k_l_shown ?a_l_pair_right ?l_l_pair_right ?c_l_pair_right ?k_l_pair_right ?a_law ?l_law ?c_law ?k_law ?v_LONGEST_PERIOD ?v_MAX_IN_PIECE ?v_MAX_LATER ?v_MAX_VALUE ?v_MAX_VALUES ?v_PERIODS ?l_PERIODS ?z_abs ?z_all ?z_bool ?z_divmod ?z_enumerate ?z_int ?z_isinstance ?z_len ?z_list ?z_max ?z_min ?z_range ?z_repr ?z_str ?z_sum ?z_tuple ?z_zip
    (case fun_lcm => k_is)
    (case fun_gcd => k_is)
    (case g_Curve => k_is)
    (case pg_Curve => k_is)
    (case hd_Curve => k_is)
    (case po_Curve => k_is)
    (case sa_Curve => k_is)
    (case mk_Curve => k_is)
    (case kc_Curve => k_is)
    (case ic_Curve => k_is)
    (case it_Curve => k_is)
    (case ig_Curve => k_is)
    (case io_Curve => k_is)
    (case ie_Curve => k_is)
    (case i_gn => k_is)
    (case i_tk => k_is)
    (case sf_Curve => k_is)
    (case n_Curve_values => k_is)
    (case n_Curve_period => k_is)
    (case n_Curve_gain => k_is)
    (case n_Curve_was_searched => k_is)
    (case n_Curve_break => k_is)
    (case a_is_integer => k_is)
    (case l_is_integer => k_is)
    (case c_is_integer => k_is)
    (case k_is_integer => k_is)
    (case a_is_count => k_is)
    (case l_is_count => k_is)
    (case c_is_count => k_is)
    (case k_is_count => k_is)
    (case a_is_count_to => k_is)
    (case l_is_count_to => k_is)
    (case c_is_count_to => k_is)
    (case k_is_count_to => k_is)
    (case a_require_count_to => k_is)
    (case l_require_count_to => k_is)
    (case c_require_count_to => k_is)
    (case k_require_count_to => k_is)
    (case a_rounded_up => k_is)
    (case l_rounded_up => k_is)
    (case c_rounded_up => k_is)
    (case k_rounded_up => k_is)
    (case a_value_at => k_is)
    (case l_value_at => k_is)
    (case c_value_at => k_is)
    (case k_value_at => k_is)
    (case a_least_form => k_is)
    (case l_least_form => k_is)
    (case c_least_form => k_is)
    (case k_least_form => k_is)
    (case a_least_period => k_is)
    (case l_least_period => k_is)
    (case c_least_period => k_is)
    (case k_least_period => k_is)
    (case a_form_of_pieces => k_is)
    (case l_form_of_pieces => k_is)
    (case c_form_of_pieces => k_is)
    (case k_form_of_pieces => k_is)
    (case a_line_at => k_is)
    (case l_line_at => k_is)
    (case c_line_at => k_is)
    (case k_line_at => k_is)
    (case a_C_init => k_is)
    (case i_C_init => k_is)
    (case l_C_init => k_is)
    (case c_C_init => k_is)
    (case k_C_init => k_is)
    (case d_C_init_period => k_is)
    (case d_C_init_gain => k_is)
    (case a_C_of_pieces => k_is)
    (case rc_C_of_pieces => k_is)
    (case fi_C_of_pieces => k_is)
    (case rr_C_of_pieces => k_is)
    (case rg_C_of_pieces => k_is)
    (case l_C_of_pieces => k_is)
    (case c_C_of_pieces => k_is)
    (case k_C_of_pieces => k_is)
    (case a_C_eq => k_is)
    (case i_C_eq => k_is)
    (case l_C_eq => k_is)
    (case c_C_eq => k_is)
    (case k_C_eq => k_is)
    (case a_C_repr => k_is)
    (case i_C_repr => k_is)
    (case l_C_repr => k_is)
    (case c_C_repr => k_is)
    (case k_C_repr => k_is)
    (case a_C_str => k_is)
    (case i_C_str => k_is)
    (case l_C_str => k_is)
    (case c_C_str => k_is)
    (case k_C_str => k_is)
    (case a_C_add => k_is)
    (case i_C_add => k_is)
    (case l_C_add => k_is)
    (case c_C_add => k_is)
    (case k_C_add => k_is)
    (case a_C_period => k_is)
    (case pg_C_period => k_is)
    (case pt_C_period => k_is)
    (case pr_C_period => k_is)
    (case l_C_period => k_is)
    (case c_C_period => k_is)
    (case k_C_period => k_is)
    (case a_C_gain => k_is)
    (case pg_C_gain => k_is)
    (case pt_C_gain => k_is)
    (case pr_C_gain => k_is)
    (case l_C_gain => k_is)
    (case c_C_gain => k_is)
    (case k_C_gain => k_is)
    (case a_C_rate => k_is)
    (case pg_C_rate => k_is)
    (case pt_C_rate => k_is)
    (case pr_C_rate => k_is)
    (case l_C_rate => k_is)
    (case c_C_rate => k_is)
    (case k_C_rate => k_is)
    (case a_C_first_values => k_is)
    (case i_C_first_values => k_is)
    (case l_C_first_values => k_is)
    (case c_C_first_values => k_is)
    (case k_C_first_values => k_is)
    (case a_C_at => k_is)
    (case i_C_at => k_is)
    (case l_C_at => k_is)
    (case c_C_at => k_is)
    (case k_C_at => k_is)
    (case a_C_at_most => k_is)
    (case i_C_at_most => k_is)
    (case l_C_at_most => k_is)
    (case c_C_at_most => k_is)
    (case k_C_at_most => k_is)
    (case a_C_later => k_is)
    (case i_C_later => k_is)
    (case l_C_later => k_is)
    (case c_C_later => k_is)
    (case k_C_later => k_is)
    (case a_make_curve => k_is)
    (case l_make_curve => k_is)
    (case c_make_curve => k_is)
    (case k_make_curve => k_is)
    (case a_find_problem => k_is)
    (case l_find_problem => k_is)
    (case c_find_problem => k_is)
    (case k_find_problem => k_is)
    (case a_find_wrong_piece => k_is)
    (case l_find_wrong_piece => k_is)
    (case c_find_wrong_piece => k_is)
    (case k_find_wrong_piece => k_is)
    (case a_is_piece => k_is)
    (case l_is_piece => k_is)
    (case c_is_piece => k_is)
    (case k_is_piece => k_is)
    (case a_common_writing => k_is)
    (case l_common_writing => k_is)
    (case c_common_writing => k_is)
    (case k_common_writing => k_is)
    (case a_gain_in => k_is)
    (case l_gain_in => k_is)
    (case c_gain_in => k_is)
    (case k_gain_in => k_is)
    (case a_tightest => k_is)
    (case l_tightest => k_is)
    (case c_tightest => k_is)
    (case k_tightest => k_is)
    (case a_require_record => k_is)
    (case l_require_record => k_is)
    (case c_require_record => k_is)
    (case k_require_record => k_is)
    (case a_sums_before => k_is)
    (case l_sums_before => k_is)
    (case c_sums_before => k_is)
    (case k_sums_before => k_is)
    (case a_window_sums => k_is)
    (case l_window_sums => k_is)
    (case c_window_sums => k_is)
    (case k_window_sums => k_is)
    (case a_l_rng => k_is)
    (case l_l_rng => k_is)
    (case c_l_rng => k_is)
    (case k_l_rng => k_is)
    (case a_l_draw => k_is)
    (case l_l_draw => k_is)
    (case c_l_draw => k_is)
    (case k_l_draw => k_is)
    (case a_l_choice => k_is)
    (case l_l_choice => k_is)
    (case c_l_choice => k_is)
    (case k_l_choice => k_is)
    (case a_l_at => k_is)
    (case l_l_at => k_is)
    (case c_l_at => k_is)
    (case k_l_at => k_is)
    (case a_l_written => k_is)
    (case l_l_written => k_is)
    (case c_l_written => k_is)
    (case k_l_written => k_is)
    (case a_l_nearly => k_is)
    (case l_l_nearly => k_is)
    (case c_l_nearly => k_is)
    (case k_l_nearly => k_is)
    (case a_l_values => k_is)
    (case l_l_values => k_is)
    (case c_l_values => k_is)
    (case k_l_values => k_is)
    (case a_l_line => k_is)
    (case l_l_line => k_is)
    (case c_l_line => k_is)
    (case k_l_line => k_is)
    (case a_l_made => k_is)
    (case l_l_made => k_is)
    (case c_l_made => k_is)
    (case k_l_made => k_is)
    (case a_l_shown => k_is)
    (case l_l_shown => k_is)
    (case c_l_shown => k_is)
    (case k_l_shown => k_is)
    (case a_l_pair_right => k_is)
    (case l_l_pair_right => k_is)
    (case c_l_pair_right => k_is)
    (case k_l_pair_right => k_is)
    (case a_law => k_is)
    (case l_law => k_is)
    (case c_law => k_is)
    (case k_law => k_is)
    (case v_LONGEST_PERIOD => k_is)
    (case v_MAX_IN_PIECE => k_is)
    (case v_MAX_LATER => k_is)
    (case v_MAX_VALUE => k_is)
    (case v_MAX_VALUES => k_is)
    (case v_PERIODS => k_is)
    (case l_PERIODS => k_is)
    (case z_abs => k_is)
    (case z_all => k_is)
    (case z_bool => k_is)
    (case z_divmod => k_is)
    (case z_enumerate => k_is)
    (case z_int => k_is)
    (case z_isinstance => k_is)
    (case z_len => k_is)
    (case z_list => k_is)
    (case z_max => k_is)
    (case z_min => k_is)
    (case z_range => k_is)
    (case z_repr => k_is)
    (case z_str => k_is)
    (case z_sum => k_is)
    (case z_tuple => k_is)
    (case z_zip => k_is)


