import PyProof.Rows.All
import Wide.All
import OpenK.AllK
import Wide.FinOn
import PyProof.ReprRoads
import HandS.Base
import HandS.Call
import HandS.List
import HandS.Comp
import HandS.Ends
import HandS.Words
import HandS.WordsList
import HandS.Defaults
import PyProof.ReprLen
import HandS.Iter
import HandS.Walk
import KE.GoesEnumKw
import KE.GoesRev
import HandS.MakeKwOnly
import HandS.Property
import PyProof.InstNe
import PyProof.FString2
import PyProof.FString5
import HandS.IsInst
import HandS.FStr
import HandS.Star
import HandS.ClsMeth
import HandS.WordsExc
import PyProof.TupleOps
import PyProof.ZipIter
import KE.KRevIter
import KE.KDictZip
import KE.GoesMore
import KE.GoesZip
import PyProof.ListNew
import HandS.Zip
import HandS.ForMost
import HandS.Conv
import HandS.Style
import HandS.Deep
import HandS.TupLe
import HandS.NoneIn
import HandS.ExcInit
import HandS.ExcField
import HandS.ExcIs
import HandS.ExcOwn
import HandS.TryOnly
import HandS.Dict
import HandS.More
import HandS.Flow
import HandS.Gcd
import HandS.DeepEq
import PySem.Challenge.RW_dueways_k33_whole_demands_by_all_records
set_option Elab.async false
set_option linter.all false
set_option maxRecDepth 100000
set_option maxHeartbeats 4000000
/-! A def's promise where no repr runs around it (guards are known to be empty), so that repr of data may be asked inside. -/
namespace VG
open PySem PySem.Spec PyProof.Rows L2

/-- repr of data -/
def rRepr (K : PySem.W.Frag) : List V → Hp → VK → Prop := fun xs H Q =>
  ∃ v d, xs = [v] ∧ Dp K H v d ∧ d.showable = true ∧ d.depth ≤ 60 ∧ d.shown.length ≤ sizeLine ∧ Q (.str d.shown) H

theorem dp_noDict (K : PySem.W.Frag) (H : Hp) : (∀ d v, Dp K H v d → d.hasDict = false) ∧ (∀ ds vs, DpAll K H vs ds → PyData.hasDictAll ds = false) := by
  have one : ∀ n, (∀ d v, sizeOf d < n → Dp K H v d → d.hasDict = false) ∧
      (∀ ds vs, sizeOf ds < n → DpAll K H vs ds → PyData.hasDictAll ds = false) := by
    intro n
    induction n with
    | zero => exact ⟨fun _ _ h => absurd h (Nat.not_lt_zero _), fun _ _ h => absurd h (Nat.not_lt_zero _)⟩
    | succ n ih =>
      refine ⟨fun d v hz h => ?_, fun ds vs hz h => ?_⟩
      · cases h with
        | non => rfl
        | bl => rfl
        | int => rfl
        | str => rfl
        | lst _ ha =>
          simp only [PyData.hasDict]
          exact ih.2 _ _ (by simp at hz; omega) ha
        | tup _ ha =>
          simp only [PyData.hasDict]
          exact ih.2 _ _ (by simp at hz; omega) ha
      · cases h with
        | nil => rfl
        | cons h1 h2 =>
          simp only [PyData.hasDictAll]
          rw [ih.1 _ _ (by simp at hz; omega) h1, ih.2 _ _ (by simp at hz; omega) h2]
          rfl
  exact ⟨fun d v => (one (sizeOf d + 1)).1 d v (Nat.lt_succ_self _), fun ds vs => (one (sizeOf ds + 1)).2 ds vs (Nat.lt_succ_self _)⟩

theorem call_repr {X : Cx} (hg : X.A.guards = some []) (hu : X.A.units + 64 < cLine) : CallR X (.builtin "repr") (rRepr X.K) := by
  intro pins s σ H xs us Q I r h
  obtain ⟨v, d, rfl, hd, hs, hdep, hz, q⟩ := h
  obtain ⟨u, rfl, rv⟩ := vals1 r
  have keep : ∀ (h' : Heap) (t' : Nat), (∀ b o, s.heap.get? b = some o → h'.get? b = some o) → Inv X pins σ H { s with heap := h', toks := t' } :=
    fun h' t' k => I.kept (t' := t') k
  have nd := (dp_noDict X.K H).1 d v hd
  obtain ⟨as, rd⟩ := Dp.reads I d v u hd rv
  cases hd with
  | non =>
    cases rv
    exact PySem.P.repr_of_none ⟨.str _, H, I.tok _, ⟨_, rfl⟩, q⟩
  | bl b =>
    cases rv
    refine PySem.P.repr_of_bool ⟨.str _, H, I.tok _, ⟨_, rfl⟩, ?_⟩
    exact q
  | int i =>
    obtain ⟨t, rfl⟩ := rv
    exact PySem.P.repr_of_int (by simpa [PyData.showable] using hs) ⟨.str _, H, I.tok _, ⟨_, rfl⟩, q⟩
  | str x =>
    obtain ⟨t, rfl⟩ := rv
    exact PySem.P.repr_of_str ⟨.str _, H, I.tok _, ⟨_, rfl⟩, q⟩ hz
  | lst _ _ =>
    cases rv
    exact repr_of_reads' rd hs (fun e => by rw [nd] at e; cases e) hg (by omega) (fun _ _ e => e) (fun h' w tk k => ⟨.str _, H, keep h' tk k, ⟨_, rfl⟩, q⟩) hz
  | tup _ _ =>
    cases rv
    exact repr_of_reads' rd hs (fun e => by rw [nd] at e; cases e) hg (by omega) (fun _ _ e => e) (fun h' w tk k => ⟨.str _, H, keep h' tk k, ⟨_, rfl⟩, q⟩) hz

def rLen (K : PySem.W.Frag) : List V → Hp → VK → Prop := fun xs H Q =>
  ∃ p ys, xs = [.ref p] ∧ (SqL K H p ys ∨ SqT K H p ys) ∧ Q (.int ys.length) H
theorem call_len {X : Cx} : CallR X (.builtin "len") (rLen X.K) := call_len_seq
def rListOf (K : PySem.W.Frag) : List V → Hp → VK → Prop := fun xs H Q =>
  ∃ p ys, xs = [.ref p] ∧ (SqL K H p ys ∨ SqT K H p ys) ∧ ∀ l, H l = none → Q (.ref l) (upd H l (.lst ys))
theorem call_listOf {X : Cx} : CallR X (.type "list") (rListOf X.K) := call_list_of

/-- a def's promise, asked only where guards are empty -/
structure FnG (P : Program) (w : World) (K : PySem.W.Frag) (mg : Str → Option Value) (base : Heap) (CX : CXT)
    (k : Nat) (f : Addr) (fd : FuncData) (ps : List Str) (sp : Sp) : Prop where
  arity : ∀ as H Q E, sp as H Q E → as.length = ps.length
  go : ∀ (A : Around) (outer : List Env) (s : Shared) (H : Hp) (args : Args) (us : List Value) (as : List V) (Q : VK) (E : XK),
    A.guards = some [] → Room k A → Env0 P w K mg base A outer s H → BindsTo s fd args (ps.zip us) → Vals as us → sp as H Q E →
      codeAny (model P w) A (.call (.ref f) args) (CR CX outer P w H s Q E) s

section
variable {P : Program} {w : World} {K : PySem.W.Frag} {mg : Str → Option Value} {base : Heap} {CX : CXT}
theorem FnG.of {k : Nat} {f : Addr} {fd : FuncData} {ps : List Str} {sp : Sp} (F : FnOk P w K mg base CX k f fd ps sp) :
    FnG P w K mg base CX k f fd ps sp :=
  ⟨F.len, fun A outer s H args us as Q E _ => F.run A outer s H args us as Q E⟩

/-- a def by its body -/
theorem okG {x qual : Str} {st : Stmt} {f : Addr} {fd : FuncData} {N ps : List Str} {k : Nat} {sp : Sp}
    (F : Fun K x qual st f fd) (S : FnScope N ps (defScope st)) (len : ∀ as H Q E, sp as H Q E → as.length = ps.length)
    (body : ∀ (cdv : Value) (A : Around) (outer : List Env) (s : Shared) (H : Hp) (as : List V) (Q : VK) (E : XK),
      (A.deeper (envOfC qual (defScope st) s.heap.objs.size f cdv)).guards = some [] →
      Room k (A.deeper (envOfC qual (defScope st) s.heap.objs.size f cdv)) → sp as H Q E →
      ∃ t, PSs (cxOf CX P w K mg base N qual (defScope st) f cdv A outer s H E) (defBody st) t ∧
        t { nx := fun _ H' => Q .non H', rt := Q } (start N as) H) :
    FnG P w K mg base CX (k + 1) f fd ps sp := by
  obtain ⟨oc, od, kV, doc, pm, an, cdv, ct, osl, rfl, lk, hcd⟩ := F.ex
  refine ⟨len, fun A outer s H args us as Q E hA hr e0 hb r hsp => ?_⟩
  have hl := len _ _ _ _ hsp
  have KX : K.In s.heap := e0.mod.kin.keeps fun b o e => (e0.bs b o e).1
  have lim : s.heap.NoLimit := e0.mod.nolimit.keeps fun b o e => (e0.bs b o e).1
  have kinds : ∀ y ∈ ps.zip us, (defScope st).names.lookup y.1 = some .local ∨
      ((defScope st).names.lookup y.1 = some .cell ∧ ((cellsFrom (s.heap.objs.size + 1) (defScope st).names []).lookup y.1).isSome = true) := by
    rintro ⟨n, v⟩ hy
    rcases S.par n (List.of_mem_zip hy).1 with q | q
    · exact .inl q
    · exact .inr ⟨q, PySem.W.cellsFrom_some _ _ _ (.inl q)⟩
  refine codeAny_call_function hr.depth (KX _ _ lk) rfl S.co S.gen rfl (PySem.W.codeRec_of KX hcd) (hb _ _ _ _ ?_)
  refine wpAny_newFunctionEnv_cells S.kind kinds fun env he s1 z => ?_
  subst he
  refine ⟨lim.keeps z.toInCall.keep, codeAny_func ?_⟩
  obtain ⟨t, ht, hq⟩ := body cdv A outer s H as Q E hA (hr.deeper _) hsp
  have I0 : Inv (cxOf CX P w K mg base N qual (defScope st) f cdv A outer s H E) [] (start N as) H s1 :=
    inv_start S hr.hd e0 hl r z
  refine wpAny_mono (ht.run [] s1 (start N as) H _ I0 hq) ?_ fun e s' hs => hs
  intro fl s' hs
  have done : ∀ (σ' : L2.St) (H' : Hp) (v : V) (u : Value), Inv (cxOf CX P w K mg base N qual (defScope st) f cdv A outer s H E) [] σ' H' s' →
      RelV v u → Q v H' → CE outer P w H s Q u s' := fun σ' H' v u J rv q => ⟨v, H', J.os, J.bare, J.base, J.hok, rv, q⟩
  cases fl with
  | ret u =>
    obtain ⟨v, σ', H', J, rv, q⟩ := hs
    exact done σ' H' v u J rv q
  | next =>
    obtain ⟨σ', H', J, q⟩ := hs
    exact done σ' H' V.non Value.none J rfl q
  | brk => exact hs.elim fun _ h => h.elim fun _ h => False.elim h.2
  | cont => exact hs.elim fun _ h => h.elim fun _ h => False.elim h.2
end

section
variable {P : Program} {w : World} {K : PySem.W.Frag} {mg : Str → Option Value} {base : Heap}
/-- .. that lets nothing out -/
theorem okG0 {x qual : Str} {st : Stmt} {f : Addr} {fd : FuncData} {N ps : List Str} {k : Nat} {sp : Sp}
    (F : Fun K x qual st f fd) (S : FnScope N ps (defScope st)) (len : ∀ as H Q E, sp as H Q E → as.length = ps.length)
    (body : ∀ (cdv : Value) (A : Around) (outer : List Env) (s : Shared) (H : Hp) (as : List V) (Q : VK) (E : XK),
      (A.deeper (envOfC qual (defScope st) s.heap.objs.size f cdv)).guards = some [] →
      Room k (A.deeper (envOfC qual (defScope st) s.heap.objs.size f cdv)) → sp as H Q E →
      ∃ t, PSs (cxOf CX0 P w K mg base N qual (defScope st) f cdv A outer s H E).nox (defBody st) t ∧
        t { nx := fun _ H' => Q .non H', rt := Q } (start N as) H) :
    FnG P w K mg base CX0 (k + 1) f fd ps sp :=
  okG F S len fun cdv A outer s H as Q E hA hr h =>
    let ⟨t, h1, h2⟩ := body cdv A outer s H as Q E hA hr h
    ⟨t, h1.nox, h2⟩
end

section
variable {X : Cx} {CX : CXT} {k : Nat} {f : Addr} {fd : FuncData} {ps : List Str} {sp : Sp} {E : XK} {x : Str} {p pos : Pos} {e : Expr} {es : List Expr} {t : TA}
theorem runG {pins : List (Addr × Obj)} {σ : L2.St} {H : Hp} {s : Shared} {Q : VK} {us : List Value} {as : List V}
    (F : FnG X.prog X.w X.K X.mg X.base CX k f fd ps sp) (hA : X.A.guards = some []) (hr : Room k X.A) (hb : Binds X.K fd ps [])
    (hx : Passes CX X E) (I : Inv X pins σ H s) (r : Vals as us) (h : sp as H Q E) :
    wpAny (model X.prog X.w) X.A (call (.ref f) us) (EP X pins σ Q) X.xe s := by
  have hn : us.length = ps.length := r.length.symm.trans (F.arity _ _ _ _ h)
  have bind := hb s us I.kIn (by rw [List.append_nil]; exact hn)
  rw [List.append_nil] at bind
  refine wpAny_call (codeAny_mono (F.go X.A X.stack s H ⟨us, []⟩ us as Q E hA hr I.env0 bind r h) ?_)
  intro res s' hq
  match res, hq with
  | .error e, hq => exact hx pins σ H s e s' I hq
  | .ok (.ret u), hq => exact I.after hq
  | .ok .next, hq => exact False.elim hq
  | .ok .brk, hq => exact False.elim hq
  | .ok .cont, hq => exact False.elim hq
/-- f(e, ..) -/
theorem pe_callG (F : FnG X.prog X.w X.K X.mg X.base CX k f fd ps sp) (hA : X.A.guards = some []) (hr : Room k X.A) (hg : Gl X x)
    (hm : X.mg x = some (.ref f)) (hk : PySem.W.keepIn X.K (.ref f) = true) (hb : Binds X.K fd ps []) (hx : Passes CX X E) (ha : PA X (e :: es) t)
    (hdb : (x == ("__debug__" : Str)) = false := by decide) (he : starEach (e :: es) X.env = (false, eval e X.env) :: starEach es X.env := by rfl)
    (hpl : (backTo pos (starEach es X.env)).any (·.1) = false := by rfl) :
    PE X (.Call (.Name x p) (e :: es) [] pos) (tCall sp [] E t) := by
  constructor
  intro pins s σ H Q I h
  refine wpAny_Call_Name_kw (ld_glob I hg hm ?_ hdb)
  have args := ha.run pos pins s σ H _ I h
  refine PySem.W.callWith_K (h₀ := X.base) I.ok.mod.kin hk (thn args ?_) he hpl
  rintro us s1 ⟨as, H1, I1, r, q⟩
  rw [List.append_nil] at q
  exact ⟨I1.kIn, runG F hA hr hb hx I1 r q⟩
theorem pe_callG0 (F : FnG X.prog X.w X.K X.mg X.base CX k f fd ps sp) (hA : X.A.guards = some []) (hr : Room k X.A) (hg : Gl X x)
    (hm : X.mg x = some (.ref f)) (hk : PySem.W.keepIn X.K (.ref f) = true) (hb : Binds X.K fd ps []) (hx : Passes CX X E)
    (hdb : (x == ("__debug__" : Str)) = false := by decide) : PE X (.Call (.Name x p) [] [] pos) (tCall sp [] E tNil) := by
  constructor
  intro pins s σ H Q I h
  refine wpAny_Call_Name_kw (ld_glob I hg hm ?_ hdb)
  exact PySem.W.callWith_K0 I.kIn hk (runG (us := []) (as := []) F hA hr hb hx I .nil h)
end

/-- a statement, then the rest, joined by a word: the rest is read once -/
def tJoin (t u : TS) : TS := fun D σ H => ∃ M : L2.St → Hp → Prop, t { D with nx := M } σ H ∧ ∀ σ' H', M σ' H' → u D σ' H'
theorem pss_join {X : Cx} {st : Stmt} {more : List Stmt} {t u : TS} (h1 : PS X st t) (h2 : PSs X more u) : PSs X (st :: more) (tJoin t u) := by
  constructor
  intro pins s σ H D I h
  obtain ⟨M, hm, hu⟩ := h
  refine wpAny_execs_cons (thn (h1.run pins s σ H _ I hm) ?_)
  intro fl s1 q
  match fl, q with
  | .next, ⟨σ', H', I', q⟩ => exact h2.run pins s1 σ' H' D I' (hu σ' H' q)
  | .ret v, q => exact q
  | .brk, q => exact q
  | .cont, q => exact q
/-- f(k = v, ..), keywords alone -/
def tKw (m : Nat) (sp : Sp) (gV : List V → List V → List V) (E : XK) (tk : TA) : TE := fun σ H Q => tk σ H fun zs H2 => zs.length = m ∧ sp (gV [] zs) H2 Q E
theorem pe_callK0 {X : Cx} {CX : CXT} {k : Nat} {f : Addr} {fd : FuncData} {ps ks : List Str} {sp : Sp} {E : XK} {x : Str} {p pos : Pos} {kws : List Keyword} {tk : TA}
    {g : List Value → List Value → List Value} {gV : List V → List V → List V}
    (F : FnOk X.prog X.w X.K X.mg X.base CX k f fd ps sp) (hr : Room k X.A) (hg : Gl X x) (hm : X.mg x = some (.ref f)) (hk : PySem.W.keepIn X.K (.ref f) = true)
    (hb : KBn X.K fd ps 0 ks g gV) (hx : Passes CX X E) (hkw : PK X kws tk) (hall : (backToKw pos (keywordEach kws X.env)).all (·.1.isSome) = true := by rfl)
    (hks : (backToKw pos (keywordEach kws X.env)).filterMap (·.1) = ks := by rfl) (hdb : (x == ("__debug__" : Str)) = false := by decide)
    (hpl : ((backTo pos (starEach [] X.env)).any (·.1) || (backToKw pos (keywordEach kws X.env)).any (·.1.isNone)) = false := by rfl) :
    PE X (.Call (.Name x p) [] kws pos) (tKw ks.length sp gV E tk) := by
  constructor
  intro pins s σ H Q I h
  refine wpAny_Call_Name_kw (ld_glob I hg hm ?_ hdb)
  refine PySem.W.callWith_KW0 (h₀ := X.base) I.ok.mod.kin hk hall ?_ hpl
  refine thn (hkw.run pos pins s σ H _ I h) ?_
  rintro ws s2 ⟨zs, H2, I2, rz, len, q⟩
  refine ⟨I2.kIn, ?_⟩
  rw [hks]
  have rel := hb.rel (vs := []) (us := []) .nil rz
  have bind := hb.to s2 [] ws I2.kIn rfl (rz.length.symm.trans len)
  refine wpAny_call (codeAny_mono (F.run X.A X.stack s2 H2 ⟨[], ks.zip ws⟩ _ _ Q E hr I2.env0 bind rel q) ?_)
  intro res s' hq
  match res, hq with
  | .error e, hq => exact hx pins σ H2 s2 e s' I2 hq
  | .ok (.ret u), hq => exact I2.after hq
  | .ok .next, hq => exact False.elim hq
  | .ok .brk, hq => exact False.elim hq
  | .ok .cont, hq => exact False.elim hq
/-- how keywords bind for a def without defaults -/
theorem kb_of {K : PySem.W.Frag} {x qual : Str} {st : Stmt} {f : Addr} {fd : FuncData} {ps ks : List Str} {n : Nat} (F : Fun K x qual st f fd)
    (g : {α : Type} → List α → List α → List α) (rel : ∀ {vs zs : List V} {us ws : List Value}, Vals vs us → Vals zs ws → Vals (g vs zs) (g us ws))
    (h : ∀ (kV doc pm : Value) (an : Option Addr) (cdv ct : Value) (us ws : List Value), us.length = n → ws.length = ks.length →
      bindArgs (PySem.W.fnOf x qual (defArgs st) (defBody st) (defScope st) .none kV doc pm an cdv ct) ⟨us, ks.zip ws⟩ = pure (ps.zip (g us ws))) :
    KBn K fd ps n ks (fun us ws => g us ws) (fun vs zs => g vs zs) := by
  obtain ⟨oc, od, kV, doc, pm, an, cdv, ct, osl, rfl, lk, hcd⟩ := F.ex
  exact ⟨fun s us ws _ h1 h2 => .of_eq (h kV doc pm an cdv ct us ws h1 h2), fun a b => rel a b⟩

/-- a law's call: the script is all that may be tracked -/
theorem lawG {P : Program} {w : World} {K : PySem.W.Frag} {mg mb : Str → Option Value} {CX : CXT} {k : Nat} {fa a : Addr} {fd : FuncData} {x : Str}
    {sp : Sp} {s1 : Shared} {vs : List Value} {ns : List Int} (KX : K.In s1.heap) (hns : s1.heap.Ns mainGlobals mg) (hb : s1.heap.Ns builtinsNs mb)
    (hbb : ∀ y : Str, y ≠ "__name__" → mb y = bootBuiltins y) (hlim : s1.heap.NoLimit) (hg : s1.gens = #[])
    (ha : s1.heap.get? a = some { cls := .type "list", data := .seq vs.toArray }) (hi : IntsAre vs ns) (hl : ns.length ≤ sizeLine) (hr : Room k callerA)
    (F : ∀ base : Heap, K.In base → base.Ns mainGlobals mg → FnG P w K mg base CX k fa fd [x] sp)
    (hbind : ∀ (s : Shared) (u : Value), BindsTo s fd ⟨[u], []⟩ [(x, u)])
    (hsp : ∀ H : Hp, Only H → SqL K H a (ns.map V.int) → sp [.ref a] H (fun v _ => v = .bl true) fun _ _ _ => False)
    (hCX : ∀ H e s', CX [] H s1 (fun _ _ _ => False) e s' → False) :
    codeAny (model P w) callerA (.call (.ref fa) ⟨[.ref a], []⟩)
      (fun r s' => r = .ok (.ret (.bool true)) ∧ OldK s1.heap s'.heap ∧ s'.os = s1.os ∧ AllBare s'.gens) s1 := by
  have inner : ∀ H : Hp, Only H → SqL K H a (ns.map V.int) → HOk P w H s1.heap → (∀ b, H b ≠ none → b = a) → (H a ≠ none → K.lookup a = none) →
      codeAny (model P w) callerA (.call (.ref fa) ⟨[.ref a], []⟩)
        (fun r s' => r = .ok (.ret (.bool true)) ∧ OldK s1.heap s'.heap ∧ s'.os = s1.os ∧ AllBare s'.gens) s1 := by
    intro H hO hS hok only noK
    have nodict : ∀ {b : Addr} {o : Obj} {es : Array DictEntry} {ep : Nat}, s1.heap.get? b = some o → o.data = .dict es ep → H b = none := by
      intro b o es ep e d
      by_cases q : H b = none
      · exact q
      · have eb := only b q
        subst eb
        rw [ha] at e
        cases e
        cases d
    have names : ∀ {b : Addr} {m : Str → Option Value}, s1.heap.Ns b m → (hidT s1.heap H).Ns b m := by
      rintro b m ⟨o, es, ep, e, d, r⟩
      exact ⟨o, es, ep, hidT_get e (nodict e d), d, r⟩
    have kin : K.In (hidT s1.heap H) := by
      intro b o e
      refine hidT_get (KX b o e) ?_
      by_cases q : H b = none
      · exact q
      · have eb := only b q
        subst eb
        rw [noK q] at e
        cases e
    have modul : Mod K mg (hidT s1.heap H) := by
      obtain ⟨mc, l1, l2⟩ := hlim
      exact ⟨kin, names hns, ⟨mb, names hb, hbb⟩, ⟨mc, names l1, l2⟩⟩
    have nil : ∀ b : Addr, ¬ b ∈ ([] : List Addr) := fun b z => by cases z
    have env : Env0 P w K mg (hidT s1.heap H) callerA [] s1 H :=
      ⟨rfl, modul, fun b o e => of_hidT e, Nat.le_of_eq (hidT_size _ _), trivial, fun b z => absurd z (nil b), hok, .of_eq hg⟩
    have ran := (F _ kin (names hns)).go callerA [] s1 H ⟨[.ref a], []⟩ [.ref a] [.ref a] _ _ rfl hr env (hbind s1 (.ref a)) (.cons rfl .nil) (hsp H hO hS)
    refine codeAny_mono ran ?_
    intro res s' h
    match res, h with
    | .error e, h => exact (hCX H e s' h).elim
    | .ok .next, h => exact False.elim h
    | .ok .brk, h => exact False.elim h
    | .ok .cont, h => exact False.elim h
    | .ok (.ret u), h =>
      obtain ⟨v, H', os, bare, un, hok', rv, rfl⟩ := h
      obtain rfl : u = Value.bool true := rv
      refine ⟨rfl, OldK.of_keep fun b o e => ?_, os, bare⟩
      rcases hO b with z | ⟨ob, xs, z⟩
      · exact un.keep b o e z (nil b) (nil b)
      · obtain ⟨e1, _⟩ := hok b _ z
        obtain ⟨e2, _⟩ := hok' b _ (un.frzs b ob _ z)
        rw [e] at e1
        cases e1
        exact e2
  have rv := vals_ints hi
  have len := hi.length
  cases hk : K.lookup a with
  | some o =>
    have e := KX a o hk
    rw [ha] at e
    cases e
    have seen : SqL K (fun _ => none) a (ns.map V.int) :=
      .inr ⟨_, vs.toArray, _, hk, rfl, rfl, rfl, by rw [List.size_toArray, len]; exact hl, by simpa using rv⟩
    exact inner (fun _ => none) (fun _ => .inl rfl) seen (fun b u z => by cases z) (fun b z => absurd rfl z) fun z => absurd rfl z
  | none =>
    have at_a : (if a = a then some (HO.frz { cls := .type "list", data := .seq vs.toArray } (.lst (ns.map V.int))) else none) = some (HO.frz { cls := .type "list", data := .seq vs.toArray } (.lst (ns.map V.int))) := if_pos rfl
    refine inner (fun b => if b = a then some (.frz { cls := .type "list", data := .seq vs.toArray } (.lst (ns.map V.int))) else none) ?_ (.inl (.inr ⟨_, at_a⟩)) ?_ ?_ fun _ => hk
    · intro b
      by_cases hb : b = a
      · exact .inr ⟨_, _, if_pos hb⟩
      · exact .inl (if_neg hb)
    · intro b u z
      have z' : (if b = a then some (HO.frz { cls := .type "list", data := .seq vs.toArray } (.lst (ns.map V.int))) else none) = some u := z
      by_cases hb : b = a
      · rw [if_pos hb] at z'
        cases z'
        subst hb
        exact ⟨ha, by rw [List.length_map]; exact hl, vs, _, rv, ha⟩
      · rw [if_neg hb] at z'
        cases z'
    · intro b z
      by_cases hb : b = a
      · exact hb
      · exact absurd (if_neg hb) z

theorem walkG {l : PySem.W.OpenLaw} {n k : Nat} {q : Program} {loose : List Str} {XP : (Str → Option Value) → Heap → Prop} {YP : World → Heap → Prop}
    {d : DefRec} {K : Params → PySem.W.Frag} {CX : World → CXT} {sp : World → Sp} {x : Str}
    (hn : l.most = some n) (hn2 : n ≤ sizeLine) (hdf : d.params.defaults = []) (hr : Room k callerA) (hY : ∀ (w : World) (h : Heap), YP w h → (K w.params).In h)
    (F : ∀ (w : World) (mg : Str → Option Value) (fa : Addr) (h : Heap), (K w.params).In h → h.Ns mainGlobals mg → mg d.name = some (.ref fa) →
      ∃ fd : FuncData, (∀ (s : Shared) (u : Value), BindsTo s fd ⟨[u], []⟩ [(x, u)]) ∧ ∀ base : Heap, (K w.params).In base → base.Ns mainGlobals mg →
        FnG l.prog w (K w.params) mg base (CX w) k fa fd [x] (sp w))
    (hsp : ∀ (w : World) (H : Hp) (a : Addr) (ns : List Int), ns.length ≤ n → Only H → SqL (K w.params) H a (ns.map V.int) →
      sp w [.ref a] H (fun v _ => v = .bl true) fun _ _ _ => False)
    (hCX : ∀ (w : World) (H : Hp) (s : Shared) (e : Value) (s' : Shared), CX w [] H s (fun _ _ _ => False) e s' → False) :
    PySem.W.WalkO q loose XP YP l.row.toRowW d [] (fun f vs => PySem.call f vs) := by
  refine Att.attach_call hn hdf ?_
  intro w s0 s1 mg mb fa o pm cd doc a vs ns G Y ho hd hcd hmg hobj hints hlen hg
  obtain ⟨fd, hb, hF⟩ := F w mg fa _ (hY w _ Y) G.T.g hmg
  exact lawG (hY w _ Y) G.T.g G.T.b G.T.builtins G.T.nolimit hg hobj hints (Nat.le_trans hlen hn2) hr hF hb
    (fun H hO hS => hsp w H a ns hlen hO hS) fun H e s' => hCX w H s1 e s'
end VG

/-! Curves as they are written: values, a period, a gain; plain Lean. -/
namespace VM
/-- the value at t of the curve written so -/
def cvAt (vs : List Int) (p g t : Int) : Int :=
  if t = 0 then 0 else if t ≤ (vs.length : Int) then vs.getD (t - 1).toNat 0 else
    vs.getD (t - (t - vs.length + p - 1) / p * p - 1).toNat 0 + (t - vs.length + p - 1) / p * g

theorem cvAt_zero {vs : List Int} {p g : Int} : cvAt vs p g 0 = 0 := by simp [cvAt]
theorem cvAt_in {vs : List Int} {p g t : Int} (h : 0 < t) (h1 : t ≤ vs.length) : cvAt vs p g t = vs.getD (t - 1).toNat 0 := by
  unfold cvAt
  rw [if_neg (by omega), if_pos h1]

/-- the rounds: between them t lies in the last period -/
theorem rounds_spec {n p t : Int} (hp : 0 < p) (ht : n < t) :
    0 < (t - n + p - 1) / p ∧ n - p < t - (t - n + p - 1) / p * p ∧ t - (t - n + p - 1) / p * p ≤ n := by
  have e := Int.emod_add_mul_ediv (t - n + p - 1) p
  have l := Int.emod_nonneg (t - n + p - 1) (show p ≠ 0 by omega)
  have u := Int.emod_lt_of_pos (t - n + p - 1) hp
  have c : (t - n + p - 1) / p * p = p * ((t - n + p - 1) / p) := Int.mul_comm _ _
  have q1 : 1 ≤ (t - n + p - 1) / p := by
    have := (Int.le_ediv_iff_mul_le (c := p) hp (a := 1) (b := t - n + p - 1)).mpr (by omega)
    exact this
  exact ⟨by omega, by omega, by omega⟩
theorem rounds_step {n p t : Int} (hp : 0 < p) : (t - p - n + p - 1) / p = (t - n + p - 1) / p - 1 := by
  have : t - p - n + p - 1 = (t - n + p - 1) + (-1) * p := by omega
  rw [this, Int.add_mul_ediv_right _ _ (by omega)]
  omega
/-- behind the values: one period back, and the gain -/
theorem cvAt_back {vs : List Int} {p g t : Int} (hp : 0 < p) (hpn : p ≤ vs.length) (ht : (vs.length : Int) < t) : cvAt vs p g t = cvAt vs p g (t - p) + g := by
  obtain ⟨r1, r2, r3⟩ := rounds_spec hp ht
  have st := rounds_step (n := (vs.length : Int)) (p := p) (t := t) hp
  unfold cvAt
  rw [if_neg (by omega), if_neg (by omega), if_neg (show ¬ t - p = 0 by omega)]
  by_cases h : t - p ≤ (vs.length : Int)
  · rw [if_pos h]
    have r : (t - vs.length + p - 1) / p = 1 := by
      have a : (t - vs.length + p - 1) / p < 2 := Int.ediv_lt_of_lt_mul hp (by omega)
      omega
    rw [r, Int.one_mul, Int.one_mul]
  · rw [if_neg h, st]
    have e : t - p - ((t - vs.length + p - 1) / p - 1) * p - 1 = t - (t - vs.length + p - 1) / p * p - 1 := by
      rw [Int.sub_mul, Int.one_mul]; omega
    rw [e, Int.sub_mul, Int.one_mul]
    omega

/-- a function that repeats behind n: with period p and gain g -/
def Rep (f : Int → Int) (n p g : Int) : Prop := ∀ t, n < t → f t = f (t - p) + g
theorem Rep.cvAt {vs : List Int} {p g : Int} (hp : 0 < p) (hpn : p ≤ vs.length) : Rep (cvAt vs p g) vs.length p g := fun _ ht => cvAt_back hp hpn ht

/-- the steps over d, in one period behind n, are all the first one -/
def stepsEq (f : Int → Int) (n p d : Int) : Bool := (List.range p.toNat).all fun (i : Nat) => decide (f (n + 1 + i) - f (n + 1 + i - d) = f (n + 1) - f (n + 1 - d))
/-- the least period from d on that divides p, and its gain -/
def leastFrom (f : Int → Int) (n p : Int) : Nat → Int → Int × Int
  | 0, _ => (p, f (n + p) - f n)
  | k + 1, d => if p % d = 0 ∧ stepsEq f n p d = true then (d, f (n + 1) - f (n + 1 - d)) else leastFrom f n p k (d + 1)
def leastP (f : Int → Int) (n p : Int) : Int × Int := leastFrom f n p (p - 1).toNat 1
/-- how many values must be written -/
def shr (f : Int → Int) (d s : Int) : Nat → Nat
  | 0 => 0
  | m + 1 => if d < (m + 1 : Nat) ∧ f ((m + 1 : Nat) : Int) = f ((m + 1 : Nat) - d) + s then shr f d s m else m + 1
/-- f's values at 1 to m -/
def vals (f : Int → Int) (m : Nat) : List Int := (List.range m).map fun (i : Nat) => f (i + 1)
theorem vals_length {f : Int → Int} {m : Nat} : (vals f m).length = m := by simp [vals]
theorem vals_getD {f : Int → Int} {m i : Nat} (h : i < m) : (vals f m).getD i 0 = f (i + 1) := by
  unfold vals
  rw [List.getD_eq_getElem?_getD, List.getElem?_map, List.getElem?_range h]
  rfl

theorem stepsEq_at {f : Int → Int} {n p d : Int} (h : stepsEq f n p d = true) {t : Int} (h1 : n < t) (h2 : t ≤ n + p) : f t = f (t - d) + (f (n + 1) - f (n + 1 - d)) := by
  unfold stepsEq at h
  rw [List.all_eq_true] at h
  have := h (t - n - 1).toNat (List.mem_range.mpr (by omega))
  have e : n + 1 + ((t - n - 1).toNat : Int) = t := by omega
  rw [e] at this
  have := of_decide_eq_true this
  omega
/-- one round decides -/
theorem Rep.of_steps {f : Int → Int} {n p g d : Int} (R : Rep f n p g) (hd : 0 < d) (hdp : d ≤ p) (h : stepsEq f n p d = true) : Rep f n d (f (n + 1) - f (n + 1 - d)) := by
  have key : ∀ (k : Nat) (t : Int), n < t → t ≤ n + k → f t = f (t - d) + (f (n + 1) - f (n + 1 - d)) := by
    intro k
    induction k with
    | zero => intro t h1 h2; omega
    | succ k ih =>
      intro t h1 h2
      by_cases c : t ≤ n + p
      · exact stepsEq_at h h1 c
      · have a := R t h1
        have b := R (t - d) (by omega)
        have e := ih (t - p) (by omega) (by omega)
        have z : t - d - p = t - p - d := by omega
        rw [z] at b
        omega
  intro t ht
  exact key (t - n).toNat t ht (by omega)
theorem leastFrom_spec {f : Int → Int} {n p g : Int} (R : Rep f n p g) (hp : 0 < p) : ∀ (k : Nat) (d : Int), 0 < d → d + k = p →
    0 < (leastFrom f n p k d).1 ∧ (leastFrom f n p k d).1 ≤ p ∧ Rep f n (leastFrom f n p k d).1 (leastFrom f n p k d).2
  | 0, d, hd, e => by
    unfold leastFrom
    refine ⟨hp, Int.le_refl _, fun t ht => ?_⟩
    have a := R (n + p) (by omega)
    have z : n + p - p = n := by omega
    rw [z] at a
    have b := R t ht
    show f t = f (t - p) + (f (n + p) - f n)
    omega
  | k + 1, d, hd, e => by
    unfold leastFrom
    by_cases c : p % d = 0 ∧ stepsEq f n p d = true
    · rw [if_pos c]
      exact ⟨hd, by show d ≤ p; omega, R.of_steps hd (by omega) c.2⟩
    · rw [if_neg c]
      exact leastFrom_spec R hp k (d + 1) (by omega) (by omega)
theorem leastP_spec {f : Int → Int} {n p g : Int} (R : Rep f n p g) (hp : 0 < p) : 0 < (leastP f n p).1 ∧ (leastP f n p).1 ≤ p ∧ Rep f n (leastP f n p).1 (leastP f n p).2 :=
  leastFrom_spec R hp _ 1 (by omega) (by omega)
theorem shr_spec {f : Int → Int} {d s : Int} (hd : 0 < d) : ∀ (m : Nat), d ≤ m → Rep f m d s → d ≤ shr f d s m ∧ shr f d s m ≤ m ∧ Rep f (shr f d s m) d s
  | 0, h, _ => by omega
  | m + 1, h, R => by
    unfold shr
    by_cases c : d < (m + 1 : Nat) ∧ f ((m + 1 : Nat) : Int) = f ((m + 1 : Nat) - d) + s
    · rw [if_pos c]
      have R' : Rep f m d s := fun t ht => by
        by_cases e : t = ((m + 1 : Nat) : Int)
        · rw [e]; exact c.2
        · exact R t (by omega)
      obtain ⟨a, b, z⟩ := shr_spec hd m (by omega) R'
      exact ⟨a, by omega, z⟩
    · rw [if_neg c]
      exact ⟨h, Nat.le_refl _, R⟩
/-- what repeats behind m is the curve written by its first m values -/
theorem cvAt_vals {f : Int → Int} {m : Nat} {d s : Int} (hd : 0 < d) (hdm : d ≤ m) (h0 : f 0 = 0) (R : Rep f m d s) : ∀ t, 0 ≤ t → cvAt (vals f m) d s t = f t := by
  have key : ∀ (k : Nat) (t : Int), 0 ≤ t → t ≤ k → cvAt (vals f m) d s t = f t := by
    intro k
    induction k with
    | zero =>
      intro t h1 h2
      have : t = 0 := by omega
      rw [this, cvAt_zero, h0]
    | succ k ih =>
      intro t h1 h2
      by_cases z : t = 0
      · rw [z, cvAt_zero, h0]
      · by_cases c : t ≤ (m : Int)
        · rw [cvAt_in (by omega) (by rw [vals_length]; exact c), vals_getD (by omega)]
          congr 1; omega
        · rw [cvAt_back hd (by rw [vals_length]; exact hdm) (by rw [vals_length]; omega), R t (by omega), ih (t - d) (by omega) (by omega)]
  intro t ht
  exact key t.toNat t ht (by omega)
/-- the form: period, gain, values -/
def formP (vs : List Int) (p g : Int) : Int × Int := leastP (cvAt vs p g) vs.length p
def formM (vs : List Int) (p g : Int) : Nat := shr (cvAt vs p g) (formP vs p g).1 (formP vs p g).2 vs.length
def formV (vs : List Int) (p g : Int) : List Int := vals (cvAt vs p g) (formM vs p g)
theorem form_spec {vs : List Int} {p g : Int} (hp : 0 < p) (hpn : p ≤ vs.length) :
    0 < (formP vs p g).1 ∧ (formP vs p g).1 ≤ p ∧ (formP vs p g).1 ≤ (formV vs p g).length ∧ (formV vs p g).length ≤ vs.length ∧
      ∀ t, 0 ≤ t → cvAt (formV vs p g) (formP vs p g).1 (formP vs p g).2 t = cvAt vs p g t := by
  obtain ⟨a, b, R⟩ := leastP_spec (Rep.cvAt (g := g) hp hpn) hp
  obtain ⟨c, d, R'⟩ := shr_spec a vs.length (show (formP vs p g).1 ≤ _ from Int.le_trans b hpn) R
  refine ⟨a, b, ?_, ?_, ?_⟩
  · unfold formV; rw [vals_length]; exact c
  · unfold formV; rw [vals_length]; exact d
  · exact cvAt_vals a c cvAt_zero R'
end VM

/-! Records: sums of windows; plain Lean. -/
namespace VM
/-- the units ahead of tick i -/
def pre (us : List Int) (i : Int) : Int := (us.take i.toNat).sum
def win (us : List Int) (s k : Int) : Int := pre us (s + k) - pre us s
/-- the sum of a slice -/
theorem sum_cut (us : List Int) (s k : Nat) : ((us.drop s).take k).sum = win us s k := by
  unfold win pre
  have e : (((s : Int) + k).toNat) = s + k := by omega
  have e2 : ((s : Int).toNat) = s := by omega
  rw [e, e2, List.take_add, List.sum_append]
  omega
theorem pre_zero (us : List Int) : pre us 0 = 0 := by simp [pre]
theorem pre_all (us : List Int) : pre us us.length = us.sum := by
  unfold pre
  rw [show ((us.length : Nat) : Int).toNat = us.length by omega, List.take_length]
theorem pre_step {us : List Int} {i : Nat} (h : i < us.length) : pre us ((i : Int) + 1) = pre us i + us.getD i 0 := by
  unfold pre
  rw [show ((i : Int) + 1).toNat = i + 1 by omega, show ((i : Int)).toNat = i by omega, List.take_add_one, List.sum_append]
  rw [List.getD_eq_getElem?_getD, List.getElem?_eq_getElem h]
  simp
/-- the first i from a on, of k many, of which P -/
def firstN (p : Nat → Bool) : Nat → Nat → Option Nat
  | 0, _ => none
  | k + 1, i => if p i = true then some i else firstN p k (i + 1)
/-- windows by their length: the first with more than f allows -/
def brk (f : Int → Int) (us : List Int) : Nat → Nat → Option (Int × Int × Int)
  | 0, _ => none
  | k + 1, len => match firstN (fun s => decide (f len < win us s len)) (us.length + 1 - len) 0 with
    | some s => some (len, s, win us s len - f len)
    | none => brk f us k (len + 1)
def breachM (f : Int → Int) (us : List Int) : Option (Int × Int × Int) := brk f us us.length 1
theorem brk_congr {f g : Int → Int} {us : List Int} : ∀ (k len : Nat), (∀ t : Int, (len : Int) ≤ t → t < len + k → f t = g t) → brk f us k len = brk g us k len
  | 0, _, _ => rfl
  | k + 1, len, h => by
    unfold brk
    rw [h len (by omega) (by omega), brk_congr k (len + 1) fun t h1 h2 => h t (by omega) (by omega)]
theorem breachM_congr {f g : Int → Int} {us : List Int} (h : ∀ t : Int, 1 ≤ t → t ≤ us.length → f t = g t) : breachM f us = breachM g us :=
  brk_congr _ _ fun t h1 h2 => h t (by omega) (by omega)
def IsMax (l : List Int) (m : Int) : Prop := m ∈ l ∧ ∀ y ∈ l, y ≤ m
theorem IsMax.eq {l : List Int} {m n : Int} (a : IsMax l m) (b : IsMax l n) : m = n := by
  have h1 := a.2 n b.1
  have h2 := b.2 m a.1
  omega
end VM

/-! Records that enter as early as a curve allows; plain Lean. -/
namespace VM
theorem snoc_ind {P : List Int → Prop} (h0 : P []) (h1 : ∀ l x, P l → P (l ++ [x])) (l : List Int) : P l := by
  have a : ∀ r : List Int, P r.reverse := fun r => by
    induction r with
    | nil => exact h0
    | cons a r ih => rw [List.reverse_cons]; exact h1 _ _ ih
  have b := a l.reverse
  rwa [List.reverse_reverse] at b
/-- the last k units -/
def tl (us : List Int) (k : Nat) : Int := win us ((us.length : Int) - k) k
theorem tl_zero {us : List Int} : tl us 0 = 0 := by
  unfold tl win
  rw [show (us.length : Int) - ((0 : Nat) : Int) + ((0 : Nat) : Int) = (us.length : Int) - ((0 : Nat) : Int) by omega]
  omega
theorem pre_push {e : List Int} {x i : Int} (h : i ≤ e.length) : pre (e ++ [x]) i = pre e i := by
  unfold pre
  rw [List.take_append_of_le_length (by omega)]
theorem pre_last {e : List Int} {x i : Int} (h : i = (e.length : Int) + 1) : pre (e ++ [x]) i = pre e e.length + x := by
  unfold pre
  rw [List.take_of_length_le (by rw [List.length_append, List.length_singleton]; omega), List.take_of_length_le (by omega), List.sum_append]
  simp
theorem tl_push {e : List Int} {x : Int} {k : Nat} (h : k ≤ e.length) : tl (e ++ [x]) (k + 1) = tl e k + x := by
  unfold tl win
  rw [List.length_append, List.length_singleton, pre_last (by omega), pre_push (by omega)]
  rw [show ((e.length + 1 : Nat) : Int) - ((k + 1 : Nat) : Int) = (e.length : Int) - k by omega, show (e.length : Int) - (k : Int) + (k : Int) = e.length by omega]
  omega
/-- one tick further back -/
theorem tl_step {us : List Int} {k : Nat} (h : k < us.length) : tl us (k + 1) = tl us k + us.getD (us.length - 1 - k) 0 := by
  unfold tl win
  rw [show (us.length : Int) - ((k + 1 : Nat) : Int) + ((k + 1 : Nat) : Int) = us.length by omega, show (us.length : Int) - ((k : Nat) : Int) + ((k : Nat) : Int) = us.length by omega]
  have e := pre_step (us := us) (i := us.length - 1 - k) (by omega)
  rw [show ((us.length - 1 - k : Nat) : Int) + 1 = (us.length : Int) - (k : Nat) by omega] at e
  rw [show (us.length : Int) - ((k + 1 : Nat) : Int) = ((us.length - 1 - k : Nat) : Int) by omega]
  omega
/-- how many may enter behind us, as the windows up to k + 1 tell -/
def freeK (f : Int → Int) (us : List Int) : Nat → Int
  | 0 => f 1
  | k + 1 => min (freeK f us k) (f ((k : Int) + 2) - tl us (k + 1))
def freeM (f : Int → Int) (us : List Int) : Int := freeK f us us.length
theorem le_freeK {f : Int → Int} {us : List Int} {c : Int} : ∀ {n : Nat}, c ≤ freeK f us n ↔ ∀ k : Nat, k ≤ n → tl us k + c ≤ f ((k : Int) + 1)
  | 0 => by
    constructor
    · intro h k hk
      have : k = 0 := by omega
      subst this
      rw [tl_zero]
      have : c ≤ f 1 := h
      show 0 + c ≤ f 1
      omega
    · intro h
      have := h 0 (Nat.le_refl _)
      rw [tl_zero] at this
      have e : 0 + c ≤ f 1 := this
      show c ≤ f 1
      omega
  | n + 1 => by
    have ih := le_freeK (f := f) (us := us) (c := c) (n := n)
    constructor
    · intro h k hk
      unfold freeK at h
      by_cases z : k = n + 1
      · subst z
        rw [show ((n + 1 : Nat) : Int) + 1 = (n : Int) + 2 by omega]
        omega
      · exact ih.mp (by omega) k (by omega)
    · intro h
      have a := ih.mpr fun k hk => h k (by omega)
      have b := h (n + 1) (Nat.le_refl _)
      rw [show ((n + 1 : Nat) : Int) + 1 = (n : Int) + 2 by omega] at b
      unfold freeK
      omega
theorem le_free {f : Int → Int} {us : List Int} {c : Int} : c ≤ freeM f us ↔ ∀ k : Nat, k ≤ us.length → tl us k + c ≤ f ((k : Int) + 1) := le_freeK
/-- no window has too many -/
def Kept (f : Int → Int) (us : List Int) : Prop := ∀ s k : Nat, 1 ≤ k → s + k ≤ us.length → win us s k ≤ f k
theorem Kept.push {f : Int → Int} {e : List Int} {x : Int} (h : Kept f e) (hx : x ≤ freeM f e) : Kept f (e ++ [x]) := by
  intro s k h1 h2
  rw [List.length_append, List.length_singleton] at h2
  by_cases c : s + k ≤ e.length
  · have := h s k h1 c
    unfold win at this ⊢
    rw [pre_push (by omega), pre_push (by omega)]
    exact this
  · have a := le_free.mp hx (k - 1) (by omega)
    have b := tl_push (e := e) (x := x) (k := k - 1) (by omega)
    rw [show k - 1 + 1 = k by omega] at b
    unfold tl at b
    rw [List.length_append, List.length_singleton, show ((e.length + 1 : Nat) : Int) - (k : Int) = (s : Int) by omega] at b
    rw [show ((k - 1 : Nat) : Int) + 1 = (k : Int) by omega] at a
    rw [b]
    exact a
theorem Kept.front {f : Int → Int} {e : List Int} {x : Int} (h : Kept f (e ++ [x])) : Kept f e := by
  intro s k h1 h2
  have a := h s k h1 (by rw [List.length_append, List.length_singleton]; omega)
  unfold win at a ⊢
  rw [pre_push (by omega), pre_push (by omega)] at a
  exact a
theorem Kept.free {f : Int → Int} {e : List Int} {x : Int} (h : Kept f (e ++ [x])) : x ≤ freeM f e := by
  refine le_free.mpr fun k hk => ?_
  have a := h (e.length - k) (k + 1) (by omega) (by rw [List.length_append, List.length_singleton]; omega)
  have b := tl_push (e := e) (x := x) (k := k) hk
  unfold tl at b
  rw [List.length_append, List.length_singleton, show ((e.length + 1 : Nat) : Int) - ((k + 1 : Nat) : Int) = ((e.length - k : Nat) : Int) by omega] at b
  rw [b] at a
  have z : ((k + 1 : Nat) : Int) = (k : Int) + 1 := by omega
  rw [z] at a
  exact a
theorem Kept.nil {f : Int → Int} : Kept f [] := fun s k h1 h2 => by
  have : s + k ≤ 0 := h2
  omega
theorem firstN_none {p : Nat → Bool} : ∀ {k i : Nat}, firstN p k i = none ↔ ∀ j, i ≤ j → j < i + k → p j = false
  | 0, i => ⟨fun _ => fun j a b => absurd b (by omega), fun _ => rfl⟩
  | k + 1, i => by
    have ih := firstN_none (p := p) (k := k) (i := i + 1)
    unfold firstN
    by_cases c : p i = true
    · rw [if_pos c]
      refine ⟨fun h => (by cases h), fun h => ?_⟩
      rw [h i (Nat.le_refl _) (by omega)] at c
      cases c
    · rw [if_neg c, ih]
      refine ⟨fun h j a b => ?_, fun h j a b => h j (by omega) (by omega)⟩
      by_cases z : j = i
      · rw [z]; simpa using c
      · exact h j (by omega) (by omega)
theorem brk_none {f : Int → Int} {us : List Int} : ∀ {k len : Nat}, brk f us k len = none ↔ ∀ t : Nat, len ≤ t → t < len + k → ∀ s : Nat, s < us.length + 1 - t → win us s t ≤ f t
  | 0, len => ⟨fun _ => fun t a b => absurd b (by omega), fun _ => rfl⟩
  | k + 1, len => by
    have ih := brk_none (f := f) (us := us) (k := k) (len := len + 1)
    have fn := firstN_none (p := fun s => decide (f len < win us s len)) (k := us.length + 1 - len) (i := 0)
    unfold brk
    cases hh : firstN (fun s => decide (f len < win us s len)) (us.length + 1 - len) 0 with
    | some s =>
      refine ⟨fun h => (by cases h), fun h => ?_⟩
      have : firstN (fun s => decide (f len < win us s len)) (us.length + 1 - len) 0 = none := fn.mpr fun j _ b => by
        have := h len (Nat.le_refl _) (by omega) j (by omega)
        exact decide_eq_false (by omega)
      rw [hh] at this; cases this
    | none =>
      show brk f us k (len + 1) = none ↔ _
      rw [ih]
      refine ⟨fun h t a b s hs => ?_, fun h t a b s hs => h t (by omega) (by omega) s hs⟩
      by_cases z : t = len
      · subst z
        have := fn.mp hh s (Nat.zero_le _) (by omega)
        have := of_decide_eq_false this
        omega
      · exact h t (by omega) (by omega) s hs
theorem kept_iff {f : Int → Int} {us : List Int} : breachM f us = none ↔ Kept f us := by
  unfold breachM
  rw [brk_none]
  exact ⟨fun h s k h1 h2 => h k h1 (by omega) s (by omega), fun h t a b s hs => h s t a (by omega)⟩
/-! ### shaped -/
def shS (f : Int → Int) (st : List Int × Int) (u : Int) : List Int × Int := (st.1 ++ [min (st.2 + u) (freeM f st.1)], st.2 + u - min (st.2 + u) (freeM f st.1))
def shG (f : Int → Int) (us : List Int) : List Int × Int := us.foldl (shS f) ([], 0)
def shapedM (f : Int → Int) (us : List Int) : List Int := (shG f us).1
theorem shG_push {f : Int → Int} {us : List Int} {u : Int} : shG f (us ++ [u]) = shS f (shG f us) u := by
  unfold shG; rw [List.foldl_append]; rfl
theorem shG_take {f : Int → Int} {us : List Int} {i : Nat} (h : i < us.length) : shG f (us.take (i + 1)) = shS f (shG f (us.take i)) (us.getD i 0) := by
  rw [← shG_push, List.take_add_one, List.getElem?_eq_getElem h, List.getD_eq_getElem?_getD, List.getElem?_eq_getElem h]
  rfl
theorem shG_length {f : Int → Int} (us : List Int) : (shG f us).1.length = us.length := by
  refine snoc_ind (P := fun us => (shG f us).1.length = us.length) rfl (fun l x ih => ?_) us
  show (shG f (l ++ [x])).1.length = (l ++ [x]).length
  rw [shG_push]
  unfold shS
  rw [List.length_append, List.length_append, ih]
  rfl
theorem shaped_length {f : Int → Int} (us : List Int) : (shapedM f us).length = us.length := shG_length us
theorem shaped_kept {f : Int → Int} (us : List Int) : Kept f (shapedM f us) := by
  refine snoc_ind (P := fun us => Kept f (shapedM f us)) Kept.nil (fun l x ih => ?_) us
  show Kept f (shG f (l ++ [x])).1
  rw [shG_push]
  exact Kept.push ih (by show min _ _ ≤ _; unfold shapedM at *; omega)
theorem kept_shaped {f : Int → Int} {us : List Int} (h : Kept f us) : shG f us = (us, 0) := by
  revert h
  refine snoc_ind (P := fun us => Kept f us → shG f us = (us, 0)) (fun _ => rfl) (fun l x ih h => ?_) us
  have a := h.free
  rw [shG_push, ih h.front]
  unfold shS
  simp only
  rw [show min (0 + x) (freeM f l) = x by omega]
  congr 1
  omega
/-- rising values from 1 on -/
structure Up (f : Int → Int) : Prop where
  one : 0 ≤ f 1
  up : ∀ k : Nat, 1 ≤ k → f k ≤ f ((k : Int) + 1)
theorem Up.free {f : Int → Int} (U : Up f) {e : List Int} (h : Kept f e) : 0 ≤ freeM f e := by
  refine le_free.mpr fun k hk => ?_
  by_cases z : k = 0
  · subst z
    rw [tl_zero]
    have := U.one
    show 0 + 0 ≤ f 1
    omega
  · have a := h (e.length - k) k (by omega) (by omega)
    have b := U.up k (by omega)
    unfold tl
    rw [show (e.length : Int) - (k : Int) = ((e.length - k : Nat) : Int) by omega]
    omega
theorem sum_snoc {l : List Int} {x : Int} : (l ++ [x]).sum = l.sum + x := by rw [List.sum_append]; simp
/-- what entered and waits: counts, together what came -/
theorem shG_bound {f : Int → Int} (U : Up f) {us : List Int} (h : ∀ u ∈ us, 0 ≤ u) : 0 ≤ (shG f us).2 ∧ (shG f us).1.sum + (shG f us).2 = us.sum ∧ ∀ x ∈ (shG f us).1, 0 ≤ x ∧ x ≤ us.sum := by
  revert h
  refine snoc_ind (P := fun us => (∀ u ∈ us, 0 ≤ u) → 0 ≤ (shG f us).2 ∧ (shG f us).1.sum + (shG f us).2 = us.sum ∧ ∀ x ∈ (shG f us).1, 0 ≤ x ∧ x ≤ us.sum) (fun _ => ⟨Int.le_refl _, rfl, fun x hx => by cases hx⟩) (fun l u ih h => ?_) us
  have hu := h u (by simp)
  obtain ⟨a, b, c⟩ := ih fun y hy => h y (List.mem_append_left _ hy)
  have fr := U.free (shaped_kept (f := f) l)
  unfold shapedM at fr
  have ps : 0 ≤ (shG f l).1.sum := by
    have : ∀ r : List Int, (∀ x ∈ r, 0 ≤ x) → 0 ≤ r.sum := fun r => by
      induction r with
      | nil => intro _; decide
      | cons z r ih => intro q; rw [List.sum_cons]; have := q z List.mem_cons_self; have := ih fun y hy => q y (List.mem_cons_of_mem _ hy); omega
    exact this _ fun x hx => (c x hx).1
  rw [shG_push, sum_snoc]
  unfold shS
  simp only [sum_snoc]
  refine ⟨by omega, by omega, fun x hx => ?_⟩
  rcases List.mem_append.mp hx with q | q
  · have := c x q; omega
  · cases List.mem_singleton.mp q
    omega
theorem shaped_front {f : Int → Int} {us vs : List Int} : (shapedM f (us ++ vs)).take us.length = shapedM f us := by
  refine snoc_ind (P := fun vs => (shapedM f (us ++ vs)).take us.length = shapedM f us) ?_ (fun l x ih => ?_) vs
  · show (shapedM f (us ++ [])).take us.length = shapedM f us
    rw [List.append_nil, ← shaped_length (f := f) us, List.take_length]
  · show (shapedM f (us ++ (l ++ [x]))).take us.length = shapedM f us
    rw [← List.append_assoc]
    unfold shapedM at ih ⊢
    rw [shG_push]
    unfold shS
    rw [List.take_append_of_le_length (by rw [shG_length, List.length_append]; omega)]
    exact ih
theorem freeK_congr {f g : Int → Int} {e : List Int} : ∀ {n : Nat}, (∀ t : Int, 1 ≤ t → t ≤ (n : Int) + 1 → f t = g t) → freeK f e n = freeK g e n
  | 0, h => h 1 (by omega) (by omega)
  | n + 1, h => by
    unfold freeK
    rw [freeK_congr (n := n) fun t a b => h t a (by omega), h ((n : Int) + 2) (by omega) (by omega)]
theorem shG_congr {f g : Int → Int} {us : List Int} (h : ∀ t : Int, 1 ≤ t → t ≤ us.length → f t = g t) : shG f us = shG g us := by
  revert h
  refine snoc_ind (P := fun us => (∀ t : Int, 1 ≤ t → t ≤ us.length → f t = g t) → shG f us = shG g us) (fun _ => rfl) (fun l x ih h => ?_) us
  rw [List.length_append, List.length_singleton] at h
  rw [shG_push, shG_push, ih fun t a b => h t a (by omega)]
  unfold shS freeM
  rw [freeK_congr fun t a b => h t a (by rw [shG_length] at b; omega)]
/-- a curve that rises where it is written rises -/
theorem up_cv {vs : List Int} {p g : Int} (hp : 0 < p) (hpn : p ≤ vs.length) (h0 : 0 ≤ vs.getD 0 0) (up : ∀ i, i + 1 < vs.length → vs.getD i 0 ≤ vs.getD (i + 1) 0) (last : vs.getD (vs.length - 1) 0 ≤ vs.getD (vs.length - p.toNat) 0 + g) : Up (cvAt vs p g) := by
  refine ⟨by rw [cvAt_in (by decide) (by omega)]; exact h0, fun k => ?_⟩
  induction k using Nat.strongRecOn with
  | ind k ih =>
    intro h1
    by_cases c : k < vs.length
    · rw [cvAt_in (by omega) (by omega), cvAt_in (by omega) (by omega), show ((k : Int) - 1).toNat = k - 1 by omega, show ((k : Int) + 1 - 1).toNat = k - 1 + 1 by omega]
      exact up (k - 1) (by omega)
    · by_cases d : k = vs.length
      · rw [cvAt_back (t := (k : Int) + 1) hp hpn (by omega), cvAt_in (by omega) (by omega), cvAt_in (by omega) (by omega), show ((k : Int) - 1).toNat = vs.length - 1 by omega, show ((k : Int) + 1 - p - 1).toNat = vs.length - p.toNat by omega]
        exact last
      · rw [cvAt_back (t := (k : Int) + 1) hp hpn (by omega), cvAt_back (t := (k : Int)) hp hpn (by omega)]
        have := ih (k - p.toNat) (by omega) (by omega)
        rw [show ((k - p.toNat : Nat) : Int) = (k : Int) - p by omega] at this
        rw [show (k : Int) + 1 - p = (k : Int) - p + 1 by omega]
        omega
/-- no pair of lengths up to n shows a break -/
def goodB (f : Int → Int) (n : Nat) : Bool := (List.range n).all fun a => (List.range (a + 1)).all fun b => decide (f ((a : Int) + 1 + ((b : Int) + 1)) ≤ f ((a : Int) + 1) + f ((b : Int) + 1))
theorem good_at {f : Int → Int} {n : Nat} (h : goodB f n = true) {a b : Int} (h1 : 1 ≤ b) (h2 : b ≤ a) (h3 : a ≤ n) : f (a + b) ≤ f a + f b := by
  unfold goodB at h
  rw [List.all_eq_true] at h
  have x := h (a - 1).toNat (List.mem_range.mpr (by omega))
  rw [List.all_eq_true] at x
  have y := of_decide_eq_true (x (b - 1).toNat (List.mem_range.mpr (by omega)))
  rw [show (((a - 1).toNat : Nat) : Int) + 1 = a by omega, show (((b - 1).toNat : Nat) : Int) + 1 = b by omega] at y
  exact y
end VM

/-! shaped is the greatest; curves that are good at all lengths; greedy records; plain Lean. -/
namespace VM
/-- no unit of vs enters ahead of its coming in us -/
def Behind (us vs : List Int) : Prop := vs.length = us.length ∧ ∀ i : Nat, i ≤ us.length → pre vs i ≤ pre us i
theorem pre_take {us : List Int} {i : Nat} : pre us i = (us.take i).sum := by
  unfold pre; rw [Int.toNat_natCast]
theorem pre_len {us : List Int} {i : Int} (h : (us.length : Int) ≤ i) : pre us i = us.sum := by
  unfold pre; rw [List.take_of_length_le (by omega)]
theorem tl_pre {us : List Int} {k : Nat} (h : k ≤ us.length) : tl us k = us.sum - pre us ((us.length : Int) - k) := by
  unfold tl win
  rw [show (us.length : Int) - (k : Int) + (k : Int) = us.length by omega, pre_all]
/-- free is one of the windows -/
theorem freeK_some {f : Int → Int} {us : List Int} : ∀ n : Nat, ∃ k : Nat, k ≤ n ∧ freeK f us n = f ((k : Int) + 1) - tl us k
  | 0 => ⟨0, Nat.le_refl _, by rw [tl_zero]; show f 1 = f ((0 : Int) + 1) - 0; rw [Int.zero_add]; omega⟩
  | n + 1 => by
    obtain ⟨k, hk, e⟩ := freeK_some (f := f) (us := us) n
    unfold freeK
    by_cases c : freeK f us n ≤ f ((n : Int) + 2) - tl us (n + 1)
    · exact ⟨k, by omega, by omega⟩
    · refine ⟨n + 1, Nat.le_refl _, ?_⟩
      rw [show ((n + 1 : Nat) : Int) + 1 = (n : Int) + 2 by omega]
      omega
theorem shG_front {f : Int → Int} {us : List Int} {i : Nat} (h : i ≤ us.length) : (shG f (us.take i)).1 = (shapedM f us).take i := by
  have e : us.take i ++ us.drop i = us := List.take_append_drop i us
  have s := shaped_front (f := f) (us := us.take i) (vs := us.drop i)
  rw [e, List.length_take, Nat.min_eq_left h] at s
  exact s.symm
theorem shG_sum {f : Int → Int} (us : List Int) : (shG f us).1.sum + (shG f us).2 = us.sum := by
  refine snoc_ind (P := fun us => (shG f us).1.sum + (shG f us).2 = us.sum) rfl (fun l u ih => ?_) us
  show (shG f (l ++ [u])).1.sum + (shG f (l ++ [u])).2 = (l ++ [u]).sum
  rw [shG_push, sum_snoc]
  unfold shS
  simp only [sum_snoc]
  omega
/-- the units so far of the shaped record -/
theorem shaped_pre {f : Int → Int} {us : List Int} {i : Nat} (h : i ≤ us.length) : pre (shapedM f us) i = (shG f (us.take i)).1.sum := by
  rw [shG_front h, pre_take]
theorem shaped_greatest {f : Int → Int} {us vs : List Int} (B : Behind us vs) (K : Kept f vs) : ∀ i : Nat, i ≤ us.length → pre vs i ≤ pre (shapedM f us) i := by
  intro i
  induction i using Nat.strongRecOn with
  | ind i ih =>
    intro hi
    match i with
    | 0 => rw [show ((0 : Nat) : Int) = 0 from rfl, pre_zero, pre_zero]; exact Int.le_refl _
    | i + 1 =>
      have st := shG_take (f := f) (us := us) (i := i) (by omega)
      have sm := shG_sum (f := f) (us.take i)
      have p1 := shaped_pre (f := f) (us := us) (i := i + 1) hi
      have p0 := shaped_pre (f := f) (us := us) (i := i) (by omega)
      have lg : (shG f (us.take i)).1.length = i := by rw [shG_length, List.length_take]; omega
      rw [p1, st]
      have us1 := pre_step (us := us) (i := i) (by omega)
      have ut : (us.take i).sum = pre us i := pre_take.symm
      have bi := B.2 (i + 1) hi
      rw [show ((i + 1 : Nat) : Int) = (i : Int) + 1 by omega] at bi ⊢
      unfold shS
      simp only [sum_snoc]
      by_cases c : (shG f (us.take i)).2 + us.getD i 0 ≤ freeM f (shG f (us.take i)).1
      · omega
      · obtain ⟨k, hk, e⟩ := freeK_some (f := f) (us := (shG f (us.take i)).1) (shG f (us.take i)).1.length
        rw [lg] at hk
        have tp := tl_pre (us := (shG f (us.take i)).1) (k := k) (by omega)
        rw [lg] at tp
        have pk : pre (shG f (us.take i)).1 ((i : Int) - k) = pre (shapedM f us) ((i - k : Nat) : Int) := by
          rw [shG_front (by omega), show (i : Int) - (k : Int) = ((i - k : Nat) : Int) by omega, pre_take, pre_take, List.take_take, Nat.min_eq_left (by omega)]
        have q := ih (i - k) (by omega) (by omega)
        have w := K (i - k) (k + 1) (by omega) (by rw [B.1]; omega)
        unfold win at w
        rw [show ((i - k : Nat) : Int) + ((k + 1 : Nat) : Int) = (i : Int) + 1 by omega, show ((k + 1 : Nat) : Int) = (k : Int) + 1 by omega] at w
        have fm : freeM f (shG f (us.take i)).1 = f ((k : Int) + 1) - tl (shG f (us.take i)).1 k := e
        omega
/-- the shaped record is behind what comes -/
theorem shaped_behind {f : Int → Int} {us : List Int} (U : Up f) (h : ∀ u ∈ us, 0 ≤ u) : Behind us (shapedM f us) := by
  refine ⟨shaped_length us, fun i hi => ?_⟩
  have a := shG_bound (f := f) U (us := us.take i) fun u hu => h u (List.mem_of_mem_take hu)
  rw [shaped_pre hi, pre_take]
  omega
/-- good at the lengths of the form: good at all lengths -/
theorem good_all {f : Int → Int} {n p g : Int} (R : Rep f n p g) (hp : 0 < p) (hpn : p ≤ n) (h0 : f 0 = 0) (G : ∀ a b : Int, 1 ≤ b → b ≤ a → a ≤ n → f (a + b) ≤ f a + f b) : ∀ a b : Int, 0 ≤ a → 0 ≤ b → f (a + b) ≤ f a + f b := by
  have half : ∀ (k : Nat) (a b : Int), 0 ≤ b → b ≤ a → a + b = k → f (a + b) ≤ f a + f b := by
    intro k
    induction k using Nat.strongRecOn with
    | ind k ih =>
      intro a b hb hba e
      by_cases z : b = 0
      · subst z; rw [h0, Int.add_zero]; omega
      · by_cases c : a ≤ n
        · exact G a b (by omega) hba c
        · have r1 := R a (by omega)
          have r2 := R (a + b) (by omega)
          rw [show a + b - p = a - p + b by omega] at r2
          have : f (a - p + b) ≤ f (a - p) + f b := by
            by_cases d : b ≤ a - p
            · exact ih (a - p + b).toNat (by omega) (a - p) b hb d (by omega)
            · have := ih (a - p + b).toNat (by omega) b (a - p) (by omega) (by omega) (by omega)
              rw [show b + (a - p) = a - p + b by omega] at this
              omega
          omega
  intro a b ha hb
  by_cases c : b ≤ a
  · exact half (a + b).toNat a b hb c (by omega)
  · have := half (a + b).toNat b a ha (by omega) (by omega)
    rw [show b + a = a + b by omega] at this
    omega
/-- the greedy record of n ticks -/
def greedyM (f : Int → Int) (n : Nat) : List Int := (List.range n).map fun t : Nat => f ((t : Int) + 1) - f t
theorem greedy_length {f : Int → Int} {n : Nat} : (greedyM f n).length = n := by simp [greedyM]
theorem greedy_succ {f : Int → Int} {n : Nat} : greedyM f (n + 1) = greedyM f n ++ [f ((n : Int) + 1) - f n] := by
  unfold greedyM; rw [List.range_succ, List.map_append]; rfl
theorem greedy_sum {f : Int → Int} (h0 : f 0 = 0) : ∀ n : Nat, (greedyM f n).sum = f n
  | 0 => by show (0 : Int) = f 0; omega
  | n + 1 => by
    rw [greedy_succ, sum_snoc, greedy_sum h0 n, show ((n + 1 : Nat) : Int) = (n : Int) + 1 by omega]
    omega
theorem greedy_take {f : Int → Int} {n i : Nat} (h : i ≤ n) : (greedyM f n).take i = greedyM f i := by
  unfold greedyM; rw [← List.map_take, List.take_range, Nat.min_eq_left h]
theorem greedy_pre {f : Int → Int} (h0 : f 0 = 0) {n i : Nat} (h : i ≤ n) : pre (greedyM f n) i = f i := by
  rw [pre_take, greedy_take h, greedy_sum h0]
theorem greedy_kept {f : Int → Int} (h0 : f 0 = 0) (G : ∀ a b : Int, 0 ≤ a → 0 ≤ b → f (a + b) ≤ f a + f b) (n : Nat) : Kept f (greedyM f n) := by
  intro s k h1 h2
  rw [greedy_length] at h2
  unfold win
  rw [show (s : Int) + (k : Int) = ((s + k : Nat) : Int) by omega, greedy_pre h0 h2, greedy_pre h0 (by omega)]
  have := G s k (by omega) (by omega)
  rw [show ((s + k : Nat) : Int) = (s : Int) + (k : Int) by omega]
  omega
/-- ahead of every record that keeps the curve -/
theorem greedy_ahead {f : Int → Int} (h0 : f 0 = 0) {vs : List Int} (K : Kept f vs) {n i : Nat} (hn : vs.length = n) (hi : i ≤ n) : pre vs i ≤ pre (greedyM f n) i := by
  rw [greedy_pre h0 hi]
  by_cases z : i = 0
  · subst z
    rw [show ((0 : Nat) : Int) = 0 from rfl, pre_zero, h0]
    exact Int.le_refl _
  · have := K 0 i (by omega) (by omega)
    unfold win at this
    rw [show ((0 : Nat) : Int) + (i : Int) = i by omega, show ((0 : Nat) : Int) = 0 from rfl, pre_zero] at this
    omega
end VM

/-! What repr may be asked of: shown, not deep, not long. -/
namespace VR
open PySem
structure Sz (k L : Nat) (d : PyData) : Prop where
  sh : d.showable = true
  dp : d.depth ≤ k
  ln : d.shown.length ≤ L
theorem Sz.mono {k L k' L' : Nat} {d : PyData} (h : Sz k L d) (a : k ≤ k') (b : L ≤ L') : Sz k' L' d := ⟨h.sh, Nat.le_trans h.dp a, Nat.le_trans h.ln b⟩
theorem Sz.none : Sz 0 5 .none := ⟨rfl, Nat.zero_le _, by decide⟩
theorem Sz.bool (b : Bool) : Sz 0 5 (.bool b) := ⟨rfl, Nat.zero_le _, by cases b <;> decide⟩
theorem log_small {n : Nat} (h : n < 10 ^ 100) : n.log2 < 1920 := by
  by_cases z : n = 0
  · subst z; decide
  · exact (Nat.log2_lt z).mpr (Nat.lt_trans h (by decide +kernel))
theorem Sz.int {i : Int} (h : i.natAbs < 10 ^ 100) : Sz 0 101 (.int i) := by
  refine ⟨by simp only [PyData.showable]; exact decide_eq_true (log_small h), Nat.zero_le _, ?_⟩
  have e := int_text_length_le10 (k := 100) (by decide) h
  show (Str.ofString (toString i)).length ≤ 101
  rw [ofString_length]; exact e
theorem all_show {k L : Nat} : ∀ {ds : List PyData}, (∀ d ∈ ds, Sz k L d) → PyData.showableAll ds = true
  | [], _ => rfl
  | d :: ds, h => by
    simp only [PyData.showableAll]
    rw [(h d List.mem_cons_self).sh, all_show fun e he => h e (List.mem_cons_of_mem _ he)]
    rfl
theorem all_depth {k L : Nat} : ∀ {ds : List PyData}, (∀ d ∈ ds, Sz k L d) → PyData.depthAll ds ≤ k
  | [], _ => Nat.zero_le _
  | d :: ds, h => by
    simp only [PyData.depthAll]
    exact Nat.max_le.mpr ⟨(h d List.mem_cons_self).dp, all_depth fun e he => h e (List.mem_cons_of_mem _ he)⟩
theorem all_len {k L : Nat} : ∀ {ds : List PyData}, (∀ d ∈ ds, Sz k L d) → ((PyData.shownAll ds).map (·.length)).sum ≤ L * ds.length ∧ (PyData.shownAll ds).length = ds.length
  | [], _ => ⟨Nat.zero_le _, rfl⟩
  | d :: ds, h => by
    have a := (h d List.mem_cons_self).ln
    obtain ⟨b, c⟩ := all_len (ds := ds) fun e he => h e (List.mem_cons_of_mem _ he)
    simp only [PyData.shownAll, List.map_cons, List.sum_cons, List.length_cons]
    refine ⟨?_, by omega⟩
    rw [Nat.mul_add, Nat.mul_one]
    omega
theorem Sz.list {k L n : Nat} {ds : List PyData} (h : ∀ d ∈ ds, Sz k L d) (hn : ds.length ≤ n) : Sz (k + 1) ((L + 2) * n + 3) (.list ds) := by
  refine ⟨by simp only [PyData.showable]; exact all_show h, by simp only [PyData.depth]; have := all_depth h; omega, ?_⟩
  obtain ⟨a, b⟩ := all_len h
  have c := listText_len_le (PyData.shownAll ds)
  simp only [PyData.shown]
  rw [b] at c
  have m : (L + 2) * ds.length ≤ (L + 2) * n := Nat.mul_le_mul_left _ hn
  rw [Nat.add_mul] at m
  omega
theorem Sz.tuple {k L n : Nat} {ds : List PyData} (h : ∀ d ∈ ds, Sz k L d) (hn : ds.length ≤ n) : Sz (k + 1) ((L + 2) * n + 3) (.tuple ds) := by
  refine ⟨by simp only [PyData.showable]; exact all_show h, by simp only [PyData.depth]; have := all_depth h; omega, ?_⟩
  obtain ⟨a, b⟩ := all_len h
  have c := tupleText_len_le (PyData.shownAll ds)
  simp only [PyData.shown]
  rw [b] at c
  have m : (L + 2) * ds.length ≤ (L + 2) * n := Nat.mul_le_mul_left _ hn
  rw [Nat.add_mul] at m
  omega
theorem Sz.ints {n : Nat} {us : List Int} (h : ∀ u ∈ us, u.natAbs < 10 ^ 100) (hn : us.length ≤ n) : Sz 1 (103 * n + 3) (.list (us.map PyData.int)) := by
  refine Sz.list (k := 0) (L := 101) (fun d hd => ?_) (by rw [List.length_map]; exact hn)
  obtain ⟨u, hu, rfl⟩ := List.mem_map.mp hd
  exact .int (h u hu)
end VR

/-! for i, x in enumerate(xs, start=k), and over reversed(xs). -/
namespace VE
open PySem PySem.Spec PyProof.Rows L2
section
variable {prog : Program} {w : World} {A : Around} {E : Value → Shared → Prop} {s : Shared}
theorem next_rev {it l : Addr} {i : Nat} {items : Array Value} {x : Value} {Q : Value → Shared → Prop} (hit : s.heap.IsRevIter it l (i : Int)) (hl : s.heap.IsList l items)
    (hx : items[i]? = some x) (hQ : ∀ h', h'.IsRevIter it l ((i : Int) - 1) → Heap.SameBut it s.heap h' → Q x { s with heap := h' }) :
    wpAny (model prog w) A (Builtin.SmallTypes.nextOf (.ref it)) Q E s := by
  obtain ⟨ob, g1, g2, g3⟩ := id hit
  obtain ⟨ol, k1, _, nl, k2⟩ := hl
  have slot := F.slot_lri_next
  unfold Builtin.SmallTypes.nextOf
  refine wpAny_bind (wpAny_callSpecial?_slot (name := Str.ofString "__next__") hit.typeIs slot (wpAny_call_entry slot hit.typeIs F.entry_lri_next ?_ (F.args_lri_next_1 _)))
  unfold Builtin.«list_reverseiterator.__next__» ; refine wpAny_bind (wpAny_of_eq (a := (Value.ref it, [])) rfl ?_)
  try dsimp only
  refine wpAny_bind (wpAny_field g1 g3 (x := rawInt (i : Int)) rfl ?_)
  show wpAny _ A.in1 (if (i : Int) < 0 then _ else _) _ _ s
  rw [if_neg (show ¬ (i : Int) < 0 by omega)]
  show wpAny _ A.in1 (field (.ref it) 0 >>= _) _ _ s
  refine wpAny_bind (wpAny_field g1 g3 (x := .ref l) rfl ?_)
  show wpAny _ A.in1 (seqItems? (.ref l) >>= _) _ _ s
  refine wpAny_bind (wpAny_seqItems k1 k2 ?_)
  simp only [Int.toNat_natCast, hx]
  refine wpAny_bind (wpAny_setField g1 g3 (by simp) ?_)
  have here : (s.heap.update it fun o => o.mapFields fun vs => vs.setIfInBounds 1 (rawInt ((i : Int) - 1))).IsRevIter it l ((i : Int) - 1) := by
    refine ⟨_, Heap.get?_update_self _ g1 (Obj.isFreed_of_fields (Obj.data_mapFields g3 _)), (Obj.cls_mapFields ..).trans g2, ?_⟩
    rw [Obj.data_mapFields g3]
    simp
  first
  | exact wpAny_pure ⟨x, rfl, wpAny_pure (hQ _ here (Heap.SameBut.update ..))⟩
  | exact wpAny_bind (wpAny_pure (wpAny_pure ⟨x, rfl, wpAny_pure (hQ _ here (Heap.SameBut.update ..))⟩))
theorem next_rev_end {it l : Addr} {Q : Value → Shared → Prop} (hh : A.handled = none) (hit : s.heap.IsRevIter it l (-1))
    (hE : ∀ h' e, Heap.ExtBut it s.heap h' → (∃ o, h'.get? e = some o ∧ o.cls = .type "StopIteration") → E (.ref e) { s with heap := h' }) :
    wpAny (model prog w) A (Builtin.SmallTypes.nextOf (.ref it)) Q E s := by
  obtain ⟨ob, g1, g2, g3⟩ := id hit
  have slot := F.slot_lri_next
  unfold Builtin.SmallTypes.nextOf
  refine wpAny_bind (wpAny_callSpecial?_slot (name := Str.ofString "__next__") hit.typeIs slot (wpAny_call_entry slot hit.typeIs F.entry_lri_next ?_ (F.args_lri_next_1 _)))
  unfold Builtin.«list_reverseiterator.__next__» ; refine wpAny_bind (wpAny_of_eq (a := (Value.ref it, [])) rfl ?_)
  try dsimp only
  refine wpAny_bind (wpAny_field g1 g3 (x := rawInt (-1)) rfl ?_)
  show wpAny _ A.in1 (if (-1 : Int) < 0 then _ else _) _ _ s
  rw [if_pos (show (-1 : Int) < 0 by decide)]
  refine wpAny_bind (wpAny_rule ?_)
  first
  | show wpAny _ A.in1 (newExc (.type "StopIteration") [] >>= _) _ _ _
  | (refine wpAny_bind ?_; show wpAny _ A.in1 (newExc (.type "StopIteration") [] >>= _) _ _ _)
  refine wpAny_bind ?_
  simp only [newExc, newTuple]
  refine wpAny_bind (wpAny_newObj_type ?_ (by size_fits)) ; refine wpAny_bind (m := firstArgMember _ _) (wpAny_of_eq (a := Value.none) (by first | rfl | (simp only [firstArgMember]; rfl)) ?_)
  refine wpAny_newObj_type ?_ (by size_fits)
  simp only [raiseNew]
  refine wpAny_bind (wpAny_handled ?_)
  first | rw [show A.in1.handled = none from hh] | rw [hh]
  refine wpAny_bind (wpAny_pure (wpAny_throw ?_))
  exact hE _ _ (((Heap.ExtBut.refl _ _).push _).push _) ⟨_, Heap.get?_push_size _ rfl, rfl⟩
end
theorem draws_rev {prog : Program} {w : World} {A : Around} (hh : A.handled = none) (it l : Addr) (hne : l ≠ it) (items : Array Value) :
    Draws prog w A it [it, l] items.size (fun i v => items[items.size - 1 - i]? = some v)
      (fun i h => i ≤ items.size ∧ h.IsRevIter it l ((items.size : Int) - 1 - (i : Int)) ∧ h.IsList l items) where
  live := fun _ _ st => let ⟨o, ho, _⟩ := st.2.1; ⟨o, ho⟩
  frame := fun _ _ _ st k => ⟨st.1, st.2.1.at fun o e => k it (by simp) o e, st.2.2.at fun o e => k l (by simp) o e⟩
  item := fun i s Q E hi st hQ => by
    obtain ⟨_, hit, hl⟩ := st
    rw [show (items.size : Int) - 1 - (i : Int) = ((items.size - 1 - i : Nat) : Int) by omega] at hit
    have hx : items[items.size - 1 - i]? = some (items[items.size - 1 - i]'(by omega)) := Array.getElem?_eq_getElem (by omega)
    refine next_rev hit hl hx fun h' hit' sb => hQ _ h' s.toks hx ⟨hi, ?_, hl.extBut sb.extBut hne⟩ sb
    rw [show (items.size : Int) - 1 - ((i + 1 : Nat) : Int) = ((items.size - 1 - i : Nat) : Int) - 1 by omega]
    exact hit'
  done := fun s Q E st hE => by
    obtain ⟨_, hit, _⟩ := st
    rw [show (items.size : Int) - 1 - (items.size : Int) = -1 by omega] at hit
    exact next_rev_end hh hit hE

/-- what may be iterated as it is: iter(v) is v -/
structure Self (v : Value) (H : Heap → Prop) : Prop where
  iter : ∀ (prog : Program) (w : World) (A : Around) (E : Value → Shared → Prop) (s : Shared) (Q : Value → Shared → Prop), H s.heap → Q v s → wpAny (model prog w) A (pyIter v) Q E s
theorem self_rev (it l : Addr) (i : Int) : Self (.ref it) fun h => h.IsRevIter it l i := ⟨fun _ _ _ _ _ _ h q => wpAny_pyIter_revIter h q⟩
set_option maxHeartbeats 4000000 in
theorem new_enum {v : Value} {H : Heap → Prop} (B : Self v H) (k : Int) (t : Tok) (hfit : Builtin.SmallTypes.fitsIndex k = true) :
    Meets (Builtin.«enumerate.__new__» ⟨[.type "enumerate", v], [(Str.ofString "start", .int k t)]⟩) (fun _ R s => H s.heap ∧
      R (.ok (.ret (.ref s.heap.objs.size))) { s with heap := s.heap.push { cls := .type "enumerate", data := .fields #[.none, .bool false, v, rawInt k, .none, .none] } }) := by
  refine .of_wp fun prog w A R s h => ?_
  obtain ⟨hp, g, d, tk, os⟩ := s
  obtain ⟨h1, h⟩ := h
  have hsub := sub_enumerate
  have hnf : (!Builtin.SmallTypes.fitsIndex k) = false := by rw [hfit] ; rfl
  have q1 : ∀ {A' : Around} {E : Value → Shared → Prop} {Q : Value → Shared → Prop}, Q v ⟨hp, g, d, tk, os⟩ → wpAny (model prog w) A' (pyIter v) Q E ⟨hp, g, d, tk, os⟩ := fun q => B.iter prog w _ _ _ _ h1 q
  have a1 : (Str.ofString "start" == ("start" : Str)) = true := by decide +kernel
  have a2 : (Str.ofString "start" != ("start" : Str)) = false := by decide +kernel
  have a3 : (Str.ofString "start" != ("iterable" : Str)) = true := by decide +kernel
  have a4 : (("start" : Str) == Str.ofString "start") = true := by decide +kernel
  have a5 : (("iterable" : Str) == Str.ofString "start") = false := by decide +kernel
  wp_walk using q1
  refine wpAny_stack_any fun st => wpAny_pure ?_
  split
  · rename_i c _ _ _ _ _
    cases (c == Value.type "enumerate")
    · wp_walk using q1
      exact ⟨_, rfl, h⟩
    · wp_walk using q1
      exact ⟨_, rfl, h⟩
  · wp_walk using q1
    exact ⟨_, rfl, h⟩
theorem call_enum {prog : Program} {w : World} {A : Around} {E : Value → Shared → Prop} {s : Shared} {v : Value} {H : Heap → Prop} {k : Int} {t : Tok} {Q : Value → Shared → Prop} (B : Self v H) (h1 : H s.heap)
    (b0 : -(2 ^ 63) ≤ k) (b1 : k < 2 ^ 63) (h : Q (.ref s.heap.objs.size) { s with heap := s.heap.push { cls := .type "enumerate", data := .fields #[.none, .bool false, v, rawInt k, .none, .none] } }) :
    wpAny (model prog w) A (call (.type "enumerate") [v] [(Str.ofString "start", .int k t)]) Q E s := by
  refine callType_newKw F.called_enumerate (by decide) (F.typeCall_enumerate_start _ _) (F.newCall_enumerate_start _ _) (fun obj => F.args_object_init_start obj _ _) F.entry_enumerate_new (new_enum B k t (fits_start b0 b1)) ⟨h1, ?_⟩
  exact ⟨⟨_, Heap.get?_push_size _ rfl, rfl⟩, h⟩
end VE
namespace VE
open PySem PySem.Spec PyProof.Rows L2
/-- k, k + 1, .. with the list at a (n items, which the loop leaves there) from its end, in new pairs -/
def Iter' (K : PySem.W.Frag) (a : Addr) (n : Nat) (k : Int) : It :=
  ⟨fun i H => i < n ∧ ∃ xs : List V, SqL K H a xs ∧ xs.length = n, fun i H v H' => ∃ T x, v = .ref T ∧ H T = none ∧ H' = upd H T (.tup [.int (k + (i : Nat)), x]) ∧ ∀ xs, SqL K H a xs → xs[n - 1 - i]? = some x,
    fun i H => n ≤ i ∧ ∃ xs : List V, SqL K H a xs ∧ xs.length = n⟩
theorem turn_enumRev {P : Program} {w : World} {K : PySem.W.Frag} {elts : List Expr} {kk : Nat} {tpos : Pos} (a e it : Addr) (n : Nat) (k : Int) (hai : a ≠ it) (hei : e ≠ it) (hea : e ≠ a) :
    Turn P w K (.Tuple elts kk tpos) (Iter' K a n k) [e, it] e (fun i h => (∃ old, IsEnum h e it (k + (i : Nat)) old) ∧ i ≤ n ∧ h.IsRevIter it a ((n : Int) - 1 - (i : Nat))) where
  mem := by simp
  obj := fun i h st b hb => by
    obtain ⟨⟨old, he⟩, _, o, ho, hc, hd⟩ := st
    have e' : b = e ∨ b = it := by simpa using hb
    rcases e' with z | z
    · rw [z]; exact ⟨_, he, fun v q => nomatch q⟩
    · rw [z]; exact ⟨o, ho, fun v q => by rw [hd] at q; cases q⟩
  keep := fun i h h' st kp => let ⟨⟨old, he⟩, hn, hi⟩ := st; ⟨⟨old, kp e (by simp) _ he⟩, hn, hi.at fun o q => kp it (by simp) o q⟩
  item := by
    intro X hP hw hK hc i pins s σ H E I hf st hg
    subst hP hw hK
    obtain ⟨⟨old, he⟩, hin, hit⟩ := st
    obtain ⟨hlt, xs, hq, hl⟩ := hg
    obtain ⟨its, rv, p, hz⟩ := I.list hq
    have hn : its.toArray.size = n := by rw [List.size_toArray, ← rv.length]; exact hl
    have hh : X.A.in1.handled = none := I.ok.hd hc
    have hel : e < s.heap.objs.size := Heap.lt_size he
    have hil : it < s.heap.objs.size := by obtain ⟨_, q, _⟩ := hit; exact Heap.lt_size q
    have D := draws_rev (prog := X.prog) (w := X.w) (A := X.A.in1) hh it a hai its.toArray
    rw [hn] at D
    refine wpAny_pyNext_enum_itemC D he ⟨hin, hit, p.isList⟩ hlt hei (by simp [hei, hea]) fun u h' tk hP ho hs' hT hsz hkp => ?_
    obtain ⟨_, hit', _⟩ := hs'
    have hx : xs[n - 1 - i]? = some (xs[n - 1 - i]'(by omega)) := List.getElem?_eq_getElem (by omega)
    obtain ⟨u', hu', ru⟩ := rv.get hx
    have hP' : its[n - 1 - i]? = some u := by simpa using hP
    have euu : u' = u := by rw [hP'] at hu'; exact (Option.some.inj hu').symm
    subst euu
    refine ⟨_, rfl, wpAny_letOwnedTupleGo_enum (s := { s with heap := h', toks := tk + 1 }) ho fun h'' he' sb => ?_⟩
    have hT2 : h''.get? s.heap.objs.size = some { cls := .type "tuple", data := .seq #[.int (k + (i : Nat)) tk, u'] } := (sb.2 _ (Nat.ne_of_gt hel)).trans hT
    have new : ObjOk X.prog X.w (upd H s.heap.objs.size (.tup [.int (k + (i : Nat)), xs[n - 1 - i]'(by omega)])) h'' s.heap.objs.size (.tup [.int (k + (i : Nat)), xs[n - 1 - i]'(by omega)]) :=
      ⟨by show 2 ≤ sizeLine; decide, [.int (k + (i : Nat)) tk, u'], .cons ⟨_, rfl⟩ (.cons ru .nil), ⟨_, hT2, rfl, _, rfl⟩⟩
    have I1 : Inv X pins σ (upd H s.heap.objs.size (.tup [.int (k + (i : Nat)), xs[n - 1 - i]'(by omega)])) { s with heap := h'', toks := tk + 1 } :=
      I.turnedNew (ch := [e, it]) (fun b ob hb q => (sb.2 b (fun z => hb (by simp [z]))).trans (hkp b ob (fun z => hb (by simp [z])) (fun z => hb (by simp [z])) q)) hf (Nat.le_refl _) new
    refine ⟨.ref s.heap.objs.size, _, I1, rfl, ⟨_, _, rfl, I.hok.fresh (Nat.le_refl _), rfl, fun ys hy => by rw [I.list_inj hy hq]; exact hx⟩, ⟨⟨u', ?_⟩, hlt, hit'.at fun o q => (sb.2 it (Ne.symm hei)).trans q⟩, fun b hb => ?_⟩
    · have e1 : k + ((i + 1 : Nat) : Int) = k + (i : Int) + 1 := by omega
      rw [e1]; exact he'
    · have hb' : b < s.heap.objs.size := by
        have e' : b = e ∨ b = it := by simpa using hb
        rcases e' with z | z
        · rw [z]; exact hel
        · rw [z]; exact hil
      rw [upd_ne (Nat.ne_of_lt hb')]
      exact (hf b hb).1
  done := by
    intro X hP hw hK hc i pins s σ H E I hf st hg
    subst hP hw hK
    obtain ⟨⟨old, he⟩, hin, hit⟩ := st
    obtain ⟨hge, xs, hq, hl⟩ := hg
    obtain ⟨its, rv, p, hz⟩ := I.list hq
    have hn : its.toArray.size = n := by rw [List.size_toArray, ← rv.length]; exact hl
    have hh : X.A.in1.handled = none := I.ok.hd hc
    obtain ⟨f0, f1, f2, f3, f4, f5⟩ := hf it (by simp)
    have D := draws_rev (prog := X.prog) (w := X.w) (A := X.A.in1) hh it a hai its.toArray
    rw [hn] at D
    have ei : i = n := by omega
    subst ei
    exact wpAny_pyNext_enum_endD D he ⟨Nat.le_refl _, hit, p.isList⟩ fun h' eb => ⟨rfl, I.turned (t' := s.toks) (fun b o hb q => eb b o hb q) f0 f1 f3 f4 f5⟩
  self := fun A i s Q E st h => let ⟨⟨_, he⟩, _⟩ := st; wpAny_pyIter_enum he h
theorem walk_enumRev {K : PySem.W.Frag} {a : Addr} {xs : List V} {k : Int} : Walk (Iter' K a xs.length k) xs.length (fun H => SqL K H a xs) (YPair (fun i => some (.int (k + (i : Nat)))) (fun i => xs[xs.length - 1 - i]?)) := by
  refine ⟨fun i _ hi q => ⟨hi, xs, q, rfl⟩, fun _ q => ⟨Nat.le_refl _, xs, q, rfl⟩, fun i H v H' _ q y => ?_⟩
  obtain ⟨T, x, h1, h2, h3, h4⟩ := y
  exact ⟨T, .int (k + (i : Nat)), x, h1, h2, h3, rfl, h4 xs q⟩
def iEnumRev (K : PySem.W.Frag) (ta : TA) (k : Int) : TI := fun σ H R => ta σ H fun vs H1 => ∃ (a : Addr) (xs : List V), vs = [.ref a] ∧ SqL K H1 a xs ∧ R (Iter' K a xs.length k) H1
section
variable {M : Model} {A : Around} {E : Value → Shared → Prop} {s : Shared} {env : Env}
theorem callWith_typeKw {pos : Pos} {T : String} {e : Expr} {rest : List Expr} {kws : List Keyword} {Q : Value → Shared → Prop} (hall : (backToKw pos (keywordEach kws env)).all (·.1.isSome) = true)
    (h : wpAny M A (spliced (backTo pos (starEach (e :: rest) env))) (fun vs s₁ => wpAny M A (evalAll ((backToKw pos (keywordEach kws env)).map (·.2)))
      (fun ks s₂ => wpAny M A (call (.type T) vs (((backToKw pos (keywordEach kws env)).filterMap (·.1)).zip ks)) Q E s₂) E s₁) E s)
    (hplain : ((backTo pos (starEach (e :: rest) env)).any (·.1) || (backToKw pos (keywordEach kws env)).any (·.1.isNone)) = false) (he : starEach (e :: rest) env = (false, eval e env) :: starEach rest env) :
    wpAny M A (callWith pos (.type T) [] (backTo pos (starEach (e :: rest) env)) (backToKw pos (keywordEach kws env))) Q E s := by
  unfold callWith
  refine wpAny_bind (wpAny_holding (wpAny_mono (evalArgs_kw2 (f := .type T) (Q := fun a s₁ => wpAny M A (call (.type T) a.pos a.kw) Q E s₁) hall h he) (fun a s₁ h₁ => wpAny_bind (wpAny_standAt ?_)) fun _ _ x => x))
  simp only [hplain]
  refine wpAny_bind (wpAny_pure ?_)
  exact wpAny_bind (wpAny_mono h₁ (fun r s₂ hr => wpAny_bind (wpAny_holding (wpAny_point (wpAny_pure hr)))) fun _ _ x => x)
theorem Call_kws {func : Expr} {args : List Expr} {kws : List Keyword} {pos : Pos} {Q : Value → Shared → Prop}
    (h : wpAny M A (eval func env) (fun f s₁ => wpAny M A (callWith pos f [] (backTo pos (starEach args env)) (backToKw pos (keywordEach kws env))) Q E s₁) E s)
    (he : eval (.Call func args kws pos) env = (do callWith pos (← eval func env) [] (backTo pos (starEach args env)) (backToKw pos (keywordEach kws env))) := by rfl) :
    wpAny M A (eval (.Call func args kws pos) env) Q E s := by
  rw [he]; exact wpAny_bind h
end
theorem pi_enumRev {X : Cx} {e : Expr} {ta : TA} {p p2 pos pos2 kp jp tpos : Pos} {j : Nat} {k : Int} {elts : List Expr} {kk : Nat} (hk0 : -(2 ^ 63) ≤ k) (hk1 : k < 2 ^ 63) (hg : Gl X "enumerate") (hm : X.mg "enumerate" = none) (hg2 : Gl X "reversed") (hm2 : X.mg "reversed" = none) (ha : PA X [e] ta)
    (hs : starEach [e] X.env = [(false, eval e X.env)] := by rfl)
    (hs2 : starEach [.Call (.Name "reversed" p2) [e] [] pos2] X.env = (false, eval (.Call (.Name "reversed" p2) [e] [] pos2) X.env) :: starEach [] X.env := by rfl)
    (hst : ∀ q, (backTo q (starEach [.Call (.Name "reversed" p2) [e] [] pos2] X.env)).any (·.1) = false := by exact fun _ => rfl)
    (hbs : eval (.Call (.Name "reversed" p2) [e] [] pos2) X.env = (do callWith pos2 (← eval (.Name "reversed" p2) X.env) [] (backTo pos2 (starEach [e] X.env)) (backToKw pos2 (keywordEach [] X.env))) := by rfl) :
    PI X (.Tuple elts kk tpos) (.Call (.Name "enumerate" p) [.Call (.Name "reversed" p2) [e] [] pos2] [⟨some "start", .Constant (.int k) j jp, kp⟩] pos) (iEnumRev X.K ta k) := by
  refine ⟨fun pins s σ H R I h => ?_⟩
  refine Call_kws (ld_blt I hg hm boot_enumerate (callWith_typeKw rfl (args_cons ?_ hs2) (by rw [hst]; rfl) hs2))
  refine Call_ (ld_blt I hg2 hm2 PyProof.Rows.boot_reversed (PyProof.Rows.callWith_type1 (thn (ha.run pos2 pins s σ H _ I h) fun us s1 ⟨vs, H1, I1, r1, q1⟩ => ?_) hs rfl)) hbs
  obtain ⟨a, xs, ex, hq, q⟩ := q1
  subst ex
  cases r1 with
  | cons r rr =>
    cases rr
    cases r
    obtain ⟨its, rv, p', hz⟩ := I1.list hq
    have hl := rv.length
    have hal : a < s1.heap.objs.size := by obtain ⟨_, _, z, _⟩ := p'; exact Heap.lt_size z
    refine call_reversed_list p'.isList (args_nil (kws_cons (wpAny_Constant_int (kws_nil ?_))))
    have sz1 : (s1.heap.push { cls := .type "list_reverseiterator", data := .fields #[.ref a, rawInt (((its.toArray.size : Nat) : Int) - 1)] }).objs.size = s1.heap.objs.size + 1 := Heap.size_push ..
    have hit0 : (s1.heap.push { cls := .type "list_reverseiterator", data := .fields #[.ref a, rawInt (((its.toArray.size : Nat) : Int) - 1)] }).IsRevIter s1.heap.objs.size a (((its.toArray.size : Nat) : Int) - 1) := ⟨_, Heap.get?_push_size _ rfl, rfl, rfl⟩
    refine call_enum (self_rev s1.heap.objs.size a (((its.toArray.size : Nat) : Int) - 1)) hit0 hk0 hk1 ?_
    have he : IsEnum ((s1.heap.push { cls := .type "list_reverseiterator", data := .fields #[.ref a, rawInt (((its.toArray.size : Nat) : Int) - 1)] }).push { cls := .type "enumerate", data := .fields #[.none, .bool false, .ref s1.heap.objs.size, rawInt k, .none, .none] }) (s1.heap.objs.size + 1) s1.heap.objs.size k .none := by
      have := Heap.get?_push_size (s1.heap.push { cls := .type "list_reverseiterator", data := .fields #[.ref a, rawInt (((its.toArray.size : Nat) : Int) - 1)] }) (o := { cls := .type "enumerate", data := .fields #[.none, .bool false, .ref s1.heap.objs.size, rawInt k, .none, .none] }) rfl
      rw [sz1] at this; exact this
    show wpAny _ _ (pyIter (.ref (s1.heap.push { cls := .type "list_reverseiterator", data := .fields #[.ref a, rawInt (((its.toArray.size : Nat) : Int) - 1)] }).objs.size)) _ _ _
    rw [sz1]
    refine wpAny_pyIter_enum he ?_
    have hit1 := hit0.at (h' := (s1.heap.push { cls := .type "list_reverseiterator", data := .fields #[.ref a, rawInt (((its.toArray.size : Nat) : Int) - 1)] }).push { cls := .type "enumerate", data := .fields #[.none, .bool false, .ref s1.heap.objs.size, rawInt k, .none, .none] }) fun o q => Heap.get?_push_of_some _ q
    refine ⟨s1.heap.objs.size + 1, [s1.heap.objs.size + 1, s1.heap.objs.size], _, _, H1, rfl, ?_, turn_enumRev a (s1.heap.objs.size + 1) s1.heap.objs.size xs.length k (Nat.ne_of_lt hal) (Nat.succ_ne_self _) (Nat.ne_of_gt (Nat.lt_succ_of_lt hal)), ⟨⟨.none, ?_⟩, Nat.zero_le _, ?_⟩, fun b hb => ?_, q⟩
    · exact I1.kept fun b ob q => Heap.get?_push_of_some _ (Heap.get?_push_of_some _ q)
    · rw [show k + ((0 : Nat) : Int) = k by omega]; exact he
    · rw [show (xs.length : Int) - 1 - ((0 : Nat) : Int) = ((its.toArray.size : Nat) : Int) - 1 by rw [List.size_toArray]; omega]; exact hit1
    · have e' : b = s1.heap.objs.size + 1 ∨ b = s1.heap.objs.size := by simpa using hb
      have hle : s1.heap.objs.size ≤ b := by
        rcases e' with z | z
        · rw [z]; exact Nat.le_add_right _ _
        · rw [z]; exact Nat.le_refl _
      exact I1.fpOk hle (I1.hok.fresh hle)
end VE

/-! A method called with keywords. -/
namespace VP
open PySem PySem.Spec PyProof.Rows L2
/-- o.m(e, .., k = v, ..) -/
def tMethKw (C : Addr) (m : Str) (n j : Nat) (sp : Sp) (gV : List V → List V → List V) (E : XK) (ta : TE) (t tk : TA) : TE := fun σ H Q =>
  ta σ H fun x H1 => ∃ a dx fs, x = .ref a ∧ H1 a = some (.ins C dx fs) ∧ fs.lookup m = none ∧
    t σ H1 fun vs H2 => tk σ H2 fun zs H3 => vs.length = n ∧ zs.length = j ∧ sp (gV (x :: vs) zs) H3 Q E
theorem pe_methKw {X : Cx} {CX : CXT} {k n : Nat} {f C : Addr} {fd : FuncData} {ps ks : List Str} {sp : Sp} {E : XK} {m : Str} {pos apos : Pos} {o e : Expr} {es : List Expr} {kws : List Keyword} {ta : TE} {t tk : TA}
    {g : List Value → List Value → List Value} {gV : List V → List V → List V} {pl : Sem Bool}
    (he : PE X o ta) (c : Cls X.K C) (hm : Meth X.K C m f) (F : FnOk X.prog X.w X.K X.mg X.base CX k f fd ps sp) (hr : Room k X.A)
    (hb : KBn X.K fd ps (n + 1) ks g gV) (hx : Passes CX X E) (ha : PA X (e :: es) t) (hkw : PK X kws tk)
    (hall : (backToKw pos (keywordEach kws X.env)).all (·.1.isSome) = true := by rfl) (hks : (backToKw pos (keywordEach kws X.env)).filterMap (·.1) = ks := by rfl)
    (hst : starEach (e :: es) X.env = (false, eval e X.env) :: starEach es X.env := by rfl)
    (hpl : ((backTo pos (starEach (e :: es) X.env)).any (·.1) || (backToKw pos (keywordEach kws X.env)).any (·.1.isNone)) = false := by rfl)
    (ht : eval (.Call (.Attribute o m apos) (e :: es) kws pos) X.env = (do
      let ov ← eval o X.env
      standAt apos.atName
      let (f, first) ← holding [ov] (getMethod ov m pl)
      callWith pos f first (backTo pos (starEach (e :: es) X.env)) (backToKw pos (keywordEach kws X.env))) := by rfl) :
    PE X (.Call (.Attribute o m apos) (e :: es) kws pos) (tMethKw C m n ks.length sp gV E ta t tk) := by
  constructor
  intro pins s σ H Q I h
  refine PySem.W.methodCall_KW (pl := pl) (thn (he.run pins s σ H _ I h) ?_) ht
  rintro u s1 ⟨x, H1, I1, rx, a, dx, fs, ex, ea, l, q⟩
  subst ex
  obtain rfl : u = Value.ref a := rx
  refine getmeth_ok I1 ea c hm l ?_
  refine PySem.W.callWith_KW (first := [.ref a]) (h₀ := X.base) I.ok.mod.kin hm.kp hall (thn (ha.run pos pins s1 σ H1 _ I1 q) ?_) hpl hst
  rintro us s2 ⟨vs, H2, I2, r, q2⟩
  refine thn (hkw.run pos pins s2 σ H2 _ I2 q2) ?_
  rintro ws s3 ⟨zs, H3, I3, rz, l1, l2, q3⟩
  refine ⟨I3.kIn, ?_⟩
  rw [hks]
  have r1 : Vals (V.ref a :: vs) (Value.ref a :: us) := .cons rfl r
  have rel := hb.rel r1 rz
  have len : (Value.ref a :: us).length = n + 1 := by rw [List.length_cons, ← r.length, l1]
  have bind := hb.to s3 (Value.ref a :: us) ws I3.kIn len (rz.length.symm.trans l2)
  show wpAny _ _ (call (.ref f) (Value.ref a :: us) (ks.zip ws)) _ _ _
  refine wpAny_call (codeAny_mono (F.run X.A X.stack s3 H3 ⟨Value.ref a :: us, ks.zip ws⟩ _ _ Q E hr I3.env0 bind rel q3) ?_)
  intro res s' hq
  match res, hq with
  | .error e, hq => exact hx pins σ H3 s3 e s' I3 hq
  | .ok (.ret u), hq => exact I3.after hq
  | .ok .next, hq => exact False.elim hq
  | .ok .brk, hq => exact False.elim hq
  | .ok .cont, hq => exact False.elim hq
end VP

/-! == and != by an own __eq__ whatever stands on the right, repr by an own __repr__, None in an f-string. -/
namespace VN
open PySem PySem.Spec PyProof.Rows L2

section
variable {prog : Program} {w : World} {A : Around} {E : Value → Shared → Prop} {s : Shared} {K : PySem.W.Frag} {x C L f : Addr} {h₀ : Heap} {m : Str → Option Value} {ox : Obj} {od : Option Obj} {b tb : Value}
theorem bound_builtin {M : Model} {name : Str} {id : String} {args : List Value} {Q : Option Value → Shared → Prop} (X : K.In s.heap) (I : PySem.W.InstAt s.heap x ox C od) (hs : PySem.W.findIn K (.ref C) name = some (some (.builtin id)))
    (hb : ∀ self, bindSpecial (.builtin id) self = pure (.builtin id, [self]))
    (h : wpAny M A (call (.builtin id) (.ref x :: args)) (fun v => Q (some v)) E s) : wpAny M A (callSpecialIfBound? (.ref x) name args) Q E s := by
  simp only [callSpecialIfBound?, bindSpecialIfBound?]
  refine wpAny_holding (wpAny_bind (wpAny_bind (wpAny_bind (I.type.here ((PySem.W.looks_findIn X hs).here ?_)))))
  refine wpAny_bind (wpAny_askSetting (wpAny_ite ?_))
  have fin : wpAny M A (call (.builtin id) ([.ref x] ++ args) >>= fun v => pure (some v)) Q E s := wpAny_bind (wpAny_mono h (fun v s' h' => wpAny_pure h') fun _ _ h' => h')
  split
  · exact wpAny_bind ((PySem.W.Looks.of_pure (hb _)).here (wpAny_pure (by exact fin)))
  · exact wpAny_tryCatch (wpAny_bind ((PySem.W.Looks.of_pure (hb _)).here (wpAny_pure (by exact fin))))
open Builtin in
theorem obj_ne {Q : Value → Shared → Prop} (hu : A.in1.units < cLine) (X : K.In s.heap) (I : PySem.W.InstAt s.heap x ox C od) (hm : PySem.W.mroIn K C (.type "object") = some true)
    (hs : PySem.W.findIn K (.ref C) "__eq__" = some (some (.ref f))) (hf : PySem.W.isFn K (.ref f) = true)
    (h : wpAny (model prog w) A.in1 (call (.ref f) [.ref x, b]) (fun v s' => ∃ r, v = .bool r ∧ Q (.bool (!r)) s') E s) : wpAny (model prog w) A (call (.builtin "object.__ne__") [.ref x, b]) Q E s := by
  refine wpAny_call (codeAny_call_builtin PySem.F.slot_zip_ne.plain PySem.F.cmpEntry_ne (PySem.W.check_slot (i := "object.__ne__") (owner := "object") (n := "__ne__") PySem.F.cmpKind_ne PySem.F.cmpSplit_ne (I.type.andThen (PySem.W.looks_mroIn X hm)) (PySem.F.cmpArgs_ne _ _) ?_))
  unfold Builtin.«object.__ne__»
  refine wpAny_bind (m := slotArgs "__ne__" 1 _) (wpAny_pure ?_)
  refine wpAny_bind (m := cRoomFor _ _) (wpAny_cRoomFor hu ?_)
  refine wpAny_bind (m := callSpecialIfBound? (.ref x) (Str.ofString "__eq__") _) (PySem.W.ifBound_K X I hs hf (wpAny_mono h (fun r s' hq => ?_) fun _ _ y => y))
  obtain ⟨r, rfl, hq⟩ := hq
  exact wpAny_bind (wpAny_truthy_bool (wpAny_pure hq))
theorem ne_K {Q : Value → Shared → Prop} (hu : A.units + 1 < cLine) (F : PyProof.Rows.Fr h₀ L s.heap m) (X₀ : K.In h₀) (I : PySem.W.InstAt s.heap x ox C od) (hb : PySem.W.Looks (model prog w) s.heap (typeOf b) tb) (hn : PySem.W.notFirst K C tb = true)
    (hne : PySem.W.findIn K (.ref C) "__ne__" = some (some (.builtin "object.__ne__"))) (hm : PySem.W.mroIn K C (.type "object") = some true)
    (hs : PySem.W.findIn K (.ref C) "__eq__" = some (some (.ref f))) (hf : PySem.W.isFn K (.ref f) = true)
    (h : wpAny (model prog w) A.in1 (call (.ref f) [.ref x, b]) (fun v s' => ∃ r, v = .bool r ∧ Q (.bool (!r)) s') E s) : wpAny (model prog w) A (richCompare .NotEq (.ref x) b) Q E s := by
  have X := X₀.keeps F.keep
  have hu1 : A.in1.units < cLine := by show A.units + 1 < _; exact hu
  have one : wpAny (model prog w) A (tryCompare (.ref x) (cmpInfo .NotEq).2.1 b) (fun r s' => ∃ v, r = some v ∧ Q v s') E s := by
    unfold tryCompare
    refine wpAny_bind (bound_builtin X I hne PySem.F.slot_zip_ne.bind (obj_ne hu1 X I hm hs hf (wpAny_mono h (fun v s' hv => ?_) fun _ _ e => e)))
    obtain ⟨r, rfl, q⟩ := hv
    exact ⟨r, rfl, wpAny_pure ⟨_, rfl, q⟩⟩
  unfold richCompare
  simp only [oneThing_ref]
  refine wpAny_holding (wpAny_bind (wpAny_cRoomFor (by omega) ?_))
  refine wpAny_bind (I.type.here (wpAny_bind (hb.here ?_)))
  split
  · rename_i q
    have e : PySem.W.subIn K tb (.ref C) = some false := by
      rcases Bool.or_eq_true_iff.mp hn with e | e
      · rw [beq_iff_eq.mp e] at q; simp at q
      · exact beq_iff_eq.mp e
    refine wpAny_bind ((PySem.W.looks_subIn X e).here ?_)
    simp only [Bool.false_eq_true, if_false]
    refine wpAny_bind (wpAny_mono one (fun r s' z => ?_) fun _ _ e => e)
    obtain ⟨v, rfl, hq⟩ := z
    exact wpAny_pure hq
  · refine wpAny_bind (wpAny_pure ?_)
    simp only [Bool.false_eq_true, if_false]
    refine wpAny_bind (wpAny_mono one (fun r s' z => ?_) fun _ _ e => e)
    obtain ⟨v, rfl, hq⟩ := z
    exact wpAny_pure hq
end

/-- what of the text is true of an own class that is only a class: its instances' type, isinstance, != -/
structure IsC (K : PySem.W.Frag) (C : Addr) : Prop where
  ic : PySem.W.isClsIn K C = true
  ty : PySem.W.typeIn K (.ref C) = some (.type "type")
  gc : PySem.W.findIn K (.ref C) "__class__" = some (some (.builtin "object.__class__"))
  gn : PySem.W.specialIn K (.builtin "object.__class__") "__get__" = some (some (.builtin "getset_descriptor.__get__"))
  tk : PySem.W.takesIn K (.builtin "object.__class__") = some true
  ob : PySem.W.mroIn K C (.type "object") = some true
  ne : PySem.W.findIn K (.ref C) "__ne__" = some (some (.builtin "object.__ne__"))
/-- the built-in classes of the values that occur -/
def kinds : List String := ["NoneType", "bool", "int", "str", "list", "tuple", "dict"]
def allTy (l : List Value) : Bool := l.all fun v => match v with | .type _ => true | _ => false
theorem kinds_mro : kinds.all (fun n => (PySem.fastBuiltinMro n).any allTy) = true := by decide +kernel
theorem sub_ty {K : PySem.W.Frag} {C : Addr} {n : String} (h : n ∈ kinds) : PySem.W.subIn K (.type n) (.ref C) = some false := by
  have k := List.all_eq_true.mp kinds_mro n h
  show Option.map (fun x => List.contains x (Value.ref C)) (PySem.fastBuiltinMro n) = some false
  cases e : PySem.fastBuiltinMro n with
  | none => rw [e] at k; cases k
  | some l =>
    rw [e] at k
    have k : allTy l = true := k
    show some (List.contains l (Value.ref C)) = some false
    congr 1
    rw [List.contains_eq_any_beq, List.any_eq_false]
    intro y hy c
    have e2 := eq_of_beq c
    have := List.all_eq_true.mp k y hy
    rw [← e2] at this
    cases this
theorem notFirst_ty {K : PySem.W.Frag} {C : Addr} {n : String} (h : n ∈ kinds) : PySem.W.notFirst K C (.type n) = true := by
  unfold PySem.W.notFirst
  rw [sub_ty h]
  simp
theorem notFirst_own {K : PySem.W.Frag} {C : Addr} : PySem.W.notFirst K C (.ref C) = true := by
  unfold PySem.W.notFirst
  simp
theorem kit_self {K : PySem.W.Frag} {C : Addr} : PySem.W.kitOne K (.ref C) (.ref C) = some true := by
  unfold PySem.W.kitOne
  rw [if_pos (by simp)]
theorem kit_no {K : PySem.W.Frag} {C : Addr} {n : String} (c : IsC K C) (h : n ∈ kinds) : PySem.W.kitOne K (.type n) (.ref C) = some false := by
  have hc : (PySem.W.clsIn K C).isSome = true := c.ic
  unfold PySem.W.kitOne
  rw [if_neg (by simp)]
  unfold PySem.W.kitCls
  show (if ((PySem.W.clsIn K C).isSome && PySem.W.typeIn K (.ref C) == some (.type "type")) = true then PySem.W.subIn K (.type n) (.ref C) else none) = some false
  rw [hc, c.ty, if_pos (by simp), sub_ty h]
theorem IsC.typ {K : PySem.W.Frag} {C a dx : Addr} {H : Hp} {fs : List (Str × V)} (c : IsC K C) (cl : Cls K C) (e : H a = some (.ins C dx fs)) : TyX K H (.ref a) (.ref C) := .base (.ins e cl c.gc c.gn c.tk c.ob)
def rOwn (K : PySem.W.Frag) (C : Addr) (sp : Sp) (E : XK) : R2 := fun x y H Q => ∃ a dx fs t, x = .ref a ∧ H a = some (.ins C dx fs) ∧ TyX K H y t ∧ PySem.W.notFirst K C t = true ∧ sp [x, y] H (fun v H' => ∃ b, v = .bl b ∧ Q (.bl b) H') E
def rOwnN (K : PySem.W.Frag) (C : Addr) (sp : Sp) (E : XK) : R2 := fun x y H Q => ∃ a dx fs t, x = .ref a ∧ H a = some (.ins C dx fs) ∧ TyX K H y t ∧ PySem.W.notFirst K C t = true ∧ sp [x, y] H (fun v H' => ∃ b, v = .bl b ∧ Q (.bl (!b)) H') E
def rReprOwn (C : Addr) (sp : Sp) (E : XK) : List V → Hp → VK → Prop := fun xs H Q => ∃ a dx fs, xs = [.ref a] ∧ H a = some (.ins C dx fs) ∧ sp [.ref a] H (fun v H' => ∃ y, v = .str y ∧ Q (.str y) H') E
section
variable {X : Cx} {CX : CXT} {k : Nat} {f C : Addr} {fd : FuncData} {ps : List Str} {sp : Sp} {E : XK}
theorem op_eqOwn (F : FnOk X.prog X.w X.K X.mg X.base CX k f fd ps sp) (hr : Room k X.A) (o : Meth X.K C "__eq__" f) (c : IsC X.K C) (hb : Binds X.K fd ps []) (hx : Passes CX X E) : OpR X (compareOp .Eq) (rOwn X.K C sp E) := by
  intro pins s σ H x y v u Q I rx ry h
  obtain ⟨a, dx, fs, t, rfl, ea, ty, nf, hsp⟩ := h
  obtain rfl : v = Value.ref a := rx
  obtain ⟨mA, J, _⟩ := ins_get I.hok ea
  obtain ⟨od, J, _⟩ := J.look
  obtain ⟨m, hF⟩ := I.fr
  obtain ⟨P, Z, p, _⟩ := kit_of I ry ty
  show wpAny (model X.prog X.w) X.A (richCompare .Eq (.ref a) u) (EP X pins σ Q) X.xe s
  refine PySem.W.cmp_K (op := .Eq) (tb := t) hr.units0 hF I.ok.mod.kin J (Z.ty _ _ I.kIn p) nf o.at_ o.fn ?_
  have hl := F.len _ _ _ _ hsp
  have r2 : Vals [V.ref a, y] [Value.ref a, u] := .cons rfl (.cons ry .nil)
  refine wpAny_call (codeAny_mono (F.run X.A X.stack s H ⟨[.ref a, u], []⟩ [.ref a, u] [.ref a, y] _ E hr I.env0 (by
    have := hb s [.ref a, u] I.kIn (by simpa using hl)
    simpa using this) r2 hsp) fun r s' hq => ?_)
  cases r with
  | error e => exact hx pins σ H s e s' I hq
  | ok fl =>
    cases fl with
    | ret w =>
      obtain ⟨z, H', I', rz, b, ez, q⟩ := I.after hq
      subst ez
      cases rz
      exact ⟨.bl b, H', I', rfl, q⟩
    | next => exact False.elim hq
    | brk => exact False.elim hq
    | cont => exact False.elim hq
theorem op_neOwn (F : FnOk X.prog X.w X.K X.mg X.base CX k f fd ps sp) (hr : Room (k + 1) X.A) (o : Meth X.K C "__eq__" f) (c : IsC X.K C) (hb : Binds X.K fd ps []) (hx : Passes CX X E) : OpR X (compareOp .NotEq) (rOwnN X.K C sp E) := by
  intro pins s σ H x y v u Q I rx ry h
  obtain ⟨a, dx, fs, t, rfl, ea, ty, nf, hsp⟩ := h
  obtain rfl : v = Value.ref a := rx
  obtain ⟨mA, J, _⟩ := ins_get I.hok ea
  obtain ⟨od, J, _⟩ := J.look
  obtain ⟨m, hF⟩ := I.fr
  obtain ⟨P, Z, p, _⟩ := kit_of I ry ty
  show wpAny (model X.prog X.w) X.A (richCompare .NotEq (.ref a) u) (EP X pins σ Q) X.xe s
  refine ne_K (tb := t) (by have := hr.un; omega) hF I.ok.mod.kin J (Z.ty _ _ I.kIn p) nf c.ne c.ob o.at_ o.fn ?_
  have hl := F.len _ _ _ _ hsp
  have r2 : Vals [V.ref a, y] [Value.ref a, u] := .cons rfl (.cons ry .nil)
  refine wpAny_call (codeAny_mono (F.run X.A.in1 X.stack s H ⟨[.ref a, u], []⟩ [.ref a, u] [.ref a, y] _ E hr.in1 I.env0.in1 (by
    have := hb s [.ref a, u] I.kIn (by simpa using hl)
    simpa using this) r2 hsp) fun r s' hq => ?_)
  cases r with
  | error e => exact hx pins σ H s e s' I hq
  | ok fl =>
    cases fl with
    | ret w =>
      obtain ⟨z, H', I', rz, b, ez, q⟩ := I.after hq
      subst ez
      cases rz
      exact ⟨b, rfl, .bl (!b), H', I', rfl, q⟩
    | next => exact False.elim hq
    | brk => exact False.elim hq
    | cont => exact False.elim hq
theorem call_reprOwn (F : FnOk X.prog X.w X.K X.mg X.base CX k f fd ps sp) (hr : Room (k + 1) X.A) (o : Meth X.K C "__repr__" f) (hb : Binds X.K fd ps []) (hx : Passes CX X E) :
    CallR X (.builtin "repr") (rReprOwn C sp E) := by
  intro pins s σ H xs us Q I r h
  obtain ⟨a, dx, fs, rfl, ea, hsp⟩ := h
  obtain ⟨u, rfl, ru⟩ := vals1 r
  obtain rfl : u = Value.ref a := ru
  obtain ⟨mA, J, _⟩ := ins_get I.hok ea
  obtain ⟨od, J, _⟩ := J.look
  obtain ⟨m, hF⟩ := I.fr
  refine PySem.W.repr_K hr.in1.units0 hF I.ok.mod.kin J o.at_ o.fn ?_
  have hl := F.len _ _ _ _ hsp
  refine wpAny_call (codeAny_mono (F.run X.A.in1 X.stack s H ⟨[.ref a], []⟩ [.ref a] [.ref a] _ E hr.in1 I.env0.in1 (by
    have := hb s [.ref a] I.kIn (by simpa using hl)
    simpa using this) (.cons rfl .nil) hsp) fun r s' hq => ?_)
  cases r with
  | error e => exact hx pins σ H s e s' I hq
  | ok fl =>
    cases fl with
    | ret w =>
      obtain ⟨z, H', I', rz, y, ez, q⟩ := I.after hq
      subst ez
      obtain ⟨t, rfl⟩ := rz
      exact ⟨.str y, H', I', ⟨t, rfl⟩, q⟩
    | next => exact False.elim hq
    | brk => exact False.elim hq
    | cont => exact False.elim hq
theorem units1 {k : Nat} {A : Around} (hr : Room k A) : A.units + 1 < cLine := by
  have := hr.un
  omega
/-- {x}: a text, an int or None -/
def tFmtN (te : TE) : TE := fun σ H Q => te σ H fun x H1 => (∃ y : Str, x = .str y ∧ y.length ≤ sizeLine ∧ Q (.str y) H1) ∨ (∃ i : Int, x = .int i ∧ i.natAbs.log2 < 1920 ∧ Q (.str (toString i)) H1) ∨ (x = .non ∧ Q (.str "None") H1)
theorem pe_fmtN {e : Expr} {te : TE} {pos : Pos} (he : PE X e te) : PE X (.FormattedValue e (-1) none pos) (tFmtN te) := by
  refine ⟨fun pins s σ H Q I h => ?_⟩
  refine wpAny_FormattedValue_plain (thn (he.run pins s σ H _ I h) fun v s1 hv => ?_)
  obtain ⟨x, H1, I1, r1, q⟩ := hv
  rcases q with ⟨y, rfl, hz, q⟩ | ⟨i, rfl, hz, q⟩ | ⟨rfl, q⟩
  · obtain ⟨t, rfl⟩ := r1
    exact wpAny_formatField_str ⟨.str y, H1, I1, ⟨t, rfl⟩, q⟩ ⟨.str y, H1, I1.tok _, ⟨_, rfl⟩, q⟩ hz
  · obtain ⟨t, rfl⟩ := r1
    exact wpAny_formatField_int hz ⟨.str (toString i), H1, I1.tok _, ⟨_, rfl⟩, q⟩
  · cases r1
    exact wpAny_formatField_none ⟨.str "None", H1, I1.tok _, ⟨_, rfl⟩, q⟩
/-- str(None), str(int) -/
def rStrIN : List V → Hp → VK → Prop := fun xs H Q => (∃ i : Int, xs = [.int i] ∧ i.natAbs.log2 < 1920 ∧ Q (.str (toString i)) H) ∨ (xs = [.non] ∧ Q (.str "None") H)
theorem call_strIN : CallR X (.type "str") rStrIN := by
  intro pins s σ H xs us Q I r h
  rcases h with ⟨i, rfl, hz, q⟩ | ⟨rfl, q⟩
  · obtain ⟨u, rfl, t, rfl⟩ := vals1 r
    exact PySem.P.str_of_int hz ⟨.str _, H, I.tok _, ⟨_, rfl⟩, q⟩
  · obtain ⟨u, rfl, ru⟩ := vals1 r
    cases ru
    exact PySem.P.str_of_none ⟨.str _, H, I.tok _, ⟨_, rfl⟩, q⟩
end
end VN

/-! A method called with keywords alone; further rules. -/
namespace VP
open PySem PySem.Spec PyProof.Rows L2
def tMethKw0 (C : Addr) (m : Str) (j : Nat) (sp : Sp) (gV : List V → List V → List V) (E : XK) (ta : TE) (tk : TA) : TE := fun σ H Q =>
  ta σ H fun x H1 => ∃ a dx fs, x = .ref a ∧ H1 a = some (.ins C dx fs) ∧ fs.lookup m = none ∧ tk σ H1 fun zs H3 => zs.length = j ∧ sp (gV [x] zs) H3 Q E
theorem pe_methKw0 {X : Cx} {CX : CXT} {k : Nat} {f C : Addr} {fd : FuncData} {ps ks : List Str} {sp : Sp} {E : XK} {m : Str} {pos apos : Pos} {o : Expr} {kws : List Keyword} {ta : TE} {tk : TA}
    {g : List Value → List Value → List Value} {gV : List V → List V → List V} {pl : Sem Bool}
    (he : PE X o ta) (c : Cls X.K C) (hm : Meth X.K C m f) (F : FnOk X.prog X.w X.K X.mg X.base CX k f fd ps sp) (hr : Room k X.A)
    (hb : KBn X.K fd ps 1 ks g gV) (hx : Passes CX X E) (hkw : PK X kws tk)
    (hall : (backToKw pos (keywordEach kws X.env)).all (·.1.isSome) = true := by rfl) (hks : (backToKw pos (keywordEach kws X.env)).filterMap (·.1) = ks := by rfl)
    (hpl : ((backTo pos (starEach [] X.env)).any (·.1) || (backToKw pos (keywordEach kws X.env)).any (·.1.isNone)) = false := by rfl)
    (ht : eval (.Call (.Attribute o m apos) [] kws pos) X.env = (do
      let ov ← eval o X.env
      standAt apos.atName
      let (f, first) ← holding [ov] (getMethod ov m pl)
      callWith pos f first (backTo pos (starEach [] X.env)) (backToKw pos (keywordEach kws X.env))) := by rfl) :
    PE X (.Call (.Attribute o m apos) [] kws pos) (tMethKw0 C m ks.length sp gV E ta tk) := by
  constructor
  intro pins s σ H Q I h
  refine PySem.W.methodCall_KW (pl := pl) (thn (he.run pins s σ H _ I h) ?_) ht
  rintro u s1 ⟨x, H1, I1, rx, a, dx, fs, ex, ea, l, q⟩
  subst ex
  obtain rfl : u = Value.ref a := rx
  refine getmeth_ok I1 ea c hm l ?_
  refine PySem.W.callWith_KW0 (first := [.ref a]) (h₀ := X.base) I1.ok.mod.kin hm.kp hall ?_ hpl
  refine thn (hkw.run pos pins s1 σ H1 _ I1 q) ?_
  rintro ws s3 ⟨zs, H3, I3, rz, l2, q3⟩
  refine ⟨I3.kIn, ?_⟩
  rw [hks]
  have r1 : Vals [V.ref a] [Value.ref a] := .cons rfl .nil
  have rel := hb.rel r1 rz
  have bind := hb.to s3 [Value.ref a] ws I3.kIn rfl (rz.length.symm.trans l2)
  show wpAny _ _ (call (.ref f) [Value.ref a] (ks.zip ws)) _ _ _
  refine wpAny_call (codeAny_mono (F.run X.A X.stack s3 H3 ⟨[Value.ref a], ks.zip ws⟩ _ _ Q E hr I3.env0 bind rel q3) ?_)
  intro res s' hq
  match res, hq with
  | .error e, hq => exact hx pins σ H3 s3 e s' I3 hq
  | .ok (.ret u), hq => exact I3.after hq
  | .ok .next, hq => exact False.elim hq
  | .ok .brk, hq => exact False.elim hq
  | .ok .cont, hq => exact False.elim hq
/-- c(e, .., k = v, ..), where the i-th slot holds the class at C -/
def tMakeKL (i : Nat) (C : Addr) (n m : Nat) (sp : Sp) (gV : List V → List V → List V) (E : XK) (t tk : TA) : TE := fun σ H Q => σ[i]? = some (some (.ref C)) ∧ tMakeK C n m sp gV E t tk σ H Q
theorem pe_makeKL {X : Cx} {CX : CXT} {k n i : Nat} {f C : Addr} {fd : FuncData} {ps ks : List Str} {sp : Sp} {E : XK} {x : Str} {p pos : Pos} {e : Expr} {es : List Expr} {kws : List Keyword} {t tk : TA}
    {g : List Value → List Value → List Value} {gV : List V → List V → List V} (M : Mk X.K C f) (F : FnOk X.prog X.w X.K X.mg X.base CX k f fd ps sp) (hr : Room (k + 1) X.A) (hN : X.N[i]? = some x) (hv : Vis X.env.scope x)
    (hb : KBn X.K fd ps (n + 1) ks g gV) (hx : Passes CX X E) (ha : PA X (e :: es) t) (hkw : PK X kws tk)
    (hall : (backToKw pos (keywordEach kws X.env)).all (·.1.isSome) = true := by rfl) (hks : (backToKw pos (keywordEach kws X.env)).filterMap (·.1) = ks := by rfl) (hdb : (x == ("__debug__" : Str)) = false := by decide) (hcd : (x == ("__classdict__" : Str)) = false := by decide)
    (he : starEach (e :: es) X.env = (false, eval e X.env) :: starEach es X.env := by rfl) (hpl : ((backTo pos (starEach (e :: es) X.env)).any (·.1) || (backToKw pos (keywordEach kws X.env)).any (·.1.isNone)) = false := by rfl) :
    PE X (.Call (.Name x p) (e :: es) kws pos) (tMakeKL i C n ks.length sp gV E t tk) := by
  refine ⟨fun pins s σ H Q I h => ?_⟩
  obtain ⟨hs, ht⟩ := h
  refine wpAny_Call_Name_kw (thn ((pe_var (pos := p) hN hv hdb hcd).run pins s σ H (fun v H1 => v = .ref C ∧ H1 = H) I ⟨.ref C, hs, rfl, rfl⟩) fun u s1 ⟨v, H1, I1, r1, q1⟩ => ?_)
  obtain ⟨rfl, rfl⟩ := q1
  cases r1
  refine PySem.W.callWith_KW (h₀ := X.base) I.ok.mod.kin M.kp hall (thn (ha.run pos pins s1 σ _ _ I1 ht) fun us s1 ⟨vs, H1, I1, r, q⟩ => ?_) hpl he
  refine thn (hkw.run pos pins s1 σ H1 _ I1 q) fun ws s2 ⟨zs, H2, I2, rz, l1, l2, q2⟩ => ⟨I2.kIn, ?_⟩
  rw [hks]
  exact run_makeK M F hr hb hx I2 r rz l1 l2 q2
/-- a def f(a, *v), no exception leaves it -/
theorem okStar {P : Program} {w : World} {K : PySem.W.Frag} {mg : Str → Option Value} {base : Heap} {x qual p1 pv : Str} {st : Stmt} {f : Addr} {fd : FuncData} {N : List Str} {k : Nat} {sp : Sp} (F : Fun K x qual st f fd) (S : FnScope N [p1, pv] (defScope st))
    (h0 : ∀ kV doc pm an cdv ct a, bindArgs (PySem.W.fnOf x qual (defArgs st) (defBody st) (defScope st) .none kV doc pm an cdv ct) ⟨[a], []⟩ = (newTuple [] >>= fun t => pure [(p1, a), (pv, t)]))
    (h1 : ∀ kV doc pm an cdv ct a r rs, bindArgs (PySem.W.fnOf x qual (defArgs st) (defBody st) (defScope st) .none kV doc pm an cdv ct) ⟨a :: r :: rs, []⟩ = (newTuple (r :: rs) >>= fun t => pure [(p1, a), (pv, t)]))
    (hbody : ∀ (cdv : Value) (A : Around) (outer : List Env) (s : Shared) (H : Hp) (vs : List V) (Q : VK) (E : XK), Room k (A.deeper (envOfC qual (defScope st) s.heap.objs.size f cdv)) → sp vs H Q E →
      ∃ t, PSs (cxOf CX0 P w K mg base N qual (defScope st) f cdv A outer s H E).nox (defBody st) t ∧ t { nx := fun _ H' => Q .non H', rt := Q } (start N vs) H) :
    FnR P w K mg base CX0 (k + 1) f (fun vs H Q E => ∃ a rest, vs = a :: rest ∧ rest.length ≤ sizeLine ∧ ∀ p, H p = Option.none → sp [a, V.ref p] (upd H p (.tup rest)) Q E) := by
  obtain ⟨oc, od, kV, doc, pm, an, cdv, ct, osl, rfl, lk, hcd⟩ := F.ex
  refine (StX.fn_star (ps := [p1]) lk hcd S StX.cxUp_none (fun us rest hl => StX.bind_star1 (B := fun vs => bindArgs _ ⟨vs, []⟩) (fun a => h0 _ _ _ _ _ _ a) (fun a r rs => h1 _ _ _ _ _ _ a r rs) us rest hl) (fun A outer s H vs Q E hr hsp => ?_)).imp fun vs H Q E ⟨a, rest, e, hz, hq⟩ => ⟨[a], rest, e, rfl, hz, hq⟩
  obtain ⟨t, h, q⟩ := hbody cdv A outer s H vs Q E hr hsp
  exact ⟨t, h.nox, q⟩
/-- .. exceptions may leave it -/
theorem okStarX {P : Program} {w : World} {K : PySem.W.Frag} {mg : Str → Option Value} {base : Heap} {x qual p1 pv : Str} {st : Stmt} {f : Addr} {fd : FuncData} {N : List Str} {k : Nat} {sp : Sp} (F : Fun K x qual st f fd) (S : FnScope N [p1, pv] (defScope st))
    (h0 : ∀ kV doc pm an cdv ct a, bindArgs (PySem.W.fnOf x qual (defArgs st) (defBody st) (defScope st) .none kV doc pm an cdv ct) ⟨[a], []⟩ = (newTuple [] >>= fun t => pure [(p1, a), (pv, t)]))
    (h1 : ∀ kV doc pm an cdv ct a r rs, bindArgs (PySem.W.fnOf x qual (defArgs st) (defBody st) (defScope st) .none kV doc pm an cdv ct) ⟨a :: r :: rs, []⟩ = (newTuple (r :: rs) >>= fun t => pure [(p1, a), (pv, t)]))
    (hbody : ∀ (cdv : Value) (A : Around) (outer : List Env) (s : Shared) (H : Hp) (vs : List V) (Q : VK) (E : XK), Room k (A.deeper (envOfC qual (defScope st) s.heap.objs.size f cdv)) → sp vs H Q E →
      ∃ t, PSs (cxOf (L2.CX P w) P w K mg base N qual (defScope st) f cdv A outer s H E) (defBody st) t ∧ t { nx := fun _ H' => Q .non H', rt := Q } (start N vs) H) :
    FnR P w K mg base (L2.CX P w) (k + 1) f (fun vs H Q E => ∃ a rest, vs = a :: rest ∧ rest.length ≤ sizeLine ∧ ∀ p, H p = Option.none → sp [a, V.ref p] (upd H p (.tup rest)) Q E) := by
  obtain ⟨oc, od, kV, doc, pm, an, cdv, ct, osl, rfl, lk, hcd⟩ := F.ex
  refine (StX.fn_star (ps := [p1]) lk hcd S StX.cxUp (fun us rest hl => StX.bind_star1 (B := fun vs => bindArgs _ ⟨vs, []⟩) (fun a => h0 _ _ _ _ _ _ a) (fun a r rs => h1 _ _ _ _ _ _ a r rs) us rest hl) (fun A outer s H vs Q E hr hsp => ?_)).imp fun vs H Q E ⟨a, rest, e, hz, hq⟩ => ⟨[a], rest, e, rfl, hz, hq⟩
  exact hbody cdv A outer s H vs Q E hr hsp
theorem pi_listK {X : Cx} {K' : PySem.W.Frag} {tg l : Expr} {tl : TE} (hl : PE X l tl) (hK : X.K = K') : PI X tg l (iList K' tl) := by
  subst hK; exact pi_list hl
theorem pi_tupK {X : Cx} {K' : PySem.W.Frag} {tg l : Expr} {tl : TE} (hl : PE X l tl) (hK : X.K = K') : PI X tg l (iTup K' tl) := by
  subst hK; exact pi_tup hl
/-- C.m(), m a classmethod of the class at C -/
theorem pe_cmeth0 {X : Cx} {CX : CXT} {k : Nat} {C p g : Addr} {mc : Value} {sp : Sp} {E : XK} {o : Expr} {m : Str} {pos apos : Pos} {ta : TE} {pl : Sem Bool} (he : PE X o ta) (r : ClX.CRead X.K C mc) (c : ClX.CMet X.K C mc m p g) (F : FnR X.prog X.w X.K X.mg X.base CX k g sp) (hr : Room k X.A) (hx : Passes CX X E)
    (ht : eval (.Call (.Attribute o m apos) [] [] pos) X.env = (do
      let ov ← eval o X.env
      standAt apos.atName
      let (f, first) ← holding [ov] (getMethod ov m pl)
      callWith pos f first (backTo pos (starEach [] X.env)) (backToKw pos (keywordEach [] X.env))) := by rfl) :
    PE X (.Call (.Attribute o m apos) [] [] pos) (ClX.tCMeth C sp E ta tNil) := by
  refine ⟨fun pins s σ H Q I h => ?_⟩
  refine PySem.W.methodCall_KW (pl := pl) (thn (he.run pins s σ H _ I h) fun u s1 ⟨x, H1, I1, rx, ex, q⟩ => ?_) ht
  subst ex
  obtain rfl : u = Value.ref C := rx
  refine ClX.getmethcm_ok I1 r c fun s2 I2 => ?_
  exact PySem.W.callWith_M0 (first := []) ⟨ClX.pin_at I2, I2.kIn⟩ c.fi (ClX.run_cm (us := []) (vs := []) F hr hx I2 .nil q)
end VP

/-! permutations of a list. -/
namespace VPm
open PySem PySem.Spec PyProof.Rows
theorem slot_p_next : Slot "itertools.permutations" "__next__" "itertools.permutations.__next__" :=
  .of (owner := "itertools.permutations") (n := "__next__") (by rw [typeLookup_type, builtinLookup_eq_fast]; kernel_rfl) (by decide +kernel) (by decide +kernel) (by decide +kernel)
    (by first | exact .inl (by decide +kernel) | exact .inr (by decide +kernel)) (by rw [isSubtype_type]; kernel_rfl)
theorem entry_p_next : entryFor table "itertools.permutations.__next__" = some Builtin.«itertools.permutations.__next__» := entryFor_of_tree (by kernel_rfl)
theorem entry_p_new : entryFor table "itertools.permutations.__new__" = some Builtin.«itertools.permutations.__new__» := entryFor_of_tree (by kernel_rfl)
theorem slot_p_init : Slot "itertools.permutations" "__init__" "object.__init__" :=
  .of (owner := "object") (n := "__init__") (by rw [typeLookup_type, builtinLookup_eq_fast]; kernel_rfl) (by decide +kernel) (by decide +kernel) (by decide +kernel)
    (by first | exact .inl (by decide +kernel) | exact .inr (by decide +kernel)) (by rw [isSubtype_type]; kernel_rfl)
theorem mro_p : mroOf (.type "itertools.permutations") = pure [.type "itertools.permutations", .type "object"] := by rw [mroOf_type]; kernel_rfl
theorem look_p_new : typeLookup (.type "itertools.permutations") "__new__" = pure (some (.builtin "itertools.permutations.__new__")) := by rw [typeLookup_type, builtinLookup_eq_fast]; kernel_rfl
theorem called_p : TypeCalled "itertools.permutations" "itertools.permutations.__new__" "object.__init__" :=
  ⟨by decide +kernel, by decide +kernel, ⟨_, _, mro_p⟩, madeBy_type mro_p look_p_new (by decide +kernel), by decide +kernel, by rw [isSubtype_type]; kernel_rfl, slot_p_init⟩
theorem typeCall_p (a : Value) : checkTypeCall "itertools.permutations" ⟨[a], []⟩ = pure () := by kernel_rfl
theorem newCall_p (a : Value) : checkBuiltinCall "itertools.permutations.__new__" ⟨[.type "itertools.permutations", a], []⟩ = pure () := by kernel_rfl
theorem look_p_iter : typeLookup (.type "itertools.permutations") "__iter__" = pure (some (.builtin "itertools.permutations.__iter__")) := by rw [typeLookup_type, builtinLookup_eq_fast]; kernel_rfl
theorem owner_p : Manifest.owners.lookup (String.ofList ['s', 'n', 'o', 'i', 't', 'a', 't', 'u', 'm', 'r', 'e', 'p', '.', 's', 'l', 'o', 'o', 't', 'r', 'e', 't', 'i'].reverse) = some Manifest.sig_itertools_permutations := by kernel_rfl
theorem args_p_next (a : Value) : argsOk "itertools.permutations.__next__" ⟨[a], []⟩ := by
  unfold argsOk; rw [signature?_of (id := "itertools.permutations.__next__") (n := ['_', '_', 't', 'x', 'e', 'n', '_', '_']) (o := ['s', 'n', 'o', 'i', 't', 'a', 't', 'u', 'm', 'r', 'e', 'p', '.', 's', 'l', 'o', 'o', 't', 'r', 'e', 't', 'i']) (by kernel_rfl) owner_p]; kernel_rfl
theorem args_p_iter (a : Value) : argsOk "itertools.permutations.__iter__" ⟨[a], []⟩ := by
  unfold argsOk; rw [signature?_of (id := "itertools.permutations.__iter__") (n := ['_', '_', 'r', 'e', 't', 'i', '_', '_']) (o := ['s', 'n', 'o', 'i', 't', 'a', 't', 'u', 'm', 'r', 'e', 'p', '.', 's', 'l', 'o', 'o', 't', 'r', 'e', 't', 'i']) (by kernel_rfl) owner_p]; kernel_rfl
theorem slot_p_iter : Slot "itertools.permutations" "__iter__" "itertools.permutations.__iter__" :=
  .of (owner := "itertools.permutations") (n := "__iter__") (by rw [typeLookup_type, builtinLookup_eq_fast]; kernel_rfl) (by decide +kernel) (by decide +kernel) (by decide +kernel)
    (by first | exact .inl (by decide +kernel) | exact .inr (by decide +kernel)) (by rw [isSubtype_type]; kernel_rfl)
theorem entry_p_iter : entryFor table "itertools.permutations.__iter__" = some Builtin.«dict_keyiterator.__iter__» :=
  entryFor_alias (id' := "dict_keyiterator.__iter__") (by kernel_rfl) (by first | rfl | decide +kernel | (unfold String.splitOn; simp +decide [String.splitOnAux])) (by decide +kernel) (by kernel_rfl)
def nums (l : List Nat) : List Value := l.map fun (i : Nat) => rawInt (i : Int)
theorem nums_back {f : Value → Nat} (h : ∀ i : Nat, f (rawInt (i : Int)) = i) : ∀ l : List Nat, (nums l).map f = l
  | [] => rfl
  | i :: l => by
    show f (rawInt (i : Int)) :: (nums l).map f = i :: l
    rw [h, nums_back h l]
def IsPm (h : Heap) (z T : Addr) (st n : Nat) (prev : Value) (ic : List Nat) : Prop := h.get? z = some { cls := .type "itertools.permutations", data := .fields (([.ref T, rawInt (st : Int), rawInt (n : Int), prev] ++ nums ic).toArray) }
section
variable {prog : Program} {w : World} {A : Around} {E : Value → Shared → Prop} {s : Shared}
theorem next0 {z T : Addr} {items : Array Value} {n : Nat} {prev : Value} {idx cyc : List Nat} {Q : Option Value → Shared → Prop} (hz : IsPm s.heap z T 0 n prev (idx ++ cyc)) (hT : s.heap.IsTuple T items) (hn : idx.length = n) (hsz : n ≤ 1000) (hne : T ≠ z)
    (hQ : ∀ h', IsPm h' z T 1 n (.ref s.heap.objs.size) (idx ++ cyc) → h'.get? s.heap.objs.size = some { cls := .type "tuple", data := .seq ((idx.map fun i => items.getD i .none).toArray) } → h'.objs.size = s.heap.objs.size + 1 →
      (∀ c o, c ≠ z → s.heap.get? c = some o → h'.get? c = some o) → Q (some (.ref s.heap.objs.size)) { s with heap := h' }) :
    wpAny (model prog w) A (pyNext (.ref z)) Q E s := by
  have hty : s.TypeIs (.ref z) "itertools.permutations" := ⟨_, hz, rfl⟩
  have hzl : z < s.heap.objs.size := Heap.lt_size hz
  unfold pyNext
  refine wpAny_bind (wpAny_attempt (wpAny_callSpecial?_slot (name := Str.ofString "__next__") hty slot_p_next
    (wpAny_call_entry slot_p_next hty entry_p_next ?_ (args_p_next _))))
  unfold Builtin.«itertools.permutations.__next__»
  refine wpAny_bind (wpAny_of_eq (a := (Value.ref z, [])) rfl ?_)
  try dsimp only
  refine wpAny_bind (wpAny_field hz rfl (x := .ref T) rfl ?_)
  try dsimp only
  obtain ⟨⟨oc, od, odt, osl⟩, ho, hc, n0, hd⟩ := id hT
  refine wpAny_bind ?_
  unfold Builtin.Itertools.itPoolItems
  refine wpAny_bind (wpAny_seqItems ho hd (wpAny_pure ?_))
  unfold Builtin.Itertools.itIntField Builtin.Itertools.itNumbersFrom
  refine wpAny_bind (wpAny_bind (wpAny_field hz rfl (x := rawInt (n : Int)) rfl (wpAny_pure ?_)))
  refine wpAny_bind (wpAny_bind (wpAny_load hz (wpAny_pure ?_)))
  refine wpAny_bind (wpAny_bind (wpAny_field hz rfl (x := rawInt 0) rfl (wpAny_pure ?_)))
  try dsimp only
  refine wpAny_bind (wpAny_setField_rec hz (by rw [List.size_toArray, List.length_append]; show 1 < 4 + _; omega) fun h1 hz1 hs1 => ?_)
  rw [show List.drop 4 ([Value.ref T, rawInt ((0 : Nat) : Int), rawInt (n : Int), prev] ++ nums (idx ++ cyc)) = nums (idx ++ cyc) from rfl, nums_back (fun i => by show (i : Int).toNat = i; omega)]
  rw [show List.take (Int.toNat (n : Int)) (idx ++ cyc) = idx by rw [Int.toNat_natCast, ← hn, List.take_left']; rfl]
  refine wpAny_bind (wpAny_newTuple ?_ (by rw [List.length_map, sizeLine_eq]; omega))
  have hz1 : IsPm h1 z T 1 n prev (idx ++ cyc) := by rw [List.setIfInBounds_toArray] at hz1; exact hz1
  have hz2 : IsPm (h1.push { cls := .type "tuple", data := .seq ((idx.map fun i => items.getD i .none).toArray) }) z T 1 n prev (idx ++ cyc) := Heap.get?_push_of_some _ hz1
  have hsz1 : h1.objs.size = s.heap.objs.size := hs1.1
  refine wpAny_bind (wpAny_field hz2 rfl (x := prev) rfl ?_)
  refine wpAny_bind (wpAny_setField_rec hz2 (by rw [List.size_toArray, List.length_append]; show 3 < 4 + _; omega) fun h3 hz3 hs3 => ?_)
  have hz3 : IsPm h3 z T 1 n (.ref h1.objs.size) (idx ++ cyc) := by rw [List.setIfInBounds_toArray] at hz3; exact hz3
  refine wpAny_bind (wpAny_letGo (wpAny_pure ⟨_, rfl, wpAny_pure ?_⟩))
  show Q (some (.ref h1.objs.size)) _
  rw [hsz1] at hz3 ⊢
  refine hQ h3 hz3 ?_ ?_ fun c o nc e => ?_
  · exact hs3.extBut _ _ (Nat.ne_of_gt hzl) (by rw [← hsz1]; exact Heap.get?_push_size _ rfl)
  · rw [hs3.1, Heap.size_push, hsz1]
  · exact hs3.extBut _ _ nc (Heap.get?_push_of_some _ (hs1.extBut _ _ nc e))
end
def steps : List (Nat × List Nat × List Nat × List Nat × List Nat) := [(2, [0, 1], [2, 1], [1, 0], [1, 1]), (3, [0, 1, 2], [3, 2, 1], [0, 2, 1], [3, 1, 1]), (3, [0, 2, 1], [3, 1, 1], [1, 0, 2], [2, 2, 1]), (3, [1, 0, 2], [2, 2, 1], [1, 2, 0], [2, 1, 1]), (3, [1, 2, 0], [2, 1, 1], [2, 0, 1], [1, 2, 1]), (3, [2, 0, 1], [1, 2, 1], [2, 1, 0], [1, 1, 1]), (4, [0, 1, 2, 3], [4, 3, 2, 1], [0, 1, 3, 2], [4, 3, 1, 1]), (4, [0, 1, 3, 2], [4, 3, 1, 1], [0, 2, 1, 3], [4, 2, 2, 1]), (4, [0, 2, 1, 3], [4, 2, 2, 1], [0, 2, 3, 1], [4, 2, 1, 1]), (4, [0, 2, 3, 1], [4, 2, 1, 1], [0, 3, 1, 2], [4, 1, 2, 1]), (4, [0, 3, 1, 2], [4, 1, 2, 1], [0, 3, 2, 1], [4, 1, 1, 1]), (4, [0, 3, 2, 1], [4, 1, 1, 1], [1, 0, 2, 3], [3, 3, 2, 1]), (4, [1, 0, 2, 3], [3, 3, 2, 1], [1, 0, 3, 2], [3, 3, 1, 1]), (4, [1, 0, 3, 2], [3, 3, 1, 1], [1, 2, 0, 3], [3, 2, 2, 1]), (4, [1, 2, 0, 3], [3, 2, 2, 1], [1, 2, 3, 0], [3, 2, 1, 1]), (4, [1, 2, 3, 0], [3, 2, 1, 1], [1, 3, 0, 2], [3, 1, 2, 1]), (4, [1, 3, 0, 2], [3, 1, 2, 1], [1, 3, 2, 0], [3, 1, 1, 1]), (4, [1, 3, 2, 0], [3, 1, 1, 1], [2, 0, 1, 3], [2, 3, 2, 1]), (4, [2, 0, 1, 3], [2, 3, 2, 1], [2, 0, 3, 1], [2, 3, 1, 1]), (4, [2, 0, 3, 1], [2, 3, 1, 1], [2, 1, 0, 3], [2, 2, 2, 1]), (4, [2, 1, 0, 3], [2, 2, 2, 1], [2, 1, 3, 0], [2, 2, 1, 1]), (4, [2, 1, 3, 0], [2, 2, 1, 1], [2, 3, 0, 1], [2, 1, 2, 1]), (4, [2, 3, 0, 1], [2, 1, 2, 1], [2, 3, 1, 0], [2, 1, 1, 1]), (4, [2, 3, 1, 0], [2, 1, 1, 1], [3, 0, 1, 2], [1, 3, 2, 1]), (4, [3, 0, 1, 2], [1, 3, 2, 1], [3, 0, 2, 1], [1, 3, 1, 1]), (4, [3, 0, 2, 1], [1, 3, 1, 1], [3, 1, 0, 2], [1, 2, 2, 1]), (4, [3, 1, 0, 2], [1, 2, 2, 1], [3, 1, 2, 0], [1, 2, 1, 1]), (4, [3, 1, 2, 0], [1, 2, 1, 1], [3, 2, 0, 1], [1, 1, 2, 1]), (4, [3, 2, 0, 1], [1, 1, 2, 1], [3, 2, 1, 0], [1, 1, 1, 1])]
section
variable {prog : Program} {w : World} {A : Around} {E : Value → Shared → Prop} {s : Shared}
theorem rest1 {z T : Addr} {items : Array Value} {n : Nat} {prev : Value} {idx' ic : List Nat} {h1 : Heap} {Q : Option Value → Shared → Prop} {E' : Value → Shared → Prop} (hzl : z < s.heap.objs.size) (hz1 : IsPm h1 z T 1 n prev ic) (hs1 : Heap.SameBut z s.heap h1)
    (hQ : ∀ h', IsPm h' z T 1 n (.ref s.heap.objs.size) ic → h'.get? s.heap.objs.size = some { cls := .type "tuple", data := .seq ((idx'.map fun i => items.getD i .none).toArray) } → h'.objs.size = s.heap.objs.size + 1 →
      (∀ c o, c ≠ z → s.heap.get? c = some o → h'.get? c = some o) → Q (some (.ref s.heap.objs.size)) { s with heap := h' }) :
    wpAny (model prog w) A.in1 (field (.ref z) 3 >>= fun before => setField (.ref z) 3 (.ref h1.objs.size) >>= fun _ => letGo [before] [.ref h1.objs.size] >>= fun _ => ret (.ref h1.objs.size))
      (fun fin s' => ∃ v, fin = .done (.ret v) ∧ wpAny (model prog w) A (pure (some v)) Q E s') E' { s with heap := h1.push { cls := .type "tuple", data := .seq ((idx'.map fun i => items.getD i .none).toArray) } } := by
  have hz2 : IsPm (h1.push { cls := .type "tuple", data := .seq ((idx'.map fun i => items.getD i .none).toArray) }) z T 1 n prev ic := Heap.get?_push_of_some _ hz1
  have hsz1 : h1.objs.size = s.heap.objs.size := hs1.1
  refine wpAny_bind (wpAny_field hz2 rfl (x := prev) rfl ?_)
  refine wpAny_bind (wpAny_setField_rec hz2 (by rw [List.size_toArray, List.length_append]; show 3 < 4 + _; omega) fun h3 hz3 hs3 => ?_)
  have hz3 : IsPm h3 z T 1 n (.ref h1.objs.size) ic := by rw [List.setIfInBounds_toArray] at hz3; exact hz3
  refine wpAny_bind (wpAny_letGo (wpAny_pure ⟨_, rfl, wpAny_pure ?_⟩))
  show Q (some (.ref h1.objs.size)) _
  rw [hsz1] at hz3 ⊢
  refine hQ h3 hz3 ?_ ?_ fun c o nc e => ?_
  · exact hs3.extBut _ _ (Nat.ne_of_gt hzl) (by rw [← hsz1]; exact Heap.get?_push_size _ rfl)
  · rw [hs3.1, Heap.size_push, hsz1]
  · exact hs3.extBut _ _ nc (Heap.get?_push_of_some _ (hs1.extBut _ _ nc e))
theorem next1 {z T : Addr} {items : Array Value} {n : Nat} {prev : Value} {idx cyc idx' cyc' : List Nat} {Q : Option Value → Shared → Prop} (hr : (n, idx, cyc, idx', cyc') ∈ steps) (hz : IsPm s.heap z T 1 n prev (idx ++ cyc)) (hT : s.heap.IsTuple T items) (hi : items.size = n) (hne : T ≠ z)
    (hQ : ∀ h', IsPm h' z T 1 n (.ref s.heap.objs.size) (idx' ++ cyc') → h'.get? s.heap.objs.size = some { cls := .type "tuple", data := .seq ((idx'.map fun i => items.getD i .none).toArray) } → h'.objs.size = s.heap.objs.size + 1 →
      (∀ c o, c ≠ z → s.heap.get? c = some o → h'.get? c = some o) → Q (some (.ref s.heap.objs.size)) { s with heap := h' }) :
    wpAny (model prog w) A (pyNext (.ref z)) Q E s := by
  have hty : s.TypeIs (.ref z) "itertools.permutations" := ⟨_, hz, rfl⟩
  have hzl : z < s.heap.objs.size := Heap.lt_size hz
  unfold pyNext
  refine wpAny_bind (wpAny_attempt (wpAny_callSpecial?_slot (name := Str.ofString "__next__") hty slot_p_next
    (wpAny_call_entry slot_p_next hty entry_p_next ?_ (args_p_next _))))
  unfold Builtin.«itertools.permutations.__next__»
  refine wpAny_bind (wpAny_of_eq (a := (Value.ref z, [])) rfl ?_)
  try dsimp only
  refine wpAny_bind (wpAny_field hz rfl (x := .ref T) rfl ?_)
  try dsimp only
  obtain ⟨⟨oc, od, odt, osl⟩, ho, hc, n0, hd⟩ := id hT
  refine wpAny_bind ?_
  unfold Builtin.Itertools.itPoolItems
  refine wpAny_bind (wpAny_seqItems ho hd (wpAny_pure ?_))
  unfold Builtin.Itertools.itIntField Builtin.Itertools.itNumbersFrom
  refine wpAny_bind (wpAny_bind (wpAny_field hz rfl (x := rawInt (n : Int)) rfl (wpAny_pure ?_)))
  refine wpAny_bind (wpAny_bind (wpAny_load hz (wpAny_pure ?_)))
  refine wpAny_bind (wpAny_bind (wpAny_field hz rfl (x := rawInt 1) rfl (wpAny_pure ?_)))
  try dsimp only
  rw [show List.drop 4 ([Value.ref T, rawInt ((1 : Nat) : Int), rawInt (n : Int), prev] ++ nums (idx ++ cyc)) = nums (idx ++ cyc) from rfl, nums_back (fun i => by show (i : Int).toNat = i; omega), hi]
  simp only [steps, List.mem_cons, List.not_mem_nil, or_false, Prod.mk.injEq] at hr
  rcases hr with ⟨rfl, rfl, rfl, rfl, rfl⟩ | ⟨rfl, rfl, rfl, rfl, rfl⟩ | ⟨rfl, rfl, rfl, rfl, rfl⟩ | ⟨rfl, rfl, rfl, rfl, rfl⟩ | ⟨rfl, rfl, rfl, rfl, rfl⟩ | ⟨rfl, rfl, rfl, rfl, rfl⟩ | ⟨rfl, rfl, rfl, rfl, rfl⟩ | ⟨rfl, rfl, rfl, rfl, rfl⟩ | ⟨rfl, rfl, rfl, rfl, rfl⟩ | ⟨rfl, rfl, rfl, rfl, rfl⟩ | ⟨rfl, rfl, rfl, rfl, rfl⟩ | ⟨rfl, rfl, rfl, rfl, rfl⟩ | ⟨rfl, rfl, rfl, rfl, rfl⟩ | ⟨rfl, rfl, rfl, rfl, rfl⟩ | ⟨rfl, rfl, rfl, rfl, rfl⟩ | ⟨rfl, rfl, rfl, rfl, rfl⟩ | ⟨rfl, rfl, rfl, rfl, rfl⟩ | ⟨rfl, rfl, rfl, rfl, rfl⟩ | ⟨rfl, rfl, rfl, rfl, rfl⟩ | ⟨rfl, rfl, rfl, rfl, rfl⟩ | ⟨rfl, rfl, rfl, rfl, rfl⟩ | ⟨rfl, rfl, rfl, rfl, rfl⟩ | ⟨rfl, rfl, rfl, rfl, rfl⟩ | ⟨rfl, rfl, rfl, rfl, rfl⟩ | ⟨rfl, rfl, rfl, rfl, rfl⟩ | ⟨rfl, rfl, rfl, rfl, rfl⟩ | ⟨rfl, rfl, rfl, rfl, rfl⟩ | ⟨rfl, rfl, rfl, rfl, rfl⟩ | ⟨rfl, rfl, rfl, rfl, rfl⟩
  · have hz1 : IsPm (s.heap.update z (Obj.mapFields fun fs => fs.extract 0 4 ++ (nums ([1, 0] ++ [1, 1])).toArray)) z T 1 2 prev ([1, 0] ++ [1, 1]) := by
      refine (Heap.get?_update_self _ hz rfl).trans ?_
      simp [Obj.mapFields, nums]
    have hs1 : Heap.SameBut z s.heap (s.heap.update z (Obj.mapFields fun fs => fs.extract 0 4 ++ (nums ([1, 0] ++ [1, 1])).toArray)) := Heap.SameBut.update ..
    refine wpAny_bind ?_
    unfold Builtin.Itertools.itSetNumbersFrom
    refine wpAny_updateFields hz rfl ?_ (by rw [sizeLine_eq]; simp [nums])
    show wpAny _ _ _ _ _ { s with heap := s.heap.update z (Obj.mapFields fun fs => fs.extract 0 4 ++ (nums ([1, 0] ++ [1, 1])).toArray) }
    generalize s.heap.update z (Obj.mapFields fun fs => fs.extract 0 4 ++ (nums ([1, 0] ++ [1, 1])).toArray) = h1 at *
    refine wpAny_bind (wpAny_newTuple (items := [1, 0].map fun i => items.getD i .none) ?_ (by rw [sizeLine_eq]; simp))
    exact rest1 (s := s) hzl hz1 hs1 hQ
  · have hz1 : IsPm (s.heap.update z (Obj.mapFields fun fs => fs.extract 0 4 ++ (nums ([0, 2, 1] ++ [3, 1, 1])).toArray)) z T 1 3 prev ([0, 2, 1] ++ [3, 1, 1]) := by
      refine (Heap.get?_update_self _ hz rfl).trans ?_
      simp [Obj.mapFields, nums]
    have hs1 : Heap.SameBut z s.heap (s.heap.update z (Obj.mapFields fun fs => fs.extract 0 4 ++ (nums ([0, 2, 1] ++ [3, 1, 1])).toArray)) := Heap.SameBut.update ..
    refine wpAny_bind ?_
    unfold Builtin.Itertools.itSetNumbersFrom
    refine wpAny_updateFields hz rfl ?_ (by rw [sizeLine_eq]; simp [nums])
    show wpAny _ _ _ _ _ { s with heap := s.heap.update z (Obj.mapFields fun fs => fs.extract 0 4 ++ (nums ([0, 2, 1] ++ [3, 1, 1])).toArray) }
    generalize s.heap.update z (Obj.mapFields fun fs => fs.extract 0 4 ++ (nums ([0, 2, 1] ++ [3, 1, 1])).toArray) = h1 at *
    refine wpAny_bind (wpAny_newTuple (items := [0, 2, 1].map fun i => items.getD i .none) ?_ (by rw [sizeLine_eq]; simp))
    exact rest1 (s := s) hzl hz1 hs1 hQ
  · have hz1 : IsPm (s.heap.update z (Obj.mapFields fun fs => fs.extract 0 4 ++ (nums ([1, 0, 2] ++ [2, 2, 1])).toArray)) z T 1 3 prev ([1, 0, 2] ++ [2, 2, 1]) := by
      refine (Heap.get?_update_self _ hz rfl).trans ?_
      simp [Obj.mapFields, nums]
    have hs1 : Heap.SameBut z s.heap (s.heap.update z (Obj.mapFields fun fs => fs.extract 0 4 ++ (nums ([1, 0, 2] ++ [2, 2, 1])).toArray)) := Heap.SameBut.update ..
    refine wpAny_bind ?_
    unfold Builtin.Itertools.itSetNumbersFrom
    refine wpAny_updateFields hz rfl ?_ (by rw [sizeLine_eq]; simp [nums])
    show wpAny _ _ _ _ _ { s with heap := s.heap.update z (Obj.mapFields fun fs => fs.extract 0 4 ++ (nums ([1, 0, 2] ++ [2, 2, 1])).toArray) }
    generalize s.heap.update z (Obj.mapFields fun fs => fs.extract 0 4 ++ (nums ([1, 0, 2] ++ [2, 2, 1])).toArray) = h1 at *
    refine wpAny_bind (wpAny_newTuple (items := [1, 0, 2].map fun i => items.getD i .none) ?_ (by rw [sizeLine_eq]; simp))
    exact rest1 (s := s) hzl hz1 hs1 hQ
  · have hz1 : IsPm (s.heap.update z (Obj.mapFields fun fs => fs.extract 0 4 ++ (nums ([1, 2, 0] ++ [2, 1, 1])).toArray)) z T 1 3 prev ([1, 2, 0] ++ [2, 1, 1]) := by
      refine (Heap.get?_update_self _ hz rfl).trans ?_
      simp [Obj.mapFields, nums]
    have hs1 : Heap.SameBut z s.heap (s.heap.update z (Obj.mapFields fun fs => fs.extract 0 4 ++ (nums ([1, 2, 0] ++ [2, 1, 1])).toArray)) := Heap.SameBut.update ..
    refine wpAny_bind ?_
    unfold Builtin.Itertools.itSetNumbersFrom
    refine wpAny_updateFields hz rfl ?_ (by rw [sizeLine_eq]; simp [nums])
    show wpAny _ _ _ _ _ { s with heap := s.heap.update z (Obj.mapFields fun fs => fs.extract 0 4 ++ (nums ([1, 2, 0] ++ [2, 1, 1])).toArray) }
    generalize s.heap.update z (Obj.mapFields fun fs => fs.extract 0 4 ++ (nums ([1, 2, 0] ++ [2, 1, 1])).toArray) = h1 at *
    refine wpAny_bind (wpAny_newTuple (items := [1, 2, 0].map fun i => items.getD i .none) ?_ (by rw [sizeLine_eq]; simp))
    exact rest1 (s := s) hzl hz1 hs1 hQ
  · have hz1 : IsPm (s.heap.update z (Obj.mapFields fun fs => fs.extract 0 4 ++ (nums ([2, 0, 1] ++ [1, 2, 1])).toArray)) z T 1 3 prev ([2, 0, 1] ++ [1, 2, 1]) := by
      refine (Heap.get?_update_self _ hz rfl).trans ?_
      simp [Obj.mapFields, nums]
    have hs1 : Heap.SameBut z s.heap (s.heap.update z (Obj.mapFields fun fs => fs.extract 0 4 ++ (nums ([2, 0, 1] ++ [1, 2, 1])).toArray)) := Heap.SameBut.update ..
    refine wpAny_bind ?_
    unfold Builtin.Itertools.itSetNumbersFrom
    refine wpAny_updateFields hz rfl ?_ (by rw [sizeLine_eq]; simp [nums])
    show wpAny _ _ _ _ _ { s with heap := s.heap.update z (Obj.mapFields fun fs => fs.extract 0 4 ++ (nums ([2, 0, 1] ++ [1, 2, 1])).toArray) }
    generalize s.heap.update z (Obj.mapFields fun fs => fs.extract 0 4 ++ (nums ([2, 0, 1] ++ [1, 2, 1])).toArray) = h1 at *
    refine wpAny_bind (wpAny_newTuple (items := [2, 0, 1].map fun i => items.getD i .none) ?_ (by rw [sizeLine_eq]; simp))
    exact rest1 (s := s) hzl hz1 hs1 hQ
  · have hz1 : IsPm (s.heap.update z (Obj.mapFields fun fs => fs.extract 0 4 ++ (nums ([2, 1, 0] ++ [1, 1, 1])).toArray)) z T 1 3 prev ([2, 1, 0] ++ [1, 1, 1]) := by
      refine (Heap.get?_update_self _ hz rfl).trans ?_
      simp [Obj.mapFields, nums]
    have hs1 : Heap.SameBut z s.heap (s.heap.update z (Obj.mapFields fun fs => fs.extract 0 4 ++ (nums ([2, 1, 0] ++ [1, 1, 1])).toArray)) := Heap.SameBut.update ..
    refine wpAny_bind ?_
    unfold Builtin.Itertools.itSetNumbersFrom
    refine wpAny_updateFields hz rfl ?_ (by rw [sizeLine_eq]; simp [nums])
    show wpAny _ _ _ _ _ { s with heap := s.heap.update z (Obj.mapFields fun fs => fs.extract 0 4 ++ (nums ([2, 1, 0] ++ [1, 1, 1])).toArray) }
    generalize s.heap.update z (Obj.mapFields fun fs => fs.extract 0 4 ++ (nums ([2, 1, 0] ++ [1, 1, 1])).toArray) = h1 at *
    refine wpAny_bind (wpAny_newTuple (items := [2, 1, 0].map fun i => items.getD i .none) ?_ (by rw [sizeLine_eq]; simp))
    exact rest1 (s := s) hzl hz1 hs1 hQ
  · have hz1 : IsPm (s.heap.update z (Obj.mapFields fun fs => fs.extract 0 4 ++ (nums ([0, 1, 3, 2] ++ [4, 3, 1, 1])).toArray)) z T 1 4 prev ([0, 1, 3, 2] ++ [4, 3, 1, 1]) := by
      refine (Heap.get?_update_self _ hz rfl).trans ?_
      simp [Obj.mapFields, nums]
    have hs1 : Heap.SameBut z s.heap (s.heap.update z (Obj.mapFields fun fs => fs.extract 0 4 ++ (nums ([0, 1, 3, 2] ++ [4, 3, 1, 1])).toArray)) := Heap.SameBut.update ..
    refine wpAny_bind ?_
    unfold Builtin.Itertools.itSetNumbersFrom
    refine wpAny_updateFields hz rfl ?_ (by rw [sizeLine_eq]; simp [nums])
    show wpAny _ _ _ _ _ { s with heap := s.heap.update z (Obj.mapFields fun fs => fs.extract 0 4 ++ (nums ([0, 1, 3, 2] ++ [4, 3, 1, 1])).toArray) }
    generalize s.heap.update z (Obj.mapFields fun fs => fs.extract 0 4 ++ (nums ([0, 1, 3, 2] ++ [4, 3, 1, 1])).toArray) = h1 at *
    refine wpAny_bind (wpAny_newTuple (items := [0, 1, 3, 2].map fun i => items.getD i .none) ?_ (by rw [sizeLine_eq]; simp))
    exact rest1 (s := s) hzl hz1 hs1 hQ
  · have hz1 : IsPm (s.heap.update z (Obj.mapFields fun fs => fs.extract 0 4 ++ (nums ([0, 2, 1, 3] ++ [4, 2, 2, 1])).toArray)) z T 1 4 prev ([0, 2, 1, 3] ++ [4, 2, 2, 1]) := by
      refine (Heap.get?_update_self _ hz rfl).trans ?_
      simp [Obj.mapFields, nums]
    have hs1 : Heap.SameBut z s.heap (s.heap.update z (Obj.mapFields fun fs => fs.extract 0 4 ++ (nums ([0, 2, 1, 3] ++ [4, 2, 2, 1])).toArray)) := Heap.SameBut.update ..
    refine wpAny_bind ?_
    unfold Builtin.Itertools.itSetNumbersFrom
    refine wpAny_updateFields hz rfl ?_ (by rw [sizeLine_eq]; simp [nums])
    show wpAny _ _ _ _ _ { s with heap := s.heap.update z (Obj.mapFields fun fs => fs.extract 0 4 ++ (nums ([0, 2, 1, 3] ++ [4, 2, 2, 1])).toArray) }
    generalize s.heap.update z (Obj.mapFields fun fs => fs.extract 0 4 ++ (nums ([0, 2, 1, 3] ++ [4, 2, 2, 1])).toArray) = h1 at *
    refine wpAny_bind (wpAny_newTuple (items := [0, 2, 1, 3].map fun i => items.getD i .none) ?_ (by rw [sizeLine_eq]; simp))
    exact rest1 (s := s) hzl hz1 hs1 hQ
  · have hz1 : IsPm (s.heap.update z (Obj.mapFields fun fs => fs.extract 0 4 ++ (nums ([0, 2, 3, 1] ++ [4, 2, 1, 1])).toArray)) z T 1 4 prev ([0, 2, 3, 1] ++ [4, 2, 1, 1]) := by
      refine (Heap.get?_update_self _ hz rfl).trans ?_
      simp [Obj.mapFields, nums]
    have hs1 : Heap.SameBut z s.heap (s.heap.update z (Obj.mapFields fun fs => fs.extract 0 4 ++ (nums ([0, 2, 3, 1] ++ [4, 2, 1, 1])).toArray)) := Heap.SameBut.update ..
    refine wpAny_bind ?_
    unfold Builtin.Itertools.itSetNumbersFrom
    refine wpAny_updateFields hz rfl ?_ (by rw [sizeLine_eq]; simp [nums])
    show wpAny _ _ _ _ _ { s with heap := s.heap.update z (Obj.mapFields fun fs => fs.extract 0 4 ++ (nums ([0, 2, 3, 1] ++ [4, 2, 1, 1])).toArray) }
    generalize s.heap.update z (Obj.mapFields fun fs => fs.extract 0 4 ++ (nums ([0, 2, 3, 1] ++ [4, 2, 1, 1])).toArray) = h1 at *
    refine wpAny_bind (wpAny_newTuple (items := [0, 2, 3, 1].map fun i => items.getD i .none) ?_ (by rw [sizeLine_eq]; simp))
    exact rest1 (s := s) hzl hz1 hs1 hQ
  · have hz1 : IsPm (s.heap.update z (Obj.mapFields fun fs => fs.extract 0 4 ++ (nums ([0, 3, 1, 2] ++ [4, 1, 2, 1])).toArray)) z T 1 4 prev ([0, 3, 1, 2] ++ [4, 1, 2, 1]) := by
      refine (Heap.get?_update_self _ hz rfl).trans ?_
      simp [Obj.mapFields, nums]
    have hs1 : Heap.SameBut z s.heap (s.heap.update z (Obj.mapFields fun fs => fs.extract 0 4 ++ (nums ([0, 3, 1, 2] ++ [4, 1, 2, 1])).toArray)) := Heap.SameBut.update ..
    refine wpAny_bind ?_
    unfold Builtin.Itertools.itSetNumbersFrom
    refine wpAny_updateFields hz rfl ?_ (by rw [sizeLine_eq]; simp [nums])
    show wpAny _ _ _ _ _ { s with heap := s.heap.update z (Obj.mapFields fun fs => fs.extract 0 4 ++ (nums ([0, 3, 1, 2] ++ [4, 1, 2, 1])).toArray) }
    generalize s.heap.update z (Obj.mapFields fun fs => fs.extract 0 4 ++ (nums ([0, 3, 1, 2] ++ [4, 1, 2, 1])).toArray) = h1 at *
    refine wpAny_bind (wpAny_newTuple (items := [0, 3, 1, 2].map fun i => items.getD i .none) ?_ (by rw [sizeLine_eq]; simp))
    exact rest1 (s := s) hzl hz1 hs1 hQ
  · have hz1 : IsPm (s.heap.update z (Obj.mapFields fun fs => fs.extract 0 4 ++ (nums ([0, 3, 2, 1] ++ [4, 1, 1, 1])).toArray)) z T 1 4 prev ([0, 3, 2, 1] ++ [4, 1, 1, 1]) := by
      refine (Heap.get?_update_self _ hz rfl).trans ?_
      simp [Obj.mapFields, nums]
    have hs1 : Heap.SameBut z s.heap (s.heap.update z (Obj.mapFields fun fs => fs.extract 0 4 ++ (nums ([0, 3, 2, 1] ++ [4, 1, 1, 1])).toArray)) := Heap.SameBut.update ..
    refine wpAny_bind ?_
    unfold Builtin.Itertools.itSetNumbersFrom
    refine wpAny_updateFields hz rfl ?_ (by rw [sizeLine_eq]; simp [nums])
    show wpAny _ _ _ _ _ { s with heap := s.heap.update z (Obj.mapFields fun fs => fs.extract 0 4 ++ (nums ([0, 3, 2, 1] ++ [4, 1, 1, 1])).toArray) }
    generalize s.heap.update z (Obj.mapFields fun fs => fs.extract 0 4 ++ (nums ([0, 3, 2, 1] ++ [4, 1, 1, 1])).toArray) = h1 at *
    refine wpAny_bind (wpAny_newTuple (items := [0, 3, 2, 1].map fun i => items.getD i .none) ?_ (by rw [sizeLine_eq]; simp))
    exact rest1 (s := s) hzl hz1 hs1 hQ
  · have hz1 : IsPm (s.heap.update z (Obj.mapFields fun fs => fs.extract 0 4 ++ (nums ([1, 0, 2, 3] ++ [3, 3, 2, 1])).toArray)) z T 1 4 prev ([1, 0, 2, 3] ++ [3, 3, 2, 1]) := by
      refine (Heap.get?_update_self _ hz rfl).trans ?_
      simp [Obj.mapFields, nums]
    have hs1 : Heap.SameBut z s.heap (s.heap.update z (Obj.mapFields fun fs => fs.extract 0 4 ++ (nums ([1, 0, 2, 3] ++ [3, 3, 2, 1])).toArray)) := Heap.SameBut.update ..
    refine wpAny_bind ?_
    unfold Builtin.Itertools.itSetNumbersFrom
    refine wpAny_updateFields hz rfl ?_ (by rw [sizeLine_eq]; simp [nums])
    show wpAny _ _ _ _ _ { s with heap := s.heap.update z (Obj.mapFields fun fs => fs.extract 0 4 ++ (nums ([1, 0, 2, 3] ++ [3, 3, 2, 1])).toArray) }
    generalize s.heap.update z (Obj.mapFields fun fs => fs.extract 0 4 ++ (nums ([1, 0, 2, 3] ++ [3, 3, 2, 1])).toArray) = h1 at *
    refine wpAny_bind (wpAny_newTuple (items := [1, 0, 2, 3].map fun i => items.getD i .none) ?_ (by rw [sizeLine_eq]; simp))
    exact rest1 (s := s) hzl hz1 hs1 hQ
  · have hz1 : IsPm (s.heap.update z (Obj.mapFields fun fs => fs.extract 0 4 ++ (nums ([1, 0, 3, 2] ++ [3, 3, 1, 1])).toArray)) z T 1 4 prev ([1, 0, 3, 2] ++ [3, 3, 1, 1]) := by
      refine (Heap.get?_update_self _ hz rfl).trans ?_
      simp [Obj.mapFields, nums]
    have hs1 : Heap.SameBut z s.heap (s.heap.update z (Obj.mapFields fun fs => fs.extract 0 4 ++ (nums ([1, 0, 3, 2] ++ [3, 3, 1, 1])).toArray)) := Heap.SameBut.update ..
    refine wpAny_bind ?_
    unfold Builtin.Itertools.itSetNumbersFrom
    refine wpAny_updateFields hz rfl ?_ (by rw [sizeLine_eq]; simp [nums])
    show wpAny _ _ _ _ _ { s with heap := s.heap.update z (Obj.mapFields fun fs => fs.extract 0 4 ++ (nums ([1, 0, 3, 2] ++ [3, 3, 1, 1])).toArray) }
    generalize s.heap.update z (Obj.mapFields fun fs => fs.extract 0 4 ++ (nums ([1, 0, 3, 2] ++ [3, 3, 1, 1])).toArray) = h1 at *
    refine wpAny_bind (wpAny_newTuple (items := [1, 0, 3, 2].map fun i => items.getD i .none) ?_ (by rw [sizeLine_eq]; simp))
    exact rest1 (s := s) hzl hz1 hs1 hQ
  · have hz1 : IsPm (s.heap.update z (Obj.mapFields fun fs => fs.extract 0 4 ++ (nums ([1, 2, 0, 3] ++ [3, 2, 2, 1])).toArray)) z T 1 4 prev ([1, 2, 0, 3] ++ [3, 2, 2, 1]) := by
      refine (Heap.get?_update_self _ hz rfl).trans ?_
      simp [Obj.mapFields, nums]
    have hs1 : Heap.SameBut z s.heap (s.heap.update z (Obj.mapFields fun fs => fs.extract 0 4 ++ (nums ([1, 2, 0, 3] ++ [3, 2, 2, 1])).toArray)) := Heap.SameBut.update ..
    refine wpAny_bind ?_
    unfold Builtin.Itertools.itSetNumbersFrom
    refine wpAny_updateFields hz rfl ?_ (by rw [sizeLine_eq]; simp [nums])
    show wpAny _ _ _ _ _ { s with heap := s.heap.update z (Obj.mapFields fun fs => fs.extract 0 4 ++ (nums ([1, 2, 0, 3] ++ [3, 2, 2, 1])).toArray) }
    generalize s.heap.update z (Obj.mapFields fun fs => fs.extract 0 4 ++ (nums ([1, 2, 0, 3] ++ [3, 2, 2, 1])).toArray) = h1 at *
    refine wpAny_bind (wpAny_newTuple (items := [1, 2, 0, 3].map fun i => items.getD i .none) ?_ (by rw [sizeLine_eq]; simp))
    exact rest1 (s := s) hzl hz1 hs1 hQ
  · have hz1 : IsPm (s.heap.update z (Obj.mapFields fun fs => fs.extract 0 4 ++ (nums ([1, 2, 3, 0] ++ [3, 2, 1, 1])).toArray)) z T 1 4 prev ([1, 2, 3, 0] ++ [3, 2, 1, 1]) := by
      refine (Heap.get?_update_self _ hz rfl).trans ?_
      simp [Obj.mapFields, nums]
    have hs1 : Heap.SameBut z s.heap (s.heap.update z (Obj.mapFields fun fs => fs.extract 0 4 ++ (nums ([1, 2, 3, 0] ++ [3, 2, 1, 1])).toArray)) := Heap.SameBut.update ..
    refine wpAny_bind ?_
    unfold Builtin.Itertools.itSetNumbersFrom
    refine wpAny_updateFields hz rfl ?_ (by rw [sizeLine_eq]; simp [nums])
    show wpAny _ _ _ _ _ { s with heap := s.heap.update z (Obj.mapFields fun fs => fs.extract 0 4 ++ (nums ([1, 2, 3, 0] ++ [3, 2, 1, 1])).toArray) }
    generalize s.heap.update z (Obj.mapFields fun fs => fs.extract 0 4 ++ (nums ([1, 2, 3, 0] ++ [3, 2, 1, 1])).toArray) = h1 at *
    refine wpAny_bind (wpAny_newTuple (items := [1, 2, 3, 0].map fun i => items.getD i .none) ?_ (by rw [sizeLine_eq]; simp))
    exact rest1 (s := s) hzl hz1 hs1 hQ
  · have hz1 : IsPm (s.heap.update z (Obj.mapFields fun fs => fs.extract 0 4 ++ (nums ([1, 3, 0, 2] ++ [3, 1, 2, 1])).toArray)) z T 1 4 prev ([1, 3, 0, 2] ++ [3, 1, 2, 1]) := by
      refine (Heap.get?_update_self _ hz rfl).trans ?_
      simp [Obj.mapFields, nums]
    have hs1 : Heap.SameBut z s.heap (s.heap.update z (Obj.mapFields fun fs => fs.extract 0 4 ++ (nums ([1, 3, 0, 2] ++ [3, 1, 2, 1])).toArray)) := Heap.SameBut.update ..
    refine wpAny_bind ?_
    unfold Builtin.Itertools.itSetNumbersFrom
    refine wpAny_updateFields hz rfl ?_ (by rw [sizeLine_eq]; simp [nums])
    show wpAny _ _ _ _ _ { s with heap := s.heap.update z (Obj.mapFields fun fs => fs.extract 0 4 ++ (nums ([1, 3, 0, 2] ++ [3, 1, 2, 1])).toArray) }
    generalize s.heap.update z (Obj.mapFields fun fs => fs.extract 0 4 ++ (nums ([1, 3, 0, 2] ++ [3, 1, 2, 1])).toArray) = h1 at *
    refine wpAny_bind (wpAny_newTuple (items := [1, 3, 0, 2].map fun i => items.getD i .none) ?_ (by rw [sizeLine_eq]; simp))
    exact rest1 (s := s) hzl hz1 hs1 hQ
  · have hz1 : IsPm (s.heap.update z (Obj.mapFields fun fs => fs.extract 0 4 ++ (nums ([1, 3, 2, 0] ++ [3, 1, 1, 1])).toArray)) z T 1 4 prev ([1, 3, 2, 0] ++ [3, 1, 1, 1]) := by
      refine (Heap.get?_update_self _ hz rfl).trans ?_
      simp [Obj.mapFields, nums]
    have hs1 : Heap.SameBut z s.heap (s.heap.update z (Obj.mapFields fun fs => fs.extract 0 4 ++ (nums ([1, 3, 2, 0] ++ [3, 1, 1, 1])).toArray)) := Heap.SameBut.update ..
    refine wpAny_bind ?_
    unfold Builtin.Itertools.itSetNumbersFrom
    refine wpAny_updateFields hz rfl ?_ (by rw [sizeLine_eq]; simp [nums])
    show wpAny _ _ _ _ _ { s with heap := s.heap.update z (Obj.mapFields fun fs => fs.extract 0 4 ++ (nums ([1, 3, 2, 0] ++ [3, 1, 1, 1])).toArray) }
    generalize s.heap.update z (Obj.mapFields fun fs => fs.extract 0 4 ++ (nums ([1, 3, 2, 0] ++ [3, 1, 1, 1])).toArray) = h1 at *
    refine wpAny_bind (wpAny_newTuple (items := [1, 3, 2, 0].map fun i => items.getD i .none) ?_ (by rw [sizeLine_eq]; simp))
    exact rest1 (s := s) hzl hz1 hs1 hQ
  · have hz1 : IsPm (s.heap.update z (Obj.mapFields fun fs => fs.extract 0 4 ++ (nums ([2, 0, 1, 3] ++ [2, 3, 2, 1])).toArray)) z T 1 4 prev ([2, 0, 1, 3] ++ [2, 3, 2, 1]) := by
      refine (Heap.get?_update_self _ hz rfl).trans ?_
      simp [Obj.mapFields, nums]
    have hs1 : Heap.SameBut z s.heap (s.heap.update z (Obj.mapFields fun fs => fs.extract 0 4 ++ (nums ([2, 0, 1, 3] ++ [2, 3, 2, 1])).toArray)) := Heap.SameBut.update ..
    refine wpAny_bind ?_
    unfold Builtin.Itertools.itSetNumbersFrom
    refine wpAny_updateFields hz rfl ?_ (by rw [sizeLine_eq]; simp [nums])
    show wpAny _ _ _ _ _ { s with heap := s.heap.update z (Obj.mapFields fun fs => fs.extract 0 4 ++ (nums ([2, 0, 1, 3] ++ [2, 3, 2, 1])).toArray) }
    generalize s.heap.update z (Obj.mapFields fun fs => fs.extract 0 4 ++ (nums ([2, 0, 1, 3] ++ [2, 3, 2, 1])).toArray) = h1 at *
    refine wpAny_bind (wpAny_newTuple (items := [2, 0, 1, 3].map fun i => items.getD i .none) ?_ (by rw [sizeLine_eq]; simp))
    exact rest1 (s := s) hzl hz1 hs1 hQ
  · have hz1 : IsPm (s.heap.update z (Obj.mapFields fun fs => fs.extract 0 4 ++ (nums ([2, 0, 3, 1] ++ [2, 3, 1, 1])).toArray)) z T 1 4 prev ([2, 0, 3, 1] ++ [2, 3, 1, 1]) := by
      refine (Heap.get?_update_self _ hz rfl).trans ?_
      simp [Obj.mapFields, nums]
    have hs1 : Heap.SameBut z s.heap (s.heap.update z (Obj.mapFields fun fs => fs.extract 0 4 ++ (nums ([2, 0, 3, 1] ++ [2, 3, 1, 1])).toArray)) := Heap.SameBut.update ..
    refine wpAny_bind ?_
    unfold Builtin.Itertools.itSetNumbersFrom
    refine wpAny_updateFields hz rfl ?_ (by rw [sizeLine_eq]; simp [nums])
    show wpAny _ _ _ _ _ { s with heap := s.heap.update z (Obj.mapFields fun fs => fs.extract 0 4 ++ (nums ([2, 0, 3, 1] ++ [2, 3, 1, 1])).toArray) }
    generalize s.heap.update z (Obj.mapFields fun fs => fs.extract 0 4 ++ (nums ([2, 0, 3, 1] ++ [2, 3, 1, 1])).toArray) = h1 at *
    refine wpAny_bind (wpAny_newTuple (items := [2, 0, 3, 1].map fun i => items.getD i .none) ?_ (by rw [sizeLine_eq]; simp))
    exact rest1 (s := s) hzl hz1 hs1 hQ
  · have hz1 : IsPm (s.heap.update z (Obj.mapFields fun fs => fs.extract 0 4 ++ (nums ([2, 1, 0, 3] ++ [2, 2, 2, 1])).toArray)) z T 1 4 prev ([2, 1, 0, 3] ++ [2, 2, 2, 1]) := by
      refine (Heap.get?_update_self _ hz rfl).trans ?_
      simp [Obj.mapFields, nums]
    have hs1 : Heap.SameBut z s.heap (s.heap.update z (Obj.mapFields fun fs => fs.extract 0 4 ++ (nums ([2, 1, 0, 3] ++ [2, 2, 2, 1])).toArray)) := Heap.SameBut.update ..
    refine wpAny_bind ?_
    unfold Builtin.Itertools.itSetNumbersFrom
    refine wpAny_updateFields hz rfl ?_ (by rw [sizeLine_eq]; simp [nums])
    show wpAny _ _ _ _ _ { s with heap := s.heap.update z (Obj.mapFields fun fs => fs.extract 0 4 ++ (nums ([2, 1, 0, 3] ++ [2, 2, 2, 1])).toArray) }
    generalize s.heap.update z (Obj.mapFields fun fs => fs.extract 0 4 ++ (nums ([2, 1, 0, 3] ++ [2, 2, 2, 1])).toArray) = h1 at *
    refine wpAny_bind (wpAny_newTuple (items := [2, 1, 0, 3].map fun i => items.getD i .none) ?_ (by rw [sizeLine_eq]; simp))
    exact rest1 (s := s) hzl hz1 hs1 hQ
  · have hz1 : IsPm (s.heap.update z (Obj.mapFields fun fs => fs.extract 0 4 ++ (nums ([2, 1, 3, 0] ++ [2, 2, 1, 1])).toArray)) z T 1 4 prev ([2, 1, 3, 0] ++ [2, 2, 1, 1]) := by
      refine (Heap.get?_update_self _ hz rfl).trans ?_
      simp [Obj.mapFields, nums]
    have hs1 : Heap.SameBut z s.heap (s.heap.update z (Obj.mapFields fun fs => fs.extract 0 4 ++ (nums ([2, 1, 3, 0] ++ [2, 2, 1, 1])).toArray)) := Heap.SameBut.update ..
    refine wpAny_bind ?_
    unfold Builtin.Itertools.itSetNumbersFrom
    refine wpAny_updateFields hz rfl ?_ (by rw [sizeLine_eq]; simp [nums])
    show wpAny _ _ _ _ _ { s with heap := s.heap.update z (Obj.mapFields fun fs => fs.extract 0 4 ++ (nums ([2, 1, 3, 0] ++ [2, 2, 1, 1])).toArray) }
    generalize s.heap.update z (Obj.mapFields fun fs => fs.extract 0 4 ++ (nums ([2, 1, 3, 0] ++ [2, 2, 1, 1])).toArray) = h1 at *
    refine wpAny_bind (wpAny_newTuple (items := [2, 1, 3, 0].map fun i => items.getD i .none) ?_ (by rw [sizeLine_eq]; simp))
    exact rest1 (s := s) hzl hz1 hs1 hQ
  · have hz1 : IsPm (s.heap.update z (Obj.mapFields fun fs => fs.extract 0 4 ++ (nums ([2, 3, 0, 1] ++ [2, 1, 2, 1])).toArray)) z T 1 4 prev ([2, 3, 0, 1] ++ [2, 1, 2, 1]) := by
      refine (Heap.get?_update_self _ hz rfl).trans ?_
      simp [Obj.mapFields, nums]
    have hs1 : Heap.SameBut z s.heap (s.heap.update z (Obj.mapFields fun fs => fs.extract 0 4 ++ (nums ([2, 3, 0, 1] ++ [2, 1, 2, 1])).toArray)) := Heap.SameBut.update ..
    refine wpAny_bind ?_
    unfold Builtin.Itertools.itSetNumbersFrom
    refine wpAny_updateFields hz rfl ?_ (by rw [sizeLine_eq]; simp [nums])
    show wpAny _ _ _ _ _ { s with heap := s.heap.update z (Obj.mapFields fun fs => fs.extract 0 4 ++ (nums ([2, 3, 0, 1] ++ [2, 1, 2, 1])).toArray) }
    generalize s.heap.update z (Obj.mapFields fun fs => fs.extract 0 4 ++ (nums ([2, 3, 0, 1] ++ [2, 1, 2, 1])).toArray) = h1 at *
    refine wpAny_bind (wpAny_newTuple (items := [2, 3, 0, 1].map fun i => items.getD i .none) ?_ (by rw [sizeLine_eq]; simp))
    exact rest1 (s := s) hzl hz1 hs1 hQ
  · have hz1 : IsPm (s.heap.update z (Obj.mapFields fun fs => fs.extract 0 4 ++ (nums ([2, 3, 1, 0] ++ [2, 1, 1, 1])).toArray)) z T 1 4 prev ([2, 3, 1, 0] ++ [2, 1, 1, 1]) := by
      refine (Heap.get?_update_self _ hz rfl).trans ?_
      simp [Obj.mapFields, nums]
    have hs1 : Heap.SameBut z s.heap (s.heap.update z (Obj.mapFields fun fs => fs.extract 0 4 ++ (nums ([2, 3, 1, 0] ++ [2, 1, 1, 1])).toArray)) := Heap.SameBut.update ..
    refine wpAny_bind ?_
    unfold Builtin.Itertools.itSetNumbersFrom
    refine wpAny_updateFields hz rfl ?_ (by rw [sizeLine_eq]; simp [nums])
    show wpAny _ _ _ _ _ { s with heap := s.heap.update z (Obj.mapFields fun fs => fs.extract 0 4 ++ (nums ([2, 3, 1, 0] ++ [2, 1, 1, 1])).toArray) }
    generalize s.heap.update z (Obj.mapFields fun fs => fs.extract 0 4 ++ (nums ([2, 3, 1, 0] ++ [2, 1, 1, 1])).toArray) = h1 at *
    refine wpAny_bind (wpAny_newTuple (items := [2, 3, 1, 0].map fun i => items.getD i .none) ?_ (by rw [sizeLine_eq]; simp))
    exact rest1 (s := s) hzl hz1 hs1 hQ
  · have hz1 : IsPm (s.heap.update z (Obj.mapFields fun fs => fs.extract 0 4 ++ (nums ([3, 0, 1, 2] ++ [1, 3, 2, 1])).toArray)) z T 1 4 prev ([3, 0, 1, 2] ++ [1, 3, 2, 1]) := by
      refine (Heap.get?_update_self _ hz rfl).trans ?_
      simp [Obj.mapFields, nums]
    have hs1 : Heap.SameBut z s.heap (s.heap.update z (Obj.mapFields fun fs => fs.extract 0 4 ++ (nums ([3, 0, 1, 2] ++ [1, 3, 2, 1])).toArray)) := Heap.SameBut.update ..
    refine wpAny_bind ?_
    unfold Builtin.Itertools.itSetNumbersFrom
    refine wpAny_updateFields hz rfl ?_ (by rw [sizeLine_eq]; simp [nums])
    show wpAny _ _ _ _ _ { s with heap := s.heap.update z (Obj.mapFields fun fs => fs.extract 0 4 ++ (nums ([3, 0, 1, 2] ++ [1, 3, 2, 1])).toArray) }
    generalize s.heap.update z (Obj.mapFields fun fs => fs.extract 0 4 ++ (nums ([3, 0, 1, 2] ++ [1, 3, 2, 1])).toArray) = h1 at *
    refine wpAny_bind (wpAny_newTuple (items := [3, 0, 1, 2].map fun i => items.getD i .none) ?_ (by rw [sizeLine_eq]; simp))
    exact rest1 (s := s) hzl hz1 hs1 hQ
  · have hz1 : IsPm (s.heap.update z (Obj.mapFields fun fs => fs.extract 0 4 ++ (nums ([3, 0, 2, 1] ++ [1, 3, 1, 1])).toArray)) z T 1 4 prev ([3, 0, 2, 1] ++ [1, 3, 1, 1]) := by
      refine (Heap.get?_update_self _ hz rfl).trans ?_
      simp [Obj.mapFields, nums]
    have hs1 : Heap.SameBut z s.heap (s.heap.update z (Obj.mapFields fun fs => fs.extract 0 4 ++ (nums ([3, 0, 2, 1] ++ [1, 3, 1, 1])).toArray)) := Heap.SameBut.update ..
    refine wpAny_bind ?_
    unfold Builtin.Itertools.itSetNumbersFrom
    refine wpAny_updateFields hz rfl ?_ (by rw [sizeLine_eq]; simp [nums])
    show wpAny _ _ _ _ _ { s with heap := s.heap.update z (Obj.mapFields fun fs => fs.extract 0 4 ++ (nums ([3, 0, 2, 1] ++ [1, 3, 1, 1])).toArray) }
    generalize s.heap.update z (Obj.mapFields fun fs => fs.extract 0 4 ++ (nums ([3, 0, 2, 1] ++ [1, 3, 1, 1])).toArray) = h1 at *
    refine wpAny_bind (wpAny_newTuple (items := [3, 0, 2, 1].map fun i => items.getD i .none) ?_ (by rw [sizeLine_eq]; simp))
    exact rest1 (s := s) hzl hz1 hs1 hQ
  · have hz1 : IsPm (s.heap.update z (Obj.mapFields fun fs => fs.extract 0 4 ++ (nums ([3, 1, 0, 2] ++ [1, 2, 2, 1])).toArray)) z T 1 4 prev ([3, 1, 0, 2] ++ [1, 2, 2, 1]) := by
      refine (Heap.get?_update_self _ hz rfl).trans ?_
      simp [Obj.mapFields, nums]
    have hs1 : Heap.SameBut z s.heap (s.heap.update z (Obj.mapFields fun fs => fs.extract 0 4 ++ (nums ([3, 1, 0, 2] ++ [1, 2, 2, 1])).toArray)) := Heap.SameBut.update ..
    refine wpAny_bind ?_
    unfold Builtin.Itertools.itSetNumbersFrom
    refine wpAny_updateFields hz rfl ?_ (by rw [sizeLine_eq]; simp [nums])
    show wpAny _ _ _ _ _ { s with heap := s.heap.update z (Obj.mapFields fun fs => fs.extract 0 4 ++ (nums ([3, 1, 0, 2] ++ [1, 2, 2, 1])).toArray) }
    generalize s.heap.update z (Obj.mapFields fun fs => fs.extract 0 4 ++ (nums ([3, 1, 0, 2] ++ [1, 2, 2, 1])).toArray) = h1 at *
    refine wpAny_bind (wpAny_newTuple (items := [3, 1, 0, 2].map fun i => items.getD i .none) ?_ (by rw [sizeLine_eq]; simp))
    exact rest1 (s := s) hzl hz1 hs1 hQ
  · have hz1 : IsPm (s.heap.update z (Obj.mapFields fun fs => fs.extract 0 4 ++ (nums ([3, 1, 2, 0] ++ [1, 2, 1, 1])).toArray)) z T 1 4 prev ([3, 1, 2, 0] ++ [1, 2, 1, 1]) := by
      refine (Heap.get?_update_self _ hz rfl).trans ?_
      simp [Obj.mapFields, nums]
    have hs1 : Heap.SameBut z s.heap (s.heap.update z (Obj.mapFields fun fs => fs.extract 0 4 ++ (nums ([3, 1, 2, 0] ++ [1, 2, 1, 1])).toArray)) := Heap.SameBut.update ..
    refine wpAny_bind ?_
    unfold Builtin.Itertools.itSetNumbersFrom
    refine wpAny_updateFields hz rfl ?_ (by rw [sizeLine_eq]; simp [nums])
    show wpAny _ _ _ _ _ { s with heap := s.heap.update z (Obj.mapFields fun fs => fs.extract 0 4 ++ (nums ([3, 1, 2, 0] ++ [1, 2, 1, 1])).toArray) }
    generalize s.heap.update z (Obj.mapFields fun fs => fs.extract 0 4 ++ (nums ([3, 1, 2, 0] ++ [1, 2, 1, 1])).toArray) = h1 at *
    refine wpAny_bind (wpAny_newTuple (items := [3, 1, 2, 0].map fun i => items.getD i .none) ?_ (by rw [sizeLine_eq]; simp))
    exact rest1 (s := s) hzl hz1 hs1 hQ
  · have hz1 : IsPm (s.heap.update z (Obj.mapFields fun fs => fs.extract 0 4 ++ (nums ([3, 2, 0, 1] ++ [1, 1, 2, 1])).toArray)) z T 1 4 prev ([3, 2, 0, 1] ++ [1, 1, 2, 1]) := by
      refine (Heap.get?_update_self _ hz rfl).trans ?_
      simp [Obj.mapFields, nums]
    have hs1 : Heap.SameBut z s.heap (s.heap.update z (Obj.mapFields fun fs => fs.extract 0 4 ++ (nums ([3, 2, 0, 1] ++ [1, 1, 2, 1])).toArray)) := Heap.SameBut.update ..
    refine wpAny_bind ?_
    unfold Builtin.Itertools.itSetNumbersFrom
    refine wpAny_updateFields hz rfl ?_ (by rw [sizeLine_eq]; simp [nums])
    show wpAny _ _ _ _ _ { s with heap := s.heap.update z (Obj.mapFields fun fs => fs.extract 0 4 ++ (nums ([3, 2, 0, 1] ++ [1, 1, 2, 1])).toArray) }
    generalize s.heap.update z (Obj.mapFields fun fs => fs.extract 0 4 ++ (nums ([3, 2, 0, 1] ++ [1, 1, 2, 1])).toArray) = h1 at *
    refine wpAny_bind (wpAny_newTuple (items := [3, 2, 0, 1].map fun i => items.getD i .none) ?_ (by rw [sizeLine_eq]; simp))
    exact rest1 (s := s) hzl hz1 hs1 hQ
  · have hz1 : IsPm (s.heap.update z (Obj.mapFields fun fs => fs.extract 0 4 ++ (nums ([3, 2, 1, 0] ++ [1, 1, 1, 1])).toArray)) z T 1 4 prev ([3, 2, 1, 0] ++ [1, 1, 1, 1]) := by
      refine (Heap.get?_update_self _ hz rfl).trans ?_
      simp [Obj.mapFields, nums]
    have hs1 : Heap.SameBut z s.heap (s.heap.update z (Obj.mapFields fun fs => fs.extract 0 4 ++ (nums ([3, 2, 1, 0] ++ [1, 1, 1, 1])).toArray)) := Heap.SameBut.update ..
    refine wpAny_bind ?_
    unfold Builtin.Itertools.itSetNumbersFrom
    refine wpAny_updateFields hz rfl ?_ (by rw [sizeLine_eq]; simp [nums])
    show wpAny _ _ _ _ _ { s with heap := s.heap.update z (Obj.mapFields fun fs => fs.extract 0 4 ++ (nums ([3, 2, 1, 0] ++ [1, 1, 1, 1])).toArray) }
    generalize s.heap.update z (Obj.mapFields fun fs => fs.extract 0 4 ++ (nums ([3, 2, 1, 0] ++ [1, 1, 1, 1])).toArray) = h1 at *
    refine wpAny_bind (wpAny_newTuple (items := [3, 2, 1, 0].map fun i => items.getD i .none) ?_ (by rw [sizeLine_eq]; simp))
    exact rest1 (s := s) hzl hz1 hs1 hQ
end
def lasts : List (Nat × List Nat × List Nat) := [(0, [], []), (1, [0], [1]), (2, [1, 0], [1, 1]), (3, [2, 1, 0], [1, 1, 1]), (4, [3, 2, 1, 0], [1, 1, 1, 1])]
section
variable {prog : Program} {w : World} {A : Around} {E : Value → Shared → Prop} {s : Shared}
theorem nextE {z T : Addr} {items : Array Value} {n : Nat} {prev : Value} {idx cyc : List Nat} {Q : Option Value → Shared → Prop} (hh : A.handled = none) (hr : (n, idx, cyc) ∈ lasts) (hz : IsPm s.heap z T 1 n prev (idx ++ cyc)) (hT : s.heap.IsTuple T items) (hi : items.size = n)
    (hQ : ∀ h', Heap.ExtBut z s.heap h' → Q none { s with heap := h' }) : wpAny (model prog w) A (pyNext (.ref z)) Q E s := by
  have hty : s.TypeIs (.ref z) "itertools.permutations" := ⟨_, hz, rfl⟩
  have hzl : z < s.heap.objs.size := Heap.lt_size hz
  unfold pyNext
  refine wpAny_bind (wpAny_attempt (wpAny_callSpecial?_slot (name := Str.ofString "__next__") hty slot_p_next
    (wpAny_call_entry slot_p_next hty entry_p_next ?_ (args_p_next _))))
  unfold Builtin.«itertools.permutations.__next__»
  refine wpAny_bind (wpAny_of_eq (a := (Value.ref z, [])) rfl ?_)
  try dsimp only
  refine wpAny_bind (wpAny_field hz rfl (x := .ref T) rfl ?_)
  try dsimp only
  obtain ⟨⟨oc, od, odt, osl⟩, ho, hc, n0, hd⟩ := id hT
  refine wpAny_bind ?_
  unfold Builtin.Itertools.itPoolItems
  refine wpAny_bind (wpAny_seqItems ho hd (wpAny_pure ?_))
  unfold Builtin.Itertools.itIntField Builtin.Itertools.itNumbersFrom
  refine wpAny_bind (wpAny_bind (wpAny_field hz rfl (x := rawInt (n : Int)) rfl (wpAny_pure ?_)))
  refine wpAny_bind (wpAny_bind (wpAny_load hz (wpAny_pure ?_)))
  refine wpAny_bind (wpAny_bind (wpAny_field hz rfl (x := rawInt 1) rfl (wpAny_pure ?_)))
  try dsimp only
  rw [show List.drop 4 ([Value.ref T, rawInt ((1 : Nat) : Int), rawInt (n : Int), prev] ++ nums (idx ++ cyc)) = nums (idx ++ cyc) from rfl, nums_back (fun i => by show (i : Int).toNat = i; omega), hi]
  simp only [lasts, List.mem_cons, List.not_mem_nil, or_false, Prod.mk.injEq] at hr
  rcases hr with ⟨rfl, rfl, rfl⟩ | ⟨rfl, rfl, rfl⟩ | ⟨rfl, rfl, rfl⟩ | ⟨rfl, rfl, rfl⟩ | ⟨rfl, rfl, rfl⟩
  all_goals
    refine wpAny_bind (wpAny_setField_rec hz (by rw [List.size_toArray, List.length_append]; show 1 < 4 + _; omega) fun h1 hz1 hs1 => ?_)
    show wpAny _ _ (newExc (.type "StopIteration") [] >>= _) _ _ _
    refine wpAny_bind ?_
    simp only [newExc, newTuple]
    refine wpAny_bind (wpAny_newObj_type ?_ (by size_fits))
    refine wpAny_bind (m := firstArgMember _ _) (wpAny_of_eq (a := Value.none) (by first | rfl | (simp only [firstArgMember]; rfl)) ?_)
    refine wpAny_newObj_type ?_ (by size_fits)
    simp only [raiseNew]
    refine wpAny_bind (wpAny_handled ?_)
    first | rw [show A.in1.handled = none from hh] | rw [hh]
    refine wpAny_bind (wpAny_pure (wpAny_throw ?_))
    refine wpAny_bind (wpAny_isInstance (T := "StopIteration") (b := true) ⟨_, Heap.get?_push_size _ rfl, rfl⟩ isSubtype_stop ?_)
    refine wpAny_pure (hQ _ ?_)
    exact ((hs1.extBut).push _).push _
theorem iter_p {z T : Addr} {st n : Nat} {prev : Value} {ic : List Nat} {Q : Value → Shared → Prop} (hz : IsPm s.heap z T st n prev ic) (h : Q (.ref z) s) : wpAny (model prog w) A (pyIter (.ref z)) Q E s := by
  have hty : s.TypeIs (.ref z) "itertools.permutations" := ⟨_, hz, rfl⟩
  refine wpAny_pyIter_slot hty slot_p_iter (wpAny_call_entry slot_p_iter hty entry_p_iter ?_ (args_p_iter _))
  show wpAny _ _ (ret (.ref z)) _ _ s
  exact wpAny_pure ⟨_, rfl, "itertools.permutations", _, hty, slot_p_next.lookup, h⟩
end
end VPm

/-! permutations(list), a loop over them. -/
namespace VPm
open PySem PySem.Spec PyProof.Rows
theorem plain_p_new : plainId "itertools.permutations.__new__" = true := by decide +kernel
theorem sub_p : isSubtype (.type "itertools.permutations") (.type "itertools.permutations") = pure true := by rw [isSubtype_type]; kernel_rfl
def pmObj (T n : Nat) : Obj := { cls := .type "itertools.permutations", data := .fields (([.ref T, rawInt ((0 : Nat) : Int), rawInt (n : Int), .none] ++ nums (List.range n ++ (List.range n).map fun i => n - i)).toArray) }
section
variable {prog : Program} {w : World} {A : Around} {E : Value → Shared → Prop} {s : Shared}
theorem code_p {l : Addr} {vs : List Value} {Q₁ : Value → Shared → Prop} (hl : s.heap.IsList l vs.toArray) (hn : vs.length ≤ 4)
    (h : ∀ h1 : Heap, h1.objs.size = s.heap.objs.size + 1 → (∀ c o, s.heap.get? c = some o → h1.get? c = some o) →
      Q₁ (.ref (h1.objs.size + 1)) { s with heap := (h1.push { cls := .type "tuple", data := .seq vs.toArray }).push (pmObj h1.objs.size vs.length) }) :
    codeAny (model prog w) A (.call (.builtin "itertools.permutations.__new__") ⟨[.type "itertools.permutations", .ref l], []⟩) (wants Q₁ E) s := by
  refine codeAny_of_tree ?_
  show wpAny _ A.in1 (do checkBuiltinCall "itertools.permutations.__new__" ⟨[.type "itertools.permutations", .ref l], []⟩; again (.builtin "itertools.permutations.__new__" ⟨[.type "itertools.permutations", .ref l], []⟩)) _ _ s
  refine wpAny_bind (wpAny_of_eq (newCall_p _) (wpAny_pure ⟨plainId_quiet plain_p_new _, codeAny_builtin entry_p_new ?_⟩))
  rw [Around.under_plainId plain_p_new _]
  unfold Builtin.«itertools.permutations.__new__»
  refine wpAny_bind (wpAny_of_eq (a := (Value.type "itertools.permutations", [Value.ref l])) (by first | rfl | kernel_rfl) ?_)
  try dsimp only
  refine wpAny_bind (wpAny_of_eq (a := [some (Value.ref l), none]) (by first | rfl | kernel_rfl) ?_)
  try dsimp only
  refine wpAny_bind (collect_list hl ?_ (by rw [sizeLine_eq]; omega))
  refine wpAny_bind (wpAny_pure ?_)
  rw [if_neg (by omega)]
  rw [if_neg (by unfold Builtin.Itertools.itTooMany; simp; omega)]
  refine wpAny_bind (wpAny_newTuple ?_ (by rw [sizeLine_eq]; omega))
  refine wpAny_bind ?_
  unfold Builtin.Itertools.itNewRecord
  rw [if_pos (by decide +kernel)]
  generalize eh : (s.heap.push (seqObj "list" #[] 0)).update s.heap.objs.size (Obj.mapSeq fun x => x ++ vs.toArray) = h1
  have k1 : ∀ c o, s.heap.get? c = some o → h1.get? c = some o := fun c o e => by
    rw [← eh]
    exact (Heap.get?_update_other _ _ (Nat.ne_of_gt (Heap.lt_size e))).trans (Heap.get?_push_of_some _ e)
  have z1 : h1.objs.size = s.heap.objs.size + 1 := by rw [← eh, Heap.size_update, Heap.size_push]
  clear eh
  have eL : ([Value.ref h1.objs.size, rawInt (if (vs.length : Int).toNat > vs.length then 2 else 0), rawInt ((vs.length : Int).toNat : Int), Value.none] ++ List.map (fun (i : Nat) => rawInt (i : Int)) (List.range vs.length) ++ List.map (fun (i : Nat) => rawInt ((vs.length : Int) - (i : Int))) (List.range (vs.length : Int).toNat)) =
      [.ref h1.objs.size, rawInt ((0 : Nat) : Int), rawInt (vs.length : Int), .none] ++ nums (List.range vs.length ++ (List.range vs.length).map fun i => vs.length - i) := by
    rw [Int.toNat_natCast, if_neg (Nat.lt_irrefl _), List.append_assoc]
    refine congrArg ([Value.ref h1.objs.size, rawInt ((0 : Nat) : Int), rawInt (vs.length : Int), Value.none] ++ ·) ?_
    unfold nums
    rw [List.map_append, List.map_map]
    refine congrArg (List.map (fun (i : Nat) => rawInt (i : Int)) (List.range vs.length) ++ ·) (List.map_congr_left fun i hi => ?_)
    have : i < vs.length := List.mem_range.mp hi
    show rawInt ((vs.length : Int) - (i : Int)) = rawInt ((vs.length - i : Nat) : Int)
    rw [Int.ofNat_sub (Nat.le_of_lt this)]
  show wpAny _ _ (newObj (Value.type "itertools.permutations") (Data.fields (List.toArray ([Value.ref h1.objs.size, rawInt (if (vs.length : Int).toNat > vs.length then 2 else 0), rawInt ((vs.length : Int).toNat : Int), Value.none] ++ List.map (fun (i : Nat) => rawInt (i : Int)) (List.range vs.length) ++ List.map (fun (i : Nat) => rawInt ((vs.length : Int) - (i : Int))) (List.range (vs.length : Int).toNat))))) _ _ _
  rw [eL]
  refine wpAny_newObj_type ?_ (by show (List.toArray _).size ≤ sizeLine + 2; rw [sizeLine_eq, List.size_toArray, List.length_append, nums, List.length_map, List.length_append, List.length_map, List.length_range]; show 4 + _ ≤ _; omega)
  refine wpAny_pure ?_
  have := h h1 z1 k1
  show Q₁ (.ref (h1.push _).objs.size) _
  rw [Heap.size_push]
  exact this
theorem call_p {l : Addr} {vs : List Value} {Q : Value → Shared → Prop} (hl : s.heap.IsList l vs.toArray) (hn : vs.length ≤ 4)
    (h : ∀ (h' : Heap) (z T : Addr), IsPm h' z T 0 vs.length .none (List.range vs.length ++ (List.range vs.length).map fun i => vs.length - i) → h'.get? T = some { cls := .type "tuple", data := .seq vs.toArray } → s.heap.objs.size ≤ T → s.heap.objs.size ≤ z → T ≠ z →
      (∀ c o, s.heap.get? c = some o → h'.get? c = some o) → Q (.ref z) { s with heap := h' }) :
    wpAny (model prog w) A (call (.type "itertools.permutations") [.ref l]) Q E s := by
  refine callType_codes (Q₁ := fun obj s₁ => s₁.TypeIs obj "itertools.permutations" ∧ Q obj s₁) called_p (typeCall_p _) F.entry_object_init
    (code_p (A := A.in1) hl hn fun h1 z1 k1 => ?_) fun obj s₁ h₁ => ?_
  · have hz : ((h1.push { cls := .type "tuple", data := .seq vs.toArray }).push (pmObj h1.objs.size vs.length)).get? (h1.objs.size + 1) = some (pmObj h1.objs.size vs.length) := by
      have := Heap.get?_push_size (h1.push { cls := .type "tuple", data := .seq vs.toArray }) (o := pmObj h1.objs.size vs.length) rfl
      rw [Heap.size_push] at this
      exact this
    refine ⟨⟨_, hz, rfl⟩, h _ (h1.objs.size + 1) h1.objs.size hz (Heap.get?_push_of_some _ (Heap.get?_push_size _ rfl)) ?_ ?_ ?_ fun c o e => Heap.get?_push_of_some _ (Heap.get?_push_of_some _ (k1 c o e))⟩
    · rw [z1]; exact Nat.le_succ _
    · rw [z1]; exact Nat.le_trans (Nat.le_succ _) (Nat.le_succ _)
    · exact Nat.ne_of_lt (Nat.lt_succ_self _)
  · exact ⟨h₁.1, F.args_object_init_2 obj _, object_init_meets called_p.init.lookup called_p.made (by decide) prog w A.in1 _ s₁ ⟨h₁.1, rfl, h₁.2⟩⟩
end
open L2
/-- the orders of n places, each with its cycles -/
def ords : Nat → List (List Nat × List Nat)
  | 0 => [([], [])]
  | 1 => [([0], [1])]
  | 2 => [([0, 1], [2, 1]), ([1, 0], [1, 1])]
  | 3 => ([0, 1, 2], [3, 2, 1]) :: (steps.filter (·.1 == 3)).map (·.2.2.2)
  | 4 => ([0, 1, 2, 3], [4, 3, 2, 1]) :: (steps.filter (·.1 == 4)).map (·.2.2.2)
  | _ => []
theorem ords_first (n : Nat) (h : n ≤ 4) : (ords n)[0]? = some (List.range n, (List.range n).map fun i => n - i) := by
  have : n = 0 ∨ n = 1 ∨ n = 2 ∨ n = 3 ∨ n = 4 := by omega
  rcases this with rfl | rfl | rfl | rfl | rfl <;> decide
theorem ords_le (n : Nat) (h : n ≤ 4) : (ords n).length ≤ 24 := by
  have : n = 0 ∨ n = 1 ∨ n = 2 ∨ n = 3 ∨ n = 4 := by omega
  rcases this with rfl | rfl | rfl | rfl | rfl <;> decide +kernel
theorem ords_step (n : Nat) (h : n ≤ 4) : ∀ i a b, (ords n)[i]? = some a → (ords n)[i + 1]? = some b → (n, a.1, a.2, b.1, b.2) ∈ steps := by
  have key : ((List.range 5).all fun n => (List.range 24).all fun i => match (ords n)[i]?, (ords n)[i + 1]? with
      | some a, some b => decide ((n, a.1, a.2, b.1, b.2) ∈ steps)
      | _, _ => true) = true := by decide +kernel
  intro i a b ea eb
  have l := ords_le n h
  have := (List.getElem?_eq_some_iff.mp ea).1
  have key := List.all_eq_true.mp (List.all_eq_true.mp key n (List.mem_range.mpr (by omega))) i (List.mem_range.mpr (by omega))
  rw [ea, eb] at key
  exact of_decide_eq_true key
theorem ords_last (n : Nat) (h : n ≤ 4) : ∀ i a, (ords n)[i]? = some a → i + 1 = (ords n).length → (n, a.1, a.2) ∈ lasts := by
  have key : ((List.range 5).all fun n => match (ords n)[(ords n).length - 1]? with
      | some a => decide ((n, a.1, a.2) ∈ lasts)
      | _ => true) = true := by decide +kernel
  intro i a ea e
  have key := List.all_eq_true.mp key n (List.mem_range.mpr (by omega))
  rw [show (ords n).length - 1 = i by omega, ea] at key
  exact of_decide_eq_true key
theorem ord_lt (n : Nat) (h : n ≤ 4) (i : Nat) (a : List Nat × List Nat) (ea : (ords n)[i]? = some a) : a.1.length = n ∧ ∀ k ∈ a.1, k < n := by
  have key : ((List.range 5).all fun n => (ords n).all fun a => decide (a.1.length = n) && a.1.all fun k => decide (k < n)) = true := by decide +kernel
  have key := List.all_eq_true.mp (List.all_eq_true.mp key n (List.mem_range.mpr (by omega))) a (List.mem_of_getElem? ea)
  rw [Bool.and_eq_true] at key
  exact ⟨of_decide_eq_true key.1, fun k hk => of_decide_eq_true (List.all_eq_true.mp key.2 k hk)⟩
/-- each order of vs, in a new tuple -/
def ItPm (vs : List V) : It :=
  ⟨fun i _ => i < (ords vs.length).length,
    fun i H v H' => ∃ T o, v = .ref T ∧ H T = none ∧ (ords vs.length)[i]? = some o ∧ H' = upd H T (.tup (o.1.map fun k => vs.getD k .non)),
    fun i _ => (ords vs.length).length ≤ i⟩
theorem vals_pick {vs : List V} {us : List Value} (r : Vals vs us) : ∀ {l : List Nat}, (∀ k ∈ l, k < vs.length) → Vals (l.map fun k => vs.getD k .non) (l.map fun k => us.toArray.getD k .none)
  | [], _ => .nil
  | k :: l, h => by
    have hk : k < vs.length := h k (List.mem_cons_self ..)
    obtain ⟨u, hu, ru⟩ := r.get (List.getElem?_eq_getElem hk)
    refine .cons ?_ (vals_pick r fun j hj => h j (List.mem_cons_of_mem _ hj))
    show RelV (vs.getD k .non) (us.toArray.getD k .none)
    rw [List.getD_eq_getElem?_getD, List.getElem?_eq_getElem hk, Array.getD_eq_getD_getElem?, List.getElem?_toArray, hu]
    exact ru
def StPm (z T : Addr) (us : List Value) (i : Nat) (h : Heap) : Prop :=
  h.get? T = some { cls := .type "tuple", data := .seq us.toArray } ∧
    ((i = 0 ∧ IsPm h z T 0 us.length .none (List.range us.length ++ (List.range us.length).map fun i => us.length - i)) ∨
      ∃ j o prev, i = j + 1 ∧ (ords us.length)[j]? = some o ∧ IsPm h z T 1 us.length prev (o.1 ++ o.2))
theorem turn_pm {P : Program} {w : World} {K : PySem.W.Frag} {x : Str} {pos : Pos} {z T : Addr} {vs : List V} {us : List Value} (r : Vals vs us) (hn : vs.length ≤ 4) (hne : T ≠ z) :
    Turn P w K (.Name x pos) (ItPm vs) [z, T] z (StPm z T us) where
  mem := by simp
  obj := fun i h st c hc => by
    obtain ⟨hT, st⟩ := st
    have e' : c = z ∨ c = T := by simpa using hc
    rcases e' with q | q
    · rw [q]
      rcases st with ⟨_, hz⟩ | ⟨_, _, _, _, _, hz⟩
      · exact ⟨_, hz, fun v q => nomatch q⟩
      · exact ⟨_, hz, fun v q => nomatch q⟩
    · rw [q]; exact ⟨_, hT, fun v q => nomatch q⟩
  keep := fun i h h' st k => by
    obtain ⟨hT, st⟩ := st
    refine ⟨k T (by simp) _ hT, ?_⟩
    rcases st with ⟨e, hz⟩ | ⟨j, o, prev, e, eo, hz⟩
    · exact .inl ⟨e, k z (by simp) _ hz⟩
    · exact .inr ⟨j, o, prev, e, eo, k z (by simp) _ hz⟩
  item := by
    intro X hP hw hK hc i pins s σ H E I hf st hg
    subst hP hw hK
    have el : us.length = vs.length := r.length.symm
    obtain ⟨hT, st⟩ := st
    have hlt : i < (ords vs.length).length := hg
    have eo : (ords vs.length)[i]? = some (ords vs.length)[i] := List.getElem?_eq_getElem hlt
    generalize (ords vs.length)[i] = o at eo
    have isT : s.heap.IsTuple T us.toArray := ⟨_, hT, rfl, _, rfl⟩
    have fin : ∀ h', IsPm h' z T 1 us.length (.ref s.heap.objs.size) (o.1 ++ o.2) → h'.get? s.heap.objs.size = some { cls := .type "tuple", data := .seq ((o.1.map fun i => us.toArray.getD i .none).toArray) } → h'.objs.size = s.heap.objs.size + 1 →
        (∀ c ob, c ≠ z → s.heap.get? c = some ob → h'.get? c = some ob) →
        ∃ u, some (Value.ref s.heap.objs.size) = some u ∧ wpAny (model X.prog X.w) X.A (letOwnedTupleGo (.Name x pos) (.ref z) u) (fun _ s2 => ∃ x H', Inv X pins σ H' s2 ∧ RelV x u ∧ (ItPm vs).yld i H x H' ∧ StPm z T us (i + 1) s2.heap ∧ ∀ b ∈ [z, T], H' b = none) E { s with heap := h' } := by
      intro h' hz' hN hs' hk
      refine ⟨_, rfl, go_of (s := { s with heap := h' }) (n := "itertools.permutations") hz' rfl rfl (by decide) ?_⟩
      obtain ⟨hll, hlo⟩ := ord_lt _ hn _ _ eo
      have new : ObjOk X.prog X.w (upd H s.heap.objs.size (.tup (o.1.map fun k => vs.getD k .non))) h' s.heap.objs.size (.tup (o.1.map fun k => vs.getD k .non)) := by
        refine ⟨?_, (o.1.map fun i => us.toArray.getD i .none), vals_pick r hlo, ⟨_, hN, rfl, _, rfl⟩⟩
        show (o.1.map fun k => vs.getD k .non).length ≤ sizeLine
        rw [List.length_map, hll, sizeLine_eq]; omega
      have I1 : Inv X pins σ (upd H s.heap.objs.size (.tup (o.1.map fun k => vs.getD k .non))) { s with heap := h' } :=
        I.turnedNew (t' := s.toks) (ch := [z, T]) (fun c ob hb q => hk c ob (fun q' => hb (by simp [q'])) q) hf (Nat.le_refl _) new
      refine ⟨.ref s.heap.objs.size, _, I1, rfl, ⟨_, o, rfl, I.hok.fresh (Nat.le_refl _), eo, rfl⟩, ⟨hk T _ hne hT, .inr ⟨i, o, _, rfl, by rw [el]; exact eo, hz'⟩⟩, fun c hcm => ?_⟩
      rw [upd_ne (Nat.ne_of_lt ?_)]
      · exact (hf c hcm).1
      · have e' : c = z ∨ c = T := by simpa using hcm
        rcases e' with q | q
        · rw [q]
          rcases st with ⟨_, hz⟩ | ⟨_, _, _, _, _, hz⟩
          · exact Heap.lt_size hz
          · exact Heap.lt_size hz
        · rw [q]; exact Heap.lt_size hT
    rcases st with ⟨rfl, hz⟩ | ⟨j, o', prev, rfl, eo', hz⟩
    · have e0 := ords_first vs.length hn
      rw [eo] at e0
      cases e0
      refine next0 (idx := List.range us.length) (cyc := (List.range us.length).map fun i => us.length - i) hz isT (List.length_range) (by omega) hne fun h' a b c d => ?_
      rw [el] at b
      refine fin h' (by rw [el] at a ⊢; exact a) b c d
    · rw [el] at eo'
      refine next1 (idx' := o.1) (cyc' := o.2) (by rw [el]; exact ords_step _ hn _ _ _ eo' eo) hz isT (by simp) hne fun h' a b c d => fin h' a b c d
  done := by
    intro X hP hw hK hc i pins s σ H E I hf st hg
    subst hP hw hK
    have el : us.length = vs.length := r.length.symm
    obtain ⟨hT, st⟩ := st
    have hle : (ords vs.length).length ≤ i := hg
    have isT : s.heap.IsTuple T us.toArray := ⟨_, hT, rfl, _, rfl⟩
    have pos : 0 < (ords vs.length).length := by
      have := ords_first vs.length hn
      exact (List.getElem?_eq_some_iff.mp this).1
    rcases st with ⟨rfl, hz⟩ | ⟨j, o', prev, rfl, eo', hz⟩
    · omega
    · rw [el] at eo'
      have hj := (List.getElem?_eq_some_iff.mp eo').1
      refine nextE (I.ok.hd hc) (by rw [el]; exact ords_last _ hn _ _ eo' (by omega)) hz isT (by simp) fun h' hk => ⟨rfl, I.turnedL (t' := s.toks) (ch := [z, T]) (fun c ob hb q => hk c ob (fun q' => hb (by simp [q'])) q) hf⟩
  self := fun A i s Q E st h => by
    obtain ⟨hT, st⟩ := st
    rcases st with ⟨_, hz⟩ | ⟨_, _, _, _, _, hz⟩
    · exact iter_p hz h
    · exact iter_p hz h
def iPm (K : PySem.W.Frag) (ta : TA) : TI := fun σ H R => ta σ H fun vs H1 => ∃ a xs, vs = [.ref a] ∧ SqL K H1 a xs ∧ xs.length ≤ 4 ∧ R (ItPm xs) H1
theorem pi_pm {X : Cx} {e : Expr} {ta : TA} {p pos tpos : Pos} {x : Str} (hg : Gl X "permutations") (hm : X.mg "permutations" = some (.type "itertools.permutations")) (ha : PA X [e] ta)
    (hs : starEach [e] X.env = (false, eval e X.env) :: starEach [] X.env := by rfl) (hpl : (backTo pos (starEach [] X.env)).any (·.1) = false := by rfl) :
    PI X (.Name x tpos) (.Call (.Name "permutations" p) [e] [] pos) (iPm X.K ta) := by
  refine ⟨fun pins s σ H R I h => ?_⟩
  refine Call_ (ld_glob I hg hm (PyProof.Rows.callWith_type1 (thn (ha.run pos pins s σ H _ I h) fun us s1 ⟨vs, H1, I1, r1, q1⟩ => ?_) hs hpl))
  obtain ⟨a, xs, ex, hq, hl, q⟩ := q1
  subst ex
  cases r1 with
  | cons r rr =>
    cases rr
    cases r
    obtain ⟨its, rv, p1, _⟩ := I1.list hq
    have el : its.length = xs.length := rv.length.symm
    refine call_p p1.isList (by omega) fun h' z T hz hT hTl hzl hne hk => iter_p hz ?_
    have I2 : Inv X pins σ H1 { s1 with heap := h' } := I1.kept (t' := s1.toks) hk
    refine ⟨z, [z, T], _, _, H1, rfl, I2, turn_pm rv hl hne, ⟨hT, .inl ⟨rfl, hz⟩⟩, fun c hcm => ?_, q⟩
    have hle : s1.heap.objs.size ≤ c := by
      have e' : c = z ∨ c = T := by simpa using hcm
      rcases e' with y | y
      · rw [y]; exact hzl
      · rw [y]; exact hTl
    exact I1.fpOk hle (I1.hok.fresh hle)
/-- a loop over the permutations of a list -/
theorem for_pm {vs : List V} {g : TG} {tb : TS} {D : Ends} {σ : L2.St} {H : Hp} (Pv : Nat → L2.St → Hp → Prop) (h0 : Pv 0 σ H)
    (hs : ∀ (i : Nat) (o : List Nat × List Nat) (T : Addr) (σ : L2.St) (H : Hp), (ords vs.length)[i]? = some o → Pv i σ H → H T = none → g (.ref T) σ (upd H T (.tup (o.1.map fun k => vs.getD k .non))) fun σ2 H2 => tb { D with nx := Pv (i + 1), ct := Pv (i + 1), bk := D.nx } σ2 H2) (hd : ∀ σ H, Pv (ords vs.length).length σ H → D.nx σ H) :
    ∃ W : Nat → Nat → L2.St → Hp → Prop, (∃ m, W 0 m σ H) ∧ ∀ i m σ H, W i m σ H →
      ((ItPm vs).stop i H ∧ D.nx σ H) ∨ ((ItPm vs).go i H ∧ ∃ N : L2.St → Hp → Prop, (∀ σ' H', N σ' H' → ∃ m', m' < m ∧ W (i + 1) m' σ' H') ∧ ∀ v H', (ItPm vs).yld i H v H' → g v σ H' fun σ2 H2 => tb { D with nx := N, ct := N, bk := D.nx } σ2 H2) := by
  refine ⟨fun i m σ H => m = (ords vs.length).length - i ∧ i ≤ (ords vs.length).length ∧ Pv i σ H, ⟨(ords vs.length).length, rfl, Nat.zero_le _, h0⟩, ?_⟩
  rintro i m σ H ⟨rfl, hi, p⟩
  by_cases hlt : i < (ords vs.length).length
  · refine .inr ⟨hlt, Pv (i + 1), fun σ' H' p' => ⟨(ords vs.length).length - (i + 1), by omega, rfl, hlt, p'⟩, fun v H' y => ?_⟩
    obtain ⟨T, o, rfl, hT, eo, rfl⟩ := y
    exact hs i o T σ H eo p hT
  · have e : i = (ords vs.length).length := by omega
    subst e
    exact .inl ⟨Nat.le_refl _, hd σ H p⟩
end VPm

/-! list(zip(list, tuple)). -/
namespace VLz
open PySem PySem.Spec PyProof.Rows L2
theorem zip_no_len : typeLookup (.type "zip") "__len__" = pure none := by rw [typeLookup_type, builtinLookup_eq_fast]; kernel_rfl
theorem zip_no_hint : typeLookup (.type "zip") "__length_hint__" = pure none := by rw [typeLookup_type, builtinLookup_eq_fast]; kernel_rfl
section
variable {prog : Program} {w : World} {A : Around} {E : Value → Shared → Prop} {s : Shared}
theorem next_held {z TI TO T i1 i2 l1 l2 : Addr} {f : Bool} {oT : Obj} {k1 k2 : Nat} {xs ys : Array Value} {x y : Value} {Q : Option Value → Shared → Prop} (D : ZipApart z TI TO i1 i2 l1 l2)
    (hz : IsZipHeld s.heap z TI TO T f) (hT : s.heap.get? T = some oT) (hTI : IsPair s.heap TI (.ref i1) (.ref i2))
    (h1 : s.heap.IsListIter i1 l1 k1) (h2 : s.heap.IsTupleIter i2 l2 k2) (hl1 : s.heap.IsList l1 xs) (hl2 : s.heap.IsTuple l2 ys) (hx : xs[k1]? = some x) (hy : ys[k2]? = some y)
    (hQ : ∀ h', IsZipHeld h' z TI TO T true → h'.IsListIter i1 l1 (k1 + 1) → h'.IsTupleIter i2 l2 (k2 + 1) → IsPair h' s.heap.objs.size x y → h'.objs.size = s.heap.objs.size + 1 →
      (∀ c o, c ≠ z → c ≠ i1 → c ≠ i2 → s.heap.get? c = some o → h'.get? c = some o) → Q (some (.ref s.heap.objs.size)) { s with heap := h' }) :
    wpAny (model prog w) A (pyNext (.ref z)) Q E s := by
  have hTy : s.TypeIs (.ref z) "zip" := ⟨_, hz, rfl⟩
  unfold pyNext
  refine wpAny_bind (wpAny_attempt (wpAny_callSpecial?_slot (name := Str.ofString "__next__") hTy F.slot_zip_next
    (wpAny_call_entry F.slot_zip_next hTy F.entry_zip_next ?_ (F.args_zip_next_1 _))))
  show wpAny _ _ (field (.ref z) 2 >>= _) _ _ _
  refine wpAny_bind (wpAny_field hz rfl (x := .bool false) rfl ?_)
  show wpAny _ _ (field (.ref z) 3 >>= _) _ _ _
  refine wpAny_bind (wpAny_field hz rfl (x := .ref TI) rfl ?_)
  refine wpAny_bind (wpAny_seqItems hTI rfl ?_)
  show wpAny _ _ (Builtin.SmallTypes.ownedTupleIsFree (.ref z) >>= _) _ _ _
  refine wpAny_bind (wpAny_tupleHeld_zip hz hT fun h₁ hz₁ hs₁ => ?_)
  simp only [Bool.false_eq_true, if_false]
  refine wpAny_bind ?_
  rw [← Array.forIn_toList]
  simp only [List.forIn_cons, List.forIn_nil]
  refine wpAny_bind (wpAny_bind (wpAny_holding ?_))
  show wpAny _ _ (Builtin.SmallTypes.nextOf (.ref i1) >>= _) _ _ _
  refine wpAny_bind (wpAny_nextOf_list_item (s := { s with heap := h₁ }) (h1.extBut hs₁.extBut D.i1z) (hl1.extBut hs₁.extBut D.l1z) hx fun h₂ h1₂ hs₂ => wpAny_pure ?_)
  refine wpAny_pure ?_
  refine wpAny_bind (wpAny_bind (wpAny_holding ?_))
  show wpAny _ _ (Builtin.SmallTypes.nextOf (.ref i2) >>= _) _ _ _
  refine wpAny_bind (wpAny_nextOf_tuple_item (s := { s with heap := h₂ }) ((h2.extBut hs₁.extBut D.i2z).extBut hs₂.extBut D.i12.symm) ((hl2.extBut hs₁.extBut D.l2z).extBut hs₂.extBut D.l2i1) hy fun h₃ h2₃ hs₃ => wpAny_pure ?_)
  refine wpAny_pure (wpAny_pure ?_)
  show wpAny _ _ (newTuple [x, y] >>= _) _ _ _
  refine wpAny_bind (wpAny_newTuple ?_)
  have hsz : h₃.objs.size = s.heap.objs.size := by rw [hs₃.1, hs₂.1, hs₁.1]
  have hz₃ : IsZipHeld h₃ z TI TO T true := hs₃.extBut _ _ D.i2z.symm (hs₂.extBut _ _ D.i1z.symm hz₁)
  have hk : ∀ c o, c ≠ z → c ≠ i1 → c ≠ i2 → s.heap.get? c = some o → h₃.get? c = some o := fun c o c1 c2 c3 e => hs₃.extBut _ _ c3 (hs₂.extBut _ _ c2 (hs₁.extBut _ _ c1 e))
  have h1₃ : h₃.IsListIter i1 l1 (k1 + 1) := h1₂.extBut hs₃.extBut D.i12
  refine wpAny_pure ⟨_, rfl, wpAny_pure ?_⟩
  show Q (some (.ref h₃.objs.size)) _
  have hp : IsPair (h₃.push { cls := .type "tuple", data := .seq #[x, y] }) h₃.objs.size x y := Heap.get?_push_size _ rfl
  have hz4 : (h₃.push { cls := .type "tuple", data := .seq #[x, y] }).objs.size = h₃.objs.size + 1 := Heap.size_push ..
  rw [hsz] at hp hz4 ⊢
  exact hQ _ (Heap.get?_push_of_some _ hz₃) (h1₃.at fun o e => Heap.get?_push_of_some _ e) (h2₃.at fun o e => Heap.get?_push_of_some _ e) hp hz4 fun c o c1 c2 c3 e => Heap.get?_push_of_some _ (hk c o c1 c2 c3 e)
theorem end_held {z TI TO T i1 i2 l1 l2 : Addr} {f : Bool} {oT : Obj} {k1 : Nat} {xs : Array Value} {Q : Option Value → Shared → Prop} (hh : A.handled = none) (D : ZipApart z TI TO i1 i2 l1 l2)
    (hz : IsZipHeld s.heap z TI TO T f) (hT : s.heap.get? T = some oT) (hTI : IsPair s.heap TI (.ref i1) (.ref i2))
    (h1 : s.heap.IsListIter i1 l1 k1) (hl1 : s.heap.IsList l1 xs) (hend : xs[k1]? = none)
    (hQ : ∀ h', (∀ c o, c ≠ z → c ≠ i1 → c ≠ i2 → s.heap.get? c = some o → h'.get? c = some o) → Q none { s with heap := h' }) : wpAny (model prog w) A (pyNext (.ref z)) Q E s := by
  have hTy : s.TypeIs (.ref z) "zip" := ⟨_, hz, rfl⟩
  unfold pyNext
  refine wpAny_bind (wpAny_attempt (wpAny_callSpecial?_slot (name := Str.ofString "__next__") hTy F.slot_zip_next
    (wpAny_call_entry F.slot_zip_next hTy F.entry_zip_next ?_ (F.args_zip_next_1 _))))
  show wpAny _ _ (field (.ref z) 2 >>= _) _ _ _
  refine wpAny_bind (wpAny_field hz rfl (x := .bool false) rfl ?_)
  show wpAny _ _ (field (.ref z) 3 >>= _) _ _ _
  refine wpAny_bind (wpAny_field hz rfl (x := .ref TI) rfl ?_)
  refine wpAny_bind (wpAny_seqItems hTI rfl ?_)
  show wpAny _ _ (Builtin.SmallTypes.ownedTupleIsFree (.ref z) >>= _) _ _ _
  refine wpAny_bind (wpAny_tupleHeld_zip hz hT fun h₁ hz₁ hs₁ => ?_)
  simp only [Bool.false_eq_true, if_false]
  refine wpAny_bind ?_
  rw [← Array.forIn_toList]
  simp only [List.forIn_cons, List.forIn_nil]
  refine wpAny_bind (wpAny_bind (wpAny_holding ?_))
  show wpAny _ _ (Builtin.SmallTypes.nextOf (.ref i1) >>= _) _ _ _
  refine wpAny_bind (wpAny_nextOf_list_end (s := { s with heap := h₁ }) hh (h1.extBut hs₁.extBut D.i1z) (hl1.extBut hs₁.extBut D.l1z) hend fun h₂ e hs₂ he => ?_)
  obtain ⟨o, ho, hc⟩ := he
  refine wpAny_bind (wpAny_isInstance (T := "StopIteration") (b := true) ⟨o, ho, hc⟩ isSubtype_stop ?_)
  exact wpAny_pure (hQ _ fun c o c1 c2 _ x => hs₂ _ _ c2 (hs₁.extBut _ _ c1 x))
end

/-- the tuples that were told stand -/
def Prs (h : Heap) (xs ys : Array Value) (Ts : List Addr) : Prop := ∀ (j : Nat) (T : Addr), Ts[j]? = some T → ∃ x y, xs[j]? = some x ∧ ys[j]? = some y ∧ IsPair h T x y
/-- the zip, i tuples told -/
def Zst (z TI TO i1 i2 l t : Addr) (xs ys : Array Value) (Ts : List Addr) (h : Heap) : Prop :=
  ((Ts = [] ∧ IsZip h z TI TO .none ∧ IsPair h TO .none .none) ∨ ∃ T Ts' f, Ts = T :: Ts' ∧ IsZipHeld h z TI TO T f) ∧
    IsPair h TI (.ref i1) (.ref i2) ∧ h.IsListIter i1 l Ts.length ∧ h.IsTupleIter i2 t Ts.length ∧ h.IsList l xs ∧ h.IsTuple t ys ∧ Prs h xs ys Ts
theorem sep_of {z TI TO i1 i2 l t : Addr} (D : ZipApart z TI TO i1 i2 l t) : ZipSep2 z TI TO i1 i2 [i1, l] [i2, t] where
  TIz := D.TIz
  TOz := D.TOz
  TITO := D.TITO
  TIi1 := D.TIi1
  mem1 := by simp
  zf1 := by simp only [List.mem_cons, List.not_mem_nil, or_false, not_or]; exact ⟨D.i1z.symm, D.l1z.symm⟩
  Tf1 := by simp only [List.mem_cons, List.not_mem_nil, or_false, not_or]; exact ⟨D.TOi1, D.l1TO.symm⟩
  TIi2 := D.TIi2
  mem2 := by simp
  zf2 := by simp only [List.mem_cons, List.not_mem_nil, or_false, not_or]; exact ⟨D.i2z.symm, D.l2z.symm⟩
  Tf2 := by simp only [List.mem_cons, List.not_mem_nil, or_false, not_or]; exact ⟨D.TOi2, D.l2TO.symm⟩
  sep1_2 := by simp only [List.mem_cons, List.not_mem_nil, or_false, not_or]; exact ⟨D.i12, D.l2i1.symm⟩
  sep2_1 := by simp only [List.mem_cons, List.not_mem_nil, or_false, not_or]; exact ⟨D.i12.symm, D.l1i2.symm⟩
section
variable {prog : Program} {w : World} {A : Around} {E : Value → Shared → Prop} {s : Shared}
/-- next of the zip -/
theorem zst_next {z TI TO i1 i2 l t : Addr} {xs ys : Array Value} {Ts : List Addr} {x y : Value} {Q : Option Value → Shared → Prop} (hh : A.handled = none) (D : ZipApart z TI TO i1 i2 l t) (st : Zst z TI TO i1 i2 l t xs ys Ts s.heap)
    (hap : ∀ T ∈ Ts, T ≠ z ∧ T ≠ TO ∧ T ≠ i1 ∧ T ≠ i2) (hl : l ≠ z ∧ l ≠ TO ∧ l ≠ i1 ∧ l ≠ i2) (ht : t ≠ z ∧ t ≠ TO ∧ t ≠ i1 ∧ t ≠ i2)
    (hx : xs[Ts.length]? = some x) (hy : ys[Ts.length]? = some y)
    (hQ : ∀ h' tk, Zst z TI TO i1 i2 l t xs ys (Ts ++ [s.heap.objs.size]) h' → h'.objs.size = s.heap.objs.size + 1 → (∀ c o, c ≠ z → c ≠ TO → c ≠ i1 → c ≠ i2 → s.heap.get? c = some o → h'.get? c = some o) → Q (some (.ref s.heap.objs.size)) { s with heap := h', toks := tk }) :
    wpAny (model prog w) A (pyNext (.ref z)) Q E s := by
  obtain ⟨hz, hTI, h1, h2, hl1, hl2, hp⟩ := st
  have push : ∀ h', (∀ c o, c ≠ z → c ≠ TO → c ≠ i1 → c ≠ i2 → s.heap.get? c = some o → h'.get? c = some o) → IsPair h' s.heap.objs.size x y → Prs h' xs ys (Ts ++ [s.heap.objs.size]) := by
    intro h' hk hn j T e
    by_cases hj : j < Ts.length
    · rw [List.getElem?_append_left hj] at e
      obtain ⟨x', y', a, b, c⟩ := hp j T e
      obtain ⟨n1, n2, n3, n4⟩ := hap T (List.mem_of_getElem? e)
      exact ⟨x', y', a, b, hk _ _ n1 n2 n3 n4 c⟩
    · have hj' : j = Ts.length := by
        have := (List.getElem?_eq_some_iff.mp e).1
        rw [List.length_append] at this
        have z : [s.heap.objs.size].length = 1 := rfl
        omega
      subst hj'
      rw [List.getElem?_append_right (Nat.le_refl _), Nat.sub_self] at e
      cases e
      exact ⟨x, y, hx, hy, hn⟩
  have el : (Ts ++ [s.heap.objs.size]).length = Ts.length + 1 := by rw [List.length_append]; rfl
  rcases hz with ⟨rfl, hz, hTO⟩ | ⟨T, Ts', f, rfl, hz⟩
  · refine wpAny_pyNext_zipD2_item (i := 0) (sep_of D) (.list (A := A.in1) hh i1 l D.l1i1 xs) (.tuple (A := A.in1) hh i2 t D.l2i2 ys) hz hTI hTO ⟨h1, hl1⟩ ⟨h2, hl2⟩ (Array.getElem?_eq_some_iff.mp hx).1 (Array.getElem?_eq_some_iff.mp hy).1 fun x1 x2 h' tk y1 y2 b1 b2 d1 d2 b5 b6 hk => ?_
    have ex : x1 = x := by have := y1.symm.trans hx; injection this
    have ey : x2 = y := by have := y2.symm.trans hy; injection this
    subst ex ey
    refine hQ h' tk ⟨.inr ⟨s.heap.objs.size, [], false, rfl, b1⟩, hk _ _ D.TIz D.TITO D.TIi1 D.TIi2 hTI, ?_, ?_, d1.2, d2.2, push h' hk b5⟩ b6 hk
    · exact d1.1
    · exact d2.1
  · obtain ⟨x0, y0, _, _, hT⟩ := hp 0 T rfl
    refine next_held D hz hT hTI h1 h2 hl1 hl2 hx hy fun h' a1 a3 a4 a5 a6 a7 => ?_
    have hk : ∀ c o, c ≠ z → c ≠ TO → c ≠ i1 → c ≠ i2 → s.heap.get? c = some o → h'.get? c = some o := fun c o n1 _ n3 n4 e => a7 c o n1 n3 n4 e
    refine hQ h' s.toks ⟨.inr ⟨T, Ts' ++ [s.heap.objs.size], true, rfl, a1⟩, hk _ _ D.TIz D.TITO D.TIi1 D.TIi2 hTI, ?_, ?_, hl1.at fun o e => hk _ o hl.1 hl.2.1 hl.2.2.1 hl.2.2.2 e, hl2.at fun o e => hk _ o ht.1 ht.2.1 ht.2.2.1 ht.2.2.2 e, push h' hk a5⟩ a6 hk
    · rw [el]; exact a3
    · rw [el]; exact a4
theorem zst_end {z TI TO i1 i2 l t : Addr} {xs ys : Array Value} {Ts : List Addr} {Q : Option Value → Shared → Prop} (hh : A.handled = none) (D : ZipApart z TI TO i1 i2 l t) (st : Zst z TI TO i1 i2 l t xs ys Ts s.heap)
    (hn : xs.size = Ts.length) (hn2 : xs.size = ys.size)
    (hQ : ∀ h' tk, (∀ c o, c ≠ z → c ≠ TO → c ≠ i1 → c ≠ i2 → s.heap.get? c = some o → h'.get? c = some o) → Q none { s with heap := h', toks := tk }) :
    wpAny (model prog w) A (pyNext (.ref z)) Q E s := by
  obtain ⟨hz, hTI, h1, h2, hl1, hl2, hp⟩ := st
  rcases hz with ⟨rfl, hz, hTO⟩ | ⟨T, Ts', f, rfl, hz⟩
  · exact wpAny_pyNext_zipD2_end (i := 0) (sep_of D) (.list (A := A.in1) hh i1 l D.l1i1 xs) (.tuple (A := A.in1) hh i2 t D.l2i2 ys) hz hTI hTO ⟨h1, hl1⟩ ⟨h2, hl2⟩ (Nat.zero_le _) (Nat.zero_le _) (.inl hn.symm) fun h' tk hk => hQ h' tk hk
  · obtain ⟨x0, y0, _, _, hT⟩ := hp 0 T rfl
    exact end_held hh D hz hT hTI h1 hl1 (Array.getElem?_eq_none_iff.mpr (by omega)) fun h' hk => hQ h' s.toks fun c o n1 _ n3 n4 e => hk c o n1 n3 n4 e
end
theorem Zst.at {z TI TO i1 i2 l t S : Addr} {xs ys : Array Value} {Ts : List Addr} {h h' : Heap} (st : Zst z TI TO i1 i2 l t xs ys Ts h) (hS : S ≠ z ∧ S ≠ TI ∧ S ≠ TO ∧ S ≠ i1 ∧ S ≠ i2 ∧ S ≠ l ∧ S ≠ t) (hT : ∀ T ∈ Ts, T ≠ S)
    (k : ∀ c o, c ≠ S → h.get? c = some o → h'.get? c = some o) : Zst z TI TO i1 i2 l t xs ys Ts h' := by
  obtain ⟨hz, hTI, h1, h2, hl1, hl2, hp⟩ := st
  obtain ⟨n1, n2, n3, n4, n5, n6, n7⟩ := hS
  refine ⟨?_, k _ _ n2.symm hTI, h1.at fun o e => k _ o n4.symm e, h2.at fun o e => k _ o n5.symm e, hl1.at fun o e => k _ o n6.symm e, hl2.at fun o e => k _ o n7.symm e, fun j T e => ?_⟩
  · rcases hz with ⟨rfl, hz, hTO⟩ | ⟨T, Ts', f, rfl, hz⟩
    · exact .inl ⟨rfl, k _ _ n1.symm hz, k _ _ n3.symm hTO⟩
    · exact .inr ⟨T, Ts', f, rfl, k _ _ n1.symm hz⟩
  · obtain ⟨x, y, a, b, c⟩ := hp j T e
    exact ⟨x, y, a, b, k _ _ (hT T (List.mem_of_getElem? e)) c⟩
/-- the new tuples, each by itself -/
structure Told (B : Addr) (h : Heap) (Ts : List Addr) : Prop where
  nodup : Ts.Nodup
  from_ : ∀ T ∈ Ts, B ≤ T
  lt : ∀ T ∈ Ts, T < h.objs.size
section
variable {prog : Program} {w : World} {A : Around} {R : Result → Shared → Prop} {h0 : Heap}
theorem loopZ {z TI TO i1 i2 l t S B : Addr} {xs ys : Array Value} (res : Value) (hh : A.handled = none) (D : ZipApart z TI TO i1 i2 l t) (hS : S ≠ z ∧ S ≠ TI ∧ S ≠ TO ∧ S ≠ i1 ∧ S ≠ i2 ∧ S ≠ l ∧ S ≠ t)
    (hl : l ≠ z ∧ l ≠ TO ∧ l ≠ i1 ∧ l ≠ i2) (ht : t ≠ z ∧ t ≠ TO ∧ t ≠ i1 ∧ t ≠ i2) (hxy : xs.size = ys.size) (hsz : xs.size ≤ 1000) (h0k : ∀ c o, h0.get? c = some o → c ≠ S ∧ c ≠ z ∧ c ≠ TO ∧ c ≠ i1 ∧ c ≠ i2) :
    ∀ (k : Nat) (s : Shared) (Ts : List Addr) (c : Nat), xs.size - Ts.length = k → Ts.length ≤ xs.size → Zst z TI TO i1 i2 l t xs ys Ts s.heap → s.heap.get? S = some { cls := .type "list", dict := none, data := .seq (Ts.map Value.ref).toArray c, slots := #[] } →
    Told B s.heap Ts → (z < s.heap.objs.size ∧ TO < s.heap.objs.size ∧ i1 < s.heap.objs.size ∧ i2 < s.heap.objs.size ∧ S < s.heap.objs.size ∧ B ≤ s.heap.objs.size) → (∀ T ∈ Ts, T ≠ S ∧ T ≠ z ∧ T ≠ TO ∧ T ≠ i1 ∧ T ≠ i2) → (∀ c o, h0.get? c = some o → s.heap.get? c = some o) →
    (∀ h' tk Ts' c', Ts'.length = xs.size → Prs h' xs ys Ts' → Told B h' Ts' → (∀ T ∈ Ts', T ≠ S) → h'.get? S = some { cls := .type "list", dict := none, data := .seq (Ts'.map Value.ref).toArray c', slots := #[] } → (∀ c o, h0.get? c = some o → h'.get? c = some o) → R (.ok (.ret res)) { s with heap := h', toks := tk }) →
    codeAny (model prog w) A (.builtin "list.extend.loop" ⟨[.ref S, .ref z, res], []⟩) R s := by
  intro k
  induction k with
  | zero =>
    intro s Ts c hk hi st hSo told hlt hap h0s hR
    have hin : xs.size = Ts.length := by omega
    refine codeAny_builtin F.entry_extend_loop ?_
    rw [Around.under_plainId F.plain_extend_loop _]
    show wpAny _ A.in1 (pyNext (.ref z) >>= _) _ _ s
    refine wpAny_bind (zst_end (A := A.in1) hh D st hin hxy fun h' tk hk => ?_)
    have keep : ∀ c o, c ≠ z → c ≠ TO → c ≠ i1 → c ≠ i2 → s.heap.get? c = some o → h'.get? c = some o := hk
    refine wpAny_pure (hR h' tk Ts c hin.symm (fun j T e => ?_) ⟨told.nodup, told.from_, fun T hT => ?_⟩ (fun T hT => (hap T hT).1) (keep _ _ hS.1 hS.2.2.1 hS.2.2.2.1 hS.2.2.2.2.1 hSo) fun c o e => keep c o (h0k c o e).2.1 (h0k c o e).2.2.1 (h0k c o e).2.2.2.1 (h0k c o e).2.2.2.2 (h0s c o e))
    · obtain ⟨x, y, a, b, e'⟩ := st.2.2.2.2.2.2 j T e
      have n := hap T (List.mem_of_getElem? e)
      exact ⟨x, y, a, b, keep _ _ n.2.1 n.2.2.1 n.2.2.2.1 n.2.2.2.2 e'⟩
    · obtain ⟨j, ej⟩ := List.mem_iff_getElem?.mp hT
      obtain ⟨x, y, a, b, e'⟩ := st.2.2.2.2.2.2 j T ej
      have n := hap T hT
      exact Heap.lt_size (keep _ _ n.2.1 n.2.2.1 n.2.2.2.1 n.2.2.2.2 e')
  | succ k ih =>
    intro s Ts c hk hi st hSo told hlt hap h0s hR
    have hlt' : Ts.length < xs.size := by omega
    refine codeAny_builtin F.entry_extend_loop ?_
    rw [Around.under_plainId F.plain_extend_loop _]
    show wpAny _ A.in1 (pyNext (.ref z) >>= _) _ _ s
    have hx : xs[Ts.length]? = some xs[Ts.length] := Array.getElem?_eq_getElem hlt'
    have hy : ys[Ts.length]? = some (ys[Ts.length]'(by omega)) := Array.getElem?_eq_getElem (by omega)
    refine wpAny_bind (zst_next (A := A.in1) hh D st (fun T hT => (hap T hT).2) hl ht hx hy fun h' tk st' zs keep => ?_)
    have hS' : h'.get? S = some { cls := .type "list", dict := none, data := .seq (Ts.map Value.ref).toArray c, slots := #[] } := keep _ _ hS.1 hS.2.2.1 hS.2.2.2.1 hS.2.2.2.2.1 hSo
    show wpAny _ A.in1 (updateSeq S (·.push (.ref s.heap.objs.size)) >>= _) _ _ _
    refine wpAny_bind ?_
    obtain ⟨l1, l2, l3, l4, l5, l6⟩ := hlt
    have newS : s.heap.objs.size ≠ S := Nat.ne_of_gt l5
    have hT' : ∀ T ∈ Ts ++ [s.heap.objs.size], T ≠ S ∧ T ≠ z ∧ T ≠ TO ∧ T ≠ i1 ∧ T ≠ i2 := fun T hT => by
      rcases List.mem_append.mp hT with hT | hT
      · exact hap T hT
      · rw [List.mem_singleton.mp hT]; exact ⟨newS, Nat.ne_of_gt l1, Nat.ne_of_gt l2, Nat.ne_of_gt l3, Nat.ne_of_gt l4⟩
    have oth : ∀ c o, c ≠ S → h'.get? c = some o → (h'.update S (Obj.mapSeq (·.push (.ref s.heap.objs.size)))).get? c = some o := fun c o n e => (Heap.get?_update_other _ _ (Ne.symm n)).trans e
    have hSn : (h'.update S (Obj.mapSeq (·.push (.ref s.heap.objs.size)))).get? S = some { cls := .type "list", dict := none, data := .seq ((Ts ++ [s.heap.objs.size]).map Value.ref).toArray (c + 1), slots := #[] } := by
      refine (Heap.get?_update_self _ hS' rfl).trans ?_
      simp [Obj.mapSeq]
    have zs' : (h'.update S (Obj.mapSeq (·.push (.ref s.heap.objs.size)))).objs.size = s.heap.objs.size + 1 := by rw [Heap.size_update, zs]
    refine wpAny_updateSeq (s := { s with heap := h', toks := tk }) hS' rfl (wpAny_pure ⟨plainId_quiet F.plain_extend_loop _, ih _ (Ts ++ [s.heap.objs.size]) (c + 1) ?_ ?_ (st'.at hS (fun T hT => (hT' T hT).1) oth) hSn ?_ ?_ hT' (fun c o e => oth c o (h0k c o e).1 (keep c o (h0k c o e).2.1 (h0k c o e).2.2.1 (h0k c o e).2.2.2.1 (h0k c o e).2.2.2.2 (h0s c o e))) fun h'' tk' Ts' c' a b d e f g => ?_⟩) ?_ ?_
    · rw [List.length_append]; show _ - (_ + 1) = k; omega
    · rw [List.length_append]; show _ + 1 ≤ _; omega
    · refine ⟨List.nodup_append.mpr ⟨told.nodup, by simp, fun a ha b hb => ?_⟩, fun T hT => ?_, fun T hT => ?_⟩
      · rw [List.mem_singleton.mp hb]; exact Nat.ne_of_lt (told.lt a ha)
      · rcases List.mem_append.mp hT with hT | hT
        · exact told.from_ T hT
        · rw [List.mem_singleton.mp hT]; exact l6
      · show T < (h'.update S _).objs.size
        rw [zs']
        rcases List.mem_append.mp hT with hT | hT
        · exact Nat.lt_succ_of_lt (told.lt T hT)
        · rw [List.mem_singleton.mp hT]; exact Nat.lt_succ_self _
    · show z < (h'.update S _).objs.size ∧ TO < (h'.update S _).objs.size ∧ i1 < (h'.update S _).objs.size ∧ i2 < (h'.update S _).objs.size ∧ S < (h'.update S _).objs.size ∧ B ≤ (h'.update S _).objs.size
      rw [zs']
      exact ⟨Nat.lt_succ_of_lt l1, Nat.lt_succ_of_lt l2, Nat.lt_succ_of_lt l3, Nat.lt_succ_of_lt l4, Nat.lt_succ_of_lt l5, Nat.le_succ_of_le l6⟩
    · exact hR h'' tk' Ts' c' a b d e f g
    · rw [sizeLine_eq, List.size_toArray, List.length_map]; omega
    · rw [sizeLine_eq]; show ((Ts.map Value.ref).toArray.push _).size ≤ _; rw [Array.size_push, List.size_toArray, List.length_map]; omega
end
section
variable {prog : Program} {w : World} {A : Around} {E : Value → Shared → Prop} {s : Shared}
theorem call_listZ {z TI TO i1 i2 l t B : Addr} {xs ys : Array Value} {Q : Value → Shared → Prop} {h0 : Heap} (hh : A.handled = none) (D : ZipApart z TI TO i1 i2 l t)
    (hl : l ≠ z ∧ l ≠ TO ∧ l ≠ i1 ∧ l ≠ i2) (ht : t ≠ z ∧ t ≠ TO ∧ t ≠ i1 ∧ t ≠ i2) (hxy : xs.size = ys.size) (hsz : xs.size ≤ 1000) (h0k : ∀ c o, h0.get? c = some o → c ≠ z ∧ c ≠ TO ∧ c ≠ i1 ∧ c ≠ i2)
    (st : Zst z TI TO i1 i2 l t xs ys [] s.heap) (hB : B ≤ s.heap.objs.size) (hlt : z < s.heap.objs.size ∧ TO < s.heap.objs.size ∧ i1 < s.heap.objs.size ∧ i2 < s.heap.objs.size) (h0s : ∀ c o, h0.get? c = some o → s.heap.get? c = some o)
    (hQ : ∀ h' tk Ts' c', Ts'.length = xs.size → Prs h' xs ys Ts' → Told B h' Ts' → (∀ T ∈ Ts', T ≠ s.heap.objs.size) → h'.get? s.heap.objs.size = some { cls := .type "list", dict := none, data := .seq (Ts'.map Value.ref).toArray c', slots := #[] } → (∀ c o, h0.get? c = some o → h'.get? c = some o) → Q (.ref s.heap.objs.size) { s with heap := h', toks := tk }) :
    wpAny (model prog w) A (call (.type "list") [.ref z]) Q E s := by
  obtain ⟨l1, l2, l3, l4⟩ := hlt
  have lS : ∀ {c : Addr} {o : Obj}, s.heap.get? c = some o → s.heap.objs.size ≠ c := fun e => Nat.ne_of_gt (Heap.lt_size e)
  have hS7 : s.heap.objs.size ≠ z ∧ s.heap.objs.size ≠ TI ∧ s.heap.objs.size ≠ TO ∧ s.heap.objs.size ≠ i1 ∧ s.heap.objs.size ≠ i2 ∧ s.heap.objs.size ≠ l ∧ s.heap.objs.size ≠ t := by
    obtain ⟨_, hTI, _, _, ⟨_, e1, _⟩, ⟨_, e2, _⟩, _⟩ := st
    exact ⟨Nat.ne_of_gt l1, lS hTI, Nat.ne_of_gt l2, Nat.ne_of_gt l3, Nat.ne_of_gt l4, lS e1, lS e2⟩
  refine callType_codes (Q₁ := fun obj s₁ => obj = .ref s.heap.objs.size ∧ s₁ = { s with heap := s.heap.push { cls := .type "list", data := .seq #[] } }) F.called_list (F.typeCall_list_1 _) F.entry_list_init
    (code_list_new _ ⟨rfl, rfl⟩) fun obj s₁ h₁ => ?_
  obtain ⟨rfl, rfl⟩ := h₁
  have hS : (s.heap.push { cls := .type "list", data := .seq #[] }).get? s.heap.objs.size = some { cls := .type "list", data := .seq #[] } := Heap.get?_push_size _ rfl
  refine ⟨⟨_, hS, rfl⟩, F.args_list_init_2 _ _, ?_⟩
  show wpAny _ A.in1.in1 (do let old ← Builtin.List.listItems (.ref s.heap.objs.size); Builtin.List.listUpdate (.ref s.heap.objs.size) (fun _ => #[]); letGo old.toList.reverse; Builtin.List.listExtendWith (.ref s.heap.objs.size) (.ref z) .none) _ _ _
  refine wpAny_bind ?_
  unfold Builtin.List.listItems
  refine wpAny_bind (wpAny_seqItems hS rfl (wpAny_pure ?_))
  show wpAny _ A.in1.in1 (updateSeq s.heap.objs.size (fun _ => #[]) >>= fun _ => letGo (#[] : Array Value).toList.reverse >>= fun _ => Builtin.List.listExtendWith (.ref s.heap.objs.size) (.ref z) .none) _ _ _
  refine wpAny_bind (wpAny_updateSeq hS rfl ?_)
  have hS₂ := Heap.get?_update_self (Obj.mapSeq (fun _ => (#[] : Array Value))) hS rfl
  refine wpAny_bind (wpAny_letGo ?_)
  unfold Builtin.List.listExtendWith
  generalize eh1 : (s.heap.push { cls := .type "list", data := .seq #[] }).update s.heap.objs.size (Obj.mapSeq (fun _ => (#[] : Array Value))) = h1 at *
  have k1 : ∀ c o, s.heap.get? c = some o → h1.get? c = some o := fun c o e => by
    rw [← eh1]; exact (Heap.get?_update_other _ _ (lS e)).trans (Heap.get?_push_of_some _ e)
  have z1 : h1.objs.size = s.heap.objs.size + 1 := by rw [← eh1, Heap.size_update, Heap.size_push]
  clear eh1
  have st1 : Zst z TI TO i1 i2 l t xs ys [] h1 := st.at hS7 (fun T hT => nomatch hT) fun c o _ e => k1 c o e
  have hTy : ({ s with heap := h1 } : Shared).TypeIs (.ref z) "zip" := by
    rcases st1.1 with ⟨_, hz, _⟩ | ⟨_, _, _, e, _⟩
    · exact ⟨_, hz, rfl⟩
    · cases e
  refine wpAny_bind (wpAny_typeOf hTy ?_)
  have hsr : Builtin.List.listSameRef (.ref s.heap.objs.size) (.ref z) = false := by simp [Builtin.List.listSameRef, hS7.1]
  have h2 : (Value.type "zip" == Value.type "list") = false := by decide
  have h3 : (Value.type "zip" == Value.type "tuple") = false := by decide
  simp only [hsr, h2, h3, Bool.or_false, Bool.false_eq_true, if_false]
  have hz1 : IsZip h1 z TI TO .none := by
    rcases st1.1 with ⟨_, hz, _⟩ | ⟨_, _, _, e, _⟩
    · exact hz
    · cases e
  refine wpAny_bind (wpAny_pyIter_zip (s := { s with heap := h1 }) hz1 ?_)
  refine wpAny_bind (wpAny_holding ?_)
  unfold Builtin.List.listLengthHint
  refine wpAny_bind (wpAny_specialOf hTy zip_no_len ?_)
  show wpAny _ _ (specialOf (Value.ref z) (Str.ofString "__length_hint__") >>= _) _ _ _
  refine wpAny_bind (wpAny_specialOf hTy zip_no_hint ?_)
  refine wpAny_pure ?_
  show wpAny _ _ (rule "list.extend.makes-room" >>= fun _ => Builtin.List.listTouch (.ref s.heap.objs.size) >>= fun _ =>
    again (.builtin "list.extend.loop" ⟨[.ref s.heap.objs.size, .ref z, .none], []⟩)) _ _ _
  refine wpAny_bind (wpAny_rule ?_)
  refine wpAny_bind ?_
  show wpAny _ _ (updateSeq s.heap.objs.size (·.push .none) >>= fun _ => updateSeq s.heap.objs.size (·.pop)) _ _ _
  refine wpAny_bind (wpAny_updateSeq (s := { s with heap := h1 }) hS₂ rfl ?_)
  have hS₃ := Heap.get?_update_self (Obj.mapSeq (·.push Value.none)) hS₂ rfl
  refine wpAny_updateSeq (s := { s with heap := h1.update s.heap.objs.size (Obj.mapSeq (·.push Value.none)) }) (hz := by seq_fits) hS₃ rfl ?_
  have hS₄ := Heap.get?_update_self (Obj.mapSeq (·.pop)) hS₃ rfl
  have k2 : ∀ c o, c ≠ s.heap.objs.size → h1.get? c = some o → ((h1.update s.heap.objs.size (Obj.mapSeq (·.push Value.none))).update s.heap.objs.size (Obj.mapSeq (·.pop))).get? c = some o :=
    fun c o hb e => (Heap.get?_update_other _ _ (Ne.symm hb)).trans ((Heap.get?_update_other _ _ (Ne.symm hb)).trans e)
  have z2 : ((h1.update s.heap.objs.size (Obj.mapSeq (·.push Value.none))).update s.heap.objs.size (Obj.mapSeq (·.pop))).objs.size = s.heap.objs.size + 1 := by rw [Heap.size_update, Heap.size_update, z1]
  generalize (h1.update s.heap.objs.size (Obj.mapSeq (·.push Value.none))).update s.heap.objs.size (Obj.mapSeq (·.pop)) = h2' at *
  have st2 : Zst z TI TO i1 i2 l t xs ys [] h2' := st1.at hS7 (fun T hT => nomatch hT) k2
  refine wpAny_pure ⟨plainId_quiet F.plain_extend_loop _, loopZ (A := A.in1) (h0 := h0) (B := B) .none hh D hS7 hl ht hxy hsz (fun c o e => ⟨Ne.symm (lS (h0s c o e)), h0k c o e⟩) xs.size { s with heap := h2' } [] _ (Nat.sub_zero _) (Nat.zero_le _) st2 hS₄
    ⟨.nil, (fun T hT => nomatch hT), (fun T hT => nomatch hT)⟩ ?_ (fun T hT => nomatch hT) (fun c o e => k2 c o (Ne.symm (lS (h0s c o e))) (k1 c o (h0s c o e))) fun h' tk Ts' c' a b d e f g => ?_⟩
  · show z < h2'.objs.size ∧ TO < h2'.objs.size ∧ i1 < h2'.objs.size ∧ i2 < h2'.objs.size ∧ s.heap.objs.size < h2'.objs.size ∧ B ≤ h2'.objs.size
    rw [z2]
    exact ⟨Nat.lt_succ_of_lt l1, Nat.lt_succ_of_lt l2, Nat.lt_succ_of_lt l3, Nat.lt_succ_of_lt l4, Nat.lt_succ_self _, Nat.le_succ_of_le hB⟩
  · exact ⟨rfl, hQ h' tk Ts' c' a b d e f g⟩
end
/-- several new objects laid at once -/
theorem Inv_many {X : Cx} {pins : List (Addr × Obj)} {σ : L2.St} {H H' : Hp} {s : Shared} {h' : Heap} {t' : Nat} (I : L2.Inv X pins σ H s) (k : ∀ b u, s.heap.get? b = some u → h'.get? b = some u) (e : ∀ a, a < s.heap.objs.size → H' a = H a)
    (new : ∀ a o, s.heap.objs.size ≤ a → H' a = some o → ObjOk X.prog X.w H' h' a o) : L2.Inv X pins σ H' { s with heap := h', toks := t' } := by
  have same : ∀ {a o}, H a = some o → H' a = some o := fun {a o} q => (e a (I.hok.lt q)).trans q
  refine L2.Inv.un I ⟨fun b u q _ _ _ => k b u q, fun b u q _ _ _ => ⟨u.slots, k b u q⟩, fun b u q n _ => (e b (Heap.lt_size q)).trans n, fun b u q _ => ⟨u, k b u q⟩, fun b xs q => same q, fun b u xs q => same q, fun b ps q => ⟨#[], by rw [same q]; simp⟩⟩ fun a o q => ?_
  by_cases ha : a < s.heap.objs.size
  · rw [e a ha] at q
    exact (I.hok a o q).stay (fun c v _ z => k c v z) (fun c z => same z) fun c xs z => same z
  · exact new a o (Nat.le_of_not_lt ha) q
theorem lookup_zip {β : Type} : ∀ {Ts : List Addr} {ps : List β} {j : Nat} {T : Addr} {p : β}, Ts.Nodup → Ts[j]? = some T → ps[j]? = some p → (Ts.zip ps).lookup T = some p
  | [], _, _, _, _, _, h, _ => by simp at h
  | _ :: _, [], _, _, _, _, _, h => by simp at h
  | t :: Ts, q :: ps, 0, T, p, _, h1, h2 => by
    simp only [List.getElem?_cons_zero, Option.some.injEq] at h1 h2
    subst h1 h2
    simp [List.zip_cons_cons, List.lookup]
  | t :: Ts, q :: ps, j + 1, T, p, hn, h1, h2 => by
    rw [List.getElem?_cons_succ] at h1 h2
    have hne : (T == t) = false := by
      rw [beq_eq_false_iff_ne]
      intro x
      rw [x] at h1
      exact (List.nodup_cons.mp hn).1 (List.mem_of_getElem? h1)
    rw [List.zip_cons_cons, List.lookup, hne]
    exact lookup_zip (List.nodup_cons.mp hn).2 h1 h2
theorem lookup_none {β : Type} : ∀ {Ts : List Addr} {ps : List β} {T : Addr}, T ∉ Ts → (Ts.zip ps).lookup T = none
  | [], _, _, _ => rfl
  | _ :: _, [], _, _ => rfl
  | t :: Ts, q :: ps, T, h => by
    have hne : (T == t) = false := by
      rw [beq_eq_false_iff_ne]
      exact fun x => h (by rw [x]; exact List.mem_cons_self ..)
    rw [List.zip_cons_cons, List.lookup, hne]
    exact lookup_none fun x => h (List.mem_cons_of_mem _ x)
theorem lookup_some {β : Type} : ∀ {Ts : List Addr} {ps : List β} {T : Addr} {p : β}, (Ts.zip ps).lookup T = some p → ∃ j : Nat, Ts[j]? = some T ∧ ps[j]? = some p
  | [], _, _, _, h => by cases h
  | _ :: _, [], _, _, h => by cases h
  | t :: Ts, q :: ps, T, p, h => by
    rw [List.zip_cons_cons, List.lookup] at h
    by_cases x : T = t
    · subst x
      rw [beq_self_eq_true] at h
      cases h
      exact ⟨0, rfl, rfl⟩
    · rw [beq_eq_false_iff_ne.mpr x] at h
      obtain ⟨j, a, b⟩ := lookup_some h
      exact ⟨j + 1, a, b⟩
theorem vals_refs : ∀ {Ts : List Addr}, Vals (Ts.map V.ref) (Ts.map Value.ref)
  | [] => .nil
  | _ :: _ => .cons rfl vals_refs
/-- list(zip(list, tuple)) -/
def tListZip (K : PySem.W.Frag) (ta : TA) : TE := fun σ H Q => ta σ H fun vs H1 => ∃ (a b : Addr) (xs ys : List V), vs = [.ref a, .ref b] ∧ SqL K H1 a xs ∧ SqT K H1 b ys ∧ xs.length = ys.length ∧ xs.length ≤ 1000 ∧
  ∀ (D : Addr) (Ts : List Addr) (H2 : Hp), (∀ a o, H1 a = some o → H2 a = some o) → H1 D = none → (∀ T ∈ Ts, H1 T = none) → H2 D = some (.lst (Ts.map .ref)) → Ts.length = xs.length → (∀ (j : Nat) (T : Addr) (x y : V), Ts[j]? = some T → xs[j]? = some x → ys[j]? = some y → H2 T = some (.tup [x, y])) → Q (.ref D) H2
theorem pe_listZip {X : Cx} {e e2 : Expr} {ta : TA} {p q pos pos2 : Pos} (hgl : Gl X "list") (hml : X.mg "list" = none) (hg : Gl X "zip") (hm : X.mg "zip" = none) (hc : X.calm = true) (ha : PA X [e, e2] ta)
    (hs : starEach [e, e2] X.env = (false, eval e X.env) :: starEach [e2] X.env := by rfl) (hpl : (backTo pos2 (starEach [e2] X.env)).any (·.1) = false := by rfl) :
    PE X (.Call (.Name "list" p) [.Call (.Name "zip" q) [e, e2] [] pos2] [] pos) (tListZip X.K ta) := by
  refine ⟨fun pins s σ H Q I h => ?_⟩
  have inner : wpAny (model X.prog X.w) X.A (eval (.Call (.Name "zip" q) [e, e2] [] pos2) X.env) (fun v s1 => ∃ (l t : Addr) (xs ys : List V) (H1 : Hp) (s0 : Shared) (its its2 : List Value), L2.Inv X pins σ H1 s0 ∧ s0.heap.IsList l its.toArray ∧ s0.heap.IsTuple t its2.toArray ∧ Vals xs its ∧ Vals ys its2 ∧ v = .ref (s0.heap.objs.size + 4) ∧
      s1 = { s0 with heap := s1.heap } ∧ s1.heap.objs.size = s0.heap.objs.size + 5 ∧ (∀ c o, s0.heap.get? c = some o → s1.heap.get? c = some o) ∧
      Zst (s0.heap.objs.size + 4) (s0.heap.objs.size + 2) (s0.heap.objs.size + 3) s0.heap.objs.size (s0.heap.objs.size + 1) l t its.toArray its2.toArray [] s1.heap ∧ xs.length = ys.length ∧ xs.length ≤ 1000 ∧
      ∀ (D : Addr) (Ts : List Addr) (H2 : Hp), (∀ a o, H1 a = some o → H2 a = some o) → H1 D = none → (∀ T ∈ Ts, H1 T = none) → H2 D = some (.lst (Ts.map .ref)) → Ts.length = xs.length → (∀ (j : Nat) (T : Addr) (x y : V), Ts[j]? = some T → xs[j]? = some x → ys[j]? = some y → H2 T = some (.tup [x, y])) → Q (.ref D) H2) X.xe s := by
    refine Call_ (ld_blt I hg hm PyProof.Rows.boot_zip (PyProof.Rows.callWith_type1 (thn (ha.run pos2 pins s σ H _ I h) fun us s1 ⟨vs, H1, I1, r1, q1⟩ => ?_) hs hpl))
    obtain ⟨a, b, xs, ys, ex, hqx, hqy, hl, hl2, q1⟩ := q1
    subst ex
    cases r1 with
    | cons r rr =>
      cases rr with
      | cons r' rr =>
        cases rr
        cases r
        cases r'
        obtain ⟨its, rv, p1, _⟩ := I1.list hqx
        obtain ⟨its2, rv2, p2, _⟩ := I1.tuple hqy
        refine zip_begins2 (begins_list a its.toArray) (begins_tuple b its2.toArray) p1.isList p2 fun h' hz hTI hTO h1 h2 hsz hk => ?_
        refine ⟨a, b, xs, ys, H1, s1, its, its2, I1, p1.isList, p2, rv, rv2, rfl, rfl, hsz, hk, ⟨.inl ⟨rfl, hz, hTO⟩, hTI, ⟨_, h1, rfl, rfl⟩, ⟨_, h2, rfl, rfl⟩, p1.isList.at fun o e => hk _ o e, Heap.IsTuple.at p2 fun o e => hk _ o e, fun j T e => nomatch e⟩, hl, hl2, q1⟩
  have hs1 : starEach [Expr.Call (.Name "zip" q) [e, e2] [] pos2] X.env = (false, eval (.Call (.Name "zip" q) [e, e2] [] pos2) X.env) :: starEach [] X.env := by rfl
  refine Call_ (ld_blt I hgl hml PyProof.Rows.boot_list (PyProof.Rows.callWith_type1 ?_ hs1 (by rfl)))
  rw [hs1]
  show wpAny _ _ (spliced ((false, eval (.Call (.Name "zip" q) [e, e2] [] pos2) X.env) :: backTo pos (starEach [] X.env))) _ _ s
  refine Calls.spliced_cons (thn inner fun u s1 hx => ?_)
  obtain ⟨l, t, xs, ys, H1, s0, its, its2, I1, hl, ht, rv, rv2, rfl, es, hsz, hk, st, hxy, hle, q⟩ := hx
  refine Calls.spliced_nil ?_
  have el := rv.length
  have el2 := rv2.length
  have ll : l < s0.heap.objs.size := by obtain ⟨_, x, _⟩ := hl; exact Heap.lt_size x
  have lt : t < s0.heap.objs.size := by obtain ⟨_, x, _⟩ := ht; exact Heap.lt_size x
  have add : ∀ (c n i : Nat), c < n → c ≠ n + i := fun c n i h => by omega
  have add0 : ∀ (n i : Nat), n ≤ n + i := fun n i => by omega
  have lt5 : ∀ (n : Nat), n + 4 < n + 5 ∧ n + 3 < n + 5 ∧ n < n + 5 ∧ n + 1 < n + 5 := fun n => by omega
  have far : ∀ c, c < s0.heap.objs.size → c ≠ s0.heap.objs.size + 4 ∧ c ≠ s0.heap.objs.size + 3 ∧ c ≠ s0.heap.objs.size ∧ c ≠ s0.heap.objs.size + 1 := fun c h => ⟨add _ _ _ h, add _ _ _ h, Nat.ne_of_lt h, add _ _ _ h⟩
  refine call_listZ (h0 := s0.heap) (B := s0.heap.objs.size) (I.ok.hd hc) (PySem.W.ktu_apart s0.heap.objs.size l t ll lt) (far _ ll) (far _ lt) (by simp only [List.size_toArray]; omega) (by simp only [List.size_toArray]; omega) (fun c o e => far c (Heap.lt_size e)) st (by rw [hsz]; exact add0 _ _)
    (by rw [hsz]; exact lt5 _) hk fun h' tk Ts c' a b d f g k => ?_
  rw [es] at *
  have zl : s0.heap.objs.size ≤ s1.heap.objs.size := by rw [hsz]; exact add0 _ _
  have fr : ∀ T, s0.heap.objs.size ≤ T → H1 T = none := fun T hT => I1.hok.fresh hT
  have aL : Ts.length = xs.length := by rw [a, List.size_toArray]; omega
  refine ⟨.ref s1.heap.objs.size, fun c => if c = s1.heap.objs.size then some (.lst (Ts.map .ref)) else match (Ts.zip (xs.zip ys)).lookup c with
    | some p => some (.tup [p.1, p.2])
    | none => H1 c, (show L2.Inv X pins σ _ { s0 with heap := h', toks := tk } from Inv_many I1 k ?_ ?_), rfl, q _ Ts _ ?_ (fr _ zl) (fun T hT => fr T (d.from_ T hT)) (if_pos rfl) aL ?_⟩
  · intro c hc'
    have n1 : c ≠ s1.heap.objs.size := Nat.ne_of_lt (Nat.lt_of_lt_of_le hc' zl)
    have n2 : c ∉ Ts := fun x => absurd (d.from_ c x) (Nat.not_le_of_lt hc')
    show (if c = s1.heap.objs.size then _ else _) = _
    rw [if_neg n1, lookup_none n2]
  · intro c o hc' e
    show ObjOk _ _ _ _ _ _
    by_cases n1 : c = s1.heap.objs.size
    · subst n1
      rw [if_pos rfl] at e
      cases e
      refine ⟨?_, Ts.map Value.ref, c', vals_refs, g⟩
      rw [List.length_map, aL, sizeLine_eq]; omega
    · rw [if_neg n1] at e
      cases hlk : (Ts.zip (xs.zip ys)).lookup c with
      | none => rw [hlk] at e; rw [fr c hc'] at e; cases e
      | some p =>
        rw [hlk] at e
        cases e
        obtain ⟨j, e1, e2⟩ := lookup_some hlk
        obtain ⟨x', y', a1, a2, a3⟩ := b j c e1
        rw [List.getElem?_zip_eq_some] at e2
        obtain ⟨u, hu, ru⟩ := rv.get e2.1
        obtain ⟨u2, hu2, ru2⟩ := rv2.get e2.2
        have q1 : u = x' := by have := hu.symm.trans (show its[j]? = some x' by simpa using a1); injection this
        have q2 : u2 = y' := by have := hu2.symm.trans (show its2[j]? = some y' by simpa using a2); injection this
        subst q1 q2
        exact ⟨by show 2 ≤ sizeLine; decide, [u, u2], .cons ru (.cons ru2 .nil), ⟨_, a3, rfl, _, rfl⟩⟩
  · intro c o e
    have hc' := I1.hok.lt e
    have n1 : c ≠ s1.heap.objs.size := Nat.ne_of_lt (Nat.lt_of_lt_of_le hc' zl)
    have n2 : c ∉ Ts := fun x => absurd (d.from_ c x) (Nat.not_le_of_lt hc')
    show (if c = s1.heap.objs.size then _ else _) = _
    rw [if_neg n1, lookup_none n2]
    exact e
  · intro j T x y e1 e2 e3
    show (if T = s1.heap.objs.size then _ else _) = _
    rw [if_neg (f T (List.mem_of_getElem? e1)), lookup_zip d.nodup e1 (p := (x, y)) (List.getElem?_zip_eq_some.mpr ⟨e2, e3⟩)]
end VLz

/-! Plain: least matchings and greatest differences. -/
namespace VLp
def cst (f : Int → Int) (a b : Int) : Int := if b > a then f (b - a) else 0
theorem cst_self (f : Int → Int) (x : Int) : cst f x x = 0 := if_neg (Int.lt_irrefl _)
theorem cst_tri {f : Int → Int} (nn : ∀ t, 0 ≤ t → 0 ≤ f t) (mono : ∀ a b, 0 ≤ a → a ≤ b → f a ≤ f b) (sub : ∀ a b, 0 ≤ a → 0 ≤ b → f (a + b) ≤ f a + f b) (x y z : Int) : cst f x z ≤ cst f x y + cst f y z := by
  unfold cst
  by_cases h1 : z > x
  · rw [if_pos h1]
    by_cases h2 : y > x
    · rw [if_pos h2]
      by_cases h3 : z > y
      · rw [if_pos h3]
        have := sub (y - x) (z - y) (by omega) (by omega)
        rw [show y - x + (z - y) = z - x by omega] at this
        exact this
      · rw [if_neg h3]
        have := mono (z - x) (y - x) (by omega) (by omega)
        omega
    · rw [if_neg h2, if_pos (show z > y by omega)]
      have := mono (z - x) (z - y) (by omega) (by omega)
      omega
  · rw [if_neg h1]
    have a : 0 ≤ (if y > x then f (y - x) else 0) := by
      by_cases h2 : y > x
      · rw [if_pos h2]; exact nn _ (by omega)
      · rw [if_neg h2]; exact Int.le_refl _
    have b : 0 ≤ (if z > y then f (z - y) else 0) := by
      by_cases h2 : z > y
      · rw [if_pos h2]; exact nn _ (by omega)
      · rw [if_neg h2]; exact Int.le_refl _
    omega
def Feas (c : Int → Int → Int) (S : Int → Int) : Prop := ∀ x y, S y ≤ S x + c x y
section
variable {c : Int → Int → Int} (tri : ∀ x y z, c x z ≤ c x y + c y z) (c0 : ∀ x, c x x = 0)
include tri c0
theorem dual1 (a b : Int) : ∃ S, Feas c S ∧ S b - S a = c a b := by
  refine ⟨fun x => c a x, fun x y => tri a x y, ?_⟩
  show c a b - c a a = _
  rw [c0]; omega
theorem dual2 (a0 a1 b0 b1 : Int) (h : c a0 b0 + c a1 b1 ≤ c a0 b1 + c a1 b0) : ∃ S, Feas c S ∧ S b0 - S a0 + (S b1 - S a1) = c a0 b0 + c a1 b1 := by
  have F : Feas c fun x => min (c a0 x) (c a0 b1 - c a1 b1 + c a1 x) := fun x y => by
    have t0 := tri a0 x y
    have t1 := tri a1 x y
    show min _ _ ≤ min _ _ + _
    omega
  refine ⟨_, F, ?_⟩
  have f0 := F a0 b0
  have f1 := F a1 b1
  have s0 := c0 a0
  have s1 := c0 a1
  have e0 : min (c a0 a0) (c a0 b1 - c a1 b1 + c a1 a0) ≤ 0 := by omega
  have e1 : min (c a0 a1) (c a0 b1 - c a1 b1 + c a1 a1) ≤ c a0 b1 - c a1 b1 := by omega
  show min (c a0 b0) (c a0 b1 - c a1 b1 + c a1 b0) - min (c a0 a0) (c a0 b1 - c a1 b1 + c a1 a0) + (min (c a0 b1) (c a0 b1 - c a1 b1 + c a1 b1) - min (c a0 a1) (c a0 b1 - c a1 b1 + c a1 a1)) = _
  have f0' : min (c a0 b0) (c a0 b1 - c a1 b1 + c a1 b0) ≤ min (c a0 a0) (c a0 b1 - c a1 b1 + c a1 a0) + c a0 b0 := f0
  have f1' : min (c a0 b1) (c a0 b1 - c a1 b1 + c a1 b1) ≤ min (c a0 a1) (c a0 b1 - c a1 b1 + c a1 a1) + c a1 b1 := f1
  omega
theorem dual3 (a0 a1 a2 b0 b1 b2 : Int) (h1 : c a0 b0 + c a1 b1 ≤ c a0 b1 + c a1 b0) (h2 : c a0 b0 + c a2 b2 ≤ c a0 b2 + c a2 b0) (h3 : c a1 b1 + c a2 b2 ≤ c a1 b2 + c a2 b1)
    (h4 : c a0 b0 + c a1 b1 + c a2 b2 ≤ c a0 b1 + c a1 b2 + c a2 b0) (h5 : c a0 b0 + c a1 b1 + c a2 b2 ≤ c a0 b2 + c a2 b1 + c a1 b0) :
    ∃ S, Feas c S ∧ S b0 - S a0 + (S b1 - S a1) + (S b2 - S a2) = c a0 b0 + c a1 b1 + c a2 b2 := by
  have pot : ∃ p1 p2 : Int, p1 ≤ c a0 b1 - c a1 b1 ∧ p2 ≤ c a0 b2 - c a2 b2 ∧ p2 ≤ p1 + (c a1 b2 - c a2 b2) ∧ p1 ≤ p2 + (c a2 b1 - c a1 b1) ∧ 0 ≤ p1 + (c a1 b0 - c a0 b0) ∧ 0 ≤ p2 + (c a2 b0 - c a0 b0) := by
    refine ⟨min (c a0 b1 - c a1 b1) (c a0 b2 - c a2 b2 + (c a2 b1 - c a1 b1)), min (c a0 b2 - c a2 b2) (c a0 b1 - c a1 b1 + (c a1 b2 - c a2 b2)), ?_⟩
    omega
  obtain ⟨p1, p2, q1, q2, q3, q4, q5, q6⟩ := pot
  have F : Feas c fun x => min (c a0 x) (min (p1 + c a1 x) (p2 + c a2 x)) := fun x y => by
    have t0 := tri a0 x y
    have t1 := tri a1 x y
    have t2 := tri a2 x y
    show min _ (min _ _) ≤ min _ (min _ _) + _
    omega
  refine ⟨_, F, ?_⟩
  have f0 : min (c a0 b0) (min (p1 + c a1 b0) (p2 + c a2 b0)) ≤ min (c a0 a0) (min (p1 + c a1 a0) (p2 + c a2 a0)) + c a0 b0 := F a0 b0
  have f1 : min (c a0 b1) (min (p1 + c a1 b1) (p2 + c a2 b1)) ≤ min (c a0 a1) (min (p1 + c a1 a1) (p2 + c a2 a1)) + c a1 b1 := F a1 b1
  have f2 : min (c a0 b2) (min (p1 + c a1 b2) (p2 + c a2 b2)) ≤ min (c a0 a2) (min (p1 + c a1 a2) (p2 + c a2 a2)) + c a2 b2 := F a2 b2
  have s0 := c0 a0
  have s1 := c0 a1
  have s2 := c0 a2
  have u0 : min (c a0 a0) (min (p1 + c a1 a0) (p2 + c a2 a0)) ≤ 0 := by omega
  have u1 : min (c a0 a1) (min (p1 + c a1 a1) (p2 + c a2 a1)) ≤ p1 := by omega
  have u2 : min (c a0 a2) (min (p1 + c a1 a2) (p2 + c a2 a2)) ≤ p2 := by omega
  have v0 : c a0 b0 ≤ min (c a0 b0) (min (p1 + c a1 b0) (p2 + c a2 b0)) := by omega
  have v1 : p1 + c a1 b1 ≤ min (c a0 b1) (min (p1 + c a1 b1) (p2 + c a2 b1)) := by omega
  have v2 : p2 + c a2 b2 ≤ min (c a0 b2) (min (p1 + c a1 b2) (p2 + c a2 b2)) := by omega
  show min (c a0 b0) (min (p1 + c a1 b0) (p2 + c a2 b0)) - min (c a0 a0) (min (p1 + c a1 a0) (p2 + c a2 a0)) + (min (c a0 b1) (min (p1 + c a1 b1) (p2 + c a2 b1)) - min (c a0 a1) (min (p1 + c a1 a1) (p2 + c a2 a1))) + (min (c a0 b2) (min (p1 + c a1 b2) (p2 + c a2 b2)) - min (c a0 a2) (min (p1 + c a1 a2) (p2 + c a2 a2))) = _
  generalize min (c a0 b0) (min (p1 + c a1 b0) (p2 + c a2 b0)) = m0 at *
  generalize min (c a0 b1) (min (p1 + c a1 b1) (p2 + c a2 b1)) = m1 at *
  generalize min (c a0 b2) (min (p1 + c a1 b2) (p2 + c a2 b2)) = m2 at *
  generalize min (c a0 a0) (min (p1 + c a1 a0) (p2 + c a2 a0)) = n0 at *
  generalize min (c a0 a1) (min (p1 + c a1 a1) (p2 + c a2 a1)) = n1 at *
  generalize min (c a0 a2) (min (p1 + c a1 a2) (p2 + c a2 a2)) = n2 at *
  omega
end
theorem sum_perm {a b : List Int} (h : a.Perm b) : a.sum = b.sum := by
  induction h with
  | nil => rfl
  | cons x _ ih => rw [List.sum_cons, List.sum_cons, ih]
  | swap x y l => simp only [List.sum_cons]; omega
  | trans _ _ i j => exact i.trans j
/-- what the differences sum up to -/
def val (P : Int → Int) (ps : List (Int × Int)) : Int := (ps.map fun q => P q.2 - P q.1).sum
theorem val_split (P : Int → Int) : ∀ ps : List (Int × Int), val P ps = ((ps.map (·.2)).map P).sum - ((ps.map (·.1)).map P).sum
  | [] => rfl
  | q :: ps => by
    have := val_split P ps
    unfold val at *
    simp only [List.map_cons, List.sum_cons]
    rw [this]
    omega
theorem val_perm (P : Int → Int) {ps qs : List (Int × Int)} (h1 : qs.map (·.1) = ps.map (·.1)) (h2 : (qs.map (·.2)).Perm (ps.map (·.2))) : val P qs = val P ps := by
  rw [val_split, val_split, h1, sum_perm (h2.map P)]
/-! five ticks -/
def pre (u : List Int) (t : Int) : Int := (u.take t.toNat).sum
def cntK (u : List Int) (k : Nat → Int) (n : Nat) : Int := ((List.range n).map fun t => u.getD t 0 * k t).sum
theorem cntK_succ (u : List Int) (k : Nat → Int) (n : Nat) : cntK u k (n + 1) = cntK u k n + u.getD n 0 * k n := by
  unfold cntK
  rw [List.range_succ, List.map_append, List.sum_append]
  simp
theorem cntK_add (u : List Int) (k j : Nat → Int) : ∀ n, cntK u (fun t => k t + j t) n = cntK u k n + cntK u j n
  | 0 => rfl
  | n + 1 => by rw [cntK_succ, cntK_succ, cntK_succ, cntK_add u k j n, Int.mul_add]; omega
theorem cntK_zero (u : List Int) : ∀ n, cntK u (fun _ => 0) n = 0
  | 0 => rfl
  | n + 1 => by rw [cntK_succ, cntK_zero u n, Int.mul_zero]; rfl
theorem cnt_in {x0 x1 x2 x3 x4 A Z : Int} (hA : 0 ≤ A) (hZ : Z ≤ 5) : cntK [x0, x1, x2, x3, x4] (fun t => if A ≤ (t : Int) ∧ (t : Int) < Z then 1 else 0) 5 = if A < Z then pre [x0, x1, x2, x3, x4] Z - pre [x0, x1, x2, x3, x4] A else 0 := by
  have e : ∀ (k : Nat → Int), cntK [x0, x1, x2, x3, x4] k 5 = x0 * k 0 + x1 * k 1 + x2 * k 2 + x3 * k 3 + x4 * k 4 := fun k => by
    rw [cntK_succ, cntK_succ, cntK_succ, cntK_succ, cntK_succ]
    show 0 + x0 * k 0 + x1 * k 1 + x2 * k 2 + x3 * k 3 + x4 * k 4 = _
    omega
  rw [e]
  have p0 : pre [x0, x1, x2, x3, x4] 0 = 0 := rfl
  have p1 : pre [x0, x1, x2, x3, x4] 1 = x0 := by simp [pre]
  have p2 : pre [x0, x1, x2, x3, x4] 2 = x0 + x1 := by simp [pre]
  have p3 : pre [x0, x1, x2, x3, x4] 3 = x0 + x1 + x2 := by simp [pre]; omega
  have p4 : pre [x0, x1, x2, x3, x4] 4 = x0 + x1 + x2 + x3 := by simp [pre]; omega
  have p5 : pre [x0, x1, x2, x3, x4] 5 = x0 + x1 + x2 + x3 + x4 := by simp [pre]; omega
  by_cases c : A < Z
  · rw [if_pos c]
    have hA' : A = 0 ∨ A = 1 ∨ A = 2 ∨ A = 3 ∨ A = 4 := by omega
    have hZ' : Z = 1 ∨ Z = 2 ∨ Z = 3 ∨ Z = 4 ∨ Z = 5 := by omega
    rcases hA' with rfl | rfl | rfl | rfl | rfl <;> rcases hZ' with rfl | rfl | rfl | rfl | rfl <;> first | (exfalso; omega) | (rw [p0]; simp [p1, p2, p3, p4, p5] <;> omega) | (simp [p0, p1, p2, p3, p4, p5] <;> omega)
  · rw [if_neg c]
    have z : ∀ t : Int, ¬ (A ≤ t ∧ t < Z) := fun t h => by omega
    simp only [if_neg (z _), Int.mul_zero]
    rfl
end VLp

/-! Plain: all records of five ticks. -/
namespace VLp
theorem sum_slice (u : List Int) {i j : Nat} (h : i ≤ j) : ((u.take j).drop i).sum = pre u j - pre u i := by
  have e : (u.take j) = u.take i ++ (u.take j).drop i := by
    have := List.take_append_drop i (u.take j)
    rw [List.take_take, Nat.min_eq_left h] at this
    exact this.symm
  have s := congrArg List.sum e
  rw [List.sum_append] at s
  unfold pre
  rw [Int.toNat_natCast, Int.toNat_natCast]
  omega
def KeepP (f : Int → Int) (u : List Int) : Prop := ∀ i j : Nat, i < j → j ≤ u.length → pre u j - pre u i ≤ f ((j : Int) - i)
theorem KeepP.nil (f : Int → Int) : KeepP f [] := fun i j h1 h2 => by simp at h2; omega
theorem pre_take (u : List Int) (k : Nat) {i : Nat} (h : i ≤ k) : pre (u.take k) i = pre u i := by
  unfold pre
  rw [Int.toNat_natCast, List.take_take, Nat.min_eq_left h]
theorem KeepP.take {f : Int → Int} {u : List Int} (h : KeepP f u) (k : Nat) : KeepP f (u.take k) := fun i j h1 h2 => by
  rw [List.length_take] at h2
  have hk : j ≤ k := Nat.le_trans h2 (Nat.min_le_left _ _)
  have hl : j ≤ u.length := Nat.le_trans h2 (Nat.min_le_right _ _)
  rw [pre_take u k hk, pre_take u k (by omega)]
  exact h i j h1 hl
open Classical in
noncomputable def recsM (f : Int → Int) (m : Nat) : Nat → List (List Int)
  | 0 => [[]]
  | k + 1 => ((recsM f m k).flatMap fun u => (List.range m).map fun (x : Nat) => u ++ [(x : Int)]).filter fun u => decide (KeepP f u)
theorem recs_of {f : Int → Int} {m : Nat} : ∀ {k : Nat} {u : List Int}, u ∈ recsM f m k → u.length = k ∧ (∀ x ∈ u, 0 ≤ x) ∧ KeepP f u
  | 0, u, h => by
    rw [recsM, List.mem_singleton] at h
    subst h
    exact ⟨rfl, (fun x hx => nomatch hx), KeepP.nil f⟩
  | k + 1, u, h => by
    rw [recsM, List.mem_filter] at h
    obtain ⟨h1, h2⟩ := h
    obtain ⟨v, hv, h3⟩ := List.mem_flatMap.mp h1
    obtain ⟨x, hx, rfl⟩ := List.mem_map.mp h3
    obtain ⟨a, b, _⟩ := recs_of hv
    refine ⟨by rw [List.length_append, a]; rfl, fun y hy => ?_, @of_decide_eq_true _ (Classical.propDecidable _) h2⟩
    rcases List.mem_append.mp hy with hy | hy
    · exact b y hy
    · rw [List.mem_singleton.mp hy]; exact Int.natCast_nonneg x
theorem recs_in {f : Int → Int} {m : Nat} : ∀ {k : Nat} {u : List Int}, u.length = k → (∀ x ∈ u, 0 ≤ x ∧ x < m) → KeepP f u → u ∈ recsM f m k
  | 0, u, h, _, _ => by
    rw [List.eq_nil_of_length_eq_zero h, recsM]
    exact List.mem_singleton.mpr rfl
  | k + 1, u, h, hx, hk => by
    rw [recsM, List.mem_filter]
    refine ⟨?_, @decide_eq_true _ (Classical.propDecidable _) hk⟩
    have hne : u ≠ [] := fun e => by rw [e] at h; simp at h
    have e : u.dropLast ++ [u.getLast hne] = u := List.dropLast_concat_getLast hne
    have el : u.dropLast = u.take k := by rw [List.dropLast_eq_take, h]; rfl
    have hl := hx _ (List.getLast_mem hne)
    refine List.mem_flatMap.mpr ⟨u.dropLast, recs_in (by rw [List.length_dropLast, h]; rfl) (fun x hx' => hx x (List.dropLast_subset _ hx')) (by rw [el]; exact hk.take k), ?_⟩
    refine List.mem_map.mpr ⟨(u.getLast hne).toNat, List.mem_range.mpr (by omega), ?_⟩
    rw [Int.toNat_of_nonneg hl.1]
    exact e
theorem recs_len {f : Int → Int} {m : Nat} : ∀ k, (recsM f m k).length ≤ m ^ k
  | 0 => Nat.le_refl _
  | k + 1 => by
    rw [recsM]
    refine Nat.le_trans (List.length_filter_le _ _) ?_
    rw [List.length_flatMap]
    have ih := recs_len (f := f) (m := m) k
    have : ∀ l : List (List Int), (l.map fun u => ((List.range m).map fun (x : Nat) => u ++ [(x : Int)]).length).sum = l.length * m := by
      intro l
      induction l with
      | nil => simp
      | cons u l ih => rw [List.map_cons, List.sum_cons, ih, List.length_map, List.length_range, List.length_cons, Nat.succ_mul]; omega
    rw [this, Nat.pow_succ]
    exact Nat.mul_le_mul_right _ ih
/-- a record that keeps the curve has no more between two ticks than may enter -/
theorem keep_cst {f : Int → Int} {u : List Int} (h0 : ∀ x ∈ u, 0 ≤ x) (hk : KeepP f u) {a b : Int} (a0 : 0 ≤ a) (a1 : a ≤ u.length) (b0 : 0 ≤ b) (b1 : b ≤ u.length) : pre u b - pre u a ≤ cst f a b := by
  unfold cst
  by_cases c : b > a
  · rw [if_pos c]
    have := hk a.toNat b.toNat (by omega) (by omega)
    rw [Int.toNat_of_nonneg a0, Int.toNat_of_nonneg b0] at this
    exact this
  · rw [if_neg c]
    have : ∀ (v : List Int), (∀ x ∈ v, 0 ≤ x) → 0 ≤ v.sum := by
      intro v hv
      induction v with
      | nil => exact Int.le_refl _
      | cons x v ih =>
        rw [List.sum_cons]
        have i1 := ih fun y hy => hv y (List.mem_cons_of_mem _ hy)
        have i2 := hv x (List.mem_cons_self ..)
        omega
    have s := sum_slice u (i := b.toNat) (j := a.toNat) (by omega)
    rw [Int.toNat_of_nonneg a0, Int.toNat_of_nonneg b0] at s
    have n := this ((u.take a.toNat).drop b.toNat) fun x hx => h0 x (List.mem_of_mem_take (List.mem_of_mem_drop hx))
    omega
def recS (S : Int → Int) : List Int := [S 1 - S 0, S 2 - S 1, S 3 - S 2, S 4 - S 3, S 5 - S 4]
theorem pre_recS (S : Int → Int) (t : Int) (h0 : 0 ≤ t) (h1 : t ≤ 5) : pre (recS S) t = S t - S 0 := by
  have : t = 0 ∨ t = 1 ∨ t = 2 ∨ t = 3 ∨ t = 4 ∨ t = 5 := by omega
  rcases this with rfl | rfl | rfl | rfl | rfl | rfl
  · show (0 : Int) = _; omega
  · simp [pre, recS]
  · simp [pre, recS]; omega
  · simp [pre, recS]; omega
  · simp [pre, recS]; omega
  · simp [pre, recS]; omega
theorem recS_ok {f : Int → Int} {S : Int → Int} (F : Feas (cst f) S) : (∀ x ∈ recS S, 0 ≤ x ∧ x ≤ f 1) ∧ KeepP f (recS S) := by
  have up : ∀ t, 0 ≤ S (t + 1) - S t ∧ S (t + 1) - S t ≤ f 1 := fun t => by
    have a := F (t + 1) t
    have b := F t (t + 1)
    rw [cst, if_neg (by omega)] at a
    rw [cst, if_pos (by omega), show t + 1 - t = 1 by omega] at b
    omega
  refine ⟨fun x hx => ?_, fun i j h1 h2 => ?_⟩
  · simp only [recS, List.mem_cons, List.not_mem_nil, or_false] at hx
    rcases hx with rfl | rfl | rfl | rfl | rfl
    · exact up 0
    · exact up 1
    · exact up 2
    · exact up 3
    · exact up 4
  · have h5 : j ≤ 5 := h2
    rw [pre_recS S j (by omega) (by omega), pre_recS S i (by omega) (by omega)]
    have b := F i j
    rw [cst, if_pos (by omega)] at b
    omega
end VLp

namespace VK
open PySem PySem.Spec PyProof.Rows L2 VM
def top (i : Nat) : Stmt := PySem.Challenge.pw_dueways_k33_whole_demands_by_all_records.main.body.getD i (.Pass ⟨0, 0, 0, 0⟩)
abbrev s_is_integer : Stmt := top 13
theorem sc_is_integer : FnScope ["value"] ["value"] (defScope s_is_integer) := ⟨rfl, rfl, rfl, by decide +kernel, rfl, by decide +kernel, by decide +kernel⟩
abbrev s_is_count : Stmt := top 14
theorem sc_is_count : FnScope ["value"] ["value"] (defScope s_is_count) := ⟨rfl, rfl, rfl, by decide +kernel, rfl, by decide +kernel, by decide +kernel⟩
abbrev s_is_count_to : Stmt := top 15
theorem sc_is_count_to : FnScope ["value", "most"] ["value", "most"] (defScope s_is_count_to) := ⟨rfl, rfl, rfl, by decide +kernel, rfl, by decide +kernel, by decide +kernel⟩
abbrev s_rounded_up : Stmt := top 16
theorem sc_rounded_up : FnScope ["units", "parts"] ["units", "parts"] (defScope s_rounded_up) := ⟨rfl, rfl, rfl, by decide +kernel, rfl, by decide +kernel, by decide +kernel⟩
abbrev s_is_window : Stmt := top 20
theorem sc_is_window : FnScope ["start", "end"] ["start", "end"] (defScope s_is_window) := ⟨rfl, rfl, rfl, by decide +kernel, rfl, by decide +kernel, by decide +kernel⟩
abbrev s_require_window : Stmt := top 21
theorem sc_require_window : FnScope ["start", "end"] ["start", "end"] (defScope s_require_window) := ⟨rfl, rfl, rfl, by decide +kernel, rfl, by decide +kernel, by decide +kernel⟩
abbrev s_require_tick : Stmt := top 19
theorem sc_require_tick : FnScope ["value"] ["value"] (defScope s_require_tick) := ⟨rfl, rfl, rfl, by decide +kernel, rfl, by decide +kernel, by decide +kernel⟩
abbrev s_value_at : Stmt := top 23
theorem sc_value_at : FnScope ["values", "period", "gain", "length", "rounds"] ["values", "period", "gain", "length"] (defScope s_value_at) := ⟨rfl, rfl, rfl, by decide +kernel, rfl, by decide +kernel, by decide +kernel⟩
abbrev s_least_form : Stmt := top 24
theorem sc_least_form : FnScope ["values", "period", "gain", "many", "row", "least", "step", "length"] ["values", "period", "gain"] (defScope s_least_form) := ⟨rfl, rfl, rfl, by decide +kernel, rfl, by decide +kernel, by decide +kernel⟩
abbrev s_least_period : Stmt := top 25
theorem sc_least_period : FnScope ["row", "many", "period", "least", "steps", "length"] ["row", "many", "period"] (defScope s_least_period) := ⟨rfl, rfl, rfl, by decide +kernel, rfl, by decide +kernel, by decide +kernel⟩
abbrev s_C_init : Stmt := inClass (top 30) 0
theorem sc_C_init : FnScope ["self", "values", "period", "gain", "wrong", "form", "least", "step"] ["self", "values", "period", "gain"] (defScope s_C_init) := ⟨rfl, rfl, rfl, by decide +kernel, rfl, by decide +kernel, by decide +kernel⟩
abbrev s_C_at : Stmt := inClass (top 30) 10
theorem sc_C_at : FnScope ["self", "length"] ["self", "length"] (defScope s_C_at) := ⟨rfl, rfl, rfl, by decide +kernel, rfl, by decide +kernel, by decide +kernel⟩
abbrev s_C_first_values : Stmt := inClass (top 30) 9
theorem sc_C_first_values : FnScope ["self"] ["self"] (defScope s_C_first_values) := ⟨rfl, rfl, rfl, by decide +kernel, rfl, by decide +kernel, by decide +kernel⟩
abbrev s_first_break : Stmt := top 32
theorem sc_first_break : FnScope ["curve", "many", "row", "total", "first", "length"] ["curve"] (defScope s_first_break) := ⟨rfl, rfl, rfl, by decide +kernel, rfl, by decide +kernel, by decide +kernel⟩
abbrev s_C_find_break : Stmt := inClass (top 30) 12
theorem sc_C_find_break : FnScope ["self"] ["self"] (defScope s_C_find_break) := ⟨rfl, rfl, rfl, by decide +kernel, rfl, by decide +kernel, by decide +kernel⟩
abbrev s_require_good : Stmt := top 33
theorem sc_require_good : FnScope ["curve", "found"] ["curve"] (defScope s_require_good) := ⟨rfl, rfl, rfl, by decide +kernel, rfl, by decide +kernel, by decide +kernel⟩
abbrev s_find_problem : Stmt := top 34
theorem sc_find_problem : FnScope ["values", "period", "gain", "before", "position", "value"] ["values", "period", "gain"] (defScope s_find_problem) := ⟨rfl, rfl, rfl, by decide +kernel, rfl, by decide +kernel, by decide +kernel⟩
abbrev s_cost : Stmt := top 38
theorem sc_cost : FnScope ["curve", "first", "behind"] ["curve", "first", "behind"] (defScope s_cost) := ⟨rfl, rfl, rfl, by decide +kernel, rfl, by decide +kernel, by decide +kernel⟩
abbrev s_total_cost : Stmt := top 39
theorem sc_total_cost : FnScope ["curve", "matches", "first", "behind"] ["curve", "matches"] (defScope s_total_cost) := ⟨rfl, rfl, rfl, by decide +kernel, rfl, by decide +kernel, by decide +kernel⟩
abbrev s_least_cost : Stmt := top 40
theorem sc_least_cost : FnScope ["curve", "stretches", "first", "behind"] ["curve", "stretches"] (defScope s_least_cost) := ⟨rfl, rfl, rfl, by decide +kernel, rfl, by decide +kernel, by decide +kernel⟩
abbrev s_least_matching : Stmt := top 41
theorem sc_least_matching : FnScope ["curve", "stretches", "firsts", "behinds", "best", "least", "sequence", "matches", "total", "first", "_", "behind"] ["curve", "stretches"] (defScope s_least_matching) := ⟨rfl, rfl, rfl, by decide +kernel, rfl, by decide +kernel, by decide +kernel⟩
abbrev s_urgent_stretch : Stmt := top 43
theorem sc_urgent_stretch : FnScope ["visit", "start", "end"] ["visit", "start", "end"] (defScope s_urgent_stretch) := ⟨rfl, rfl, rfl, by decide +kernel, rfl, by decide +kernel, by decide +kernel⟩
abbrev s_placed_stretch : Stmt := top 44
theorem sc_placed_stretch : FnScope ["visit", "tick"] ["visit", "tick"] (defScope s_placed_stretch) := ⟨rfl, rfl, rfl, by decide +kernel, rfl, by decide +kernel, by decide +kernel⟩
abbrev s_stretch_from : Stmt := top 45
theorem sc_stretch_from : FnScope ["visit", "first", "behind"] ["visit", "first", "behind"] (defScope s_stretch_from) := ⟨rfl, rfl, rfl, by decide +kernel, rfl, by decide +kernel, by decide +kernel⟩
abbrev s_urgent_stretches : Stmt := top 46
theorem sc_urgent_stretches : FnScope ["visits", "start", "end", "found", "visit", "one"] ["visits", "start", "end"] (defScope s_urgent_stretches) := ⟨rfl, rfl, rfl, by decide +kernel, rfl, by decide +kernel, by decide +kernel⟩
abbrev s_placed_stretches : Stmt := top 47
theorem sc_placed_stretches : FnScope ["visits", "tick", "found", "visit", "one"] ["visits", "tick"] (defScope s_placed_stretches) := ⟨rfl, rfl, rfl, by decide +kernel, rfl, by decide +kernel, by decide +kernel⟩
abbrev s_Visit_init : Stmt := inClass (top 51) 0
theorem sc_Visit_init : FnScope ["self", "time", "shift", "begin", "end", "wrong"] ["self", "time", "shift", "begin", "end"] (defScope s_Visit_init) := ⟨rfl, rfl, rfl, by decide +kernel, rfl, by decide +kernel, by decide +kernel⟩
abbrev s_Visit_time : Stmt := inClass (top 51) 3
theorem sc_Visit_time : FnScope ["self"] ["self"] (defScope s_Visit_time) := ⟨rfl, rfl, rfl, by decide +kernel, rfl, by decide +kernel, by decide +kernel⟩
abbrev s_Visit_shift : Stmt := inClass (top 51) 4
theorem sc_Visit_shift : FnScope ["self"] ["self"] (defScope s_Visit_shift) := ⟨rfl, rfl, rfl, by decide +kernel, rfl, by decide +kernel, by decide +kernel⟩
abbrev s_Visit_begin : Stmt := inClass (top 51) 5
theorem sc_Visit_begin : FnScope ["self"] ["self"] (defScope s_Visit_begin) := ⟨rfl, rfl, rfl, by decide +kernel, rfl, by decide +kernel, by decide +kernel⟩
abbrev s_Visit_end : Stmt := inClass (top 51) 6
theorem sc_Visit_end : FnScope ["self"] ["self"] (defScope s_Visit_end) := ⟨rfl, rfl, rfl, by decide +kernel, rfl, by decide +kernel, by decide +kernel⟩
abbrev s_Load_init : Stmt := inClass (top 52) 0
theorem sc_Load_init : FnScope ["self", "curve", "visits", "wrong"] ["self", "curve", "visits"] (defScope s_Load_init) := ⟨rfl, rfl, rfl, by decide +kernel, rfl, by decide +kernel, by decide +kernel⟩
abbrev s_Load_curve : Stmt := inClass (top 52) 1
theorem sc_Load_curve : FnScope ["self"] ["self"] (defScope s_Load_curve) := ⟨rfl, rfl, rfl, by decide +kernel, rfl, by decide +kernel, by decide +kernel⟩
abbrev s_Load_visits : Stmt := inClass (top 52) 2
theorem sc_Load_visits : FnScope ["self"] ["self"] (defScope s_Load_visits) := ⟨rfl, rfl, rfl, by decide +kernel, rfl, by decide +kernel, by decide +kernel⟩
abbrev s_demand : Stmt := top 53
theorem sc_demand : FnScope ["load", "start", "end"] ["load", "start", "end"] (defScope s_demand) := ⟨rfl, rfl, rfl, by decide +kernel, rfl, by decide +kernel, by decide +kernel⟩
abbrev s_find_visit_problem : Stmt := top 54
theorem sc_find_visit_problem : FnScope ["time", "shift", "begin", "end"] ["time", "shift", "begin", "end"] (defScope s_find_visit_problem) := ⟨rfl, rfl, rfl, by decide +kernel, rfl, by decide +kernel, by decide +kernel⟩
abbrev s_find_wrong_visit : Stmt := top 55
theorem sc_find_wrong_visit : FnScope ["visits", "position", "visit"] ["visits"] (defScope s_find_wrong_visit) := ⟨rfl, rfl, rfl, by decide +kernel, rfl, by decide +kernel, by decide +kernel⟩
abbrev s_places : Stmt := top 57
theorem sc_places : FnScope ["loads", "tick", "load"] ["loads", "tick"] (defScope s_places) := ⟨rfl, rfl, rfl, by decide +kernel, rfl, by decide +kernel, by decide +kernel⟩
abbrev s_l_rng : Stmt := top 59
theorem sc_l_rng : FnScope ["_law_script", "_law_k", "_law_cell"] ["_law_script", "_law_k"] (defScope s_l_rng) := ⟨rfl, rfl, rfl, by decide +kernel, rfl, by decide +kernel, by decide +kernel⟩
abbrev s_l_draw : Stmt := top 60
theorem sc_l_draw : FnScope ["_law_rng_here", "_law_many", "_law_digit"] ["_law_rng_here", "_law_many"] (defScope s_l_draw) := ⟨rfl, rfl, rfl, by decide +kernel, rfl, by decide +kernel, by decide +kernel⟩
abbrev s_l_choice : Stmt := top 61
theorem sc_l_choice : FnScope ["_law_rng_here", "_law_some"] ["_law_rng_here", "_law_some"] (defScope s_l_choice) := ⟨rfl, rfl, rfl, by decide +kernel, rfl, by decide +kernel, by decide +kernel⟩
abbrev s_l_at : Stmt := top 62
theorem sc_l_at : FnScope ["_law_row_here", "_law_length", "_law_nums", "_law_every", "_law_more", "_law_rounds"] ["_law_row_here", "_law_length"] (defScope s_l_at) := ⟨rfl, rfl, rfl, by decide +kernel, rfl, by decide +kernel, by decide +kernel⟩
abbrev s_l_is_good : Stmt := top 63
theorem sc_l_is_good : FnScope ["_law_row_here", "_law_many", "_law_one", "_law_other"] ["_law_row_here"] (defScope s_l_is_good) := ⟨rfl, rfl, rfl, by decide +kernel, rfl, by decide +kernel, by decide +kernel⟩
abbrev s_l_rows : Stmt := top 64
theorem sc_l_rows : FnScope ["_law_rows_here"] [] (defScope s_l_rows) := ⟨rfl, rfl, rfl, by decide +kernel, rfl, by decide +kernel, by decide +kernel⟩
abbrev s_l_row : Stmt := top 65
theorem sc_l_row : FnScope ["_law_rng_here", "_law_nums", "_law_turn", "_law_every", "_law_least", "_law_row_here", "_law_one"] ["_law_rng_here"] (defScope s_l_row) := ⟨rfl, rfl, rfl, by decide +kernel, rfl, by decide +kernel, by decide +kernel⟩
abbrev s_l_keeps : Stmt := top 66
theorem sc_l_keeps : FnScope ["_law_row_here", "_law_record", "_law_start", "_law_stop"] ["_law_row_here", "_law_record"] (defScope s_l_keeps) := ⟨rfl, rfl, rfl, by decide +kernel, rfl, by decide +kernel, by decide +kernel⟩
abbrev s_l_records : Stmt := top 67
theorem sc_l_records : FnScope ["_law_row_here", "_law_many", "_law_found", "_law_turn", "_law_longer", "_law_record", "_law_units"] ["_law_row_here", "_law_many"] (defScope s_l_records) := ⟨rfl, rfl, rfl, by decide +kernel, rfl, by decide +kernel, by decide +kernel⟩
abbrev s_l_parts : Stmt := top 68
theorem sc_l_parts : FnScope ["_law_rng_here", "_law_since"] ["_law_rng_here"] (defScope s_l_parts) := ⟨rfl, rfl, rfl, by decide +kernel, rfl, by decide +kernel, by decide +kernel⟩
abbrev s_l_urgent : Stmt := top 69
theorem sc_l_urgent : FnScope ["_law_parts_here", "_law_tick", "_law_low", "_law_high", "_law_out"] ["_law_parts_here", "_law_tick", "_law_low", "_law_high"] (defScope s_l_urgent) := ⟨rfl, rfl, rfl, by decide +kernel, rfl, by decide +kernel, by decide +kernel⟩
abbrev s_l_placed : Stmt := top 70
theorem sc_l_placed : FnScope ["_law_parts_here", "_law_tick", "_law_now", "_law_out"] ["_law_parts_here", "_law_tick", "_law_now"] (defScope s_l_placed) := ⟨rfl, rfl, rfl, by decide +kernel, rfl, by decide +kernel, by decide +kernel⟩
abbrev s_l_count : Stmt := top 71
theorem sc_l_count : FnScope ["_law_some", "_law_record", "_law_low", "_law_high", "_law_found", "_law_tick", "_law_parts_here"] ["_law_some", "_law_record", "_law_low", "_law_high"] (defScope s_l_count) := ⟨rfl, rfl, rfl, by decide +kernel, rfl, by decide +kernel, by decide +kernel⟩
abbrev s_l_count_places : Stmt := top 72
theorem sc_l_count_places : FnScope ["_law_some", "_law_record", "_law_now", "_law_found", "_law_tick", "_law_parts_here"] ["_law_some", "_law_record", "_law_now"] (defScope s_l_count_places) := ⟨rfl, rfl, rfl, by decide +kernel, rfl, by decide +kernel, by decide +kernel⟩
abbrev s_l_right : Stmt := top 73
theorem sc_l_right : FnScope ["_law_rng_here", "_law_row_here", "_law_some", "_law_made", "_law_load", "_law_records_here", "_law_turn", "_law_low", "_law_high", "_law_due", "_law_now", "_law_parts_here", "_law_record"] ["_law_rng_here"] (defScope s_l_right) := ⟨rfl, rfl, rfl, by decide +kernel, rfl, by decide +kernel, by decide +kernel⟩
abbrev s_law : Stmt := top 74
theorem sc_law : FnScope ["_law_script", "_law_k"] ["_law_script"] (defScope s_law) := ⟨rfl, rfl, rfl, by decide +kernel, rfl, by decide +kernel, by decide +kernel⟩
structure Ad where
  f_is_integer : Addr
  d_is_integer : FuncData
  f_is_count : Addr
  d_is_count : FuncData
  f_is_count_to : Addr
  d_is_count_to : FuncData
  f_rounded_up : Addr
  d_rounded_up : FuncData
  f_is_window : Addr
  d_is_window : FuncData
  f_require_window : Addr
  d_require_window : FuncData
  f_require_tick : Addr
  d_require_tick : FuncData
  f_value_at : Addr
  d_value_at : FuncData
  f_least_form : Addr
  d_least_form : FuncData
  f_least_period : Addr
  d_least_period : FuncData
  f_C_init : Addr
  d_C_init : FuncData
  f_C_at : Addr
  d_C_at : FuncData
  f_C_first_values : Addr
  d_C_first_values : FuncData
  f_first_break : Addr
  d_first_break : FuncData
  f_C_find_break : Addr
  d_C_find_break : FuncData
  f_require_good : Addr
  d_require_good : FuncData
  f_find_problem : Addr
  d_find_problem : FuncData
  f_cost : Addr
  d_cost : FuncData
  f_total_cost : Addr
  d_total_cost : FuncData
  f_least_cost : Addr
  d_least_cost : FuncData
  f_least_matching : Addr
  d_least_matching : FuncData
  f_urgent_stretch : Addr
  d_urgent_stretch : FuncData
  f_placed_stretch : Addr
  d_placed_stretch : FuncData
  f_stretch_from : Addr
  d_stretch_from : FuncData
  f_urgent_stretches : Addr
  d_urgent_stretches : FuncData
  f_placed_stretches : Addr
  d_placed_stretches : FuncData
  f_Visit_init : Addr
  d_Visit_init : FuncData
  f_Visit_time : Addr
  d_Visit_time : FuncData
  p_Visit_time : Addr
  f_Visit_shift : Addr
  d_Visit_shift : FuncData
  p_Visit_shift : Addr
  f_Visit_begin : Addr
  d_Visit_begin : FuncData
  p_Visit_begin : Addr
  f_Visit_end : Addr
  d_Visit_end : FuncData
  p_Visit_end : Addr
  f_Load_init : Addr
  d_Load_init : FuncData
  f_Load_curve : Addr
  d_Load_curve : FuncData
  p_Load_curve : Addr
  f_Load_visits : Addr
  d_Load_visits : FuncData
  f_demand : Addr
  d_demand : FuncData
  f_find_visit_problem : Addr
  d_find_visit_problem : FuncData
  f_find_wrong_visit : Addr
  d_find_wrong_visit : FuncData
  f_places : Addr
  d_places : FuncData
  f_l_rng : Addr
  d_l_rng : FuncData
  f_l_draw : Addr
  d_l_draw : FuncData
  f_l_choice : Addr
  d_l_choice : FuncData
  f_l_at : Addr
  d_l_at : FuncData
  f_l_is_good : Addr
  d_l_is_good : FuncData
  f_l_rows : Addr
  d_l_rows : FuncData
  f_l_row : Addr
  d_l_row : FuncData
  f_l_keeps : Addr
  d_l_keeps : FuncData
  f_l_records : Addr
  d_l_records : FuncData
  f_l_parts : Addr
  d_l_parts : FuncData
  f_l_urgent : Addr
  d_l_urgent : FuncData
  f_l_placed : Addr
  d_l_placed : FuncData
  f_l_count : Addr
  d_l_count : FuncData
  f_l_count_places : Addr
  d_l_count_places : FuncData
  f_l_right : Addr
  d_l_right : FuncData
  f_law : Addr
  d_law : FuncData
  Curve : Addr
  Visit : Addr
  Load : Addr
  t_MAX_VALUES : Tok
  t_MAX_VALUE : Tok
  t_MAX_TIME : Tok
  t_MAX_TICK : Tok
  t_MAX_VISITS : Tok
  a_PERIODS : Addr
structure Txt (K : PySem.W.Frag) (mg : Str → Option Value) (A : Ad) : Prop where
  typ_permutations : mg "permutations" = some (.type "itertools.permutations")
  ic_Visit : VN.IsC K A.Visit
  F_is_integer : Fun K "is_integer" "is_integer" s_is_integer A.f_is_integer A.d_is_integer
  m_is_integer : mg "is_integer" = some (.ref A.f_is_integer)
  k_is_integer : PySem.W.keepIn K (.ref A.f_is_integer) = true
  b_is_integer : Binds K A.d_is_integer ["value"] []
  F_is_count : Fun K "is_count" "is_count" s_is_count A.f_is_count A.d_is_count
  m_is_count : mg "is_count" = some (.ref A.f_is_count)
  k_is_count : PySem.W.keepIn K (.ref A.f_is_count) = true
  b_is_count : Binds K A.d_is_count ["value"] []
  F_is_count_to : Fun K "is_count_to" "is_count_to" s_is_count_to A.f_is_count_to A.d_is_count_to
  m_is_count_to : mg "is_count_to" = some (.ref A.f_is_count_to)
  k_is_count_to : PySem.W.keepIn K (.ref A.f_is_count_to) = true
  b_is_count_to : Binds K A.d_is_count_to ["value", "most"] []
  F_rounded_up : Fun K "rounded_up" "rounded_up" s_rounded_up A.f_rounded_up A.d_rounded_up
  m_rounded_up : mg "rounded_up" = some (.ref A.f_rounded_up)
  k_rounded_up : PySem.W.keepIn K (.ref A.f_rounded_up) = true
  b_rounded_up : Binds K A.d_rounded_up ["units", "parts"] []
  F_is_window : Fun K "is_window" "is_window" s_is_window A.f_is_window A.d_is_window
  m_is_window : mg "is_window" = some (.ref A.f_is_window)
  k_is_window : PySem.W.keepIn K (.ref A.f_is_window) = true
  b_is_window : Binds K A.d_is_window ["start", "end"] []
  F_require_window : Fun K "require_window" "require_window" s_require_window A.f_require_window A.d_require_window
  m_require_window : mg "require_window" = some (.ref A.f_require_window)
  k_require_window : PySem.W.keepIn K (.ref A.f_require_window) = true
  b_require_window : Binds K A.d_require_window ["start", "end"] []
  F_require_tick : Fun K "require_tick" "require_tick" s_require_tick A.f_require_tick A.d_require_tick
  m_require_tick : mg "require_tick" = some (.ref A.f_require_tick)
  k_require_tick : PySem.W.keepIn K (.ref A.f_require_tick) = true
  b_require_tick : Binds K A.d_require_tick ["value"] []
  F_value_at : Fun K "value_at" "value_at" s_value_at A.f_value_at A.d_value_at
  m_value_at : mg "value_at" = some (.ref A.f_value_at)
  k_value_at : PySem.W.keepIn K (.ref A.f_value_at) = true
  b_value_at : Binds K A.d_value_at ["values", "period", "gain", "length"] []
  F_least_form : Fun K "least_form" "least_form" s_least_form A.f_least_form A.d_least_form
  m_least_form : mg "least_form" = some (.ref A.f_least_form)
  k_least_form : PySem.W.keepIn K (.ref A.f_least_form) = true
  b_least_form : Binds K A.d_least_form ["values", "period", "gain"] []
  F_least_period : Fun K "least_period" "least_period" s_least_period A.f_least_period A.d_least_period
  m_least_period : mg "least_period" = some (.ref A.f_least_period)
  k_least_period : PySem.W.keepIn K (.ref A.f_least_period) = true
  b_least_period : Binds K A.d_least_period ["row", "many", "period"] []
  F_C_at : Fun K "at" "Curve.at" s_C_at A.f_C_at A.d_C_at
  b_C_at : Binds K A.d_C_at ["self", "length"] []
  me_at : Meth K A.Curve "at" A.f_C_at
  F_C_first_values : Fun K "first_values" "Curve.first_values" s_C_first_values A.f_C_first_values A.d_C_first_values
  b_C_first_values : Binds K A.d_C_first_values ["self"] []
  me_first_values : Meth K A.Curve "first_values" A.f_C_first_values
  F_first_break : Fun K "first_break" "first_break" s_first_break A.f_first_break A.d_first_break
  m_first_break : mg "first_break" = some (.ref A.f_first_break)
  k_first_break : PySem.W.keepIn K (.ref A.f_first_break) = true
  b_first_break : Binds K A.d_first_break ["curve"] []
  F_C_find_break : Fun K "find_break" "Curve.find_break" s_C_find_break A.f_C_find_break A.d_C_find_break
  b_C_find_break : Binds K A.d_C_find_break ["self"] []
  me_find_break : Meth K A.Curve "find_break" A.f_C_find_break
  F_require_good : Fun K "require_good" "require_good" s_require_good A.f_require_good A.d_require_good
  m_require_good : mg "require_good" = some (.ref A.f_require_good)
  k_require_good : PySem.W.keepIn K (.ref A.f_require_good) = true
  b_require_good : Binds K A.d_require_good ["curve"] []
  F_find_problem : Fun K "find_problem" "find_problem" s_find_problem A.f_find_problem A.d_find_problem
  m_find_problem : mg "find_problem" = some (.ref A.f_find_problem)
  k_find_problem : PySem.W.keepIn K (.ref A.f_find_problem) = true
  b_find_problem : Binds K A.d_find_problem ["values", "period", "gain"] []
  F_cost : Fun K "cost" "cost" s_cost A.f_cost A.d_cost
  m_cost : mg "cost" = some (.ref A.f_cost)
  k_cost : PySem.W.keepIn K (.ref A.f_cost) = true
  b_cost : Binds K A.d_cost ["curve", "first", "behind"] []
  F_total_cost : Fun K "total_cost" "total_cost" s_total_cost A.f_total_cost A.d_total_cost
  m_total_cost : mg "total_cost" = some (.ref A.f_total_cost)
  k_total_cost : PySem.W.keepIn K (.ref A.f_total_cost) = true
  b_total_cost : Binds K A.d_total_cost ["curve", "matches"] []
  F_least_cost : Fun K "least_cost" "least_cost" s_least_cost A.f_least_cost A.d_least_cost
  m_least_cost : mg "least_cost" = some (.ref A.f_least_cost)
  k_least_cost : PySem.W.keepIn K (.ref A.f_least_cost) = true
  b_least_cost : Binds K A.d_least_cost ["curve", "stretches"] []
  F_least_matching : Fun K "least_matching" "least_matching" s_least_matching A.f_least_matching A.d_least_matching
  m_least_matching : mg "least_matching" = some (.ref A.f_least_matching)
  k_least_matching : PySem.W.keepIn K (.ref A.f_least_matching) = true
  b_least_matching : Binds K A.d_least_matching ["curve", "stretches"] []
  F_urgent_stretch : Fun K "urgent_stretch" "urgent_stretch" s_urgent_stretch A.f_urgent_stretch A.d_urgent_stretch
  m_urgent_stretch : mg "urgent_stretch" = some (.ref A.f_urgent_stretch)
  k_urgent_stretch : PySem.W.keepIn K (.ref A.f_urgent_stretch) = true
  b_urgent_stretch : Binds K A.d_urgent_stretch ["visit", "start", "end"] []
  F_placed_stretch : Fun K "placed_stretch" "placed_stretch" s_placed_stretch A.f_placed_stretch A.d_placed_stretch
  m_placed_stretch : mg "placed_stretch" = some (.ref A.f_placed_stretch)
  k_placed_stretch : PySem.W.keepIn K (.ref A.f_placed_stretch) = true
  b_placed_stretch : Binds K A.d_placed_stretch ["visit", "tick"] []
  F_stretch_from : Fun K "stretch_from" "stretch_from" s_stretch_from A.f_stretch_from A.d_stretch_from
  m_stretch_from : mg "stretch_from" = some (.ref A.f_stretch_from)
  k_stretch_from : PySem.W.keepIn K (.ref A.f_stretch_from) = true
  b_stretch_from : Binds K A.d_stretch_from ["visit", "first", "behind"] []
  F_urgent_stretches : Fun K "urgent_stretches" "urgent_stretches" s_urgent_stretches A.f_urgent_stretches A.d_urgent_stretches
  m_urgent_stretches : mg "urgent_stretches" = some (.ref A.f_urgent_stretches)
  k_urgent_stretches : PySem.W.keepIn K (.ref A.f_urgent_stretches) = true
  b_urgent_stretches : Binds K A.d_urgent_stretches ["visits", "start", "end"] []
  F_placed_stretches : Fun K "placed_stretches" "placed_stretches" s_placed_stretches A.f_placed_stretches A.d_placed_stretches
  m_placed_stretches : mg "placed_stretches" = some (.ref A.f_placed_stretches)
  k_placed_stretches : PySem.W.keepIn K (.ref A.f_placed_stretches) = true
  b_placed_stretches : Binds K A.d_placed_stretches ["visits", "tick"] []
  F_Visit_time : Fun K "time" "Visit.time" s_Visit_time A.f_Visit_time A.d_Visit_time
  b_Visit_time : Binds K A.d_Visit_time ["self"] []
  pr_Visit_time : PropOf K A.Visit "time" A.p_Visit_time A.f_Visit_time
  F_Visit_shift : Fun K "shift" "Visit.shift" s_Visit_shift A.f_Visit_shift A.d_Visit_shift
  b_Visit_shift : Binds K A.d_Visit_shift ["self"] []
  pr_Visit_shift : PropOf K A.Visit "shift" A.p_Visit_shift A.f_Visit_shift
  F_Visit_begin : Fun K "begin" "Visit.begin" s_Visit_begin A.f_Visit_begin A.d_Visit_begin
  b_Visit_begin : Binds K A.d_Visit_begin ["self"] []
  pr_Visit_begin : PropOf K A.Visit "begin" A.p_Visit_begin A.f_Visit_begin
  F_Visit_end : Fun K "end" "Visit.end" s_Visit_end A.f_Visit_end A.d_Visit_end
  b_Visit_end : Binds K A.d_Visit_end ["self"] []
  pr_Visit_end : PropOf K A.Visit "end" A.p_Visit_end A.f_Visit_end
  F_Load_init : Fun K "__init__" "Load.__init__" s_Load_init A.f_Load_init A.d_Load_init
  b_Load_init : Binds K A.d_Load_init ["self", "curve", "visits"] []
  me_Load__init__ : Meth K A.Load "__init__" A.f_Load_init
  F_Load_curve : Fun K "curve" "Load.curve" s_Load_curve A.f_Load_curve A.d_Load_curve
  b_Load_curve : Binds K A.d_Load_curve ["self"] []
  pr_Load_curve : PropOf K A.Load "curve" A.p_Load_curve A.f_Load_curve
  F_Load_visits : Fun K "visits" "Load.visits" s_Load_visits A.f_Load_visits A.d_Load_visits
  b_Load_visits : Binds K A.d_Load_visits ["self"] []
  me_visits : Meth K A.Load "visits" A.f_Load_visits
  F_demand : Fun K "demand" "demand" s_demand A.f_demand A.d_demand
  m_demand : mg "demand" = some (.ref A.f_demand)
  k_demand : PySem.W.keepIn K (.ref A.f_demand) = true
  b_demand : Binds K A.d_demand ["load", "start", "end"] []
  F_find_visit_problem : Fun K "find_visit_problem" "find_visit_problem" s_find_visit_problem A.f_find_visit_problem A.d_find_visit_problem
  m_find_visit_problem : mg "find_visit_problem" = some (.ref A.f_find_visit_problem)
  k_find_visit_problem : PySem.W.keepIn K (.ref A.f_find_visit_problem) = true
  b_find_visit_problem : Binds K A.d_find_visit_problem ["time", "shift", "begin", "end"] []
  F_find_wrong_visit : Fun K "find_wrong_visit" "find_wrong_visit" s_find_wrong_visit A.f_find_wrong_visit A.d_find_wrong_visit
  m_find_wrong_visit : mg "find_wrong_visit" = some (.ref A.f_find_wrong_visit)
  k_find_wrong_visit : PySem.W.keepIn K (.ref A.f_find_wrong_visit) = true
  b_find_wrong_visit : Binds K A.d_find_wrong_visit ["visits"] []
  F_places : Fun K "places" "places" s_places A.f_places A.d_places
  m_places : mg "places" = some (.ref A.f_places)
  k_places : PySem.W.keepIn K (.ref A.f_places) = true
  b_places : Binds K A.d_places ["loads", "tick"] []
  F_l_rng : Fun K "_law_rng" "_law_rng" s_l_rng A.f_l_rng A.d_l_rng
  m_l_rng : mg "_law_rng" = some (.ref A.f_l_rng)
  k_l_rng : PySem.W.keepIn K (.ref A.f_l_rng) = true
  b_l_rng : Binds K A.d_l_rng ["_law_script", "_law_k"] []
  F_l_draw : Fun K "_law_draw" "_law_draw" s_l_draw A.f_l_draw A.d_l_draw
  m_l_draw : mg "_law_draw" = some (.ref A.f_l_draw)
  k_l_draw : PySem.W.keepIn K (.ref A.f_l_draw) = true
  b_l_draw : Binds K A.d_l_draw ["_law_rng_here", "_law_many"] []
  F_l_choice : Fun K "_law_choice" "_law_choice" s_l_choice A.f_l_choice A.d_l_choice
  m_l_choice : mg "_law_choice" = some (.ref A.f_l_choice)
  k_l_choice : PySem.W.keepIn K (.ref A.f_l_choice) = true
  b_l_choice : Binds K A.d_l_choice ["_law_rng_here", "_law_some"] []
  F_l_at : Fun K "_law_at" "_law_at" s_l_at A.f_l_at A.d_l_at
  m_l_at : mg "_law_at" = some (.ref A.f_l_at)
  k_l_at : PySem.W.keepIn K (.ref A.f_l_at) = true
  b_l_at : Binds K A.d_l_at ["_law_row_here", "_law_length"] []
  F_l_is_good : Fun K "_law_is_good" "_law_is_good" s_l_is_good A.f_l_is_good A.d_l_is_good
  m_l_is_good : mg "_law_is_good" = some (.ref A.f_l_is_good)
  k_l_is_good : PySem.W.keepIn K (.ref A.f_l_is_good) = true
  b_l_is_good : Binds K A.d_l_is_good ["_law_row_here"] []
  F_l_rows : Fun K "_law_rows" "_law_rows" s_l_rows A.f_l_rows A.d_l_rows
  m_l_rows : mg "_law_rows" = some (.ref A.f_l_rows)
  k_l_rows : PySem.W.keepIn K (.ref A.f_l_rows) = true
  b_l_rows : Binds K A.d_l_rows [] []
  F_l_row : Fun K "_law_row" "_law_row" s_l_row A.f_l_row A.d_l_row
  m_l_row : mg "_law_row" = some (.ref A.f_l_row)
  k_l_row : PySem.W.keepIn K (.ref A.f_l_row) = true
  b_l_row : Binds K A.d_l_row ["_law_rng_here"] []
  F_l_keeps : Fun K "_law_keeps" "_law_keeps" s_l_keeps A.f_l_keeps A.d_l_keeps
  m_l_keeps : mg "_law_keeps" = some (.ref A.f_l_keeps)
  k_l_keeps : PySem.W.keepIn K (.ref A.f_l_keeps) = true
  b_l_keeps : Binds K A.d_l_keeps ["_law_row_here", "_law_record"] []
  F_l_records : Fun K "_law_records" "_law_records" s_l_records A.f_l_records A.d_l_records
  m_l_records : mg "_law_records" = some (.ref A.f_l_records)
  k_l_records : PySem.W.keepIn K (.ref A.f_l_records) = true
  b_l_records : Binds K A.d_l_records ["_law_row_here", "_law_many"] []
  F_l_parts : Fun K "_law_parts" "_law_parts" s_l_parts A.f_l_parts A.d_l_parts
  m_l_parts : mg "_law_parts" = some (.ref A.f_l_parts)
  k_l_parts : PySem.W.keepIn K (.ref A.f_l_parts) = true
  b_l_parts : Binds K A.d_l_parts ["_law_rng_here"] []
  F_l_urgent : Fun K "_law_urgent" "_law_urgent" s_l_urgent A.f_l_urgent A.d_l_urgent
  m_l_urgent : mg "_law_urgent" = some (.ref A.f_l_urgent)
  k_l_urgent : PySem.W.keepIn K (.ref A.f_l_urgent) = true
  b_l_urgent : Binds K A.d_l_urgent ["_law_parts_here", "_law_tick", "_law_low", "_law_high"] []
  F_l_placed : Fun K "_law_placed" "_law_placed" s_l_placed A.f_l_placed A.d_l_placed
  m_l_placed : mg "_law_placed" = some (.ref A.f_l_placed)
  k_l_placed : PySem.W.keepIn K (.ref A.f_l_placed) = true
  b_l_placed : Binds K A.d_l_placed ["_law_parts_here", "_law_tick", "_law_now"] []
  F_l_count : Fun K "_law_count" "_law_count" s_l_count A.f_l_count A.d_l_count
  m_l_count : mg "_law_count" = some (.ref A.f_l_count)
  k_l_count : PySem.W.keepIn K (.ref A.f_l_count) = true
  b_l_count : Binds K A.d_l_count ["_law_some", "_law_record", "_law_low", "_law_high"] []
  F_l_count_places : Fun K "_law_count_places" "_law_count_places" s_l_count_places A.f_l_count_places A.d_l_count_places
  m_l_count_places : mg "_law_count_places" = some (.ref A.f_l_count_places)
  k_l_count_places : PySem.W.keepIn K (.ref A.f_l_count_places) = true
  b_l_count_places : Binds K A.d_l_count_places ["_law_some", "_law_record", "_law_now"] []
  F_l_right : Fun K "_law_right" "_law_right" s_l_right A.f_l_right A.d_l_right
  m_l_right : mg "_law_right" = some (.ref A.f_l_right)
  k_l_right : PySem.W.keepIn K (.ref A.f_l_right) = true
  b_l_right : Binds K A.d_l_right ["_law_rng_here"] []
  F_law : Fun K "law" "law" s_law A.f_law A.d_law
  m_law : mg "law" = some (.ref A.f_law)
  k_law : PySem.W.keepIn K (.ref A.f_law) = true
  b_law : Binds K A.d_law ["_law_script"] []
  abs : mg "abs" = none
  all : mg "all" = none
  bool : mg "bool" = none
  divmod : mg "divmod" = none
  enumerate : mg "enumerate" = none
  int : mg "int" = none
  isinstance : mg "isinstance" = none
  len : mg "len" = none
  list : mg "list" = none
  max : mg "max" = none
  min : mg "min" = none
  range : mg "range" = none
  repr : mg "repr" = none
  sum : mg "sum" = none
  zip : mg "zip" = none
  v_MAX_VALUES : mg "MAX_VALUES" = some (.int 24 A.t_MAX_VALUES)
  v_MAX_VALUE : mg "MAX_VALUE" = some (.int 2000 A.t_MAX_VALUE)
  v_MAX_TIME : mg "MAX_TIME" = some (.int 12 A.t_MAX_TIME)
  v_MAX_TICK : mg "MAX_TICK" = some (.int 1000 A.t_MAX_TICK)
  v_MAX_VISITS : mg "MAX_VISITS" = some (.int 4 A.t_MAX_VISITS)
  v_PERIODS : mg "PERIODS" = some (.ref A.a_PERIODS)
  periods : ∀ H, SqT K H A.a_PERIODS [.int 1, .int 2, .int 3, .int 4, .int 6, .int 12]
  m_Curve : mg "Curve" = some (.ref A.Curve)
  m_Visit : mg "Visit" = some (.ref A.Visit)
  m_Load : mg "Load" = some (.ref A.Load)
  cl : Cls K A.Curve
  clVisit : Cls K A.Visit
  clLoad : Cls K A.Load
  n_values : NoAttr K A.Curve "_values"
  n_period : NoAttr K A.Curve "_period"
  n_gain : NoAttr K A.Curve "_gain"
  n_was_searched : NoAttr K A.Curve "_was_searched"
  n_break : NoAttr K A.Curve "_break"
  n_time : NoAttr K A.Visit "_time"
  n_shift : NoAttr K A.Visit "_shift"
  n_begin : NoAttr K A.Visit "_begin"
  n_end : NoAttr K A.Visit "_end"
  n_curve : NoAttr K A.Load "_curve"
  n_visits : NoAttr K A.Load "_visits"
  F_C_init : FunD K "__init__" "Curve.__init__" (defArgs s_C_init) (defBody s_C_init) (defScope s_C_init) [] [("period", .int 1), ("gain", .int 0)] A.f_C_init A.d_C_init
  M_Curve : Mk K A.Curve A.f_C_init
  F_Visit_init : FunD K "__init__" "Visit.__init__" (defArgs s_Visit_init) (defBody s_Visit_init) (defScope s_Visit_init) [] [("shift", .int 0), ("begin", .int 0), ("end", .non)] A.f_Visit_init A.d_Visit_init
  M_Visit : Mk K A.Visit A.f_Visit_init
  M_Load : Mk K A.Load A.f_Load_init
/-! ### counts -/
/-- the built-in classes of the values that occur -/
def kinds : List String := ["NoneType", "bool", "int", "str", "list", "tuple", "dict"]
def Kd (K : PySem.W.Frag) (H : Hp) (v : V) (n : String) : Prop := TyX K H v (.type n) ∧ n ∈ kinds
theorem Kd.int {K : PySem.W.Frag} {H : Hp} (i : Int) : Kd K H (.int i) "int" := ⟨.base (.int i), by decide⟩
theorem Kd.is_int {K : PySem.W.Frag} {H : Hp} {v : V} (h : Kd K H v "int") : ∃ i, v = .int i := by
  obtain ⟨h, _⟩ := h
  generalize e : Value.type "int" = t at h
  cases h with
  | base b => cases b <;> first | exact ⟨_, rfl⟩ | (injection e with e; exact absurd e (by decide)) | cases e
  | _ => first | (injection e with e; exact absurd e (by decide)) | cases e
/-- a count -/
def cnt : V → Bool
  | .int i => decide (0 ≤ i)
  | _ => false
def cntTo (m : Int) : V → Bool
  | .int i => decide (0 ≤ i ∧ i ≤ m)
  | _ => false
def sp_is_integer (K : PySem.W.Frag) (_ : Ad) : Sp := fun vs H Q _ => ∃ v n, vs = [v] ∧ Kd K H v n ∧ Q (.bl (n == "int")) H
def sp_is_count (K : PySem.W.Frag) (_ : Ad) : Sp := fun vs H Q _ => ∃ v n, vs = [v] ∧ Kd K H v n ∧ Q (.bl (cnt v)) H
def sp_is_count_to (K : PySem.W.Frag) (_ : Ad) : Sp := fun vs H Q _ => ∃ v n m, vs = [v, .int m] ∧ Kd K H v n ∧ Q (.bl (cntTo m v)) H
def sp_rounded_up (_ : PySem.W.Frag) (_ : Ad) : Sp := fun vs H Q _ => ∃ (u p : Int), vs = [.int u, .int p] ∧ 0 < p ∧ p < 1073741824 ∧ Q (.int ((u + p - 1) / p)) H
def sp_require_tick (_ : PySem.W.Frag) (_ : Ad) : Sp := fun vs H Q _ => ∃ n : Int, vs = [.int n] ∧ 0 ≤ n ∧ n ≤ 1000 ∧ Q .non H
section
variable {P : Program} {w : World} {K : PySem.W.Frag} {mg : Str → Option Value} {base : Heap} {A : Ad}
theorem kitI {n : String} (h : n ∈ kinds) : PySem.W.kitOne K (.type n) (.type "int") = some (n == "int" || n == "bool") := by
  simp only [kinds, List.mem_cons, List.not_mem_nil, or_false] at h
  rcases h with rfl | rfl | rfl | rfl | rfl | rfl | rfl <;> exact kit_ty (by decide +kernel)
theorem kitB' {n : String} (h : n ∈ kinds) : PySem.W.kitOne K (.type n) (.type "bool") = some (n == "bool") := by
  simp only [kinds, List.mem_cons, List.not_mem_nil, or_false] at h
  rcases h with rfl | rfl | rfl | rfl | rfl | rfl | rfl <;> exact kit_ty (by decide +kernel)
theorem ok_is_integer (T : Txt K mg A) : FnOk P w K mg base CX0 1 A.f_is_integer A.d_is_integer ["value"] (sp_is_integer K A) := by
  refine T.F_is_integer.ok sc_is_integer (fun vs H Q E h => ?_) (fun cdv A0 outer s H vs Q E hr h => ?_)
  · obtain ⟨v, n, rfl, hk, q⟩ := h
    rfl
  · obtain ⟨v, n, rfl, hk, q⟩ := h
    refine ⟨_, (pss_one (ps_ret (pe_and (pe_callB (r := rIsi K) call_isi (by rfl) T.isinstance (by decide +kernel) (pa_cons (pv 0) (pa_cons (pe_bltn (v := .ty "int") (u := .type "int") (by rfl) T.int (by decide +kernel) (by exact rfl)) pa_nil))) (pe_one (pe_not (pe_callB (r := rIsi K) call_isi (by rfl) T.isinstance (by decide +kernel) (pa_cons (pv 0) (pa_cons (pe_bltn (v := .ty "bool") (u := .type "bool") (by rfl) T.bool (by decide +kernel) (by exact rfl)) pa_nil)))))))), ?_⟩
    refine ⟨_, rfl, v, .ty "int", _, _, _, rfl, .ty _, hk.1, kitI hk.2, _, rfl, ?_⟩
    refine ite2 (fun c => ?_) (fun c => ?_)
    · refine ⟨_, rfl, v, .ty "bool", _, _, _, rfl, .ty _, hk.1, kitB' hk.2, _, rfl, ?_⟩
      by_cases e : n = "bool"
      · subst e; exact q
      · have e1 : (n == "bool") = false := by simpa using e
        rw [e1] at c ⊢
        simp at c
        subst c
        exact q
    · simp at c
      have e1 : (n == "int") = false := by simpa using c.1
      rw [e1] at q
      exact q
theorem ok_is_count (T : Txt K mg A) : FnOk P w K mg base CX0 2 A.f_is_count A.d_is_count ["value"] (sp_is_count K A) := by
  have G_is_integer := ok_is_integer (P := P) (w := w) (base := base) T
  refine T.F_is_count.ok sc_is_count (fun vs H Q E h => ?_) (fun cdv A0 outer s H vs Q E hr h => ?_)
  · obtain ⟨v, n, rfl, hk, q⟩ := h
    rfl
  · obtain ⟨v, n, rfl, hk, q⟩ := h
    refine ⟨_, (pss_one (ps_ret (pe_and (pe_call G_is_integer (hr.mono (by decide)) rfl T.m_is_integer T.k_is_integer T.b_is_integer .nil pass0 (pa_cons (pv 0) pa_nil)) (pe_one (pe_cmpR op_ge (pv 0) pe_int (nomark _)))))), ?_⟩
    refine ⟨_, rfl, v, n, rfl, hk, _, rfl, ?_⟩
    refine ite2 (fun c => ?_) (fun c => ?_)
    · have e : n = "int" := by simpa using c
      subst e
      obtain ⟨i, rfl⟩ := hk.is_int
      exact ⟨_, rfl, _, _, rfl, rfl, q⟩
    · have e : cnt v = false := by
        cases v <;> first | rfl | skip
        obtain ⟨h, _⟩ := hk
        generalize et : Value.type n = t at h
        cases h with
        | base b => cases b; injection et with et; subst et; exact absurd rfl c
      rw [e] at q
      exact q
theorem ok_is_count_to (T : Txt K mg A) : FnOk P w K mg base CX0 3 A.f_is_count_to A.d_is_count_to ["value", "most"] (sp_is_count_to K A) := by
  have G_is_count := ok_is_count (P := P) (w := w) (base := base) T
  refine T.F_is_count_to.ok sc_is_count_to (fun vs H Q E h => ?_) (fun cdv A0 outer s H vs Q E hr h => ?_)
  · obtain ⟨v, n, m, rfl, hk, q⟩ := h
    rfl
  · obtain ⟨v, n, m, rfl, hk, q⟩ := h
    refine ⟨_, (pss_one (ps_ret (pe_and (pe_call G_is_count (hr.mono (by decide)) rfl T.m_is_count T.k_is_count T.b_is_count .nil pass0 (pa_cons (pv 0) pa_nil)) (pe_one (pe_cmpR op_le (pv 0) (pv 1) (nomark _)))))), ?_⟩
    refine ⟨_, rfl, v, n, rfl, hk, _, rfl, ?_⟩
    refine ite2 (fun c => ?_) (fun c => ?_)
    · cases v with
      | int i =>
        have c : 0 ≤ i := by simpa [cnt] using c
        refine ⟨_, rfl, _, rfl, _, _, rfl, rfl, ?_⟩
        have e : cntTo m (.int i) = decide (i ≤ m) := by unfold cntTo; simp [c]
        rw [e] at q
        exact q
      | _ => simp [cnt] at c
    · have e : cntTo m v = false := by
        cases v <;> first | rfl | skip
        rename_i i
        have c : ¬ 0 ≤ i := by simpa [cnt] using c
        unfold cntTo; simp [c]
      rw [e] at q
      exact q
theorem ok_rounded_up (T : Txt K mg A) : FnOk P w K mg base CX0 1 A.f_rounded_up A.d_rounded_up ["units", "parts"] (sp_rounded_up K A) := by
  refine T.F_rounded_up.ok sc_rounded_up (fun vs H Q E h => ?_) (fun cdv A0 outer s H vs Q E hr h => ?_)
  · obtain ⟨u, p, rfl, h1, h2, q⟩ := h
    rfl
  · obtain ⟨u, p, rfl, h1, h2, q⟩ := h
    refine ⟨_, (pss_one (ps_ret (pe_op op_fdiv (pe_op op_sub (pe_op op_add (pv 0) (pv 1)) pe_int) (pv 1)))), ?_⟩
    exact ⟨_, rfl, _, rfl, _, _, rfl, rfl, _, _, rfl, rfl, _, rfl, _, _, rfl, rfl, ⟨h1, h2⟩, q⟩
theorem ok_require_tick (T : Txt K mg A) : FnOk P w K mg base CX0 4 A.f_require_tick A.d_require_tick ["value"] (sp_require_tick K A) := by
  have G_is_count_to := ok_is_count_to (P := P) (w := w) (base := base) T
  refine T.F_require_tick.ok sc_require_tick (fun vs H Q E h => ?_) (fun cdv A0 outer s H vs Q E hr h => ?_)
  · obtain ⟨n, rfl, h, h2, q⟩ := h
    rfl
  · obtain ⟨n, rfl, h, h2, q⟩ := h
    refine ⟨_, (pss_one (ps_if (pt_not (pt_val (pe_call G_is_count_to (hr.mono (by decide)) rfl T.m_is_count_to T.k_is_count_to T.b_is_count_to .nil pass0 (pa_cons (pv 0) (pa_cons (pe_glob (v := .int 1000) rfl T.v_MAX_TICK ⟨_, rfl⟩) pa_nil))))) (pss_one ps_never) pss_nil)), ?_⟩
    refine ⟨_, rfl, _, _, _, rfl, Kd.int _, ?_⟩
    have e1 : cntTo 1000 (.int n) = true := by unfold cntTo; exact decide_eq_true ⟨h, h2⟩
    rw [e1]
    exact ⟨_, rfl, iteF q⟩
end
end VK


namespace VK
open PySem PySem.Spec PyProof.Rows L2 VM
theorem getD_map {xs : List Int} {j : Nat} (h : j < xs.length) : (xs.map V.int)[j]? = some (.int (xs.getD j 0)) := by
  rw [List.getElem?_map, List.getD_eq_getElem?_getD, List.getElem?_eq_getElem h]
  rfl
theorem at_map {xs : List Int} {i : Int} (h0 : 0 ≤ i) (h : i < xs.length) : atI (xs.map V.int) i = some (.int (xs.getD i.toNat 0)) := by
  have e : i = ((i.toNat : Nat) : Int) := by omega
  rw [e]
  exact atI_nat (getD_map (by omega))
theorem at_back {xs : List Int} {i : Int} (h0 : i < 0) (h : -(xs.length : Int) ≤ i) : atI (xs.map V.int) i = some (.int (xs.getD (i + xs.length).toNat 0)) := by
  unfold atI ixN
  rw [if_neg (by omega), List.length_map, if_pos h]
  show (xs.map V.int)[_]? = _
  exact getD_map (by omega)
theorem deq_int {a b : Int} : decide (V.int a = V.int b) = decide (a = b) := by
  by_cases h : a = b
  · subst h; simp
  · rw [decide_eq_false h, decide_eq_false (fun q => h (V.int.inj q))]
/-- a test of two ints on equality -/
theorem ifEq {a b : Int} {X Y : Prop} (h1 : a = b → X) (h2 : a ≠ b → Y) : if decide (V.int a = V.int b) = true then X else Y := by
  rw [deq_int]
  exact ite2 (fun c => h1 (of_decide_eq_true c)) fun c => h2 fun e => c (decide_eq_true e)
theorem ifD {c X Y : Prop} [Decidable c] (h1 : c → X) (h2 : ¬ c → Y) : if decide c = true then X else Y :=
  ite2 (fun e => h1 (of_decide_eq_true e)) fun e => h2 fun q => e (decide_eq_true q)
def sp_value_at (K : PySem.W.Frag) (_ : Ad) : Sp := fun vs H Q _ => ∃ (l : Addr) (xs : List Int) (p g t : Int), vs = [.ref l, .int p, .int g, .int t] ∧
  SqL K H l (xs.map V.int) ∧ 0 < p ∧ p ≤ xs.length ∧ xs.length ≤ 1000 ∧ 0 ≤ t ∧ t < 2 ^ 62 ∧ Q (.int (cvAt xs p g t)) H
section
variable {P : Program} {w : World} {K : PySem.W.Frag} {mg : Str → Option Value} {base : Heap} {A : Ad}
theorem ok_value_at (T : Txt K mg A) : FnOk P w K mg base CX0 2 A.f_value_at A.d_value_at ["values", "period", "gain", "length"] (sp_value_at K A) := by
  have G_rounded_up := ok_rounded_up (P := P) (w := w) (base := base) T
  refine T.F_value_at.ok sc_value_at (fun vs H Q E h => ?_) (fun cdv A0 outer s H vs Q E hr h => ?_)
  · obtain ⟨l, xs, p, g, t, rfl, hS, hp, hpn, hn, ht, htb, q⟩ := h
    rfl
  · obtain ⟨l, xs, p, g, t, rfl, hS, hp, hpn, hn, ht, htb, q⟩ := h
    refine ⟨_, (pss_cons (ps_if (pt_cmpR op_eq (pv 3) pe_int (nomark _)) (pss_one (ps_ret pe_int)) pss_nil)
    (pss_cons (ps_if (pt_cmpR op_le (pv 3) (pe_callB (r := VG.rLen K) VG.call_len (by rfl) T.len (by decide +kernel) (pa_cons (pv 0) pa_nil)) (nomark _)) (pss_one (ps_ret (pe_ix (r := rIxL K) ix_list (pv 0) (pe_op op_sub (pv 3) pe_int) (fun _ _ => rfl)))) pss_nil)
    (pss_cons (ps_set (i := 4) sc_value_at.nd rfl (by first | exact Or.inl rfl | exact Or.inr rfl) (pe_call G_rounded_up (hr.mono (by decide)) rfl T.m_rounded_up T.k_rounded_up T.b_rounded_up .nil pass0 (pa_cons (pe_op op_sub (pv 3) (pe_callB (r := VG.rLen K) VG.call_len (by rfl) T.len (by decide +kernel) (pa_cons (pv 0) pa_nil))) (pa_cons (pv 1) pa_nil))))
    (pss_one (ps_ret (pe_op op_add (pe_ix (r := rIxL K) ix_list (pv 0) (pe_op op_sub (pe_op op_sub (pv 3) (pe_op op_mul (pv 4) (pv 1))) pe_int) (fun _ _ => rfl)) (pe_op op_mul (pv 4) (pv 2)))))))), ?_⟩
    refine ⟨_, rfl, rfl, _, rfl, ifEq (fun c => ?_) (fun c => ?_)⟩
    · subst c
      rw [cvAt_zero] at q
      exact q
    refine ⟨_, rfl, _, rfl, l, _, rfl, .inl hS, _, _, rfl, rfl, _, rfl, ifD (fun c1 => ?_) (fun c1 => ?_)⟩
    · rw [List.length_map] at c1
      rw [cvAt_in (by omega) c1] at q
      exact ⟨_, rfl, _, rfl, _, _, rfl, rfl, l, _, _, _, rfl, rfl, hS, at_map (by omega) (by omega), q⟩
    · rw [List.length_map] at c1
      obtain ⟨r1, r2, r3⟩ := rounds_spec (n := (xs.length : Int)) (t := t) hp (by omega)
      have rb : (t - (xs.length : Int) + p - 1) / p ≤ t := by
        have := Int.ediv_le_self p (show 0 ≤ t - (xs.length : Int) + p - 1 by omega)
        omega
      refine ⟨_, rfl, _, rfl, l, _, rfl, .inl hS, _, _, rfl, rfl, _, rfl, _, _, rfl, hp, by omega, ?_⟩
      rw [List.length_map]
      refine ⟨_, rfl, _, rfl, _, rfl, _, rfl, _, _, rfl, rfl, .inl ⟨by omega, by omega⟩, _, _, rfl, rfl, _, _, rfl, rfl, l, _, _, _, rfl, rfl, hS, at_map (by omega) (by omega),
        _, rfl, _, rfl, _, _, rfl, rfl, .inl ⟨by omega, by omega⟩, _, _, rfl, rfl, ?_⟩
      unfold cvAt at q
      rw [if_neg c, if_neg c1] at q
      exact q
end
end VK


namespace VK
open PySem PySem.Spec PyProof.Rows L2 VM
/-- f's values at 0, 1, .. below m -/
def row (f : Int → Int) (m : Nat) : List Int := (List.range m).map fun (i : Nat) => f i
theorem row_length {f : Int → Int} {m : Nat} : (row f m).length = m := by simp [row]
theorem row_getD {f : Int → Int} {m i : Nat} (h : i < m) : (row f m).getD i 0 = f i := by
  unfold row
  rw [List.getD_eq_getElem?_getD, List.getElem?_map, List.getElem?_range h]
  rfl
theorem at_row {f : Int → Int} {m : Nat} {i : Int} (h0 : 0 ≤ i) (h : i < m) : atI ((row f m).map V.int) i = some (.int (f i)) := by
  rw [at_map h0 (by rw [row_length]; exact h), row_getD (by omega)]
  congr 3; omega
theorem row_succ {f : Int → Int} {m : Nat} : row f (m + 1) = row f m ++ [f m] := by
  unfold row; rw [List.range_succ, List.map_append]; rfl
theorem rowI_succ {f : Int → Int} {m : Nat} : (row f (m + 1)).map V.int = (row f m).map V.int ++ [V.int (f m)] := by
  rw [row_succ, List.map_append]; rfl
theorem small {n : Nat} (h : n ≤ 16777215) : n < sizeLine := by rw [sizeLine_eq]; omega
/-- a new object leaves what was tracked -/
theorem Same.upd {H H' : Hp} {p : Addr} {o : HO} (e : Same H H') (h : H p = none) : Same H (upd H' p o) := fun b u q => by
  rw [upd_ne (ne_of_none q h)]; exact e b u q
theorem steps_eq {f : Int → Int} {n p d m M : Int} (hp : 0 < p)
    (h1 : m ∈ row (fun i => f (n + 1 + i) - f (n + 1 + i - d)) p.toNat) (h2 : ∀ y ∈ row (fun i => f (n + 1 + i) - f (n + 1 + i - d)) p.toNat, m ≤ y)
    (h4 : ∀ y ∈ row (fun i => f (n + 1 + i) - f (n + 1 + i - d)) p.toNat, y ≤ M) (h3 : M ∈ row (fun i => f (n + 1 + i) - f (n + 1 + i - d)) p.toNat) :
    m = M ↔ stepsEq f n p d = true := by
  have mem : ∀ y, y ∈ row (fun i => f (n + 1 + i) - f (n + 1 + i - d)) p.toNat ↔ ∃ i : Nat, i < p.toNat ∧ f (n + 1 + i) - f (n + 1 + i - d) = y := by
    intro y
    unfold row
    rw [List.mem_map]
    exact ⟨fun ⟨i, a, b⟩ => ⟨i, List.mem_range.mp a, b⟩, fun ⟨i, a, b⟩ => ⟨i, List.mem_range.mpr a, b⟩⟩
  have f0 := (mem (f (n + 1 + (0 : Nat)) - f (n + 1 + (0 : Nat) - d))).mpr ⟨0, by omega, rfl⟩
  have z : n + 1 + ((0 : Nat) : Int) = n + 1 := by omega
  rw [z] at f0
  unfold stepsEq
  rw [List.all_eq_true]
  constructor
  · intro e i hi
    have hy := (mem _).mpr ⟨i, List.mem_range.mp hi, rfl⟩
    have a := h2 _ hy; have b := h4 _ hy
    have c := h2 _ f0; have d' := h4 _ f0
    exact decide_eq_true (by omega)
  · intro h
    obtain ⟨i, hi, ei⟩ := (mem m).mp h1
    obtain ⟨j, hj, ej⟩ := (mem M).mp h3
    have a := of_decide_eq_true (h i (List.mem_range.mpr hi))
    have b := of_decide_eq_true (h j (List.mem_range.mpr hj))
    omega
def sp_least_period (K : PySem.W.Frag) (_ : Ad) : Sp := fun vs H Q _ => ∃ (l : Addr) (f : Int → Int) (n p : Int), vs = [.ref l, .int n, .int p] ∧
  SqL K H l ((row f (n + p + 1).toNat).map V.int) ∧ 0 < p ∧ 0 ≤ n ∧ p ≤ 1000 ∧ n ≤ 1000 ∧ p ≤ n ∧
  ∀ H' t, Same H H' → H t = none → H' t = some (.tup [.int (leastP f n p).1, .int (leastP f n p).2]) → Q (.ref t) H'
section
variable {P : Program} {w : World} {K : PySem.W.Frag} {mg : Str → Option Value} {base : Heap} {A : Ad}
theorem ok_least_period (T : Txt K mg A) : FnOk P w K mg base CX0 1 A.f_least_period A.d_least_period ["row", "many", "period"] (sp_least_period K A) := by
  refine T.F_least_period.ok sc_least_period (fun vs H Q E h => ?_) (fun cdv A0 outer s H vs Q E hr h => ?_)
  · obtain ⟨l, f, n, p, rfl, hS, hp, hn, hpb, hnb, hpn, k⟩ := h
    rfl
  · obtain ⟨l, f, n, p, rfl, hS, hp, hn, hpb, hnb, hpn, k⟩ := h
    refine ⟨_, (pss_cons (ps_for PassesOwn.never rfl (pi_range2 rfl T.range (pa_cons pe_int (pa_cons (pv 2) pa_nil))) (pg_name (i := 3) sc_least_period.nd rfl (by first | exact Or.inl rfl | exact Or.inr rfl))
      (pss_one (ps_if (pt_cmpR op_eq (pe_op op_mod (pv 2) (pv 3)) pe_int (nomark _)) (pss_cons (ps_setLc (i := 4) (own := [("length", 5)]) (g := gName 5) (tt := tYes) rfl sc_least_period.nd rfl rfl (sw_true rfl rfl rfl (by decide +kernel)) (pi_range2 rfl T.range (pa_cons (pe_op op_add (pv 1) pe_int) (pa_cons (pe_op op_add (pe_op op_add (pv 1) (pv 2)) pe_int) pa_nil))) (blkOk_by (own := [("length", 5)]) (N := ["row", "many", "period", "least", "steps", "length"]) (sc := defScope s_least_period) (by decide +kernel)) (fun _ _ _ _ _ => pg_name (i := 5) sc_least_period.nd rfl (by first | exact Or.inl rfl | exact Or.inr rfl)) (fun _ _ _ _ _ => pts_nil) (fun _ _ _ _ _ => (pe_op op_sub (pe_ix (r := rIxL K) ix_list (pv 0) (pv 5) (fun _ _ => rfl)) (pe_ix (r := rIxL K) ix_list (pv 0) (pe_op op_sub (pv 5) (pv 3)) (fun _ _ => rfl)))))
    (pss_one (ps_if (pt_cmpR op_eq (pe_callB (r := rMin K) (cr_min rfl) (by rfl) T.min (by decide +kernel) (pa_cons (pv 4) pa_nil)) (pe_callB (r := rMax K) (cr_max rfl) (by rfl) T.max (by decide +kernel) (pa_cons (pv 4) pa_nil)) (nomark _)) (pss_one (ps_ret (pe_tup (pa_cons (pv 3) (pa_cons (pe_ix (r := rIxL K) ix_list (pv 4) pe_int (fun _ _ => rfl)) pa_nil))))) pss_nil))) pss_nil)))
    (pss_one (ps_ret (pe_tup (pa_cons (pv 2) (pa_cons (pe_op op_sub (pe_ix (r := rIxL K) ix_list (pv 0) (pe_op op_add (pv 1) (pv 2)) (fun _ _ => rfl)) (pe_ix (r := rIxL K) ix_list (pv 0) (pv 1) (fun _ _ => rfl))) pa_nil)))))), ?_⟩
    refine ⟨_, rfl, _, _, rfl, ⟨by omega, by omega, by omega, by omega⟩, for_range (lo := 1) (n := (p - 1).toNat)
      (fun i σ H' => ∃ v3 v4 v5, σ = [some (.ref l), some (.int n), some (.int p), v3, v4, v5] ∧ Same H H' ∧ leastP f n p = leastFrom f n p ((p - 1).toNat - i) (1 + i))
      ⟨_, _, _, rfl, Same.refl H, rfl⟩ ?_ ?_⟩
    · rintro i' σ H' hi ⟨v3, v4, v5, rfl, s0, e⟩
      have ek : (p - 1).toNat - i' = ((p - 1).toNat - (i' + 1)) + 1 := by omega
      rw [ek] at e
      unfold leastFrom at e
      refine ⟨_, rfl, _, rfl, _, _, rfl, rfl, (show (0 : Int) < 1 + i' by omega), rfl, _, rfl, ifEq (fun c => ?_) (fun c => ?_)⟩
      · refine ⟨_, rfl, _, _, rfl, rfl, _, rfl, _, rfl, _, _, rfl, rfl, _, _, rfl, rfl, _, _, rfl, ⟨by omega, by omega, by omega, by omega⟩, fun D hD => lc_range (lo := n + 1) (n := (n + p + 1 - (n + 1)).toNat)
          (fun j H2 => H2 D = some (.lst ((row (fun i => f (n + 1 + i) - f (n + 1 + i - (1 + i'))) j).map V.int)) ∧ Same H H2) ?_ ?_ ?_⟩
        · exact ⟨upd_same, Same.upd s0 (s0.free hD)⟩
        · rintro j H2 hj ⟨hD2, s2⟩
          refine ⟨rfl, _, rfl, _, rfl, l, _, _, _, rfl, rfl, s2.seq hS, at_row (by omega) (by omega), _, rfl, _, rfl, _, rfl, _, _, rfl, rfl, l, _, _, _, rfl, rfl, s2.seq hS, at_row (by omega) (by omega), _, _, rfl, rfl,
            _, hD2, small (by rw [List.length_map, row_length]; omega), ?_, ?_⟩
          · rw [upd_same, rowI_succ]
          · exact Same.upd s2 (s0.free hD)
        · rintro H2 ⟨hD2, s2⟩
          have eN : (n + p + 1 - (n + 1)).toNat = p.toNat := by omega
          rw [eN] at hD2
          have hl : 0 < (row (fun i => f (n + 1 + i) - f (n + 1 + i - (1 + i'))) p.toNat).length := by rw [row_length]; omega
          refine ⟨_, rfl, D, _, rfl, SqL.of hD2, hl, fun m hm hm2 => ?_⟩
          refine ⟨_, rfl, D, _, rfl, SqL.of hD2, hl, fun M hM hM2 => ?_⟩
          have key := steps_eq hp hm hm2 hM2 hM
          refine ⟨rfl, _, rfl, ifEq (fun c2 => ?_) (fun c2 => ?_)⟩
          · refine ⟨_, rfl, _, rfl, D, _, _, _, rfl, rfl, SqL.of hD2, at_row (by omega) (by omega), (by show 2 ≤ sizeLine; decide), fun t ht => ?_⟩
            rw [if_pos ⟨c, key.mp c2⟩] at e
            refine k _ t (Same.upd s2 (s2.free ht)) (s2.free ht) ?_
            rw [upd_same, e]
            simp
          · refine ⟨_, _, _, rfl, s2, ?_⟩
            rw [if_neg (fun z => c2 (key.mpr z.2))] at e
            rw [e]
            congr 1
      · refine ⟨_, _, _, rfl, s0, ?_⟩
        rw [if_neg (fun z => c z.1)] at e
        rw [e]
        congr 1
    · rintro σ H' ⟨v3, v4, v5, rfl, s0, e⟩
      rw [Nat.sub_self] at e
      unfold leastFrom at e
      refine ⟨_, rfl, _, rfl, _, rfl, _, rfl, _, _, rfl, rfl, l, _, _, _, rfl, rfl, s0.seq hS, at_row (by omega) (by omega), _, rfl, _, rfl, l, _, _, _, rfl, rfl, s0.seq hS, at_row (by omega) (by omega), _, _, rfl, rfl, (by show 2 ≤ sizeLine; decide), fun t ht => ?_⟩
      refine k _ t (Same.upd s0 (s0.free ht)) (s0.free ht) ?_
      rw [upd_same, e]
end
end VK


namespace VK
open PySem PySem.Spec PyProof.Rows L2 VM
theorem cut_nat {xs : List V} {a b : Nat} (h1 : a ≤ xs.length) (h2 : b ≤ xs.length) : cutV xs (some (a : Int)) (some (b : Int)) = (xs.drop a).take (b - a) := by
  unfold cutV
  rw [HT.sIx_nat, HT.sIx_nat, Nat.min_eq_left h1, Nat.min_eq_left h2]
theorem cut_row {f : Int → Int} {N m : Nat} (h : m < N) : cutV ((row f N).map V.int) (some 1) (some ((m : Int) + 1)) = (vals f m).map V.int := by
  have e1 : (1 : Int) = ((1 : Nat) : Int) := rfl
  have e2 : (m : Int) + 1 = ((m + 1 : Nat) : Int) := by omega
  rw [e2]
  rw [show (some 1 : Option Int) = some ((1 : Nat) : Int) from rfl, cut_nat (by rw [List.length_map, row_length]; omega) (by rw [List.length_map, row_length]; omega)]
  rw [← List.map_drop, ← List.map_take]
  congr 1
  apply List.ext_getElem?
  intro i
  unfold row vals
  by_cases hi : i < m
  · rw [List.getElem?_take_of_lt (by omega), List.getElem?_drop, List.getElem?_map, List.getElem?_map, List.getElem?_range (by omega), List.getElem?_range (by omega)]
    simp only [Option.map_some]
    congr 2
    omega
  · rw [List.getElem?_eq_none (by simp; omega), List.getElem?_eq_none (by simp; omega)]
def sp_least_form (K : PySem.W.Frag) (_ : Ad) : Sp := fun vs H Q _ => ∃ (l : Addr) (xs : List Int) (p g : Int), vs = [.ref l, .int p, .int g] ∧
  SqL K H l (xs.map V.int) ∧ 0 < p ∧ p ≤ xs.length ∧ xs.length ≤ 1000 ∧
  ∀ H' t l', Same H H' → H t = none → H l' = none → H' t = some (.tup [.ref l', .int (formP xs p g).1, .int (formP xs p g).2]) → H' l' = some (.lst ((formV xs p g).map V.int)) → Q (.ref t) H'
section
variable {P : Program} {w : World} {K : PySem.W.Frag} {mg : Str → Option Value} {base : Heap} {A : Ad}
theorem ok_least_form (T : Txt K mg A) : FnOk P w K mg base CX0 3 A.f_least_form A.d_least_form ["values", "period", "gain"] (sp_least_form K A) := by
  have G_least_period := ok_least_period (P := P) (w := w) (base := base) T
  have G_value_at := ok_value_at (P := P) (w := w) (base := base) T
  refine T.F_least_form.ok sc_least_form (fun vs H Q E h => ?_) (fun cdv A0 outer s H vs Q E hr h => ?_)
  · obtain ⟨l, xs, p, g, rfl, hS, hp, hpn, hn, k⟩ := h
    rfl
  · obtain ⟨l, xs, p, g, rfl, hS, hp, hpn, hn, k⟩ := h
    refine ⟨_, (pss_cons (ps_set (i := 3) sc_least_form.nd rfl (by first | exact Or.inl rfl | exact Or.inr rfl) (pe_callB (r := VG.rLen K) VG.call_len (by rfl) T.len (by decide +kernel) (pa_cons (pv 0) pa_nil)))
    (pss_cons (ps_setLc (i := 4) (own := [("length", 7)]) (g := gName 7) (tt := tYes) rfl sc_least_form.nd rfl rfl (sw_true rfl rfl rfl (by decide +kernel)) (pi_range1 rfl T.range (pa_cons (pe_op op_add (pe_op op_add (pv 3) (pv 1)) pe_int) pa_nil)) (blkOk_by (own := [("length", 7)]) (N := ["values", "period", "gain", "many", "row", "least", "step", "length"]) (sc := defScope s_least_form) (by decide +kernel)) (fun _ _ _ _ _ => pg_name (i := 7) sc_least_form.nd rfl (by first | exact Or.inl rfl | exact Or.inr rfl)) (fun _ _ _ _ _ => pts_nil) (fun _ _ _ _ _ => (pe_call G_value_at (hr.mono (by decide)) rfl T.m_value_at T.k_value_at T.b_value_at .nil pass0 (pa_cons (pv 0) (pa_cons (pv 1) (pa_cons (pv 2) (pa_cons (pv 7) pa_nil)))))))
    (pss_cons (ps_asg (pe_call G_least_period (hr.mono (by decide)) rfl T.m_least_period T.k_least_period T.b_least_period .nil pass0 (pa_cons (pv 4) (pa_cons (pv 3) (pa_cons (pv 1) pa_nil)))) (pg_tup rfl (pgs_cons (pg_name (i := 5) sc_least_form.nd rfl (by first | exact Or.inl rfl | exact Or.inr rfl)) (pgs_cons (pg_name (i := 6) sc_least_form.nd rfl (by first | exact Or.inl rfl | exact Or.inr rfl)) pgs_nil))))
    (pss_cons (ps_while PassesOwn.never (PW.pt (pw_and (pt_cmpR op_gt (pv 3) (pv 5) (nomark _)) (pw_and1 (pt_cmpR op_eq (pe_ix (r := rIxL K) ix_list (pv 4) (pv 3) (fun _ _ => rfl)) (pe_op op_add (pe_ix (r := rIxL K) ix_list (pv 4) (pe_op op_sub (pv 3) (pv 5)) (fun _ _ => rfl)) (pv 6)) (nomark _))))) (pss_one (ps_aug (i := 3) sc_least_form.nd rfl (.inl rfl) pe_int ip_sub)))
    (pss_one (ps_ret (pe_tup (pa_cons (pe_slice (r := rSlL K) sl_list (pv 4) (po_some pe_int) (po_some (pe_op op_add (pv 3) pe_int))) (pa_cons (pv 5) (pa_cons (pv 6) pa_nil)))))))))), ?_⟩
    refine ⟨_, rfl, l, _, rfl, .inl hS, ?_⟩
    rw [List.length_map]
    refine ⟨_, rfl, _, rfl, _, _, rfl, rfl, _, _, rfl, rfl, _, rfl, by omega, by omega, fun D hD => lc_range (lo := 0) (n := ((xs.length : Int) + p + 1).toNat)
      (fun j H2 => H2 D = some (.lst ((row (cvAt xs p g) j).map V.int)) ∧ Same H H2) ?_ ?_ ?_⟩
    · exact ⟨upd_same, Same.upd (Same.refl H) hD⟩
    · rintro j H2 hj ⟨hD2, s2⟩
      refine ⟨rfl, _, rfl, _, rfl, _, rfl, _, rfl, l, xs, p, g, _, rfl, s2.seq hS, hp, hpn, hn, by omega, by omega, _, hD2, small (by rw [List.length_map, row_length]; omega), ?_, ?_⟩
      · rw [upd_same, rowI_succ]
        rw [Int.zero_add]
      · exact Same.upd s2 hD
    · rintro H2 ⟨hD2, s2⟩
      refine ⟨_, rfl, _, rfl, _, rfl, D, cvAt xs p g, xs.length, p, rfl, SqL.of hD2, hp, by omega, by omega, by omega, hpn, fun H3 t s3 ht0 ht => ?_⟩
      refine ⟨t, _, rfl, .inl (.inl ht), rfl, _, _, rfl, _, _, rfl, rfl, ?_⟩
      obtain ⟨q1, q2, q3⟩ := leastP_spec (Rep.cvAt (g := g) hp hpn) hp
      have hP : formP xs p g = leastP (cvAt xs p g) xs.length p := rfl
      rw [← hP] at q1 q2 ht ⊢
      generalize hd : (formP xs p g).1 = d at *
      generalize hs : (formP xs p g).2 = st at *
      refine ⟨fun (m : Nat) (σ : L2.St) (H' : Hp) => σ = [some (.ref l), some (.int p), some (.int g), some (.int (m : Nat)), some (.ref D), some (.int d), some (.int st), none] ∧ Same H2 H' ∧ m ≤ xs.length ∧ d ≤ m ∧
        shr (cvAt xs p g) d st xs.length = shr (cvAt xs p g) d st m, ⟨xs.length, rfl, s3, Nat.le_refl _, by omega, rfl⟩, ?_⟩
      rintro m σ H4 ⟨rfl, s4, hm, hdm, e⟩
      have hD4 := s4 _ _ hD2
      have s4' : Same H H4 := s2.trans s4
      refine ⟨_, rfl, _, rfl, _, _, rfl, rfl, _, rfl, ifD (fun c => ?_) (fun c => ?_)⟩
      · refine ⟨_, rfl, _, rfl, D, _, _, _, rfl, rfl, SqL.of hD4, at_row (by omega) (by omega), _, rfl, _, rfl, _, rfl, _, _, rfl, rfl, D, _, _, _, rfl, rfl, SqL.of hD4, at_row (by omega) (by omega), _, rfl, _, _, rfl, rfl, rfl, _, rfl, ifEq (fun c2 => ?_) (fun c2 => ?_)⟩
        · refine ⟨fun σ' H' => σ' = [some (.ref l), some (.int p), some (.int g), some (.int ((m : Int) - 1)), some (.ref D), some (.int d), some (.int st), none] ∧ H' = H4, ?_, ?_⟩
          · rintro σ' H' ⟨rfl, rfl⟩
            refine ⟨m - 1, by omega, ?_, s4, by omega, by omega, ?_⟩
            · rw [show (m : Int) - 1 = ((m - 1 : Nat) : Int) by omega]
            · rw [e]
              obtain ⟨m, rfl⟩ : ∃ m', m = m' + 1 := ⟨m - 1, by omega⟩
              show shr (cvAt xs p g) d st (m + 1) = shr (cvAt xs p g) d st m
              conv => lhs; unfold shr
              rw [if_pos ⟨c, c2⟩]
          · exact ⟨_, rfl, _, _, rfl, rfl, rfl, rfl⟩
        · refine ⟨_, rfl, _, rfl, _, rfl, _, _, rfl, rfl, _, rfl, D, _, rfl, SqL.of hD4, fun l' hl' => ⟨_, rfl, _, rfl, (by show 3 ≤ sizeLine; decide), fun t' ht' => ?_⟩⟩
          have em : formM xs p g = m := by
            unfold formM
            rw [hd, hs, e]
            cases m with
            | zero => rfl
            | succ m =>
              unfold shr
              rw [if_neg (fun z => c2 z.2)]
          have nl : l' ≠ t' := fun z => by rw [← z, upd_same] at ht'; cases ht'
          have ht4 : H4 t' = none := by rw [upd_ne (Ne.symm nl)] at ht'; exact ht'
          refine k _ t' l' (Same.upd (Same.upd s4' (s4'.free hl')) (s4'.free ht4)) (s4'.free ht4) (s4'.free hl') upd_same ?_
          rw [upd_ne nl, upd_same]
          unfold formV
          rw [em, cut_row (by omega)]
      · refine ⟨_, rfl, _, rfl, _, rfl, _, _, rfl, rfl, _, rfl, D, _, rfl, SqL.of hD4, fun l' hl' => ⟨_, rfl, _, rfl, (by show 3 ≤ sizeLine; decide), fun t' ht' => ?_⟩⟩
        have em : formM xs p g = m := by
          unfold formM
          rw [hd, hs, e]
          cases m with
            | zero => rfl
            | succ m =>
              unfold shr
              rw [if_neg (fun z => c z.1)]
        have nl : l' ≠ t' := fun z => by rw [← z, upd_same] at ht'; cases ht'
        have ht4 : H4 t' = none := by rw [upd_ne (Ne.symm nl)] at ht'; exact ht'
        refine k _ t' l' (Same.upd (Same.upd s4' (s4'.free hl')) (s4'.free ht4)) (s4'.free ht4) (s4'.free hl') upd_same ?_
        rw [upd_ne nl, upd_same]
        unfold formV
        rw [em, cut_row (by omega)]
end
end VK


namespace VK
open PySem PySem.Spec PyProof.Rows L2 VM
theorem Kd.list {K : PySem.W.Frag} {H : Hp} {l : Addr} {xs : List V} (h : SqL K H l xs) : Kd K H (.ref l) "list" := by
  refine ⟨?_, by decide⟩
  rcases h with (h | ⟨o, h⟩) | ⟨o, its, n, h1, h2, _⟩
  · exact .base (.lst h)
  · exact .base (.frz h)
  · exact .kList h1 h2
/-- a curve as it may be written -/
structure OkRow (xs : List Int) (p g : Int) : Prop where
  l1 : 1 ≤ xs.length
  l2 : xs.length ≤ 24
  lo : ∀ i, i < xs.length → 0 ≤ xs.getD i 0
  hi : ∀ i, i < xs.length → xs.getD i 0 ≤ 2000
  up : ∀ i, i + 1 < xs.length → xs.getD i 0 ≤ xs.getD (i + 1) 0
  per : p = 1 ∨ p = 2 ∨ p = 3 ∨ p = 4 ∨ p = 6 ∨ p = 12
  pn : p ≤ xs.length
  g0 : 0 ≤ g
  g1 : g ≤ 2000
  last : xs.getD (xs.length - 1) 0 ≤ xs.getD (xs.length - p.toNat) 0 + g
def sp_find_problem (K : PySem.W.Frag) (_ : Ad) : Sp := fun vs H Q _ => ∃ (l : Addr) (xs : List Int) (p g : Int), vs = [.ref l, .int p, .int g] ∧
  SqL K H l (xs.map V.int) ∧ OkRow xs p g ∧ ∀ H', Same H H' → Q .non H'
section
variable {P : Program} {w : World} {K : PySem.W.Frag} {mg : Str → Option Value} {base : Heap} {A : Ad}
theorem ok_find_problem (T : Txt K mg A) : FnOk P w K mg base CX0 4 A.f_find_problem A.d_find_problem ["values", "period", "gain"] (sp_find_problem K A) := by
  have G_is_count_to := ok_is_count_to (P := P) (w := w) (base := base) T
  have G_is_integer := ok_is_integer (P := P) (w := w) (base := base) T
  refine T.F_find_problem.ok sc_find_problem (fun vs H Q E h => ?_) (fun cdv A0 outer s H vs Q E hr h => ?_)
  · obtain ⟨l, xs, p, g, rfl, hS, R, k⟩ := h
    rfl
  · obtain ⟨l, xs, p, g, rfl, hS, R, k⟩ := h
    refine ⟨_, (pss_cons (ps_if (pt_not (pt_val (pe_callB (r := rIsi K) call_isi (by rfl) T.isinstance (by decide +kernel) (pa_cons (pv 0) (pa_cons (pe_bltn (v := .ty "list") (u := .type "list") (by rfl) T.list (by decide +kernel) (by exact rfl)) pa_nil))))) (pss_one (ps_ret (pe_tup (pa_cons pe_str (pa_cons pe_int pa_nil))))) pss_nil)
    (pss_cons (ps_if (pt_not (pt_chain op_le op_le pe_int (pe_callB (r := VG.rLen K) VG.call_len (by rfl) T.len (by decide +kernel) (pa_cons (pv 0) pa_nil)) (pe_glob (v := .int 24) rfl T.v_MAX_VALUES ⟨_, rfl⟩))) (pss_one (ps_ret (pe_tup (pa_cons pe_str (pa_cons pe_int pa_nil))))) pss_nil)
    (pss_cons (ps_set (i := 3) sc_find_problem.nd rfl (by first | exact Or.inl rfl | exact Or.inr rfl) pe_int)
    (pss_cons (ps_for PassesOwn.never rfl (pi_enum (by rfl) T.enumerate (pa_cons (pv 0) pa_nil)) (pg_tup rfl (pgs_cons (pg_name (i := 4) sc_find_problem.nd rfl (by first | exact Or.inl rfl | exact Or.inr rfl)) (pgs_cons (pg_name (i := 5) sc_find_problem.nd rfl (by first | exact Or.inl rfl | exact Or.inr rfl)) pgs_nil)))
      (pss_cons (ps_if (PW.pt (pw_or (pt_not (pt_val (pe_call G_is_count_to (hr.mono (by decide)) rfl T.m_is_count_to T.k_is_count_to T.b_is_count_to .nil pass0 (pa_cons (pv 5) (pa_cons (pe_glob (v := .int 2000) rfl T.v_MAX_VALUE ⟨_, rfl⟩) pa_nil))))) (pw_or1 (pt_cmpR op_lt (pv 5) (pv 3) (nomark _))))) (pss_one (ps_ret (pe_tup (pa_cons pe_str (pa_cons (pv 4) pa_nil))))) pss_nil)
    (pss_one (ps_set (i := 3) sc_find_problem.nd rfl (by first | exact Or.inl rfl | exact Or.inr rfl) (pv 5)))))
    (pss_cons (ps_if (PW.pt (pw_or (pt_not (pt_val (pe_call G_is_integer (hr.mono (by decide)) rfl T.m_is_integer T.k_is_integer T.b_is_integer .nil pass0 (pa_cons (pv 1) pa_nil)))) (pw_or (pt_cmpR (r := rIn K true) op_notIn_seq (pv 1) (pe_glob (v := .ref A.a_PERIODS) rfl T.v_PERIODS rfl) (by rfl)) (pw_or1 (pt_cmpR op_gt (pv 1) (pe_callB (r := VG.rLen K) VG.call_len (by rfl) T.len (by decide +kernel) (pa_cons (pv 0) pa_nil)) (nomark _)))))) (pss_one (ps_ret (pe_tup (pa_cons pe_str (pa_cons pe_int pa_nil))))) pss_nil)
    (pss_cons (ps_if (PW.pt (pw_or (pt_not (pt_val (pe_call G_is_count_to (hr.mono (by decide)) rfl T.m_is_count_to T.k_is_count_to T.b_is_count_to .nil pass0 (pa_cons (pv 2) (pa_cons (pe_glob (v := .int 2000) rfl T.v_MAX_VALUE ⟨_, rfl⟩) pa_nil))))) (pw_or1 (pt_cmpR op_lt (pe_op op_add (pe_ix (r := rIxL K) ix_list (pv 0) (pe_un un_neg (pv 1)) (fun _ _ => rfl)) (pv 2)) (pe_ix (r := rIxL K) ix_list (pv 0) (pe_un un_neg pe_int) (fun _ _ => rfl)) (nomark _))))) (pss_one (ps_ret (pe_tup (pa_cons pe_str (pa_cons pe_int pa_nil))))) pss_nil)
    (pss_one (ps_ret pe_non)))))))), ?_⟩
    refine ⟨_, rfl, .ref l, .ty "list", _, _, _, rfl, .ty _, (Kd.list hS).1, (show PySem.W.kitOne K (.type "list") (.type "list") = some true from kit_ty (by decide +kernel)), _, rfl, iteF ?_⟩
    have l1 := R.l1
    have l2 := R.l2
    refine ⟨_, rfl, l, _, rfl, .inl hS, _, _, rfl, rfl, _, rfl, ?_⟩
    rw [List.length_map]
    refine ifD (fun _ => ?_) (fun c => absurd (show (1 : Int) ≤ xs.length by omega) c)
    refine ⟨_, _, rfl, rfl, _, rfl, iteNS (by omega) ?_⟩
    -- before = 0; the loop
    refine ⟨_, rfl, l, _, rfl, hS, for_it (walk_enum (K := K) (a := l) (xs := xs.map V.int)) (fun i σ H' => ∃ v5 v6, σ = [some (.ref l), some (.int p), some (.int g), some (.int (if i = 0 then 0 else xs.getD (i - 1) 0)), v5, v6] ∧ Same H H')
      ⟨_, _, rfl, Same.refl H⟩ (fun i σ H' _ ⟨_, _, _, s0⟩ => s0.seq hS) ?_ ?_⟩
    · rintro i x σ H' H2 hi ⟨v5, v6, rfl, s0⟩ ⟨t, a, b, rfl, ht, rfl, ea, eb⟩
      rw [List.length_map] at hi
      have eb' : (xs.map V.int)[i]? = some b := eb
      rw [getD_map hi] at eb'
      cases ea
      cases eb'
      have s2 : Same H (upd H' t (.tup [.int (i : Nat), .int (xs.getD i 0)])) := Same.upd s0 (s0.free ht)
      refine ⟨t, _, rfl, SqT.of upd_same, rfl, _, _, rfl, _, _, rfl, rfl, ?_⟩
      have r1 := R.lo i hi
      have r2 := R.hi i hi
      refine ⟨_, rfl, _, _, _, rfl, Kd.int _, _, rfl, ?_⟩
      have e1 : cntTo 2000 (.int (xs.getD i 0)) = true := by unfold cntTo; exact decide_eq_true ⟨r1, r2⟩
      rw [e1]
      refine iteF ⟨_, rfl, _, rfl, _, _, rfl, rfl, _, rfl, ?_⟩
      refine ifD (fun c => ?_) (fun c => ?_)
      · exfalso
        by_cases z : i = 0
        · rw [if_pos z] at c; omega
        · rw [if_neg z] at c
          have := R.up (i - 1) (by omega)
          rw [show i - 1 + 1 = i by omega] at this
          omega
      · refine ⟨_, rfl, some (.int (i : Nat)), some (.int (xs.getD i 0)), ?_, s2⟩
        rw [if_neg (Nat.succ_ne_zero i)]
        rfl
    · rintro σ H' ⟨v5, v6, rfl, s0⟩
      have hS' := s0.seq hS
      have pn := R.pn
      have g0 := R.g0
      have g1 := R.g1
      have last := R.last
      have pp : 0 < p ∧ p ≤ 12 := by rcases R.per with h | h | h | h | h | h <;> omega
      refine ⟨_, rfl, _, _, rfl, Kd.int _, _, rfl, iteF ?_⟩
      have inP : inV (.int p) [.int 1, .int 2, .int 3, .int 4, .int 6, .int 12] = true := by
        rcases R.per with h | h | h | h | h | h <;> subst h <;> decide
      refine ⟨_, rfl, A.a_PERIODS, _, rfl, .inr (T.periods H'), rfl, rfl, _, rfl, ?_⟩
      rw [inP]
      refine iteF ⟨_, rfl, _, rfl, l, _, rfl, .inl hS', _, _, rfl, rfl, _, rfl, ?_⟩
      rw [List.length_map]
      refine ifD (fun c => absurd pn (by omega)) (fun _ => ?_)
      have e1 : cntTo 2000 (.int g) = true := by unfold cntTo; exact decide_eq_true ⟨g0, g1⟩
      refine ⟨_, rfl, _, _, _, rfl, Kd.int _, _, rfl, ?_⟩
      rw [e1]
      refine iteF ⟨_, rfl, _, rfl, _, rfl, l, _, _, _, rfl, rfl, hS', at_back (by omega) (by omega), _, rfl, _, _, rfl, rfl, _, rfl, _, rfl, l, _, _, _, rfl, rfl, hS', at_back (by omega) (by omega), _, _, rfl, rfl, _, rfl, ?_⟩
      refine ifD (fun c => ?_) (fun _ => k H' s0)
      exfalso
      rw [show (-p + (xs.length : Int)).toNat = xs.length - p.toNat by omega, show (-1 + (xs.length : Int)).toNat = xs.length - 1 by omega] at c
      omega
end
end VK


namespace VK
open PySem PySem.Spec PyProof.Rows L2 VM
/-- the attributes of a curve -/
def cfs (l : Addr) (p g : Int) (w : Bool) : List (Str × V) := [("_values", V.ref l), ("_period", V.int p), ("_gain", V.int g), ("_was_searched", V.bl w), ("_break", V.non)]
theorem n_vp : ¬ (("_values" : Str) = "_period") := by decide +kernel
theorem n_vg : ¬ (("_values" : Str) = "_gain") := by decide +kernel
theorem n_pg : ¬ (("_period" : Str) = "_gain") := by decide +kernel
theorem n_vw : ¬ (("_values" : Str) = "_was_searched") := by decide +kernel
theorem n_pw : ¬ (("_period" : Str) = "_was_searched") := by decide +kernel
theorem n_gw : ¬ (("_gain" : Str) = "_was_searched") := by decide +kernel
theorem n_vb : ¬ (("_values" : Str) = "_break") := by decide +kernel
theorem n_pb : ¬ (("_period" : Str) = "_break") := by decide +kernel
theorem n_gb : ¬ (("_gain" : Str) = "_break") := by decide +kernel
theorem n_wb : ¬ (("_was_searched" : Str) = "_break") := by decide +kernel
theorem put1 (v : V) : putF "_values" v [] = [(("_values" : Str), v)] := rfl
theorem put2 (v u : V) : putF "_period" u [(("_values" : Str), v)] = [(("_values" : Str), v), ("_period", u)] := by
  show (if ("_values" : Str) = "_period" then _ else (("_values" : Str), v) :: putF "_period" u []) = _
  rw [if_neg n_vp]
  rfl
theorem put3 (v u z : V) : putF "_gain" z [(("_values" : Str), v), ("_period", u)] = [(("_values" : Str), v), ("_period", u), ("_gain", z)] := by
  show (if ("_values" : Str) = "_gain" then _ else (("_values" : Str), v) :: (if ("_period" : Str) = "_gain" then _ else (("_period" : Str), u) :: putF "_gain" z [])) = _
  rw [if_neg n_vg, if_neg n_pg]
  rfl
theorem put4 (v u z y : V) : putF "_was_searched" y [(("_values" : Str), v), ("_period", u), ("_gain", z)] = [(("_values" : Str), v), ("_period", u), ("_gain", z), ("_was_searched", y)] := by
  show (if ("_values" : Str) = "_was_searched" then _ else (("_values" : Str), v) :: (if ("_period" : Str) = "_was_searched" then _ else (("_period" : Str), u) :: (if ("_gain" : Str) = "_was_searched" then _ else (("_gain" : Str), z) :: putF "_was_searched" y []))) = _
  rw [if_neg n_vw, if_neg n_pw, if_neg n_gw]
  rfl
theorem put5 (v u z y x : V) : putF "_break" x [(("_values" : Str), v), ("_period", u), ("_gain", z), ("_was_searched", y)] = [(("_values" : Str), v), ("_period", u), ("_gain", z), ("_was_searched", y), ("_break", x)] := by
  show (if ("_values" : Str) = "_break" then _ else (("_values" : Str), v) :: (if ("_period" : Str) = "_break" then _ else (("_period" : Str), u) :: (if ("_gain" : Str) = "_break" then _ else (("_gain" : Str), z) :: (if ("_was_searched" : Str) = "_break" then _ else (("_was_searched" : Str), y) :: putF "_break" x [])))) = _
  rw [if_neg n_vb, if_neg n_pb, if_neg n_gb, if_neg n_wb]
  rfl
theorem cset_w (l : Addr) (p g : Int) (w : Bool) : putF "_was_searched" (.bl true) (cfs l p g w) = cfs l p g true := by
  show (if ("_values" : Str) = "_was_searched" then _ else (("_values" : Str), V.ref l) :: (if ("_period" : Str) = "_was_searched" then _ else (("_period" : Str), V.int p) :: (if ("_gain" : Str) = "_was_searched" then _ else (("_gain" : Str), V.int g) :: (if ("_was_searched" : Str) = "_was_searched" then _ else _)))) = _
  rw [if_neg n_vw, if_neg n_pw, if_neg n_gw, if_pos rfl]
  rfl
theorem cset_b (l : Addr) (p g : Int) (w : Bool) : putF "_break" V.non (cfs l p g w) = cfs l p g w := by
  show (if ("_values" : Str) = "_break" then _ else (("_values" : Str), V.ref l) :: (if ("_period" : Str) = "_break" then _ else (("_period" : Str), V.int p) :: (if ("_gain" : Str) = "_break" then _ else (("_gain" : Str), V.int g) :: (if ("_was_searched" : Str) = "_break" then _ else (("_was_searched" : Str), V.bl w) :: (if ("_break" : Str) = "_break" then _ else _))))) = _
  rw [if_neg n_vb, if_neg n_pb, if_neg n_gb, if_neg n_wb, if_pos rfl]
  rfl
theorem cfs_v (l : Addr) (p g : Int) (w : Bool) : (cfs l p g w).lookup ("_values" : Str) = some (.ref l) := by
  unfold cfs; simp [List.lookup]
theorem cfs_p (l : Addr) (p g : Int) (w : Bool) : (cfs l p g w).lookup ("_period" : Str) = some (.int p) := by
  have h : (("_period" : Str) == "_values") = false := by decide +kernel
  unfold cfs; simp [List.lookup, h]
theorem cfs_g (l : Addr) (p g : Int) (w : Bool) : (cfs l p g w).lookup ("_gain" : Str) = some (.int g) := by
  have h : (("_gain" : Str) == "_values") = false := by decide +kernel
  have h2 : (("_gain" : Str) == "_period") = false := by decide +kernel
  unfold cfs; simp [List.lookup, h, h2]
theorem cfs_w (l : Addr) (p g : Int) (w : Bool) : (cfs l p g w).lookup ("_was_searched" : Str) = some (.bl w) := by
  have h : (("_was_searched" : Str) == "_values") = false := by decide +kernel
  have h2 : (("_was_searched" : Str) == "_period") = false := by decide +kernel
  have h3 : (("_was_searched" : Str) == "_gain") = false := by decide +kernel
  unfold cfs; simp [List.lookup, h, h2, h3]
theorem cfs_b (l : Addr) (p g : Int) (w : Bool) : (cfs l p g w).lookup ("_break" : Str) = some .non := by
  have h : (("_break" : Str) == "_values") = false := by decide +kernel
  have h2 : (("_break" : Str) == "_period") = false := by decide +kernel
  have h3 : (("_break" : Str) == "_gain") = false := by decide +kernel
  have h4 : (("_break" : Str) == "_was_searched") = false := by decide +kernel
  unfold cfs; simp [List.lookup, h, h2, h3, h4]
theorem cfs_no (l : Addr) (p g : Int) {w : Bool} {m : Str} (h1 : (m == ("_values" : Str)) = false) (h2 : (m == ("_period" : Str)) = false) (h3 : (m == ("_gain" : Str)) = false) (h4 : (m == ("_was_searched" : Str)) = false := by decide +kernel) (h5 : (m == ("_break" : Str)) = false := by decide +kernel) : (cfs l p g w).lookup m = none := by
  unfold cfs; simp [List.lookup, h1, h2, h3, h4, h5]
/-- a curve whose form is this -/
def CrvAt (A : Ad) (H : Hp) (x : Addr) (vs : List Int) (p g : Int) : Prop := ∃ dx l w, H x = some (.ins A.Curve dx (cfs l p g w)) ∧ H l = some (.lst (vs.map V.int))
theorem CrvAt.same {A : Ad} {H H' : Hp} {x : Addr} {vs : List Int} {p g : Int} (h : CrvAt A H x vs p g) (s : Same H H') : CrvAt A H' x vs p g := by
  obtain ⟨dx, l, w, h1, h2⟩ := h
  exact ⟨dx, l, w, s _ _ h1, s _ _ h2⟩
def sp_C_init (K : PySem.W.Frag) (A : Ad) : Sp := fun vs H Q _ => ∃ (x dx l : Addr) (xs : List Int) (p g : Int), vs = [.ref x, .ref l, .int p, .int g] ∧
  H x = some (.ins A.Curve dx []) ∧ SqL K H l (xs.map V.int) ∧ OkRow xs p g ∧
  ∀ H' dx' l', (∀ b o, b ≠ x → H b = some o → H' b = some o) → H l' = none → H' x = some (.ins A.Curve dx' (cfs l' (formP xs p g).1 (formP xs p g).2 false)) → H' l' = some (.lst ((formV xs p g).map V.int)) → Q .non H'
def sp_C_at (K : PySem.W.Frag) (A : Ad) : Sp := fun vs H Q _ => ∃ (x : Addr) (xs : List Int) (p g t : Int), vs = [.ref x, .int t] ∧
  CrvAt A H x xs p g ∧ 0 < p ∧ p ≤ xs.length ∧ xs.length ≤ 1000 ∧ 0 ≤ t ∧ t < 2 ^ 62 ∧ Q (.int (cvAt xs p g t)) H
section
variable {P : Program} {w : World} {K : PySem.W.Frag} {mg : Str → Option Value} {base : Heap} {A : Ad}
theorem ok_C_init (T : Txt K mg A) : FnOk P w K mg base CX0 5 A.f_C_init A.d_C_init ["self", "values", "period", "gain"] (sp_C_init K A) := by
  have G_find_problem := ok_find_problem (P := P) (w := w) (base := base) T
  have G_least_form := ok_least_form (P := P) (w := w) (base := base) T
  refine T.F_C_init.ok sc_C_init (fun vs H Q E h => ?_) (fun cdv A0 outer s H vs Q E hr h => ?_)
  · obtain ⟨x, dx, l, xs, p, g, rfl, hx, hS, R, k⟩ := h
    rfl
  · obtain ⟨x, dx, l, xs, p, g, rfl, hx, hS, R, k⟩ := h
    refine ⟨_, (pss_cons (ps_set (i := 4) sc_C_init.nd rfl (by first | exact Or.inl rfl | exact Or.inr rfl) (pe_call G_find_problem (hr.mono (by decide)) rfl T.m_find_problem T.k_find_problem T.b_find_problem .nil pass0 (pa_cons (pv 1) (pa_cons (pv 2) (pa_cons (pv 3) pa_nil)))))
    (pss_cons (ps_if (pt_cmp (pc_notN (pv 4)) rfl) (pss_one ps_never) pss_nil)
    (pss_cons (ps_asg (pe_call G_least_form (hr.mono (by decide)) rfl T.m_least_form T.k_least_form T.b_least_form .nil pass0 (pa_cons (pv 1) (pa_cons (pv 2) (pa_cons (pv 3) pa_nil)))) (pg_tup rfl (pgs_cons (pg_name (i := 5) sc_C_init.nd rfl (by first | exact Or.inl rfl | exact Or.inr rfl)) (pgs_cons (pg_name (i := 6) sc_C_init.nd rfl (by first | exact Or.inl rfl | exact Or.inr rfl)) (pgs_cons (pg_name (i := 7) sc_C_init.nd rfl (by first | exact Or.inl rfl | exact Or.inr rfl)) pgs_nil)))))
    (pss_cons (ps_fld (pv 0) (pv 5) rfl)
    (pss_cons (ps_fld (pv 0) (pv 6) rfl)
    (pss_cons (ps_fld (pv 0) (pv 7) rfl)
    (pss_cons (ps_fld (pv 0) pe_bl rfl)
    (pss_one (ps_fld (pv 0) pe_non rfl))))))))), ?_⟩
    have pp : 0 < p ∧ p ≤ 12 := by rcases R.per with h | h | h | h | h | h <;> omega
    refine ⟨_, rfl, _, rfl, _, rfl, l, xs, p, g, rfl, hS, R, fun H1 s1 => ?_⟩
    refine ⟨_, rfl, _, rfl, iteF ?_⟩
    refine ⟨_, rfl, _, rfl, _, rfl, l, xs, p, g, rfl, s1.seq hS, pp.1, R.pn, by have := R.l2; omega, fun H2 t l' s2 ht0 hl0 ht hl => ?_⟩
    refine ⟨t, _, rfl, SqT.of ht, rfl, _, _, rfl, _, _, rfl, _, _, rfl, rfl, ?_⟩
    have s02 : Same H H2 := s1.trans s2
    have hx2 := s02 _ _ hx
    have nlx : l' ≠ x := fun z => by rw [z, s1 _ _ hx] at hl0; cases hl0
    refine ⟨_, rfl, _, rfl, x, _, dx, _, rfl, hx2, T.cl, T.n_values, (by show 0 < 1000; decide), ?_⟩
    refine ⟨_, rfl, _, rfl, x, _, dx, _, rfl, upd_same, T.cl, T.n_period, (by show 1 < 1000; decide), ?_⟩
    refine ⟨_, rfl, _, rfl, x, _, dx, _, rfl, upd_same, T.cl, T.n_gain, (by rw [put1, put2]; show 2 < 1000; decide), ?_⟩
    refine ⟨_, rfl, x, _, dx, _, rfl, upd_same, T.cl, T.n_was_searched, (by rw [put1, put2, put3]; show 3 < 1000; decide), ?_⟩
    refine ⟨_, rfl, x, _, dx, _, rfl, upd_same, T.cl, T.n_break, (by rw [put1, put2, put3, put4]; show 4 < 1000; decide), ?_⟩
    refine k _ dx l' (fun b o hb e => ?_) (s1.free hl0) ?_ ?_
    · rw [upd_ne hb, upd_ne hb, upd_ne hb, upd_ne hb, upd_ne hb]; exact s02 _ _ e
    · rw [upd_same, put1, put2, put3, put4, put5]; rfl
    · rw [upd_ne nlx, upd_ne nlx, upd_ne nlx, upd_ne nlx, upd_ne nlx]; exact hl
theorem ok_C_at (T : Txt K mg A) : FnOk P w K mg base CX0 3 A.f_C_at A.d_C_at ["self", "length"] (sp_C_at K A) := by
  have G_is_count := ok_is_count (P := P) (w := w) (base := base) T
  have G_value_at := ok_value_at (P := P) (w := w) (base := base) T
  refine T.F_C_at.ok sc_C_at (fun vs H Q E h => ?_) (fun cdv A0 outer s H vs Q E hr h => ?_)
  · obtain ⟨x, xs, p, g, t, rfl, ⟨dx, l, w, hx, hl⟩, hp, hpn, hn, ht, htb, q⟩ := h
    rfl
  · obtain ⟨x, xs, p, g, t, rfl, ⟨dx, l, w, hx, hl⟩, hp, hpn, hn, ht, htb, q⟩ := h
    refine ⟨_, (pss_cons (ps_if (pt_not (pt_val (pe_call G_is_count (hr.mono (by decide)) rfl T.m_is_count T.k_is_count T.b_is_count .nil pass0 (pa_cons (pv 1) pa_nil)))) (pss_one ps_never) pss_nil)
    (pss_one (ps_ret (pe_call G_value_at (hr.mono (by decide)) rfl T.m_value_at T.k_value_at T.b_value_at .nil pass0 (pa_cons (pe_fld (pv 0) rfl) (pa_cons (pe_fld (pv 0) rfl) (pa_cons (pe_fld (pv 0) rfl) (pa_cons (pv 1) pa_nil)))))))), ?_⟩
    refine ⟨_, rfl, _, _, rfl, Kd.int _, ?_⟩
    have e1 : cnt (.int t) = true := by unfold cnt; exact decide_eq_true ht
    rw [e1]
    refine ⟨_, rfl, iteF ?_⟩
    refine ⟨_, rfl, x, _, dx, _, _, rfl, hx, T.cl, T.n_values, cfs_v _ _ _ _, _, rfl, x, _, dx, _, _, rfl, hx, T.cl, T.n_period, cfs_p _ _ _ _, _, rfl, x, _, dx, _, _, rfl, hx, T.cl, T.n_gain, cfs_g _ _ _ _, _, rfl, l, xs, p, g, t, rfl, SqL.of hl, hp, hpn, hn, ht, htb, q⟩
end
end VK


namespace VK
open PySem PySem.Spec PyProof.Rows L2 VM
/-- the state of draws at r -/
def Rng (H : Hp) (r : Addr) : Prop := ∃ a b : Int, H r = some (.lst [.int a, .int b]) ∧ 0 ≤ a ∧ 0 ≤ b ∧ b < 2147483563
/-- all but the state of draws stands -/
structure Ext (r : Addr) (H H' : Hp) : Prop where
  keep : ∀ b o, b ≠ r → H b = some o → H' b = some o
  rng : Rng H' r
theorem Ext.refl {r : Addr} {H : Hp} (h : Rng H r) : Ext r H H := ⟨fun _ _ _ e => e, h⟩
theorem Ext.trans {r : Addr} {H H1 H2 : Hp} (a : Ext r H H1) (b : Ext r H1 H2) : Ext r H H2 := ⟨fun c o n e => b.keep c o n (a.keep c o n e), b.rng⟩
theorem Rng.same {r : Addr} {H H' : Hp} (h : Rng H r) (s : Same H H') : Rng H' r := by
  obtain ⟨a, b, e, h1, h2, h3⟩ := h
  exact ⟨a, b, s _ _ e, h1, h2, h3⟩
theorem Ext.of {r : Addr} {H H' : Hp} (h : Rng H r) (s : Same H H') : Ext r H H' := ⟨fun b o _ e => s b o e, h.same s⟩
theorem Ext.same {r : Addr} {H H1 H2 : Hp} (a : Ext r H H1) (s : Same H1 H2) : Ext r H H2 := a.trans (.of a.rng s)
theorem Ext.free {r : Addr} {H H' : Hp} {l : Addr} (e : Ext r H H') (h : H' l = none) : H l = none := by
  have n : l ≠ r := fun z => by
    obtain ⟨a, b, q, _⟩ := e.rng
    rw [z, q] at h; cases h
  cases q : H l with
  | none => rfl
  | some o => rw [e.keep l o n q] at h; cases h
theorem Ext.seq {K : PySem.W.Frag} {r : Addr} {H H' : Hp} {a : Addr} {xs : List V} (e : Ext r H H') (n : a ≠ r) (h : SqL K H a xs) : SqL K H' a xs := by
  rcases h with (h | ⟨o, h⟩) | h
  · exact .inl (.inl (e.keep _ _ n h))
  · exact .inl (.inr ⟨o, e.keep _ _ n h⟩)
  · exact .inr h
theorem Rng.ne {r l : Addr} {H : Hp} (h : Rng H r) (hl : H l = none) : l ≠ r := fun z => by
  obtain ⟨a, b, q, _⟩ := h
  rw [z, q] at hl; cases hl
def sp_l_rng (K : PySem.W.Frag) (_ : Ad) : Sp := fun vs H Q _ => ∃ (a : Addr) (ns : List Int) (k : Int), vs = [.ref a, .int k] ∧ SqL K H a (ns.map V.int) ∧ 0 ≤ k ∧ k ≤ 100 ∧
  ∀ H' p, Same H H' → H p = none → Rng H' p → Q (.ref p) H'
def sp_l_draw (_ : PySem.W.Frag) (_ : Ad) : Sp := fun vs H Q _ => ∃ (r : Addr) (m : Int), vs = [.ref r, .int m] ∧ Rng H r ∧ 0 < m ∧ m < 1073741824 ∧
  ∀ H' d, Ext r H H' → 0 ≤ d → d < m → Q (.int d) H'
def sp_l_choice (K : PySem.W.Frag) (_ : Ad) : Sp := fun vs H Q _ => ∃ (r l : Addr) (ys : List V), vs = [.ref r, .ref l] ∧ Rng H r ∧ SqL K H l ys ∧ l ≠ r ∧ 0 < ys.length ∧ ys.length < 1000000 ∧
  ∀ H' v, Ext r H H' → v ∈ ys → Q v H'
def sp_l_at (K : PySem.W.Frag) (_ : Ad) : Sp := fun vs H Q _ => ∃ (t l : Addr) (xs : List Int) (p g s : Int), vs = [.ref t, .int s] ∧ SqT K H t [.ref l, .int p, .int g] ∧
  SqL K H l (xs.map V.int) ∧ 0 < p ∧ p ≤ xs.length ∧ xs.length ≤ 1000 ∧ 0 ≤ s ∧ s < 2 ^ 62 ∧ Q (.int (cvAt xs p g s)) H
section
variable {P : Program} {w : World} {K : PySem.W.Frag} {mg : Str → Option Value} {base : Heap} {A : Ad}
theorem ok_l_rng (T : Txt K mg A) : FnOk P w K mg base CX0 1 A.f_l_rng A.d_l_rng ["_law_script", "_law_k"] (sp_l_rng K A) := by
  refine T.F_l_rng.ok sc_l_rng (fun vs H Q E h => ?_) (fun cdv A0 outer s H vs Q E hr h => ?_)
  · obtain ⟨a, ns, k, rfl, hS, hk, hk2, q⟩ := h
    rfl
  · obtain ⟨a, ns, k, rfl, hS, hk, hk2, q⟩ := h
    refine ⟨_, (pss_cons (ps_set (i := 2) sc_l_rng.nd rfl (by first | exact Or.inl rfl | exact Or.inr rfl) (pe_op op_add (pe_op op_mul pe_int (pv 1)) pe_int))
    (pss_cons (ps_if (pt_cmpR op_lt (pv 1) (pe_callB (r := VG.rLen K) VG.call_len (by rfl) T.len (by decide +kernel) (pa_cons (pv 0) pa_nil)) (nomark _)) (pss_one (ps_set (i := 2) sc_l_rng.nd rfl (by first | exact Or.inl rfl | exact Or.inr rfl) (pe_ix (r := rIxL K) ix_list (pv 0) (pv 1) (fun _ _ => rfl)))) pss_nil)
    (pss_one (ps_ret (pe_lst (pa_cons (pe_callB (call_max2 rfl) (by rfl) T.max (by decide +kernel) (pa_cons pe_int (pa_cons (pe_op op_sub (pe_callB call_abs (by rfl) T.abs (by decide +kernel) (pa_cons (pv 2) pa_nil)) (pe_op op_pow pe_int pe_int)) pa_nil))) (pa_cons (pe_op op_add (pe_op op_mod (pe_op op_mul (pe_callTy call_int1 (by rfl) T.int (by decide +kernel) (pa_cons (pe_op op_add (pe_op op_mod (pe_callTy call_int1 (by rfl) T.int (by decide +kernel) (pa_cons (pe_callB call_abs (by rfl) T.abs (by decide +kernel) (pa_cons (pv 2) pa_nil)) pa_nil)) pe_int) pe_int) pa_nil)) (pe_op op_pow (pe_op op_add (pe_op op_mul pe_int (pv 1)) pe_int) pe_int)) pe_int) pe_int) pa_nil))))))), ?_⟩
    refine ⟨_, rfl, _, _, rfl, rfl, .inl ⟨by decide, by decide⟩, _, _, rfl, rfl, ?_⟩
    refine ⟨_, rfl, _, rfl, a, _, rfl, .inl hS, _, _, rfl, rfl, _, rfl, ?_⟩
    rw [List.length_map]
    have b1 : (2 * k + 5).natAbs < 2 ^ 64 := by omega
    refine ifD (fun c => ?_) (fun c => ?_)
    · refine ⟨_, rfl, _, rfl, a, _, _, _, rfl, rfl, hS, at_map hk c, ?_⟩
      generalize ns.getD k.toNat 0 = c0
      refine ⟨_, rfl, _, rfl, _, _, rfl, rfl, ⟨by decide, by decide, by decide⟩, _, _, rfl, rfl, _, _, rfl, ?_⟩
      have z1 := Int.emod_nonneg (if c0 < 0 then -c0 else c0) (show (2147483549 : Int) ≠ 0 by decide)
      have z2 := Int.emod_lt_of_pos (if c0 < 0 then -c0 else c0) (show (0 : Int) < 2147483549 by decide)
      refine ⟨_, rfl, _, rfl, .inl ⟨_, rfl, _, _, rfl, rfl, (by show (0 : Int) < 2147483549; decide), _, _, rfl, rfl, .inl ⟨_, rfl, _, rfl, _, _, rfl, rfl, .inl ⟨by decide, by decide⟩, _, _, rfl, rfl, _, _, rfl, rfl, ⟨by decide, by decide, b1⟩, _, _, rfl, rfl, .inl ⟨by omega, by omega⟩, _, _, rfl, rfl, (by show (0 : Int) < 2147483543; decide), _, _, rfl, rfl, (by show 2 ≤ sizeLine; decide), fun p hp => ?_⟩⟩⟩
      have z3 := Int.emod_nonneg (((if c0 < 0 then -c0 else c0) % 2147483549 + 1) * (2 * k + 5) ^ Int.toNat 3) (show (2147483543 : Int) ≠ 0 by decide)
      have z4 := Int.emod_lt_of_pos (((if c0 < 0 then -c0 else c0) % 2147483549 + 1) * (2 * k + 5) ^ Int.toNat 3) (show (0 : Int) < 2147483543 by decide)
      refine q _ p (Same.upd (Same.refl H) hp) hp ⟨_, _, upd_same, ?_, by omega, by omega⟩
      by_cases cc : (if c0 < 0 then -c0 else c0) - 10 ^ Int.toNat 18 > 0
      · rw [if_pos cc]; omega
      · rw [if_neg cc]; omega
    · refine ⟨_, rfl, _, rfl, _, _, rfl, rfl, ⟨by decide, by decide, by decide⟩, _, _, rfl, rfl, _, _, rfl, ?_⟩
      have z1 := Int.emod_nonneg (if (7 * k + 3) < 0 then -(7 * k + 3) else (7 * k + 3)) (show (2147483549 : Int) ≠ 0 by decide)
      have z2 := Int.emod_lt_of_pos (if (7 * k + 3) < 0 then -(7 * k + 3) else (7 * k + 3)) (show (0 : Int) < 2147483549 by decide)
      refine ⟨_, rfl, _, rfl, .inl ⟨_, rfl, _, _, rfl, rfl, (by show (0 : Int) < 2147483549; decide), _, _, rfl, rfl, .inl ⟨_, rfl, _, rfl, _, _, rfl, rfl, .inl ⟨by decide, by decide⟩, _, _, rfl, rfl, _, _, rfl, rfl, ⟨by decide, by decide, b1⟩, _, _, rfl, rfl, .inl ⟨by omega, by omega⟩, _, _, rfl, rfl, (by show (0 : Int) < 2147483543; decide), _, _, rfl, rfl, (by show 2 ≤ sizeLine; decide), fun p hp => ?_⟩⟩⟩
      have z3 := Int.emod_nonneg (((if (7 * k + 3) < 0 then -(7 * k + 3) else (7 * k + 3)) % 2147483549 + 1) * (2 * k + 5) ^ Int.toNat 3) (show (2147483543 : Int) ≠ 0 by decide)
      have z4 := Int.emod_lt_of_pos (((if (7 * k + 3) < 0 then -(7 * k + 3) else (7 * k + 3)) % 2147483549 + 1) * (2 * k + 5) ^ Int.toNat 3) (show (0 : Int) < 2147483543 by decide)
      refine q _ p (Same.upd (Same.refl H) hp) hp ⟨_, _, upd_same, ?_, by omega, by omega⟩
      by_cases cc : (if (7 * k + 3) < 0 then -(7 * k + 3) else (7 * k + 3)) - 10 ^ Int.toNat 18 > 0
      · rw [if_pos cc]; omega
      · rw [if_neg cc]; omega
theorem ok_l_draw (T : Txt K mg A) : FnOk P w K mg base CX0 1 A.f_l_draw A.d_l_draw ["_law_rng_here", "_law_many"] (sp_l_draw K A) := by
  refine T.F_l_draw.ok sc_l_draw (fun vs H Q E h => ?_) (fun cdv A0 outer s H vs Q E hr h => ?_)
  · obtain ⟨r, m, rfl, ⟨a, b, hr0, ha, hb, hb2⟩, hm, hm2, q⟩ := h
    rfl
  · obtain ⟨r, m, rfl, ⟨a, b, hr0, ha, hb, hb2⟩, hm, hm2, q⟩ := h
    refine ⟨_, (pss_cons (ps_if (pt_cmpR op_gt (pe_ix (r := rIxL K) ix_list (pv 0) pe_int (fun _ _ => rfl)) pe_int (nomark _)) (pss_cons (ps_asg (pe_callB call_divmod (by rfl) T.divmod (by decide +kernel) (pa_cons (pe_ix (r := rIxL K) ix_list (pv 0) pe_int (fun _ _ => rfl)) (pa_cons (pv 1) pa_nil))) (pg_tup rfl (pgs_cons (pg_sub (pv 0) pe_int set_list) (pgs_cons (pg_name (i := 2) sc_l_draw.nd rfl (by first | exact Or.inl rfl | exact Or.inr rfl)) pgs_nil))))
    (pss_one (ps_ret (pv 2)))) pss_nil)
    (pss_cons (ps_asg (pe_op op_mod (pe_callTy call_int1 (by rfl) T.int (by decide +kernel) (pa_cons (pe_op op_add (pe_op op_mul (pe_ix (r := rIxL K) ix_list (pv 0) pe_int (fun _ _ => rfl)) pe_int) pe_int) pa_nil)) pe_int) (pg_sub (pv 0) pe_int set_list))
    (pss_one (ps_ret (pe_op op_mod (pe_op op_fdiv (pe_op op_mod (pe_callTy call_int1 (by rfl) T.int (by decide +kernel) (pa_cons (pe_op op_mul (pe_ix (r := rIxL K) ix_list (pv 0) pe_int (fun _ _ => rfl)) (pe_ix (r := rIxL K) ix_list (pv 0) pe_int (fun _ _ => rfl))) pa_nil)) pe_int) pe_int) (pv 1)))))), ?_⟩
    refine ⟨_, rfl, r, _, _, _, rfl, rfl, SqL.of hr0, rfl, _, _, rfl, rfl, _, rfl, ifD (fun c => ?_) (fun c => ?_)⟩
    · refine ⟨_, rfl, r, _, _, _, rfl, rfl, SqL.of hr0, rfl, _, rfl, _, _, rfl, ⟨hm, hm2⟩, fun t ht => ?_⟩
      have nrt : r ≠ t := ne_of_none hr0 ht
      refine ⟨t, _, rfl, SqT.of upd_same, rfl, _, _, rfl, _, rfl, r, _, _, 0, rfl, rfl, (by rw [upd_ne nrt]; exact hr0), rfl, _, _, rfl, rfl, ?_⟩
      refine ⟨_, rfl, q _ _ ⟨fun z o hz e => ?_, a / m, b, upd_same, Int.ediv_nonneg ha (by omega), hb, hb2⟩ (Int.emod_nonneg _ (by omega)) (Int.emod_lt_of_pos _ hm)⟩
      rw [upd_ne hz, upd_ne (ne_of_none e ht)]; exact e
    · refine ⟨_, rfl, r, _, _, _, rfl, rfl, SqL.of hr0, rfl, _, _, rfl, rfl, .inl ⟨by omega, by omega⟩, _, _, rfl, rfl, .inl ⟨_, rfl, _, _, rfl, rfl, (by show (0 : Int) < 2147483563; decide), ?_⟩⟩
      have e0 := Int.emod_nonneg (b * 48311 + 20011) (show (2147483563 : Int) ≠ 0 by decide)
      have e1 := Int.emod_lt_of_pos (b * 48311 + 20011) (show (0 : Int) < 2147483563 by decide)
      refine ⟨_, rfl, r, _, _, 1, rfl, rfl, hr0, rfl, ?_⟩
      have hr1 : upd H r (.lst [.int a, .int ((b * 48311 + 20011) % 2147483563)]) r = some (.lst [.int a, .int ((b * 48311 + 20011) % 2147483563)]) := upd_same
      refine ⟨_, rfl, r, [.int a, .int ((b * 48311 + 20011) % 2147483563)], _, _, rfl, rfl, SqL.of hr1, rfl, _, rfl, r, [.int a, .int ((b * 48311 + 20011) % 2147483563)], _, _, rfl, rfl, SqL.of hr1, rfl, _, _, rfl, rfl, .inl ⟨by omega, by omega⟩, .inl ⟨_, rfl, _, _, rfl, rfl, (by show (0 : Int) < 2147483497; decide), _, _, rfl, rfl, ⟨by decide, by decide⟩, _, rfl, _, _, rfl, rfl, hm, ?_⟩⟩
      exact q _ _ ⟨fun z o hz e => by rw [upd_ne hz]; exact e, a, _, hr1, ha, e0, e1⟩ (Int.emod_nonneg _ (by omega)) (Int.emod_lt_of_pos _ hm)
theorem ok_l_choice (T : Txt K mg A) : FnOk P w K mg base CX0 2 A.f_l_choice A.d_l_choice ["_law_rng_here", "_law_some"] (sp_l_choice K A) := by
  have G_l_draw := ok_l_draw (P := P) (w := w) (base := base) T
  refine T.F_l_choice.ok sc_l_choice (fun vs H Q E h => ?_) (fun cdv A0 outer s H vs Q E hr h => ?_)
  · obtain ⟨r, l, ys, rfl, hr0, hS, hl, hy, hy2, q⟩ := h
    rfl
  · obtain ⟨r, l, ys, rfl, hr0, hS, hl, hy, hy2, q⟩ := h
    refine ⟨_, (pss_one (ps_ret (pe_ix (r := rIxL K) ix_list (pv 1) (pe_call G_l_draw (hr.mono (by decide)) rfl T.m_l_draw T.k_l_draw T.b_l_draw .nil pass0 (pa_cons (pv 0) (pa_cons (pe_callB (r := VG.rLen K) VG.call_len (by rfl) T.len (by decide +kernel) (pa_cons (pv 1) pa_nil)) pa_nil))) (fun _ _ => rfl)))), ?_⟩
    refine ⟨_, rfl, _, rfl, _, rfl, l, _, rfl, .inl hS, r, _, rfl, hr0, by omega, by omega, fun H1 d e1 h0 h1 => ?_⟩
    have hd : d.toNat < ys.length := by omega
    refine ⟨l, ys, d, ys[d.toNat], rfl, rfl, e1.seq hl hS, ?_, q H1 _ e1 (List.getElem_mem hd)⟩
    exact at_of (j := d.toNat) (by omega) (List.getElem?_eq_getElem hd)
theorem ok_l_at (T : Txt K mg A) : FnOk P w K mg base CX0 1 A.f_l_at A.d_l_at ["_law_row_here", "_law_length"] (sp_l_at K A) := by
  refine T.F_l_at.ok sc_l_at (fun vs H Q E h => ?_) (fun cdv A0 outer s H vs Q E hr h => ?_)
  · obtain ⟨t, l, xs, p, g, s, rfl, hT, hS, hp, hpn, hn, hs, hsb, q⟩ := h
    rfl
  · obtain ⟨t, l, xs, p, g, s, rfl, hT, hS, hp, hpn, hn, hs, hsb, q⟩ := h
    refine ⟨_, (pss_cons (ps_asg (pv 0) (pg_tup rfl (pgs_cons (pg_name (i := 2) sc_l_at.nd rfl (by first | exact Or.inl rfl | exact Or.inr rfl)) (pgs_cons (pg_name (i := 3) sc_l_at.nd rfl (by first | exact Or.inl rfl | exact Or.inr rfl)) (pgs_cons (pg_name (i := 4) sc_l_at.nd rfl (by first | exact Or.inl rfl | exact Or.inr rfl)) pgs_nil)))))
    (pss_cons (ps_if (pt_cmpR op_eq (pv 1) pe_int (nomark _)) (pss_one (ps_ret pe_int)) pss_nil)
    (pss_cons (ps_if (pt_cmpR op_le (pv 1) (pe_callB (r := VG.rLen K) VG.call_len (by rfl) T.len (by decide +kernel) (pa_cons (pv 2) pa_nil)) (nomark _)) (pss_one (ps_ret (pe_ix (r := rIxL K) ix_list (pv 2) (pe_op op_sub (pv 1) pe_int) (fun _ _ => rfl)))) pss_nil)
    (pss_cons (ps_set (i := 5) sc_l_at.nd rfl (by first | exact Or.inl rfl | exact Or.inr rfl) (pe_op op_fdiv (pe_op op_sub (pe_op op_add (pe_op op_sub (pv 1) (pe_callB (r := VG.rLen K) VG.call_len (by rfl) T.len (by decide +kernel) (pa_cons (pv 2) pa_nil))) (pv 3)) pe_int) (pv 3)))
    (pss_one (ps_ret (pe_op op_add (pe_ix (r := rIxL K) ix_list (pv 2) (pe_op op_sub (pe_op op_sub (pv 1) (pe_op op_mul (pv 5) (pv 3))) pe_int) (fun _ _ => rfl)) (pe_op op_mul (pv 5) (pv 4))))))))), ?_⟩
    refine ⟨_, rfl, t, _, rfl, hT, rfl, _, _, rfl, _, _, rfl, _, _, rfl, rfl, ?_⟩
    refine ⟨_, rfl, rfl, _, rfl, ifEq (fun c => ?_) (fun c => ?_)⟩
    · subst c
      rw [cvAt_zero] at q
      exact q
    refine ⟨_, rfl, _, rfl, l, _, rfl, .inl hS, _, _, rfl, rfl, _, rfl, ifD (fun c1 => ?_) (fun c1 => ?_)⟩
    · rw [List.length_map] at c1
      rw [cvAt_in (by omega) c1] at q
      exact ⟨_, rfl, _, rfl, _, _, rfl, rfl, l, _, _, _, rfl, rfl, hS, at_map (by omega) (by omega), q⟩
    · rw [List.length_map] at c1
      obtain ⟨r1, r2, r3⟩ := rounds_spec (n := (xs.length : Int)) (t := s) hp (by omega)
      have rb : (s - (xs.length : Int) + p - 1) / p ≤ s := by
        have := Int.ediv_le_self p (show 0 ≤ s - (xs.length : Int) + p - 1 by omega)
        omega
      refine ⟨_, rfl, _, rfl, l, _, rfl, .inl hS, _, _, rfl, rfl, _, rfl, _, _, rfl, rfl, _, _, rfl, rfl, _, rfl, _, _, rfl, rfl, ⟨hp, by omega⟩, ?_⟩
      rw [List.length_map]
      refine ⟨_, rfl, _, rfl, _, rfl, _, rfl, _, _, rfl, rfl, .inl ⟨by omega, by omega⟩, _, _, rfl, rfl, _, _, rfl, rfl, l, _, _, _, rfl, rfl, hS, at_map (by omega) (by omega),
        _, rfl, _, rfl, _, _, rfl, rfl, .inl ⟨by omega, by omega⟩, _, _, rfl, rfl, ?_⟩
      unfold cvAt at q
      rw [if_neg c, if_neg c1] at q
      exact q
end
end VK


namespace VK
open PySem PySem.Spec PyProof.Rows L2 VM
def GoodC (f : Int → Int) (n : Nat) : Prop := ∀ a b : Int, 1 ≤ b → b ≤ a → a ≤ n → f (a + b) ≤ f a + f b
/-- a curve whose break was looked for -/
def Srch (A : Ad) (H : Hp) (x : Addr) : Prop := ∃ dx l p g, H x = some (.ins A.Curve dx (cfs l p g true))
theorem Srch.same {A : Ad} {H H' : Hp} {x : Addr} (h : Srch A H x) (s : Same H H') : Srch A H' x := by
  obtain ⟨dx, l, p, g, h⟩ := h
  exact ⟨dx, l, p, g, s _ _ h⟩
theorem cfs_inj {l l' : Addr} {p p' g g' : Int} {w w' : Bool} (e : cfs l p g w = cfs l' p' g' w') : l = l' ∧ p = p' ∧ g = g' ∧ w = w' := by
  have v1 := cfs_v l p g w
  have v2 := cfs_p l p g w
  have v3 := cfs_g l p g w
  have v4 := cfs_w l p g w
  rw [e, cfs_v] at v1
  rw [e, cfs_p] at v2
  rw [e, cfs_g] at v3
  rw [e, cfs_w] at v4
  cases v1
  cases v2
  cases v3
  cases v4
  exact ⟨rfl, rfl, rfl, rfl⟩
theorem obj_inj {A : Ad} {H : Hp} {x dx dx' l l' : Addr} {p p' g g' : Int} {w w' : Bool} (h : H x = some (.ins A.Curve dx (cfs l p g w))) (h' : H x = some (.ins A.Curve dx' (cfs l' p' g' w'))) : dx = dx' ∧ l = l' ∧ p = p' ∧ g = g' ∧ w = w' := by
  rw [h] at h'
  injection h' with h'
  injection h' with _ e1 e2
  exact ⟨e1, cfs_inj e2⟩
theorem Srch.no {A : Ad} {H : Hp} {x dx l : Addr} {p g : Int} (h : Srch A H x) (e : H x = some (.ins A.Curve dx (cfs l p g false))) : False := by
  obtain ⟨dx', l', p', g', h⟩ := h
  have z := (obj_inj e h).2.2.2.2
  cases z
/-- the curve at x may now be one whose break was looked for; all else stands -/
structure Kp (A : Ad) (x : Addr) (H H' : Hp) : Prop where
  keep : ∀ b o, (b = x → Srch A H x) → H b = some o → H' b = some o
  srch : Srch A H' x
  crv : ∀ cs p g, CrvAt A H x cs p g → CrvAt A H' x cs p g
  obj : ∀ dx l p g w, H x = some (.ins A.Curve dx (cfs l p g w)) → H' x = some (.ins A.Curve dx (cfs l p g true))
section
variable {A : Ad} {x : Addr} {H H1 H2 : Hp}
theorem Kp.same (k : Kp A x H H1) (h : Srch A H x) : Same H H1 := fun b o e => k.keep b o (fun _ => h) e
theorem Kp.ne (k : Kp A x H H1) {b : Addr} {o : HO} (n : b ≠ x) (e : H b = some o) : H1 b = some o := k.keep b o (fun z => absurd z n) e
theorem Kp.after (s : Same H H1) (k : Kp A x H1 H2) : Kp A x H H2 := ⟨fun b o n e => k.keep b o (fun z => (n z).same s) (s _ _ e), k.srch, fun cs p g c => k.crv cs p g (c.same s), fun dx l p g w e => k.obj dx l p g w (s _ _ e)⟩
theorem Kp.then (k : Kp A x H H1) (s : Same H1 H2) : Kp A x H H2 := ⟨fun b o n e => s _ _ (k.keep b o n e), k.srch.same s, fun cs p g c => (k.crv cs p g c).same s, fun dx l p g w e => s _ _ (k.obj dx l p g w e)⟩
/-- as if the curve had been searched from the begin -/
theorem Kp.virt {dx l : Addr} {p g : Int} (c1 : H x = some (.ins A.Curve dx (cfs l p g false))) (s4 : Same H H1) (k : Kp A x H1 H2) :
    Same (upd H x (.ins A.Curve dx (cfs l p g true))) (upd H1 x (.ins A.Curve dx (cfs l p g true))) ∧ Same (upd H1 x (.ins A.Curve dx (cfs l p g true))) H2 := by
  refine ⟨fun b o e => ?_, fun b o e => ?_⟩
  · by_cases n : b = x
    · subst n; rw [upd_same] at e ⊢; exact e
    · rw [upd_ne n] at e ⊢; exact s4 _ _ e
  · by_cases n : b = x
    · subst n; rw [upd_same] at e; cases e; exact k.obj _ _ _ _ _ (s4 _ _ c1)
    · rw [upd_ne n] at e; exact k.ne n e
theorem Kp.free (k : Kp A x H H1) {q : Addr} (h : H1 q = none) : H q = none := by
  have n : q ≠ x := fun z => by
    obtain ⟨dx, l, p, g, e⟩ := k.srch
    rw [← z, h] at e; cases e
  cases e : H q with
  | none => rfl
  | some o => rw [k.ne n e] at h; cases h
theorem Kp.seq {K : PySem.W.Frag} (k : Kp A x H H1) {cs : List Int} {p g : Int} (c : CrvAt A H x cs p g) {a : Addr} {xs : List V} (h : SqL K H a xs) : SqL K H1 a xs := by
  obtain ⟨dx, l, w, e, _⟩ := c
  rcases h with (h | ⟨o, h⟩) | h
  · exact .inl (.inl (k.ne (ne_of h e (fun z => by cases z)) h))
  · exact .inl (.inr ⟨o, k.ne (ne_of h e (fun z => by cases z)) h⟩)
  · exact .inr h
end
def sp_C_first_values (K : PySem.W.Frag) (A : Ad) : Sp := fun vs H Q _ => ∃ (x : Addr) (cs : List Int) (p g : Int), vs = [.ref x] ∧ CrvAt A H x cs p g ∧ ∀ H' q, Same H H' → H' q = some (.lst (cs.map V.int)) → Q (.ref q) H'
def sp_first_break (K : PySem.W.Frag) (A : Ad) : Sp := fun vs H Q _ => ∃ (x : Addr) (cs : List Int) (p g : Int), vs = [.ref x] ∧ CrvAt A H x cs p g ∧ 0 < p ∧ p ≤ cs.length ∧ cs.length ≤ 1000 ∧ GoodC (cvAt cs p g) cs.length ∧
  ∀ H', Same H H' → Q .non H'
def sp_C_find_break (K : PySem.W.Frag) (A : Ad) : Sp := fun vs H Q _ => ∃ (x : Addr) (cs : List Int) (p g : Int), vs = [.ref x] ∧ CrvAt A H x cs p g ∧ 0 < p ∧ p ≤ cs.length ∧ cs.length ≤ 1000 ∧ GoodC (cvAt cs p g) cs.length ∧
  ∀ H', Kp A x H H' → Q .non H'
def sp_require_good (K : PySem.W.Frag) (A : Ad) : Sp := fun vs H Q _ => ∃ (x : Addr) (cs : List Int) (p g : Int), vs = [.ref x] ∧ CrvAt A H x cs p g ∧ 0 < p ∧ p ≤ cs.length ∧ cs.length ≤ 1000 ∧ GoodC (cvAt cs p g) cs.length ∧
  ∀ H', Kp A x H H' → Q .non H'


section
variable {P : Program} {w : World} {K : PySem.W.Frag} {mg : Str → Option Value} {base : Heap} {A : Ad}
theorem ok_C_first_values (T : Txt K mg A) : FnOk P w K mg base CX0 1 A.f_C_first_values A.d_C_first_values ["self"] (sp_C_first_values K A) := by
  refine T.F_C_first_values.ok sc_C_first_values (fun vs H Q E h => ?_) (fun cdv A0 outer s H vs Q E hr h => ?_)
  · obtain ⟨x, cs, p, g, rfl, ⟨dx, l, w, hx, hl⟩, k⟩ := h
    rfl
  · obtain ⟨x, cs, p, g, rfl, ⟨dx, l, w, hx, hl⟩, k⟩ := h
    refine ⟨_, (pss_one (ps_ret (pe_callTy (r := VG.rListOf K) VG.call_listOf (by rfl) T.list (by decide +kernel) (pa_cons (pe_fld (pv 0) rfl) pa_nil)))), ?_⟩
    exact ⟨_, rfl, x, _, dx, _, _, rfl, hx, T.cl, T.n_values, cfs_v _ _ _ _, l, _, rfl, .inl (SqL.of hl), fun q hq => k _ q (Same.upd (Same.refl _) hq) upd_same⟩
theorem ok_first_break (T : Txt K mg A) : FnOk P w K mg base CX0 4 A.f_first_break A.d_first_break ["curve"] (sp_first_break K A) := by
  have G_C_at := ok_C_at (P := P) (w := w) (base := base) T
  have G_C_first_values := ok_C_first_values (P := P) (w := w) (base := base) T
  refine T.F_first_break.ok sc_first_break (fun vs H Q E h => ?_) (fun cdv A0 outer s H vs Q E hr h => ?_)
  · obtain ⟨x, cs, p, g, rfl, hC, hp, hpn, hn, hg, k⟩ := h
    rfl
  · obtain ⟨x, cs, p, g, rfl, hC, hp, hpn, hn, hg, k⟩ := h
    refine ⟨_, (pss_cons (ps_set (i := 1) sc_first_break.nd rfl (by first | exact Or.inl rfl | exact Or.inr rfl) (pe_callB (r := VG.rLen K) VG.call_len (by rfl) T.len (by decide +kernel) (pa_cons (pe_meth0 (pv 0) T.cl T.me_first_values G_C_first_values (hr.mono (by decide)) T.b_C_first_values .nil pass0) pa_nil)))
    (pss_cons (ps_setLc (i := 2) (own := [("length", 5)]) (g := gName 5) (tt := tYes) rfl sc_first_break.nd rfl rfl (sw_true rfl rfl rfl (by decide +kernel)) (pi_range1 rfl T.range (pa_cons (pe_op op_add (pe_op op_mul pe_int (pv 1)) pe_int) pa_nil)) (blkOk_by (own := [("length", 5)]) (N := ["curve", "many", "row", "total", "first", "length"]) (sc := defScope s_first_break) (by decide +kernel)) (fun _ _ _ _ _ => pg_name (i := 5) sc_first_break.nd rfl (by first | exact Or.inl rfl | exact Or.inr rfl)) (fun _ _ _ _ _ => pts_nil) (fun _ _ _ _ _ => (pe_meth (pv 0) T.cl T.me_at G_C_at (hr.mono (by decide)) T.b_C_at .nil pass0 (pa_cons (pv 5) pa_nil))))
    (pss_cons (ps_for PassesOwn.never rfl (pi_range2 rfl T.range (pa_cons pe_int (pa_cons (pe_op op_add (pe_op op_mul pe_int (pv 1)) pe_int) pa_nil))) (pg_name (i := 3) sc_first_break.nd rfl (by first | exact Or.inl rfl | exact Or.inr rfl))
      (pss_one (ps_for PassesOwn.never rfl (pi_range2 rfl T.range (pa_cons (pe_callB (call_max2 rfl) (by rfl) T.max (by decide +kernel) (pa_cons pe_int (pa_cons (pe_op op_sub (pv 3) (pv 1)) pa_nil))) (pa_cons (pe_op op_add (pe_op op_fdiv (pv 3) pe_int) pe_int) pa_nil))) (pg_name (i := 4) sc_first_break.nd rfl (by first | exact Or.inl rfl | exact Or.inr rfl))
      (pss_one (ps_if (pt_cmpR op_gt (pe_ix (r := rIxL K) ix_list (pv 2) (pv 3) (fun _ _ => rfl)) (pe_op op_add (pe_ix (r := rIxL K) ix_list (pv 2) (pv 4) (fun _ _ => rfl)) (pe_ix (r := rIxL K) ix_list (pv 2) (pe_op op_sub (pv 3) (pv 4)) (fun _ _ => rfl))) (nomark _)) (pss_one (ps_ret (pe_tup (pa_cons (pv 4) (pa_cons (pe_op op_sub (pv 3) (pv 4)) pa_nil))))) pss_nil)))))
    (pss_one (ps_ret pe_non))))), ?_⟩
    obtain ⟨dx, l, w, hx, hl⟩ := id hC
    refine ⟨_, rfl, x, dx, _, rfl, hx, cfs_no _ _ _ (by decide +kernel) (by decide +kernel) (by decide +kernel), x, cs, p, g, rfl, hC, fun H0 q0 s0 hq0 => ⟨q0, _, rfl, .inl (SqL.of hq0), ?_⟩⟩
    rw [List.length_map]
    refine ⟨_, rfl, _, _, rfl, rfl, .inl ⟨by decide, by decide⟩, _, _, rfl, rfl, _, rfl, by omega, by omega, fun D hD => lc_range (lo := 0) (n := (2 * (cs.length : Int) + 1).toNat)
      (fun j H2 => H2 D = some (.lst ((row (cvAt cs p g) j).map V.int)) ∧ Same H H2) ⟨upd_same, Same.upd s0 (s0.free hD)⟩ ?_ ?_⟩
    · rintro j H2 hj ⟨hD2, s2⟩
      refine ⟨rfl, _, rfl, x, dx, _, rfl, s2 _ _ hx, cfs_no _ _ _ (by decide +kernel) (by decide +kernel) (by decide +kernel), _, rfl, x, cs, p, g, _, rfl, hC.same s2, hp, hpn, hn, by omega, by omega, _, hD2, small (by rw [List.length_map, row_length]; omega), ?_, Same.upd s2 (s0.free hD)⟩
      rw [upd_same, rowI_succ, Int.zero_add]
    · rintro H2 ⟨hD2, s2⟩
      refine ⟨_, rfl, _, _, rfl, rfl, .inl ⟨by decide, by decide⟩, _, _, rfl, rfl, _, _, rfl, ⟨by omega, by omega, by omega, by omega⟩, ?_⟩
      refine for_range (lo := 2) (n := (2 * (cs.length : Int) + 1 - 2).toNat) (fun i σ H' => ∃ v3 v4, σ = [some (.ref x), some (.int (cs.length : Nat)), some (.ref D), v3, v4, none] ∧ H2 = H')
        ⟨_, _, rfl, rfl⟩ ?_ ?_
      · rintro i σ H' hi ⟨v3, v4, rfl, rfl⟩
        refine ⟨_, rfl, _, rfl, _, _, rfl, rfl, _, _, rfl, ?_⟩
        have hlo : 1 ≤ (if (2 + (i : Int)) - (cs.length : Int) > 1 then (2 + (i : Int)) - (cs.length : Int) else 1) ∧ (2 + (i : Int)) - (cs.length : Int) ≤ (if (2 + (i : Int)) - (cs.length : Int) > 1 then (2 + (i : Int)) - (cs.length : Int) else 1) ∧ (if (2 + (i : Int)) - (cs.length : Int) > 1 then (2 + (i : Int)) - (cs.length : Int) else 1) ≤ 5000 := by
          split <;> omega
        generalize (if (2 + (i : Int)) - (cs.length : Int) > 1 then (2 + (i : Int)) - (cs.length : Int) else 1) = lo at *
        refine ⟨_, rfl, _, _, rfl, rfl, ⟨by decide, by decide⟩, _, _, rfl, rfl, _, _, rfl, ⟨by omega, by omega, by omega, by omega⟩, ?_⟩
        refine for_range (lo := lo) (n := ((2 + (i : Int)) / 2 + 1 - lo).toNat) (fun j σ H' => ∃ v4, σ = [some (.ref x), some (.int (cs.length : Nat)), some (.ref D), some (.int (2 + (i : Int))), v4, none] ∧ H2 = H')
          ⟨_, rfl, rfl⟩ ?_ ?_
        · rintro j σ H' hj ⟨v4, rfl, rfl⟩
          refine ⟨_, rfl, _, rfl, D, _, _, _, rfl, rfl, SqL.of hD2, at_row (by omega) (by omega), _, rfl, _, rfl, D, _, _, _, rfl, rfl, SqL.of hD2, at_row (by omega) (by omega), _, rfl, _, rfl, _, rfl, _, _, rfl, rfl, D, _, _, _, rfl, rfl, SqL.of hD2, at_row (by omega) (by omega), _, _, rfl, rfl, _, _, rfl, rfl, _, rfl, ifD (fun c => ?_) (fun c => ?_)⟩
          · exfalso
            have := hg (2 + (i : Int) - (lo + j)) (lo + j) (by omega) (by omega) (by omega)
            rw [show 2 + (i : Int) - (lo + j) + (lo + j) = 2 + (i : Int) by omega] at this
            omega
          · exact ⟨_, rfl, rfl⟩
        · rintro σ H' ⟨v4, rfl, rfl⟩
          exact ⟨_, _, rfl, rfl⟩
      · rintro σ H' ⟨v3, v4, rfl, rfl⟩
        exact k _ s2
theorem ok_C_find_break (T : Txt K mg A) : FnOk P w K mg base CX0 5 A.f_C_find_break A.d_C_find_break ["self"] (sp_C_find_break K A) := by
  have G_first_break := ok_first_break (P := P) (w := w) (base := base) T
  refine T.F_C_find_break.ok sc_C_find_break (fun vs H Q E h => ?_) (fun cdv A0 outer s H vs Q E hr h => ?_)
  · obtain ⟨x, cs, p, g, rfl, hC, hp, hpn, hn, hg, k⟩ := h
    rfl
  · obtain ⟨x, cs, p, g, rfl, hC, hp, hpn, hn, hg, k⟩ := h
    refine ⟨_, (pss_cons (ps_if (pt_not (pt_val (pe_fld (pv 0) rfl))) (pss_cons (ps_fld (pv 0) (pe_call G_first_break (hr.mono (by decide)) rfl T.m_first_break T.k_first_break T.b_first_break .nil pass0 (pa_cons (pv 0) pa_nil)) rfl)
    (pss_one (ps_fld (pv 0) pe_bl rfl))) pss_nil)
    (pss_one (ps_ret (pe_fld (pv 0) rfl)))), ?_⟩
    obtain ⟨dx, l, w, hx, hl⟩ := id hC
    refine ⟨_, rfl, x, _, dx, _, _, rfl, hx, T.cl, T.n_was_searched, cfs_w _ _ _ _, _, rfl, ?_⟩
    cases w with
    | false =>
      refine iteT ⟨_, rfl, x, cs, p, g, rfl, hC, hp, hpn, hn, hg, fun H1 s1 => ?_⟩
      refine ⟨_, rfl, x, _, dx, _, rfl, s1 _ _ hx, T.cl, T.n_break, (by show 5 < 1000; decide), ?_⟩
      rw [cset_b]
      refine ⟨_, rfl, x, _, dx, _, rfl, upd_same, T.cl, T.n_was_searched, (by show 5 < 1000; decide), ?_⟩
      rw [cset_w, upd_upd]
      have ks : Srch A (upd H1 x (.ins A.Curve dx (cfs l p g true))) x := ⟨dx, l, p, g, upd_same⟩
      have nlx : l ≠ x := ne_of hl hx (fun z => by cases z)
      refine ⟨_, rfl, x, _, dx, _, _, rfl, upd_same, T.cl, T.n_break, cfs_b _ _ _ _, k _ ⟨fun b o n e => ?_, ks, fun cs' p' g' c => ?_, fun dx' l' p' g' w' e => ?_⟩⟩
      · have nb : b ≠ x := fun z => (n z).no hx
        rw [upd_ne nb]; exact s1 _ _ e
      · obtain ⟨dx', l', w', e1, e2⟩ := c
        have nl' : l' ≠ x := ne_of e2 hx (fun z => by cases z)
        obtain ⟨rfl, rfl, rfl, rfl, rfl⟩ := obj_inj hx e1
        exact ⟨dx, l, true, upd_same, by rw [upd_ne nl']; exact s1 _ _ e2⟩
      · obtain ⟨rfl, rfl, rfl, rfl, rfl⟩ := obj_inj hx e
        exact upd_same
    | true =>
      exact iteF ⟨_, rfl, x, _, dx, _, _, rfl, hx, T.cl, T.n_break, cfs_b _ _ _ _, k H ⟨fun b o _ e => e, ⟨dx, l, p, g, hx⟩, fun _ _ _ c => c, fun dx' l' p' g' w' e => by obtain ⟨rfl, rfl, rfl, rfl, rfl⟩ := obj_inj hx e; exact e⟩⟩
theorem ok_require_good (T : Txt K mg A) : FnOk P w K mg base CX0 6 A.f_require_good A.d_require_good ["curve"] (sp_require_good K A) := by
  have G_C_find_break := ok_C_find_break (P := P) (w := w) (base := base) T
  refine T.F_require_good.ok sc_require_good (fun vs H Q E h => ?_) (fun cdv A0 outer s H vs Q E hr h => ?_)
  · obtain ⟨x, cs, p, g, rfl, hC, hp, hpn, hn, hg, k⟩ := h
    rfl
  · obtain ⟨x, cs, p, g, rfl, hC, hp, hpn, hn, hg, k⟩ := h
    refine ⟨_, (pss_cons (ps_set (i := 1) sc_require_good.nd rfl (by first | exact Or.inl rfl | exact Or.inr rfl) (pe_meth0 (pv 0) T.cl T.me_find_break G_C_find_break (hr.mono (by decide)) T.b_C_find_break .nil pass0))
    (pss_one (ps_if (pt_cmp (pc_notN (pv 1)) rfl) (pss_one ps_never) pss_nil))), ?_⟩
    obtain ⟨dx, l, w, hx, hl⟩ := id hC
    refine ⟨_, rfl, x, dx, _, rfl, hx, cfs_no _ _ _ (by decide +kernel) (by decide +kernel) (by decide +kernel), x, cs, p, g, rfl, hC, hp, hpn, hn, hg, fun H1 s1 => ?_⟩
    refine ⟨_, rfl, _, rfl, iteF ?_⟩
    exact k H1 s1
end
end VK


namespace VK
open PySem PySem.Spec PyProof.Rows L2 VM
/-- the row of a curve at t, its values at l -/
structure RowAt (H : Hp) (t l : Addr) (xs : List Int) (p g : Int) : Prop where
  tup : H t = some (.tup [.ref l, .int p, .int g])
  lst : H l = some (.lst (xs.map V.int))
  ok : OkRow xs p g
  low : ∀ i, xs.getD i 0 ≤ 20
theorem RowAt.same {H H' : Hp} {t l : Addr} {xs : List Int} {p g : Int} (h : RowAt H t l xs p g) (s : Same H H') : RowAt H' t l xs p g := ⟨s _ _ h.tup, s _ _ h.lst, h.ok, h.low⟩
theorem RowAt.pp {H : Hp} {t l : Addr} {xs : List Int} {p g : Int} (h : RowAt H t l xs p g) : 0 < p ∧ p ≤ 12 ∧ p ≤ xs.length ∧ xs.length ≤ 1000 ∧ 1 ≤ xs.length := by
  have a := h.ok.pn
  have b := h.ok.l2
  have c := h.ok.l1
  rcases h.ok.per with q | q | q | q | q | q <;> omega
theorem Ext.row {r : Addr} {H H' : Hp} {t l : Addr} {xs : List Int} {p g : Int} (e : Ext r H H') (h : RowAt H t l xs p g) (hr : Rng H r) (n : l ≠ r) : RowAt H' t l xs p g := by
  refine ⟨e.keep _ _ (fun z => ?_) h.tup, e.keep _ _ n h.lst, h.ok, h.low⟩
  obtain ⟨a, b, q, _⟩ := hr
  have := h.tup
  rw [z, q] at this
  cases this
def okB (xs : List Int) (p g : Int) : Bool :=
  decide (1 ≤ xs.length ∧ xs.length ≤ 24 ∧ (p = 1 ∨ p = 2 ∨ p = 3 ∨ p = 4 ∨ p = 6 ∨ p = 12) ∧ p ≤ xs.length ∧ 0 ≤ g ∧ g ≤ 2000 ∧ xs.getD (xs.length - 1) 0 ≤ xs.getD (xs.length - p.toNat) 0 + g) &&
  ((List.range xs.length).all (fun i => decide (0 ≤ xs.getD i 0 ∧ xs.getD i 0 ≤ 20)) && ((List.range (xs.length - 1)).all (fun i => decide (xs.getD i 0 ≤ xs.getD (i + 1) 0)) && goodB (cvAt xs p g) xs.length))
theorem okB_of {xs : List Int} {p g : Int} (h : okB xs p g = true) : OkRow xs p g ∧ (∀ i, xs.getD i 0 ≤ 20) ∧ GoodC (cvAt xs p g) xs.length := by
  unfold okB at h
  rw [Bool.and_eq_true, Bool.and_eq_true, Bool.and_eq_true, List.all_eq_true, List.all_eq_true] at h
  obtain ⟨h1, h2, h3, h4⟩ := h
  obtain ⟨a1, a2, a3, a4, a5, a6, a7⟩ := of_decide_eq_true h1
  have v : ∀ i, i < xs.length → 0 ≤ xs.getD i 0 ∧ xs.getD i 0 ≤ 20 := fun i hi => of_decide_eq_true (h2 i (List.mem_range.mpr hi))
  have u : ∀ i, i + 1 < xs.length → xs.getD i 0 ≤ xs.getD (i + 1) 0 := fun i hi => of_decide_eq_true (h3 i (List.mem_range.mpr (by omega)))
  refine ⟨⟨a1, a2, fun i hi => (v i hi).1, fun i hi => by have := (v i hi).2; omega, u, a3, a4, a5, a6, a7⟩, fun i => ?_, fun a b x y z => good_at h4 x y z⟩
  by_cases c : i < xs.length
  · exact (v i c).2
  · rw [List.getD_eq_getElem?_getD, List.getElem?_eq_none (by omega)]; decide
def IsRow (H0 H : Hp) (v : V) : Prop := ∃ t l xs p g, v = .ref t ∧ H0 t = none ∧ H0 l = none ∧ RowAt H t l xs p g ∧ GoodC (cvAt xs p g) xs.length
structure Rows (H0 H : Hp) (ys : List V) (hs : List (Addr × HO)) : Prop where
  same : Same H0 H
  all : ∀ y ∈ ys, IsRow H0 H y
  held : ∀ z ∈ hs, H z.1 = some z.2
theorem Rows.refl (H : Hp) : Rows H H [] [] := ⟨Same.refl H, fun _ h => (by cases h), fun _ h => (by cases h)⟩
theorem IsRow.same {H0 H H' : Hp} {v : V} (h : IsRow H0 H v) (s : Same H H') : IsRow H0 H' v := by
  obtain ⟨t, l, xs, p, g, a, b, c, d, e⟩ := h
  exact ⟨t, l, xs, p, g, a, b, c, d.same s, e⟩
theorem Rows.hold {H0 H : Hp} {ys : List V} {hs : List (Addr × HO)} {q : Addr} {o : HO} (R : Rows H0 H ys hs) (hq : H q = none) : Rows H0 (upd H q o) ys ((q, o) :: hs) := by
  refine ⟨Same.upd R.same (R.same.free hq), fun y h => (R.all y h).same (Same.upd (Same.refl _) hq), fun z h => ?_⟩
  rcases List.mem_cons.mp h with e | h
  · subst e; exact upd_same
  · exact Same.upd (Same.refl _) hq _ _ (R.held z h)
theorem Rows.put {H0 H : Hp} {ys : List V} {hs : List (Addr × HO)} {p t : Addr} {os : List V} {xs : List Int} {a g : Int} (R : Rows H0 H ys hs) (hp : H p = none) (ht : upd H p (.lst os) t = none) (eo : os = xs.map V.int) (ok : okB xs a g = true) :
    Rows H0 (upd (upd H p (.lst os)) t (.tup [.ref p, .int a, .int g])) (ys ++ [.ref t]) hs := by
  obtain ⟨o1, o2, o3⟩ := okB_of ok
  have npt : p ≠ t := fun z => by rw [← z, upd_same] at ht; cases ht
  have ht' : H t = none := by rw [upd_ne (Ne.symm npt)] at ht; exact ht
  have s : Same H (upd (upd H p (.lst os)) t (.tup [.ref p, .int a, .int g])) := Same.upd (Same.upd (Same.refl _) hp) ht'
  refine ⟨R.same.trans s, fun y h => ?_, fun z h => s _ _ (R.held z h)⟩
  rcases List.mem_append.mp h with h | h
  · exact (R.all y h).same s
  · cases List.mem_singleton.mp h
    exact ⟨t, p, xs, a, g, rfl, R.same.free ht', R.same.free hp, ⟨upd_same, by rw [upd_ne npt, upd_same, eo], o1, o2⟩, o3⟩
def sp_l_is_good (K : PySem.W.Frag) (_ : Ad) : Sp := fun vs H Q _ => ∃ (t l : Addr) (xs : List Int) (p g : Int), vs = [.ref t] ∧ SqT K H t [.ref l, .int p, .int g] ∧ SqL K H l (xs.map V.int) ∧ 0 < p ∧ p ≤ xs.length ∧ xs.length ≤ 1000 ∧
  ∀ b : Bool, (b = true → GoodC (cvAt xs p g) xs.length) → Q (.bl b) H
def sp_l_rows (_ : PySem.W.Frag) (_ : Ad) : Sp := fun vs H Q _ => vs = [] ∧ ∀ H' q ys, Same H H' → H q = none → H' q = some (.lst ys) → ys.length = 16 → (∀ y ∈ ys, IsRow H H' y) → Q (.ref q) H'
def sp_l_row (_ : PySem.W.Frag) (_ : Ad) : Sp := fun vs H Q _ => ∃ (r : Addr), vs = [.ref r] ∧ Rng H r ∧
  ∀ H' t l xs p g, Ext r H H' → H t = none → H l = none → RowAt H' t l xs p g → GoodC (cvAt xs p g) xs.length → Q (.ref t) H'
section
variable {P : Program} {w : World} {K : PySem.W.Frag} {mg : Str → Option Value} {base : Heap} {A : Ad}
theorem ok_l_is_good (T : Txt K mg A) : FnOk P w K mg base CX0 2 A.f_l_is_good A.d_l_is_good ["_law_row_here"] (sp_l_is_good K A) := by
  have G_l_at := ok_l_at (P := P) (w := w) (base := base) T
  refine T.F_l_is_good.ok sc_l_is_good (fun vs H Q E h => ?_) (fun cdv A0 outer s H vs Q E hr h => ?_)
  · obtain ⟨t, l, xs, p, g, rfl, hT, hL, p0, pn, xn, k⟩ := h
    rfl
  · obtain ⟨t, l, xs, p, g, rfl, hT, hL, p0, pn, xn, k⟩ := h
    refine ⟨_, (pss_cons (ps_set (i := 1) sc_l_is_good.nd rfl (by first | exact Or.inl rfl | exact Or.inr rfl) (pe_op op_add (pe_callB (r := VG.rLen K) VG.call_len (by rfl) T.len (by decide +kernel) (pa_cons (pe_ix (r := rIxT K) ix_tup (pv 0) pe_int (fun _ _ => rfl)) pa_nil)) (pe_ix (r := rIxT K) ix_tup (pv 0) pe_int (fun _ _ => rfl))))
    (pss_cons (ps_for PassesOwn.never rfl (pi_range2 rfl T.range (pa_cons pe_int (pa_cons (pe_op op_add (pv 1) pe_int) pa_nil))) (pg_name (i := 2) sc_l_is_good.nd rfl (by first | exact Or.inl rfl | exact Or.inr rfl))
      (pss_one (ps_for PassesOwn.never rfl (pi_range2 rfl T.range (pa_cons pe_int (pa_cons (pe_op op_add (pv 2) pe_int) pa_nil))) (pg_name (i := 3) sc_l_is_good.nd rfl (by first | exact Or.inl rfl | exact Or.inr rfl))
      (pss_one (ps_if (pt_cmpR op_gt (pe_call G_l_at (hr.mono (by decide)) rfl T.m_l_at T.k_l_at T.b_l_at .nil pass0 (pa_cons (pv 0) (pa_cons (pe_op op_add (pv 2) (pv 3)) pa_nil))) (pe_op op_add (pe_call G_l_at (hr.mono (by decide)) rfl T.m_l_at T.k_l_at T.b_l_at .nil pass0 (pa_cons (pv 0) (pa_cons (pv 2) pa_nil))) (pe_call G_l_at (hr.mono (by decide)) rfl T.m_l_at T.k_l_at T.b_l_at .nil pass0 (pa_cons (pv 0) (pa_cons (pv 3) pa_nil)))) (nomark _)) (pss_one (ps_ret pe_bl)) pss_nil)))))
    (pss_one (ps_ret pe_bl)))), ?_⟩
    refine ⟨_, rfl, t, _, _, _, rfl, rfl, hT, rfl, l, _, rfl, .inl hL, _, rfl, t, _, _, _, rfl, rfl, hT, rfl, _, _, rfl, rfl, ?_⟩
    rw [List.length_map]
    refine ⟨_, rfl, _, _, rfl, rfl, _, _, rfl, ⟨by omega, by omega, by omega, by omega⟩, ?_⟩
    refine for_range (lo := 1) (n := ((xs.length : Int) + p + 1 - 1).toNat) (fun i σ H' => ∃ v2 v3, σ = [some (.ref t), some (.int ((xs.length : Int) + p)), v2, v3] ∧ H = H' ∧ ∀ a b : Int, 1 ≤ b → b ≤ a → a ≤ i → cvAt xs p g (a + b) ≤ cvAt xs p g a + cvAt xs p g b)
      ⟨_, _, rfl, rfl, fun a b h1 h2 h3 => absurd h3 (by omega)⟩ ?_ ?_
    · rintro i σ H' hi ⟨v2, v3, rfl, rfl, G⟩
      refine ⟨_, rfl, _, _, rfl, rfl, _, _, rfl, ⟨by omega, by omega, by omega, by omega⟩, ?_⟩
      refine for_range (lo := 1) (n := (1 + (i : Int) + 1 - 1).toNat) (fun j σ H' => ∃ v3, σ = [some (.ref t), some (.int ((xs.length : Int) + p)), some (.int (1 + (i : Int))), v3] ∧ H = H' ∧ ∀ b : Int, 1 ≤ b → b ≤ j → cvAt xs p g (1 + (i : Int) + b) ≤ cvAt xs p g (1 + (i : Int)) + cvAt xs p g b)
        ⟨_, rfl, rfl, fun b h1 h2 => absurd h2 (by omega)⟩ ?_ ?_
      · rintro j σ H' hj ⟨v3, rfl, rfl, G2⟩
        refine ⟨_, rfl, _, rfl, _, rfl, _, _, rfl, rfl, t, l, xs, p, g, _, rfl, hT, hL, p0, pn, xn, by omega, by omega, ?_⟩
        refine ⟨_, rfl, _, rfl, t, l, xs, p, g, _, rfl, hT, hL, p0, pn, xn, by omega, by omega, _, rfl, _, rfl, t, l, xs, p, g, _, rfl, hT, hL, p0, pn, xn, by omega, by omega, _, _, rfl, rfl, _, _, rfl, rfl, _, rfl, ifD (fun c => ?_) (fun c => ?_)⟩
        · exact k false fun e => by cases e
        · refine ⟨_, rfl, rfl, fun b h1 h2 => ?_⟩
          by_cases z : b ≤ j
          · exact G2 b h1 z
          · have e : b = 1 + (j : Int) := by omega
            rw [e]; omega
      · rintro σ H' ⟨v3, rfl, rfl, G2⟩
        refine ⟨_, _, rfl, rfl, fun a b h1 h2 h3 => ?_⟩
        by_cases z : a ≤ i
        · exact G a b h1 h2 z
        · have e : a = 1 + (i : Int) := by omega
          rw [e]
          exact G2 b h1 (by omega)
    · rintro σ H' ⟨v2, v3, rfl, rfl, G⟩
      exact k true fun _ a b h1 h2 h3 => G a b h1 h2 (by omega)
theorem ok_l_rows (T : Txt K mg A) : FnOk P w K mg base CX0 1 A.f_l_rows A.d_l_rows [] (sp_l_rows K A) := by
  refine T.F_l_rows.ok sc_l_rows (fun vs H Q E h => ?_) (fun cdv A0 outer s H vs Q E hr h => ?_)
  · obtain ⟨rfl, k⟩ := h
    rfl
  · obtain ⟨rfl, k⟩ := h
    refine ⟨_, (pss_cons (ps_set (i := 0) sc_l_rows.nd rfl (by first | exact Or.inl rfl | exact Or.inr rfl) (pe_lst (pa_cons (pe_tup (pa_cons (pe_lst (pa_cons pe_int pa_nil)) (pa_cons pe_int (pa_cons pe_int pa_nil)))) (pa_cons (pe_tup (pa_cons (pe_lst (pa_cons pe_int (pa_cons pe_int pa_nil))) (pa_cons pe_int (pa_cons pe_int pa_nil)))) (pa_cons (pe_tup (pa_cons (pe_lst (pa_cons pe_int (pa_cons pe_int (pa_cons pe_int pa_nil)))) (pa_cons pe_int (pa_cons pe_int pa_nil)))) (pa_cons (pe_tup (pa_cons (pe_lst (pa_cons pe_int (pa_cons pe_int pa_nil))) (pa_cons pe_int (pa_cons pe_int pa_nil)))) (pa_cons (pe_tup (pa_cons (pe_lst (pa_cons pe_int pa_nil)) (pa_cons pe_int (pa_cons pe_int pa_nil)))) (pa_cons (pe_tup (pa_cons (pe_lst (pa_cons pe_int (pa_cons pe_int (pa_cons pe_int pa_nil)))) (pa_cons pe_int (pa_cons pe_int pa_nil)))) pa_nil))))))))
    (pss_cons (ps_set (i := 0) sc_l_rows.nd rfl (by first | exact Or.inl rfl | exact Or.inr rfl) (pe_op op_cat (pv 0) (pe_lst (pa_cons (pe_tup (pa_cons (pe_lst (pa_cons pe_int pa_nil)) (pa_cons pe_int (pa_cons pe_int pa_nil)))) (pa_cons (pe_tup (pa_cons (pe_lst (pa_cons pe_int (pa_cons pe_int (pa_cons pe_int pa_nil)))) (pa_cons pe_int (pa_cons pe_int pa_nil)))) (pa_cons (pe_tup (pa_cons (pe_lst (pa_cons pe_int (pa_cons pe_int pa_nil))) (pa_cons pe_int (pa_cons pe_int pa_nil)))) (pa_cons (pe_tup (pa_cons (pe_lst (pa_cons pe_int (pa_cons pe_int (pa_cons pe_int (pa_cons pe_int pa_nil))))) (pa_cons pe_int (pa_cons pe_int pa_nil)))) (pa_cons (pe_tup (pa_cons (pe_lst (pa_cons pe_int pa_nil)) (pa_cons pe_int (pa_cons pe_int pa_nil)))) (pa_cons (pe_tup (pa_cons (pe_lst (pa_cons pe_int pa_nil)) (pa_cons pe_int (pa_cons pe_int pa_nil)))) pa_nil)))))))))
    (pss_one (ps_ret (pe_op op_cat (pv 0) (pe_lst (pa_cons (pe_tup (pa_cons (pe_lst (pa_cons pe_int (pa_cons pe_int (pa_cons pe_int (pa_cons pe_int pa_nil))))) (pa_cons pe_int (pa_cons pe_int pa_nil)))) (pa_cons (pe_tup (pa_cons (pe_lst (pa_cons pe_int (pa_cons pe_int (pa_cons pe_int pa_nil)))) (pa_cons pe_int (pa_cons pe_int pa_nil)))) (pa_cons (pe_tup (pa_cons (pe_lst (pa_cons pe_int (pa_cons pe_int (pa_cons pe_int pa_nil)))) (pa_cons pe_int (pa_cons pe_int pa_nil)))) (pa_cons (pe_tup (pa_cons (pe_lst (pa_cons pe_int (pa_cons pe_int (pa_cons pe_int (pa_cons pe_int (pa_cons pe_int (pa_cons pe_int pa_nil))))))) (pa_cons pe_int (pa_cons pe_int pa_nil)))) pa_nil)))))))))), ?_⟩
    have S0 : Rows H H [] [] := Rows.refl H
    refine ⟨(by show 1 ≤ sizeLine; decide), fun p1 hp1 => ⟨(by show 3 ≤ sizeLine; decide), fun t1 ht1 => ?_⟩⟩
    have S1 := S0.put (xs := [1]) (a := 1) (g := 0) hp1 ht1 rfl (by decide +kernel)
    refine ⟨(by show 2 ≤ sizeLine; decide), fun p2 hp2 => ⟨(by show 3 ≤ sizeLine; decide), fun t2 ht2 => ?_⟩⟩
    have S2 := S1.put (xs := [1, 1]) (a := 2) (g := 1) hp2 ht2 rfl (by decide +kernel)
    refine ⟨(by show 3 ≤ sizeLine; decide), fun p3 hp3 => ⟨(by show 3 ≤ sizeLine; decide), fun t3 ht3 => ?_⟩⟩
    have S3 := S2.put (xs := [1, 1, 1]) (a := 3) (g := 1) hp3 ht3 rfl (by decide +kernel)
    refine ⟨(by show 2 ≤ sizeLine; decide), fun p4 hp4 => ⟨(by show 3 ≤ sizeLine; decide), fun t4 ht4 => ?_⟩⟩
    have S4 := S3.put (xs := [2, 2]) (a := 2) (g := 1) hp4 ht4 rfl (by decide +kernel)
    refine ⟨(by show 1 ≤ sizeLine; decide), fun p5 hp5 => ⟨(by show 3 ≤ sizeLine; decide), fun t5 ht5 => ?_⟩⟩
    have S5 := S4.put (xs := [1]) (a := 1) (g := 1) hp5 ht5 rfl (by decide +kernel)
    refine ⟨(by show 3 ≤ sizeLine; decide), fun p6 hp6 => ⟨(by show 3 ≤ sizeLine; decide), fun t6 ht6 => ?_⟩⟩
    have S6 := S5.put (xs := [2, 2, 2]) (a := 3) (g := 1) hp6 ht6 rfl (by decide +kernel)
    refine ⟨(by show 6 ≤ sizeLine; decide), fun q1 hq1 => ?_⟩
    have U1 := S6.hold (o := .lst [.ref t1, .ref t2, .ref t3, .ref t4, .ref t5, .ref t6]) hq1
    refine ⟨_, rfl, ?_⟩
    refine ⟨(by show 1 ≤ sizeLine; decide), fun p7 hp7 => ⟨(by show 3 ≤ sizeLine; decide), fun t7 ht7 => ?_⟩⟩
    have S7 := U1.put (xs := [2]) (a := 1) (g := 0) hp7 ht7 rfl (by decide +kernel)
    refine ⟨(by show 3 ≤ sizeLine; decide), fun p8 hp8 => ⟨(by show 3 ≤ sizeLine; decide), fun t8 ht8 => ?_⟩⟩
    have S8 := S7.put (xs := [2, 2, 3]) (a := 3) (g := 2) hp8 ht8 rfl (by decide +kernel)
    refine ⟨(by show 2 ≤ sizeLine; decide), fun p9 hp9 => ⟨(by show 3 ≤ sizeLine; decide), fun t9 ht9 => ?_⟩⟩
    have S9 := S8.put (xs := [1, 2]) (a := 1) (g := 0) hp9 ht9 rfl (by decide +kernel)
    refine ⟨(by show 4 ≤ sizeLine; decide), fun p10 hp10 => ⟨(by show 3 ≤ sizeLine; decide), fun t10 ht10 => ?_⟩⟩
    have S10 := S9.put (xs := [2, 2, 2, 2]) (a := 4) (g := 1) hp10 ht10 rfl (by decide +kernel)
    refine ⟨(by show 1 ≤ sizeLine; decide), fun p11 hp11 => ⟨(by show 3 ≤ sizeLine; decide), fun t11 ht11 => ?_⟩⟩
    have S11 := S10.put (xs := [2]) (a := 1) (g := 1) hp11 ht11 rfl (by decide +kernel)
    refine ⟨(by show 1 ≤ sizeLine; decide), fun p12 hp12 => ⟨(by show 3 ≤ sizeLine; decide), fun t12 ht12 => ?_⟩⟩
    have S12 := S11.put (xs := [0]) (a := 1) (g := 0) hp12 ht12 rfl (by decide +kernel)
    refine ⟨(by show 6 ≤ sizeLine; decide), fun q2 hq2 => ?_⟩
    have U2 := S12.hold (o := .lst [.ref t7, .ref t8, .ref t9, .ref t10, .ref t11, .ref t12]) hq2
    refine ⟨q1, q2, _, _, rfl, rfl, U2.held _ (List.mem_cons_of_mem _ List.mem_cons_self), U2.held _ List.mem_cons_self, (by rw [sizeLine_eq]; simp), fun q3 hq3 => ?_⟩
    have U3 := U2.hold (o := .lst ([.ref t1, .ref t2, .ref t3, .ref t4, .ref t5, .ref t6] ++ [.ref t7, .ref t8, .ref t9, .ref t10, .ref t11, .ref t12])) hq3
    refine ⟨_, rfl, ?_⟩
    refine ⟨(by show 4 ≤ sizeLine; decide), fun p13 hp13 => ⟨(by show 3 ≤ sizeLine; decide), fun t13 ht13 => ?_⟩⟩
    have S13 := U3.put (xs := [1, 2, 2, 2]) (a := 4) (g := 1) hp13 ht13 rfl (by decide +kernel)
    refine ⟨(by show 3 ≤ sizeLine; decide), fun p14 hp14 => ⟨(by show 3 ≤ sizeLine; decide), fun t14 ht14 => ?_⟩⟩
    have S14 := S13.put (xs := [3, 3, 3]) (a := 3) (g := 1) hp14 ht14 rfl (by decide +kernel)
    refine ⟨(by show 3 ≤ sizeLine; decide), fun p15 hp15 => ⟨(by show 3 ≤ sizeLine; decide), fun t15 ht15 => ?_⟩⟩
    have S15 := S14.put (xs := [1, 1, 2]) (a := 2) (g := 1) hp15 ht15 rfl (by decide +kernel)
    refine ⟨(by show 6 ≤ sizeLine; decide), fun p16 hp16 => ⟨(by show 3 ≤ sizeLine; decide), fun t16 ht16 => ?_⟩⟩
    have S16 := S15.put (xs := [3, 3, 3, 3, 3, 3]) (a := 6) (g := 1) hp16 ht16 rfl (by decide +kernel)
    refine ⟨(by show 4 ≤ sizeLine; decide), fun q4 hq4 => ?_⟩
    have U4 := S16.hold (o := .lst [.ref t13, .ref t14, .ref t15, .ref t16]) hq4
    refine ⟨q3, q4, _, _, rfl, rfl, U4.held _ (List.mem_cons_of_mem _ List.mem_cons_self), U4.held _ List.mem_cons_self, (by rw [sizeLine_eq]; simp), fun q5 hq5 => ?_⟩
    exact k _ q5 _ (U4.hold (o := .lst (([.ref t1, .ref t2, .ref t3, .ref t4, .ref t5, .ref t6] ++ [.ref t7, .ref t8, .ref t9, .ref t10, .ref t11, .ref t12]) ++ [.ref t13, .ref t14, .ref t15, .ref t16])) hq5).same (U4.same.free hq5) upd_same rfl (U4.hold hq5).all
end
end VK


namespace VK
open PySem PySem.Spec PyProof.Rows L2 VM
theorem getD_push_lt {xs : List Int} {y : Int} {i : Nat} (h : i < xs.length) : (xs ++ [y]).getD i 0 = xs.getD i 0 := by
  rw [List.getD_eq_getElem?_getD, List.getD_eq_getElem?_getD, List.getElem?_append_left h]
theorem getD_push_eq {xs : List Int} {y : Int} : (xs ++ [y]).getD xs.length 0 = y := by
  rw [List.getD_eq_getElem?_getD, List.getElem?_append_right (Nat.le_refl _)]
  simp
/-- values that rise by at most s, from at most b -/
structure Ris (xs : List Int) (b s : Int) : Prop where
  lo : ∀ i, i < xs.length → 0 ≤ xs.getD i 0
  hi : ∀ i, i < xs.length → xs.getD i 0 ≤ b + s * i
  up : ∀ i, i + 1 < xs.length → xs.getD i 0 ≤ xs.getD (i + 1) 0
theorem Ris.one {x b s : Int} (h0 : 0 ≤ x) (h1 : x ≤ b) : Ris [x] b s := by
  refine ⟨fun i hi => ?_, fun i hi => ?_, fun i hi => ?_⟩
  · have : i = 0 := by simp at hi; exact hi
    subst this; exact h0
  · have : i = 0 := by simp at hi; exact hi
    subst this
    show x ≤ b + s * 0
    omega
  · simp at hi
theorem Ris.push {xs : List Int} {b s d : Int} (h : Ris xs b s) (n : 0 < xs.length) (d0 : 0 ≤ d) (d1 : d ≤ s) : Ris (xs ++ [xs.getD (xs.length - 1) 0 + d]) b s := by
  have l := h.lo (xs.length - 1) (by omega)
  have u := h.hi (xs.length - 1) (by omega)
  refine ⟨fun i hi => ?_, fun i hi => ?_, fun i hi => ?_⟩
  · rw [List.length_append, List.length_singleton] at hi
    by_cases c : i < xs.length
    · rw [getD_push_lt c]; exact h.lo i c
    · have e : i = xs.length := by omega
      rw [e, getD_push_eq]; omega
  · rw [List.length_append, List.length_singleton] at hi
    by_cases c : i < xs.length
    · rw [getD_push_lt c]; exact h.hi i c
    · have e : i = xs.length := by omega
      rw [e, getD_push_eq]
      have z : s * (((xs.length - 1 : Nat)) : Int) + s = s * (xs.length : Int) := by
        rw [show ((xs.length : Nat) : Int) = ((xs.length - 1 : Nat) : Int) + 1 by omega, Int.mul_add, Int.mul_one]
      omega
  · rw [List.length_append, List.length_singleton] at hi
    by_cases c : i + 1 < xs.length
    · rw [getD_push_lt (by omega), getD_push_lt c]; exact h.up i c
    · have e : i + 1 = xs.length := by omega
      rw [getD_push_lt (by omega), e, getD_push_eq]
      rw [show i = xs.length - 1 by omega]
      omega
theorem Ext.put {r l : Addr} {H H' : Hp} {o : HO} (e : Ext r H H') (h : H l = none) (n : l ≠ r) : Ext r H (upd H' l o) := by
  refine ⟨fun b u hb q => ?_, ?_⟩
  · rw [upd_ne (ne_of_none q h)]; exact e.keep b u hb q
  · obtain ⟨a, b, q, z⟩ := e.rng
    exact ⟨a, b, by rw [upd_ne (Ne.symm n)]; exact q, z⟩
theorem perV4 {i : Nat} {x : V} (h : ([.int 1, .int 2, .int 3, .int 4] : List V)[i]? = some x) : ∃ z : Int, x = .int z ∧ (z = 1 ∨ z = 2 ∨ z = 3 ∨ z = 4) ∧ (i = 0 → z = 1) := by
  match i, h with
  | 0, h => cases h; exact ⟨1, rfl, by omega, fun _ => rfl⟩
  | 1, h => cases h; exact ⟨2, rfl, by omega, fun z => by omega⟩
  | 2, h => cases h; exact ⟨3, rfl, by omega, fun z => by omega⟩
  | 3, h => cases h; exact ⟨4, rfl, by omega, fun z => by omega⟩
  | n + 4, h => simp at h
section
variable {P : Program} {w : World} {K : PySem.W.Frag} {mg : Str → Option Value} {base : Heap} {A : Ad}
theorem ok_l_row (T : Txt K mg A) : FnOk P w K mg base CX0 3 A.f_l_row A.d_l_row ["_law_rng_here"] (sp_l_row K A) := by
  have G_l_choice := ok_l_choice (P := P) (w := w) (base := base) T
  have G_l_draw := ok_l_draw (P := P) (w := w) (base := base) T
  have G_l_is_good := ok_l_is_good (P := P) (w := w) (base := base) T
  have G_l_rows := ok_l_rows (P := P) (w := w) (base := base) T
  refine T.F_l_row.ok sc_l_row (fun vs H Q E h => ?_) (fun cdv A0 outer s H vs Q E hr h => ?_)
  · obtain ⟨r, rfl, hr0, k⟩ := h
    rfl
  · obtain ⟨r, rfl, hr0, k⟩ := h
    refine ⟨_, (pss_cons (ps_if (pt_cmpR op_gt (pe_call G_l_draw (hr.mono (by decide)) rfl T.m_l_draw T.k_l_draw T.b_l_draw .nil pass0 (pa_cons (pv 0) (pa_cons pe_int pa_nil))) pe_int (nomark _)) (pss_one (ps_ret (pe_call G_l_choice (hr.mono (by decide)) rfl T.m_l_choice T.k_l_choice T.b_l_choice .nil pass0 (pa_cons (pv 0) (pa_cons (pe_call0 G_l_rows (hr.mono (by decide)) rfl T.m_l_rows T.k_l_rows T.b_l_rows .nil pass0) pa_nil))))) pss_nil)
    (pss_cons (ps_set (i := 1) sc_l_row.nd rfl (by first | exact Or.inl rfl | exact Or.inr rfl) (pe_lst (pa_cons (pe_call G_l_draw (hr.mono (by decide)) rfl T.m_l_draw T.k_l_draw T.b_l_draw .nil pass0 (pa_cons (pv 0) (pa_cons pe_int pa_nil))) pa_nil)))
    (pss_cons (ps_for PassesOwn.never rfl (pi_range1 rfl T.range (pa_cons (pe_call G_l_draw (hr.mono (by decide)) rfl T.m_l_draw T.k_l_draw T.b_l_draw .nil pass0 (pa_cons (pv 0) (pa_cons pe_int pa_nil))) pa_nil)) (pg_name (i := 2) sc_l_row.nd rfl (by first | exact Or.inl rfl | exact Or.inr rfl))
      (pss_one (ps_expr (pe_bm PySem.F.plainAttrs_list PySem.F.slot_list_append PySem.F.type_list_append mt_append (pv 1) (pa_cons (pe_op op_add (pe_ix (r := rIxL K) ix_list (pv 1) (pe_un un_neg pe_int) (fun _ _ => rfl)) (pe_call G_l_draw (hr.mono (by decide)) rfl T.m_l_draw T.k_l_draw T.b_l_draw .nil pass0 (pa_cons (pv 0) (pa_cons pe_int pa_nil)))) pa_nil)))))
    (pss_cons (ps_set (i := 3) sc_l_row.nd rfl (by first | exact Or.inl rfl | exact Or.inr rfl) (pe_call G_l_choice (hr.mono (by decide)) rfl T.m_l_choice T.k_l_choice T.b_l_choice .nil pass0 (pa_cons (pv 0) (pa_cons (pe_lc (own := [("_law_one", 6)]) (g := gName 6) rfl sc_l_row.nd (pi_list (pe_lst (pa_cons pe_int (pa_cons pe_int (pa_cons pe_int (pa_cons pe_int pa_nil)))))) (blkOk_by (own := [("_law_one", 6)]) (N := ["_law_rng_here", "_law_nums", "_law_turn", "_law_every", "_law_least", "_law_row_here", "_law_one"]) (sc := defScope s_l_row) (by decide +kernel)) (fun _ _ _ _ _ => pg_name (i := 6) sc_l_row.nd rfl (by first | exact Or.inl rfl | exact Or.inr rfl)) (fun _ _ _ _ _ => (pts_one (pt_cmpR op_le (pv 6) (pe_callB (r := VG.rLen K) VG.call_len (by rfl) T.len (by decide +kernel) (pa_cons (pv 1) pa_nil)) (nomark _)))) (fun _ _ _ _ _ => (pv 6))) pa_nil))))
    (pss_cons (ps_set (i := 4) sc_l_row.nd rfl (by first | exact Or.inl rfl | exact Or.inr rfl) (pe_op op_sub (pe_ix (r := rIxL K) ix_list (pv 1) (pe_un un_neg pe_int) (fun _ _ => rfl)) (pe_ix (r := rIxL K) ix_list (pe_op op_cat (pe_lst (pa_cons pe_int pa_nil)) (pv 1)) (pe_op op_sub (pe_op op_add (pe_callB (r := VG.rLen K) VG.call_len (by rfl) T.len (by decide +kernel) (pa_cons (pv 1) pa_nil)) pe_int) (pv 3)) (fun _ _ => rfl))))
    (pss_cons (ps_set (i := 5) sc_l_row.nd rfl (by first | exact Or.inl rfl | exact Or.inr rfl) (pe_tup (pa_cons (pv 1) (pa_cons (pv 3) (pa_cons (pe_op op_add (pe_callB (call_max2 rfl) (by rfl) T.max (by decide +kernel) (pa_cons pe_int (pa_cons (pv 4) pa_nil))) (pe_call G_l_draw (hr.mono (by decide)) rfl T.m_l_draw T.k_l_draw T.b_l_draw .nil pass0 (pa_cons (pv 0) (pa_cons pe_int pa_nil)))) pa_nil)))))
    (pss_one (ps_ret (pe_ifExp (pt_val (pe_call G_l_is_good (hr.mono (by decide)) rfl T.m_l_is_good T.k_l_is_good T.b_l_is_good .nil pass0 (pa_cons (pv 5) pa_nil))) (pv 5) (pe_call G_l_choice (hr.mono (by decide)) rfl T.m_l_choice T.k_l_choice T.b_l_choice .nil pass0 (pa_cons (pv 0) (pa_cons (pe_call0 G_l_rows (hr.mono (by decide)) rfl T.m_l_rows T.k_l_rows T.b_l_rows .nil pass0) pa_nil)))))))))))), ?_⟩
    refine ⟨_, rfl, r, _, rfl, hr0, by decide, by decide, fun H0 d0 e0 x0 x1 => ⟨_, _, rfl, rfl, _, rfl, ifD (fun c => ?_) (fun c => ?_)⟩⟩
    · refine ⟨_, rfl, rfl, fun H2 q ys s2 hq0 hq hlen hall => ⟨r, q, ys, rfl, e0.rng.same s2, SqL.of hq, e0.rng.ne hq0, by omega, by omega, fun H3 v e3 hv => ?_⟩⟩
      obtain ⟨t, l, xs, p, g, rfl, ht0, hl0, R, G⟩ := hall v hv
      exact k H3 t l xs p g ((e0.same s2).trans e3) (e0.free ht0) (e0.free hl0) (e3.row R (e0.rng.same s2) (e0.rng.ne hl0)) G
    clear c x0 x1
    refine ⟨_, rfl, r, _, rfl, e0.rng, by decide, by decide, fun H1 d e1 d0 d1 => ⟨(by show 1 ≤ sizeLine; decide), fun l hl => ?_⟩⟩
    replace e1 := e0.trans e1
    have nlr := e1.rng.ne hl
    refine ⟨_, rfl, r, _, rfl, (e1.rng.same (Same.upd (Same.refl H1) hl)), by decide, by decide, fun H2 m e2 m0 m1 => ⟨_, rfl, by omega, by omega, ?_⟩⟩
    have e02 : Ext r H H2 := (e1.same (Same.upd (Same.refl H1) hl)).trans e2
    have hl2 : H2 l = some (.lst [.int d]) := e2.keep _ _ nlr upd_same
    refine for_range (lo := 0) (n := m.toNat) (fun i σ H' => ∃ v2 xs, σ = [some (.ref r), some (.ref l), v2, none, none, none, none] ∧ Ext r H H' ∧ H' l = some (.lst (xs.map V.int)) ∧ xs.length = i + 1 ∧ Ris xs 2 1)
      ⟨_, [d], rfl, e02, hl2, rfl, Ris.one d0 (by omega)⟩ ?_ ?_
    · rintro i σ H' hi ⟨v2, xs, rfl, e3, hx, hn, R⟩
      refine ⟨_, rfl, .inl ⟨rfl, _, SqL.of hx⟩, _, rfl, _, rfl, l, _, _, _, rfl, rfl, SqL.of hx, at_back (by omega) (by omega), _, rfl, r, _, rfl, e3.rng, by decide, by decide, fun H4 d' e4 z0 z1 => ?_⟩
      have hx4 := e4.keep _ _ nlr hx
      refine ⟨_, _, rfl, rfl, l, _, _, rfl, rfl, hx4, small (by rw [List.length_map]; omega), ?_⟩
      refine ⟨_, xs ++ [xs.getD (xs.length - 1) 0 + d'], rfl, (e3.trans e4).put (e1.free hl) nlr, ?_, by rw [List.length_append, hn]; rfl, R.push (by omega) z0 (by omega)⟩
      rw [upd_same, List.map_append, show (-1 + (xs.length : Int)).toNat = xs.length - 1 by omega]
      rfl
    · rintro σ H' ⟨v2, xs, rfl, e3, hx, hn, R⟩
      have hl0 := e1.free hl
      refine ⟨_, rfl, (by show 4 ≤ sizeLine; decide), fun p0 hp0 => ⟨p0, rfl, ⟨_, SqL.of upd_same⟩, fun D hD => ?_⟩⟩
      have e4 : Ext r H (upd H' p0 (.lst [.int 1, .int 2, .int 3, .int 4])) := e3.put (e3.free hp0) (e3.rng.ne hp0)
      have hx4 : upd H' p0 (.lst [.int 1, .int 2, .int 3, .int 4]) l = some (.lst (xs.map V.int)) := by rw [upd_ne (ne_of_none hx hp0)]; exact hx
      have s4 : ∀ o, Same (upd H' p0 (.lst [.int 1, .int 2, .int 3, .int 4])) (upd (upd H' p0 (.lst [.int 1, .int 2, .int 3, .int 4])) D o) := fun o => Same.upd (Same.refl _) hD
      refine lc_list (K := K) (a := p0) (xs := [.int 1, .int 2, .int 3, .int 4]) (fun i H2 => Same (upd H' p0 (.lst [.int 1, .int 2, .int 3, .int 4])) H2 ∧
        ∃ ys : List Int, H2 D = some (.lst (ys.map V.int)) ∧ ys.length ≤ i ∧ (0 < i → 0 < ys.length) ∧ ∀ y ∈ ys, (y = 1 ∨ y = 2 ∨ y = 3 ∨ y = 4) ∧ y ≤ xs.length)
        ⟨s4 _, [], upd_same, Nat.le_refl _, fun h => absurd h (Nat.lt_irrefl _), fun y h => by cases h⟩ (fun i H2 _ ⟨s5, _⟩ => s5.seq (SqL.of upd_same)) ?_ ?_
      · rintro i x H2 hi ⟨s5, ys, hD2, hy, hy0, hys⟩
        obtain ⟨z, rfl, hz, hz1⟩ := perV4 hi
        refine ⟨rfl, _, rfl, _, rfl, l, _, rfl, .inl (s5.seq (SqL.of hx4)), _, _, rfl, rfl, _, rfl, ?_⟩
        rw [List.length_map]
        have i5 : i < 4 := (List.getElem?_eq_some_iff.mp hi).1
        refine ifD (fun c => ?_) (fun c => ?_)
        · refine ⟨_, rfl, _, hD2, small (by rw [List.length_map]; omega), Same.upd s5 hD, ys ++ [z], ?_, by rw [List.length_append, List.length_singleton]; omega, fun _ => by rw [List.length_append, List.length_singleton]; omega, fun y h => ?_⟩
          · rw [upd_same, List.map_append]; rfl
          · rcases List.mem_append.mp h with h | h
            · exact hys y h
            · cases List.mem_singleton.mp h; exact ⟨hz, c⟩
        · refine ⟨s5, ys, hD2, by omega, fun _ => ?_, hys⟩
          by_cases i0 : i = 0
          · exact absurd (hz1 i0) (by omega)
          · exact hy0 (by omega)
      · rintro H2 ⟨s5, ys, hD2, hy, hy0, hys⟩
        have e5 := e4.same s5
        have hlen : 0 < ys.length := hy0 (by decide)
        have hy5 : ys.length ≤ 4 := hy
        refine ⟨r, D, _, rfl, e5.rng, SqL.of hD2, e4.rng.ne hD, by rw [List.length_map]; exact hlen, by rw [List.length_map]; omega, fun H3 v e6 hv => ?_⟩
        obtain ⟨p, hp, rfl⟩ := List.mem_map.mp hv
        obtain ⟨hper, hpn⟩ := hys p hp
        have hx6 := e6.keep _ _ nlr (s5 _ _ hx4)
        have e06 := e5.trans e6
        have pp : 0 < p ∧ p ≤ 4 := by omega
        refine ⟨_, rfl, _, rfl, l, _, _, _, rfl, rfl, SqL.of hx6, at_back (by omega) (by omega), (by show 1 ≤ sizeLine; decide), fun p1 hp1 => ?_⟩
        have hx7 : upd H3 p1 (.lst [.int 0]) l = some (.lst (xs.map V.int)) := by rw [upd_ne (ne_of_none hx6 hp1)]; exact hx6
        have e07 : Ext r H (upd H3 p1 (.lst [.int 0])) := e06.put (e06.free hp1) (e06.rng.ne hp1)
        refine ⟨_, rfl, p1, l, _, _, rfl, rfl, upd_same, hx7, (by rw [List.length_map, sizeLine_eq]; show 1 + xs.length ≤ _; omega), fun p2 hp2 => ?_⟩
        have hx8 : upd (upd H3 p1 (.lst [.int 0])) p2 (.lst (([.int 0] : List V) ++ xs.map V.int)) l = some (.lst (xs.map V.int)) := by rw [upd_ne (ne_of_none hx7 hp2)]; exact hx7
        have e08 : Ext r H (upd (upd H3 p1 (.lst [.int 0])) p2 (.lst (([.int 0] : List V) ++ xs.map V.int))) := e07.put (e07.free hp2) (e07.rng.ne hp2)
        have h9 : upd (upd H3 p1 (.lst [.int 0])) p2 (.lst (([.int 0] : List V) ++ xs.map V.int)) p2 = some (.lst ((0 :: xs).map V.int)) := upd_same
        refine ⟨_, rfl, l, _, rfl, .inl (SqL.of hx8), _, _, rfl, rfl, _, rfl, _, _, rfl, rfl, ?_⟩
        rw [List.length_map]
        refine ⟨p2, _, _, _, rfl, rfl, SqL.of h9, at_map (by omega) (by rw [List.length_cons]; omega), _, _, rfl, rfl, ?_⟩
        refine ⟨_, rfl, _, rfl, _, rfl, _, _, rfl, _, rfl, r, _, rfl, e08.rng, by decide, by decide, fun H9 d9 e9 y0 y1 => ⟨_, _, rfl, rfl, (by show 3 ≤ sizeLine; decide), fun t ht => ?_⟩⟩
        have hx9 := e9.keep _ _ nlr hx8
        have e09 := e08.trans e9
        have lo : ∀ i, i < xs.length → 0 ≤ xs.getD i 0 := R.lo
        have hi : ∀ i, i < xs.length → xs.getD i 0 ≤ 2 + 1 * i := R.hi
        have eidx : ((0 : Int) :: xs).getD ((xs.length : Int) + 1 - p).toNat 0 = xs.getD (xs.length - p.toNat) 0 := by
          rw [show ((xs.length : Int) + 1 - p).toNat = (xs.length - p.toNat) + 1 by omega]
          rfl
        have elast : xs.getD (-1 + (xs.length : Int)).toNat 0 = xs.getD (xs.length - 1) 0 := by
          rw [show (-1 + (xs.length : Int)).toNat = xs.length - 1 by omega]
        have a1 := hi (xs.length - 1) (by omega)
        have a2 := lo (xs.length - p.toNat) (by omega)
        refine ⟨_, rfl, t, l, xs, p, _, rfl, SqT.of upd_same, SqL.of (show upd H9 t _ l = some (.lst (xs.map V.int)) by rw [upd_ne (ne_of_none hx9 ht)]; exact hx9), by omega, hpn, by omega, fun b hb => ?_⟩
        have e10 := e09.put (o := .tup [.ref l, .int p, .int ((if xs.getD (-1 + (xs.length : Int)).toNat 0 - ((0 : Int) :: xs).getD ((xs.length : Int) + 1 - p).toNat 0 > 0 then xs.getD (-1 + (xs.length : Int)).toNat 0 - ((0 : Int) :: xs).getD ((xs.length : Int) + 1 - p).toNat 0 else 0) + d9)]) (e09.free ht) (e09.rng.ne ht)
        refine ⟨_, rfl, ?_⟩
        cases b with
        | true =>
          refine iteT ?_
          refine ⟨_, rfl, k _ t l xs p _ e10 (e09.free ht) hl0 ⟨upd_same, by rw [upd_ne (ne_of_none hx9 ht)]; exact hx9, ⟨by omega, by omega, lo, fun i h => by have := hi i h; omega, R.up, by omega, hpn, ?_, ?_, ?_⟩, ?_⟩ (hb rfl)⟩
          · split <;> omega
          · rw [eidx, elast]
            split <;> omega
          · rw [eidx, elast]
            split <;> omega
          · intro i
            by_cases c : i < xs.length
            · have := hi i c; omega
            · rw [List.getD_eq_getElem?_getD, List.getElem?_eq_none (by omega)]; decide
        | false =>
          refine iteF ?_
          refine ⟨_, rfl, rfl, fun H12 q ys s2 hq0 hq hlen hall => ⟨r, q, ys, rfl, e10.rng.same s2, SqL.of hq, e10.rng.ne hq0, by omega, by omega, fun H13 v e13 hv => ?_⟩⟩
          obtain ⟨t', l', xs', p', g', rfl, ht0, hl0', R', G'⟩ := hall v hv
          exact k H13 t' l' xs' p' g' ((e10.same s2).trans e13) (e10.free ht0) (e10.free hl0') (e13.row R' (e10.rng.same s2) (e10.rng.ne hl0')) G'
end
end VK


namespace VK
open PySem PySem.Spec PyProof.Rows L2 VM
theorem nth_map {xs : List Int} {i : Nat} {x : V} (h : (xs.map V.int)[i]? = some x) : i < xs.length ∧ x = .int (xs.getD i 0) := by
  have hi : i < xs.length := by
    have := (List.getElem?_eq_some_iff.mp h).1
    rw [List.length_map] at this
    exact this
  rw [getD_map hi] at h
  exact ⟨hi, (Option.some.inj h).symm⟩
theorem SqTs {K : PySem.W.Frag} {H H' : Hp} {a : Addr} {xs : List V} (h : SqT K H a xs) (e : Same H H') : SqT K H' a xs := by
  rcases h with (h | ⟨o, h⟩) | h
  · exact .inl (.inl (e _ _ h))
  · exact .inl (.inr ⟨o, e _ _ h⟩)
  · exact .inr h
theorem DpS2 {K : PySem.W.Frag} {H H' : Hp} (e : Same H H') : ∀ n, (∀ d v, sizeOf d < n → Dp K H v d → Dp K H' v d) ∧ (∀ ds vs, sizeOf ds < n → DpAll K H vs ds → DpAll K H' vs ds) := by
  intro n
  induction n with
  | zero => exact ⟨fun _ _ h => absurd h (Nat.not_lt_zero _), fun _ _ h => absurd h (Nat.not_lt_zero _)⟩
  | succ n ih =>
    refine ⟨fun d v hz h => ?_, fun ds vs hz h => ?_⟩
    · cases h with
      | non => exact .non
      | bl b => exact .bl b
      | int i => exact .int i
      | str x => exact .str x
      | lst h1 h2 => exact .lst (e.seq h1) (ih.2 _ _ (by simp at hz; omega) h2)
      | tup h1 h2 => exact .tup (SqTs h1 e) (ih.2 _ _ (by simp at hz; omega) h2)
    · cases h with
      | nil => exact .nil
      | cons h1 h2 => exact .cons (ih.1 _ _ (by simp at hz; omega) h1) (ih.2 _ _ (by simp at hz; omega) h2)
theorem DpS {K : PySem.W.Frag} {H H' : Hp} {d : PyData} {v : V} (h : Dp K H v d) (e : Same H H') : Dp K H' v d := (DpS2 e (sizeOf d + 1)).1 d v (Nat.lt_succ_self _) h
theorem dstr {a b : Str} (h : a = b) : (V.str a) = V.str b := by rw [h]
def Duo (H H' : Hp) (v : V) : Option (Int × Int) → Prop
  | none => v = .non
  | some (a, b) => ∃ t, v = .ref t ∧ H t = none ∧ H' t = some (.tup [.int a, .int b])
def dDuo : Option (Int × Int) → PyData
  | none => .none
  | some (a, b) => .tuple [.int a, .int b]
theorem Duo.dp {K : PySem.W.Frag} {H H' H2 : Hp} {v : V} {o : Option (Int × Int)} (h : Duo H H' v o) (s : Same H' H2) : Dp K H2 v (dDuo o) := by
  cases o with
  | none => cases h; exact .non
  | some z =>
    obtain ⟨a, b⟩ := z
    obtain ⟨t, rfl, _, h⟩ := h
    exact .tup (SqT.of (s _ _ h)) (.cons (.int a) (.cons (.int b) .nil))
theorem pair_sz {a b : Int} (ha : a.natAbs ≤ 1000) (hb : b.natAbs ≤ 1000) : VR.Sz 1 400 (.tuple [.int a, .int b]) := by
  have p1 : (1000 : Nat) < 10 ^ 100 := by decide +kernel
  refine (VR.Sz.tuple (k := 0) (L := 101) (n := 2) (fun d hd => ?_) (Nat.le_refl _)).mono (by decide) (by decide)
  simp only [List.mem_cons, List.not_mem_nil, or_false] at hd
  rcases hd with rfl | rfl
  · exact .int (Nat.lt_of_le_of_lt ha p1)
  · exact .int (Nat.lt_of_le_of_lt hb p1)
theorem duo_sz {o : Option (Int × Int)} (h : ∀ a b, o = some (a, b) → a.natAbs ≤ 1000 ∧ b.natAbs ≤ 1000) : VR.Sz 1 400 (dDuo o) := by
  cases o with
  | none => exact VR.Sz.none.mono (by decide) (by decide)
  | some z =>
    obtain ⟨a, b⟩ := z
    obtain ⟨h1, h2⟩ := h a b rfl
    exact pair_sz h1 h2
end VK


namespace VK
open PySem PySem.Spec PyProof.Rows L2 VM
/-- an end, or None -/
def oV : Option Int → V
  | none => .non
  | some i => .int i
/-- the attributes of a visit -/
def vfs (t s b : Int) (e : V) : List (Str × V) := [("_time", V.int t), ("_shift", V.int s), ("_begin", V.int b), ("_end", e)]
theorem v_ts : ¬ (("_time" : Str) = "_shift") := by decide +kernel
theorem v_tb : ¬ (("_time" : Str) = "_begin") := by decide +kernel
theorem v_te : ¬ (("_time" : Str) = "_end") := by decide +kernel
theorem v_sb : ¬ (("_shift" : Str) = "_begin") := by decide +kernel
theorem v_se : ¬ (("_shift" : Str) = "_end") := by decide +kernel
theorem v_be : ¬ (("_begin" : Str) = "_end") := by decide +kernel
theorem vput1 (v : V) : putF "_time" v [] = [(("_time" : Str), v)] := rfl
theorem vput2 (v u : V) : putF "_shift" u [(("_time" : Str), v)] = [(("_time" : Str), v), ("_shift", u)] := by
  show (if ("_time" : Str) = "_shift" then _ else (("_time" : Str), v) :: putF "_shift" u []) = _
  rw [if_neg v_ts]
  rfl
theorem vput3 (v u z : V) : putF "_begin" z [(("_time" : Str), v), ("_shift", u)] = [(("_time" : Str), v), ("_shift", u), ("_begin", z)] := by
  show (if ("_time" : Str) = "_begin" then _ else (("_time" : Str), v) :: (if ("_shift" : Str) = "_begin" then _ else (("_shift" : Str), u) :: putF "_begin" z [])) = _
  rw [if_neg v_tb, if_neg v_sb]
  rfl
theorem vput4 (v u z y : V) : putF "_end" y [(("_time" : Str), v), ("_shift", u), ("_begin", z)] = [(("_time" : Str), v), ("_shift", u), ("_begin", z), ("_end", y)] := by
  show (if ("_time" : Str) = "_end" then _ else (("_time" : Str), v) :: (if ("_shift" : Str) = "_end" then _ else (("_shift" : Str), u) :: (if ("_begin" : Str) = "_end" then _ else (("_begin" : Str), z) :: putF "_end" y []))) = _
  rw [if_neg v_te, if_neg v_se, if_neg v_be]
  rfl
theorem vfs_t (t s b : Int) (e : V) : (vfs t s b e).lookup ("_time" : Str) = some (.int t) := by
  unfold vfs; simp [List.lookup]
theorem vfs_s (t s b : Int) (e : V) : (vfs t s b e).lookup ("_shift" : Str) = some (.int s) := by
  have h : (("_shift" : Str) == "_time") = false := by decide +kernel
  unfold vfs; simp [List.lookup, h]
theorem vfs_b (t s b : Int) (e : V) : (vfs t s b e).lookup ("_begin" : Str) = some (.int b) := by
  have h : (("_begin" : Str) == "_time") = false := by decide +kernel
  have h2 : (("_begin" : Str) == "_shift") = false := by decide +kernel
  unfold vfs; simp [List.lookup, h, h2]
theorem vfs_e (t s b : Int) (e : V) : (vfs t s b e).lookup ("_end" : Str) = some e := by
  have h : (("_end" : Str) == "_time") = false := by decide +kernel
  have h2 : (("_end" : Str) == "_shift") = false := by decide +kernel
  have h3 : (("_end" : Str) == "_begin") = false := by decide +kernel
  unfold vfs; simp [List.lookup, h, h2, h3]
/-- a visit -/
def VisAt (A : Ad) (H : Hp) (p : Addr) (t s b : Int) (e : Option Int) : Prop := ∃ dx, H p = some (.ins A.Visit dx (vfs t s b (oV e)))
theorem VisAt.same {A : Ad} {H H' : Hp} {p : Addr} {t s b : Int} {e : Option Int} (h : VisAt A H p t s b e) (k : Same H H') : VisAt A H' p t s b e := by
  obtain ⟨dx, h⟩ := h
  exact ⟨dx, k _ _ h⟩
structure OkV (t s b : Int) (e : Option Int) : Prop where
  t0 : 1 ≤ t
  t1 : t ≤ 12
  s0 : 0 ≤ s
  s1 : s ≤ 1000
  b0 : 0 ≤ b
  b1 : b ≤ 1000
  e0 : ∀ x, e = some x → b ≤ x
  e1 : ∀ x, e = some x → x ≤ 1000
/-- first and behind, within a visit -/
def eB : Option Int → Int → Int
  | none, h => h
  | some x, h => if h < x then h else x
def stM (b : Int) (e : Option Int) (f h : Int) : Option (Int × Int) :=
  if eB e h ≤ (if b < f then f else b) then none else some (if b < f then f else b, eB e h)
theorem stM_le {b f h F B : Int} {e : Option Int} (hF : (if b < f then f else b) = F) (hB : eB e h = B) (c : B ≤ F) : stM b e f h = none := by
  subst hF hB; unfold stM; rw [if_pos c]
theorem stM_gt {b f h F B : Int} {e : Option Int} (hF : (if b < f then f else b) = F) (hB : eB e h = B) (c : ¬ B ≤ F) : stM b e f h = some (F, B) := by
  subst hF hB; unfold stM; rw [if_neg c]
def sp_find_visit_problem (_ : PySem.W.Frag) (_ : Ad) : Sp := fun vs H Q _ => ∃ (t s b : Int) (e : Option Int), vs = [.int t, .int s, .int b, oV e] ∧ OkV t s b e ∧ Q .non H
def sp_Visit_init (_ : PySem.W.Frag) (A : Ad) : Sp := fun vs H Q _ => ∃ (p dx : Addr) (t s b : Int) (e : Option Int), vs = [.ref p, .int t, .int s, .int b, oV e] ∧ H p = some (.ins A.Visit dx []) ∧ OkV t s b e ∧
  Q .non (upd H p (.ins A.Visit dx (vfs t s b (oV e))))
def sp_Visit_time (_ : PySem.W.Frag) (A : Ad) : Sp := fun vs H Q _ => ∃ (p : Addr) (t s b : Int) (e : Option Int), vs = [.ref p] ∧ VisAt A H p t s b e ∧ Q (.int t) H
def sp_Visit_shift (_ : PySem.W.Frag) (A : Ad) : Sp := fun vs H Q _ => ∃ (p : Addr) (t s b : Int) (e : Option Int), vs = [.ref p] ∧ VisAt A H p t s b e ∧ Q (.int s) H
def sp_Visit_begin (_ : PySem.W.Frag) (A : Ad) : Sp := fun vs H Q _ => ∃ (p : Addr) (t s b : Int) (e : Option Int), vs = [.ref p] ∧ VisAt A H p t s b e ∧ Q (.int b) H
def sp_Visit_end (_ : PySem.W.Frag) (A : Ad) : Sp := fun vs H Q _ => ∃ (p : Addr) (t s b : Int) (e : Option Int), vs = [.ref p] ∧ VisAt A H p t s b e ∧ Q (oV e) H
def sp_is_window (_ : PySem.W.Frag) (_ : Ad) : Sp := fun vs H Q _ => ∃ (a b : Int), vs = [.int a, .int b] ∧ 0 ≤ a ∧ a < b ∧ Q (.bl true) H
def sp_require_window (_ : PySem.W.Frag) (_ : Ad) : Sp := fun vs H Q _ => ∃ (a b : Int), vs = [.int a, .int b] ∧ 0 ≤ a ∧ a < b ∧ Q .non H
def sp_stretch_from (_ : PySem.W.Frag) (A : Ad) : Sp := fun vs H Q _ => ∃ (p : Addr) (t s b : Int) (e : Option Int) (f h : Int), vs = [.ref p, .int f, .int h] ∧ VisAt A H p t s b e ∧
  ∀ H' v, Same H H' → Duo H H' v (stM b e f h) → Q v H'
def sp_urgent_stretch (_ : PySem.W.Frag) (A : Ad) : Sp := fun vs H Q _ => ∃ (p : Addr) (t s b : Int) (e : Option Int) (x y : Int), vs = [.ref p, .int x, .int y] ∧ VisAt A H p t s b e ∧
  ∀ H' v, Same H H' → Duo H H' v (stM b e (x - s) (y - t - s + 1)) → Q v H'
def sp_placed_stretch (_ : PySem.W.Frag) (A : Ad) : Sp := fun vs H Q _ => ∃ (p : Addr) (t s b : Int) (e : Option Int) (y : Int), vs = [.ref p, .int y] ∧ VisAt A H p t s b e ∧
  ∀ H' v, Same H H' → Duo H H' v (stM b e (y - t + 1 - s) (y + 1 - s)) → Q v H'
section
variable {P : Program} {w : World} {K : PySem.W.Frag} {mg : Str → Option Value} {base : Heap} {A : Ad}
theorem ok_find_visit_problem (T : Txt K mg A) : FnOk P w K mg base CX0 4 A.f_find_visit_problem A.d_find_visit_problem ["time", "shift", "begin", "end"] (sp_find_visit_problem K A) := by
  have G_is_count_to := ok_is_count_to (P := P) (w := w) (base := base) T
  have G_is_integer := ok_is_integer (P := P) (w := w) (base := base) T
  refine T.F_find_visit_problem.ok sc_find_visit_problem (fun vs H Q E h => ?_) (fun cdv A0 outer s H vs Q E hr h => ?_)
  · obtain ⟨t, s, b, e, rfl, ok, q⟩ := h
    rfl
  · obtain ⟨t, s, b, e, rfl, ok, q⟩ := h
    refine ⟨_, (pss_cons (ps_if (PW.pt (pw_or (pt_not (pt_val (pe_call G_is_integer (hr.mono (by decide)) rfl T.m_is_integer T.k_is_integer T.b_is_integer .nil pass0 (pa_cons (pv 0) pa_nil)))) (pw_or1 (pt_not (pt_chain op_le op_le pe_int (pv 0) (pe_glob (v := .int 12) rfl T.v_MAX_TIME ⟨_, rfl⟩)))))) (pss_one (ps_ret pe_str)) pss_nil)
    (pss_cons (ps_if (pt_not (pt_val (pe_call G_is_count_to (hr.mono (by decide)) rfl T.m_is_count_to T.k_is_count_to T.b_is_count_to .nil pass0 (pa_cons (pv 1) (pa_cons (pe_glob (v := .int 1000) rfl T.v_MAX_TICK ⟨_, rfl⟩) pa_nil))))) (pss_one (ps_ret pe_str)) pss_nil)
    (pss_cons (ps_if (pt_not (pt_val (pe_call G_is_count_to (hr.mono (by decide)) rfl T.m_is_count_to T.k_is_count_to T.b_is_count_to .nil pass0 (pa_cons (pv 2) (pa_cons (pe_glob (v := .int 1000) rfl T.v_MAX_TICK ⟨_, rfl⟩) pa_nil))))) (pss_one (ps_ret pe_str)) pss_nil)
    (pss_cons (ps_if (PW.pt (pw_and (pt_cmp (pc_notN (pv 3)) rfl) (pw_and1 (PW.pt (pw_or (pt_not (pt_val (pe_call G_is_count_to (hr.mono (by decide)) rfl T.m_is_count_to T.k_is_count_to T.b_is_count_to .nil pass0 (pa_cons (pv 3) (pa_cons (pe_glob (v := .int 1000) rfl T.v_MAX_TICK ⟨_, rfl⟩) pa_nil))))) (pw_or1 (pt_cmpR op_lt (pv 3) (pv 2) (nomark _)))))))) (pss_one (ps_ret pe_str)) pss_nil)
    (pss_one (ps_ret pe_non)))))), ?_⟩
    have t0 := ok.t0
    have t1 := ok.t1
    have cs : cntTo 1000 (.int s) = true := by unfold cntTo; exact decide_eq_true ⟨ok.s0, ok.s1⟩
    have cb : cntTo 1000 (.int b) = true := by unfold cntTo; exact decide_eq_true ⟨ok.b0, ok.b1⟩
    refine ⟨_, rfl, _, _, rfl, Kd.int _, _, rfl, iteF ?_⟩
    refine ⟨_, rfl, _, _, rfl, rfl, _, rfl, ifD (fun _ => ?_) (fun c => absurd t0 c)⟩
    refine ⟨_, _, rfl, rfl, _, rfl, iteNS t1 ?_⟩
    refine ⟨_, rfl, _, _, _, rfl, Kd.int _, _, rfl, ?_⟩
    rw [cs]
    refine iteF ⟨_, rfl, _, _, _, rfl, Kd.int _, _, rfl, ?_⟩
    rw [cb]
    refine iteF ?_
    cases e with
    | none => exact ⟨_, rfl, _, rfl, iteF q⟩
    | some x =>
      have ce : cntTo 1000 (oV (some x)) = true := by unfold cntTo oV; exact decide_eq_true ⟨Int.le_trans ok.b0 (ok.e0 x rfl), ok.e1 x rfl⟩
      refine ⟨_, rfl, _, rfl, iteT ?_⟩
      refine ⟨_, rfl, _, _, _, rfl, Kd.int _, _, rfl, ?_⟩
      rw [ce]
      refine iteF ⟨_, rfl, _, rfl, _, _, rfl, rfl, _, rfl, ifD (fun c => absurd c (by have := ok.e0 x rfl; omega)) (fun _ => q)⟩
theorem ok_Visit_init (T : Txt K mg A) : FnOk P w K mg base CX0 5 A.f_Visit_init A.d_Visit_init ["self", "time", "shift", "begin", "end"] (sp_Visit_init K A) := by
  have G_find_visit_problem := ok_find_visit_problem (P := P) (w := w) (base := base) T
  refine T.F_Visit_init.ok sc_Visit_init (fun vs H Q E h => ?_) (fun cdv A0 outer s H vs Q E hr h => ?_)
  · obtain ⟨p, dx, t, s, b, e, rfl, hp, ok, q⟩ := h
    rfl
  · obtain ⟨p, dx, t, s, b, e, rfl, hp, ok, q⟩ := h
    refine ⟨_, (pss_cons (ps_set (i := 5) sc_Visit_init.nd rfl (by first | exact Or.inl rfl | exact Or.inr rfl) (pe_call G_find_visit_problem (hr.mono (by decide)) rfl T.m_find_visit_problem T.k_find_visit_problem T.b_find_visit_problem .nil pass0 (pa_cons (pv 1) (pa_cons (pv 2) (pa_cons (pv 3) (pa_cons (pv 4) pa_nil))))))
    (pss_cons (ps_if (pt_cmp (pc_notN (pv 5)) rfl) (pss_one ps_never) pss_nil)
    (pss_cons (ps_fld (pv 0) (pv 1) rfl)
    (pss_cons (ps_fld (pv 0) (pv 2) rfl)
    (pss_cons (ps_fld (pv 0) (pv 3) rfl)
    (pss_one (ps_fld (pv 0) (pv 4) rfl))))))), ?_⟩
    refine ⟨_, rfl, _, rfl, _, rfl, _, rfl, t, s, b, e, rfl, ok, ?_⟩
    refine ⟨_, rfl, _, rfl, iteF ?_⟩
    refine ⟨_, rfl, _, rfl, p, _, dx, _, rfl, hp, T.clVisit, T.n_time, (by show 0 < 1000; decide), ?_⟩
    refine ⟨_, rfl, _, rfl, p, _, dx, _, rfl, upd_same, T.clVisit, T.n_shift, (by show 1 < 1000; decide), ?_⟩
    refine ⟨_, rfl, _, rfl, p, _, dx, _, rfl, upd_same, T.clVisit, T.n_begin, (by rw [vput1, vput2]; show 2 < 1000; decide), ?_⟩
    refine ⟨_, rfl, _, rfl, p, _, dx, _, rfl, upd_same, T.clVisit, T.n_end, (by rw [vput1, vput2, vput3]; show 3 < 1000; decide), ?_⟩
    rw [upd_upd, upd_upd, upd_upd, vput1, vput2, vput3, vput4]
    exact q
theorem ok_Visit_time (T : Txt K mg A) : FnOk P w K mg base CX0 1 A.f_Visit_time A.d_Visit_time ["self"] (sp_Visit_time K A) := by
  refine T.F_Visit_time.ok sc_Visit_time (fun vs H Q E h => ?_) (fun cdv A0 outer s H vs Q E hr h => ?_)
  · obtain ⟨p, t, s, b, e, rfl, ⟨dx, hp⟩, q⟩ := h
    rfl
  · obtain ⟨p, t, s, b, e, rfl, ⟨dx, hp⟩, q⟩ := h
    refine ⟨_, (pss_one (ps_ret (pe_fld (pv 0) rfl))), ?_⟩
    exact ⟨_, rfl, p, _, dx, _, _, rfl, hp, T.clVisit, T.n_time, vfs_t _ _ _ _, q⟩
theorem ok_Visit_shift (T : Txt K mg A) : FnOk P w K mg base CX0 1 A.f_Visit_shift A.d_Visit_shift ["self"] (sp_Visit_shift K A) := by
  refine T.F_Visit_shift.ok sc_Visit_shift (fun vs H Q E h => ?_) (fun cdv A0 outer s H vs Q E hr h => ?_)
  · obtain ⟨p, t, s, b, e, rfl, ⟨dx, hp⟩, q⟩ := h
    rfl
  · obtain ⟨p, t, s, b, e, rfl, ⟨dx, hp⟩, q⟩ := h
    refine ⟨_, (pss_one (ps_ret (pe_fld (pv 0) rfl))), ?_⟩
    exact ⟨_, rfl, p, _, dx, _, _, rfl, hp, T.clVisit, T.n_shift, vfs_s _ _ _ _, q⟩
theorem ok_Visit_begin (T : Txt K mg A) : FnOk P w K mg base CX0 1 A.f_Visit_begin A.d_Visit_begin ["self"] (sp_Visit_begin K A) := by
  refine T.F_Visit_begin.ok sc_Visit_begin (fun vs H Q E h => ?_) (fun cdv A0 outer s H vs Q E hr h => ?_)
  · obtain ⟨p, t, s, b, e, rfl, ⟨dx, hp⟩, q⟩ := h
    rfl
  · obtain ⟨p, t, s, b, e, rfl, ⟨dx, hp⟩, q⟩ := h
    refine ⟨_, (pss_one (ps_ret (pe_fld (pv 0) rfl))), ?_⟩
    exact ⟨_, rfl, p, _, dx, _, _, rfl, hp, T.clVisit, T.n_begin, vfs_b _ _ _ _, q⟩
theorem ok_Visit_end (T : Txt K mg A) : FnOk P w K mg base CX0 1 A.f_Visit_end A.d_Visit_end ["self"] (sp_Visit_end K A) := by
  refine T.F_Visit_end.ok sc_Visit_end (fun vs H Q E h => ?_) (fun cdv A0 outer s H vs Q E hr h => ?_)
  · obtain ⟨p, t, s, b, e, rfl, ⟨dx, hp⟩, q⟩ := h
    rfl
  · obtain ⟨p, t, s, b, e, rfl, ⟨dx, hp⟩, q⟩ := h
    refine ⟨_, (pss_one (ps_ret (pe_fld (pv 0) rfl))), ?_⟩
    exact ⟨_, rfl, p, _, dx, _, _, rfl, hp, T.clVisit, T.n_end, vfs_e _ _ _ _, q⟩
theorem ok_is_window (T : Txt K mg A) : FnOk P w K mg base CX0 3 A.f_is_window A.d_is_window ["start", "end"] (sp_is_window K A) := by
  have G_is_count := ok_is_count (P := P) (w := w) (base := base) T
  refine T.F_is_window.ok sc_is_window (fun vs H Q E h => ?_) (fun cdv A0 outer s H vs Q E hr h => ?_)
  · obtain ⟨a, b, rfl, h0, h1, q⟩ := h
    rfl
  · obtain ⟨a, b, rfl, h0, h1, q⟩ := h
    refine ⟨_, (pss_one (ps_ret (pe_and (pe_call G_is_count (hr.mono (by decide)) rfl T.m_is_count T.k_is_count T.b_is_count .nil pass0 (pa_cons (pv 0) pa_nil)) (pe_and (pe_call G_is_count (hr.mono (by decide)) rfl T.m_is_count T.k_is_count T.b_is_count .nil pass0 (pa_cons (pv 1) pa_nil)) (pe_one (pe_cmpR op_lt (pv 0) (pv 1) (nomark _))))))), ?_⟩
    have ca : cnt (.int a) = true := by unfold cnt; exact decide_eq_true h0
    have cb : cnt (.int b) = true := by unfold cnt; exact decide_eq_true (by omega)
    refine ⟨_, rfl, _, _, rfl, Kd.int _, _, rfl, ?_⟩
    rw [ca]
    refine iteT ⟨_, rfl, _, _, rfl, Kd.int _, _, rfl, ?_⟩
    rw [cb]
    refine iteT ⟨_, rfl, _, rfl, _, _, rfl, rfl, ?_⟩
    show Q (.bl (decide (a < b))) H
    rw [decide_eq_true h1]
    exact q
theorem ok_require_window (T : Txt K mg A) : FnOk P w K mg base CX0 4 A.f_require_window A.d_require_window ["start", "end"] (sp_require_window K A) := by
  have G_is_window := ok_is_window (P := P) (w := w) (base := base) T
  refine T.F_require_window.ok sc_require_window (fun vs H Q E h => ?_) (fun cdv A0 outer s H vs Q E hr h => ?_)
  · obtain ⟨a, b, rfl, h0, h1, q⟩ := h
    rfl
  · obtain ⟨a, b, rfl, h0, h1, q⟩ := h
    refine ⟨_, (pss_one (ps_if (pt_not (pt_val (pe_call G_is_window (hr.mono (by decide)) rfl T.m_is_window T.k_is_window T.b_is_window .nil pass0 (pa_cons (pv 0) (pa_cons (pv 1) pa_nil))))) (pss_one ps_never) pss_nil)), ?_⟩
    exact ⟨_, rfl, _, rfl, a, b, rfl, h0, h1, _, rfl, iteF q⟩
theorem ok_stretch_from (T : Txt K mg A) : FnOk P w K mg base CX0 3 A.f_stretch_from A.d_stretch_from ["visit", "first", "behind"] (sp_stretch_from K A) := by
  have G_Visit_begin := ok_Visit_begin (P := P) (w := w) (base := base) T
  have G_Visit_end := ok_Visit_end (P := P) (w := w) (base := base) T
  refine T.F_stretch_from.ok sc_stretch_from (fun vs H Q E h => ?_) (fun cdv A0 outer s H vs Q E hr h => ?_)
  · obtain ⟨p, t, s, b, e, f, h, rfl, hv, k⟩ := h
    rfl
  · obtain ⟨p, t, s, b, e, f, h, rfl, hv, k⟩ := h
    refine ⟨_, (pss_cons (ps_set (i := 1) sc_stretch_from.nd rfl (by first | exact Or.inl rfl | exact Or.inr rfl) (pe_callB (call_max2 rfl) (by rfl) T.max (by decide +kernel) (pa_cons (pe_prop (pv 0) T.clVisit T.pr_Visit_begin G_Visit_begin (hr.mono (by decide)) T.b_Visit_begin .nil pass0 rfl) (pa_cons (pv 1) pa_nil))))
    (pss_cons (ps_if (pt_cmp (pc_notN (pe_prop (pv 0) T.clVisit T.pr_Visit_end G_Visit_end (hr.mono (by decide)) T.b_Visit_end .nil pass0 rfl)) rfl) (pss_one (ps_set (i := 2) sc_stretch_from.nd rfl (by first | exact Or.inl rfl | exact Or.inr rfl) (pe_callB (call_min2 rfl) (by rfl) T.min (by decide +kernel) (pa_cons (pe_prop (pv 0) T.clVisit T.pr_Visit_end G_Visit_end (hr.mono (by decide)) T.b_Visit_end .nil pass0 rfl) (pa_cons (pv 2) pa_nil))))) pss_nil)
    (pss_cons (ps_if (pt_cmpR op_le (pv 2) (pv 1) (nomark _)) (pss_one (ps_ret pe_non)) pss_nil)
    (pss_one (ps_ret (pe_tup (pa_cons (pv 1) (pa_cons (pv 2) pa_nil)))))))), ?_⟩
    obtain ⟨dx, hp⟩ := id hv
    refine ⟨_, rfl, p, dx, _, rfl, hp, p, t, s, b, e, rfl, hv, _, rfl, _, _, rfl, ?_⟩
    refine ⟨_, rfl, p, dx, _, rfl, hp, p, t, s, b, e, rfl, hv, _, rfl, ?_⟩
    cases e with
    | none =>
      refine iteF ⟨_, rfl, _, rfl, _, _, rfl, rfl, _, rfl, ifD (fun c => ?_) (fun c => ?_)⟩
      · rw [stM_le (b := b) (f := f) (h := h) (e := none) (F := if b < f then f else b) (B := h) rfl rfl c] at k
        exact k H _ (Same.refl H) rfl
      · rw [stM_gt (b := b) (f := f) (h := h) (e := none) (F := if b < f then f else b) (B := h) rfl rfl c] at k
        exact ⟨_, rfl, _, rfl, (by show 2 ≤ sizeLine; decide), fun q hq => k _ _ (Same.upd (Same.refl H) hq) ⟨q, rfl, hq, upd_same⟩⟩
    | some x =>
      refine iteT ⟨_, rfl, p, dx, _, rfl, hp, p, t, s, b, some x, rfl, hv, _, rfl, _, _, rfl, ?_⟩
      refine ⟨_, rfl, _, rfl, _, _, rfl, rfl, _, rfl, ifD (fun c => ?_) (fun c => ?_)⟩
      · rw [stM_le (b := b) (f := f) (h := h) (e := some x) (F := if b < f then f else b) (B := if h < x then h else x) rfl rfl c] at k
        exact k H _ (Same.refl H) rfl
      · rw [stM_gt (b := b) (f := f) (h := h) (e := some x) (F := if b < f then f else b) (B := if h < x then h else x) rfl rfl c] at k
        exact ⟨_, rfl, _, rfl, (by show 2 ≤ sizeLine; decide), fun q hq => k _ _ (Same.upd (Same.refl H) hq) ⟨q, rfl, hq, upd_same⟩⟩
theorem ok_urgent_stretch (T : Txt K mg A) : FnOk P w K mg base CX0 4 A.f_urgent_stretch A.d_urgent_stretch ["visit", "start", "end"] (sp_urgent_stretch K A) := by
  have G_Visit_shift := ok_Visit_shift (P := P) (w := w) (base := base) T
  have G_Visit_time := ok_Visit_time (P := P) (w := w) (base := base) T
  have G_stretch_from := ok_stretch_from (P := P) (w := w) (base := base) T
  refine T.F_urgent_stretch.ok sc_urgent_stretch (fun vs H Q E h => ?_) (fun cdv A0 outer s H vs Q E hr h => ?_)
  · obtain ⟨p, t, s, b, e, x, y, rfl, hv, k⟩ := h
    rfl
  · obtain ⟨p, t, s, b, e, x, y, rfl, hv, k⟩ := h
    refine ⟨_, (pss_one (ps_ret (pe_call G_stretch_from (hr.mono (by decide)) rfl T.m_stretch_from T.k_stretch_from T.b_stretch_from .nil pass0 (pa_cons (pv 0) (pa_cons (pe_op op_sub (pv 1) (pe_prop (pv 0) T.clVisit T.pr_Visit_shift G_Visit_shift (hr.mono (by decide)) T.b_Visit_shift .nil pass0 rfl)) (pa_cons (pe_op op_add (pe_op op_sub (pe_op op_sub (pv 2) (pe_prop (pv 0) T.clVisit T.pr_Visit_time G_Visit_time (hr.mono (by decide)) T.b_Visit_time .nil pass0 rfl)) (pe_prop (pv 0) T.clVisit T.pr_Visit_shift G_Visit_shift (hr.mono (by decide)) T.b_Visit_shift .nil pass0 rfl)) pe_int) pa_nil)))))), ?_⟩
    obtain ⟨dx, hp⟩ := id hv
    refine ⟨_, rfl, _, rfl, _, rfl, p, dx, _, rfl, hp, p, t, s, b, e, rfl, hv, _, _, rfl, rfl, ?_⟩
    refine ⟨_, rfl, _, rfl, p, dx, _, rfl, hp, p, t, s, b, e, rfl, hv, _, _, rfl, rfl, ?_⟩
    refine ⟨_, rfl, p, dx, _, rfl, hp, p, t, s, b, e, rfl, hv, _, _, rfl, rfl, _, _, rfl, rfl, ?_⟩
    exact ⟨p, t, s, b, e, _, _, rfl, hv, k⟩
theorem ok_placed_stretch (T : Txt K mg A) : FnOk P w K mg base CX0 4 A.f_placed_stretch A.d_placed_stretch ["visit", "tick"] (sp_placed_stretch K A) := by
  have G_Visit_shift := ok_Visit_shift (P := P) (w := w) (base := base) T
  have G_Visit_time := ok_Visit_time (P := P) (w := w) (base := base) T
  have G_stretch_from := ok_stretch_from (P := P) (w := w) (base := base) T
  refine T.F_placed_stretch.ok sc_placed_stretch (fun vs H Q E h => ?_) (fun cdv A0 outer s H vs Q E hr h => ?_)
  · obtain ⟨p, t, s, b, e, y, rfl, hv, k⟩ := h
    rfl
  · obtain ⟨p, t, s, b, e, y, rfl, hv, k⟩ := h
    refine ⟨_, (pss_one (ps_ret (pe_call G_stretch_from (hr.mono (by decide)) rfl T.m_stretch_from T.k_stretch_from T.b_stretch_from .nil pass0 (pa_cons (pv 0) (pa_cons (pe_op op_sub (pe_op op_add (pe_op op_sub (pv 1) (pe_prop (pv 0) T.clVisit T.pr_Visit_time G_Visit_time (hr.mono (by decide)) T.b_Visit_time .nil pass0 rfl)) pe_int) (pe_prop (pv 0) T.clVisit T.pr_Visit_shift G_Visit_shift (hr.mono (by decide)) T.b_Visit_shift .nil pass0 rfl)) (pa_cons (pe_op op_sub (pe_op op_add (pv 1) pe_int) (pe_prop (pv 0) T.clVisit T.pr_Visit_shift G_Visit_shift (hr.mono (by decide)) T.b_Visit_shift .nil pass0 rfl)) pa_nil)))))), ?_⟩
    obtain ⟨dx, hp⟩ := id hv
    refine ⟨_, rfl, _, rfl, _, rfl, p, dx, _, rfl, hp, p, t, s, b, e, rfl, hv, _, _, rfl, rfl, _, _, rfl, rfl, ?_⟩
    refine ⟨_, rfl, p, dx, _, rfl, hp, p, t, s, b, e, rfl, hv, _, _, rfl, rfl, ?_⟩
    refine ⟨_, rfl, _, _, rfl, rfl, _, rfl, p, dx, _, rfl, hp, p, t, s, b, e, rfl, hv, _, _, rfl, rfl, ?_⟩
    exact ⟨p, t, s, b, e, _, _, rfl, hv, k⟩
end
end VK


namespace VK
open PySem PySem.Spec PyProof.Rows L2 VM
/-- new pairs of ints -/
structure Duos (H : Hp) (xs : List V) (ps : List (Int × Int)) : Prop where
  len : xs.length = ps.length
  at_ : ∀ (i : Nat) (x : V) (p : Int × Int), xs[i]? = some x → ps[i]? = some p → ∃ t, x = .ref t ∧ H t = some (.tup [.int p.1, .int p.2])
theorem Duos.same {H H' : Hp} {xs : List V} {ps : List (Int × Int)} (d : Duos H xs ps) (s : Same H H') : Duos H' xs ps :=
  ⟨d.len, fun i x p h1 h2 => let ⟨t, e, h⟩ := d.at_ i x p h1 h2; ⟨t, e, s _ _ h⟩⟩
theorem Duos.get {H : Hp} {xs : List V} {ps : List (Int × Int)} (d : Duos H xs ps) {i : Nat} {x : V} (h : xs[i]? = some x) : ∃ t p, ps[i]? = some p ∧ x = .ref t ∧ H t = some (.tup [.int p.1, .int p.2]) := by
  have hi : i < ps.length := by rw [← d.len]; exact (List.getElem?_eq_some_iff.mp h).1
  obtain ⟨t, e, q⟩ := d.at_ i x _ h (List.getElem?_eq_getElem hi)
  exact ⟨t, _, List.getElem?_eq_getElem hi, e, q⟩
/-- no length is too great -/
def Bd (ps : List (Int × Int)) : Prop := ∀ p ∈ ps, -1000000 ≤ p.1 ∧ p.1 ≤ 1000000 ∧ -1000000 ≤ p.2 ∧ p.2 ≤ 1000000
def costM (f : Int → Int) (a b : Int) : Int := if b > a then f (b - a) else 0
def costs (f : Int → Int) (ps : List (Int × Int)) : List Int := ps.map fun p => costM f p.1 p.2
def totM (f : Int → Int) (ps : List (Int × Int)) : Int := (costs f ps).sum
theorem costs_take {f : Int → Int} {ps : List (Int × Int)} {i : Nat} {q : Int × Int} (h : ps[i]? = some q) : (costs f (ps.take (i + 1))).map V.int = (costs f (ps.take i)).map V.int ++ [.int (costM f q.1 q.2)] := by
  obtain ⟨hi, e⟩ := List.getElem?_eq_some_iff.mp h
  unfold costs
  rw [List.take_add_one, h, List.map_append, List.map_append]
  rfl
/-- a curve that may be asked -/
structure Crv (A : Ad) (H : Hp) (x : Addr) (cs : List Int) (p g : Int) : Prop where
  at_ : CrvAt A H x cs p g
  p0 : 0 < p
  pn : p ≤ cs.length
  n : cs.length ≤ 1000
theorem Crv.same {A : Ad} {H H' : Hp} {x : Addr} {cs : List Int} {p g : Int} (h : Crv A H x cs p g) (s : Same H H') : Crv A H' x cs p g := ⟨h.at_.same s, h.p0, h.pn, h.n⟩
def sp_cost (K : PySem.W.Frag) (A : Ad) : Sp := fun vs H Q _ => ∃ (x : Addr) (cs : List Int) (p g a b : Int), vs = [.ref x, .int a, .int b] ∧ Crv A H x cs p g ∧ b - a < 2 ^ 62 ∧ Q (.int (costM (cvAt cs p g) a b)) H
def sp_total_cost (K : PySem.W.Frag) (A : Ad) : Sp := fun vs H Q _ => ∃ (x l : Addr) (cs : List Int) (p g : Int) (xs : List V) (ps : List (Int × Int)), vs = [.ref x, .ref l] ∧ Crv A H x cs p g ∧ SqL K H l xs ∧ Duos H xs ps ∧ Bd ps ∧ ps.length ≤ 1000 ∧
  ∀ H', Same H H' → Q (.int (totM (cvAt cs p g) ps)) H'
section
variable {P : Program} {w : World} {K : PySem.W.Frag} {mg : Str → Option Value} {base : Heap} {A : Ad}
theorem ok_cost (T : Txt K mg A) : FnOk P w K mg base CX0 4 A.f_cost A.d_cost ["curve", "first", "behind"] (sp_cost K A) := by
  have G_C_at := ok_C_at (P := P) (w := w) (base := base) T
  refine T.F_cost.ok sc_cost (fun vs H Q E h => ?_) (fun cdv A0 outer s H vs Q E hr h => ?_)
  · obtain ⟨x, cs, p, g, a, b, rfl, c, hb, q⟩ := h
    rfl
  · obtain ⟨x, cs, p, g, a, b, rfl, c, hb, q⟩ := h
    refine ⟨_, (pss_cons (ps_if (pt_cmpR op_gt (pv 2) (pv 1) (nomark _)) (pss_one (ps_ret (pe_meth (pv 0) T.cl T.me_at G_C_at (hr.mono (by decide)) T.b_C_at .nil pass0 (pa_cons (pe_op op_sub (pv 2) (pv 1)) pa_nil)))) pss_nil)
    (pss_one (ps_ret pe_int))), ?_⟩
    refine ⟨_, rfl, _, rfl, _, _, rfl, rfl, _, rfl, ifD (fun h => ?_) (fun h => ?_)⟩
    · rw [show costM (cvAt cs p g) a b = cvAt cs p g (b - a) from if_pos h] at q
      obtain ⟨⟨dx, lc, w, h1, h2⟩, p0, pn, n1⟩ := id c
      refine ⟨_, rfl, x, dx, _, rfl, h1, cfs_no _ _ _ (by decide +kernel) (by decide +kernel) (by decide +kernel), _, rfl, _, rfl, _, _, rfl, rfl, x, cs, p, g, _, rfl, c.at_, p0, pn, n1, by omega, hb, q⟩
    · rw [show costM (cvAt cs p g) a b = 0 from if_neg h] at q
      exact q
theorem ok_total_cost (T : Txt K mg A) : FnOk P w K mg base CX0 5 A.f_total_cost A.d_total_cost ["curve", "matches"] (sp_total_cost K A) := by
  have G_cost := ok_cost (P := P) (w := w) (base := base) T
  refine T.F_total_cost.ok sc_total_cost (fun vs H Q E h => ?_) (fun cdv A0 outer s H vs Q E hr h => ?_)
  · obtain ⟨x, l, cs, p, g, xs, ps, rfl, c, hl, d, bd, hn, k⟩ := h
    rfl
  · obtain ⟨x, l, cs, p, g, xs, ps, rfl, c, hl, d, bd, hn, k⟩ := h
    refine ⟨_, (pss_one (ps_ret (pe_callB (r := rSum K) (cr_sum rfl) (by rfl) T.sum (by decide +kernel) (pa_cons (pe_lc (own := [("first", 2), ("behind", 3)]) (g := gTup K 2 (gCons (gName 2) (gCons (gName 3) gNil))) (tt := tYes) rfl sc_total_cost.nd (pi_list (pv 1)) (blkOk_by (own := [("first", 2), ("behind", 3)]) (N := ["curve", "matches", "first", "behind"]) (sc := defScope s_total_cost) (by decide +kernel)) (fun _ _ _ _ _ => pg_tup rfl (pgs_cons (pg_name (i := 2) sc_total_cost.nd rfl (by first | exact Or.inl rfl | exact Or.inr rfl)) (pgs_cons (pg_name (i := 3) sc_total_cost.nd rfl (by first | exact Or.inl rfl | exact Or.inr rfl)) pgs_nil))) (fun _ _ _ _ _ => pts_nil) (fun _ _ _ _ _ => (pe_call G_cost (hr.mono (by decide)) rfl T.m_cost T.k_cost T.b_cost .nil pass0 (pa_cons (pv 0) (pa_cons (pv 2) (pa_cons (pv 3) pa_nil)))))) pa_nil)))), ?_⟩
    have cl : ∀ i, (costs (cvAt cs p g) (ps.take i)).length ≤ 1000 := fun i => by unfold costs; rw [List.length_map, List.length_take]; omega
    refine ⟨_, rfl, l, rfl, ⟨xs, hl⟩, fun D hD => lc_list (xs := xs) (fun i H1 => H1 D = some (.lst ((costs (cvAt cs p g) (ps.take i)).map V.int)) ∧ Same H H1) ⟨upd_same, Same.upd (Same.refl _) hD⟩ (fun i H1 _ q => q.2.seq hl) ?_ ?_⟩
    · rintro i y H1 hy ⟨hD1, s1⟩
      obtain ⟨t, q, eq, rfl, ht⟩ := d.get hy
      have bq := bd q (List.mem_of_getElem? eq)
      refine ⟨t, _, rfl, SqT.of (s1 _ _ ht), rfl, ?_⟩
      refine ⟨_, _, rfl, _, _, rfl, rfl, rfl, _, rfl, _, rfl, _, rfl, x, cs, p, g, q.1, q.2, rfl, c.same s1, by omega, _, hD1, small (by rw [List.length_map]; exact Nat.le_trans (cl i) (by decide)), ?_, Same.upd s1 hD⟩
      rw [upd_same, costs_take eq]
    · rintro H1 ⟨hD1, s1⟩
      rw [d.len, List.take_length] at hD1
      exact ⟨D, _, rfl, SqL.of hD1, k H1 s1⟩
end
end VK


namespace VK
open PySem PySem.Spec PyProof.Rows L2 VM
/-- the firsts with the behinds in this order -/
def pick (ps : List (Int × Int)) (o : List Nat) : List (Int × Int) := (ps.map (·.1)).zip (o.map fun k => (ps.map (·.2)).getD k 0)
def bestL (f : Int → Int) (ps : List (Int × Int)) (os : List (List Nat)) : List (Int × Int) := os.foldl (fun b o => if totM f (pick ps o) < totM f b then pick ps o else b) ps
def ordN (n : Nat) : List (List Nat) := (VPm.ords n).map (·.1)
def bestM (f : Int → Int) (ps : List (Int × Int)) : List (Int × Int) := bestL f ps (ordN ps.length)
theorem bestL_take {f : Int → Int} {ps : List (Int × Int)} {os : List (List Nat)} {i : Nat} {o : List Nat} (h : os[i]? = some o) :
    bestL f ps (os.take (i + 1)) = if totM f (pick ps o) < totM f (bestL f ps (os.take i)) then pick ps o else bestL f ps (os.take i) := by
  unfold bestL
  rw [List.take_add_one, h, List.foldl_append]
  rfl
theorem pick_length {ps : List (Int × Int)} {o : List Nat} (h : o.length = ps.length) : (pick ps o).length = ps.length := by
  unfold pick
  rw [List.length_zip, List.length_map, List.length_map, h, Nat.min_self]
theorem pick_get {ps : List (Int × Int)} {o : List Nat} {i : Nat} {q : Int × Int} (h : (pick ps o)[i]? = some q) : ∃ p k, ps[i]? = some p ∧ o[i]? = some k ∧ q = (p.1, (ps.map (·.2)).getD k 0) := by
  unfold pick at h
  obtain ⟨a, b⟩ := List.getElem?_zip_eq_some.mp h
  rw [List.getElem?_map] at a b
  cases ha : ps[i]? with
  | none => rw [ha] at a; cases a
  | some p =>
    cases hb : o[i]? with
    | none => rw [hb] at b; cases b
    | some k =>
      rw [ha] at a
      rw [hb] at b
      refine ⟨p, k, rfl, rfl, ?_⟩
      have a' : p.1 = q.1 := by simpa using a
      have b' : (ps.map (·.2)).getD k 0 = q.2 := by simpa using b
      rw [a', b']
theorem Bd.pick {ps : List (Int × Int)} {o : List Nat} (h : Bd ps) : Bd (pick ps o) := by
  intro q hq
  obtain ⟨i, hi⟩ := List.mem_iff_getElem?.mp hq
  obtain ⟨p, k, hp, hk, rfl⟩ := pick_get hi
  have a := h p (List.mem_of_getElem? hp)
  refine ⟨a.1, a.2.1, ?_⟩
  show -1000000 ≤ (ps.map (·.2)).getD k 0 ∧ (ps.map (·.2)).getD k 0 ≤ 1000000
  rw [List.getD_eq_getElem?_getD, List.getElem?_map]
  cases e : ps[k]? with
  | none => exact ⟨by decide, by decide⟩
  | some z => exact (h z (List.mem_of_getElem? e)).2.2
theorem Bd.best {f : Int → Int} {ps : List (Int × Int)} (h : Bd ps) : ∀ os, Bd (bestL f ps os) ∧ ∀ n, (∀ o ∈ os, o.length = n) → ps.length = n → (bestL f ps os).length = n := by
  intro os
  have key : ∀ (os : List (List Nat)) (b : List (Int × Int)), Bd b → Bd (os.foldl (fun b o => if totM f (VK.pick ps o) < totM f b then VK.pick ps o else b) b) ∧ ∀ n, (∀ o ∈ os, o.length = n) → ps.length = n → b.length = n → (os.foldl (fun b o => if totM f (VK.pick ps o) < totM f b then VK.pick ps o else b) b).length = n := by
    intro os
    induction os with
    | nil => exact fun b hb => ⟨hb, fun n _ _ e => e⟩
    | cons o os ih =>
      intro b hb
      have hb' : Bd (if totM f (VK.pick ps o) < totM f b then VK.pick ps o else b) := by
        split
        · exact h.pick
        · exact hb
      refine ⟨(ih _ hb').1, fun n ho hp e => (ih _ hb').2 n (fun o' h' => ho o' (List.mem_cons_of_mem _ h')) hp ?_⟩
      split
      · rw [pick_length (by rw [ho o (List.mem_cons_self ..), hp]), hp]
      · exact e
  exact ⟨(key os ps h).1, fun n ho hp => (key os ps h).2 n ho hp hp⟩
def sp_least_matching (K : PySem.W.Frag) (A : Ad) : Sp := fun vs H Q _ => ∃ (x l : Addr) (cs : List Int) (p g : Int) (xs : List V) (ps : List (Int × Int)), vs = [.ref x, .ref l] ∧ Crv A H x cs p g ∧ SqL K H l xs ∧ Duos H xs ps ∧ Bd ps ∧ ps.length ≤ 4 ∧
  ∀ H' q ys, Same H H' → H q = none → H' q = some (.lst ys) → Duos H' ys (bestM (cvAt cs p g) ps) → Q (.ref q) H'
def sp_least_cost (K : PySem.W.Frag) (A : Ad) : Sp := fun vs H Q _ => ∃ (x l : Addr) (cs : List Int) (p g : Int) (xs : List V) (ps : List (Int × Int)), vs = [.ref x, .ref l] ∧ Crv A H x cs p g ∧ SqL K H l xs ∧ Duos H xs ps ∧ Bd ps ∧ (∀ p ∈ ps, p.1 < p.2) ∧ ps.length ≤ 4 ∧
  ∀ H', Same H H' → Q (.int (totM (cvAt cs p g) (bestM (cvAt cs p g) ps))) H'
section
variable {P : Program} {w : World} {K : PySem.W.Frag} {mg : Str → Option Value} {base : Heap} {A : Ad}
theorem ok_least_matching (T : Txt K mg A) : FnOk P w K mg base CX0 6 A.f_least_matching A.d_least_matching ["curve", "stretches"] (sp_least_matching K A) := by
  have G_total_cost := ok_total_cost (P := P) (w := w) (base := base) T
  refine T.F_least_matching.ok sc_least_matching (fun vs H Q E h => ?_) (fun cdv A0 outer s H vs Q E hr h => ?_)
  · obtain ⟨x, l, cs, p, g, xs, ps, rfl, c, hl, d, bd, hn, k⟩ := h
    rfl
  · obtain ⟨x, l, cs, p, g, xs, ps, rfl, c, hl, d, bd, hn, k⟩ := h
    refine ⟨_, (pss_cons (ps_setLc (i := 2) (own := [("first", 9), ("_", 10)]) (g := gTup K 2 (gCons (gName 9) (gCons (gName 10) gNil))) (tt := tYes) rfl sc_least_matching.nd rfl rfl (sw_true rfl rfl rfl (by decide +kernel)) (pi_list (pv 1)) (blkOk_by (own := [("first", 9), ("_", 10)]) (N := ["curve", "stretches", "firsts", "behinds", "best", "least", "sequence", "matches", "total", "first", "_", "behind"]) (sc := defScope s_least_matching) (by decide +kernel)) (fun _ _ _ _ _ => pg_tup rfl (pgs_cons (pg_name (i := 9) sc_least_matching.nd rfl (by first | exact Or.inl rfl | exact Or.inr rfl)) (pgs_cons (pg_name (i := 10) sc_least_matching.nd rfl (by first | exact Or.inl rfl | exact Or.inr rfl)) pgs_nil))) (fun _ _ _ _ _ => pts_nil) (fun _ _ _ _ _ => (pv 9)))
    (pss_cons (ps_setLc (i := 3) (own := [("_", 10), ("behind", 11)]) (g := gTup K 2 (gCons (gName 10) (gCons (gName 11) gNil))) (tt := tYes) rfl sc_least_matching.nd rfl rfl (sw_true rfl rfl rfl (by decide +kernel)) (pi_list (pv 1)) (blkOk_by (own := [("_", 10), ("behind", 11)]) (N := ["curve", "stretches", "firsts", "behinds", "best", "least", "sequence", "matches", "total", "first", "_", "behind"]) (sc := defScope s_least_matching) (by decide +kernel)) (fun _ _ _ _ _ => pg_tup rfl (pgs_cons (pg_name (i := 10) sc_least_matching.nd rfl (by first | exact Or.inl rfl | exact Or.inr rfl)) (pgs_cons (pg_name (i := 11) sc_least_matching.nd rfl (by first | exact Or.inl rfl | exact Or.inr rfl)) pgs_nil))) (fun _ _ _ _ _ => pts_nil) (fun _ _ _ _ _ => (pv 11)))
    (pss_cons (ps_set (i := 4) sc_least_matching.nd rfl (by first | exact Or.inl rfl | exact Or.inr rfl) (pe_callTy (r := VG.rListOf K) VG.call_listOf (by rfl) T.list (by decide +kernel) (pa_cons (pv 1) pa_nil)))
    (pss_cons (ps_set (i := 5) sc_least_matching.nd rfl (by first | exact Or.inl rfl | exact Or.inr rfl) (pe_call G_total_cost (hr.mono (by decide)) rfl T.m_total_cost T.k_total_cost T.b_total_cost .nil pass0 (pa_cons (pv 0) (pa_cons (pv 4) pa_nil))))
    (pss_cons (ps_for PassesOwn.never rfl (VPm.pi_pm (by rfl) T.typ_permutations (pa_cons (pv 3) pa_nil)) (pg_name (i := 6) sc_least_matching.nd rfl (by first | exact Or.inl rfl | exact Or.inr rfl))
      (pss_cons (ps_set (i := 7) sc_least_matching.nd rfl (by first | exact Or.inl rfl | exact Or.inr rfl) (VLz.pe_listZip (by rfl) T.list (by rfl) T.zip rfl (pa_cons (pv 2) (pa_cons (pv 6) pa_nil))))
    (pss_cons (ps_set (i := 8) sc_least_matching.nd rfl (by first | exact Or.inl rfl | exact Or.inr rfl) (pe_call G_total_cost (hr.mono (by decide)) rfl T.m_total_cost T.k_total_cost T.b_total_cost .nil pass0 (pa_cons (pv 0) (pa_cons (pv 7) pa_nil))))
    (pss_one (ps_if (pt_cmpR op_lt (pv 8) (pv 5) (nomark _)) (pss_cons (ps_set (i := 4) sc_least_matching.nd rfl (by first | exact Or.inl rfl | exact Or.inr rfl) (pv 7))
    (pss_one (ps_set (i := 5) sc_least_matching.nd rfl (by first | exact Or.inl rfl | exact Or.inr rfl) (pv 8)))) pss_nil)))))
    (pss_one (ps_ret (pv 4)))))))), ?_⟩
    refine ⟨_, rfl, l, rfl, ⟨xs, hl⟩, fun D hD => lc_list (xs := xs) (fun i H1 => H1 D = some (.lst (((ps.take i).map (·.1)).map V.int)) ∧ Same H H1) ⟨upd_same, Same.upd (Same.refl _) hD⟩ (fun i H1 _ q => q.2.seq hl) ?_ ?_⟩
    · rintro i y H1 hy ⟨hD1, s1⟩
      obtain ⟨t, q, eq, rfl, ht⟩ := d.get hy
      refine ⟨t, _, rfl, SqT.of (s1 _ _ ht), rfl, ?_⟩
      refine ⟨_, _, rfl, _, _, rfl, rfl, rfl, _, rfl, _, hD1, small (by rw [List.length_map, List.length_map, List.length_take]; omega), ?_, Same.upd s1 hD⟩
      rw [upd_same, List.take_add_one, eq, List.map_append, List.map_append]
      rfl
    rintro H1 ⟨hD1, s1⟩
    rw [d.len, List.take_length] at hD1
    refine ⟨_, rfl, l, rfl, ⟨xs, s1.seq hl⟩, fun D2 hD2 => lc_list (xs := xs) (fun i H2 => H2 D2 = some (.lst (((ps.take i).map (·.2)).map V.int)) ∧ Same H1 H2) ⟨upd_same, Same.upd (Same.refl _) hD2⟩ (fun i H2 _ q => q.2.seq (s1.seq hl)) ?_ ?_⟩
    · rintro i y H2 hy ⟨hD3, s2⟩
      obtain ⟨t, q, eq, rfl, ht⟩ := d.get hy
      refine ⟨t, _, rfl, SqT.of (s2 _ _ (s1 _ _ ht)), rfl, ?_⟩
      refine ⟨_, _, rfl, _, _, rfl, rfl, rfl, _, rfl, _, hD3, small (by rw [List.length_map, List.length_map, List.length_take]; omega), ?_, Same.upd s2 hD2⟩
      rw [upd_same, List.take_add_one, eq, List.map_append, List.map_append]
      rfl
    rintro H2 ⟨hD3, s2⟩
    rw [d.len, List.take_length] at hD3
    have hD1 := s2 _ _ hD1
    have s02 := s1.trans s2
    refine ⟨_, rfl, l, xs, rfl, .inl (s02.seq hl), fun b hb => ?_⟩
    have s3 : Same H2 (upd H2 b (.lst xs)) := Same.upd (Same.refl _) hb
    have hb0 : H b = none := s02.free hb
    have nDb : D ≠ b := ne_of_none hD1 hb
    have nD2b : D2 ≠ b := ne_of_none hD3 hb
    refine ⟨_, rfl, _, rfl, x, b, cs, p, g, xs, ps, rfl, c.same (s02.trans s3), SqL.of upd_same, d.same (s02.trans s3), bd, by omega, fun H3 s4 => ?_⟩
    have hb3 := s4 _ _ (show upd H2 b (.lst xs) b = some (.lst xs) from upd_same)
    have hD1' := s4 _ _ (s3 _ _ hD1)
    have hD3' := s4 _ _ (s3 _ _ hD3)
    have s03 := (s02.trans s3).trans s4
    have el : ((ps.map (·.2)).map V.int).length = ps.length := by rw [List.length_map, List.length_map]
    have ol : (ordN ps.length).length = (VPm.ords ((ps.map (·.2)).map V.int).length).length := by unfold ordN; rw [List.length_map, el]
    refine ⟨_, rfl, D2, _, rfl, SqL.of hD3', by rw [el]; omega, ?_⟩
    refine VPm.for_pm (vs := (ps.map (·.2)).map V.int) (fun i σ H' => ∃ (b : Addr) (ys : List V) (v6 v7 v8 : Option V), σ = [some (.ref x), some (.ref l), some (.ref D), some (.ref D2), some (.ref b), some (.int (totM (cvAt cs p g) (bestL (cvAt cs p g) ps ((ordN ps.length).take i)))), v6, v7, v8, none, none, none] ∧
      H b = none ∧ H' b = some (.lst ys) ∧ Duos H' ys (bestL (cvAt cs p g) ps ((ordN ps.length).take i)) ∧ Same H3 H') ⟨b, xs, _, _, _, rfl, hb0, hb3, d.same s03, Same.refl _⟩ ?_ ?_
    · rintro i o T σ H' eo ⟨bb, ys, v6, v7, v8, rfl, hbb0, hbb, db, sb⟩ hT
      rw [el] at eo
      obtain ⟨lo, klt⟩ := VPm.ord_lt ps.length hn i o eo
      have eN : (ordN ps.length)[i]? = some o.1 := by unfold ordN; rw [List.getElem?_map, eo]; rfl
      have sT : Same H' (upd H' T (.tup (o.1.map fun k => ((ps.map (·.2)).map V.int).getD k .non))) := Same.upd (Same.refl _) hT
      have s3T := sb.trans sT
      refine ⟨_, rfl, _, rfl, D, T, (ps.map (·.1)).map V.int, _, rfl, SqL.of (s3T _ _ hD1'), SqT.of upd_same, by simp only [List.length_map]; omega, by simp only [List.length_map]; omega, fun D4 Ts H4 s4T' hD40 hTs hD4 lTs hq => ?_⟩
      have s4T : Same (upd H' T (.tup (o.1.map fun k => ((ps.map (·.2)).map V.int).getD k .non))) H4 := s4T'
      have lTs' : Ts.length = ps.length := by rw [lTs, List.length_map, List.length_map]
      have s34 : Same H3 H4 := s3T.trans s4T
      have dp : Duos H4 (Ts.map V.ref) (pick ps o.1) := by
        refine ⟨by rw [List.length_map, lTs', pick_length lo], fun j y q h1 h2 => ?_⟩
        obtain ⟨p', k', hp', hk', rfl⟩ := pick_get h2
        rw [List.getElem?_map] at h1
        cases hTj : Ts[j]? with
        | none => rw [hTj] at h1; cases h1
        | some T' =>
          rw [hTj] at h1
          cases h1
          have kk : k' < ps.length := klt k' (List.mem_of_getElem? hk')
          refine ⟨T', rfl, hq j T' _ _ hTj (by rw [List.getElem?_map, List.getElem?_map, hp']; rfl) ?_⟩
          rw [List.getElem?_map, hk']
          show some (((ps.map (·.2)).map V.int).getD k' .non) = some (.int ((ps.map (·.2)).getD k' 0))
          rw [List.getD_eq_getElem?_getD, List.getD_eq_getElem?_getD, List.getElem?_map, List.getElem?_map, List.getElem?_eq_getElem kk]
          rfl
      refine ⟨_, rfl, _, rfl, x, D4, cs, p, g, Ts.map V.ref, pick ps o.1, rfl, c.same (s03.trans s34), SqL.of hD4, dp, bd.pick, by rw [pick_length lo]; omega, fun H5 s5 => ?_⟩
      have s35 := s34.trans s5
      refine ⟨_, rfl, _, rfl, _, _, rfl, rfl, _, rfl, ifD (fun h => ?_) (fun h => ?_)⟩
      · have e := bestL_take (f := cvAt cs p g) (ps := ps) eN
        rw [if_pos h] at e
        rw [e]
        refine ⟨_, rfl, _, rfl, D4, _, _, _, _, rfl, ?_, s5 _ _ hD4, dp.same s5, s35⟩
        exact (s03.trans s3T).free hD40
      · have e := bestL_take (f := cvAt cs p g) (ps := ps) eN
        rw [if_neg h] at e
        rw [e]
        exact ⟨bb, ys, _, _, _, rfl, hbb0, (sT.trans (s4T.trans s5)) _ _ hbb, db.same (sT.trans (s4T.trans s5)), s35⟩
    · rintro σ H' ⟨bb, ys, v6, v7, v8, rfl, hbb0, hbb, db, sb⟩
      rw [← ol, List.take_length] at db
      exact ⟨_, rfl, k H' bb ys (s03.trans sb) hbb0 hbb db⟩
theorem ok_least_cost (T : Txt K mg A) : FnOk P w K mg base CX0 7 A.f_least_cost A.d_least_cost ["curve", "stretches"] (sp_least_cost K A) := by
  have G_C_at := ok_C_at (P := P) (w := w) (base := base) T
  have G_least_matching := ok_least_matching (P := P) (w := w) (base := base) T
  have G_total_cost := ok_total_cost (P := P) (w := w) (base := base) T
  refine T.F_least_cost.ok sc_least_cost (fun vs H Q E h => ?_) (fun cdv A0 outer s H vs Q E hr h => ?_)
  · obtain ⟨x, l, cs, p, g, xs, ps, rfl, c, hl, d, bd, pos, hn, k⟩ := h
    rfl
  · obtain ⟨x, l, cs, p, g, xs, ps, rfl, c, hl, d, bd, pos, hn, k⟩ := h
    refine ⟨_, (pss_cons (ps_if (pt_cmpR op_eq (pe_callB (r := VG.rLen K) VG.call_len (by rfl) T.len (by decide +kernel) (pa_cons (pv 1) pa_nil)) pe_int (nomark _)) (pss_one (ps_ret pe_int)) pss_nil)
    (pss_cons (ps_if (pt_cmpR op_eq (pe_callB (r := VG.rLen K) VG.call_len (by rfl) T.len (by decide +kernel) (pa_cons (pv 1) pa_nil)) pe_int (nomark _)) (pss_cons (ps_asg (pe_ix (r := rIxL K) ix_list (pv 1) pe_int (fun _ _ => rfl)) (pg_tup rfl (pgs_cons (pg_name (i := 2) sc_least_cost.nd rfl (by first | exact Or.inl rfl | exact Or.inr rfl)) (pgs_cons (pg_name (i := 3) sc_least_cost.nd rfl (by first | exact Or.inl rfl | exact Or.inr rfl)) pgs_nil))))
    (pss_one (ps_ret (pe_meth (pv 0) T.cl T.me_at G_C_at (hr.mono (by decide)) T.b_C_at .nil pass0 (pa_cons (pe_op op_sub (pv 3) (pv 2)) pa_nil))))) pss_nil)
    (pss_one (ps_ret (pe_call G_total_cost (hr.mono (by decide)) rfl T.m_total_cost T.k_total_cost T.b_total_cost .nil pass0 (pa_cons (pv 0) (pa_cons (pe_call G_least_matching (hr.mono (by decide)) rfl T.m_least_matching T.k_least_matching T.b_least_matching .nil pass0 (pa_cons (pv 0) (pa_cons (pv 1) pa_nil))) pa_nil))))))), ?_⟩
    refine ⟨_, rfl, l, xs, rfl, .inl hl, rfl, _, rfl, ifEq (fun h => ?_) (fun h => ?_)⟩
    · have e : ps = [] := List.eq_nil_of_length_eq_zero (by rw [← d.len]; omega)
      subst e
      exact k H (Same.refl H)
    refine ⟨_, rfl, l, xs, rfl, .inl hl, rfl, _, rfl, ifEq (fun h1 => ?_) (fun h1 => ?_)⟩
    · have l1 : ps.length = 1 := by rw [← d.len]; omega
      obtain ⟨q0, e⟩ : ∃ q0, ps = [q0] := by
        cases ps with
        | nil => cases l1
        | cons a r =>
          cases r with
          | nil => exact ⟨a, rfl⟩
          | cons b r => simp at l1
      subst e
      have hx0 : xs[0]? = some xs[0] := List.getElem?_eq_getElem (by have := d.len; simp at this; omega)
      obtain ⟨t, q', e1, e2, ht⟩ := d.get hx0
      cases e1
      rw [e2] at hx0
      have pq := pos q0 (List.mem_cons_self ..)
      have bq := bd q0 (List.mem_cons_self ..)
      obtain ⟨⟨dx, lc, w, h1', h2'⟩, p0, pn, n1⟩ := id c
      have et : totM (cvAt cs p g) (bestM (cvAt cs p g) [q0]) = cvAt cs p g (q0.2 - q0.1) := by
        have e0 : pick [q0] [0] = [q0] := rfl
        have eb : bestM (cvAt cs p g) [q0] = [q0] := by
          show (if totM (cvAt cs p g) (pick [q0] [0]) < totM (cvAt cs p g) [q0] then pick [q0] [0] else [q0]) = [q0]
          rw [e0, if_neg (Int.lt_irrefl _)]
        rw [eb]
        show (costM (cvAt cs p g) q0.1 q0.2) + 0 = _
        rw [Int.add_zero]
        exact if_pos pq
      rw [et] at k
      refine ⟨_, rfl, l, xs, 0, .ref t, rfl, rfl, hl, at_of (j := 0) rfl hx0, ?_⟩
      refine ⟨t, _, rfl, SqT.of ht, rfl, _, _, rfl, _, _, rfl, rfl, ?_⟩
      exact ⟨_, rfl, x, dx, _, rfl, h1', cfs_no _ _ _ (by decide +kernel) (by decide +kernel) (by decide +kernel), _, rfl, _, rfl, _, _, rfl, rfl, x, cs, p, g, _, rfl, c.at_, p0, pn, n1, by omega, by omega, k H (Same.refl H)⟩
    · have fl : ∀ o ∈ ordN ps.length, o.length = ps.length := fun o ho => by
        unfold ordN at ho
        obtain ⟨a, ha, rfl⟩ := List.mem_map.mp ho
        obtain ⟨i, hi⟩ := List.mem_iff_getElem?.mp ha
        exact (VPm.ord_lt ps.length hn i a hi).1
      have bb := bd.best (f := cvAt cs p g) (ordN ps.length)
      refine ⟨_, rfl, _, rfl, _, rfl, x, l, cs, p, g, xs, ps, rfl, c, hl, d, bd, hn, fun H1 q ys s1 hq0 hq dq => ?_⟩
      exact ⟨x, q, cs, p, g, ys, _, rfl, c.same s1, SqL.of hq, dq, bb.1, by rw [show bestM (cvAt cs p g) ps = bestL (cvAt cs p g) ps (ordN ps.length) from rfl, bb.2 _ fl rfl]; omega, fun H2 s2 => k H2 (s1.trans s2)⟩
end
end VK


namespace VK
open PySem PySem.Spec PyProof.Rows L2 VM
theorem get_snoc {α : Type} {xs : List α} {y x : α} {i : Nat} (h : (xs ++ [y])[i]? = some x) : (i < xs.length ∧ xs[i]? = some x) ∨ (i = xs.length ∧ x = y) := by
  by_cases hi : i < xs.length
  · rw [List.getElem?_append_left hi] at h
    exact .inl ⟨hi, h⟩
  · have hl := (List.getElem?_eq_some_iff.mp h).1
    rw [List.length_append] at hl
    have z : [y].length = 1 := rfl
    have e : i = xs.length := by omega
    subst e
    rw [List.getElem?_append_right (Nat.le_refl _), Nat.sub_self] at h
    cases h
    exact .inr ⟨rfl, rfl⟩
theorem Duos.snoc {H : Hp} {xs : List V} {ps : List (Int × Int)} {t : Addr} {a b : Int} (d : Duos H xs ps) (h : H t = some (.tup [.int a, .int b])) : Duos H (xs ++ [.ref t]) (ps ++ [(a, b)]) := by
  refine ⟨by rw [List.length_append, List.length_append, d.len]; rfl, fun i x p h1 h2 => ?_⟩
  rcases get_snoc h1 with ⟨l1, h1⟩ | ⟨l1, rfl⟩
  · rcases get_snoc h2 with ⟨l2, h2⟩ | ⟨l2, rfl⟩
    · exact d.at_ i x p h1 h2
    · have := d.len; omega
  · rcases get_snoc h2 with ⟨l2, h2⟩ | ⟨l2, rfl⟩
    · have := d.len; omega
    · exact ⟨t, rfl, h⟩
/-- a pair, or None -/
def Opt (H : Hp) (v : V) : Option (Int × Int) → Prop
  | none => v = .non
  | some (a, b) => ∃ t, v = .ref t ∧ H t = some (.tup [.int a, .int b])
theorem Opt.same {H H' : Hp} {v : V} {o : Option (Int × Int)} (h : Opt H v o) (s : Same H H') : Opt H' v o := by
  cases o with
  | none => exact h
  | some z =>
    obtain ⟨t, e, h⟩ := h
    exact ⟨t, e, s _ _ h⟩
theorem Duo.opt {H H' : Hp} {v : V} {o : Option (Int × Int)} (h : Duo H H' v o) : Opt H' v o := by
  cases o with
  | none => exact h
  | some z =>
    obtain ⟨t, e, _, h⟩ := h
    exact ⟨t, e, h⟩
structure Opts (H : Hp) (xs : List V) (os : List (Option (Int × Int))) : Prop where
  len : xs.length = os.length
  at_ : ∀ (i : Nat) (x : V) (o : Option (Int × Int)), xs[i]? = some x → os[i]? = some o → Opt H x o
theorem Opts.same {H H' : Hp} {xs : List V} {os : List (Option (Int × Int))} (d : Opts H xs os) (s : Same H H') : Opts H' xs os := ⟨d.len, fun i x o h1 h2 => (d.at_ i x o h1 h2).same s⟩
theorem Opts.nil {H : Hp} : Opts H [] [] := ⟨rfl, fun i x o h => by simp at h⟩
theorem Duos.nil {H : Hp} : Duos H [] [] := ⟨rfl, fun i x o h => by simp at h⟩
theorem Opts.snoc {H : Hp} {xs : List V} {os : List (Option (Int × Int))} {v : V} {o : Option (Int × Int)} (d : Opts H xs os) (h : Opt H v o) : Opts H (xs ++ [v]) (os ++ [o]) := by
  refine ⟨by rw [List.length_append, List.length_append, d.len]; rfl, fun i x p h1 h2 => ?_⟩
  rcases get_snoc h1 with ⟨l1, h1⟩ | ⟨l1, rfl⟩
  · rcases get_snoc h2 with ⟨l2, h2⟩ | ⟨l2, rfl⟩
    · exact d.at_ i x p h1 h2
    · have := d.len; omega
  · rcases get_snoc h2 with ⟨l2, h2⟩ | ⟨l2, rfl⟩
    · have := d.len; omega
    · exact h
/-- pairs stay when a list is written -/
theorem Opt.upd {H : Hp} {D : Addr} {zs us : List V} {v : V} {o : Option (Int × Int)} (h : Opt H v o) (hD : H D = some (.lst zs)) : Opt (upd H D (.lst us)) v o := by
  cases o with
  | none => exact h
  | some z =>
    obtain ⟨t, e, h⟩ := h
    exact ⟨t, e, by rw [upd_ne (fun q => by rw [q, hD] at h; cases h)]; exact h⟩
theorem Opts.upd {H : Hp} {D : Addr} {zs us xs : List V} {os : List (Option (Int × Int))} (d : Opts H xs os) (hD : H D = some (.lst zs)) : Opts (L2.upd H D (.lst us)) xs os := ⟨d.len, fun i x o h1 h2 => (d.at_ i x o h1 h2).upd hD⟩
theorem Duos.upd {H : Hp} {D : Addr} {zs us xs : List V} {ps : List (Int × Int)} (d : Duos H xs ps) (hD : H D = some (.lst zs)) : Duos (L2.upd H D (.lst us)) xs ps :=
  ⟨d.len, fun i x p h1 h2 => let ⟨t, e, h⟩ := d.at_ i x p h1 h2; ⟨t, e, by rw [upd_ne (fun q => by rw [q, hD] at h; cases h)]; exact h⟩⟩
/-- time, shift, begin, end -/
structure Vp where
  t : Int
  s : Int
  b : Int
  e : Option Int
/-- the visits at these -/
structure Viss (A : Ad) (H : Hp) (xs : List V) (vs : List Vp) : Prop where
  len : xs.length = vs.length
  at_ : ∀ (i : Nat) (x : V) (v : Vp), xs[i]? = some x → vs[i]? = some v → ∃ p, x = .ref p ∧ VisAt A H p v.t v.s v.b v.e
theorem Viss.same {A : Ad} {H H' : Hp} {xs : List V} {vs : List Vp} (d : Viss A H xs vs) (s : Same H H') : Viss A H' xs vs :=
  ⟨d.len, fun i x v h1 h2 => let ⟨p, e, h⟩ := d.at_ i x v h1 h2; ⟨p, e, h.same s⟩⟩
theorem Viss.get {A : Ad} {H : Hp} {xs : List V} {vs : List Vp} (d : Viss A H xs vs) {i : Nat} {x : V} (h : xs[i]? = some x) : ∃ p v, vs[i]? = some v ∧ x = .ref p ∧ VisAt A H p v.t v.s v.b v.e := by
  have hi : i < vs.length := by rw [← d.len]; exact (List.getElem?_eq_some_iff.mp h).1
  obtain ⟨p, e, q⟩ := d.at_ i x _ h (List.getElem?_eq_getElem hi)
  exact ⟨p, _, List.getElem?_eq_getElem hi, e, q⟩
theorem Viss.snoc {A : Ad} {H : Hp} {xs : List V} {vs : List Vp} {p : Addr} {v : Vp} (d : Viss A H xs vs) (h : VisAt A H p v.t v.s v.b v.e) : Viss A H (xs ++ [.ref p]) (vs ++ [v]) := by
  refine ⟨by rw [List.length_append, List.length_append, d.len]; rfl, fun i x q h1 h2 => ?_⟩
  rcases get_snoc h1 with ⟨l1, h1⟩ | ⟨l1, rfl⟩
  · rcases get_snoc h2 with ⟨l2, h2⟩ | ⟨l2, rfl⟩
    · exact d.at_ i x q h1 h2
    · have := d.len; omega
  · rcases get_snoc h2 with ⟨l2, h2⟩ | ⟨l2, rfl⟩
    · have := d.len; omega
    · exact ⟨p, rfl, h⟩
theorem Viss.nil {A : Ad} {H : Hp} : Viss A H [] [] := ⟨rfl, fun i x v h => by simp at h⟩
def ustM (v : Vp) (x y : Int) : Option (Int × Int) := stM v.b v.e (x - v.s) (y - v.t - v.s + 1)
def ustsM (vs : List Vp) (x y : Int) : List (Int × Int) := (vs.map fun v => ustM v x y).filterMap id
def pstM (v : Vp) (y : Int) : Option (Int × Int) := stM v.b v.e (y - v.t + 1 - v.s) (y + 1 - v.s)
def pstsM (vs : List Vp) (y : Int) : List (Int × Int) := (vs.map fun v => pstM v y).filterMap id
def sp_placed_stretches (K : PySem.W.Frag) (A : Ad) : Sp := fun vs H Q _ => ∃ (l : Addr) (xs : List V) (ws : List Vp) (y : Int), vs = [.ref l, .int y] ∧ SqL K H l xs ∧ Viss A H xs ws ∧ ws.length ≤ 1000 ∧
  ∀ H' q ys, Same H H' → H q = none → H' q = some (.lst ys) → Duos H' ys (pstsM ws y) → Q (.ref q) H'
def sp_urgent_stretches (K : PySem.W.Frag) (A : Ad) : Sp := fun vs H Q _ => ∃ (l : Addr) (xs : List V) (ws : List Vp) (x y : Int), vs = [.ref l, .int x, .int y] ∧ SqL K H l xs ∧ Viss A H xs ws ∧ ws.length ≤ 1000 ∧
  ∀ H' q ys, Same H H' → H q = none → H' q = some (.lst ys) → Duos H' ys (ustsM ws x y) → Q (.ref q) H'
/-- the attributes of a load -/
def lfs (x l : Addr) : List (Str × V) := [("_curve", V.ref x), ("_visits", V.ref l)]
theorem l_cv : ¬ (("_curve" : Str) = "_visits") := by decide +kernel
theorem lput1 (v : V) : putF "_curve" v [] = [(("_curve" : Str), v)] := rfl
theorem lput2 (v u : V) : putF "_visits" u [(("_curve" : Str), v)] = [(("_curve" : Str), v), ("_visits", u)] := by
  show (if ("_curve" : Str) = "_visits" then _ else (("_curve" : Str), v) :: putF "_visits" u []) = _
  rw [if_neg l_cv]
  rfl
theorem lfs_c (x l : Addr) : (lfs x l).lookup ("_curve" : Str) = some (.ref x) := by
  unfold lfs; simp [List.lookup]
theorem lfs_v (x l : Addr) : (lfs x l).lookup ("_visits" : Str) = some (.ref l) := by
  have h : (("_visits" : Str) == "_curve") = false := by decide +kernel
  unfold lfs; simp [List.lookup, h]
theorem lfs_no (x l : Addr) {m : Str} (h1 : (m == ("_curve" : Str)) = false) (h2 : (m == ("_visits" : Str)) = false) : (lfs x l).lookup m = none := by
  unfold lfs; simp [List.lookup, h1, h2]
/-- a load of the curve at x and the visits xs -/
def LoadAt (A : Ad) (H : Hp) (y x : Addr) (xs : List V) : Prop := ∃ dx l, H y = some (.ins A.Load dx (lfs x l)) ∧ H l = some (.lst xs)
theorem LoadAt.same {A : Ad} {H H' : Hp} {y x : Addr} {xs : List V} (h : LoadAt A H y x xs) (s : Same H H') : LoadAt A H' y x xs := by
  obtain ⟨dx, l, h1, h2⟩ := h
  exact ⟨dx, l, s _ _ h1, s _ _ h2⟩
def sp_find_wrong_visit (K : PySem.W.Frag) (A : Ad) : Sp := fun vs H Q _ => ∃ (l : Addr) (xs : List V) (ws : List Vp), vs = [.ref l] ∧ H l = some (.lst xs) ∧ Viss A H xs ws ∧ 1 ≤ ws.length ∧ ws.length ≤ 4 ∧ ∀ H', Same H H' → Q .non H'
def sp_Load_init (K : PySem.W.Frag) (A : Ad) : Sp := fun vs H Q _ => ∃ (y dx x l : Addr) (cs : List Int) (p g : Int) (xs : List V) (ws : List Vp), vs = [.ref y, .ref x, .ref l] ∧ H y = some (.ins A.Load dx []) ∧ CrvAt A H x cs p g ∧ 0 < p ∧ p ≤ cs.length ∧ cs.length ≤ 1000 ∧ GoodC (cvAt cs p g) cs.length ∧
  H l = some (.lst xs) ∧ Viss A H xs ws ∧ 1 ≤ ws.length ∧ ws.length ≤ 4 ∧
  ∀ H1 l', Kp A x H H1 → H l' = none → H1 l' = none → Q .non (upd (upd H1 l' (.lst xs)) y (.ins A.Load dx (lfs x l')))
def sp_Load_curve (_ : PySem.W.Frag) (A : Ad) : Sp := fun vs H Q _ => ∃ (y x : Addr) (xs : List V), vs = [.ref y] ∧ LoadAt A H y x xs ∧ Q (.ref x) H
def sp_Load_visits (_ : PySem.W.Frag) (A : Ad) : Sp := fun vs H Q _ => ∃ (y x : Addr) (xs : List V), vs = [.ref y] ∧ LoadAt A H y x xs ∧ ∀ q, H q = none → Q (.ref q) (upd H q (.lst xs))
def sp_demand (K : PySem.W.Frag) (A : Ad) : Sp := fun vs H Q _ => ∃ (y x : Addr) (cs : List Int) (p g : Int) (xs : List V) (ws : List Vp) (a b : Int), vs = [.ref y, .int a, .int b] ∧ LoadAt A H y x xs ∧ Crv A H x cs p g ∧ Viss A H xs ws ∧ ws.length ≤ 4 ∧
  0 ≤ a ∧ a < b ∧ Bd (ustsM ws a b) ∧ ∀ H', Same H H' → Q (.int (totM (cvAt cs p g) (bestM (cvAt cs p g) (ustsM ws a b)))) H'
def sp_places (K : PySem.W.Frag) (A : Ad) : Sp := fun vs H Q _ => ∃ (a y x : Addr) (cs : List Int) (p g : Int) (xs : List V) (ws : List Vp) (n : Int), vs = [.ref a, .int n] ∧ SqL K H a [.ref y] ∧ LoadAt A H y x xs ∧ Crv A H x cs p g ∧ Viss A H xs ws ∧ ws.length ≤ 4 ∧
  0 ≤ n ∧ n ≤ 1000 ∧ Bd (pstsM ws n) ∧ ∀ H' q, Same H H' → H' q = some (.lst [.int (totM (cvAt cs p g) (bestM (cvAt cs p g) (pstsM ws n)))]) → Q (.ref q) H'
theorem psts_len (vs : List Vp) (y : Int) : (pstsM vs y).length ≤ vs.length := by
  unfold pstsM
  refine Nat.le_trans (List.length_filterMap_le _ _) ?_
  rw [List.length_map]; exact Nat.le_refl _
theorem psts_pos {vs : List Vp} {y : Int} : ∀ p ∈ pstsM vs y, p.1 < p.2 := by
  intro p hp
  unfold pstsM at hp
  obtain ⟨o, ho, e⟩ := List.mem_filterMap.mp hp
  obtain ⟨v, _, rfl⟩ := List.mem_map.mp ho
  have e : pstM v y = some p := e
  unfold pstM stM at e
  by_cases c : eB v.e (y + 1 - v.s) ≤ (if v.b < y - v.t + 1 - v.s then y - v.t + 1 - v.s else v.b)
  · rw [if_pos c] at e; cases e
  · rw [if_neg c] at e
    have e := Option.some.inj e
    rw [← e]
    exact Int.not_le.mp c
theorem usts_len (vs : List Vp) (x y : Int) : (ustsM vs x y).length ≤ vs.length := by
  unfold ustsM
  refine Nat.le_trans (List.length_filterMap_le _ _) ?_
  rw [List.length_map]; exact Nat.le_refl _
theorem usts_pos {vs : List Vp} {x y : Int} : ∀ p ∈ ustsM vs x y, p.1 < p.2 := by
  intro p hp
  unfold ustsM at hp
  obtain ⟨o, ho, e⟩ := List.mem_filterMap.mp hp
  obtain ⟨v, _, rfl⟩ := List.mem_map.mp ho
  have e : ustM v x y = some p := e
  unfold ustM stM at e
  by_cases c : eB v.e (y - v.t - v.s + 1) ≤ (if v.b < x - v.s then x - v.s else v.b)
  · rw [if_pos c] at e; cases e
  · rw [if_neg c] at e
    have e := Option.some.inj e
    rw [← e]
    exact Int.not_le.mp c
section
variable {P : Program} {w : World} {K : PySem.W.Frag} {mg : Str → Option Value} {base : Heap} {A : Ad}
theorem ok_urgent_stretches (T : Txt K mg A) : FnOk P w K mg base CX0 5 A.f_urgent_stretches A.d_urgent_stretches ["visits", "start", "end"] (sp_urgent_stretches K A) := by
  have G_urgent_stretch := ok_urgent_stretch (P := P) (w := w) (base := base) T
  refine T.F_urgent_stretches.ok sc_urgent_stretches (fun vs H Q E h => ?_) (fun cdv A0 outer s H vs Q E hr h => ?_)
  · obtain ⟨l, xs, ws, x, y, rfl, hl, d, hn, k⟩ := h
    rfl
  · obtain ⟨l, xs, ws, x, y, rfl, hl, d, hn, k⟩ := h
    refine ⟨_, (pss_cons (ps_setLc (i := 3) (own := [("visit", 4)]) (g := gName 4) (tt := tYes) rfl sc_urgent_stretches.nd rfl rfl (sw_true rfl rfl rfl (by decide +kernel)) (pi_list (pv 0)) (blkOk_by (own := [("visit", 4)]) (N := ["visits", "start", "end", "found", "visit", "one"]) (sc := defScope s_urgent_stretches) (by decide +kernel)) (fun _ _ _ _ _ => pg_name (i := 4) sc_urgent_stretches.nd rfl (by first | exact Or.inl rfl | exact Or.inr rfl)) (fun _ _ _ _ _ => pts_nil) (fun _ _ _ _ _ => (pe_call G_urgent_stretch (hr.mono (by decide)) rfl T.m_urgent_stretch T.k_urgent_stretch T.b_urgent_stretch .nil pass0 (pa_cons (pv 4) (pa_cons (pv 1) (pa_cons (pv 2) pa_nil))))))
    (pss_one (ps_ret (pe_lc (own := [("one", 5)]) (g := gName 5) rfl sc_urgent_stretches.nd (pi_list (pv 3)) (blkOk_by (own := [("one", 5)]) (N := ["visits", "start", "end", "found", "visit", "one"]) (sc := defScope s_urgent_stretches) (by decide +kernel)) (fun _ _ _ _ _ => pg_name (i := 5) sc_urgent_stretches.nd rfl (by first | exact Or.inl rfl | exact Or.inr rfl)) (fun _ _ _ _ _ => (pts_one (pt_cmp (pc_notN (pv 5)) rfl))) (fun _ _ _ _ _ => (pv 5)))))), ?_⟩
    refine ⟨_, rfl, l, rfl, ⟨xs, hl⟩, fun D hD => lc_list (xs := xs) (fun i H1 => ∃ zs, H1 D = some (.lst zs) ∧ Opts H1 zs ((ws.take i).map fun v => ustM v x y) ∧ Same H H1) ⟨[], upd_same, .nil, Same.upd (Same.refl _) hD⟩ (fun i H1 _ ⟨_, q⟩ => q.2.2.seq hl) ?_ ?_⟩
    · rintro i u H1 hy ⟨zs, hD1, o1, s1⟩
      obtain ⟨p, v, ev, rfl, hv⟩ := d.get hy
      refine ⟨rfl, _, rfl, _, rfl, _, rfl, p, v.t, v.s, v.b, v.e, x, y, rfl, hv.same s1, fun H2 r s2 hd => ?_⟩
      have hDr : H2 D = some (.lst zs) := s2 _ _ hD1
      have zl : zs.length ≤ 1000 := by rw [o1.len, List.length_map, List.length_take]; omega
      refine ⟨zs, hDr, small (Nat.le_trans zl (by decide)), zs ++ [r], upd_same, ?_, Same.upd (s1.trans s2) hD⟩
      rw [List.take_add_one, ev, List.map_append]
      exact ((o1.same s2).snoc hd.opt).upd hDr
    · rintro H1 ⟨zs, hD1, o1, s1⟩
      rw [d.len, List.take_length] at o1
      have zl : zs.length = ws.length := by rw [o1.len, List.length_map]
      refine ⟨_, rfl, D, rfl, ⟨zs, SqL.of hD1⟩, fun D2 hD2 => lc_list (xs := zs) (fun i H2 => ∃ us, H2 D2 = some (.lst us) ∧ Duos H2 us (((ws.map fun v => ustM v x y).take i).filterMap id) ∧ Same H1 H2) ⟨[], upd_same, .nil, Same.upd (Same.refl _) hD2⟩ (fun i H2 _ ⟨_, q⟩ => SqL.of (q.2.2 _ _ hD1)) ?_ ?_⟩
      · rintro i u H2 hy ⟨us, hD3, d2, s2⟩
        have hi : i < (ws.map fun v => ustM v x y).length := by rw [List.length_map, ← zl]; exact (List.getElem?_eq_some_iff.mp hy).1
        have eo := List.getElem?_eq_getElem hi
        have ou := (o1.at_ i u _ hy eo).same s2
        have ul : us.length ≤ 1000 := by
          rw [d2.len]
          refine Nat.le_trans (List.length_filterMap_le _ _) ?_
          rw [List.length_take, List.length_map]; omega
        have et : (((ws.map fun v => ustM v x y).take (i + 1)).filterMap id) = (((ws.map fun v => ustM v x y).take i).filterMap id) ++ ((ws.map fun v => ustM v x y)[i]).toList := by
          rw [List.take_add_one, eo, List.filterMap_append]
          cases (ws.map fun v => ustM v x y)[i] with
          | none => rfl
          | some z => rfl
        rw [et]
        generalize (ws.map fun v => ustM v x y)[i] = o at *
        cases o with
        | none =>
          cases ou
          exact ⟨rfl, _, rfl, _, rfl, iteF ⟨us, hD3, by rw [show (none : Option (Int × Int)).toList = [] from rfl, List.append_nil]; exact d2, s2⟩⟩
        | some z =>
          obtain ⟨t, rfl, ht⟩ := ou
          exact ⟨rfl, _, rfl, _, rfl, iteT ⟨_, rfl, us, hD3, small (Nat.le_trans ul (by decide)), us ++ [.ref t], upd_same, (d2.snoc ht).upd hD3, Same.upd s2 hD2⟩⟩
      · rintro H2 ⟨us, hD3, d2, s2⟩
        rw [List.take_of_length_le (by rw [List.length_map, zl]; exact Nat.le_refl _)] at d2
        exact k H2 D2 us (s1.trans s2) (s1.free hD2) hD3 d2
theorem ok_placed_stretches (T : Txt K mg A) : FnOk P w K mg base CX0 5 A.f_placed_stretches A.d_placed_stretches ["visits", "tick"] (sp_placed_stretches K A) := by
  have G_placed_stretch := ok_placed_stretch (P := P) (w := w) (base := base) T
  refine T.F_placed_stretches.ok sc_placed_stretches (fun vs H Q E h => ?_) (fun cdv A0 outer s H vs Q E hr h => ?_)
  · obtain ⟨l, xs, ws, y, rfl, hl, d, hn, k⟩ := h
    rfl
  · obtain ⟨l, xs, ws, y, rfl, hl, d, hn, k⟩ := h
    refine ⟨_, (pss_cons (ps_setLc (i := 2) (own := [("visit", 3)]) (g := gName 3) (tt := tYes) rfl sc_placed_stretches.nd rfl rfl (sw_true rfl rfl rfl (by decide +kernel)) (pi_list (pv 0)) (blkOk_by (own := [("visit", 3)]) (N := ["visits", "tick", "found", "visit", "one"]) (sc := defScope s_placed_stretches) (by decide +kernel)) (fun _ _ _ _ _ => pg_name (i := 3) sc_placed_stretches.nd rfl (by first | exact Or.inl rfl | exact Or.inr rfl)) (fun _ _ _ _ _ => pts_nil) (fun _ _ _ _ _ => (pe_call G_placed_stretch (hr.mono (by decide)) rfl T.m_placed_stretch T.k_placed_stretch T.b_placed_stretch .nil pass0 (pa_cons (pv 3) (pa_cons (pv 1) pa_nil)))))
    (pss_one (ps_ret (pe_lc (own := [("one", 4)]) (g := gName 4) rfl sc_placed_stretches.nd (pi_list (pv 2)) (blkOk_by (own := [("one", 4)]) (N := ["visits", "tick", "found", "visit", "one"]) (sc := defScope s_placed_stretches) (by decide +kernel)) (fun _ _ _ _ _ => pg_name (i := 4) sc_placed_stretches.nd rfl (by first | exact Or.inl rfl | exact Or.inr rfl)) (fun _ _ _ _ _ => (pts_one (pt_cmp (pc_notN (pv 4)) rfl))) (fun _ _ _ _ _ => (pv 4)))))), ?_⟩
    refine ⟨_, rfl, l, rfl, ⟨xs, hl⟩, fun D hD => lc_list (xs := xs) (fun i H1 => ∃ zs, H1 D = some (.lst zs) ∧ Opts H1 zs ((ws.take i).map fun v => pstM v y) ∧ Same H H1) ⟨[], upd_same, .nil, Same.upd (Same.refl _) hD⟩ (fun i H1 _ ⟨_, q⟩ => q.2.2.seq hl) ?_ ?_⟩
    · rintro i u H1 hy ⟨zs, hD1, o1, s1⟩
      obtain ⟨p, v, ev, rfl, hv⟩ := d.get hy
      refine ⟨rfl, _, rfl, _, rfl, p, v.t, v.s, v.b, v.e, y, rfl, hv.same s1, fun H2 r s2 hd => ?_⟩
      have hDr : H2 D = some (.lst zs) := s2 _ _ hD1
      have zl : zs.length ≤ 1000 := by rw [o1.len, List.length_map, List.length_take]; omega
      refine ⟨zs, hDr, small (Nat.le_trans zl (by decide)), zs ++ [r], upd_same, ?_, Same.upd (s1.trans s2) hD⟩
      rw [List.take_add_one, ev, List.map_append]
      exact ((o1.same s2).snoc hd.opt).upd hDr
    · rintro H1 ⟨zs, hD1, o1, s1⟩
      rw [d.len, List.take_length] at o1
      have zl : zs.length = ws.length := by rw [o1.len, List.length_map]
      refine ⟨_, rfl, D, rfl, ⟨zs, SqL.of hD1⟩, fun D2 hD2 => lc_list (xs := zs) (fun i H2 => ∃ us, H2 D2 = some (.lst us) ∧ Duos H2 us (((ws.map fun v => pstM v y).take i).filterMap id) ∧ Same H1 H2) ⟨[], upd_same, .nil, Same.upd (Same.refl _) hD2⟩ (fun i H2 _ ⟨_, q⟩ => SqL.of (q.2.2 _ _ hD1)) ?_ ?_⟩
      · rintro i u H2 hy ⟨us, hD3, d2, s2⟩
        have hi : i < (ws.map fun v => pstM v y).length := by rw [List.length_map, ← zl]; exact (List.getElem?_eq_some_iff.mp hy).1
        have eo := List.getElem?_eq_getElem hi
        have ou := (o1.at_ i u _ hy eo).same s2
        have ul : us.length ≤ 1000 := by
          rw [d2.len]
          refine Nat.le_trans (List.length_filterMap_le _ _) ?_
          rw [List.length_take, List.length_map]; omega
        have et : (((ws.map fun v => pstM v y).take (i + 1)).filterMap id) = (((ws.map fun v => pstM v y).take i).filterMap id) ++ ((ws.map fun v => pstM v y)[i]).toList := by
          rw [List.take_add_one, eo, List.filterMap_append]
          cases (ws.map fun v => pstM v y)[i] with
          | none => rfl
          | some z => rfl
        rw [et]
        generalize (ws.map fun v => pstM v y)[i] = o at *
        cases o with
        | none =>
          cases ou
          exact ⟨rfl, _, rfl, _, rfl, iteF ⟨us, hD3, by rw [show (none : Option (Int × Int)).toList = [] from rfl, List.append_nil]; exact d2, s2⟩⟩
        | some z =>
          obtain ⟨t, rfl, ht⟩ := ou
          exact ⟨rfl, _, rfl, _, rfl, iteT ⟨_, rfl, us, hD3, small (Nat.le_trans ul (by decide)), us ++ [.ref t], upd_same, (d2.snoc ht).upd hD3, Same.upd s2 hD2⟩⟩
      · rintro H2 ⟨us, hD3, d2, s2⟩
        rw [List.take_of_length_le (by rw [List.length_map, zl]; exact Nat.le_refl _)] at d2
        exact k H2 D2 us (s1.trans s2) (s1.free hD2) hD3 d2
theorem ok_find_wrong_visit (T : Txt K mg A) : FnOk P w K mg base CX0 1 A.f_find_wrong_visit A.d_find_wrong_visit ["visits"] (sp_find_wrong_visit K A) := by
  refine T.F_find_wrong_visit.ok sc_find_wrong_visit (fun vs H Q E h => ?_) (fun cdv A0 outer s H vs Q E hr h => ?_)
  · obtain ⟨l, xs, ws, rfl, hl, d, h1, h4, k⟩ := h
    rfl
  · obtain ⟨l, xs, ws, rfl, hl, d, h1, h4, k⟩ := h
    refine ⟨_, (pss_cons (ps_if (PW.pt (pw_or (pt_not (pt_val (pe_callB (r := rIsi K) call_isi (by rfl) T.isinstance (by decide +kernel) (pa_cons (pv 0) (pa_cons (pe_bltn (v := .ty "list") (u := .type "list") (by rfl) T.list (by decide +kernel) (by exact rfl)) pa_nil))))) (pw_or1 (pt_not (pt_chain op_le op_le pe_int (pe_callB (r := VG.rLen K) VG.call_len (by rfl) T.len (by decide +kernel) (pa_cons (pv 0) pa_nil)) (pe_glob (v := .int 4) rfl T.v_MAX_VISITS ⟨_, rfl⟩)))))) (pss_one (ps_ret pe_int)) pss_nil)
    (pss_cons (ps_for PassesOwn.never rfl (pi_enum (by rfl) T.enumerate (pa_cons (pv 0) pa_nil)) (pg_tup rfl (pgs_cons (pg_name (i := 1) sc_find_wrong_visit.nd rfl (by first | exact Or.inl rfl | exact Or.inr rfl)) (pgs_cons (pg_name (i := 2) sc_find_wrong_visit.nd rfl (by first | exact Or.inl rfl | exact Or.inr rfl)) pgs_nil)))
      (pss_one (ps_if (pt_not (pt_val (pe_callB (r := rIsi K) call_isi (by rfl) T.isinstance (by decide +kernel) (pa_cons (pv 2) (pa_cons (pe_glob (v := .ref A.Visit) rfl T.m_Visit rfl) pa_nil))))) (pss_one (ps_ret (pv 1))) pss_nil)))
    (pss_one (ps_ret pe_non)))), ?_⟩
    have dl := d.len
    have hS : SqL K H l xs := SqL.of hl
    refine ⟨_, rfl, .ref l, .ty "list", _, _, _, rfl, .ty _, (Kd.list hS).1, (show PySem.W.kitOne K (.type "list") (.type "list") = some true from kit_ty (by decide +kernel)), _, rfl, iteF ?_⟩
    refine ⟨_, rfl, l, _, rfl, .inl hS, _, _, rfl, rfl, _, rfl, ?_⟩
    refine ifD (fun _ => ?_) (fun c => absurd (show (1 : Int) ≤ xs.length by omega) c)
    refine ⟨_, _, rfl, rfl, _, rfl, iteNS (by omega) ?_⟩
    refine ⟨_, rfl, l, _, rfl, hS, for_it (walk_enum (K := K) (a := l) (xs := xs)) (fun i σ H' => ∃ v1 v2, σ = [some (.ref l), v1, v2] ∧ Same H H')
      ⟨_, _, rfl, Same.refl H⟩ (fun i σ H' _ ⟨_, _, _, s0⟩ => s0.seq hS) ?_ ?_⟩
    · rintro i x σ H' H2 hi ⟨v1, v2, rfl, s0⟩ ⟨t, a, b, rfl, ht, rfl, ea, eb⟩
      cases ea
      obtain ⟨p, v, ev, rfl, dx, hv⟩ := d.get eb
      have s1 := Same.upd (o := .tup [.int (i : Nat), .ref p]) s0 (s0.free ht)
      have hv1 := s1 _ _ hv
      refine ⟨t, _, rfl, SqT.of upd_same, rfl, _, _, rfl, _, _, rfl, rfl, ?_⟩
      exact ⟨_, rfl, _, _, _, _, _, rfl, .own _, T.ic_Visit.typ T.clVisit hv1, VN.kit_self, _, rfl, iteF ⟨_, _, rfl, s1⟩⟩
    · rintro σ H' ⟨v1, v2, rfl, s0⟩
      exact k H' s0
theorem ok_Load_init (T : Txt K mg A) : FnOk P w K mg base CX0 7 A.f_Load_init A.d_Load_init ["self", "curve", "visits"] (sp_Load_init K A) := by
  have G_find_wrong_visit := ok_find_wrong_visit (P := P) (w := w) (base := base) T
  have G_require_good := ok_require_good (P := P) (w := w) (base := base) T
  refine T.F_Load_init.ok sc_Load_init (fun vs H Q E h => ?_) (fun cdv A0 outer s H vs Q E hr h => ?_)
  · obtain ⟨y, dx, x, l, cs, p, g, xs, ws, rfl, hy, c, p0, pn, n, G, hl, d, h1, h4, k⟩ := h
    rfl
  · obtain ⟨y, dx, x, l, cs, p, g, xs, ws, rfl, hy, c, p0, pn, n, G, hl, d, h1, h4, k⟩ := h
    refine ⟨_, (pss_cons (ps_expr (pe_call G_require_good (hr.mono (by decide)) rfl T.m_require_good T.k_require_good T.b_require_good .nil pass0 (pa_cons (pv 1) pa_nil)))
    (pss_cons (ps_set (i := 3) sc_Load_init.nd rfl (by first | exact Or.inl rfl | exact Or.inr rfl) (pe_call G_find_wrong_visit (hr.mono (by decide)) rfl T.m_find_wrong_visit T.k_find_wrong_visit T.b_find_wrong_visit .nil pass0 (pa_cons (pv 2) pa_nil)))
    (pss_cons (ps_if (pt_cmp (pc_notN (pv 3)) rfl) (pss_one ps_never) pss_nil)
    (pss_cons (ps_fld (pv 0) (pv 1) rfl)
    (pss_one (ps_fld (pv 0) (pe_callTy (r := VG.rListOf K) VG.call_listOf (by rfl) T.list (by decide +kernel) (pa_cons (pv 2) pa_nil)) rfl)))))), ?_⟩
    obtain ⟨dxc, lc, w, hx, hlc⟩ := id c
    have nyx : y ≠ x := fun q => by rw [q, hx] at hy; injection hy with hy; injection hy with a b e; have := congrArg List.length e; simp [cfs] at this
    have nlx : l ≠ x := ne_of hl hx (fun q => by cases q)
    refine ⟨_, rfl, x, cs, p, g, rfl, c, p0, pn, n, G, fun H1 k1 => ?_⟩
    have hl1 := k1.ne nlx hl
    have hy1 := k1.ne nyx hy
    have d1 : Viss A H1 xs ws := ⟨d.len, fun i u v e1 e2 => by
      obtain ⟨q, e, dxv, hv⟩ := d.at_ i u v e1 e2
      refine ⟨q, e, dxv, k1.ne (fun z => ?_) hv⟩
      rw [z, hx] at hv
      injection hv with hv
      injection hv with a b e
      have := congrArg List.length e
      simp [cfs, vfs] at this⟩
    refine ⟨_, rfl, l, xs, ws, rfl, hl1, d1, h1, h4, fun H2 s2 => ?_⟩
    have hy2 := s2 _ _ hy1
    have hl2 := s2 _ _ hl1
    have nly : l ≠ y := ne_of hl hy (fun q => by cases q)
    refine ⟨_, rfl, _, rfl, iteF ?_⟩
    refine ⟨_, rfl, _, rfl, y, _, dx, _, rfl, hy2, T.clLoad, T.n_curve, (by show 0 < 1000; decide), ?_⟩
    refine ⟨_, rfl, l, xs, rfl, .inl (SqL.of (by rw [upd_ne nly]; exact hl2)), fun q hq => ?_⟩
    have nqy : q ≠ y := fun z => by rw [z, upd_same] at hq; cases hq
    rw [upd_ne nqy] at hq
    refine ⟨_, rfl, y, _, dx, _, rfl, (by rw [upd_ne (Ne.symm nqy)]; exact upd_same), T.clLoad, T.n_visits, (by rw [lput1]; show 1 < 1000; decide), ?_⟩
    rw [lput1, lput2]
    have e : upd (upd (upd H2 y (.ins A.Load dx [(("_curve" : Str), V.ref x)])) q (.lst xs)) y (.ins A.Load dx [(("_curve" : Str), V.ref x), ("_visits", V.ref q)]) = upd (upd H2 q (.lst xs)) y (.ins A.Load dx (lfs x q)) := by
      funext c
      by_cases hc : c = y
      · subst hc; rw [upd_same, upd_same]; rfl
      · rw [upd_ne hc, upd_ne hc]
        by_cases hq' : c = q
        · subst hq'; rw [upd_same, upd_same]
        · rw [upd_ne hq', upd_ne hq', upd_ne hc]
    rw [e]
    exact k H2 q (k1.then s2) ((k1.then s2).free hq) hq
theorem ok_Load_curve (T : Txt K mg A) : FnOk P w K mg base CX0 1 A.f_Load_curve A.d_Load_curve ["self"] (sp_Load_curve K A) := by
  refine T.F_Load_curve.ok sc_Load_curve (fun vs H Q E h => ?_) (fun cdv A0 outer s H vs Q E hr h => ?_)
  · obtain ⟨y, x, xs, rfl, ⟨dx, l, h1, h2⟩, q⟩ := h
    rfl
  · obtain ⟨y, x, xs, rfl, ⟨dx, l, h1, h2⟩, q⟩ := h
    refine ⟨_, (pss_one (ps_ret (pe_fld (pv 0) rfl))), ?_⟩
    exact ⟨_, rfl, y, _, dx, _, _, rfl, h1, T.clLoad, T.n_curve, lfs_c _ _, q⟩
theorem ok_Load_visits (T : Txt K mg A) : FnOk P w K mg base CX0 1 A.f_Load_visits A.d_Load_visits ["self"] (sp_Load_visits K A) := by
  refine T.F_Load_visits.ok sc_Load_visits (fun vs H Q E h => ?_) (fun cdv A0 outer s H vs Q E hr h => ?_)
  · obtain ⟨y, x, xs, rfl, ⟨dx, l, h1, h2⟩, q⟩ := h
    rfl
  · obtain ⟨y, x, xs, rfl, ⟨dx, l, h1, h2⟩, q⟩ := h
    refine ⟨_, (pss_one (ps_ret (pe_callTy (r := VG.rListOf K) VG.call_listOf (by rfl) T.list (by decide +kernel) (pa_cons (pe_fld (pv 0) rfl) pa_nil)))), ?_⟩
    exact ⟨_, rfl, y, _, dx, _, _, rfl, h1, T.clLoad, T.n_visits, lfs_v _ _, l, xs, rfl, .inl (SqL.of h2), q⟩
theorem ok_demand (T : Txt K mg A) : FnOk P w K mg base CX0 8 A.f_demand A.d_demand ["load", "start", "end"] (sp_demand K A) := by
  have G_Load_curve := ok_Load_curve (P := P) (w := w) (base := base) T
  have G_Load_visits := ok_Load_visits (P := P) (w := w) (base := base) T
  have G_least_cost := ok_least_cost (P := P) (w := w) (base := base) T
  have G_require_window := ok_require_window (P := P) (w := w) (base := base) T
  have G_urgent_stretches := ok_urgent_stretches (P := P) (w := w) (base := base) T
  refine T.F_demand.ok sc_demand (fun vs H Q E h => ?_) (fun cdv A0 outer s H vs Q E hr h => ?_)
  · obtain ⟨y, x, cs, p, g, xs, ws, a, b, rfl, L, c, d, hn, h0, h1, bd, k⟩ := h
    rfl
  · obtain ⟨y, x, cs, p, g, xs, ws, a, b, rfl, L, c, d, hn, h0, h1, bd, k⟩ := h
    refine ⟨_, (pss_cons (ps_expr (pe_call G_require_window (hr.mono (by decide)) rfl T.m_require_window T.k_require_window T.b_require_window .nil pass0 (pa_cons (pv 1) (pa_cons (pv 2) pa_nil))))
    (pss_one (ps_ret (pe_call G_least_cost (hr.mono (by decide)) rfl T.m_least_cost T.k_least_cost T.b_least_cost .nil pass0 (pa_cons (pe_prop (pv 0) T.clLoad T.pr_Load_curve G_Load_curve (hr.mono (by decide)) T.b_Load_curve .nil pass0 rfl) (pa_cons (pe_call G_urgent_stretches (hr.mono (by decide)) rfl T.m_urgent_stretches T.k_urgent_stretches T.b_urgent_stretches .nil pass0 (pa_cons (pe_meth0 (pv 0) T.clLoad T.me_visits G_Load_visits (hr.mono (by decide)) T.b_Load_visits .nil pass0) (pa_cons (pv 1) (pa_cons (pv 2) pa_nil)))) pa_nil)))))), ?_⟩
    obtain ⟨dx, l, h1', h2'⟩ := id L
    refine ⟨_, rfl, _, rfl, a, b, rfl, h0, h1, ?_⟩
    refine ⟨_, rfl, y, dx, _, rfl, h1', y, x, xs, rfl, L, ?_⟩
    refine ⟨_, rfl, y, dx, _, rfl, h1', lfs_no _ _ (by decide +kernel) (by decide +kernel), y, x, xs, rfl, L, fun q hq => ?_⟩
    refine ⟨_, rfl, _, rfl, q, xs, ws, a, b, rfl, SqL.of upd_same, d.same (Same.upd (Same.refl _) hq), by omega, fun H1 r ys s1 hr0 hr dr => ?_⟩
    have s0 := (Same.upd (Same.refl H) hq).trans s1
    exact ⟨x, r, cs, p, g, ys, _, rfl, c.same s0, SqL.of hr, dr, bd, usts_pos, Nat.le_trans (usts_len _ _ _) hn, fun H2 s2 => k H2 (s0.trans s2)⟩
theorem ok_places (T : Txt K mg A) : FnOk P w K mg base CX0 8 A.f_places A.d_places ["loads", "tick"] (sp_places K A) := by
  have G_Load_curve := ok_Load_curve (P := P) (w := w) (base := base) T
  have G_Load_visits := ok_Load_visits (P := P) (w := w) (base := base) T
  have G_least_cost := ok_least_cost (P := P) (w := w) (base := base) T
  have G_placed_stretches := ok_placed_stretches (P := P) (w := w) (base := base) T
  have G_require_tick := ok_require_tick (P := P) (w := w) (base := base) T
  refine T.F_places.ok sc_places (fun vs H Q E h => ?_) (fun cdv A0 outer s H vs Q E hr h => ?_)
  · obtain ⟨a, y, x, cs, p, g, xs, ws, n, rfl, hS, L, c, d, hn, n0, n1, bd, k⟩ := h
    rfl
  · obtain ⟨a, y, x, cs, p, g, xs, ws, n, rfl, hS, L, c, d, hn, n0, n1, bd, k⟩ := h
    refine ⟨_, (pss_cons (ps_expr (pe_call G_require_tick (hr.mono (by decide)) rfl T.m_require_tick T.k_require_tick T.b_require_tick .nil pass0 (pa_cons (pv 1) pa_nil)))
    (pss_one (ps_ret (pe_lc (own := [("load", 2)]) (g := gName 2) (tt := tYes) rfl sc_places.nd (pi_list (pv 0)) (blkOk_by (own := [("load", 2)]) (N := ["loads", "tick", "load"]) (sc := defScope s_places) (by decide +kernel)) (fun _ _ _ _ _ => pg_name (i := 2) sc_places.nd rfl (by first | exact Or.inl rfl | exact Or.inr rfl)) (fun _ _ _ _ _ => pts_nil) (fun _ _ _ _ _ => (pe_call G_least_cost (hr.mono (by decide)) rfl T.m_least_cost T.k_least_cost T.b_least_cost .nil pass0 (pa_cons (pe_prop (pv 2) T.clLoad T.pr_Load_curve G_Load_curve (hr.mono (by decide)) T.b_Load_curve .nil pass0 rfl) (pa_cons (pe_call G_placed_stretches (hr.mono (by decide)) rfl T.m_placed_stretches T.k_placed_stretches T.b_placed_stretches .nil pass0 (pa_cons (pe_meth0 (pv 2) T.clLoad T.me_visits G_Load_visits (hr.mono (by decide)) T.b_Load_visits .nil pass0) (pa_cons (pv 1) pa_nil))) pa_nil)))))))), ?_⟩
    obtain ⟨dx, l, h1', h2'⟩ := id L
    refine ⟨_, rfl, n, rfl, n0, n1, ?_⟩
    refine ⟨_, rfl, a, rfl, ⟨[.ref y], hS⟩, fun D hD => lc_list (xs := [.ref y]) (fun i H1 => H1 D = some (.lst ((List.replicate i (totM (cvAt cs p g) (bestM (cvAt cs p g) (pstsM ws n)))).map V.int)) ∧ Same H H1) ⟨upd_same, Same.upd (Same.refl _) hD⟩ (fun i H1 _ q => q.2.seq hS) ?_ ?_⟩
    · rintro i u H1 hu ⟨hD1, s1⟩
      have hi : i = 0 := by have := (List.getElem?_eq_some_iff.mp hu).1; simp at this; exact this
      subst hi
      cases hu
      refine ⟨rfl, _, rfl, y, dx, _, rfl, s1 _ _ h1', y, x, xs, rfl, L.same s1, ?_⟩
      refine ⟨_, rfl, y, dx, _, rfl, s1 _ _ h1', lfs_no _ _ (by decide +kernel) (by decide +kernel), y, x, xs, rfl, L.same s1, fun q hq => ?_⟩
      have sq := s1.trans (Same.upd (o := .lst xs) (Same.refl H1) hq)
      have hDq : upd H1 q (.lst xs) D = some (.lst []) := by rw [upd_ne (ne_of_none hD1 hq)]; exact hD1
      refine ⟨_, rfl, q, xs, ws, n, rfl, SqL.of upd_same, d.same sq, by omega, fun H2 r ys s2 hr0 hr dr => ?_⟩
      have s02 := sq.trans s2
      refine ⟨x, r, cs, p, g, ys, _, rfl, c.same s02, SqL.of hr, dr, bd, psts_pos, Nat.le_trans (psts_len _ _) hn, fun H3 s3 => ⟨_, s3 _ _ (s2 _ _ hDq), small (by decide), ?_, Same.upd (s02.trans s3) hD⟩⟩
      rw [upd_same]
      rfl
    · rintro H1 ⟨hD1, s1⟩
      exact k H1 D s1 hD1
end
end VK


namespace VK
open PySem PySem.Spec PyProof.Rows L2 VM VLp
def prt (t s b : Int) (e : Option Int) : List V := [.int t, .int s, .int b, oV e]
theorem kb_vis3 {K : PySem.W.Frag} {mg : Str → Option Value} {A : Ad} (T : Txt K mg A) : ∃ mv : List Value, KBn K A.d_Visit_init ["self", "time", "shift", "begin", "end"] 2 ["shift", "begin", "end"] (fun us ws => us ++ ws) (fun vs zs => vs ++ zs) := by
  obtain ⟨mv, h⟩ := T.F_Visit_init.kbinds0 (ps := ["self", "time", "shift", "begin", "end"]) 2 ["shift", "begin", "end"] [] (fun us _ ws => us ++ ws) (by simp) (by simp) (fun a _ c => a.append c)
    (fun D doc pm an cdv ct us mv ws h1 h2 h3 => match us, mv, ws, h1, h2, h3 with | [_, _], [], [_, _, _], _, _, _ => rfl)
  exact ⟨mv, h⟩
/-- a drawn visit -/
structure Wee (v : Vp) : Prop where
  t0 : 1 ≤ v.t
  t1 : v.t ≤ 12
  s0 : 0 ≤ v.s
  s1 : v.s ≤ 100
  b0 : 0 ≤ v.b
  b1 : v.b ≤ 100
  e0 : ∀ x, v.e = some x → v.b ≤ x
  e1 : ∀ x, v.e = some x → x ≤ 200
theorem Wee.ok {v : Vp} (h : Wee v) : OkV v.t v.s v.b v.e := ⟨h.t0, h.t1, h.s0, by have := h.s1; omega, h.b0, by have := h.b1; omega, h.e0, fun x e => by have := h.e1 x e; omega⟩
/-- the parts of visits -/
structure Prts (H : Hp) (xs : List V) (ws : List Vp) : Prop where
  len : xs.length = ws.length
  at_ : ∀ (i : Nat) (x : V) (v : Vp), xs[i]? = some x → ws[i]? = some v → ∃ l, x = .ref l ∧ H l = some (.lst (prt v.t v.s v.b v.e))
theorem Prts.same {H H' : Hp} {xs : List V} {ws : List Vp} (d : Prts H xs ws) (s : Same H H') : Prts H' xs ws :=
  ⟨d.len, fun i x v h1 h2 => let ⟨p, e, h⟩ := d.at_ i x v h1 h2; ⟨p, e, s _ _ h⟩⟩
theorem Prts.get {H : Hp} {xs : List V} {vs : List Vp} (d : Prts H xs vs) {i : Nat} {x : V} (h : xs[i]? = some x) : ∃ p v, vs[i]? = some v ∧ x = .ref p ∧ H p = some (.lst (prt v.t v.s v.b v.e)) := by
  have hi : i < vs.length := by rw [← d.len]; exact (List.getElem?_eq_some_iff.mp h).1
  obtain ⟨p, e, q⟩ := d.at_ i x _ h (List.getElem?_eq_getElem hi)
  exact ⟨p, _, List.getElem?_eq_getElem hi, e, q⟩
theorem Prts.snoc {H : Hp} {xs : List V} {vs : List Vp} {p : Addr} {v : Vp} (d : Prts H xs vs) (h : H p = some (.lst (prt v.t v.s v.b v.e))) : Prts H (xs ++ [.ref p]) (vs ++ [v]) := by
  refine ⟨by rw [List.length_append, List.length_append, d.len]; rfl, fun i x q h1 h2 => ?_⟩
  rcases get_snoc h1 with ⟨l1, h1⟩ | ⟨l1, rfl⟩
  · rcases get_snoc h2 with ⟨l2, h2⟩ | ⟨l2, rfl⟩
    · exact d.at_ i x q h1 h2
    · have := d.len; omega
  · rcases get_snoc h2 with ⟨l2, h2⟩ | ⟨l2, rfl⟩
    · have := d.len; omega
    · exact ⟨p, rfl, h⟩
theorem Prts.nil {H : Hp} : Prts H [] [] := ⟨rfl, fun i x v h => by simp at h⟩
theorem Duos.app {H : Hp} {xs ys : List V} {ps qs : List (Int × Int)} (d : Duos H xs ps) (d2 : Duos H ys qs) : Duos H (xs ++ ys) (ps ++ qs) := by
  refine ⟨by rw [List.length_append, List.length_append, d.len, d2.len], fun i x p h1 h2 => ?_⟩
  by_cases hi : i < xs.length
  · rw [List.getElem?_append_left hi] at h1
    rw [List.getElem?_append_left (by rw [← d.len]; exact hi)] at h2
    exact d.at_ i x p h1 h2
  · rw [List.getElem?_append_right (Nat.le_of_not_lt hi)] at h1
    rw [List.getElem?_append_right (by rw [← d.len]; exact Nat.le_of_not_lt hi), ← d.len] at h2
    exact d2.at_ _ x p h1 h2
/-- lists of numbers -/
structure IL (H : Hp) (ys : List V) (os : List (List Int)) : Prop where
  len : ys.length = os.length
  at_ : ∀ (i : Nat) (x : V) (o : List Int), ys[i]? = some x → os[i]? = some o → ∃ l, x = .ref l ∧ H l = some (.lst (o.map V.int))
theorem IL.same {H H' : Hp} {xs : List V} {os : List (List Int)} (d : IL H xs os) (s : Same H H') : IL H' xs os :=
  ⟨d.len, fun i x v h1 h2 => let ⟨p, e, h⟩ := d.at_ i x v h1 h2; ⟨p, e, s _ _ h⟩⟩
theorem IL.get {H : Hp} {xs : List V} {os : List (List Int)} (d : IL H xs os) {i : Nat} {x : V} (h : xs[i]? = some x) : ∃ p o, os[i]? = some o ∧ x = .ref p ∧ H p = some (.lst (o.map V.int)) := by
  have hi : i < os.length := by rw [← d.len]; exact (List.getElem?_eq_some_iff.mp h).1
  obtain ⟨p, e, q⟩ := d.at_ i x _ h (List.getElem?_eq_getElem hi)
  exact ⟨p, _, List.getElem?_eq_getElem hi, e, q⟩
theorem IL.snoc {H : Hp} {xs : List V} {os : List (List Int)} {p : Addr} {o : List Int} (d : IL H xs os) (h : H p = some (.lst (o.map V.int))) : IL H (xs ++ [.ref p]) (os ++ [o]) := by
  refine ⟨by rw [List.length_append, List.length_append, d.len]; rfl, fun i x q h1 h2 => ?_⟩
  rcases get_snoc h1 with ⟨l1, h1⟩ | ⟨l1, rfl⟩
  · rcases get_snoc h2 with ⟨l2, h2⟩ | ⟨l2, rfl⟩
    · exact d.at_ i x q h1 h2
    · have := d.len; omega
  · rcases get_snoc h2 with ⟨l2, h2⟩ | ⟨l2, rfl⟩
    · have := d.len; omega
    · exact ⟨p, rfl, h⟩
theorem IL.nil {H : Hp} : IL H [] [] := ⟨rfl, fun i x v h => by simp at h⟩
theorem IL.app {H : Hp} {xs ys : List V} {ps qs : List (List Int)} (d : IL H xs ps) (d2 : IL H ys qs) : IL H (xs ++ ys) (ps ++ qs) := by
  refine ⟨by rw [List.length_append, List.length_append, d.len, d2.len], fun i x p h1 h2 => ?_⟩
  by_cases hi : i < xs.length
  · rw [List.getElem?_append_left hi] at h1
    rw [List.getElem?_append_left (by rw [← d.len]; exact hi)] at h2
    exact d.at_ i x p h1 h2
  · rw [List.getElem?_append_right (Nat.le_of_not_lt hi)] at h1
    rw [List.getElem?_append_right (by rw [← d.len]; exact Nat.le_of_not_lt hi), ← d.len] at h2
    exact d2.at_ _ x p h1 h2
theorem IL.upd {H : Hp} {D : Addr} {zs xs : List V} {os : List (List Int)} (d : IL H xs os) (hD : ∀ x ∈ xs, x ≠ V.ref D) : IL (L2.upd H D (.lst zs)) xs os :=
  ⟨d.len, fun i x p h1 h2 => let ⟨t, e, h⟩ := d.at_ i x p h1 h2; ⟨t, e, by rw [upd_ne (fun q => hD x (List.mem_of_getElem? h1) (by rw [e, q]))]; exact h⟩⟩
/-- a drawn visit of the first five ticks -/
structure Few (v : Vp) : Prop where
  t0 : 1 ≤ v.t
  t1 : v.t ≤ 4
  s0 : 0 ≤ v.s
  s1 : v.s ≤ 3
  b0 : 0 ≤ v.b
  e0 : ∃ z, v.e = some z ∧ v.b ≤ z ∧ z ≤ 5
theorem Few.ok {v : Vp} (h : Few v) : OkV v.t v.s v.b v.e := by
  obtain ⟨z, e, h1, h2⟩ := h.e0
  have := h.t0; have := h.t1; have := h.s0; have := h.s1; have := h.b0
  exact ⟨by omega, by omega, by omega, by omega, by omega, by omega, fun x hx => by rw [e] at hx; cases hx; omega, fun x hx => by rw [e] at hx; cases hx; omega⟩
open Classical in
noncomputable def filt (f : Int → Int) (l : List (List Int)) : List (List Int) := l.filter fun u => decide (KeepP f u)
theorem recs_filt (f : Int → Int) (m k : Nat) : recsM f m (k + 1) = filt f ((recsM f m k).flatMap fun u => (List.range m).map fun (x : Nat) => u ++ [(x : Int)]) := rfl
theorem filt_take {f : Int → Int} {l : List (List Int)} {i : Nat} {u : List Int} (h : l[i]? = some u) {b : Bool} (hb : b = true ↔ KeepP f u) : filt f (l.take (i + 1)) = filt f (l.take i) ++ if b = true then [u] else [] := by
  unfold filt
  rw [List.take_add_one, h, List.filter_append]
  congr 1
  by_cases c : KeepP f u
  · rw [if_pos (hb.mpr c)]
    show List.filter _ [u] = _
    rw [List.filter_cons, if_pos (@decide_eq_true _ (Classical.propDecidable _) c)]
    rfl
  · rw [if_neg fun e => c (hb.mp e)]
    show List.filter _ [u] = _
    rw [List.filter_cons, if_neg]
    · rfl
    · intro e
      exact c (@of_decide_eq_true _ (Classical.propDecidable _) e)
def sp_l_parts (_ : PySem.W.Frag) (_ : Ad) : Sp := fun vs H Q _ => ∃ (r : Addr), vs = [.ref r] ∧ Rng H r ∧ ∀ H' l v, Ext r H H' → H l = none → l ≠ r → H' l = some (.lst (prt v.t v.s v.b v.e)) → Few v → Q (.ref l) H'
def sp_l_keeps (K : PySem.W.Frag) (_ : Ad) : Sp := fun vs H Q _ => ∃ (t l u : Addr) (xs : List Int) (p g : Int) (us : List Int), vs = [.ref t, .ref u] ∧ RowAt H t l xs p g ∧ H u = some (.lst (us.map V.int)) ∧ us.length ≤ 1000 ∧
  ∀ H' b, Same H H' → (b = true ↔ KeepP (cvAt xs p g) us) → Q (.bl b) H'
def sp_l_records (_ : PySem.W.Frag) (_ : Ad) : Sp := fun vs H Q _ => ∃ (t l : Addr) (xs : List Int) (p g : Int), vs = [.ref t, .int 5] ∧ RowAt H t l xs p g ∧ 0 ≤ cvAt xs p g 1 ∧ cvAt xs p g 1 ≤ 2 ∧
  ∀ H' q ys, Same H H' → H q = none → H' q = some (.lst ys) → IL H' ys (recsM (cvAt xs p g) (cvAt xs p g 1 + 1).toNat 5) → Q (.ref q) H'
section
variable {P : Program} {w : World} {K : PySem.W.Frag} {mg : Str → Option Value} {base : Heap} {A : Ad}
theorem ok_l_parts (T : Txt K mg A) : FnOk P w K mg base CX0 3 A.f_l_parts A.d_l_parts ["_law_rng_here"] (sp_l_parts K A) := by
  have G_l_draw := ok_l_draw (P := P) (w := w) (base := base) T
  refine T.F_l_parts.ok sc_l_parts (fun vs H Q E h => ?_) (fun cdv A0 outer s H vs Q E hr h => ?_)
  · obtain ⟨r, rfl, hr0, k⟩ := h
    rfl
  · obtain ⟨r, rfl, hr0, k⟩ := h
    refine ⟨_, (pss_cons (ps_set (i := 1) sc_l_parts.nd rfl (by first | exact Or.inl rfl | exact Or.inr rfl) (pe_call G_l_draw (hr.mono (by decide)) rfl T.m_l_draw T.k_l_draw T.b_l_draw .nil pass0 (pa_cons (pv 0) (pa_cons pe_int pa_nil))))
    (pss_one (ps_ret (pe_lst (pa_cons (pe_op op_add pe_int (pe_call G_l_draw (hr.mono (by decide)) rfl T.m_l_draw T.k_l_draw T.b_l_draw .nil pass0 (pa_cons (pv 0) (pa_cons pe_int pa_nil)))) (pa_cons (pe_call G_l_draw (hr.mono (by decide)) rfl T.m_l_draw T.k_l_draw T.b_l_draw .nil pass0 (pa_cons (pv 0) (pa_cons pe_int pa_nil))) (pa_cons (pv 1) (pa_cons (pe_op op_add (pv 1) (pe_call G_l_draw (hr.mono (by decide)) rfl T.m_l_draw T.k_l_draw T.b_l_draw .nil pass0 (pa_cons (pv 0) (pa_cons (pe_op op_sub pe_int (pv 1)) pa_nil)))) pa_nil)))))))), ?_⟩
    refine ⟨_, rfl, r, _, rfl, hr0, by decide, by decide, fun H1 d0 e1 d00 d01 => ?_⟩
    refine ⟨_, rfl, r, _, rfl, e1.rng, by decide, by decide, fun H2 d1 e2 d10 d11 => ⟨_, _, rfl, rfl, ?_⟩⟩
    refine ⟨_, rfl, r, _, rfl, e2.rng, by decide, by decide, fun H3 d2 e3 d20 d21 => ?_⟩
    refine ⟨_, rfl, _, rfl, _, rfl, _, rfl, _, _, rfl, rfl, r, _, rfl, e3.rng, by omega, by omega, fun H4 d3 e4 d30 d31 => ⟨_, _, rfl, rfl, ?_⟩⟩
    have e04 := ((e1.trans e2).trans e3).trans e4
    refine ⟨(by show 4 ≤ sizeLine; decide), fun l hl => ?_⟩
    have hl0 : H l = none := e04.free hl
    refine k _ l ⟨1 + d1, d2, d0, some (d0 + d3)⟩ (e04.put hl0 (hr0.ne hl0)) hl0 (hr0.ne hl0) upd_same ⟨?_, ?_, ?_, ?_, ?_, d0 + d3, rfl, ?_, ?_⟩
    all_goals first | omega | (simp only []; omega)
theorem ok_l_keeps (T : Txt K mg A) : FnOk P w K mg base CX0 2 A.f_l_keeps A.d_l_keeps ["_law_row_here", "_law_record"] (sp_l_keeps K A) := by
  have G_l_at := ok_l_at (P := P) (w := w) (base := base) T
  refine T.F_l_keeps.ok sc_l_keeps (fun vs H Q E h => ?_) (fun cdv A0 outer s H vs Q E hr h => ?_)
  · obtain ⟨t, l, u, xs, p, g, us, rfl, R, hu, hn, k⟩ := h
    rfl
  · obtain ⟨t, l, u, xs, p, g, us, rfl, R, hu, hn, k⟩ := h
    refine ⟨_, (pss_cons (ps_for PassesOwn.never rfl (pi_range1 rfl T.range (pa_cons (pe_callB (r := VG.rLen K) VG.call_len (by rfl) T.len (by decide +kernel) (pa_cons (pv 1) pa_nil)) pa_nil)) (pg_name (i := 2) sc_l_keeps.nd rfl (by first | exact Or.inl rfl | exact Or.inr rfl))
      (pss_one (ps_for PassesOwn.never rfl (pi_range2 rfl T.range (pa_cons (pe_op op_add (pv 2) pe_int) (pa_cons (pe_op op_add (pe_callB (r := VG.rLen K) VG.call_len (by rfl) T.len (by decide +kernel) (pa_cons (pv 1) pa_nil)) pe_int) pa_nil))) (pg_name (i := 3) sc_l_keeps.nd rfl (by first | exact Or.inl rfl | exact Or.inr rfl))
      (pss_one (ps_if (pt_cmpR op_gt (pe_callB (r := rSum K) (cr_sum rfl) (by rfl) T.sum (by decide +kernel) (pa_cons (pe_slice (r := rSlL K) sl_list (pv 1) (po_some (pv 2)) (po_some (pv 3))) pa_nil)) (pe_call G_l_at (hr.mono (by decide)) rfl T.m_l_at T.k_l_at T.b_l_at .nil pass0 (pa_cons (pv 0) (pa_cons (pe_op op_sub (pv 3) (pv 2)) pa_nil))) (nomark _)) (pss_one (ps_ret pe_bl)) pss_nil)))))
    (pss_one (ps_ret pe_bl))), ?_⟩
    obtain ⟨p0, p12, pn, n1, n0⟩ := R.pp
    have hS : SqL K H u (us.map V.int) := SqL.of hu
    have lm : (us.map V.int).length = us.length := List.length_map _
    refine ⟨_, rfl, u, _, rfl, .inl hS, _, rfl, by omega, by omega, for_range (lo := 0) (n := (((us.map V.int).length : Nat) : Int).toNat) (fun i σ H' => ∃ (v2 v3 : Option V), σ = [some (.ref t), some (.ref u), v2, v3] ∧ Same H H' ∧ ∀ a b : Nat, a < i → a < b → b ≤ us.length → VLp.pre us b - VLp.pre us a ≤ cvAt xs p g ((b : Int) - a))
      ⟨_, _, rfl, Same.refl _, fun a b h => absurd h (Nat.not_lt_zero _)⟩ ?_ ?_⟩
    · rintro i σ H1 hi ⟨v2, v3, rfl, s1, ok⟩
      have hi' : i < us.length := by omega
      have hS1 := s1.seq hS
      refine ⟨_, rfl, _, _, rfl, rfl, _, rfl, u, _, rfl, .inl hS1, _, _, rfl, rfl, _, _, rfl, ⟨by omega, by omega, by omega, by omega⟩, ?_⟩
      refine for_range (lo := 0 + (i : Int) + 1) (n := ((((us.map V.int).length : Nat) : Int) + 1 - (0 + (i : Int) + 1)).toNat) (fun j σ H' => ∃ (v3 : Option V), σ = [some (.ref t), some (.ref u), some (.int (0 + (i : Int))), v3] ∧ Same H1 H' ∧ ∀ b : Nat, i < b → b ≤ i + j → VLp.pre us b - VLp.pre us i ≤ cvAt xs p g ((b : Int) - i))
        ⟨_, rfl, Same.refl _, fun b h1 h2 => absurd h2 (by omega)⟩ ?_ ?_
      · rintro j σ H2 hj ⟨v3, rfl, s2, ok2⟩
        have e1 : (0 : Int) + (i : Int) = ((i : Nat) : Int) := Int.zero_add _
        have e2 : (i : Int) + 1 + (j : Int) = ((i + 1 + j : Nat) : Int) := by omega
        rw [e1, e2]
        have hb : i + 1 + j ≤ us.length := by omega
        refine ⟨_, rfl, _, rfl, _, rfl, _, rfl, _, rfl, u, _, rfl, s2.seq hS1, fun z hz => ?_⟩
        have ec : cutV (us.map V.int) (some ((i : Nat) : Int)) (some ((i + 1 + j : Nat) : Int)) = (((us.take (i + 1 + j)).drop i).map V.int) := by
          rw [cut_nat (by omega) (by omega), List.map_drop, List.map_take, List.drop_take]
        rw [ec]
        have es := sum_slice us (i := i) (j := i + 1 + j) (by omega)
        have s3 := (s1.trans s2).trans (Same.upd (o := .lst (((us.take (i + 1 + j)).drop i).map V.int)) (Same.refl H2) hz)
        have s23 := s2.trans (Same.upd (o := .lst (((us.take (i + 1 + j)).drop i).map V.int)) (Same.refl H2) hz)
        refine ⟨z, _, rfl, SqL.of upd_same, ?_⟩
        rw [es]
        generalize upd H2 z (.lst (((us.take (i + 1 + j)).drop i).map V.int)) = H3 at *
        have R3 := R.same s3
        refine ⟨_, rfl, _, rfl, _, rfl, _, _, rfl, rfl, t, l, xs, p, g, _, rfl, SqT.of R3.tup, SqL.of R3.lst, p0, pn, n1, by omega, by omega, _, _, rfl, rfl, _, rfl, ifD (fun c => ?_) (fun c => ?_)⟩
        · refine k H3 false s3 ⟨fun h => (nomatch h), fun h => ?_⟩
          have := h i (i + 1 + j) (by omega) hb
          omega
        · refine ⟨_, rfl, s23, fun b h1 h2 => ?_⟩
          by_cases hbb : b ≤ i + j
          · exact ok2 b h1 hbb
          · have : b = i + 1 + j := by omega
            subst this
            omega
      · rintro σ H2 ⟨v3, rfl, s2, ok2⟩
        refine ⟨_, _, rfl, s1.trans s2, fun a b h1 h2 h3 => ?_⟩
        by_cases ha : a < i
        · exact ok a b ha h2 h3
        · have : a = i := by omega
          subst this
          exact ok2 b h2 (by omega)
    · rintro σ H1 ⟨v2, v3, rfl, s1, ok⟩
      refine k H1 true s1 ⟨fun _ => fun a b h1 h2 => ok a b (by omega) h1 h2, fun _ => rfl⟩
theorem ok_l_records (T : Txt K mg A) : FnOk P w K mg base CX0 3 A.f_l_records A.d_l_records ["_law_row_here", "_law_many"] (sp_l_records K A) := by
  have G_l_at := ok_l_at (P := P) (w := w) (base := base) T
  have G_l_keeps := ok_l_keeps (P := P) (w := w) (base := base) T
  refine T.F_l_records.ok sc_l_records (fun vs H Q E h => ?_) (fun cdv A0 outer s H vs Q E hr h => ?_)
  · obtain ⟨t, l, xs, p, g, rfl, R, f0, f2, k⟩ := h
    rfl
  · obtain ⟨t, l, xs, p, g, rfl, R, f0, f2, k⟩ := h
    refine ⟨_, (pss_cons (ps_set (i := 2) sc_l_records.nd rfl (by first | exact Or.inl rfl | exact Or.inr rfl) (pe_lst (pa_cons (pe_lst pa_nil) pa_nil)))
    (pss_cons (ps_for PassesOwn.never rfl (pi_range1 rfl T.range (pa_cons (pv 1) pa_nil)) (pg_name (i := 3) sc_l_records.nd rfl (by first | exact Or.inl rfl | exact Or.inr rfl))
      (pss_cons (ps_set (i := 4) sc_l_records.nd rfl (by first | exact Or.inl rfl | exact Or.inr rfl) (pe_lst pa_nil))
    (pss_cons (ps_for PassesOwn.never rfl (pi_list (pv 2)) (pg_name (i := 5) sc_l_records.nd rfl (by first | exact Or.inl rfl | exact Or.inr rfl))
      (pss_one (ps_set (i := 4) sc_l_records.nd rfl (by first | exact Or.inl rfl | exact Or.inr rfl) (pe_op op_cat (pv 4) (pe_lc (own := [("_law_units", 6)]) (g := gName 6) (tt := tYes) rfl sc_l_records.nd (pi_range1 rfl T.range (pa_cons (pe_op op_add (pe_call G_l_at (hr.mono (by decide)) rfl T.m_l_at T.k_l_at T.b_l_at .nil pass0 (pa_cons (pv 0) (pa_cons pe_int pa_nil))) pe_int) pa_nil)) (blkOk_by (own := [("_law_units", 6)]) (N := ["_law_row_here", "_law_many", "_law_found", "_law_turn", "_law_longer", "_law_record", "_law_units"]) (sc := defScope s_l_records) (by decide +kernel)) (fun _ _ _ _ _ => pg_name (i := 6) sc_l_records.nd rfl (by first | exact Or.inl rfl | exact Or.inr rfl)) (fun _ _ _ _ _ => pts_nil) (fun _ _ _ _ _ => (pe_op op_cat (pv 5) (pe_lst (pa_cons (pv 6) pa_nil)))))))))
    (pss_one (ps_setLc (i := 2) (own := [("_law_record", 5)]) (g := gName 5) rfl sc_l_records.nd rfl rfl (sw_true rfl rfl rfl (by decide +kernel)) (pi_list (pv 4)) (blkOk_by (own := [("_law_record", 5)]) (N := ["_law_row_here", "_law_many", "_law_found", "_law_turn", "_law_longer", "_law_record", "_law_units"]) (sc := defScope s_l_records) (by decide +kernel)) (fun _ _ _ _ _ => pg_name (i := 5) sc_l_records.nd rfl (by first | exact Or.inl rfl | exact Or.inr rfl)) (fun _ _ _ _ _ => (pts_one (pt_val (pe_call G_l_keeps (hr.mono (by decide)) rfl T.m_l_keeps T.k_l_keeps T.b_l_keeps .nil pass0 (pa_cons (pv 0) (pa_cons (pv 5) pa_nil)))))) (fun _ _ _ _ _ => (pv 5)))))))
    (pss_one (ps_ret (pv 2))))), ?_⟩
    obtain ⟨p0, p12, pn, n1, n0⟩ := R.pp
    generalize hm : (cvAt xs p g 1 + 1).toNat = m at *
    have m3 : m ≤ 3 := by omega
    have rl : ∀ k, k ≤ 5 → (recsM (cvAt xs p g) m k).length ≤ 243 := fun k hk => by
      refine Nat.le_trans (recs_len k) ?_
      refine Nat.le_trans (Nat.pow_le_pow_left m3 k) ?_
      exact Nat.le_trans (Nat.pow_le_pow_right (by decide) hk) (by decide)
    have flat : ∀ j k, k ≤ 5 → (((recsM (cvAt xs p g) m k).take j).flatMap fun u => (List.range m).map fun (x : Nat) => u ++ [(x : Int)]).length ≤ 729 := fun j k hk => by
      have : ∀ l : List (List Int), (l.flatMap fun u => (List.range m).map fun (x : Nat) => u ++ [(x : Int)]).length = l.length * m := by
        intro l
        induction l with
        | nil => simp
        | cons u l ih => rw [List.flatMap_cons, List.length_append, ih, List.length_map, List.length_range, List.length_cons, Nat.succ_mul]; omega
      rw [this, List.length_take]
      have a := rl k hk
      have b : min j (recsM (cvAt xs p g) m k).length ≤ 243 := Nat.le_trans (Nat.min_le_right _ _) a
      exact Nat.le_trans (Nat.mul_le_mul b m3) (by decide)
    refine ⟨(by show 0 ≤ sizeLine; decide), fun e he => ⟨(by show 1 ≤ sizeLine; decide), fun D hD => ?_⟩⟩
    have h1 := Same.upd (o := .lst []) (Same.refl H) he
    have hs := Same.upd (o := .lst [V.ref e]) h1 (h1.free hD)
    have neD : e ≠ D := fun q => by rw [← q, upd_same] at hD; cases hD
    refine ⟨_, rfl, _, rfl, by omega, by omega, for_range (lo := 0) (n := (5 : Int).toNat) (fun i σ H' => ∃ (F : Addr) (ys : List V) (v3 v4 v5 : Option V), σ = [some (.ref t), some (.int 5), some (.ref F), v3, v4, v5, none] ∧ H F = none ∧ H' F = some (.lst ys) ∧ IL H' ys (recsM (cvAt xs p g) m i) ∧ Same H H')
      ⟨D, [.ref e], _, _, _, rfl, h1.free hD, upd_same, IL.snoc (xs := []) (os := []) .nil (by rw [upd_ne neD, upd_same]; rfl), hs⟩ ?_ ?_⟩
    · rintro i σ H1 hi ⟨F, ys, v3, v4, v5, rfl, hF, hy, dy, s1⟩
      have hi5 : i < 5 := hi
      refine ⟨(by show 0 ≤ sizeLine; decide), fun L hL => ?_⟩
      have sL := Same.upd (o := .lst []) (Same.refl H1) hL
      refine ⟨_, rfl, F, rfl, ⟨ys, sL.seq (SqL.of hy)⟩, for_list (xs := ys) (fun j σ H2 => ∃ (L : Addr) (zs : List V) (v5 : Option V), σ = [some (.ref t), some (.int 5), some (.ref F), some (.int (0 + (i : Int))), some (.ref L), v5, none] ∧ H L = none ∧ H2 L = some (.lst zs) ∧ IL H2 zs (((recsM (cvAt xs p g) m i).take j).flatMap fun u => (List.range m).map fun (x : Nat) => u ++ [(x : Int)]) ∧ Same H1 H2)
        ⟨L, [], _, rfl, s1.free hL, upd_same, .nil, sL⟩ (fun j σ H2 _ ⟨_, _, _, _, _, _, _, s⟩ => s.seq (SqL.of hy)) ?_ ?_⟩
      · rintro j u σ H2 hu ⟨L2, zs, v5', rfl, hL2, hz, dz, s2⟩
        obtain ⟨l', v, ev, rfl, hlv⟩ := dy.get hu
        have hl2 := s2 _ _ hlv
        have vl : v.length = i := (recs_of (List.mem_of_getElem? ev)).1
        have jl := (List.getElem?_eq_some_iff.mp ev).1
        have ri := rl i (by omega)
        have R2 := R.same (s1.trans s2)
        refine ⟨_, rfl, _, rfl, t, l, xs, p, g, 1, rfl, SqT.of R2.tup, SqL.of R2.lst, p0, pn, n1, by decide, by decide, _, _, rfl, rfl, _, rfl, by omega, by omega, fun E hE => lc_range (lo := 0) (n := (cvAt xs p g 1 + 1).toNat) (fun q H3 => ∃ us, H3 E = some (.lst us) ∧ IL H3 us ((List.range q).map fun (x : Nat) => v ++ [(x : Int)]) ∧ (∀ x ∈ us, x ≠ V.ref E) ∧ Same H2 H3) ⟨[], upd_same, .nil, (fun x hx => nomatch hx), Same.upd (Same.refl _) hE⟩ ?_ ?_⟩
        · rintro q H3 hq ⟨us, hus, du, dn, s3⟩
          have hlo3 := s3 _ _ hl2
          have eu : us.length ≤ 3 := by rw [du.len, List.length_map, List.length_range]; omega
          refine ⟨rfl, _, rfl, _, rfl, (by show 1 ≤ sizeLine; decide), fun z hz' => ?_⟩
          rw [show (0 : Int) + (q : Int) = (q : Int) from Int.zero_add _]
          have s4 := Same.upd (o := .lst [V.int (q : Int)]) s3 (s3.free hz')
          refine ⟨l', z, v.map V.int, [.int (q : Int)], rfl, rfl, s4 _ _ hl2, upd_same, by rw [sizeLine_eq]; simp only [List.length_map, List.length_singleton]; omega, fun y hy' => ?_⟩
          have hE3 : upd H3 z (.lst [V.int (q : Int)]) E = some (.lst us) := by rw [upd_ne (ne_of_none hus hz')]; exact hus
          have neE : y ≠ E := fun w => by rw [w, hE3] at hy'; cases hy'
          have s5 := Same.upd (o := .lst (v.map V.int ++ [V.int (q : Int)])) s4 (s4.free hy')
          refine ⟨us, by rw [upd_ne (Ne.symm neE)]; exact hE3, small (by omega), us ++ [.ref y], upd_same, ?_, ?_, Same.upd s5 hE⟩
          · have d5 : IL (upd (upd H3 z (.lst [V.int (q : Int)])) y (.lst (v.map V.int ++ [V.int (q : Int)]))) (us ++ [.ref y]) ((List.range q).map (fun (x : Nat) => v ++ [(x : Int)]) ++ [v ++ [(q : Int)]]) := by
              refine ((du.same (Same.upd (Same.refl _) hz')).same (Same.upd (Same.refl _) hy')).snoc ?_
              rw [upd_same, List.map_append]
              rfl
            rw [List.range_succ, List.map_append]
            refine d5.upd fun x hx => ?_
            rcases List.mem_append.mp hx with hx | hx
            · exact dn x hx
            · rw [List.mem_singleton.mp hx]
              exact fun w => neE (by injection w)
          · intro x hx
            rcases List.mem_append.mp hx with hx | hx
            · exact dn x hx
            · rw [List.mem_singleton.mp hx]
              exact fun w => neE (by injection w)
        · rintro H3 ⟨us, hus, du, dn, s3⟩
          have eu : us.length ≤ 3 := by rw [du.len, List.length_map, List.length_range, hm]; exact m3
          have lz : zs.length ≤ 729 := by rw [dz.len]; exact flat j i (by omega)
          refine ⟨L2, E, zs, us, rfl, rfl, s3 _ _ hz, hus, by rw [sizeLine_eq]; omega, fun M hM => ?_⟩
          have s23 := s2.trans s3
          have sM := Same.upd (o := .lst (zs ++ us)) s23 (s23.free hM)
          refine ⟨M, zs ++ us, _, rfl, (s1.trans s23).free hM, upd_same, ?_, sM⟩
          rw [List.take_add_one, ev, List.flatMap_append]
          rw [hm] at du
          have e : List.flatMap (fun u => List.map (fun (x : Nat) => u ++ [(x : Int)]) (List.range m)) (some v).toList = List.map (fun (x : Nat) => v ++ [(x : Int)]) (List.range m) := by
            show List.flatMap _ [v] = _
            rw [List.flatMap_singleton]
          rw [e]
          exact ((dz.same s3).app du).same (Same.upd (Same.refl _) hM)
      · rintro σ H2 ⟨L2, zs, v5', rfl, hL2, hz, dz, s2⟩
        rw [dy.len, List.take_length] at dz
        have lz := flat (recsM (cvAt xs p g) m i).length i (by omega)
        rw [List.take_length] at lz
        have lz' := dz.len
        have pl : ∀ u ∈ (recsM (cvAt xs p g) m i).flatMap (fun u => (List.range m).map fun (x : Nat) => u ++ [(x : Int)]), u.length ≤ 1000 := fun u hu => by
          obtain ⟨w, hw, h2⟩ := List.mem_flatMap.mp hu
          obtain ⟨x, _, rfl⟩ := List.mem_map.mp h2
          rw [List.length_append, (recs_of hw).1]
          show i + 1 ≤ 1000
          omega
        have s02 := s1.trans s2
        have hSz := SqL.of (K := K) hz
        refine ⟨_, rfl, L2, rfl, ⟨zs, hSz⟩, fun E hE => lc_list (xs := zs) (fun j H3 => ∃ us, H3 E = some (.lst us) ∧ IL H3 us (filt (cvAt xs p g) (((recsM (cvAt xs p g) m i).flatMap (fun u => (List.range m).map fun (x : Nat) => u ++ [(x : Int)])).take j)) ∧ (∀ x ∈ us, x ≠ V.ref E) ∧ Same H2 H3) ⟨[], upd_same, .nil, (fun x hx => nomatch hx), Same.upd (Same.refl _) hE⟩ (fun j H3 _ ⟨_, q⟩ => q.2.2.2.seq hSz) ?_ ?_⟩
        · rintro j u H3 hu ⟨us, hus, du, dn, s3⟩
          obtain ⟨l', v, ev, rfl, hlv⟩ := dz.get hu
          have nlE : l' ≠ E := ne_of_none hlv hE
          have hl3 := s3 _ _ hlv
          have R3 := R.same (s02.trans s3)
          refine ⟨rfl, _, rfl, _, rfl, t, l, l', xs, p, g, v, rfl, R3, hl3, pl v (List.mem_of_getElem? ev), fun H4 b s4 hb => ?_⟩
          rw [filt_take ev hb]
          have lu : us.length ≤ 729 := by
            rw [du.len]
            unfold filt
            refine Nat.le_trans (List.length_filter_le _ _) ?_
            rw [List.length_take]
            omega
          cases b with
          | false =>
            refine ⟨_, rfl, iteF ⟨us, s4 _ _ hus, ?_, dn, s3.trans s4⟩⟩
            rw [if_neg Bool.false_ne_true, List.append_nil]
            exact du.same s4
          | true =>
            refine ⟨_, rfl, iteT ⟨_, rfl, us, s4 _ _ hus, small (by omega), us ++ [.ref l'], upd_same, ?_, ?_, Same.upd (s3.trans s4) hE⟩⟩
            · rw [if_pos rfl]
              refine ((du.same s4).snoc (s4 _ _ hl3)).upd fun x hx => ?_
              rcases List.mem_append.mp hx with hx | hx
              · exact dn x hx
              · rw [List.mem_singleton.mp hx]
                exact fun w => nlE (by injection w)
            · intro x hx
              rcases List.mem_append.mp hx with hx | hx
              · exact dn x hx
              · rw [List.mem_singleton.mp hx]
                exact fun w => nlE (by injection w)
        · rintro H3 ⟨us, hus, du, dn, s3⟩
          rw [lz', List.take_length] at du
          exact ⟨E, us, _, _, _, rfl, s02.free hE, hus, du, s02.trans s3⟩
    · rintro σ H1 ⟨F, ys, v3, v4, v5, rfl, hF, hy, dy, s1⟩
      exact ⟨_, rfl, k H1 F ys s1 hF hy dy⟩
end
end VK


namespace VK
open PySem PySem.Spec PyProof.Rows L2 VM VLp
def Urg (v : Vp) (lo hi : Int) (t : Int) : Prop := v.b ≤ t ∧ t < v.e.getD 0 ∧ lo ≤ t + v.s ∧ t + v.s + v.t ≤ hi
def Plc (v : Vp) (n : Int) (t : Int) : Prop := v.b ≤ t ∧ t < v.e.getD 0 ∧ t + v.s ≤ n ∧ n < t + v.s + v.t
instance (v : Vp) (lo hi t : Int) : Decidable (Urg v lo hi t) := by unfold Urg; infer_instance
instance (v : Vp) (n t : Int) : Decidable (Plc v n t) := by unfold Plc; infer_instance
def kU (ws : List Vp) (lo hi : Int) (t : Nat) : Int := ((ws.filter fun v => decide (Urg v lo hi t)).length : Nat)
def kP (ws : List Vp) (n : Int) (t : Nat) : Int := ((ws.filter fun v => decide (Plc v n t)).length : Nat)
/-- a sum over a stretch -/
theorem cnt_st {us : List Int} (hl : us.length = 5) {b z F B : Int} (b0 : 0 ≤ b) (z5 : z ≤ 5) {K : Nat → Int} (hK : ∀ t : Nat, K t = if b ≤ (t : Int) ∧ (t : Int) < z ∧ F ≤ (t : Int) ∧ (t : Int) < B then 1 else 0) :
    cntK us K 5 = val (VLp.pre us) (stM b (some z) F B).toList := by
  obtain ⟨x0, x1, x2, x3, x4, rfl⟩ : ∃ x0 x1 x2 x3 x4, us = [x0, x1, x2, x3, x4] := by
    match us, hl with
    | [x0, x1, x2, x3, x4], _ => exact ⟨x0, x1, x2, x3, x4, rfl⟩
  have e : K = fun t : Nat => if (if b < F then F else b) ≤ (t : Int) ∧ (t : Int) < (if B < z then B else z) then 1 else 0 := by
    funext t
    rw [hK]
    by_cases c : b ≤ (t : Int) ∧ (t : Int) < z ∧ F ≤ (t : Int) ∧ (t : Int) < B
    · rw [if_pos c, if_pos]
      obtain ⟨c1, c2, c3, c4⟩ := c
      constructor
      · split <;> omega
      · split <;> omega
    · rw [if_neg c, if_neg]
      intro d
      obtain ⟨d1, d2⟩ := d
      refine c ?_
      by_cases h1 : b < F <;> by_cases h2 : B < z
      · rw [if_pos h1] at d1; rw [if_pos h2] at d2; omega
      · rw [if_pos h1] at d1; rw [if_neg h2] at d2; omega
      · rw [if_neg h1] at d1; rw [if_pos h2] at d2; omega
      · rw [if_neg h1] at d1; rw [if_neg h2] at d2; omega
  rw [e, cnt_in (by split <;> omega) (by split <;> omega)]
  have eB' : eB (some z) B = if B < z then B else z := rfl
  unfold stM
  rw [eB']
  by_cases c : (if b < F then F else b) < (if B < z then B else z)
  · rw [if_pos c, if_neg (Int.not_le.mpr c)]
    show _ = (_ - _) + 0
    rw [Int.add_zero]
  · rw [if_neg c, if_pos (Int.not_lt.mp c)]
    rfl
theorem cnt_us {us : List Int} (hl : us.length = 5) (lo hi : Int) : ∀ {ws : List Vp}, (∀ v ∈ ws, Few v) → cntK us (kU ws lo hi) 5 = val (VLp.pre us) (ustsM ws lo hi)
  | [], _ => cntK_zero us 5
  | v :: ws, h => by
    have ih := cnt_us hl lo hi (ws := ws) fun w hw => h w (List.mem_cons_of_mem _ hw)
    obtain ⟨z, ez, z0, z5⟩ := (h v (List.mem_cons_self ..)).e0
    have b0 := (h v (List.mem_cons_self ..)).b0
    have e : kU (v :: ws) lo hi = fun (t : Nat) => (if v.b ≤ (t : Int) ∧ (t : Int) < z ∧ lo - v.s ≤ (t : Int) ∧ (t : Int) < hi - v.t - v.s + 1 then 1 else 0) + kU ws lo hi t := by
      funext t
      unfold kU
      rw [List.filter_cons]
      by_cases c : Urg v lo hi t
      · have c' : v.b ≤ (t : Int) ∧ (t : Int) < z ∧ lo - v.s ≤ (t : Int) ∧ (t : Int) < hi - v.t - v.s + 1 := by
          obtain ⟨c1, c2, c3, c4⟩ := c
          rw [ez] at c2
          have c2 : (t : Int) < z := c2
          omega
        rw [if_pos (decide_eq_true c), if_pos c', List.length_cons]
        omega
      · have c' : ¬ (v.b ≤ (t : Int) ∧ (t : Int) < z ∧ lo - v.s ≤ (t : Int) ∧ (t : Int) < hi - v.t - v.s + 1) := fun d => c (by
          refine ⟨d.1, ?_, by omega, by omega⟩
          rw [ez]; exact d.2.1)
        rw [if_neg (by rw [decide_eq_false c]; exact Bool.false_ne_true), if_neg c']
        omega
    rw [e, cntK_add, ih, cnt_st hl b0 z5 (F := lo - v.s) (B := hi - v.t - v.s + 1) fun t => rfl]
    have e2 : ustsM (v :: ws) lo hi = (ustM v lo hi).toList ++ ustsM ws lo hi := by
      unfold ustsM
      rw [List.map_cons, List.filterMap_cons]
      cases ustM v lo hi <;> rfl
    have e3 : ustM v lo hi = stM v.b (some z) (lo - v.s) (hi - v.t - v.s + 1) := by unfold ustM; rw [ez]
    rw [e2, e3]
    unfold val
    rw [List.map_append, List.sum_append]
theorem cnt_ps {us : List Int} (hl : us.length = 5) (n : Int) : ∀ {ws : List Vp}, (∀ v ∈ ws, Few v) → cntK us (kP ws n) 5 = val (VLp.pre us) (pstsM ws n)
  | [], _ => cntK_zero us 5
  | v :: ws, h => by
    have ih := cnt_ps hl n (ws := ws) fun w hw => h w (List.mem_cons_of_mem _ hw)
    obtain ⟨z, ez, z0, z5⟩ := (h v (List.mem_cons_self ..)).e0
    have b0 := (h v (List.mem_cons_self ..)).b0
    have e : kP (v :: ws) n = fun (t : Nat) => (if v.b ≤ (t : Int) ∧ (t : Int) < z ∧ n - v.t + 1 - v.s ≤ (t : Int) ∧ (t : Int) < n + 1 - v.s then 1 else 0) + kP ws n t := by
      funext t
      unfold kP
      rw [List.filter_cons]
      by_cases c : Plc v n t
      · have c' : v.b ≤ (t : Int) ∧ (t : Int) < z ∧ n - v.t + 1 - v.s ≤ (t : Int) ∧ (t : Int) < n + 1 - v.s := by
          obtain ⟨c1, c2, c3, c4⟩ := c
          rw [ez] at c2
          have c2 : (t : Int) < z := c2
          omega
        rw [if_pos (decide_eq_true c), if_pos c', List.length_cons]
        omega
      · have c' : ¬ (v.b ≤ (t : Int) ∧ (t : Int) < z ∧ n - v.t + 1 - v.s ≤ (t : Int) ∧ (t : Int) < n + 1 - v.s) := fun d => c (by
          refine ⟨d.1, ?_, by omega, by omega⟩
          rw [ez]; exact d.2.1)
        rw [if_neg (by rw [decide_eq_false c]; exact Bool.false_ne_true), if_neg c']
        omega
    rw [e, cntK_add, ih, cnt_st hl b0 z5 (F := n - v.t + 1 - v.s) (B := n + 1 - v.s) fun t => rfl]
    have e2 : pstsM (v :: ws) n = (pstM v n).toList ++ pstsM ws n := by
      unfold pstsM
      rw [List.map_cons, List.filterMap_cons]
      cases pstM v n <;> rfl
    have e3 : pstM v n = stM v.b (some z) (n - v.t + 1 - v.s) (n + 1 - v.s) := by unfold pstM; rw [ez]
    rw [e2, e3]
    unfold val
    rw [List.map_append, List.sum_append]
def sp_l_urgent (K : PySem.W.Frag) (_ : Ad) : Sp := fun vs H Q _ => ∃ (l : Addr) (v : Vp) (t lo hi : Int), vs = [.ref l, .int t, .int lo, .int hi] ∧ SqL K H l (prt v.t v.s v.b v.e) ∧ Few v ∧ ∀ b, (b = true ↔ Urg v lo hi t) → Q (.bl b) H
def sp_l_placed (K : PySem.W.Frag) (_ : Ad) : Sp := fun vs H Q _ => ∃ (l : Addr) (v : Vp) (t n : Int), vs = [.ref l, .int t, .int n] ∧ SqL K H l (prt v.t v.s v.b v.e) ∧ Few v ∧ ∀ b, (b = true ↔ Plc v n t) → Q (.bl b) H
def sp_l_count (K : PySem.W.Frag) (_ : Ad) : Sp := fun vs H Q _ => ∃ (S u : Addr) (xS : List V) (ws : List Vp) (us : List Int) (lo hi : Int), vs = [.ref S, .ref u, .int lo, .int hi] ∧ SqL K H S xS ∧ Prts H xS ws ∧ (∀ v ∈ ws, Few v) ∧ ws.length ≤ 1000 ∧ SqL K H u (us.map V.int) ∧ us.length = 5 ∧ (∀ x ∈ us, 0 ≤ x ∧ x ≤ 2) ∧
  ∀ H', Same H H' → Q (.int (cntK us (kU ws lo hi) 5)) H'
def sp_l_count_places (K : PySem.W.Frag) (_ : Ad) : Sp := fun vs H Q _ => ∃ (S u : Addr) (xS : List V) (ws : List Vp) (us : List Int) (n : Int), vs = [.ref S, .ref u, .int n] ∧ SqL K H S xS ∧ Prts H xS ws ∧ (∀ v ∈ ws, Few v) ∧ ws.length ≤ 1000 ∧ SqL K H u (us.map V.int) ∧ us.length = 5 ∧ (∀ x ∈ us, 0 ≤ x ∧ x ≤ 2) ∧
  ∀ H', Same H H' → Q (.int (cntK us (kP ws n) 5)) H'
section
variable {P : Program} {w : World} {K : PySem.W.Frag} {mg : Str → Option Value} {base : Heap} {A : Ad}
theorem ok_l_urgent (T : Txt K mg A) : FnOk P w K mg base CX0 1 A.f_l_urgent A.d_l_urgent ["_law_parts_here", "_law_tick", "_law_low", "_law_high"] (sp_l_urgent K A) := by
  refine T.F_l_urgent.ok sc_l_urgent (fun vs H Q E h => ?_) (fun cdv A0 outer s H vs Q E hr h => ?_)
  · obtain ⟨l, v, t, lo, hi, rfl, hS, W, k⟩ := h
    rfl
  · obtain ⟨l, v, t, lo, hi, rfl, hS, W, k⟩ := h
    refine ⟨_, (pss_cons (ps_set (i := 4) sc_l_urgent.nd rfl (by first | exact Or.inl rfl | exact Or.inr rfl) (pe_op op_add (pv 1) (pe_ix (r := rIxL K) ix_list (pv 0) pe_int (fun _ _ => rfl))))
    (pss_one (ps_ret (pe_and (pe_chain op_le op_lt (pe_ix (r := rIxL K) ix_list (pv 0) pe_int (fun _ _ => rfl)) (pv 1) (pe_ix (r := rIxL K) ix_list (pv 0) pe_int (fun _ _ => rfl))) (pe_and (pe_cmpR op_le (pv 2) (pv 4) (nomark _)) (pe_one (pe_cmpR op_le (pe_op op_add (pv 4) (pe_ix (r := rIxL K) ix_list (pv 0) pe_int (fun _ _ => rfl))) (pv 3) (nomark _)))))))), ?_⟩
    obtain ⟨z, ez, z0, z5⟩ := W.e0
    obtain ⟨vt, vs, vb, ve⟩ := v
    cases ez
    refine ⟨_, rfl, _, rfl, l, _, _, _, rfl, rfl, hS, rfl, _, _, rfl, rfl, ?_⟩
    have no : ∀ {c : Prop}, ¬ c → (Urg ⟨vt, vs, vb, some z⟩ lo hi t → c) → ((false = true) ↔ Urg ⟨vt, vs, vb, some z⟩ lo hi t) := fun {c} h i => ⟨fun x => (nomatch x), fun u => absurd (i u) h⟩
    refine ⟨_, rfl, l, _, _, _, rfl, rfl, hS, rfl, _, rfl, _, _, rfl, rfl, _, rfl, ifD (fun c1 => ?_) (fun c1 => ⟨_, rfl, iteF (k false (no c1 fun u => u.1))⟩)⟩
    refine ⟨_, rfl, l, _, _, _, rfl, rfl, hS, rfl, _, _, rfl, rfl, _, rfl, ifD (fun c2 => ?_) (fun c2 => k false (no c2 fun u => u.2.1))⟩
    refine ⟨_, rfl, _, rfl, _, _, rfl, rfl, _, rfl, ifD (fun c3 => ?_) (fun c3 => k false (no c3 fun u => u.2.2.1))⟩
    refine ⟨_, rfl, _, rfl, l, _, _, _, rfl, rfl, hS, rfl, _, _, rfl, rfl, _, rfl, _, _, rfl, rfl, k _ ⟨fun h => ⟨c1, c2, c3, of_decide_eq_true h⟩, fun u => decide_eq_true u.2.2.2⟩⟩
theorem ok_l_placed (T : Txt K mg A) : FnOk P w K mg base CX0 1 A.f_l_placed A.d_l_placed ["_law_parts_here", "_law_tick", "_law_now"] (sp_l_placed K A) := by
  refine T.F_l_placed.ok sc_l_placed (fun vs H Q E h => ?_) (fun cdv A0 outer s H vs Q E hr h => ?_)
  · obtain ⟨l, v, t, n, rfl, hS, W, k⟩ := h
    rfl
  · obtain ⟨l, v, t, n, rfl, hS, W, k⟩ := h
    refine ⟨_, (pss_cons (ps_set (i := 3) sc_l_placed.nd rfl (by first | exact Or.inl rfl | exact Or.inr rfl) (pe_op op_add (pv 1) (pe_ix (r := rIxL K) ix_list (pv 0) pe_int (fun _ _ => rfl))))
    (pss_one (ps_ret (pe_and (pe_chain op_le op_lt (pe_ix (r := rIxL K) ix_list (pv 0) pe_int (fun _ _ => rfl)) (pv 1) (pe_ix (r := rIxL K) ix_list (pv 0) pe_int (fun _ _ => rfl))) (pe_one (pe_chain op_le op_lt (pv 3) (pv 2) (pe_op op_add (pv 3) (pe_ix (r := rIxL K) ix_list (pv 0) pe_int (fun _ _ => rfl))))))))), ?_⟩
    obtain ⟨z, ez, z0, z5⟩ := W.e0
    obtain ⟨vt, vs, vb, ve⟩ := v
    cases ez
    have no : ∀ {c : Prop}, ¬ c → (Plc ⟨vt, vs, vb, some z⟩ n t → c) → ((false = true) ↔ Plc ⟨vt, vs, vb, some z⟩ n t) := fun {c} h i => ⟨fun x => (nomatch x), fun u => absurd (i u) h⟩
    refine ⟨_, rfl, _, rfl, l, _, _, _, rfl, rfl, hS, rfl, _, _, rfl, rfl, ?_⟩
    refine ⟨_, rfl, l, _, _, _, rfl, rfl, hS, rfl, _, rfl, _, _, rfl, rfl, _, rfl, ifD (fun c1 => ?_) (fun c1 => ⟨_, rfl, iteF (k false (no c1 fun u => u.1))⟩)⟩
    refine ⟨_, rfl, l, _, _, _, rfl, rfl, hS, rfl, _, _, rfl, rfl, _, rfl, ifD (fun c2 => ?_) (fun c2 => k false (no c2 fun u => u.2.1))⟩
    refine ⟨_, rfl, _, rfl, _, _, rfl, rfl, _, rfl, ifD (fun c3 => ?_) (fun c3 => k false (no c3 fun u => u.2.2.1))⟩
    refine ⟨_, rfl, _, rfl, l, _, _, _, rfl, rfl, hS, rfl, _, _, rfl, rfl, _, _, rfl, rfl, k _ ⟨fun h => ⟨c1, c2, c3, of_decide_eq_true h⟩, fun u => decide_eq_true u.2.2.2⟩⟩
theorem ok_l_count (T : Txt K mg A) : FnOk P w K mg base CX0 2 A.f_l_count A.d_l_count ["_law_some", "_law_record", "_law_low", "_law_high"] (sp_l_count K A) := by
  have G_l_urgent := ok_l_urgent (P := P) (w := w) (base := base) T
  refine T.F_l_count.ok sc_l_count (fun vs H Q E h => ?_) (fun cdv A0 outer s H vs Q E hr h => ?_)
  · obtain ⟨S, u, xS, ws, us, lo, hi, rfl, hS, d, W, hn, hu, h5, hx, k⟩ := h
    rfl
  · obtain ⟨S, u, xS, ws, us, lo, hi, rfl, hS, d, W, hn, hu, h5, hx, k⟩ := h
    refine ⟨_, (pss_cons (ps_set (i := 4) sc_l_count.nd rfl (by first | exact Or.inl rfl | exact Or.inr rfl) pe_int)
    (pss_cons (ps_for PassesOwn.never rfl (pi_range1 rfl T.range (pa_cons (pe_callB (r := VG.rLen K) VG.call_len (by rfl) T.len (by decide +kernel) (pa_cons (pv 1) pa_nil)) pa_nil)) (pg_name (i := 5) sc_l_count.nd rfl (by first | exact Or.inl rfl | exact Or.inr rfl))
      (pss_one (ps_set (i := 4) sc_l_count.nd rfl (by first | exact Or.inl rfl | exact Or.inr rfl) (pe_op op_add (pv 4) (pe_op op_mul (pe_ix (r := rIxL K) ix_list (pv 1) (pv 5) (fun _ _ => rfl)) (pe_callB (r := VG.rLen K) VG.call_len (by rfl) T.len (by decide +kernel) (pa_cons (pe_lc (own := [("_law_parts_here", 6)]) (g := gName 6) rfl sc_l_count.nd (pi_list (pv 0)) (blkOk_by (own := [("_law_parts_here", 6)]) (N := ["_law_some", "_law_record", "_law_low", "_law_high", "_law_found", "_law_tick", "_law_parts_here"]) (sc := defScope s_l_count) (by decide +kernel)) (fun _ _ _ _ _ => pg_name (i := 6) sc_l_count.nd rfl (by first | exact Or.inl rfl | exact Or.inr rfl)) (fun _ _ _ _ _ => (pts_one (pt_val (pe_call G_l_urgent (hr.mono (by decide)) rfl T.m_l_urgent T.k_l_urgent T.b_l_urgent .nil pass0 (pa_cons (pv 6) (pa_cons (pv 5) (pa_cons (pv 2) (pa_cons (pv 3) pa_nil)))))))) (fun _ _ _ _ _ => (pv 6))) pa_nil)))))))
    (pss_one (ps_ret (pv 4))))), ?_⟩
    have lm : (us.map V.int).length = 5 := by rw [List.length_map, h5]
    refine ⟨_, rfl, u, _, rfl, .inl hu, _, rfl, by omega, by omega, for_range (lo := 0) (n := (((us.map V.int).length : Nat) : Int).toNat) (fun i σ H' => ∃ (v5 : Option V), σ = [some (.ref S), some (.ref u), some (.int lo), some (.int hi), some (.int (cntK us (kU ws lo hi) i)), v5, none] ∧ Same H H') ⟨_, rfl, Same.refl _⟩ ?_ ?_⟩
    · rintro i σ H1 hi0 ⟨v5, rfl, s1⟩
      have hi5 : i < 5 := by omega
      have hx0 : 0 ≤ us.getD i 0 ∧ us.getD i 0 ≤ 2 := by
        rw [List.getD_eq_getElem?_getD, List.getElem?_eq_getElem (by omega)]
        exact hx _ (List.getElem_mem _)
      refine ⟨_, rfl, _, rfl, _, rfl, u, _, _, _, rfl, rfl, s1.seq hu, at_map (by omega) (by omega), ?_⟩
      rw [show (0 : Int) + (i : Int) = (i : Int) from Int.zero_add _]
      refine ⟨_, rfl, S, rfl, ⟨xS, s1.seq hS⟩, fun D hD => lc_list (xs := xS) (fun j H2 => ∃ zs, H2 D = some (.lst zs) ∧ zs.length = ((ws.take j).filter fun v => decide (Urg v lo hi (i : Int))).length ∧ Same H1 H2) ⟨[], upd_same, rfl, Same.upd (Same.refl _) hD⟩ (fun j H2 _ ⟨_, q⟩ => q.2.2.seq (s1.seq hS)) ?_ ?_⟩
      · rintro j y H2 hy ⟨zs, hz, lz, s2⟩
        obtain ⟨l', v, ev, rfl, hl⟩ := d.get hy
        have Wv := W v (List.mem_of_getElem? ev)
        have lz' : zs.length ≤ 1000 := by
          rw [lz]
          refine Nat.le_trans (List.length_filter_le _ _) ?_
          rw [List.length_take]; omega
        have et : ((ws.take (j + 1)).filter fun v => decide (Urg v lo hi (i : Int))).length = ((ws.take j).filter fun v => decide (Urg v lo hi (i : Int))).length + if Urg v lo hi (i : Int) then 1 else 0 := by
          rw [List.take_add_one, ev, List.filter_append, List.length_append]
          show _ + (List.filter _ [v]).length = _
          rw [List.filter_cons]
          by_cases c : Urg v lo hi (i : Int)
          · rw [if_pos (decide_eq_true c), if_pos c]; rfl
          · rw [if_neg (by rw [decide_eq_false c]; exact Bool.false_ne_true), if_neg c]; rfl
        rw [et]
        refine ⟨rfl, _, rfl, _, rfl, _, rfl, _, rfl, l', v, _, lo, hi, rfl, SqL.of (s2 _ _ (s1 _ _ hl)), Wv, fun b hb => ⟨_, rfl, ?_⟩⟩
        cases b with
        | true =>
          refine iteT ⟨_, rfl, zs, hz, small (by omega), zs ++ [.ref l'], upd_same, ?_, Same.upd s2 hD⟩
          rw [List.length_append, lz, if_pos (hb.mp rfl)]
          rfl
        | false =>
          refine iteF ⟨zs, hz, ?_, s2⟩
          rw [lz, if_neg fun c => Bool.false_ne_true (hb.mpr c)]
          rfl
      · rintro H2 ⟨zs, hz, lz, s2⟩
        rw [d.len, List.take_length] at lz
        have lz' : zs.length ≤ 1000 := by
          rw [lz]
          exact Nat.le_trans (List.length_filter_le _ _) hn
        refine ⟨D, zs, rfl, .inl (SqL.of hz), ?_⟩
        have e : cntK us (kU ws lo hi) (i + 1) = cntK us (kU ws lo hi) i + us.getD i 0 * (zs.length : Int) := by rw [cntK_succ, lz]; rfl
        refine ⟨_, _, rfl, rfl, .inl ⟨by rw [Int.toNat_natCast]; omega, by rw [Int.toNat_natCast]; omega⟩, _, _, rfl, rfl, some (.int (i : Int)), ?_, s1.trans s2⟩
        rw [e]
        rfl
    · rintro σ H1 ⟨v5, rfl, s1⟩
      rw [lm] at *
      exact ⟨_, rfl, k H1 s1⟩
theorem ok_l_count_places (T : Txt K mg A) : FnOk P w K mg base CX0 2 A.f_l_count_places A.d_l_count_places ["_law_some", "_law_record", "_law_now"] (sp_l_count_places K A) := by
  have G_l_placed := ok_l_placed (P := P) (w := w) (base := base) T
  refine T.F_l_count_places.ok sc_l_count_places (fun vs H Q E h => ?_) (fun cdv A0 outer s H vs Q E hr h => ?_)
  · obtain ⟨S, u, xS, ws, us, n, rfl, hS, d, W, hn, hu, h5, hx, k⟩ := h
    rfl
  · obtain ⟨S, u, xS, ws, us, n, rfl, hS, d, W, hn, hu, h5, hx, k⟩ := h
    refine ⟨_, (pss_cons (ps_set (i := 3) sc_l_count_places.nd rfl (by first | exact Or.inl rfl | exact Or.inr rfl) pe_int)
    (pss_cons (ps_for PassesOwn.never rfl (pi_range1 rfl T.range (pa_cons (pe_callB (r := VG.rLen K) VG.call_len (by rfl) T.len (by decide +kernel) (pa_cons (pv 1) pa_nil)) pa_nil)) (pg_name (i := 4) sc_l_count_places.nd rfl (by first | exact Or.inl rfl | exact Or.inr rfl))
      (pss_one (ps_set (i := 3) sc_l_count_places.nd rfl (by first | exact Or.inl rfl | exact Or.inr rfl) (pe_op op_add (pv 3) (pe_op op_mul (pe_ix (r := rIxL K) ix_list (pv 1) (pv 4) (fun _ _ => rfl)) (pe_callB (r := VG.rLen K) VG.call_len (by rfl) T.len (by decide +kernel) (pa_cons (pe_lc (own := [("_law_parts_here", 5)]) (g := gName 5) rfl sc_l_count_places.nd (pi_list (pv 0)) (blkOk_by (own := [("_law_parts_here", 5)]) (N := ["_law_some", "_law_record", "_law_now", "_law_found", "_law_tick", "_law_parts_here"]) (sc := defScope s_l_count_places) (by decide +kernel)) (fun _ _ _ _ _ => pg_name (i := 5) sc_l_count_places.nd rfl (by first | exact Or.inl rfl | exact Or.inr rfl)) (fun _ _ _ _ _ => (pts_one (pt_val (pe_call G_l_placed (hr.mono (by decide)) rfl T.m_l_placed T.k_l_placed T.b_l_placed .nil pass0 (pa_cons (pv 5) (pa_cons (pv 4) (pa_cons (pv 2) pa_nil))))))) (fun _ _ _ _ _ => (pv 5))) pa_nil)))))))
    (pss_one (ps_ret (pv 3))))), ?_⟩
    have lm : (us.map V.int).length = 5 := by rw [List.length_map, h5]
    refine ⟨_, rfl, u, _, rfl, .inl hu, _, rfl, by omega, by omega, for_range (lo := 0) (n := (((us.map V.int).length : Nat) : Int).toNat) (fun i σ H' => ∃ (v5 : Option V), σ = [some (.ref S), some (.ref u), some (.int n), some (.int (cntK us (kP ws n) i)), v5, none] ∧ Same H H') ⟨_, rfl, Same.refl _⟩ ?_ ?_⟩
    · rintro i σ H1 hi0 ⟨v5, rfl, s1⟩
      have hi5 : i < 5 := by omega
      have hx0 : 0 ≤ us.getD i 0 ∧ us.getD i 0 ≤ 2 := by
        rw [List.getD_eq_getElem?_getD, List.getElem?_eq_getElem (by omega)]
        exact hx _ (List.getElem_mem _)
      refine ⟨_, rfl, _, rfl, _, rfl, u, _, _, _, rfl, rfl, s1.seq hu, at_map (by omega) (by omega), ?_⟩
      rw [show (0 : Int) + (i : Int) = (i : Int) from Int.zero_add _]
      refine ⟨_, rfl, S, rfl, ⟨xS, s1.seq hS⟩, fun D hD => lc_list (xs := xS) (fun j H2 => ∃ zs, H2 D = some (.lst zs) ∧ zs.length = ((ws.take j).filter fun v => decide (Plc v n (i : Int))).length ∧ Same H1 H2) ⟨[], upd_same, rfl, Same.upd (Same.refl _) hD⟩ (fun j H2 _ ⟨_, q⟩ => q.2.2.seq (s1.seq hS)) ?_ ?_⟩
      · rintro j y H2 hy ⟨zs, hz, lz, s2⟩
        obtain ⟨l', v, ev, rfl, hl⟩ := d.get hy
        have Wv := W v (List.mem_of_getElem? ev)
        have lz' : zs.length ≤ 1000 := by
          rw [lz]
          refine Nat.le_trans (List.length_filter_le _ _) ?_
          rw [List.length_take]; omega
        have et : ((ws.take (j + 1)).filter fun v => decide (Plc v n (i : Int))).length = ((ws.take j).filter fun v => decide (Plc v n (i : Int))).length + if Plc v n (i : Int) then 1 else 0 := by
          rw [List.take_add_one, ev, List.filter_append, List.length_append]
          show _ + (List.filter _ [v]).length = _
          rw [List.filter_cons]
          by_cases c : Plc v n (i : Int)
          · rw [if_pos (decide_eq_true c), if_pos c]; rfl
          · rw [if_neg (by rw [decide_eq_false c]; exact Bool.false_ne_true), if_neg c]; rfl
        rw [et]
        refine ⟨rfl, _, rfl, _, rfl, _, rfl, l', v, _, n, rfl, SqL.of (s2 _ _ (s1 _ _ hl)), Wv, fun b hb => ⟨_, rfl, ?_⟩⟩
        cases b with
        | true =>
          refine iteT ⟨_, rfl, zs, hz, small (by omega), zs ++ [.ref l'], upd_same, ?_, Same.upd s2 hD⟩
          rw [List.length_append, lz, if_pos (hb.mp rfl)]
          rfl
        | false =>
          refine iteF ⟨zs, hz, ?_, s2⟩
          rw [lz, if_neg fun c => Bool.false_ne_true (hb.mpr c)]
          rfl
      · rintro H2 ⟨zs, hz, lz, s2⟩
        rw [d.len, List.take_length] at lz
        have lz' : zs.length ≤ 1000 := by
          rw [lz]
          exact Nat.le_trans (List.length_filter_le _ _) hn
        refine ⟨D, zs, rfl, .inl (SqL.of hz), ?_⟩
        have e : cntK us (kP ws n) (i + 1) = cntK us (kP ws n) i + us.getD i 0 * (zs.length : Int) := by rw [cntK_succ, lz]; rfl
        refine ⟨_, _, rfl, rfl, .inl ⟨by rw [Int.toNat_natCast]; omega, by rw [Int.toNat_natCast]; omega⟩, _, _, rfl, rfl, some (.int (i : Int)), ?_, s1.trans s2⟩
        rw [e]
        rfl
    · rintro σ H1 ⟨v5, rfl, s1⟩
      rw [lm] at *
      exact ⟨_, rfl, k H1 s1⟩
end
end VK


namespace VK
open PySem PySem.Spec PyProof.Rows L2 VM VLp
theorem pick_range : ∀ ps : List (Int × Int), pick ps (List.range ps.length) = ps := by
  intro ps
  refine List.ext_getElem? fun i => ?_
  have ll : (pick ps (List.range ps.length)).length = ps.length := pick_length List.length_range
  by_cases hi : i < ps.length
  · obtain ⟨p, k, h1, h2, h3⟩ := pick_get (List.getElem?_eq_getElem (by rw [ll]; exact hi))
    rw [List.getElem?_eq_getElem (by rw [ll]; exact hi), h3, h1]
    have hk : k = i := by
      rw [List.getElem?_range hi] at h2
      exact (Option.some.inj h2).symm
    subst hk
    rw [List.getD_eq_getElem?_getD, List.getElem?_map, h1]
    rfl
  · rw [List.getElem?_eq_none (by rw [ll]; omega), List.getElem?_eq_none (by omega)]
/-- what the best costs is the least of all -/
theorem best_least (f : Int → Int) (ps : List (Int × Int)) (h : ps.length ≤ 4) : totM f (bestM f ps) ∈ (ordN ps.length).map (fun o => totM f (pick ps o)) ∧ ∀ o ∈ ordN ps.length, totM f (bestM f ps) ≤ totM f (pick ps o) := by
  have key : ∀ (os : List (List Nat)) (b : List (Int × Int)), (totM f (os.foldl (fun b o => if totM f (pick ps o) < totM f b then pick ps o else b) b) = totM f b ∨ totM f (os.foldl (fun b o => if totM f (pick ps o) < totM f b then pick ps o else b) b) ∈ os.map fun o => totM f (pick ps o)) ∧
      totM f (os.foldl (fun b o => if totM f (pick ps o) < totM f b then pick ps o else b) b) ≤ totM f b ∧ ∀ o ∈ os, totM f (os.foldl (fun b o => if totM f (pick ps o) < totM f b then pick ps o else b) b) ≤ totM f (pick ps o) := by
    intro os
    induction os with
    | nil => exact fun b => ⟨.inl rfl, Int.le_refl _, fun o ho => nomatch ho⟩
    | cons o os ih =>
      intro b
      obtain ⟨i1, i2, i3⟩ := ih (if totM f (pick ps o) < totM f b then pick ps o else b)
      rw [List.foldl_cons]
      have e : totM f (if totM f (pick ps o) < totM f b then pick ps o else b) ≤ totM f b ∧ totM f (if totM f (pick ps o) < totM f b then pick ps o else b) ≤ totM f (pick ps o) ∧
          (totM f (if totM f (pick ps o) < totM f b then pick ps o else b) = totM f b ∨ totM f (if totM f (pick ps o) < totM f b then pick ps o else b) = totM f (pick ps o)) := by
        by_cases c : totM f (pick ps o) < totM f b
        · rw [if_pos c]; exact ⟨Int.le_of_lt c, Int.le_refl _, .inr rfl⟩
        · rw [if_neg c]; exact ⟨Int.le_refl _, Int.not_lt.mp c, .inl rfl⟩
      refine ⟨?_, Int.le_trans i2 e.1, fun o' ho' => ?_⟩
      · rcases i1 with i1 | i1
        · rcases e.2.2 with e2 | e2
          · exact .inl (i1.trans e2)
          · right; rw [i1, e2]; exact List.mem_map.mpr ⟨o, List.mem_cons_self .., rfl⟩
        · right; rw [List.map_cons]; exact List.mem_cons_of_mem _ i1
      · rcases List.mem_cons.mp ho' with rfl | ho'
        · exact Int.le_trans i2 e.2.1
        · exact i3 o' ho'
  obtain ⟨k1, k2, k3⟩ := key (ordN ps.length) ps
  have first : List.range ps.length ∈ ordN ps.length := by
    have := VPm.ords_first ps.length h
    unfold ordN
    exact List.mem_map.mpr ⟨_, List.mem_of_getElem? this, rfl⟩
  refine ⟨?_, k3⟩
  rcases k1 with k1 | k1
  · refine List.mem_map.mpr ⟨_, first, ?_⟩
    rw [pick_range]
    exact k1.symm
  · exact k1
theorem iteNS' {c A B : Prop} [Decidable c] (hc : c) (h : B) : if (!decide c) = true then A else B := by
  rw [decide_eq_true hc]; exact iteF h
theorem ord_perm : ∀ n, n ≤ 4 → ∀ o ∈ ordN n, o.Perm (List.range n) := by
  have : ((List.range 5).all fun n => (ordN n).all fun o => o.isPerm (List.range n)) = true := by decide +kernel
  intro n h o ho
  have := List.all_eq_true.mp (List.all_eq_true.mp this n (List.mem_range.mpr (by omega))) o ho
  exact List.isPerm_iff.mp this
theorem best_pick (f : Int → Int) (ps : List (Int × Int)) (h : ps.length ≤ 4) : ∃ o, o ∈ ordN ps.length ∧ bestM f ps = pick ps o := by
  have first : List.range ps.length ∈ ordN ps.length := by
    have := VPm.ords_first ps.length h
    unfold ordN
    exact List.mem_map.mpr ⟨_, List.mem_of_getElem? this, rfl⟩
  have key : ∀ (os : List (List Nat)) (b : List (Int × Int)), (∃ o ∈ ordN ps.length, b = pick ps o) → (∀ o ∈ os, o ∈ ordN ps.length) → ∃ o, o ∈ ordN ps.length ∧ os.foldl (fun b o => if totM f (pick ps o) < totM f b then pick ps o else b) b = pick ps o := by
    intro os
    induction os with
    | nil => exact fun b hb _ => hb
    | cons o os ih =>
      intro b hb ho
      refine ih _ ?_ fun o' h' => ho o' (List.mem_cons_of_mem _ h')
      show ∃ o', o' ∈ ordN ps.length ∧ (if totM f (pick ps o) < totM f b then pick ps o else b) = pick ps o'
      by_cases c : totM f (pick ps o) < totM f b
      · rw [if_pos c]; exact ⟨o, ho o (List.mem_cons_self ..), rfl⟩
      · rw [if_neg c]; exact hb
  exact key (ordN ps.length) ps ⟨_, first, (pick_range ps).symm⟩ fun o ho => ho
theorem best_facts (f : Int → Int) (ps : List (Int × Int)) (h : ps.length ≤ 4) : (bestM f ps).length = ps.length ∧ (bestM f ps).map (·.1) = ps.map (·.1) ∧ ((bestM f ps).map (·.2)).Perm (ps.map (·.2)) := by
  obtain ⟨o, ho, e⟩ := best_pick f ps h
  have pr := ord_perm _ h o ho
  have lo : o.length = ps.length := by rw [pr.length_eq, List.length_range]
  rw [e]
  refine ⟨pick_length lo, ?_, ?_⟩
  · unfold pick
    rw [List.map_fst_zip]
    rw [List.length_map, List.length_map, lo]; exact Nat.le_refl _
  · have e2 : (pick ps o).map (·.2) = o.map fun k => (ps.map (·.2)).getD k 0 := by
      unfold pick
      rw [List.map_snd_zip]
      rw [List.length_map, List.length_map, lo]; exact Nat.le_refl _
    have e3 : (List.range ps.length).map (fun k => (ps.map (·.2)).getD k 0) = ps.map (·.2) := by
      have := congrArg (List.map (·.2)) (pick_range ps)
      unfold pick at this
      rw [List.map_snd_zip (by rw [List.length_map, List.length_map, List.length_range]; exact Nat.le_refl _)] at this
      exact this
    have p3 := pr.map fun k => (ps.map (·.2)).getD k 0
    rw [e3] at p3
    rw [e2]
    exact p3
theorem big {k L : Nat} {d : PyData} (s : VR.Sz k L d) (a : k ≤ 60) (b : L ≤ 16777216) : d.showable = true ∧ d.depth ≤ 60 ∧ d.shown.length ≤ sizeLine := ⟨s.sh, Nat.le_trans s.dp a, Nat.le_trans s.ln (by rw [sizeLine_eq]; exact b)⟩
theorem best_dual {f : Int → Int} (nn : ∀ t, 0 ≤ t → 0 ≤ f t) (mono : ∀ a b, 0 ≤ a → a ≤ b → f a ≤ f b) (sub : ∀ a b, 0 ≤ a → 0 ≤ b → f (a + b) ≤ f a + f b) (ps : List (Int × Int)) (h : ps.length ≤ 3) :
    ∃ S, Feas (cst f) S ∧ val S (bestM f ps) = totM f (bestM f ps) := by
  have tri := cst_tri nn mono sub
  have c0 := cst_self f
  have ec : ∀ a b, costM f a b = cst f a b := fun _ _ => rfl
  obtain ⟨o, ho, e⟩ := best_pick f ps (by omega)
  have all := (best_least f ps (by omega)).2
  rw [e] at all ⊢
  have v2 : ∀ (S : Int → Int) a b a' b', val S [(a, b), (a', b')] = S b - S a + (S b' - S a' + 0) := fun _ _ _ _ _ => rfl
  have t2 : ∀ a b a' b', totM f [(a, b), (a', b')] = cst f a b + (cst f a' b' + 0) := fun _ _ _ _ => rfl
  have v3 : ∀ (S : Int → Int) a b a' b' a2 b2, val S [(a, b), (a', b'), (a2, b2)] = S b - S a + (S b' - S a' + (S b2 - S a2 + 0)) := fun _ _ _ _ _ _ _ => rfl
  have t3 : ∀ a b a' b' a2 b2, totM f [(a, b), (a', b'), (a2, b2)] = cst f a b + (cst f a' b' + (cst f a2 b2 + 0)) := fun _ _ _ _ _ _ => rfl
  match ps, h with
  | [], _ =>
    have : o = [] := by
      have o0 : ordN 0 = [[]] := by decide +kernel
      have ho : o ∈ ordN 0 := ho
      rw [o0] at ho
      exact List.mem_singleton.mp ho
    subst this
    refine ⟨fun _ => 0, fun x y => ?_, rfl⟩
    have : 0 ≤ cst f x y := by
      unfold cst
      by_cases c : y > x
      · rw [if_pos c]; exact nn _ (by omega)
      · rw [if_neg c]; exact Int.le_refl _
    show (0 : Int) ≤ 0 + _
    omega
  | [q], _ =>
    have : o = [0] := by
      have o1 : ordN 1 = [[0]] := by decide +kernel
      have ho : o ∈ ordN 1 := ho
      rw [o1] at ho
      exact List.mem_singleton.mp ho
    subst this
    obtain ⟨S, F, e⟩ := dual1 tri c0 q.1 q.2
    refine ⟨S, F, ?_⟩
    show S q.2 - S q.1 + 0 = cst f q.1 q.2 + 0
    omega
  | [q, r], _ =>
    have o2 : ordN 2 = [[0, 1], [1, 0]] := by decide +kernel
    have ho : o ∈ ordN 2 := ho
    have all : ∀ o' ∈ ordN 2, totM f (pick [q, r] o) ≤ totM f (pick [q, r] o') := all
    rw [o2] at ho all
    have p0 : pick [q, r] [0, 1] = [(q.1, q.2), (r.1, r.2)] := rfl
    have p1 : pick [q, r] [1, 0] = [(q.1, r.2), (r.1, q.2)] := rfl
    have a0 := all [0, 1] (by simp)
    have a1 := all [1, 0] (by simp)
    rw [p0] at a0
    rw [p1] at a1
    simp only [List.mem_cons, List.not_mem_nil, or_false] at ho
    rcases ho with rfl | rfl
    · rw [p0] at a0 a1 ⊢
      rw [t2] at a0 a1
      rw [t2] at a1
      obtain ⟨S, F, e⟩ := dual2 tri c0 q.1 r.1 q.2 r.2 (by omega)
      refine ⟨S, F, ?_⟩
      rw [v2, t2]
      omega
    · rw [p1] at a0 a1 ⊢
      rw [t2] at a0 a1
      rw [t2] at a0
      obtain ⟨S, F, e⟩ := dual2 tri c0 q.1 r.1 r.2 q.2 (by omega)
      refine ⟨S, F, ?_⟩
      rw [v2, t2]
      omega
  | [q, r, z], _ =>
    have o3 : ordN 3 = [[0, 1, 2], [0, 2, 1], [1, 0, 2], [1, 2, 0], [2, 0, 1], [2, 1, 0]] := by decide +kernel
    have ho : o ∈ ordN 3 := ho
    have all : ∀ o' ∈ ordN 3, totM f (pick [q, r, z] o) ≤ totM f (pick [q, r, z] o') := all
    rw [o3] at ho all
    have p0 : totM f (pick [q, r, z] [0, 1, 2]) = cst f q.1 q.2 + (cst f r.1 r.2 + (cst f z.1 z.2 + 0)) := rfl
    have p1 : totM f (pick [q, r, z] [0, 2, 1]) = cst f q.1 q.2 + (cst f r.1 z.2 + (cst f z.1 r.2 + 0)) := rfl
    have p2 : totM f (pick [q, r, z] [1, 0, 2]) = cst f q.1 r.2 + (cst f r.1 q.2 + (cst f z.1 z.2 + 0)) := rfl
    have p3 : totM f (pick [q, r, z] [1, 2, 0]) = cst f q.1 r.2 + (cst f r.1 z.2 + (cst f z.1 q.2 + 0)) := rfl
    have p4 : totM f (pick [q, r, z] [2, 0, 1]) = cst f q.1 z.2 + (cst f r.1 q.2 + (cst f z.1 r.2 + 0)) := rfl
    have p5 : totM f (pick [q, r, z] [2, 1, 0]) = cst f q.1 z.2 + (cst f r.1 r.2 + (cst f z.1 q.2 + 0)) := rfl
    have a0 := all [0, 1, 2] (by simp)
    have a1 := all [0, 2, 1] (by simp)
    have a2 := all [1, 0, 2] (by simp)
    have a3 := all [1, 2, 0] (by simp)
    have a4 := all [2, 0, 1] (by simp)
    have a5 := all [2, 1, 0] (by simp)
    rw [p0] at a0
    rw [p1] at a1
    rw [p2] at a2
    rw [p3] at a3
    rw [p4] at a4
    rw [p5] at a5
    have w : ∀ (S : Int → Int) b0 b1 b2, val S [(q.1, b0), (r.1, b1), (z.1, b2)] = S b0 - S q.1 + (S b1 - S r.1 + (S b2 - S z.1 + 0)) := fun _ _ _ _ => rfl
    simp only [List.mem_cons, List.not_mem_nil, or_false] at ho
    rcases ho with rfl | rfl | rfl | rfl | rfl | rfl
    · rw [p0] at *
      obtain ⟨S, F, e⟩ := dual3 tri c0 q.1 r.1 z.1 q.2 r.2 z.2 (by omega) (by omega) (by omega) (by omega) (by omega)
      refine ⟨S, F, ?_⟩
      show val S [(q.1, q.2), (r.1, r.2), (z.1, z.2)] = _
      rw [w]
      omega
    · rw [p1] at *
      obtain ⟨S, F, e⟩ := dual3 tri c0 q.1 r.1 z.1 q.2 z.2 r.2 (by omega) (by omega) (by omega) (by omega) (by omega)
      refine ⟨S, F, ?_⟩
      show val S [(q.1, q.2), (r.1, z.2), (z.1, r.2)] = _
      rw [w]
      omega
    · rw [p2] at *
      obtain ⟨S, F, e⟩ := dual3 tri c0 q.1 r.1 z.1 r.2 q.2 z.2 (by omega) (by omega) (by omega) (by omega) (by omega)
      refine ⟨S, F, ?_⟩
      show val S [(q.1, r.2), (r.1, q.2), (z.1, z.2)] = _
      rw [w]
      omega
    · rw [p3] at *
      obtain ⟨S, F, e⟩ := dual3 tri c0 q.1 r.1 z.1 r.2 z.2 q.2 (by omega) (by omega) (by omega) (by omega) (by omega)
      refine ⟨S, F, ?_⟩
      show val S [(q.1, r.2), (r.1, z.2), (z.1, q.2)] = _
      rw [w]
      omega
    · rw [p4] at *
      obtain ⟨S, F, e⟩ := dual3 tri c0 q.1 r.1 z.1 z.2 q.2 r.2 (by omega) (by omega) (by omega) (by omega) (by omega)
      refine ⟨S, F, ?_⟩
      show val S [(q.1, z.2), (r.1, q.2), (z.1, r.2)] = _
      rw [w]
      omega
    · rw [p5] at *
      obtain ⟨S, F, e⟩ := dual3 tri c0 q.1 r.1 z.1 z.2 r.2 q.2 (by omega) (by omega) (by omega) (by omega) (by omega)
      refine ⟨S, F, ?_⟩
      show val S [(q.1, z.2), (r.1, r.2), (z.1, q.2)] = _
      rw [w]
      omega
/-- within five ticks -/
def In5 (ps : List (Int × Int)) : Prop := ∀ p ∈ ps, 0 ≤ p.1 ∧ p.1 ≤ 5 ∧ 0 ≤ p.2 ∧ p.2 ≤ 5
theorem val_le {f : Int → Int} {P : Int → Int} : ∀ {ps : List (Int × Int)}, (∀ q ∈ ps, P q.2 - P q.1 ≤ cst f q.1 q.2) → val P ps ≤ totM f ps
  | [], _ => Int.le_refl _
  | q :: ps, h => by
    have i := val_le (f := f) (P := P) (ps := ps) fun z hz => h z (List.mem_cons_of_mem _ hz)
    have j := h q (List.mem_cons_self ..)
    have e1 : val P (q :: ps) = P q.2 - P q.1 + val P ps := rfl
    have e2 : totM f (q :: ps) = cst f q.1 q.2 + totM f ps := rfl
    omega
theorem best_in5 {f : Int → Int} {ps : List (Int × Int)} (h : ps.length ≤ 4) (i : In5 ps) : In5 (bestM f ps) := by
  obtain ⟨b1, b2, b3⟩ := best_facts f ps h
  intro q hq
  have m1 : q.1 ∈ ps.map (·.1) := by rw [← b2]; exact List.mem_map.mpr ⟨q, hq, rfl⟩
  have m2 : q.2 ∈ ps.map (·.2) := b3.mem_iff.mp (List.mem_map.mpr ⟨q, hq, rfl⟩)
  obtain ⟨u, hu, e1⟩ := List.mem_map.mp m1
  obtain ⟨v, hv, e2⟩ := List.mem_map.mp m2
  have iu := i u hu
  have iv := i v hv
  omega
/-- no record has more than the least matching costs; one has as much -/
theorem recs_max {f : Int → Int} (nn : ∀ t, 0 ≤ t → 0 ≤ f t) (mono : ∀ a b, 0 ≤ a → a ≤ b → f a ≤ f b) (sub : ∀ a b, 0 ≤ a → 0 ≤ b → f (a + b) ≤ f a + f b) {ps : List (Int × Int)} (h : ps.length ≤ 3) (i : In5 ps) :
    (∀ u ∈ recsM f (f 1 + 1).toNat 5, val (VLp.pre u) ps ≤ totM f (bestM f ps)) ∧ ∃ u ∈ recsM f (f 1 + 1).toNat 5, val (VLp.pre u) ps = totM f (bestM f ps) := by
  obtain ⟨b1, b2, b3⟩ := best_facts f ps (by omega)
  have i5 := best_in5 (f := f) (by omega) i
  refine ⟨fun u hu => ?_, ?_⟩
  · obtain ⟨r1, r2, r3⟩ := recs_of hu
    rw [← val_perm (VLp.pre u) b2 b3]
    refine val_le fun q hq => ?_
    have iq := i5 q hq
    exact keep_cst r2 r3 iq.1 (by rw [r1]; exact iq.2.1) iq.2.2.1 (by rw [r1]; exact iq.2.2.2)
  · obtain ⟨S, F, e⟩ := best_dual nn mono sub ps h
    obtain ⟨k1, k2⟩ := recS_ok F
    have n1 := nn 1 (by decide)
    refine ⟨recS S, recs_in rfl (fun x hx => ⟨(k1 x hx).1, by have := (k1 x hx).2; omega⟩) k2, ?_⟩
    rw [← val_perm (VLp.pre (recS S)) b2 b3, ← e]
    unfold val
    refine congrArg List.sum (List.map_congr_left fun q hq => ?_)
    have iq := i5 q hq
    rw [pre_recS S q.2 iq.2.2.1 iq.2.2.2, pre_recS S q.1 iq.1 iq.2.1]
    omega
end VK


namespace VK
open PySem PySem.Spec PyProof.Rows L2 VM VLp
theorem kb_init2 {K : PySem.W.Frag} {mg : Str → Option Value} {A : Ad} (T : Txt K mg A) : ∃ mv : List Value, KBn K A.d_C_init ["self", "values", "period", "gain"] 2 ["period", "gain"] (fun us ws => us ++ ws) (fun vs zs => vs ++ zs) := by
  obtain ⟨mv, h⟩ := T.F_C_init.kbinds0 (ps := ["self", "values", "period", "gain"]) 2 ["period", "gain"] [] (fun us _ ws => us ++ ws) (by simp) (by simp) (fun a _ c => a.append c)
    (fun D doc pm an cdv ct us mv ws h1 h2 h3 => match us, mv, ws, h1, h2, h3 with | [_, _], [], [_, _], _, _, _ => rfl)
  exact ⟨mv, h⟩
theorem cv_bd {xs : List Int} {p g : Int} (R : OkRow xs p g) (t : Int) (h0 : 0 ≤ t) (h1 : t ≤ 3000000) : 0 ≤ cvAt xs p g t ∧ cvAt xs p g t ≤ 10 ^ 11 := by
  have nn : ∀ i, 0 ≤ xs.getD i 0 ∧ xs.getD i 0 ≤ 2000 := fun i => by
    by_cases hi : i < xs.length
    · exact ⟨R.lo i hi, R.hi i hi⟩
    · rw [List.getD_eq_getElem?_getD, List.getElem?_eq_none (by omega)]
      exact ⟨by decide, by decide⟩
  have p0 : 1 ≤ p := by rcases R.per with h | h | h | h | h | h <;> omega
  have p1 : p ≤ 12 := by rcases R.per with h | h | h | h | h | h <;> omega
  have g0 := R.g0
  have g1 := R.g1
  unfold cvAt
  by_cases c0 : t = 0
  · rw [if_pos c0]; exact ⟨by decide, by decide⟩
  rw [if_neg c0]
  by_cases c1 : t ≤ (xs.length : Int)
  · rw [if_pos c1]
    have := nn (t - 1).toNat
    exact ⟨this.1, by omega⟩
  rw [if_neg c1]
  have q0 : 0 ≤ (t - xs.length + p - 1) / p := Int.ediv_nonneg (by omega) (by omega)
  have q1 : (t - xs.length + p - 1) / p ≤ t - xs.length + p - 1 := Int.ediv_le_self _ (by omega)
  generalize (t - xs.length + p - 1) / p = q at *
  have := nn (t - q * p - 1).toNat
  generalize xs.getD (t - q * p - 1).toNat 0 = z at *
  have m0 : 0 ≤ q * g := Int.mul_nonneg q0 g0
  have m1 : q * g ≤ 3000012 * 2000 := Int.mul_le_mul (by omega) g1 g0 (by decide)
  omega
theorem cost_bd {xs : List Int} {p g : Int} (R : OkRow xs p g) {q : Int × Int} (h : -1000000 ≤ q.1 ∧ q.1 ≤ 1000000 ∧ -1000000 ≤ q.2 ∧ q.2 ≤ 1000000) : 0 ≤ costM (cvAt xs p g) q.1 q.2 ∧ costM (cvAt xs p g) q.1 q.2 ≤ 10 ^ 11 := by
  unfold costM
  by_cases c : q.2 > q.1
  · rw [if_pos c]; exact cv_bd R _ (by omega) (by omega)
  · rw [if_neg c]; exact ⟨by decide, by decide⟩
theorem tot_bd {xs : List Int} {p g : Int} (R : OkRow xs p g) : ∀ {ps : List (Int × Int)}, Bd ps → 0 ≤ totM (cvAt xs p g) ps ∧ totM (cvAt xs p g) ps ≤ 10 ^ 11 * ps.length
  | [], _ => ⟨Int.le_refl _, Int.le_refl _⟩
  | q :: ps, h => by
    have i := tot_bd R (ps := ps) fun z hz => h z (List.mem_cons_of_mem _ hz)
    have j := cost_bd R (h q (List.mem_cons_self ..))
    have e : totM (cvAt xs p g) (q :: ps) = costM (cvAt xs p g) q.1 q.2 + totM (cvAt xs p g) ps := rfl
    rw [e, List.length_cons]
    omega
/-- curves of the same values cost the same -/
theorem cost_congr {f f' : Int → Int} (h : ∀ t, 1 ≤ t → f' t = f t) (a b : Int) : costM f' a b = costM f a b := by
  unfold costM
  by_cases c : b > a
  · rw [if_pos c, if_pos c, h _ (by omega)]
  · rw [if_neg c, if_neg c]
theorem tot_congr {f f' : Int → Int} (h : ∀ t, 1 ≤ t → f' t = f t) (ps : List (Int × Int)) : totM f' ps = totM f ps := by
  unfold totM costs
  rw [List.map_congr_left fun p _ => cost_congr h p.1 p.2]
theorem best_congr {f f' : Int → Int} (h : ∀ t, 1 ≤ t → f' t = f t) (ps : List (Int × Int)) : bestM f' ps = bestM f ps := by
  unfold bestM bestL
  have e : (fun b o => if totM f' (pick ps o) < totM f' b then pick ps o else b) = (fun b o => if totM f (pick ps o) < totM f b then pick ps o else b) := by
    funext b o
    rw [tot_congr h, tot_congr h]
  rw [e]
theorem Rng.ins {r y : Addr} {H : Hp} {C dx : Addr} {fs : List (Str × V)} (h : Rng H r) (e : H y = some (.ins C dx fs)) : y ≠ r := fun z => by
  obtain ⟨a, b, q, _⟩ := h
  rw [z, q] at e; cases e
theorem Rng.four {r y : Addr} {H : Hp} {a b c d : V} (h : Rng H r) (e : H y = some (.lst [a, b, c, d])) : y ≠ r := fun z => by
  obtain ⟨a, b, q, _⟩ := h
  rw [z, q] at e; cases e
theorem Prts.ext {r : Addr} {H H' : Hp} {xS : List V} {ws : List Vp} (d : Prts H xS ws) (hr : Rng H r) (e : Ext r H H') : Prts H' xS ws :=
  ⟨d.len, fun i u v h1 h2 => let ⟨q, eq, h⟩ := d.at_ i u v h1 h2; ⟨q, eq, e.keep _ _ (hr.four h) h⟩⟩
theorem Prts.upd {S : Addr} {o : HO} {H : Hp} {xS : List V} {ws : List Vp} (d : Prts H xS ws) (n : ∀ u ∈ xS, u ≠ V.ref S) : Prts (L2.upd H S o) xS ws :=
  ⟨d.len, fun i u v h1 h2 => let ⟨q, eq, h⟩ := d.at_ i u v h1 h2; ⟨q, eq, by rw [upd_ne (fun z => n u (List.mem_of_getElem? h1) (by rw [eq, z]))]; exact h⟩⟩
theorem RowAt.upd {S : Addr} {o : HO} {H : Hp} {t l : Addr} {xs : List Int} {p g : Int} (R : RowAt H t l xs p g) (n1 : t ≠ S) (n2 : l ≠ S) : RowAt (L2.upd H S o) t l xs p g := ⟨by rw [upd_ne n1]; exact R.tup, by rw [upd_ne n2]; exact R.lst, R.ok, R.low⟩
theorem Viss.ext {A : Ad} {r : Addr} {H H' : Hp} {xS : List V} {ws : List Vp} (d : Viss A H xS ws) (hr : Rng H r) (e : Ext r H H') : Viss A H' xS ws :=
  ⟨d.len, fun i u v h1 h2 => let ⟨q, eq, dx, h⟩ := d.at_ i u v h1 h2; ⟨q, eq, dx, e.keep _ _ (hr.ins h) h⟩⟩
theorem RowAt.up {H : Hp} {t l : Addr} {xs : List Int} {p g : Int} (h : RowAt H t l xs p g) : Up (cvAt xs p g) := by
  obtain ⟨p0, p12, pn, xn, x1⟩ := h.pp
  exact up_cv p0 pn (h.ok.lo 0 (by omega)) h.ok.up h.ok.last
theorem up_int {f : Int → Int} (U : Up f) (h0 : f 0 = 0) : (∀ t, 0 ≤ t → 0 ≤ f t) ∧ ∀ a b, 0 ≤ a → a ≤ b → f a ≤ f b := by
  have step : ∀ k : Nat, f k ≤ f ((k : Int) + 1) := fun k => by
    by_cases c : k = 0
    · subst c
      have := U.one
      show f 0 ≤ f 1
      omega
    · exact U.up k (by omega)
  have mono : ∀ (d a : Nat), f a ≤ f ((a + d : Nat) : Int) := fun d => by
    induction d with
    | zero => exact fun a => Int.le_refl _
    | succ d ih =>
      intro a
      have i := ih a
      have s := step (a + d)
      have e : ((a + (d + 1) : Nat) : Int) = ((a + d : Nat) : Int) + 1 := by omega
      rw [e]
      omega
  have m : ∀ a b, 0 ≤ a → a ≤ b → f a ≤ f b := fun a b h1 h2 => by
    have := mono (b - a).toNat a.toNat
    have e1 : ((a.toNat : Nat) : Int) = a := Int.toNat_of_nonneg h1
    have e2 : ((a.toNat + (b - a).toNat : Nat) : Int) = b := by omega
    rw [e1, e2] at this
    exact this
  exact ⟨fun t ht => by have := m 0 t (Int.le_refl _) ht; omega, m⟩
theorem st_in5 {b z F B : Int} (b0 : 0 ≤ b) (z5 : z ≤ 5) {q : Int × Int} (h : stM b (some z) F B = some q) : 0 ≤ q.1 ∧ q.1 ≤ 5 ∧ 0 ≤ q.2 ∧ q.2 ≤ 5 := by
  have eB' : eB (some z) B = if B < z then B else z := rfl
  unfold stM at h
  rw [eB'] at h
  by_cases c : (if B < z then B else z) ≤ (if b < F then F else b)
  · rw [if_pos c] at h; cases h
  · rw [if_neg c] at h
    have h := Option.some.inj h
    rw [← h]
    have f0 : b ≤ (if b < F then F else b) := by split <;> omega
    have f1 : (if B < z then B else z) ≤ z := by split <;> omega
    show 0 ≤ (if b < F then F else b) ∧ (if b < F then F else b) ≤ 5 ∧ 0 ≤ (if B < z then B else z) ∧ (if B < z then B else z) ≤ 5
    omega
theorem usts_in5 {ws : List Vp} (h : ∀ v ∈ ws, Few v) (lo hi : Int) : In5 (ustsM ws lo hi) := by
  intro q hq
  unfold ustsM at hq
  obtain ⟨o, ho, e⟩ := List.mem_filterMap.mp hq
  obtain ⟨v, hv, rfl⟩ := List.mem_map.mp ho
  have W := h v hv
  obtain ⟨z, ez, z0, z5⟩ := W.e0
  have e : ustM v lo hi = some q := e
  unfold ustM at e
  rw [ez] at e
  exact st_in5 W.b0 z5 e
theorem psts_in5 {ws : List Vp} (h : ∀ v ∈ ws, Few v) (n : Int) : In5 (pstsM ws n) := by
  intro q hq
  unfold pstsM at hq
  obtain ⟨o, ho, e⟩ := List.mem_filterMap.mp hq
  obtain ⟨v, hv, rfl⟩ := List.mem_map.mp ho
  have W := h v hv
  obtain ⟨z, ez, z0, z5⟩ := W.e0
  have e : pstM v n = some q := e
  unfold pstM at e
  rw [ez] at e
  exact st_in5 W.b0 z5 e
theorem In5.bd {ps : List (Int × Int)} (h : In5 ps) : Bd ps := fun q hq => by
  have := h q hq
  omega
/-- the numbers of a record -/
theorem recs_two {f : Int → Int} {m : Nat} {u : List Int} (f2 : f 1 ≤ 2) (h : u ∈ recsM f m 5) : u.length = 5 ∧ ∀ x ∈ u, 0 ≤ x ∧ x ≤ 2 := by
  obtain ⟨r1, r2, r3⟩ := recs_of h
  refine ⟨r1, fun x hx => ⟨r2 x hx, ?_⟩⟩
  obtain ⟨i, hi⟩ := List.mem_iff_getElem?.mp hx
  have il := (List.getElem?_eq_some_iff.mp hi).1
  have k := r3 i (i + 1) (by omega) (by omega)
  rw [← sum_slice u (by omega), List.take_add_one, hi] at k
  have e : ((u.take i ++ (some x).toList).drop i).sum = x := by
    rw [List.drop_append, List.length_take, Nat.min_eq_left (by omega), Nat.sub_self, List.drop_of_length_le (by rw [List.length_take]; omega)]
    show x + 0 = x
    omega
  rw [e] at k
  have e2 : (((i + 1 : Nat) : Int) - (i : Int)) = 1 := by omega
  rw [e2] at k
  omega
/-- the greatest of numbers -/
theorem max_is {l : List Int} {m : Int} (h : ∀ x ∈ l, x ≤ m) (hm : m ∈ l) : ∀ {z : Int}, z ∈ l → (∀ x ∈ l, x ≤ z) → z = m := fun hz hx => Int.le_antisymm (h _ hz) (hx _ hm)
def row22 : List Int := [2, 2]
theorem ok22 : OkRow row22 2 1 ∧ (∀ i, row22.getD i 0 ≤ 20) ∧ GoodC (cvAt row22 2 1) row22.length := okB_of (by decide +kernel)
theorem at22 : cvAt row22 2 1 1 = 2 := by decide +kernel
end VK


namespace VK
open PySem PySem.Spec PyProof.Rows L2 VM VLp
theorem IL.ext {r : Addr} {H H' : Hp} {xs : List V} {os : List (List Int)} (d : IL H xs os) (h5 : ∀ o ∈ os, o.length = 5) (hr : Rng H r) (e : Ext r H H') : IL H' xs os :=
  ⟨d.len, fun i u o h1 h2 => let ⟨q, eq, h⟩ := d.at_ i u o h1 h2; ⟨q, eq, e.keep _ _ (fun z => by
    obtain ⟨a, b, q1, _⟩ := hr
    rw [z, q1] at h
    injection h with h
    injection h with h
    have l := congrArg List.length h
    rw [List.length_map, h5 o (List.mem_of_getElem? h2)] at l
    cases l) h⟩⟩
/-- what stands while the law goes on -/
structure Scene (A : Ad) (r t l S y x q : Addr) (xs : List Int) (p g : Int) (xS xV ys : List V) (ws : List Vp) (FV : List Int) (FP FG : Int) (H : Hp) : Prop where
  rng : Rng H r
  row : RowAt H t l xs p g
  nl : l ≠ r
  lst : H S = some (.lst xS)
  nS : S ≠ r
  prts : Prts H xS ws
  load : ∃ dx lv, H y = some (.ins A.Load dx (lfs x lv)) ∧ H lv = some (.lst xV) ∧ lv ≠ r
  viss : Viss A H xV ws
  crv : ∃ dx lc w, H x = some (.ins A.Curve dx (cfs lc FP FG w)) ∧ H lc = some (.lst (FV.map V.int)) ∧ lc ≠ r
  rcs : H q = some (.lst ys)
  nq : q ≠ r
  il : IL H ys (recsM (cvAt xs p g) (cvAt xs p g 1 + 1).toNat 5)
theorem Scene.ext {A : Ad} {r t l S y x q : Addr} {xs : List Int} {p g : Int} {xS xV ys : List V} {ws : List Vp} {FV : List Int} {FP FG : Int} {H H' : Hp} (s : Scene A r t l S y x q xs p g xS xV ys ws FV FP FG H) (e : Ext r H H') : Scene A r t l S y x q xs p g xS xV ys ws FV FP FG H' := by
  obtain ⟨dx, lv, h1, h2, h3⟩ := s.load
  obtain ⟨dc, lc, w, g1, g2, g3⟩ := s.crv
  exact ⟨e.rng, e.row s.row s.rng s.nl, s.nl, e.keep _ _ s.nS s.lst, s.nS, s.prts.ext s.rng e, ⟨dx, lv, e.keep _ _ (s.rng.ins h1) h1, e.keep _ _ h3 h2, h3⟩, s.viss.ext s.rng e, ⟨dc, lc, w, e.keep _ _ (s.rng.ins g1) g1, e.keep _ _ g3 g2, g3⟩, e.keep _ _ s.nq s.rcs, s.nq, s.il.ext (fun o ho => (recs_of ho).1) s.rng e⟩
section
variable {A : Ad} {r t l S y x q : Addr} {xs : List Int} {p g : Int} {xS xV ys : List V} {ws : List Vp} {FV : List Int} {FP FG : Int} {H H' : Hp}
theorem Scene.ld (s : Scene A r t l S y x q xs p g xS xV ys ws FV FP FG H) (k : Same H H') : LoadAt A H' y x xV := by
  obtain ⟨dx, lv, h1, h2, h3⟩ := s.load
  exact ⟨dx, lv, k _ _ h1, k _ _ h2⟩
theorem Scene.cv (s : Scene A r t l S y x q xs p g xS xV ys ws FV FP FG H) (k : Same H H') (f1 : 0 < FP) (f3 : FP ≤ FV.length) (lF : FV.length ≤ 1000) : Crv A H' x FV FP FG := by
  obtain ⟨dc, lc, w, g1, g2, g3⟩ := s.crv
  exact ⟨⟨dc, lc, w, k _ _ g1, k _ _ g2⟩, f1, f3, lF⟩
end
def sp_l_right (_ : PySem.W.Frag) (_ : Ad) : Sp := fun vs H Q _ => ∃ (r : Addr), vs = [.ref r] ∧ Rng H r ∧ ∀ H', Ext r H H' → Q (.bl true) H'
section
variable {P : Program} {w : World} {K : PySem.W.Frag} {mg : Str → Option Value} {base : Heap} {A : Ad}
theorem ok_l_right (T : Txt K mg A) : VG.FnG P w K mg base CX0 9 A.f_l_right A.d_l_right ["_law_rng_here"] (sp_l_right K A) := by
  have G_C_init := ok_C_init (P := P) (w := w) (base := base) T
  have G_Load_init := ok_Load_init (P := P) (w := w) (base := base) T
  have G_Visit_init := ok_Visit_init (P := P) (w := w) (base := base) T
  have G_demand := ok_demand (P := P) (w := w) (base := base) T
  have G_l_at := ok_l_at (P := P) (w := w) (base := base) T
  have G_l_count := ok_l_count (P := P) (w := w) (base := base) T
  have G_l_count_places := ok_l_count_places (P := P) (w := w) (base := base) T
  have G_l_draw := ok_l_draw (P := P) (w := w) (base := base) T
  have G_l_parts := ok_l_parts (P := P) (w := w) (base := base) T
  have G_l_records := ok_l_records (P := P) (w := w) (base := base) T
  have G_l_row := ok_l_row (P := P) (w := w) (base := base) T
  have G_places := ok_places (P := P) (w := w) (base := base) T
  obtain ⟨mv1, kb_Curve_period_gain⟩ := kb_init2 T
  obtain ⟨mv2, kb_Visit_shift_begin_end⟩ := kb_vis3 T
  refine VG.okG0 T.F_l_right sc_l_right (fun vs H Q E h => ?_) (fun cdv A0 outer s H vs Q E hA hr h => ?_)
  · obtain ⟨r, rfl, hr0, k⟩ := h
    rfl
  · obtain ⟨r, rfl, hr0, k⟩ := h
    refine ⟨_, (pss_cons (ps_set (i := 1) sc_l_right.nd rfl (by first | exact Or.inl rfl | exact Or.inr rfl) (pe_call G_l_row (hr.mono (by decide)) rfl T.m_l_row T.k_l_row T.b_l_row .nil pass0 (pa_cons (pv 0) pa_nil)))
    (VG.pss_join (ps_if (pt_cmpR op_gt (pe_call G_l_at (hr.mono (by decide)) rfl T.m_l_at T.k_l_at T.b_l_at .nil pass0 (pa_cons (pv 1) (pa_cons pe_int pa_nil))) pe_int (nomark _)) (pss_one (ps_set (i := 1) sc_l_right.nd rfl (by first | exact Or.inl rfl | exact Or.inr rfl) (pe_tup (pa_cons (pe_lst (pa_cons pe_int (pa_cons pe_int pa_nil))) (pa_cons pe_int (pa_cons pe_int pa_nil)))))) pss_nil)
    (pss_cons (ps_set (i := 2) sc_l_right.nd rfl (by first | exact Or.inl rfl | exact Or.inr rfl) (pe_lc (own := [("_law_turn", 6)]) (g := gName 6) (tt := tYes) rfl sc_l_right.nd (pi_range1 rfl T.range (pa_cons (pe_op op_add pe_int (pe_call G_l_draw (hr.mono (by decide)) rfl T.m_l_draw T.k_l_draw T.b_l_draw .nil pass0 (pa_cons (pv 0) (pa_cons pe_int pa_nil)))) pa_nil)) (blkOk_by (own := [("_law_turn", 6)]) (N := ["_law_rng_here", "_law_row_here", "_law_some", "_law_made", "_law_load", "_law_records_here", "_law_turn", "_law_low", "_law_high", "_law_due", "_law_now", "_law_parts_here", "_law_record"]) (sc := defScope s_l_right) (by decide +kernel)) (fun _ _ _ _ _ => pg_name (i := 6) sc_l_right.nd rfl (by first | exact Or.inl rfl | exact Or.inr rfl)) (fun _ _ _ _ _ => pts_nil) (fun _ _ _ _ _ => (pe_call G_l_parts (hr.mono (by decide)) rfl T.m_l_parts T.k_l_parts T.b_l_parts .nil pass0 (pa_cons (pv 0) pa_nil)))))
    (pss_cons (ps_setLc (i := 3) (own := [("_law_parts_here", 11)]) (g := gName 11) (tt := tYes) rfl sc_l_right.nd rfl rfl (sw_true rfl rfl rfl (by decide +kernel)) (pi_list (pv 2)) (blkOk_by (own := [("_law_parts_here", 11)]) (N := ["_law_rng_here", "_law_row_here", "_law_some", "_law_made", "_law_load", "_law_records_here", "_law_turn", "_law_low", "_law_high", "_law_due", "_law_now", "_law_parts_here", "_law_record"]) (sc := defScope s_l_right) (by decide +kernel)) (fun _ _ _ _ _ => pg_name (i := 11) sc_l_right.nd rfl (by first | exact Or.inl rfl | exact Or.inr rfl)) (fun _ _ _ _ _ => pts_nil) (fun _ _ _ _ _ => (pe_makeK (n := 1) T.M_Visit G_Visit_init (hr.mono (by decide)) rfl T.m_Visit kb_Visit_shift_begin_end pass0 (pa_cons (pe_ix (r := rIxL K) ix_list (pv 11) pe_int (fun _ _ => rfl)) pa_nil) (pk_cons (pe_ix (r := rIxL K) ix_list (pv 11) pe_int (fun _ _ => rfl)) (pk_cons (pe_ix (r := rIxL K) ix_list (pv 11) pe_int (fun _ _ => rfl)) (pk_cons (pe_ix (r := rIxL K) ix_list (pv 11) pe_int (fun _ _ => rfl)) pk_nil))))))
    (pss_cons (ps_set (i := 4) sc_l_right.nd rfl (by first | exact Or.inl rfl | exact Or.inr rfl) (pe_make T.M_Load G_Load_init (hr.mono (by decide)) rfl T.m_Load T.b_Load_init .nil pass0 (pa_cons (pe_makeK (n := 1) T.M_Curve G_C_init (hr.mono (by decide)) rfl T.m_Curve kb_Curve_period_gain pass0 (pa_cons (pe_ix (r := rIxT K) ix_tup (pv 1) pe_int (fun _ _ => rfl)) pa_nil) (pk_cons (pe_ix (r := rIxT K) ix_tup (pv 1) pe_int (fun _ _ => rfl)) (pk_cons (pe_ix (r := rIxT K) ix_tup (pv 1) pe_int (fun _ _ => rfl)) pk_nil))) (pa_cons (pv 3) pa_nil))))
    (pss_cons (ps_set (i := 5) sc_l_right.nd rfl (by first | exact Or.inl rfl | exact Or.inr rfl) (pe_call G_l_records (hr.mono (by decide)) rfl T.m_l_records T.k_l_records T.b_l_records .nil pass0 (pa_cons (pv 1) (pa_cons pe_int pa_nil))))
    (pss_cons (ps_for PassesOwn.never rfl (pi_range1 rfl T.range (pa_cons pe_int pa_nil)) (pg_name (i := 6) sc_l_right.nd rfl (by first | exact Or.inl rfl | exact Or.inr rfl))
      (pss_cons (ps_set (i := 7) sc_l_right.nd rfl (by first | exact Or.inl rfl | exact Or.inr rfl) (pe_call G_l_draw (hr.mono (by decide)) rfl T.m_l_draw T.k_l_draw T.b_l_draw .nil pass0 (pa_cons (pv 0) (pa_cons pe_int pa_nil))))
    (pss_cons (ps_set (i := 8) sc_l_right.nd rfl (by first | exact Or.inl rfl | exact Or.inr rfl) (pe_op op_add (pe_op op_add (pv 7) pe_int) (pe_call G_l_draw (hr.mono (by decide)) rfl T.m_l_draw T.k_l_draw T.b_l_draw .nil pass0 (pa_cons (pv 0) (pa_cons pe_int pa_nil)))))
    (pss_cons (ps_set (i := 9) sc_l_right.nd rfl (by first | exact Or.inl rfl | exact Or.inr rfl) (pe_callB (r := rMax K) (cr_max rfl) (by rfl) T.max (by decide +kernel) (pa_cons (pe_lc (own := [("_law_record", 12)]) (g := gName 12) (tt := tYes) rfl sc_l_right.nd (pi_list (pv 5)) (blkOk_by (own := [("_law_record", 12)]) (N := ["_law_rng_here", "_law_row_here", "_law_some", "_law_made", "_law_load", "_law_records_here", "_law_turn", "_law_low", "_law_high", "_law_due", "_law_now", "_law_parts_here", "_law_record"]) (sc := defScope s_l_right) (by decide +kernel)) (fun _ _ _ _ _ => pg_name (i := 12) sc_l_right.nd rfl (by first | exact Or.inl rfl | exact Or.inr rfl)) (fun _ _ _ _ _ => pts_nil) (fun _ _ _ _ _ => (pe_call G_l_count (hr.mono (by decide)) rfl T.m_l_count T.k_l_count T.b_l_count .nil pass0 (pa_cons (pv 2) (pa_cons (pv 12) (pa_cons (pv 7) (pa_cons (pv 8) pa_nil))))))) pa_nil)))
    (pss_cons (ps_if (pt_cmpR op_ne (pe_callB (r := VG.rRepr K) (VG.call_repr hA hr.units) (by rfl) T.repr (by decide +kernel) (pa_cons (pe_call G_demand (hr.mono (by decide)) rfl T.m_demand T.k_demand T.b_demand .nil pass0 (pa_cons (pv 4) (pa_cons (pv 7) (pa_cons (pv 8) pa_nil)))) pa_nil)) (pe_callB (r := VG.rRepr K) (VG.call_repr hA hr.units) (by rfl) T.repr (by decide +kernel) (pa_cons (pv 9) pa_nil)) (nomark _)) (pss_one (ps_ret pe_bl)) pss_nil)
    (pss_cons (ps_set (i := 10) sc_l_right.nd rfl (by first | exact Or.inl rfl | exact Or.inr rfl) (pe_call G_l_draw (hr.mono (by decide)) rfl T.m_l_draw T.k_l_draw T.b_l_draw .nil pass0 (pa_cons (pv 0) (pa_cons pe_int pa_nil))))
    (pss_cons (ps_set (i := 9) sc_l_right.nd rfl (by first | exact Or.inl rfl | exact Or.inr rfl) (pe_callB (r := rMax K) (cr_max rfl) (by rfl) T.max (by decide +kernel) (pa_cons (pe_lc (own := [("_law_record", 12)]) (g := gName 12) (tt := tYes) rfl sc_l_right.nd (pi_list (pv 5)) (blkOk_by (own := [("_law_record", 12)]) (N := ["_law_rng_here", "_law_row_here", "_law_some", "_law_made", "_law_load", "_law_records_here", "_law_turn", "_law_low", "_law_high", "_law_due", "_law_now", "_law_parts_here", "_law_record"]) (sc := defScope s_l_right) (by decide +kernel)) (fun _ _ _ _ _ => pg_name (i := 12) sc_l_right.nd rfl (by first | exact Or.inl rfl | exact Or.inr rfl)) (fun _ _ _ _ _ => pts_nil) (fun _ _ _ _ _ => (pe_call G_l_count_places (hr.mono (by decide)) rfl T.m_l_count_places T.k_l_count_places T.b_l_count_places .nil pass0 (pa_cons (pv 2) (pa_cons (pv 12) (pa_cons (pv 10) pa_nil)))))) pa_nil)))
    (pss_one (ps_if (pt_cmpR op_ne (pe_callB (r := VG.rRepr K) (VG.call_repr hA hr.units) (by rfl) T.repr (by decide +kernel) (pa_cons (pe_call G_places (hr.mono (by decide)) rfl T.m_places T.k_places T.b_places .nil pass0 (pa_cons (pe_lst (pa_cons (pv 4) pa_nil)) (pa_cons (pv 10) pa_nil))) pa_nil)) (pe_callB (r := VG.rRepr K) (VG.call_repr hA hr.units) (by rfl) T.repr (by decide +kernel) (pa_cons (pe_lst (pa_cons (pv 9) pa_nil)) pa_nil)) (nomark _)) (pss_one (ps_ret pe_bl)) pss_nil)))))))))
    (pss_one (ps_ret pe_bl))))))))), ?_⟩
    refine ⟨_, rfl, r, rfl, hr0, fun H1 t0 l0 xs0 p0 g0 e1 ht0 hl0 R1 G1 => ?_⟩
    have nlr0 := hr0.ne hl0
    obtain ⟨q0, q12, qn, qx, qx1⟩ := R1.pp
    refine ⟨fun σ' H' => ∃ (t l : Addr) (xs : List Int) (p g : Int), σ' = [some (.ref r), some (.ref t), none, none, none, none, none, none, none, none, none, none, none] ∧ Ext r H H' ∧ RowAt H' t l xs p g ∧ GoodC (cvAt xs p g) xs.length ∧ cvAt xs p g 1 ≤ 2 ∧ l ≠ r, ?_, ?_⟩
    · refine ⟨_, rfl, t0, l0, xs0, p0, g0, 1, rfl, SqT.of R1.tup, SqL.of R1.lst, q0, qn, qx, by decide, by decide, _, _, rfl, rfl, _, rfl, ifD (fun c => ?_) (fun c => ?_)⟩
      · refine ⟨(by show 2 ≤ sizeLine; decide), fun a ha => ⟨(by show 3 ≤ sizeLine; decide), fun b hb => ?_⟩⟩
        have e2 : Ext r H (upd H1 a (.lst [.int 2, .int 2])) := e1.put (e1.free ha) (hr0.ne (e1.free ha))
        have e3 := e2.put (o := .tup [.ref a, .int 2, .int 1]) (e2.free hb) (hr0.ne (e2.free hb))
        have nab : a ≠ b := fun z => by rw [← z, upd_same] at hb; cases hb
        exact ⟨b, a, row22, 2, 1, rfl, e3, ⟨upd_same, by rw [upd_ne nab, upd_same]; rfl, ok22.1, ok22.2.1⟩, ok22.2.2, by rw [at22]; decide, hr0.ne (e1.free ha)⟩
      · exact ⟨t0, l0, xs0, p0, g0, rfl, e1, R1, G1, by omega, nlr0⟩
    rintro σ' H2 ⟨t, l, xs, p, g, rfl, e2, R2, G, cv2, nlr⟩
    clear R1 G1 q0 q12 qn qx qx1 ht0 hl0 nlr0 e1
    refine ⟨_, rfl, r, _, rfl, e2.rng, by decide, by decide, fun H3 d e3 d0 d1 => ⟨_, _, rfl, rfl, _, rfl, by omega, by omega, fun S hS => lc_range (lo := 0) (n := (1 + d).toNat) (fun i H4 => ∃ (us : List V) (ws : List Vp), H4 S = some (.lst us) ∧ Prts H4 us ws ∧ ws.length = i ∧ (∀ v ∈ ws, Few v) ∧ (∀ u ∈ us, u ≠ .ref S) ∧ Ext r H3 H4)
      ⟨[], [], upd_same, .nil, rfl, (fun v hv => nomatch hv), (fun v hv => nomatch hv), Ext.put (.refl e3.rng) hS (e3.rng.ne hS)⟩ ?_ ?_⟩⟩
    · rintro i H4 hi ⟨us, ws, hus, pu, lw, fw, nu, e4⟩
      have nSr : S ≠ r := e3.rng.ne hS
      refine ⟨rfl, _, rfl, r, rfl, e4.rng, fun H5 a v e5 ha na ha5 f5 => ?_⟩
      have hus5 := e5.keep _ _ nSr hus
      have naS : a ≠ S := fun z => by rw [z, hus] at ha; cases ha
      have lu := pu.len
      refine ⟨us, hus5, small (by omega), us ++ [.ref a], ws ++ [v], upd_same, ?_, by rw [List.length_append, lw]; rfl, ?_, ?_, (e4.trans e5).put hS nSr⟩
      · refine ((pu.ext e4.rng e5).snoc ha5).upd ?_
        intro u hu
        rcases List.mem_append.mp hu with h | h
        · exact nu u h
        · rw [List.mem_singleton.mp h]; exact fun z => naS (by injection z)
      · intro w hw
        rcases List.mem_append.mp hw with h | h
        · exact fw w h
        · rw [List.mem_singleton.mp h]; exact f5
      · intro u hu
        rcases List.mem_append.mp hu with h | h
        · exact nu u h
        · rw [List.mem_singleton.mp h]; exact fun z => naS (by injection z)
    rintro H4 ⟨xS, ws, hS4, p4, lw, W, nS, e4⟩
    have nSr : S ≠ r := e3.rng.ne hS
    have l4 := p4.len
    have e04 : Ext r H H4 := (e2.trans e3).trans e4
    have R4 := (e3.trans e4).row R2 e2.rng nlr
    have nlS : l ≠ S := ne_of_none (e3.row R2 e2.rng nlr).lst hS
    clear R2 e2 e3 hS e4
    have pD : ∀ D, H4 D = none → ∀ u ∈ xS, u ≠ V.ref D := fun D hD u hu => by
      obtain ⟨j, hj⟩ := List.mem_iff_getElem?.mp hu
      obtain ⟨q, v, ev, rfl, hq⟩ := p4.get hj
      exact fun z => ne_of_none hq hD (by injection z)
    refine ⟨_, rfl, S, rfl, ⟨xS, SqL.of hS4⟩, fun D hD => lc_list (xs := xS) (fun i H6 => ∃ zs, H6 D = some (.lst zs) ∧ Viss A H6 zs (ws.take i) ∧ Same H4 H6) ⟨[], upd_same, .nil, Same.upd (Same.refl _) hD⟩ (fun i H6 _ ⟨_, q⟩ => SqL.of (q.2.2 _ _ hS4)) ?_ ?_⟩
    · rintro i u H6 hu ⟨zs, hz, dz, s6⟩
      obtain ⟨q, v, ev, rfl, hq⟩ := p4.get hu
      have F := W v (List.mem_of_getElem? ev)
      have hq6 := SqL.of (K := K) (s6 _ _ hq)
      have lz : zs.length ≤ 1000 := by rw [dz.len, List.length_take]; omega
      refine ⟨rfl, _, rfl, q, _, _, _, rfl, rfl, hq6, rfl, _, rfl, q, _, _, _, rfl, rfl, hq6, rfl, _, rfl, q, _, _, _, rfl, rfl, hq6, rfl, _, rfl, q, _, _, _, rfl, rfl, hq6, rfl, rfl, rfl, ?_⟩
      intro x dx hx hdx hne
      have s7 : Same H6 (upd (upd (upd H6 dx (.own x)) x (.ins A.Visit dx [])) x (.ins A.Visit dx (vfs v.t v.s v.b (oV v.e)))) := by
        rw [upd_upd]
        exact Same.upd (Same.upd (Same.refl _) hdx) hx
      refine ⟨x, dx, v.t, v.s, v.b, v.e, rfl, upd_same, F.ok, rfl, zs, s7 _ _ hz, small (Nat.le_trans lz (by decide)), zs ++ [.ref x], upd_same, ?_, Same.upd (s6.trans s7) hD⟩
      rw [List.take_add_one, ev]
      have d7 : Viss A (upd (upd (upd H6 dx (.own x)) x (.ins A.Visit dx [])) x (.ins A.Visit dx (vfs v.t v.s v.b (oV v.e)))) (zs ++ [.ref x]) (ws.take i ++ [v]) := (dz.same s7).snoc ⟨dx, upd_same⟩
      exact ⟨d7.len, fun j u w h1 h2 => let ⟨o, eo, dx, h⟩ := d7.at_ j u w h1 h2; ⟨o, eo, dx, by rw [upd_ne (fun z => by rw [z, s7 _ _ hz] at h; cases h)]; exact h⟩⟩
    rintro H6 ⟨zs, hz, dz, s6⟩
    rw [l4, List.take_length] at dz
    have lz := dz.len
    have R6 := R4.same s6
    have e06 := e04.same s6
    have hS6 := s6 _ _ hS4
    have p6 := p4.same s6
    have nDr : D ≠ r := e04.rng.ne hD
    have pD := pD D hD
    have hD0 : H D = none := e04.free hD
    have nDl : l ≠ D := ne_of_none R4.lst hD
    have nDS : S ≠ D := ne_of_none hS4 hD
    obtain ⟨p0, p12, pn, xn, x1⟩ := R6.pp
    obtain ⟨f1, f2, f3, f4, f5⟩ := form_spec (vs := xs) (g := g) p0 pn
    have ok := R6.ok
    refine ⟨_, rfl, t, _, _, _, rfl, rfl, SqT.of R6.tup, rfl, _, rfl, t, _, _, _, rfl, rfl, SqT.of R6.tup, rfl, _, rfl, t, _, _, _, rfl, rfl, SqT.of R6.tup, rfl, rfl, rfl, fun x dx hx hdx hne => ?_⟩
    refine ⟨x, dx, l, xs, p, g, rfl, upd_same, SqL.of (by rw [upd_ne (ne_of_none R6.lst hx), upd_ne (ne_of_none R6.lst hdx)]; exact R6.lst), ok, fun H7 dxc lc keep hlc c1 c2 => ⟨rfl, ?_⟩⟩
    have s7 : Same H6 H7 := fun b o e => keep b o (ne_of_none e hx) (by rw [upd_ne (ne_of_none e hx), upd_ne (ne_of_none e hdx)]; exact e)
    have e07 := e06.same s7
    have sxd : Same H6 (upd (upd H6 dx (.own x)) x (.ins A.Curve dx [])) := Same.upd (Same.upd (Same.refl _) hdx) hx
    have nlcr : lc ≠ r := (e06.rng.same sxd).ne hlc
    have nlcD : lc ≠ D := Ne.symm (ne_of_none (sxd _ _ hz) hlc)
    have hx0 : H x = none := e06.free hx
    have cfg : ∀ t : Int, 1 ≤ t → cvAt (formV xs p g) (formP xs p g).1 (formP xs p g).2 t = cvAt xs p g t := fun t h => f5 t (by omega)
    have GF : GoodC (cvAt (formV xs p g) (formP xs p g).1 (formP xs p g).2) (formV xs p g).length := fun a b h1 h2 h3 => by
      rw [cfg _ (by omega), cfg _ (by omega), cfg _ (by omega)]
      exact G a b h1 h2 (by omega)
    have lF : (formV xs p g).length ≤ 1000 := by omega
    have R7 := R6.same s7
    have hz7 := s7 _ _ hz
    have hS7 := s7 _ _ hS6
    have p7 := p6.same s7
    have d7 := dz.same s7
    clear keep hlc s6 s7 hdx hne R6 hz hS6 p6 dz e06 R4 p4 hS4
    generalize formV xs p g = FV at *
    generalize (formP xs p g).1 = FP at *
    generalize (formP xs p g).2 = FG at *
    refine ⟨_, rfl, fun y dy hy hdy hne2 => ?_⟩
    have sy : Same H7 (upd (upd H7 dy (.own y)) y (.ins A.Load dy [])) := Same.upd (Same.upd (Same.refl _) hdy) hy
    refine ⟨y, dy, x, D, FV, FP, FG, zs, ws, rfl, upd_same, (CrvAt.same ⟨dxc, lc, false, c1, c2⟩ sy), f1, f3, lF, GF, sy _ _ hz7, d7.same sy, by omega, by omega, fun H8 lv k8 hlv hlv2 => ⟨rfl, ?_⟩⟩
    have nDx : D ≠ x := ne_of hz7 c1 (fun z => by cases z)
    have nyv : y ≠ lv := ne_of_none (show upd (upd H7 dy (.own y)) y (.ins A.Load dy []) y = some (.ins A.Load dy []) from upd_same) hlv
    have nxy : x ≠ y := ne_of_none c1 hy
    have hx8 := k8.obj _ _ _ _ _ (sy _ _ c1)
    have nxv : x ≠ lv := ne_of_none hx8 hlv2
    have nvr : lv ≠ r := (e07.rng.same sy).ne hlv
    have k7 : ∀ b o, b ≠ x → H7 b = some o → upd (upd H8 lv (.lst zs)) y (.ins A.Load dy (lfs x lv)) b = some o := fun b o nx e => by
      have e8 := k8.ne nx (sy _ _ e)
      rw [upd_ne (ne_of_none e hy), upd_ne (ne_of_none e8 hlv2)]
      exact e8
    have y10 : upd (upd H8 lv (.lst zs)) y (.ins A.Load dy (lfs x lv)) y = some (.ins A.Load dy (lfs x lv)) := upd_same
    have v10 : upd (upd H8 lv (.lst zs)) y (.ins A.Load dy (lfs x lv)) lv = some (.lst zs) := by
      rw [upd_ne (Ne.symm nyv), upd_same]
    have x10 : upd (upd H8 lv (.lst zs)) y (.ins A.Load dy (lfs x lv)) x = some (.ins A.Curve dxc (cfs lc FP FG true)) := by
      rw [upd_ne nxy, upd_ne nxv]
      exact hx8
    generalize upd (upd H8 lv (.lst zs)) y (.ins A.Load dy (lfs x lv)) = H10 at *
    have nrx : r ≠ x := fun z => e07.rng.ins c1 z.symm
    have rng10 : Rng H10 r := by
      obtain ⟨a1, a2, a3, a4⟩ := e07.rng
      exact ⟨a1, a2, k7 _ _ nrx a3, a4⟩
    have e10 : Ext r H H10 := ⟨fun b o nb e => k7 b o (ne_of_none e hx0) (e07.keep b o nb e), rng10⟩
    have nf : ∀ {b : Addr} {u : HO}, H7 b = some u → (∀ dx fs, u ≠ .ins A.Curve dx fs) → b ≠ x := fun h n => ne_of h c1 (n _ _)
    have R10 : RowAt H10 t l xs p g := ⟨k7 _ _ (ne_of R7.tup c1 (fun z => by cases z)) R7.tup, k7 _ _ (ne_of R7.lst c1 (fun z => by cases z)) R7.lst, R7.ok, R7.low⟩
    obtain ⟨nn, mono⟩ := up_int R10.up (cvAt_zero)
    have sub := good_all (Rep.cvAt (g := g) p0 pn) p0 pn (cvAt_zero) G
    have n1 := nn 1 (by decide)
    refine ⟨_, rfl, t, l, xs, p, g, rfl, R10, n1, cv2, fun H11 q ys s11 hq0 hq il => ?_⟩
    have sc : Scene A r t l S y x q xs p g xS zs ys ws FV FP FG H11 := by
      have E11 := Ext.of rng10 s11
      refine ⟨E11.rng, R10.same s11, nlr, s11 _ _ (k7 _ _ (nf hS7 (fun _ _ z => by cases z)) hS7), nSr, ?_, ⟨dy, lv, s11 _ _ y10, s11 _ _ v10, nvr⟩, ?_, ⟨dxc, lc, true, s11 _ _ x10, s11 _ _ (k7 _ _ (nf c2 (fun _ _ z => by cases z)) c2), nlcr⟩, hq, rng10.ne hq0, il⟩
      · refine ⟨p7.len, fun i u v h1 h2 => ?_⟩
        obtain ⟨q, eq, h⟩ := p7.at_ i u v h1 h2
        exact ⟨q, eq, s11 _ _ (k7 _ _ (nf h (fun _ _ z => by cases z)) h)⟩
      · refine ⟨d7.len, fun i u v h1 h2 => ?_⟩
        obtain ⟨q, eq, dv, h⟩ := d7.at_ i u v h1 h2
        refine ⟨q, eq, dv, s11 _ _ (k7 _ _ (fun z => ?_) h)⟩
        rw [z, c1] at h
        injection h with h
        injection h with a b e
        have := congrArg List.length e
        simp [cfs, vfs] at this
    have e11 := e10.same s11
    clear x10 v10 y10 k7 hx8 nyv nxy nxv nvr nDx hlv hlv2 k8 sy hy hdy hne2 c1 GF p7 d7 hS7 hz7 R7 nlcr nlcD hx hx0 e07 hq hq0 il nf s11 rng10 e10 R10 c2
    have fN : ∀ ps, totM (cvAt FV FP FG) (bestM (cvAt FV FP FG) ps) = totM (cvAt xs p g) (bestM (cvAt xs p g) ps) := fun ps => by rw [best_congr cfg, tot_congr cfg]
    have W3 : ws.length ≤ 3 := by omega
    have mx : ∀ ps, ps.length ≤ 3 → In5 ps → _ := fun ps h i => recs_max (f := cvAt xs p g) nn mono sub (ps := ps) h i
    generalize ho : recsM (cvAt xs p g) (cvAt xs p g 1 + 1).toNat 5 = os at *
    have two : ∀ u ∈ os, u.length = 5 ∧ ∀ x ∈ u, 0 ≤ x ∧ x ≤ 2 := fun u hu => by rw [← ho] at hu; exact recs_two cv2 hu
    have ol : os.length ≤ 243 := by
      rw [← ho]
      refine Nat.le_trans (recs_len 5) ?_
      refine Nat.le_trans (Nat.pow_le_pow_left (show (cvAt xs p g 1 + 1).toNat ≤ 3 by omega) 5) (by decide)
    refine ⟨_, rfl, by decide, by decide, for_range (lo := 0) (n := 3) (fun i σ H' => ∃ (v6 v7 v8 v9 v10 : Option V), σ = [some (.ref r), some (.ref t), some (.ref S), some (.ref D), some (.ref y), some (.ref q), v6, v7, v8, v9, v10, none, none] ∧ Ext r H H' ∧ Scene A r t l S y x q xs p g xS zs ys ws FV FP FG H')
      ⟨_, _, _, _, _, rfl, e11, sc⟩ ?_ ?_⟩
    · clear sc e11
      rintro i σ H' hi ⟨v6, v7, v8, v9, v10, rfl, eH, sc⟩
      refine ⟨_, rfl, r, _, rfl, sc.rng, by decide, by decide, fun H1 lo e1 lo0 lo1 => ?_⟩
      have sc1 := sc.ext e1
      refine ⟨_, rfl, _, _, rfl, rfl, _, rfl, r, _, rfl, sc1.rng, by decide, by decide, fun H2 dh e2 dh0 dh1 => ⟨_, _, rfl, rfl, ?_⟩⟩
      have sc2 := sc1.ext e2
      have eH2 := (eH.trans e1).trans e2
      clear sc sc1 e1 e2 eH
      have hlo : lo < lo + 1 + dh := by omega
      show gName 8 (V.int (lo + 1 + dh)) _ _ _
      generalize hhi : lo + 1 + dh = hi' at *
      have i5 := usts_in5 W lo hi'
      have pl : (ustsM ws lo hi').length ≤ 3 := Nat.le_trans (usts_len _ _ _) W3
      obtain ⟨m1, m2⟩ := mx _ pl i5
      have il2 := sc2.il
      rw [ho] at il2
      have lys := il2.len
      refine ⟨_, rfl, q, rfl, ⟨ys, SqL.of sc2.rcs⟩, fun F hF => lc_list (xs := ys) (fun j H3 => H3 F = some (.lst (((os.take j).map fun u => cntK u (kU ws lo hi') 5).map V.int)) ∧ Same H2 H3) ⟨upd_same, Same.upd (Same.refl _) hF⟩ (fun j H3 _ z => SqL.of (z.2 _ _ sc2.rcs)) ?_ ?_⟩
      · rintro j u H3 hu ⟨hF3, s3⟩
        obtain ⟨p1, o, eo, rfl, ho1⟩ := il2.get hu
        have mo := two o (List.mem_of_getElem? eo)
        refine ⟨rfl, _, rfl, _, rfl, _, rfl, _, rfl, S, p1, xS, ws, o, lo, hi', rfl, SqL.of (s3 _ _ sc2.lst), sc2.prts.same s3, W, by omega, SqL.of (s3 _ _ ho1), mo.1, mo.2, fun H4 s4 => ⟨_, s4 _ _ hF3, small (by rw [List.length_map, List.length_map, List.length_take]; omega), ?_, Same.upd (s3.trans s4) hF⟩⟩
        rw [upd_same, List.take_add_one, eo, List.map_append, List.map_append]
        rfl
      rintro H3 ⟨hF3, s3⟩
      rw [lys, List.take_length] at hF3
      have mid : ∃ u ∈ os, cntK u (kU ws lo hi') 5 = totM (cvAt xs p g) (bestM (cvAt xs p g) (ustsM ws lo hi')) := by
        obtain ⟨u, hu, e⟩ := m2
        exact ⟨u, hu, by rw [cnt_us (two u hu).1 lo hi' W]; exact e⟩
      have mle : ∀ u ∈ os, cntK u (kU ws lo hi') 5 ≤ totM (cvAt xs p g) (bestM (cvAt xs p g) (ustsM ws lo hi')) := fun u hu => by rw [cnt_us (two u hu).1 lo hi' W]; exact m1 u hu
      have tb := tot_bd ok (ps := bestM (cvAt xs p g) (ustsM ws lo hi')) (best_in5 (by omega) i5).bd
      have bl := (best_facts (cvAt xs p g) _ (show (ustsM ws lo hi').length ≤ 4 by omega)).1
      have kp := fN (ustsM ws lo hi')
      generalize totM (cvAt xs p g) (bestM (cvAt xs p g) (ustsM ws lo hi')) = m at *
      obtain ⟨um, hum, eum⟩ := mid
      have mem : m ∈ os.map fun u => cntK u (kU ws lo hi') 5 := List.mem_map.mpr ⟨um, hum, eum⟩
      refine ⟨F, _, rfl, SqL.of hF3, List.length_pos_of_mem mem, fun m' hm1 hm2 => ?_⟩
      have em : m' = m := by
        obtain ⟨u', hu', eu'⟩ := List.mem_map.mp hm1
        have a := mle u' hu'
        have b := hm2 m mem
        omega
      subst em
      refine ⟨_, rfl, _, rfl, _, rfl, y, x, FV, FP, FG, zs, ws, lo, hi', rfl, sc2.ld s3, sc2.cv s3 f1 f3 lF, sc2.viss.same s3, by omega, lo0, hlo, i5.bd, fun H4 s4 => ?_⟩
      rw [kp]
      have p11 : (10 ^ 11 * 4 : Nat) < 10 ^ 100 := by decide +kernel
      have szm : VR.Sz 0 101 (.int m') := .int (by omega)
      obtain ⟨g1, g2, g3⟩ := big szm (by decide) (by decide)
      refine ⟨.int m', .int m', rfl, .int m', g1, g2, g3, ?_⟩
      refine ⟨_, rfl, .int m', .int m', rfl, .int m', g1, g2, g3, rfl, _, rfl, iteNS' rfl ?_⟩
      have s24 := s3.trans s4
      have sc4 := sc2.ext (.of sc2.rng s24)
      have eH4 := eH2.same s24
      clear sc2 eH2 s24 s4 s3 hF3 hF m1 m2 mle mem eum um hum hm1 hm2 tb bl kp g1 g2 g3 szm il2 i5 pl
      refine ⟨_, rfl, r, _, rfl, sc4.rng, by decide, by decide, fun H5 nw e5 nw0 nw1 => ?_⟩
      have sc5 := sc4.ext e5
      have eH5 := eH4.trans e5
      clear sc4 eH4 e5
      have i5 := psts_in5 W nw
      have pl : (pstsM ws nw).length ≤ 3 := Nat.le_trans (psts_len _ _) W3
      obtain ⟨m1, m2⟩ := mx _ pl i5
      have il5 := sc5.il
      rw [ho] at il5
      refine ⟨_, rfl, q, rfl, ⟨ys, SqL.of sc5.rcs⟩, fun F hF => lc_list (xs := ys) (fun j H3 => H3 F = some (.lst (((os.take j).map fun u => cntK u (kP ws nw) 5).map V.int)) ∧ Same H5 H3) ⟨upd_same, Same.upd (Same.refl _) hF⟩ (fun j H3 _ z => SqL.of (z.2 _ _ sc5.rcs)) ?_ ?_⟩
      · rintro j u H3 hu ⟨hF3, s3⟩
        obtain ⟨p1, o, eo, rfl, ho1⟩ := il5.get hu
        have mo := two o (List.mem_of_getElem? eo)
        refine ⟨rfl, _, rfl, _, rfl, _, rfl, S, p1, xS, ws, o, nw, rfl, SqL.of (s3 _ _ sc5.lst), sc5.prts.same s3, W, by omega, SqL.of (s3 _ _ ho1), mo.1, mo.2, fun H4 s4 => ⟨_, s4 _ _ hF3, small (by rw [List.length_map, List.length_map, List.length_take]; omega), ?_, Same.upd (s3.trans s4) hF⟩⟩
        rw [upd_same, List.take_add_one, eo, List.map_append, List.map_append]
        rfl
      rintro H6 ⟨hF6, s6⟩
      rw [lys, List.take_length] at hF6
      have mid : ∃ u ∈ os, cntK u (kP ws nw) 5 = totM (cvAt xs p g) (bestM (cvAt xs p g) (pstsM ws nw)) := by
        obtain ⟨u, hu, e⟩ := m2
        exact ⟨u, hu, by rw [cnt_ps (two u hu).1 nw W]; exact e⟩
      have mle : ∀ u ∈ os, cntK u (kP ws nw) 5 ≤ totM (cvAt xs p g) (bestM (cvAt xs p g) (pstsM ws nw)) := fun u hu => by rw [cnt_ps (two u hu).1 nw W]; exact m1 u hu
      have tb := tot_bd ok (ps := bestM (cvAt xs p g) (pstsM ws nw)) (best_in5 (by omega) i5).bd
      have bl := (best_facts (cvAt xs p g) _ (show (pstsM ws nw).length ≤ 4 by omega)).1
      have kp := fN (pstsM ws nw)
      generalize totM (cvAt xs p g) (bestM (cvAt xs p g) (pstsM ws nw)) = m at *
      obtain ⟨um, hum, eum⟩ := mid
      have mem : m ∈ os.map fun u => cntK u (kP ws nw) 5 := List.mem_map.mpr ⟨um, hum, eum⟩
      refine ⟨F, _, rfl, SqL.of hF6, List.length_pos_of_mem mem, fun m2' hm1 hm2 => ?_⟩
      have em : m2' = m := by
        obtain ⟨u', hu', eu'⟩ := List.mem_map.mp hm1
        have a := mle u' hu'
        have b := hm2 m mem
        omega
      subst em
      refine ⟨_, rfl, (by show 1 ≤ sizeLine; decide), fun a ha => ⟨_, rfl, ?_⟩⟩
      have s56 := s6.trans (Same.upd (o := .lst [.ref y]) (Same.refl H6) ha)
      refine ⟨a, y, x, FV, FP, FG, zs, ws, nw, rfl, SqL.of upd_same, sc5.ld s56, sc5.cv s56 f1 f3 lF, sc5.viss.same s56, by omega, nw0, by omega, i5.bd, fun H7 q2 s7 hq2 => ?_⟩
      rw [kp] at hq2
      have szm2 : VR.Sz 1 500 (.list [.int m2']) := by
        refine (VR.Sz.list (k := 0) (L := 101) (n := 1) (fun d hd => ?_) (Nat.le_refl _)).mono (by decide) (by decide)
        rw [List.mem_singleton.mp hd]
        exact .int (by omega)
      obtain ⟨g1, g2, g3⟩ := big szm2 (by decide) (by decide)
      refine ⟨.ref q2, .list [.int m2'], rfl, .lst (SqL.of hq2) (.cons (.int m2') .nil), g1, g2, g3, ?_⟩
      refine ⟨_, rfl, (by show 1 ≤ sizeLine; decide), fun b hb => ⟨.ref b, .list [.int m2'], rfl, .lst (SqL.of upd_same) (.cons (.int m2') .nil), g1, g2, g3, rfl, _, rfl, iteNS' rfl ?_⟩⟩
      have s8 : Same H5 (upd H7 b (.lst [.int m2'])) := (s56.trans s7).trans (Same.upd (Same.refl _) hb)
      exact ⟨_, _, _, _, _, rfl, eH5.same s8, sc5.ext (.of sc5.rng s8)⟩
    · rintro σ H' ⟨v6, v7, v8, v9, v10, rfl, eH, sc⟩
      exact k _ eH
end
end VK


namespace VK
open PySem PySem.Spec PyProof.Rows L2 VM
def spL (K : PySem.W.Frag) : Sp := fun vs H Q _ => ∃ (a : Addr) (ns : List Int), vs = [.ref a] ∧ SqL K H a (ns.map V.int) ∧ ns.length ≤ 63 ∧ ∀ H', Q (.bl true) H'
def sp_law (K : PySem.W.Frag) (_ : Ad) : Sp := spL K
section
variable {P : Program} {w : World} {K : PySem.W.Frag} {mg : Str → Option Value} {base : Heap} {A : Ad}
theorem ok_law (T : Txt K mg A) : VG.FnG P w K mg base CX0 10 A.f_law A.d_law ["_law_script"] (sp_law K A) := by
  have G_l_right := ok_l_right (P := P) (w := w) (base := base) T
  have G_l_rng := ok_l_rng (P := P) (w := w) (base := base) T
  refine VG.okG0 T.F_law sc_law (fun vs H Q E h => ?_) (fun cdv A0 outer s H vs Q E hA hr h => ?_)
  · obtain ⟨a, ns, rfl, hS, hn, k⟩ := h
    rfl
  · obtain ⟨a, ns, rfl, hS, hn, k⟩ := h
    refine ⟨_, (pss_one (ps_ret (pe_callB (r := rAll K) (cr_all rfl) (by rfl) T.all (by decide +kernel) (pa_cons (pe_lc (own := [("_law_k", 1)]) (g := gName 1) (tt := tYes) rfl sc_law.nd (pi_range1 rfl T.range (pa_cons (pe_callB (call_max2 rfl) (by rfl) T.max (by decide +kernel) (pa_cons pe_int (pa_cons (pe_callB (call_min2 rfl) (by rfl) T.min (by decide +kernel) (pa_cons (pe_callB (r := VG.rLen K) VG.call_len (by rfl) T.len (by decide +kernel) (pa_cons (pv 0) pa_nil)) (pa_cons pe_int pa_nil))) pa_nil))) pa_nil)) (blkOk_by (own := [("_law_k", 1)]) (N := ["_law_script", "_law_k"]) (sc := defScope s_law) (by decide +kernel)) (fun _ _ _ _ _ => pg_name (i := 1) sc_law.nd rfl (by first | exact Or.inl rfl | exact Or.inr rfl)) (fun _ _ _ _ _ => pts_nil) (fun _ _ _ _ _ => (VG.pe_callG G_l_right hA (hr.mono (by decide)) rfl T.m_l_right T.k_l_right T.b_l_right pass0 (pa_cons (pe_call G_l_rng (hr.mono (by decide)) rfl T.m_l_rng T.k_l_rng T.b_l_rng .nil pass0 (pa_cons (pv 0) (pa_cons (pv 1) pa_nil))) pa_nil)))) pa_nil)))), ?_⟩
    refine ⟨_, rfl, a, _, rfl, .inl hS, _, _, rfl, _, _, rfl, _, rfl, ?_⟩
    have b6 : (if (if (2 : Int) < ((ns.map V.int).length : Int) then (2 : Int) else ((ns.map V.int).length : Int)) > 1 then (if (2 : Int) < ((ns.map V.int).length : Int) then (2 : Int) else ((ns.map V.int).length : Int)) else 1) ≤ 2 := by
      split <;> split <;> omega
    have b0 : 0 ≤ (if (if (2 : Int) < ((ns.map V.int).length : Int) then (2 : Int) else ((ns.map V.int).length : Int)) > 1 then (if (2 : Int) < ((ns.map V.int).length : Int) then (2 : Int) else ((ns.map V.int).length : Int)) else 1) := by
      split <;> split <;> omega
    generalize (if (if (2 : Int) < ((ns.map V.int).length : Int) then (2 : Int) else ((ns.map V.int).length : Int)) > 1 then (if (2 : Int) < ((ns.map V.int).length : Int) then (2 : Int) else ((ns.map V.int).length : Int)) else 1) = N at *
    refine ⟨by omega, by omega, fun D hD => lc_range (lo := 0) (n := N.toNat) (fun j H' => H' D = some (.lst ((List.replicate j true).map V.bl)) ∧ Same H H') ⟨upd_same, Same.upd (Same.refl _) hD⟩ ?_ ?_⟩
    · rintro j H' hj ⟨hD2, s2⟩
      refine ⟨rfl, _, rfl, _, rfl, a, ns, _, rfl, s2.seq hS, by omega, by omega, fun H1 p s3 hp0 hp => ⟨p, rfl, hp, fun H2 e2 => ?_⟩⟩
      have nDp : D ≠ p := ne_of_none hD2 hp0
      refine ⟨_, e2.keep _ _ nDp (s3 _ _ hD2), small (by rw [List.length_map, List.length_replicate]; omega), ?_, ?_⟩
      · rw [upd_same, List.replicate_succ', List.map_append]; rfl
      · intro b o e
        rw [upd_ne (ne_of_none e hD)]
        exact e2.keep b o (ne_of_none (s2 _ _ e) hp0) (s3 _ _ (s2 _ _ e))
    · rintro H' ⟨hD2, s2⟩
      refine ⟨D, _, rfl, SqL.of hD2, ?_⟩
      have e : (List.replicate N.toNat true).all id = true := by
        rw [List.all_eq_true]
        intro x hx
        exact (List.eq_of_mem_replicate hx)
      rw [e]
      exact k H'
end
end VK


namespace VK
open PySem PySem.Spec PyProof.Rows L2 VM
theorem all_mk {l : PySem.W.OpenLaw} {w : World} {K : PySem.W.Frag} {h : Heap} {mg : Str → Option Value} {fa : Addr} (X : K.In h) (G : h.Ns mainGlobals mg) (hfa : mg "law" = some (.ref fa))
    {C_Curve : Addr}
    {C_Load : Addr}
    {C_Visit : Addr}
    {f_is_integer : Addr} {od_is_integer an_is_integer : Option Addr} {sl_is_integer : Array (Option Value)} {oc_is_integer kV_is_integer dc_is_integer pm_is_integer cd_is_integer ct_is_integer : Value}
    {f_is_count : Addr} {od_is_count an_is_count : Option Addr} {sl_is_count : Array (Option Value)} {oc_is_count kV_is_count dc_is_count pm_is_count cd_is_count ct_is_count : Value}
    {f_is_count_to : Addr} {od_is_count_to an_is_count_to : Option Addr} {sl_is_count_to : Array (Option Value)} {oc_is_count_to kV_is_count_to dc_is_count_to pm_is_count_to cd_is_count_to ct_is_count_to : Value}
    {f_rounded_up : Addr} {od_rounded_up an_rounded_up : Option Addr} {sl_rounded_up : Array (Option Value)} {oc_rounded_up kV_rounded_up dc_rounded_up pm_rounded_up cd_rounded_up ct_rounded_up : Value}
    {f_is_window : Addr} {od_is_window an_is_window : Option Addr} {sl_is_window : Array (Option Value)} {oc_is_window kV_is_window dc_is_window pm_is_window cd_is_window ct_is_window : Value}
    {f_require_window : Addr} {od_require_window an_require_window : Option Addr} {sl_require_window : Array (Option Value)} {oc_require_window kV_require_window dc_require_window pm_require_window cd_require_window ct_require_window : Value}
    {f_require_tick : Addr} {od_require_tick an_require_tick : Option Addr} {sl_require_tick : Array (Option Value)} {oc_require_tick kV_require_tick dc_require_tick pm_require_tick cd_require_tick ct_require_tick : Value}
    {f_value_at : Addr} {od_value_at an_value_at : Option Addr} {sl_value_at : Array (Option Value)} {oc_value_at kV_value_at dc_value_at pm_value_at cd_value_at ct_value_at : Value}
    {f_least_form : Addr} {od_least_form an_least_form : Option Addr} {sl_least_form : Array (Option Value)} {oc_least_form kV_least_form dc_least_form pm_least_form cd_least_form ct_least_form : Value}
    {f_least_period : Addr} {od_least_period an_least_period : Option Addr} {sl_least_period : Array (Option Value)} {oc_least_period kV_least_period dc_least_period pm_least_period cd_least_period ct_least_period : Value}
    {f_C_init : Addr} {od_C_init an_C_init : Option Addr} {sl_C_init : Array (Option Value)} {oc_C_init dc_C_init pm_C_init cd_C_init ct_C_init : Value}
    {D_C_init : Addr}
    {t_C_init_period : Tok}
    {t_C_init_gain : Tok}
    {f_C_at : Addr} {od_C_at an_C_at : Option Addr} {sl_C_at : Array (Option Value)} {oc_C_at kV_C_at dc_C_at pm_C_at cd_C_at ct_C_at : Value}
    {f_C_first_values : Addr} {od_C_first_values an_C_first_values : Option Addr} {sl_C_first_values : Array (Option Value)} {oc_C_first_values kV_C_first_values dc_C_first_values pm_C_first_values cd_C_first_values ct_C_first_values : Value}
    {f_first_break : Addr} {od_first_break an_first_break : Option Addr} {sl_first_break : Array (Option Value)} {oc_first_break kV_first_break dc_first_break pm_first_break cd_first_break ct_first_break : Value}
    {f_C_find_break : Addr} {od_C_find_break an_C_find_break : Option Addr} {sl_C_find_break : Array (Option Value)} {oc_C_find_break kV_C_find_break dc_C_find_break pm_C_find_break cd_C_find_break ct_C_find_break : Value}
    {f_require_good : Addr} {od_require_good an_require_good : Option Addr} {sl_require_good : Array (Option Value)} {oc_require_good kV_require_good dc_require_good pm_require_good cd_require_good ct_require_good : Value}
    {f_find_problem : Addr} {od_find_problem an_find_problem : Option Addr} {sl_find_problem : Array (Option Value)} {oc_find_problem kV_find_problem dc_find_problem pm_find_problem cd_find_problem ct_find_problem : Value}
    {f_cost : Addr} {od_cost an_cost : Option Addr} {sl_cost : Array (Option Value)} {oc_cost kV_cost dc_cost pm_cost cd_cost ct_cost : Value}
    {f_total_cost : Addr} {od_total_cost an_total_cost : Option Addr} {sl_total_cost : Array (Option Value)} {oc_total_cost kV_total_cost dc_total_cost pm_total_cost cd_total_cost ct_total_cost : Value}
    {f_least_cost : Addr} {od_least_cost an_least_cost : Option Addr} {sl_least_cost : Array (Option Value)} {oc_least_cost kV_least_cost dc_least_cost pm_least_cost cd_least_cost ct_least_cost : Value}
    {f_least_matching : Addr} {od_least_matching an_least_matching : Option Addr} {sl_least_matching : Array (Option Value)} {oc_least_matching kV_least_matching dc_least_matching pm_least_matching cd_least_matching ct_least_matching : Value}
    {f_urgent_stretch : Addr} {od_urgent_stretch an_urgent_stretch : Option Addr} {sl_urgent_stretch : Array (Option Value)} {oc_urgent_stretch kV_urgent_stretch dc_urgent_stretch pm_urgent_stretch cd_urgent_stretch ct_urgent_stretch : Value}
    {f_placed_stretch : Addr} {od_placed_stretch an_placed_stretch : Option Addr} {sl_placed_stretch : Array (Option Value)} {oc_placed_stretch kV_placed_stretch dc_placed_stretch pm_placed_stretch cd_placed_stretch ct_placed_stretch : Value}
    {f_stretch_from : Addr} {od_stretch_from an_stretch_from : Option Addr} {sl_stretch_from : Array (Option Value)} {oc_stretch_from kV_stretch_from dc_stretch_from pm_stretch_from cd_stretch_from ct_stretch_from : Value}
    {f_urgent_stretches : Addr} {od_urgent_stretches an_urgent_stretches : Option Addr} {sl_urgent_stretches : Array (Option Value)} {oc_urgent_stretches kV_urgent_stretches dc_urgent_stretches pm_urgent_stretches cd_urgent_stretches ct_urgent_stretches : Value}
    {f_placed_stretches : Addr} {od_placed_stretches an_placed_stretches : Option Addr} {sl_placed_stretches : Array (Option Value)} {oc_placed_stretches kV_placed_stretches dc_placed_stretches pm_placed_stretches cd_placed_stretches ct_placed_stretches : Value}
    {f_Visit_init : Addr} {od_Visit_init an_Visit_init : Option Addr} {sl_Visit_init : Array (Option Value)} {oc_Visit_init dc_Visit_init pm_Visit_init cd_Visit_init ct_Visit_init : Value}
    {D_Visit_init : Addr}
    {t_Visit_init_shift : Tok}
    {t_Visit_init_begin : Tok}
    {f_Visit_time : Addr} {od_Visit_time an_Visit_time : Option Addr} {sl_Visit_time : Array (Option Value)} {oc_Visit_time kV_Visit_time dc_Visit_time pm_Visit_time cd_Visit_time ct_Visit_time : Value}
    {p_Visit_time : Addr} {r_Visit_time : List Value}
    {f_Visit_shift : Addr} {od_Visit_shift an_Visit_shift : Option Addr} {sl_Visit_shift : Array (Option Value)} {oc_Visit_shift kV_Visit_shift dc_Visit_shift pm_Visit_shift cd_Visit_shift ct_Visit_shift : Value}
    {p_Visit_shift : Addr} {r_Visit_shift : List Value}
    {f_Visit_begin : Addr} {od_Visit_begin an_Visit_begin : Option Addr} {sl_Visit_begin : Array (Option Value)} {oc_Visit_begin kV_Visit_begin dc_Visit_begin pm_Visit_begin cd_Visit_begin ct_Visit_begin : Value}
    {p_Visit_begin : Addr} {r_Visit_begin : List Value}
    {f_Visit_end : Addr} {od_Visit_end an_Visit_end : Option Addr} {sl_Visit_end : Array (Option Value)} {oc_Visit_end kV_Visit_end dc_Visit_end pm_Visit_end cd_Visit_end ct_Visit_end : Value}
    {p_Visit_end : Addr} {r_Visit_end : List Value}
    {f_Load_init : Addr} {od_Load_init an_Load_init : Option Addr} {sl_Load_init : Array (Option Value)} {oc_Load_init kV_Load_init dc_Load_init pm_Load_init cd_Load_init ct_Load_init : Value}
    {f_Load_curve : Addr} {od_Load_curve an_Load_curve : Option Addr} {sl_Load_curve : Array (Option Value)} {oc_Load_curve kV_Load_curve dc_Load_curve pm_Load_curve cd_Load_curve ct_Load_curve : Value}
    {p_Load_curve : Addr} {r_Load_curve : List Value}
    {f_Load_visits : Addr} {od_Load_visits an_Load_visits : Option Addr} {sl_Load_visits : Array (Option Value)} {oc_Load_visits kV_Load_visits dc_Load_visits pm_Load_visits cd_Load_visits ct_Load_visits : Value}
    {f_demand : Addr} {od_demand an_demand : Option Addr} {sl_demand : Array (Option Value)} {oc_demand kV_demand dc_demand pm_demand cd_demand ct_demand : Value}
    {f_find_visit_problem : Addr} {od_find_visit_problem an_find_visit_problem : Option Addr} {sl_find_visit_problem : Array (Option Value)} {oc_find_visit_problem kV_find_visit_problem dc_find_visit_problem pm_find_visit_problem cd_find_visit_problem ct_find_visit_problem : Value}
    {f_find_wrong_visit : Addr} {od_find_wrong_visit an_find_wrong_visit : Option Addr} {sl_find_wrong_visit : Array (Option Value)} {oc_find_wrong_visit kV_find_wrong_visit dc_find_wrong_visit pm_find_wrong_visit cd_find_wrong_visit ct_find_wrong_visit : Value}
    {f_places : Addr} {od_places an_places : Option Addr} {sl_places : Array (Option Value)} {oc_places kV_places dc_places pm_places cd_places ct_places : Value}
    {f_l_rng : Addr} {od_l_rng an_l_rng : Option Addr} {sl_l_rng : Array (Option Value)} {oc_l_rng kV_l_rng dc_l_rng pm_l_rng cd_l_rng ct_l_rng : Value}
    {f_l_draw : Addr} {od_l_draw an_l_draw : Option Addr} {sl_l_draw : Array (Option Value)} {oc_l_draw kV_l_draw dc_l_draw pm_l_draw cd_l_draw ct_l_draw : Value}
    {f_l_choice : Addr} {od_l_choice an_l_choice : Option Addr} {sl_l_choice : Array (Option Value)} {oc_l_choice kV_l_choice dc_l_choice pm_l_choice cd_l_choice ct_l_choice : Value}
    {f_l_at : Addr} {od_l_at an_l_at : Option Addr} {sl_l_at : Array (Option Value)} {oc_l_at kV_l_at dc_l_at pm_l_at cd_l_at ct_l_at : Value}
    {f_l_is_good : Addr} {od_l_is_good an_l_is_good : Option Addr} {sl_l_is_good : Array (Option Value)} {oc_l_is_good kV_l_is_good dc_l_is_good pm_l_is_good cd_l_is_good ct_l_is_good : Value}
    {f_l_rows : Addr} {od_l_rows an_l_rows : Option Addr} {sl_l_rows : Array (Option Value)} {oc_l_rows kV_l_rows dc_l_rows pm_l_rows cd_l_rows ct_l_rows : Value}
    {f_l_row : Addr} {od_l_row an_l_row : Option Addr} {sl_l_row : Array (Option Value)} {oc_l_row kV_l_row dc_l_row pm_l_row cd_l_row ct_l_row : Value}
    {f_l_keeps : Addr} {od_l_keeps an_l_keeps : Option Addr} {sl_l_keeps : Array (Option Value)} {oc_l_keeps kV_l_keeps dc_l_keeps pm_l_keeps cd_l_keeps ct_l_keeps : Value}
    {f_l_records : Addr} {od_l_records an_l_records : Option Addr} {sl_l_records : Array (Option Value)} {oc_l_records kV_l_records dc_l_records pm_l_records cd_l_records ct_l_records : Value}
    {f_l_parts : Addr} {od_l_parts an_l_parts : Option Addr} {sl_l_parts : Array (Option Value)} {oc_l_parts kV_l_parts dc_l_parts pm_l_parts cd_l_parts ct_l_parts : Value}
    {f_l_urgent : Addr} {od_l_urgent an_l_urgent : Option Addr} {sl_l_urgent : Array (Option Value)} {oc_l_urgent kV_l_urgent dc_l_urgent pm_l_urgent cd_l_urgent ct_l_urgent : Value}
    {f_l_placed : Addr} {od_l_placed an_l_placed : Option Addr} {sl_l_placed : Array (Option Value)} {oc_l_placed kV_l_placed dc_l_placed pm_l_placed cd_l_placed ct_l_placed : Value}
    {f_l_count : Addr} {od_l_count an_l_count : Option Addr} {sl_l_count : Array (Option Value)} {oc_l_count kV_l_count dc_l_count pm_l_count cd_l_count ct_l_count : Value}
    {f_l_count_places : Addr} {od_l_count_places an_l_count_places : Option Addr} {sl_l_count_places : Array (Option Value)} {oc_l_count_places kV_l_count_places dc_l_count_places pm_l_count_places cd_l_count_places ct_l_count_places : Value}
    {f_l_right : Addr} {od_l_right an_l_right : Option Addr} {sl_l_right : Array (Option Value)} {oc_l_right kV_l_right dc_l_right pm_l_right cd_l_right ct_l_right : Value}
    {f_law : Addr} {od_law an_law : Option Addr} {sl_law : Array (Option Value)} {oc_law kV_law dc_law pm_law cd_law ct_law : Value}
    {t_MAX_TICK : Tok}
    {t_MAX_TIME : Tok}
    {t_MAX_VALUE : Tok}
    {t_MAX_VALUES : Tok}
    {t_MAX_VISITS : Tok}
    {a_PERIODS : Addr} {uPERIODS0 uPERIODS1 uPERIODS2 uPERIODS3 uPERIODS4 uPERIODS5 : Tok} {od_PERIODS : Option Addr} {n_PERIODS : Nat} {sl_PERIODS : Array (Option Value)}
    (typ_permutations : PySem.W.nsIn K mainGlobals "permutations" = some (some (.type "itertools.permutations")))
    (g_Curve : PySem.W.nsIn K mainGlobals "Curve" = some (some (.ref C_Curve)))
    (pg_Curve : PySem.W.plainGet K C_Curve Str.empty = true)
    (hd_Curve : PySem.W.hasDictIn K C_Curve = true)
    (po_Curve : PySem.W.plainOver K C_Curve = true)
    (sa_Curve : PySem.W.findIn K (.ref C_Curve) "__setattr__" = some (some (.builtin "object.__setattr__")))
    (mk_Curve : PySem.W.makesIn K C_Curve = true)
    (kc_Curve : PySem.W.keepIn K (.ref C_Curve) = true)
    (n_Curve_values : PySem.W.findIn K (.ref C_Curve) "_values" = some none)
    (n_Curve_period : PySem.W.findIn K (.ref C_Curve) "_period" = some none)
    (n_Curve_gain : PySem.W.findIn K (.ref C_Curve) "_gain" = some none)
    (n_Curve_was_searched : PySem.W.findIn K (.ref C_Curve) "_was_searched" = some none)
    (n_Curve_break : PySem.W.findIn K (.ref C_Curve) "_break" = some none)
    (g_Load : PySem.W.nsIn K mainGlobals "Load" = some (some (.ref C_Load)))
    (pg_Load : PySem.W.plainGet K C_Load Str.empty = true)
    (hd_Load : PySem.W.hasDictIn K C_Load = true)
    (po_Load : PySem.W.plainOver K C_Load = true)
    (sa_Load : PySem.W.findIn K (.ref C_Load) "__setattr__" = some (some (.builtin "object.__setattr__")))
    (mk_Load : PySem.W.makesIn K C_Load = true)
    (kc_Load : PySem.W.keepIn K (.ref C_Load) = true)
    (n_Load_curve : PySem.W.findIn K (.ref C_Load) "_curve" = some none)
    (n_Load_visits : PySem.W.findIn K (.ref C_Load) "_visits" = some none)
    (g_Visit : PySem.W.nsIn K mainGlobals "Visit" = some (some (.ref C_Visit)))
    (pg_Visit : PySem.W.plainGet K C_Visit Str.empty = true)
    (hd_Visit : PySem.W.hasDictIn K C_Visit = true)
    (po_Visit : PySem.W.plainOver K C_Visit = true)
    (sa_Visit : PySem.W.findIn K (.ref C_Visit) "__setattr__" = some (some (.builtin "object.__setattr__")))
    (mk_Visit : PySem.W.makesIn K C_Visit = true)
    (kc_Visit : PySem.W.keepIn K (.ref C_Visit) = true)
    (ic_Visit : PySem.W.isClsIn K C_Visit = true)
    (it_Visit : PySem.W.typeIn K (.ref C_Visit) = some (.type "type"))
    (ig_Visit : PySem.W.findIn K (.ref C_Visit) "__class__" = some (some (.builtin "object.__class__")))
    (io_Visit : PySem.W.mroIn K C_Visit (.type "object") = some true)
    (ie_Visit : PySem.W.findIn K (.ref C_Visit) "__ne__" = some (some (.builtin "object.__ne__")))
    (i_gn : PySem.W.specialIn K (.builtin "object.__class__") "__get__" = some (some (.builtin "getset_descriptor.__get__")))
    (i_tk : PySem.W.takesIn K (.builtin "object.__class__") = some true)
    (n_Visit_time : PySem.W.findIn K (.ref C_Visit) "_time" = some none)
    (n_Visit_shift : PySem.W.findIn K (.ref C_Visit) "_shift" = some none)
    (n_Visit_begin : PySem.W.findIn K (.ref C_Visit) "_begin" = some none)
    (n_Visit_end : PySem.W.findIn K (.ref C_Visit) "_end" = some none)
    (a_is_integer : PySem.W.nsIn K mainGlobals "is_integer" = some (some (.ref f_is_integer)))
    (l_is_integer : K.lookup f_is_integer = some ⟨oc_is_integer, od_is_integer, .func (PySem.W.fnOf "is_integer" "is_integer" (defArgs s_is_integer) (defBody s_is_integer) (defScope s_is_integer) .none kV_is_integer dc_is_integer pm_is_integer an_is_integer cd_is_integer ct_is_integer), sl_is_integer⟩)
    (c_is_integer : PySem.W.codeIn K cd_is_integer "is_integer" = true)
    (k_is_integer : PySem.W.keepIn K (.ref f_is_integer) = true)
    (a_is_count : PySem.W.nsIn K mainGlobals "is_count" = some (some (.ref f_is_count)))
    (l_is_count : K.lookup f_is_count = some ⟨oc_is_count, od_is_count, .func (PySem.W.fnOf "is_count" "is_count" (defArgs s_is_count) (defBody s_is_count) (defScope s_is_count) .none kV_is_count dc_is_count pm_is_count an_is_count cd_is_count ct_is_count), sl_is_count⟩)
    (c_is_count : PySem.W.codeIn K cd_is_count "is_count" = true)
    (k_is_count : PySem.W.keepIn K (.ref f_is_count) = true)
    (a_is_count_to : PySem.W.nsIn K mainGlobals "is_count_to" = some (some (.ref f_is_count_to)))
    (l_is_count_to : K.lookup f_is_count_to = some ⟨oc_is_count_to, od_is_count_to, .func (PySem.W.fnOf "is_count_to" "is_count_to" (defArgs s_is_count_to) (defBody s_is_count_to) (defScope s_is_count_to) .none kV_is_count_to dc_is_count_to pm_is_count_to an_is_count_to cd_is_count_to ct_is_count_to), sl_is_count_to⟩)
    (c_is_count_to : PySem.W.codeIn K cd_is_count_to "is_count_to" = true)
    (k_is_count_to : PySem.W.keepIn K (.ref f_is_count_to) = true)
    (a_rounded_up : PySem.W.nsIn K mainGlobals "rounded_up" = some (some (.ref f_rounded_up)))
    (l_rounded_up : K.lookup f_rounded_up = some ⟨oc_rounded_up, od_rounded_up, .func (PySem.W.fnOf "rounded_up" "rounded_up" (defArgs s_rounded_up) (defBody s_rounded_up) (defScope s_rounded_up) .none kV_rounded_up dc_rounded_up pm_rounded_up an_rounded_up cd_rounded_up ct_rounded_up), sl_rounded_up⟩)
    (c_rounded_up : PySem.W.codeIn K cd_rounded_up "rounded_up" = true)
    (k_rounded_up : PySem.W.keepIn K (.ref f_rounded_up) = true)
    (a_is_window : PySem.W.nsIn K mainGlobals "is_window" = some (some (.ref f_is_window)))
    (l_is_window : K.lookup f_is_window = some ⟨oc_is_window, od_is_window, .func (PySem.W.fnOf "is_window" "is_window" (defArgs s_is_window) (defBody s_is_window) (defScope s_is_window) .none kV_is_window dc_is_window pm_is_window an_is_window cd_is_window ct_is_window), sl_is_window⟩)
    (c_is_window : PySem.W.codeIn K cd_is_window "is_window" = true)
    (k_is_window : PySem.W.keepIn K (.ref f_is_window) = true)
    (a_require_window : PySem.W.nsIn K mainGlobals "require_window" = some (some (.ref f_require_window)))
    (l_require_window : K.lookup f_require_window = some ⟨oc_require_window, od_require_window, .func (PySem.W.fnOf "require_window" "require_window" (defArgs s_require_window) (defBody s_require_window) (defScope s_require_window) .none kV_require_window dc_require_window pm_require_window an_require_window cd_require_window ct_require_window), sl_require_window⟩)
    (c_require_window : PySem.W.codeIn K cd_require_window "require_window" = true)
    (k_require_window : PySem.W.keepIn K (.ref f_require_window) = true)
    (a_require_tick : PySem.W.nsIn K mainGlobals "require_tick" = some (some (.ref f_require_tick)))
    (l_require_tick : K.lookup f_require_tick = some ⟨oc_require_tick, od_require_tick, .func (PySem.W.fnOf "require_tick" "require_tick" (defArgs s_require_tick) (defBody s_require_tick) (defScope s_require_tick) .none kV_require_tick dc_require_tick pm_require_tick an_require_tick cd_require_tick ct_require_tick), sl_require_tick⟩)
    (c_require_tick : PySem.W.codeIn K cd_require_tick "require_tick" = true)
    (k_require_tick : PySem.W.keepIn K (.ref f_require_tick) = true)
    (a_value_at : PySem.W.nsIn K mainGlobals "value_at" = some (some (.ref f_value_at)))
    (l_value_at : K.lookup f_value_at = some ⟨oc_value_at, od_value_at, .func (PySem.W.fnOf "value_at" "value_at" (defArgs s_value_at) (defBody s_value_at) (defScope s_value_at) .none kV_value_at dc_value_at pm_value_at an_value_at cd_value_at ct_value_at), sl_value_at⟩)
    (c_value_at : PySem.W.codeIn K cd_value_at "value_at" = true)
    (k_value_at : PySem.W.keepIn K (.ref f_value_at) = true)
    (a_least_form : PySem.W.nsIn K mainGlobals "least_form" = some (some (.ref f_least_form)))
    (l_least_form : K.lookup f_least_form = some ⟨oc_least_form, od_least_form, .func (PySem.W.fnOf "least_form" "least_form" (defArgs s_least_form) (defBody s_least_form) (defScope s_least_form) .none kV_least_form dc_least_form pm_least_form an_least_form cd_least_form ct_least_form), sl_least_form⟩)
    (c_least_form : PySem.W.codeIn K cd_least_form "least_form" = true)
    (k_least_form : PySem.W.keepIn K (.ref f_least_form) = true)
    (a_least_period : PySem.W.nsIn K mainGlobals "least_period" = some (some (.ref f_least_period)))
    (l_least_period : K.lookup f_least_period = some ⟨oc_least_period, od_least_period, .func (PySem.W.fnOf "least_period" "least_period" (defArgs s_least_period) (defBody s_least_period) (defScope s_least_period) .none kV_least_period dc_least_period pm_least_period an_least_period cd_least_period ct_least_period), sl_least_period⟩)
    (c_least_period : PySem.W.codeIn K cd_least_period "least_period" = true)
    (k_least_period : PySem.W.keepIn K (.ref f_least_period) = true)
    (a_C_init : PySem.W.findIn K (.ref C_Curve) "__init__" = some (some (.ref f_C_init)))
    (i_C_init : PySem.W.isFn K (.ref f_C_init) = true)
    (l_C_init : K.lookup f_C_init = some ⟨oc_C_init, od_C_init, .func (PySem.W.fnOf "__init__" "Curve.__init__" (defArgs s_C_init) (defBody s_C_init) (defScope s_C_init) .none (.ref D_C_init) dc_C_init pm_C_init an_C_init cd_C_init ct_C_init), sl_C_init⟩)
    (c_C_init : PySem.W.codeIn K cd_C_init "Curve.__init__" = true)
    (k_C_init : PySem.W.keepIn K (.ref f_C_init) = true)
    (d_C_init_period : PySem.W.nsIn K D_C_init "period" = some (some (.int 1 t_C_init_period)))
    (d_C_init_gain : PySem.W.nsIn K D_C_init "gain" = some (some (.int 0 t_C_init_gain)))
    (a_C_at : PySem.W.findIn K (.ref C_Curve) "at" = some (some (.ref f_C_at)))
    (i_C_at : PySem.W.isFn K (.ref f_C_at) = true)
    (l_C_at : K.lookup f_C_at = some ⟨oc_C_at, od_C_at, .func (PySem.W.fnOf "at" "Curve.at" (defArgs s_C_at) (defBody s_C_at) (defScope s_C_at) .none kV_C_at dc_C_at pm_C_at an_C_at cd_C_at ct_C_at), sl_C_at⟩)
    (c_C_at : PySem.W.codeIn K cd_C_at "Curve.at" = true)
    (k_C_at : PySem.W.keepIn K (.ref f_C_at) = true)
    (a_C_first_values : PySem.W.findIn K (.ref C_Curve) "first_values" = some (some (.ref f_C_first_values)))
    (i_C_first_values : PySem.W.isFn K (.ref f_C_first_values) = true)
    (l_C_first_values : K.lookup f_C_first_values = some ⟨oc_C_first_values, od_C_first_values, .func (PySem.W.fnOf "first_values" "Curve.first_values" (defArgs s_C_first_values) (defBody s_C_first_values) (defScope s_C_first_values) .none kV_C_first_values dc_C_first_values pm_C_first_values an_C_first_values cd_C_first_values ct_C_first_values), sl_C_first_values⟩)
    (c_C_first_values : PySem.W.codeIn K cd_C_first_values "Curve.first_values" = true)
    (k_C_first_values : PySem.W.keepIn K (.ref f_C_first_values) = true)
    (a_first_break : PySem.W.nsIn K mainGlobals "first_break" = some (some (.ref f_first_break)))
    (l_first_break : K.lookup f_first_break = some ⟨oc_first_break, od_first_break, .func (PySem.W.fnOf "first_break" "first_break" (defArgs s_first_break) (defBody s_first_break) (defScope s_first_break) .none kV_first_break dc_first_break pm_first_break an_first_break cd_first_break ct_first_break), sl_first_break⟩)
    (c_first_break : PySem.W.codeIn K cd_first_break "first_break" = true)
    (k_first_break : PySem.W.keepIn K (.ref f_first_break) = true)
    (a_C_find_break : PySem.W.findIn K (.ref C_Curve) "find_break" = some (some (.ref f_C_find_break)))
    (i_C_find_break : PySem.W.isFn K (.ref f_C_find_break) = true)
    (l_C_find_break : K.lookup f_C_find_break = some ⟨oc_C_find_break, od_C_find_break, .func (PySem.W.fnOf "find_break" "Curve.find_break" (defArgs s_C_find_break) (defBody s_C_find_break) (defScope s_C_find_break) .none kV_C_find_break dc_C_find_break pm_C_find_break an_C_find_break cd_C_find_break ct_C_find_break), sl_C_find_break⟩)
    (c_C_find_break : PySem.W.codeIn K cd_C_find_break "Curve.find_break" = true)
    (k_C_find_break : PySem.W.keepIn K (.ref f_C_find_break) = true)
    (a_require_good : PySem.W.nsIn K mainGlobals "require_good" = some (some (.ref f_require_good)))
    (l_require_good : K.lookup f_require_good = some ⟨oc_require_good, od_require_good, .func (PySem.W.fnOf "require_good" "require_good" (defArgs s_require_good) (defBody s_require_good) (defScope s_require_good) .none kV_require_good dc_require_good pm_require_good an_require_good cd_require_good ct_require_good), sl_require_good⟩)
    (c_require_good : PySem.W.codeIn K cd_require_good "require_good" = true)
    (k_require_good : PySem.W.keepIn K (.ref f_require_good) = true)
    (a_find_problem : PySem.W.nsIn K mainGlobals "find_problem" = some (some (.ref f_find_problem)))
    (l_find_problem : K.lookup f_find_problem = some ⟨oc_find_problem, od_find_problem, .func (PySem.W.fnOf "find_problem" "find_problem" (defArgs s_find_problem) (defBody s_find_problem) (defScope s_find_problem) .none kV_find_problem dc_find_problem pm_find_problem an_find_problem cd_find_problem ct_find_problem), sl_find_problem⟩)
    (c_find_problem : PySem.W.codeIn K cd_find_problem "find_problem" = true)
    (k_find_problem : PySem.W.keepIn K (.ref f_find_problem) = true)
    (a_cost : PySem.W.nsIn K mainGlobals "cost" = some (some (.ref f_cost)))
    (l_cost : K.lookup f_cost = some ⟨oc_cost, od_cost, .func (PySem.W.fnOf "cost" "cost" (defArgs s_cost) (defBody s_cost) (defScope s_cost) .none kV_cost dc_cost pm_cost an_cost cd_cost ct_cost), sl_cost⟩)
    (c_cost : PySem.W.codeIn K cd_cost "cost" = true)
    (k_cost : PySem.W.keepIn K (.ref f_cost) = true)
    (a_total_cost : PySem.W.nsIn K mainGlobals "total_cost" = some (some (.ref f_total_cost)))
    (l_total_cost : K.lookup f_total_cost = some ⟨oc_total_cost, od_total_cost, .func (PySem.W.fnOf "total_cost" "total_cost" (defArgs s_total_cost) (defBody s_total_cost) (defScope s_total_cost) .none kV_total_cost dc_total_cost pm_total_cost an_total_cost cd_total_cost ct_total_cost), sl_total_cost⟩)
    (c_total_cost : PySem.W.codeIn K cd_total_cost "total_cost" = true)
    (k_total_cost : PySem.W.keepIn K (.ref f_total_cost) = true)
    (a_least_cost : PySem.W.nsIn K mainGlobals "least_cost" = some (some (.ref f_least_cost)))
    (l_least_cost : K.lookup f_least_cost = some ⟨oc_least_cost, od_least_cost, .func (PySem.W.fnOf "least_cost" "least_cost" (defArgs s_least_cost) (defBody s_least_cost) (defScope s_least_cost) .none kV_least_cost dc_least_cost pm_least_cost an_least_cost cd_least_cost ct_least_cost), sl_least_cost⟩)
    (c_least_cost : PySem.W.codeIn K cd_least_cost "least_cost" = true)
    (k_least_cost : PySem.W.keepIn K (.ref f_least_cost) = true)
    (a_least_matching : PySem.W.nsIn K mainGlobals "least_matching" = some (some (.ref f_least_matching)))
    (l_least_matching : K.lookup f_least_matching = some ⟨oc_least_matching, od_least_matching, .func (PySem.W.fnOf "least_matching" "least_matching" (defArgs s_least_matching) (defBody s_least_matching) (defScope s_least_matching) .none kV_least_matching dc_least_matching pm_least_matching an_least_matching cd_least_matching ct_least_matching), sl_least_matching⟩)
    (c_least_matching : PySem.W.codeIn K cd_least_matching "least_matching" = true)
    (k_least_matching : PySem.W.keepIn K (.ref f_least_matching) = true)
    (a_urgent_stretch : PySem.W.nsIn K mainGlobals "urgent_stretch" = some (some (.ref f_urgent_stretch)))
    (l_urgent_stretch : K.lookup f_urgent_stretch = some ⟨oc_urgent_stretch, od_urgent_stretch, .func (PySem.W.fnOf "urgent_stretch" "urgent_stretch" (defArgs s_urgent_stretch) (defBody s_urgent_stretch) (defScope s_urgent_stretch) .none kV_urgent_stretch dc_urgent_stretch pm_urgent_stretch an_urgent_stretch cd_urgent_stretch ct_urgent_stretch), sl_urgent_stretch⟩)
    (c_urgent_stretch : PySem.W.codeIn K cd_urgent_stretch "urgent_stretch" = true)
    (k_urgent_stretch : PySem.W.keepIn K (.ref f_urgent_stretch) = true)
    (a_placed_stretch : PySem.W.nsIn K mainGlobals "placed_stretch" = some (some (.ref f_placed_stretch)))
    (l_placed_stretch : K.lookup f_placed_stretch = some ⟨oc_placed_stretch, od_placed_stretch, .func (PySem.W.fnOf "placed_stretch" "placed_stretch" (defArgs s_placed_stretch) (defBody s_placed_stretch) (defScope s_placed_stretch) .none kV_placed_stretch dc_placed_stretch pm_placed_stretch an_placed_stretch cd_placed_stretch ct_placed_stretch), sl_placed_stretch⟩)
    (c_placed_stretch : PySem.W.codeIn K cd_placed_stretch "placed_stretch" = true)
    (k_placed_stretch : PySem.W.keepIn K (.ref f_placed_stretch) = true)
    (a_stretch_from : PySem.W.nsIn K mainGlobals "stretch_from" = some (some (.ref f_stretch_from)))
    (l_stretch_from : K.lookup f_stretch_from = some ⟨oc_stretch_from, od_stretch_from, .func (PySem.W.fnOf "stretch_from" "stretch_from" (defArgs s_stretch_from) (defBody s_stretch_from) (defScope s_stretch_from) .none kV_stretch_from dc_stretch_from pm_stretch_from an_stretch_from cd_stretch_from ct_stretch_from), sl_stretch_from⟩)
    (c_stretch_from : PySem.W.codeIn K cd_stretch_from "stretch_from" = true)
    (k_stretch_from : PySem.W.keepIn K (.ref f_stretch_from) = true)
    (a_urgent_stretches : PySem.W.nsIn K mainGlobals "urgent_stretches" = some (some (.ref f_urgent_stretches)))
    (l_urgent_stretches : K.lookup f_urgent_stretches = some ⟨oc_urgent_stretches, od_urgent_stretches, .func (PySem.W.fnOf "urgent_stretches" "urgent_stretches" (defArgs s_urgent_stretches) (defBody s_urgent_stretches) (defScope s_urgent_stretches) .none kV_urgent_stretches dc_urgent_stretches pm_urgent_stretches an_urgent_stretches cd_urgent_stretches ct_urgent_stretches), sl_urgent_stretches⟩)
    (c_urgent_stretches : PySem.W.codeIn K cd_urgent_stretches "urgent_stretches" = true)
    (k_urgent_stretches : PySem.W.keepIn K (.ref f_urgent_stretches) = true)
    (a_placed_stretches : PySem.W.nsIn K mainGlobals "placed_stretches" = some (some (.ref f_placed_stretches)))
    (l_placed_stretches : K.lookup f_placed_stretches = some ⟨oc_placed_stretches, od_placed_stretches, .func (PySem.W.fnOf "placed_stretches" "placed_stretches" (defArgs s_placed_stretches) (defBody s_placed_stretches) (defScope s_placed_stretches) .none kV_placed_stretches dc_placed_stretches pm_placed_stretches an_placed_stretches cd_placed_stretches ct_placed_stretches), sl_placed_stretches⟩)
    (c_placed_stretches : PySem.W.codeIn K cd_placed_stretches "placed_stretches" = true)
    (k_placed_stretches : PySem.W.keepIn K (.ref f_placed_stretches) = true)
    (a_Visit_init : PySem.W.findIn K (.ref C_Visit) "__init__" = some (some (.ref f_Visit_init)))
    (i_Visit_init : PySem.W.isFn K (.ref f_Visit_init) = true)
    (l_Visit_init : K.lookup f_Visit_init = some ⟨oc_Visit_init, od_Visit_init, .func (PySem.W.fnOf "__init__" "Visit.__init__" (defArgs s_Visit_init) (defBody s_Visit_init) (defScope s_Visit_init) .none (.ref D_Visit_init) dc_Visit_init pm_Visit_init an_Visit_init cd_Visit_init ct_Visit_init), sl_Visit_init⟩)
    (c_Visit_init : PySem.W.codeIn K cd_Visit_init "Visit.__init__" = true)
    (k_Visit_init : PySem.W.keepIn K (.ref f_Visit_init) = true)
    (d_Visit_init_shift : PySem.W.nsIn K D_Visit_init "shift" = some (some (.int 0 t_Visit_init_shift)))
    (d_Visit_init_begin : PySem.W.nsIn K D_Visit_init "begin" = some (some (.int 0 t_Visit_init_begin)))
    (d_Visit_init_end : PySem.W.nsIn K D_Visit_init "end" = some (some .none))
    (a_Visit_time : PySem.W.findIn K (.ref C_Visit) "time" = some (some (.ref p_Visit_time)))
    (pg_Visit_time : PySem.W.specialIn K (.ref p_Visit_time) "__get__" = some (some (.builtin "property.__get__")))
    (pt_Visit_time : PySem.W.takesIn K (.ref p_Visit_time) = some true)
    (pr_Visit_time : PySem.W.recIn K p_Visit_time "property" = some (.ref f_Visit_time :: r_Visit_time))
    (l_Visit_time : K.lookup f_Visit_time = some ⟨oc_Visit_time, od_Visit_time, .func (PySem.W.fnOf "time" "Visit.time" (defArgs s_Visit_time) (defBody s_Visit_time) (defScope s_Visit_time) .none kV_Visit_time dc_Visit_time pm_Visit_time an_Visit_time cd_Visit_time ct_Visit_time), sl_Visit_time⟩)
    (c_Visit_time : PySem.W.codeIn K cd_Visit_time "Visit.time" = true)
    (k_Visit_time : PySem.W.keepIn K (.ref f_Visit_time) = true)
    (a_Visit_shift : PySem.W.findIn K (.ref C_Visit) "shift" = some (some (.ref p_Visit_shift)))
    (pg_Visit_shift : PySem.W.specialIn K (.ref p_Visit_shift) "__get__" = some (some (.builtin "property.__get__")))
    (pt_Visit_shift : PySem.W.takesIn K (.ref p_Visit_shift) = some true)
    (pr_Visit_shift : PySem.W.recIn K p_Visit_shift "property" = some (.ref f_Visit_shift :: r_Visit_shift))
    (l_Visit_shift : K.lookup f_Visit_shift = some ⟨oc_Visit_shift, od_Visit_shift, .func (PySem.W.fnOf "shift" "Visit.shift" (defArgs s_Visit_shift) (defBody s_Visit_shift) (defScope s_Visit_shift) .none kV_Visit_shift dc_Visit_shift pm_Visit_shift an_Visit_shift cd_Visit_shift ct_Visit_shift), sl_Visit_shift⟩)
    (c_Visit_shift : PySem.W.codeIn K cd_Visit_shift "Visit.shift" = true)
    (k_Visit_shift : PySem.W.keepIn K (.ref f_Visit_shift) = true)
    (a_Visit_begin : PySem.W.findIn K (.ref C_Visit) "begin" = some (some (.ref p_Visit_begin)))
    (pg_Visit_begin : PySem.W.specialIn K (.ref p_Visit_begin) "__get__" = some (some (.builtin "property.__get__")))
    (pt_Visit_begin : PySem.W.takesIn K (.ref p_Visit_begin) = some true)
    (pr_Visit_begin : PySem.W.recIn K p_Visit_begin "property" = some (.ref f_Visit_begin :: r_Visit_begin))
    (l_Visit_begin : K.lookup f_Visit_begin = some ⟨oc_Visit_begin, od_Visit_begin, .func (PySem.W.fnOf "begin" "Visit.begin" (defArgs s_Visit_begin) (defBody s_Visit_begin) (defScope s_Visit_begin) .none kV_Visit_begin dc_Visit_begin pm_Visit_begin an_Visit_begin cd_Visit_begin ct_Visit_begin), sl_Visit_begin⟩)
    (c_Visit_begin : PySem.W.codeIn K cd_Visit_begin "Visit.begin" = true)
    (k_Visit_begin : PySem.W.keepIn K (.ref f_Visit_begin) = true)
    (a_Visit_end : PySem.W.findIn K (.ref C_Visit) "end" = some (some (.ref p_Visit_end)))
    (pg_Visit_end : PySem.W.specialIn K (.ref p_Visit_end) "__get__" = some (some (.builtin "property.__get__")))
    (pt_Visit_end : PySem.W.takesIn K (.ref p_Visit_end) = some true)
    (pr_Visit_end : PySem.W.recIn K p_Visit_end "property" = some (.ref f_Visit_end :: r_Visit_end))
    (l_Visit_end : K.lookup f_Visit_end = some ⟨oc_Visit_end, od_Visit_end, .func (PySem.W.fnOf "end" "Visit.end" (defArgs s_Visit_end) (defBody s_Visit_end) (defScope s_Visit_end) .none kV_Visit_end dc_Visit_end pm_Visit_end an_Visit_end cd_Visit_end ct_Visit_end), sl_Visit_end⟩)
    (c_Visit_end : PySem.W.codeIn K cd_Visit_end "Visit.end" = true)
    (k_Visit_end : PySem.W.keepIn K (.ref f_Visit_end) = true)
    (a_Load_init : PySem.W.findIn K (.ref C_Load) "__init__" = some (some (.ref f_Load_init)))
    (i_Load_init : PySem.W.isFn K (.ref f_Load_init) = true)
    (l_Load_init : K.lookup f_Load_init = some ⟨oc_Load_init, od_Load_init, .func (PySem.W.fnOf "__init__" "Load.__init__" (defArgs s_Load_init) (defBody s_Load_init) (defScope s_Load_init) .none kV_Load_init dc_Load_init pm_Load_init an_Load_init cd_Load_init ct_Load_init), sl_Load_init⟩)
    (c_Load_init : PySem.W.codeIn K cd_Load_init "Load.__init__" = true)
    (k_Load_init : PySem.W.keepIn K (.ref f_Load_init) = true)
    (a_Load_curve : PySem.W.findIn K (.ref C_Load) "curve" = some (some (.ref p_Load_curve)))
    (pg_Load_curve : PySem.W.specialIn K (.ref p_Load_curve) "__get__" = some (some (.builtin "property.__get__")))
    (pt_Load_curve : PySem.W.takesIn K (.ref p_Load_curve) = some true)
    (pr_Load_curve : PySem.W.recIn K p_Load_curve "property" = some (.ref f_Load_curve :: r_Load_curve))
    (l_Load_curve : K.lookup f_Load_curve = some ⟨oc_Load_curve, od_Load_curve, .func (PySem.W.fnOf "curve" "Load.curve" (defArgs s_Load_curve) (defBody s_Load_curve) (defScope s_Load_curve) .none kV_Load_curve dc_Load_curve pm_Load_curve an_Load_curve cd_Load_curve ct_Load_curve), sl_Load_curve⟩)
    (c_Load_curve : PySem.W.codeIn K cd_Load_curve "Load.curve" = true)
    (k_Load_curve : PySem.W.keepIn K (.ref f_Load_curve) = true)
    (a_Load_visits : PySem.W.findIn K (.ref C_Load) "visits" = some (some (.ref f_Load_visits)))
    (i_Load_visits : PySem.W.isFn K (.ref f_Load_visits) = true)
    (l_Load_visits : K.lookup f_Load_visits = some ⟨oc_Load_visits, od_Load_visits, .func (PySem.W.fnOf "visits" "Load.visits" (defArgs s_Load_visits) (defBody s_Load_visits) (defScope s_Load_visits) .none kV_Load_visits dc_Load_visits pm_Load_visits an_Load_visits cd_Load_visits ct_Load_visits), sl_Load_visits⟩)
    (c_Load_visits : PySem.W.codeIn K cd_Load_visits "Load.visits" = true)
    (k_Load_visits : PySem.W.keepIn K (.ref f_Load_visits) = true)
    (a_demand : PySem.W.nsIn K mainGlobals "demand" = some (some (.ref f_demand)))
    (l_demand : K.lookup f_demand = some ⟨oc_demand, od_demand, .func (PySem.W.fnOf "demand" "demand" (defArgs s_demand) (defBody s_demand) (defScope s_demand) .none kV_demand dc_demand pm_demand an_demand cd_demand ct_demand), sl_demand⟩)
    (c_demand : PySem.W.codeIn K cd_demand "demand" = true)
    (k_demand : PySem.W.keepIn K (.ref f_demand) = true)
    (a_find_visit_problem : PySem.W.nsIn K mainGlobals "find_visit_problem" = some (some (.ref f_find_visit_problem)))
    (l_find_visit_problem : K.lookup f_find_visit_problem = some ⟨oc_find_visit_problem, od_find_visit_problem, .func (PySem.W.fnOf "find_visit_problem" "find_visit_problem" (defArgs s_find_visit_problem) (defBody s_find_visit_problem) (defScope s_find_visit_problem) .none kV_find_visit_problem dc_find_visit_problem pm_find_visit_problem an_find_visit_problem cd_find_visit_problem ct_find_visit_problem), sl_find_visit_problem⟩)
    (c_find_visit_problem : PySem.W.codeIn K cd_find_visit_problem "find_visit_problem" = true)
    (k_find_visit_problem : PySem.W.keepIn K (.ref f_find_visit_problem) = true)
    (a_find_wrong_visit : PySem.W.nsIn K mainGlobals "find_wrong_visit" = some (some (.ref f_find_wrong_visit)))
    (l_find_wrong_visit : K.lookup f_find_wrong_visit = some ⟨oc_find_wrong_visit, od_find_wrong_visit, .func (PySem.W.fnOf "find_wrong_visit" "find_wrong_visit" (defArgs s_find_wrong_visit) (defBody s_find_wrong_visit) (defScope s_find_wrong_visit) .none kV_find_wrong_visit dc_find_wrong_visit pm_find_wrong_visit an_find_wrong_visit cd_find_wrong_visit ct_find_wrong_visit), sl_find_wrong_visit⟩)
    (c_find_wrong_visit : PySem.W.codeIn K cd_find_wrong_visit "find_wrong_visit" = true)
    (k_find_wrong_visit : PySem.W.keepIn K (.ref f_find_wrong_visit) = true)
    (a_places : PySem.W.nsIn K mainGlobals "places" = some (some (.ref f_places)))
    (l_places : K.lookup f_places = some ⟨oc_places, od_places, .func (PySem.W.fnOf "places" "places" (defArgs s_places) (defBody s_places) (defScope s_places) .none kV_places dc_places pm_places an_places cd_places ct_places), sl_places⟩)
    (c_places : PySem.W.codeIn K cd_places "places" = true)
    (k_places : PySem.W.keepIn K (.ref f_places) = true)
    (a_l_rng : PySem.W.nsIn K mainGlobals "_law_rng" = some (some (.ref f_l_rng)))
    (l_l_rng : K.lookup f_l_rng = some ⟨oc_l_rng, od_l_rng, .func (PySem.W.fnOf "_law_rng" "_law_rng" (defArgs s_l_rng) (defBody s_l_rng) (defScope s_l_rng) .none kV_l_rng dc_l_rng pm_l_rng an_l_rng cd_l_rng ct_l_rng), sl_l_rng⟩)
    (c_l_rng : PySem.W.codeIn K cd_l_rng "_law_rng" = true)
    (k_l_rng : PySem.W.keepIn K (.ref f_l_rng) = true)
    (a_l_draw : PySem.W.nsIn K mainGlobals "_law_draw" = some (some (.ref f_l_draw)))
    (l_l_draw : K.lookup f_l_draw = some ⟨oc_l_draw, od_l_draw, .func (PySem.W.fnOf "_law_draw" "_law_draw" (defArgs s_l_draw) (defBody s_l_draw) (defScope s_l_draw) .none kV_l_draw dc_l_draw pm_l_draw an_l_draw cd_l_draw ct_l_draw), sl_l_draw⟩)
    (c_l_draw : PySem.W.codeIn K cd_l_draw "_law_draw" = true)
    (k_l_draw : PySem.W.keepIn K (.ref f_l_draw) = true)
    (a_l_choice : PySem.W.nsIn K mainGlobals "_law_choice" = some (some (.ref f_l_choice)))
    (l_l_choice : K.lookup f_l_choice = some ⟨oc_l_choice, od_l_choice, .func (PySem.W.fnOf "_law_choice" "_law_choice" (defArgs s_l_choice) (defBody s_l_choice) (defScope s_l_choice) .none kV_l_choice dc_l_choice pm_l_choice an_l_choice cd_l_choice ct_l_choice), sl_l_choice⟩)
    (c_l_choice : PySem.W.codeIn K cd_l_choice "_law_choice" = true)
    (k_l_choice : PySem.W.keepIn K (.ref f_l_choice) = true)
    (a_l_at : PySem.W.nsIn K mainGlobals "_law_at" = some (some (.ref f_l_at)))
    (l_l_at : K.lookup f_l_at = some ⟨oc_l_at, od_l_at, .func (PySem.W.fnOf "_law_at" "_law_at" (defArgs s_l_at) (defBody s_l_at) (defScope s_l_at) .none kV_l_at dc_l_at pm_l_at an_l_at cd_l_at ct_l_at), sl_l_at⟩)
    (c_l_at : PySem.W.codeIn K cd_l_at "_law_at" = true)
    (k_l_at : PySem.W.keepIn K (.ref f_l_at) = true)
    (a_l_is_good : PySem.W.nsIn K mainGlobals "_law_is_good" = some (some (.ref f_l_is_good)))
    (l_l_is_good : K.lookup f_l_is_good = some ⟨oc_l_is_good, od_l_is_good, .func (PySem.W.fnOf "_law_is_good" "_law_is_good" (defArgs s_l_is_good) (defBody s_l_is_good) (defScope s_l_is_good) .none kV_l_is_good dc_l_is_good pm_l_is_good an_l_is_good cd_l_is_good ct_l_is_good), sl_l_is_good⟩)
    (c_l_is_good : PySem.W.codeIn K cd_l_is_good "_law_is_good" = true)
    (k_l_is_good : PySem.W.keepIn K (.ref f_l_is_good) = true)
    (a_l_rows : PySem.W.nsIn K mainGlobals "_law_rows" = some (some (.ref f_l_rows)))
    (l_l_rows : K.lookup f_l_rows = some ⟨oc_l_rows, od_l_rows, .func (PySem.W.fnOf "_law_rows" "_law_rows" (defArgs s_l_rows) (defBody s_l_rows) (defScope s_l_rows) .none kV_l_rows dc_l_rows pm_l_rows an_l_rows cd_l_rows ct_l_rows), sl_l_rows⟩)
    (c_l_rows : PySem.W.codeIn K cd_l_rows "_law_rows" = true)
    (k_l_rows : PySem.W.keepIn K (.ref f_l_rows) = true)
    (a_l_row : PySem.W.nsIn K mainGlobals "_law_row" = some (some (.ref f_l_row)))
    (l_l_row : K.lookup f_l_row = some ⟨oc_l_row, od_l_row, .func (PySem.W.fnOf "_law_row" "_law_row" (defArgs s_l_row) (defBody s_l_row) (defScope s_l_row) .none kV_l_row dc_l_row pm_l_row an_l_row cd_l_row ct_l_row), sl_l_row⟩)
    (c_l_row : PySem.W.codeIn K cd_l_row "_law_row" = true)
    (k_l_row : PySem.W.keepIn K (.ref f_l_row) = true)
    (a_l_keeps : PySem.W.nsIn K mainGlobals "_law_keeps" = some (some (.ref f_l_keeps)))
    (l_l_keeps : K.lookup f_l_keeps = some ⟨oc_l_keeps, od_l_keeps, .func (PySem.W.fnOf "_law_keeps" "_law_keeps" (defArgs s_l_keeps) (defBody s_l_keeps) (defScope s_l_keeps) .none kV_l_keeps dc_l_keeps pm_l_keeps an_l_keeps cd_l_keeps ct_l_keeps), sl_l_keeps⟩)
    (c_l_keeps : PySem.W.codeIn K cd_l_keeps "_law_keeps" = true)
    (k_l_keeps : PySem.W.keepIn K (.ref f_l_keeps) = true)
    (a_l_records : PySem.W.nsIn K mainGlobals "_law_records" = some (some (.ref f_l_records)))
    (l_l_records : K.lookup f_l_records = some ⟨oc_l_records, od_l_records, .func (PySem.W.fnOf "_law_records" "_law_records" (defArgs s_l_records) (defBody s_l_records) (defScope s_l_records) .none kV_l_records dc_l_records pm_l_records an_l_records cd_l_records ct_l_records), sl_l_records⟩)
    (c_l_records : PySem.W.codeIn K cd_l_records "_law_records" = true)
    (k_l_records : PySem.W.keepIn K (.ref f_l_records) = true)
    (a_l_parts : PySem.W.nsIn K mainGlobals "_law_parts" = some (some (.ref f_l_parts)))
    (l_l_parts : K.lookup f_l_parts = some ⟨oc_l_parts, od_l_parts, .func (PySem.W.fnOf "_law_parts" "_law_parts" (defArgs s_l_parts) (defBody s_l_parts) (defScope s_l_parts) .none kV_l_parts dc_l_parts pm_l_parts an_l_parts cd_l_parts ct_l_parts), sl_l_parts⟩)
    (c_l_parts : PySem.W.codeIn K cd_l_parts "_law_parts" = true)
    (k_l_parts : PySem.W.keepIn K (.ref f_l_parts) = true)
    (a_l_urgent : PySem.W.nsIn K mainGlobals "_law_urgent" = some (some (.ref f_l_urgent)))
    (l_l_urgent : K.lookup f_l_urgent = some ⟨oc_l_urgent, od_l_urgent, .func (PySem.W.fnOf "_law_urgent" "_law_urgent" (defArgs s_l_urgent) (defBody s_l_urgent) (defScope s_l_urgent) .none kV_l_urgent dc_l_urgent pm_l_urgent an_l_urgent cd_l_urgent ct_l_urgent), sl_l_urgent⟩)
    (c_l_urgent : PySem.W.codeIn K cd_l_urgent "_law_urgent" = true)
    (k_l_urgent : PySem.W.keepIn K (.ref f_l_urgent) = true)
    (a_l_placed : PySem.W.nsIn K mainGlobals "_law_placed" = some (some (.ref f_l_placed)))
    (l_l_placed : K.lookup f_l_placed = some ⟨oc_l_placed, od_l_placed, .func (PySem.W.fnOf "_law_placed" "_law_placed" (defArgs s_l_placed) (defBody s_l_placed) (defScope s_l_placed) .none kV_l_placed dc_l_placed pm_l_placed an_l_placed cd_l_placed ct_l_placed), sl_l_placed⟩)
    (c_l_placed : PySem.W.codeIn K cd_l_placed "_law_placed" = true)
    (k_l_placed : PySem.W.keepIn K (.ref f_l_placed) = true)
    (a_l_count : PySem.W.nsIn K mainGlobals "_law_count" = some (some (.ref f_l_count)))
    (l_l_count : K.lookup f_l_count = some ⟨oc_l_count, od_l_count, .func (PySem.W.fnOf "_law_count" "_law_count" (defArgs s_l_count) (defBody s_l_count) (defScope s_l_count) .none kV_l_count dc_l_count pm_l_count an_l_count cd_l_count ct_l_count), sl_l_count⟩)
    (c_l_count : PySem.W.codeIn K cd_l_count "_law_count" = true)
    (k_l_count : PySem.W.keepIn K (.ref f_l_count) = true)
    (a_l_count_places : PySem.W.nsIn K mainGlobals "_law_count_places" = some (some (.ref f_l_count_places)))
    (l_l_count_places : K.lookup f_l_count_places = some ⟨oc_l_count_places, od_l_count_places, .func (PySem.W.fnOf "_law_count_places" "_law_count_places" (defArgs s_l_count_places) (defBody s_l_count_places) (defScope s_l_count_places) .none kV_l_count_places dc_l_count_places pm_l_count_places an_l_count_places cd_l_count_places ct_l_count_places), sl_l_count_places⟩)
    (c_l_count_places : PySem.W.codeIn K cd_l_count_places "_law_count_places" = true)
    (k_l_count_places : PySem.W.keepIn K (.ref f_l_count_places) = true)
    (a_l_right : PySem.W.nsIn K mainGlobals "_law_right" = some (some (.ref f_l_right)))
    (l_l_right : K.lookup f_l_right = some ⟨oc_l_right, od_l_right, .func (PySem.W.fnOf "_law_right" "_law_right" (defArgs s_l_right) (defBody s_l_right) (defScope s_l_right) .none kV_l_right dc_l_right pm_l_right an_l_right cd_l_right ct_l_right), sl_l_right⟩)
    (c_l_right : PySem.W.codeIn K cd_l_right "_law_right" = true)
    (k_l_right : PySem.W.keepIn K (.ref f_l_right) = true)
    (a_law : PySem.W.nsIn K mainGlobals "law" = some (some (.ref f_law)))
    (l_law : K.lookup f_law = some ⟨oc_law, od_law, .func (PySem.W.fnOf "law" "law" (defArgs s_law) (defBody s_law) (defScope s_law) .none kV_law dc_law pm_law an_law cd_law ct_law), sl_law⟩)
    (c_law : PySem.W.codeIn K cd_law "law" = true)
    (k_law : PySem.W.keepIn K (.ref f_law) = true)
    (v_MAX_TICK : PySem.W.nsIn K mainGlobals "MAX_TICK" = some (some (.int 1000 t_MAX_TICK)))
    (v_MAX_TIME : PySem.W.nsIn K mainGlobals "MAX_TIME" = some (some (.int 12 t_MAX_TIME)))
    (v_MAX_VALUE : PySem.W.nsIn K mainGlobals "MAX_VALUE" = some (some (.int 2000 t_MAX_VALUE)))
    (v_MAX_VALUES : PySem.W.nsIn K mainGlobals "MAX_VALUES" = some (some (.int 24 t_MAX_VALUES)))
    (v_MAX_VISITS : PySem.W.nsIn K mainGlobals "MAX_VISITS" = some (some (.int 4 t_MAX_VISITS)))
    (v_PERIODS : PySem.W.nsIn K mainGlobals "PERIODS" = some (some (.ref a_PERIODS)))
    (l_PERIODS : K.lookup a_PERIODS = some ⟨.type "tuple", od_PERIODS, .seq #[.int 1 uPERIODS0, .int 2 uPERIODS1, .int 3 uPERIODS2, .int 4 uPERIODS3, .int 6 uPERIODS4, .int 12 uPERIODS5] n_PERIODS, sl_PERIODS⟩)
    (z_abs : PySem.W.nsIn K mainGlobals "abs" = some none)
    (z_all : PySem.W.nsIn K mainGlobals "all" = some none)
    (z_bool : PySem.W.nsIn K mainGlobals "bool" = some none)
    (z_divmod : PySem.W.nsIn K mainGlobals "divmod" = some none)
    (z_enumerate : PySem.W.nsIn K mainGlobals "enumerate" = some none)
    (z_int : PySem.W.nsIn K mainGlobals "int" = some none)
    (z_isinstance : PySem.W.nsIn K mainGlobals "isinstance" = some none)
    (z_len : PySem.W.nsIn K mainGlobals "len" = some none)
    (z_list : PySem.W.nsIn K mainGlobals "list" = some none)
    (z_max : PySem.W.nsIn K mainGlobals "max" = some none)
    (z_min : PySem.W.nsIn K mainGlobals "min" = some none)
    (z_range : PySem.W.nsIn K mainGlobals "range" = some none)
    (z_repr : PySem.W.nsIn K mainGlobals "repr" = some none)
    (z_sum : PySem.W.nsIn K mainGlobals "sum" = some none)
    (z_zip : PySem.W.nsIn K mainGlobals "zip" = some none)
    : ∃ fd : FuncData, (∀ (s : Shared) (v : Value), BindsTo s fd ⟨[v], []⟩ [("_law_script", v)]) ∧ ∀ base : Heap, K.In base → base.Ns mainGlobals mg → VG.FnG l.prog w K mg base CX0 10 fa fd ["_law_script"] (spL K) := by
  have e := hfa.symm.trans (PySem.W.mg_of X G a_law)
  cases e
  let A : Ad := {
    Curve := C_Curve,
    Load := C_Load,
    Visit := C_Visit,
    f_is_integer := f_is_integer,
    d_is_integer := PySem.W.fnOf "is_integer" "is_integer" (defArgs s_is_integer) (defBody s_is_integer) (defScope s_is_integer) .none kV_is_integer dc_is_integer pm_is_integer an_is_integer cd_is_integer ct_is_integer,
    f_is_count := f_is_count,
    d_is_count := PySem.W.fnOf "is_count" "is_count" (defArgs s_is_count) (defBody s_is_count) (defScope s_is_count) .none kV_is_count dc_is_count pm_is_count an_is_count cd_is_count ct_is_count,
    f_is_count_to := f_is_count_to,
    d_is_count_to := PySem.W.fnOf "is_count_to" "is_count_to" (defArgs s_is_count_to) (defBody s_is_count_to) (defScope s_is_count_to) .none kV_is_count_to dc_is_count_to pm_is_count_to an_is_count_to cd_is_count_to ct_is_count_to,
    f_rounded_up := f_rounded_up,
    d_rounded_up := PySem.W.fnOf "rounded_up" "rounded_up" (defArgs s_rounded_up) (defBody s_rounded_up) (defScope s_rounded_up) .none kV_rounded_up dc_rounded_up pm_rounded_up an_rounded_up cd_rounded_up ct_rounded_up,
    f_is_window := f_is_window,
    d_is_window := PySem.W.fnOf "is_window" "is_window" (defArgs s_is_window) (defBody s_is_window) (defScope s_is_window) .none kV_is_window dc_is_window pm_is_window an_is_window cd_is_window ct_is_window,
    f_require_window := f_require_window,
    d_require_window := PySem.W.fnOf "require_window" "require_window" (defArgs s_require_window) (defBody s_require_window) (defScope s_require_window) .none kV_require_window dc_require_window pm_require_window an_require_window cd_require_window ct_require_window,
    f_require_tick := f_require_tick,
    d_require_tick := PySem.W.fnOf "require_tick" "require_tick" (defArgs s_require_tick) (defBody s_require_tick) (defScope s_require_tick) .none kV_require_tick dc_require_tick pm_require_tick an_require_tick cd_require_tick ct_require_tick,
    f_value_at := f_value_at,
    d_value_at := PySem.W.fnOf "value_at" "value_at" (defArgs s_value_at) (defBody s_value_at) (defScope s_value_at) .none kV_value_at dc_value_at pm_value_at an_value_at cd_value_at ct_value_at,
    f_least_form := f_least_form,
    d_least_form := PySem.W.fnOf "least_form" "least_form" (defArgs s_least_form) (defBody s_least_form) (defScope s_least_form) .none kV_least_form dc_least_form pm_least_form an_least_form cd_least_form ct_least_form,
    f_least_period := f_least_period,
    d_least_period := PySem.W.fnOf "least_period" "least_period" (defArgs s_least_period) (defBody s_least_period) (defScope s_least_period) .none kV_least_period dc_least_period pm_least_period an_least_period cd_least_period ct_least_period,
    f_C_init := f_C_init,
    d_C_init := PySem.W.fnOf "__init__" "Curve.__init__" (defArgs s_C_init) (defBody s_C_init) (defScope s_C_init) .none (.ref D_C_init) dc_C_init pm_C_init an_C_init cd_C_init ct_C_init,
    f_C_at := f_C_at,
    d_C_at := PySem.W.fnOf "at" "Curve.at" (defArgs s_C_at) (defBody s_C_at) (defScope s_C_at) .none kV_C_at dc_C_at pm_C_at an_C_at cd_C_at ct_C_at,
    f_C_first_values := f_C_first_values,
    d_C_first_values := PySem.W.fnOf "first_values" "Curve.first_values" (defArgs s_C_first_values) (defBody s_C_first_values) (defScope s_C_first_values) .none kV_C_first_values dc_C_first_values pm_C_first_values an_C_first_values cd_C_first_values ct_C_first_values,
    f_first_break := f_first_break,
    d_first_break := PySem.W.fnOf "first_break" "first_break" (defArgs s_first_break) (defBody s_first_break) (defScope s_first_break) .none kV_first_break dc_first_break pm_first_break an_first_break cd_first_break ct_first_break,
    f_C_find_break := f_C_find_break,
    d_C_find_break := PySem.W.fnOf "find_break" "Curve.find_break" (defArgs s_C_find_break) (defBody s_C_find_break) (defScope s_C_find_break) .none kV_C_find_break dc_C_find_break pm_C_find_break an_C_find_break cd_C_find_break ct_C_find_break,
    f_require_good := f_require_good,
    d_require_good := PySem.W.fnOf "require_good" "require_good" (defArgs s_require_good) (defBody s_require_good) (defScope s_require_good) .none kV_require_good dc_require_good pm_require_good an_require_good cd_require_good ct_require_good,
    f_find_problem := f_find_problem,
    d_find_problem := PySem.W.fnOf "find_problem" "find_problem" (defArgs s_find_problem) (defBody s_find_problem) (defScope s_find_problem) .none kV_find_problem dc_find_problem pm_find_problem an_find_problem cd_find_problem ct_find_problem,
    f_cost := f_cost,
    d_cost := PySem.W.fnOf "cost" "cost" (defArgs s_cost) (defBody s_cost) (defScope s_cost) .none kV_cost dc_cost pm_cost an_cost cd_cost ct_cost,
    f_total_cost := f_total_cost,
    d_total_cost := PySem.W.fnOf "total_cost" "total_cost" (defArgs s_total_cost) (defBody s_total_cost) (defScope s_total_cost) .none kV_total_cost dc_total_cost pm_total_cost an_total_cost cd_total_cost ct_total_cost,
    f_least_cost := f_least_cost,
    d_least_cost := PySem.W.fnOf "least_cost" "least_cost" (defArgs s_least_cost) (defBody s_least_cost) (defScope s_least_cost) .none kV_least_cost dc_least_cost pm_least_cost an_least_cost cd_least_cost ct_least_cost,
    f_least_matching := f_least_matching,
    d_least_matching := PySem.W.fnOf "least_matching" "least_matching" (defArgs s_least_matching) (defBody s_least_matching) (defScope s_least_matching) .none kV_least_matching dc_least_matching pm_least_matching an_least_matching cd_least_matching ct_least_matching,
    f_urgent_stretch := f_urgent_stretch,
    d_urgent_stretch := PySem.W.fnOf "urgent_stretch" "urgent_stretch" (defArgs s_urgent_stretch) (defBody s_urgent_stretch) (defScope s_urgent_stretch) .none kV_urgent_stretch dc_urgent_stretch pm_urgent_stretch an_urgent_stretch cd_urgent_stretch ct_urgent_stretch,
    f_placed_stretch := f_placed_stretch,
    d_placed_stretch := PySem.W.fnOf "placed_stretch" "placed_stretch" (defArgs s_placed_stretch) (defBody s_placed_stretch) (defScope s_placed_stretch) .none kV_placed_stretch dc_placed_stretch pm_placed_stretch an_placed_stretch cd_placed_stretch ct_placed_stretch,
    f_stretch_from := f_stretch_from,
    d_stretch_from := PySem.W.fnOf "stretch_from" "stretch_from" (defArgs s_stretch_from) (defBody s_stretch_from) (defScope s_stretch_from) .none kV_stretch_from dc_stretch_from pm_stretch_from an_stretch_from cd_stretch_from ct_stretch_from,
    f_urgent_stretches := f_urgent_stretches,
    d_urgent_stretches := PySem.W.fnOf "urgent_stretches" "urgent_stretches" (defArgs s_urgent_stretches) (defBody s_urgent_stretches) (defScope s_urgent_stretches) .none kV_urgent_stretches dc_urgent_stretches pm_urgent_stretches an_urgent_stretches cd_urgent_stretches ct_urgent_stretches,
    f_placed_stretches := f_placed_stretches,
    d_placed_stretches := PySem.W.fnOf "placed_stretches" "placed_stretches" (defArgs s_placed_stretches) (defBody s_placed_stretches) (defScope s_placed_stretches) .none kV_placed_stretches dc_placed_stretches pm_placed_stretches an_placed_stretches cd_placed_stretches ct_placed_stretches,
    f_Visit_init := f_Visit_init,
    d_Visit_init := PySem.W.fnOf "__init__" "Visit.__init__" (defArgs s_Visit_init) (defBody s_Visit_init) (defScope s_Visit_init) .none (.ref D_Visit_init) dc_Visit_init pm_Visit_init an_Visit_init cd_Visit_init ct_Visit_init,
    p_Visit_time := p_Visit_time,
    f_Visit_time := f_Visit_time,
    d_Visit_time := PySem.W.fnOf "time" "Visit.time" (defArgs s_Visit_time) (defBody s_Visit_time) (defScope s_Visit_time) .none kV_Visit_time dc_Visit_time pm_Visit_time an_Visit_time cd_Visit_time ct_Visit_time,
    p_Visit_shift := p_Visit_shift,
    f_Visit_shift := f_Visit_shift,
    d_Visit_shift := PySem.W.fnOf "shift" "Visit.shift" (defArgs s_Visit_shift) (defBody s_Visit_shift) (defScope s_Visit_shift) .none kV_Visit_shift dc_Visit_shift pm_Visit_shift an_Visit_shift cd_Visit_shift ct_Visit_shift,
    p_Visit_begin := p_Visit_begin,
    f_Visit_begin := f_Visit_begin,
    d_Visit_begin := PySem.W.fnOf "begin" "Visit.begin" (defArgs s_Visit_begin) (defBody s_Visit_begin) (defScope s_Visit_begin) .none kV_Visit_begin dc_Visit_begin pm_Visit_begin an_Visit_begin cd_Visit_begin ct_Visit_begin,
    p_Visit_end := p_Visit_end,
    f_Visit_end := f_Visit_end,
    d_Visit_end := PySem.W.fnOf "end" "Visit.end" (defArgs s_Visit_end) (defBody s_Visit_end) (defScope s_Visit_end) .none kV_Visit_end dc_Visit_end pm_Visit_end an_Visit_end cd_Visit_end ct_Visit_end,
    f_Load_init := f_Load_init,
    d_Load_init := PySem.W.fnOf "__init__" "Load.__init__" (defArgs s_Load_init) (defBody s_Load_init) (defScope s_Load_init) .none kV_Load_init dc_Load_init pm_Load_init an_Load_init cd_Load_init ct_Load_init,
    p_Load_curve := p_Load_curve,
    f_Load_curve := f_Load_curve,
    d_Load_curve := PySem.W.fnOf "curve" "Load.curve" (defArgs s_Load_curve) (defBody s_Load_curve) (defScope s_Load_curve) .none kV_Load_curve dc_Load_curve pm_Load_curve an_Load_curve cd_Load_curve ct_Load_curve,
    f_Load_visits := f_Load_visits,
    d_Load_visits := PySem.W.fnOf "visits" "Load.visits" (defArgs s_Load_visits) (defBody s_Load_visits) (defScope s_Load_visits) .none kV_Load_visits dc_Load_visits pm_Load_visits an_Load_visits cd_Load_visits ct_Load_visits,
    f_demand := f_demand,
    d_demand := PySem.W.fnOf "demand" "demand" (defArgs s_demand) (defBody s_demand) (defScope s_demand) .none kV_demand dc_demand pm_demand an_demand cd_demand ct_demand,
    f_find_visit_problem := f_find_visit_problem,
    d_find_visit_problem := PySem.W.fnOf "find_visit_problem" "find_visit_problem" (defArgs s_find_visit_problem) (defBody s_find_visit_problem) (defScope s_find_visit_problem) .none kV_find_visit_problem dc_find_visit_problem pm_find_visit_problem an_find_visit_problem cd_find_visit_problem ct_find_visit_problem,
    f_find_wrong_visit := f_find_wrong_visit,
    d_find_wrong_visit := PySem.W.fnOf "find_wrong_visit" "find_wrong_visit" (defArgs s_find_wrong_visit) (defBody s_find_wrong_visit) (defScope s_find_wrong_visit) .none kV_find_wrong_visit dc_find_wrong_visit pm_find_wrong_visit an_find_wrong_visit cd_find_wrong_visit ct_find_wrong_visit,
    f_places := f_places,
    d_places := PySem.W.fnOf "places" "places" (defArgs s_places) (defBody s_places) (defScope s_places) .none kV_places dc_places pm_places an_places cd_places ct_places,
    f_l_rng := f_l_rng,
    d_l_rng := PySem.W.fnOf "_law_rng" "_law_rng" (defArgs s_l_rng) (defBody s_l_rng) (defScope s_l_rng) .none kV_l_rng dc_l_rng pm_l_rng an_l_rng cd_l_rng ct_l_rng,
    f_l_draw := f_l_draw,
    d_l_draw := PySem.W.fnOf "_law_draw" "_law_draw" (defArgs s_l_draw) (defBody s_l_draw) (defScope s_l_draw) .none kV_l_draw dc_l_draw pm_l_draw an_l_draw cd_l_draw ct_l_draw,
    f_l_choice := f_l_choice,
    d_l_choice := PySem.W.fnOf "_law_choice" "_law_choice" (defArgs s_l_choice) (defBody s_l_choice) (defScope s_l_choice) .none kV_l_choice dc_l_choice pm_l_choice an_l_choice cd_l_choice ct_l_choice,
    f_l_at := f_l_at,
    d_l_at := PySem.W.fnOf "_law_at" "_law_at" (defArgs s_l_at) (defBody s_l_at) (defScope s_l_at) .none kV_l_at dc_l_at pm_l_at an_l_at cd_l_at ct_l_at,
    f_l_is_good := f_l_is_good,
    d_l_is_good := PySem.W.fnOf "_law_is_good" "_law_is_good" (defArgs s_l_is_good) (defBody s_l_is_good) (defScope s_l_is_good) .none kV_l_is_good dc_l_is_good pm_l_is_good an_l_is_good cd_l_is_good ct_l_is_good,
    f_l_rows := f_l_rows,
    d_l_rows := PySem.W.fnOf "_law_rows" "_law_rows" (defArgs s_l_rows) (defBody s_l_rows) (defScope s_l_rows) .none kV_l_rows dc_l_rows pm_l_rows an_l_rows cd_l_rows ct_l_rows,
    f_l_row := f_l_row,
    d_l_row := PySem.W.fnOf "_law_row" "_law_row" (defArgs s_l_row) (defBody s_l_row) (defScope s_l_row) .none kV_l_row dc_l_row pm_l_row an_l_row cd_l_row ct_l_row,
    f_l_keeps := f_l_keeps,
    d_l_keeps := PySem.W.fnOf "_law_keeps" "_law_keeps" (defArgs s_l_keeps) (defBody s_l_keeps) (defScope s_l_keeps) .none kV_l_keeps dc_l_keeps pm_l_keeps an_l_keeps cd_l_keeps ct_l_keeps,
    f_l_records := f_l_records,
    d_l_records := PySem.W.fnOf "_law_records" "_law_records" (defArgs s_l_records) (defBody s_l_records) (defScope s_l_records) .none kV_l_records dc_l_records pm_l_records an_l_records cd_l_records ct_l_records,
    f_l_parts := f_l_parts,
    d_l_parts := PySem.W.fnOf "_law_parts" "_law_parts" (defArgs s_l_parts) (defBody s_l_parts) (defScope s_l_parts) .none kV_l_parts dc_l_parts pm_l_parts an_l_parts cd_l_parts ct_l_parts,
    f_l_urgent := f_l_urgent,
    d_l_urgent := PySem.W.fnOf "_law_urgent" "_law_urgent" (defArgs s_l_urgent) (defBody s_l_urgent) (defScope s_l_urgent) .none kV_l_urgent dc_l_urgent pm_l_urgent an_l_urgent cd_l_urgent ct_l_urgent,
    f_l_placed := f_l_placed,
    d_l_placed := PySem.W.fnOf "_law_placed" "_law_placed" (defArgs s_l_placed) (defBody s_l_placed) (defScope s_l_placed) .none kV_l_placed dc_l_placed pm_l_placed an_l_placed cd_l_placed ct_l_placed,
    f_l_count := f_l_count,
    d_l_count := PySem.W.fnOf "_law_count" "_law_count" (defArgs s_l_count) (defBody s_l_count) (defScope s_l_count) .none kV_l_count dc_l_count pm_l_count an_l_count cd_l_count ct_l_count,
    f_l_count_places := f_l_count_places,
    d_l_count_places := PySem.W.fnOf "_law_count_places" "_law_count_places" (defArgs s_l_count_places) (defBody s_l_count_places) (defScope s_l_count_places) .none kV_l_count_places dc_l_count_places pm_l_count_places an_l_count_places cd_l_count_places ct_l_count_places,
    f_l_right := f_l_right,
    d_l_right := PySem.W.fnOf "_law_right" "_law_right" (defArgs s_l_right) (defBody s_l_right) (defScope s_l_right) .none kV_l_right dc_l_right pm_l_right an_l_right cd_l_right ct_l_right,
    f_law := fa,
    d_law := PySem.W.fnOf "law" "law" (defArgs s_law) (defBody s_law) (defScope s_law) .none kV_law dc_law pm_law an_law cd_law ct_law,
    t_MAX_TICK := t_MAX_TICK,
    t_MAX_TIME := t_MAX_TIME,
    t_MAX_VALUE := t_MAX_VALUE,
    t_MAX_VALUES := t_MAX_VALUES,
    t_MAX_VISITS := t_MAX_VISITS,
    a_PERIODS := a_PERIODS }
  have T : Txt K mg A := {
    typ_permutations := PySem.W.mg_of X G typ_permutations,
    m_Curve := PySem.W.mg_of X G g_Curve,
    cl := ⟨pg_Curve, hd_Curve, po_Curve, sa_Curve⟩,
    M_Curve := ⟨mk_Curve, a_C_init, i_C_init, kc_Curve⟩,
    n_values := n_Curve_values,
    n_period := n_Curve_period,
    n_gain := n_Curve_gain,
    n_was_searched := n_Curve_was_searched,
    n_break := n_Curve_break,
    m_Load := PySem.W.mg_of X G g_Load,
    clLoad := ⟨pg_Load, hd_Load, po_Load, sa_Load⟩,
    M_Load := ⟨mk_Load, a_Load_init, i_Load_init, kc_Load⟩,
    n_curve := n_Load_curve,
    n_visits := n_Load_visits,
    m_Visit := PySem.W.mg_of X G g_Visit,
    clVisit := ⟨pg_Visit, hd_Visit, po_Visit, sa_Visit⟩,
    M_Visit := ⟨mk_Visit, a_Visit_init, i_Visit_init, kc_Visit⟩,
    ic_Visit := ⟨ic_Visit, it_Visit, ig_Visit, i_gn, i_tk, io_Visit, ie_Visit⟩,
    n_time := n_Visit_time,
    n_shift := n_Visit_shift,
    n_begin := n_Visit_begin,
    n_end := n_Visit_end,
    F_is_integer := fun_mk (st := s_is_integer) l_is_integer c_is_integer k_is_integer,
    m_is_integer := PySem.W.mg_of X G a_is_integer,
    k_is_integer := k_is_integer,
    b_is_integer := ((fun_mk (st := s_is_integer) l_is_integer c_is_integer k_is_integer).binds (ps := ["value"]) fun _ _ _ _ _ _ us hl => match us, hl with | [_], _ => rfl),
    F_is_count := fun_mk (st := s_is_count) l_is_count c_is_count k_is_count,
    m_is_count := PySem.W.mg_of X G a_is_count,
    k_is_count := k_is_count,
    b_is_count := ((fun_mk (st := s_is_count) l_is_count c_is_count k_is_count).binds (ps := ["value"]) fun _ _ _ _ _ _ us hl => match us, hl with | [_], _ => rfl),
    F_is_count_to := fun_mk (st := s_is_count_to) l_is_count_to c_is_count_to k_is_count_to,
    m_is_count_to := PySem.W.mg_of X G a_is_count_to,
    k_is_count_to := k_is_count_to,
    b_is_count_to := ((fun_mk (st := s_is_count_to) l_is_count_to c_is_count_to k_is_count_to).binds (ps := ["value", "most"]) fun _ _ _ _ _ _ us hl => match us, hl with | [_, _], _ => rfl),
    F_rounded_up := fun_mk (st := s_rounded_up) l_rounded_up c_rounded_up k_rounded_up,
    m_rounded_up := PySem.W.mg_of X G a_rounded_up,
    k_rounded_up := k_rounded_up,
    b_rounded_up := ((fun_mk (st := s_rounded_up) l_rounded_up c_rounded_up k_rounded_up).binds (ps := ["units", "parts"]) fun _ _ _ _ _ _ us hl => match us, hl with | [_, _], _ => rfl),
    F_is_window := fun_mk (st := s_is_window) l_is_window c_is_window k_is_window,
    m_is_window := PySem.W.mg_of X G a_is_window,
    k_is_window := k_is_window,
    b_is_window := ((fun_mk (st := s_is_window) l_is_window c_is_window k_is_window).binds (ps := ["start", "end"]) fun _ _ _ _ _ _ us hl => match us, hl with | [_, _], _ => rfl),
    F_require_window := fun_mk (st := s_require_window) l_require_window c_require_window k_require_window,
    m_require_window := PySem.W.mg_of X G a_require_window,
    k_require_window := k_require_window,
    b_require_window := ((fun_mk (st := s_require_window) l_require_window c_require_window k_require_window).binds (ps := ["start", "end"]) fun _ _ _ _ _ _ us hl => match us, hl with | [_, _], _ => rfl),
    F_require_tick := fun_mk (st := s_require_tick) l_require_tick c_require_tick k_require_tick,
    m_require_tick := PySem.W.mg_of X G a_require_tick,
    k_require_tick := k_require_tick,
    b_require_tick := ((fun_mk (st := s_require_tick) l_require_tick c_require_tick k_require_tick).binds (ps := ["value"]) fun _ _ _ _ _ _ us hl => match us, hl with | [_], _ => rfl),
    F_value_at := fun_mk (st := s_value_at) l_value_at c_value_at k_value_at,
    m_value_at := PySem.W.mg_of X G a_value_at,
    k_value_at := k_value_at,
    b_value_at := ((fun_mk (st := s_value_at) l_value_at c_value_at k_value_at).binds (ps := ["values", "period", "gain", "length"]) fun _ _ _ _ _ _ us hl => match us, hl with | [_, _, _, _], _ => rfl),
    F_least_form := fun_mk (st := s_least_form) l_least_form c_least_form k_least_form,
    m_least_form := PySem.W.mg_of X G a_least_form,
    k_least_form := k_least_form,
    b_least_form := ((fun_mk (st := s_least_form) l_least_form c_least_form k_least_form).binds (ps := ["values", "period", "gain"]) fun _ _ _ _ _ _ us hl => match us, hl with | [_, _, _], _ => rfl),
    F_least_period := fun_mk (st := s_least_period) l_least_period c_least_period k_least_period,
    m_least_period := PySem.W.mg_of X G a_least_period,
    k_least_period := k_least_period,
    b_least_period := ((fun_mk (st := s_least_period) l_least_period c_least_period k_least_period).binds (ps := ["row", "many", "period"]) fun _ _ _ _ _ _ us hl => match us, hl with | [_, _, _], _ => rfl),
    F_C_init := ⟨⟨_, _, _, _, _, _, _, _, _, _, rfl, l_C_init, c_C_init, .inl ⟨rfl, rfl⟩, .inr ⟨D_C_init, rfl, by
      intro q hq
      simp only [List.mem_cons, List.not_mem_nil, or_false] at hq
      rcases hq with rfl | rfl
      · exact ⟨_, d_C_init_period, ⟨_, rfl⟩⟩
      · exact ⟨_, d_C_init_gain, ⟨_, rfl⟩⟩⟩⟩, k_C_init⟩,
    F_C_at := fun_mk (st := s_C_at) l_C_at c_C_at k_C_at,
    b_C_at := ((fun_mk (st := s_C_at) l_C_at c_C_at k_C_at).binds (ps := ["self", "length"]) fun _ _ _ _ _ _ us hl => match us, hl with | [_, _], _ => rfl),
    me_at := ⟨a_C_at, i_C_at, k_C_at⟩,
    F_C_first_values := fun_mk (st := s_C_first_values) l_C_first_values c_C_first_values k_C_first_values,
    b_C_first_values := ((fun_mk (st := s_C_first_values) l_C_first_values c_C_first_values k_C_first_values).binds (ps := ["self"]) fun _ _ _ _ _ _ us hl => match us, hl with | [_], _ => rfl),
    me_first_values := ⟨a_C_first_values, i_C_first_values, k_C_first_values⟩,
    F_first_break := fun_mk (st := s_first_break) l_first_break c_first_break k_first_break,
    m_first_break := PySem.W.mg_of X G a_first_break,
    k_first_break := k_first_break,
    b_first_break := ((fun_mk (st := s_first_break) l_first_break c_first_break k_first_break).binds (ps := ["curve"]) fun _ _ _ _ _ _ us hl => match us, hl with | [_], _ => rfl),
    F_C_find_break := fun_mk (st := s_C_find_break) l_C_find_break c_C_find_break k_C_find_break,
    b_C_find_break := ((fun_mk (st := s_C_find_break) l_C_find_break c_C_find_break k_C_find_break).binds (ps := ["self"]) fun _ _ _ _ _ _ us hl => match us, hl with | [_], _ => rfl),
    me_find_break := ⟨a_C_find_break, i_C_find_break, k_C_find_break⟩,
    F_require_good := fun_mk (st := s_require_good) l_require_good c_require_good k_require_good,
    m_require_good := PySem.W.mg_of X G a_require_good,
    k_require_good := k_require_good,
    b_require_good := ((fun_mk (st := s_require_good) l_require_good c_require_good k_require_good).binds (ps := ["curve"]) fun _ _ _ _ _ _ us hl => match us, hl with | [_], _ => rfl),
    F_find_problem := fun_mk (st := s_find_problem) l_find_problem c_find_problem k_find_problem,
    m_find_problem := PySem.W.mg_of X G a_find_problem,
    k_find_problem := k_find_problem,
    b_find_problem := ((fun_mk (st := s_find_problem) l_find_problem c_find_problem k_find_problem).binds (ps := ["values", "period", "gain"]) fun _ _ _ _ _ _ us hl => match us, hl with | [_, _, _], _ => rfl),
    F_cost := fun_mk (st := s_cost) l_cost c_cost k_cost,
    m_cost := PySem.W.mg_of X G a_cost,
    k_cost := k_cost,
    b_cost := ((fun_mk (st := s_cost) l_cost c_cost k_cost).binds (ps := ["curve", "first", "behind"]) fun _ _ _ _ _ _ us hl => match us, hl with | [_, _, _], _ => rfl),
    F_total_cost := fun_mk (st := s_total_cost) l_total_cost c_total_cost k_total_cost,
    m_total_cost := PySem.W.mg_of X G a_total_cost,
    k_total_cost := k_total_cost,
    b_total_cost := ((fun_mk (st := s_total_cost) l_total_cost c_total_cost k_total_cost).binds (ps := ["curve", "matches"]) fun _ _ _ _ _ _ us hl => match us, hl with | [_, _], _ => rfl),
    F_least_cost := fun_mk (st := s_least_cost) l_least_cost c_least_cost k_least_cost,
    m_least_cost := PySem.W.mg_of X G a_least_cost,
    k_least_cost := k_least_cost,
    b_least_cost := ((fun_mk (st := s_least_cost) l_least_cost c_least_cost k_least_cost).binds (ps := ["curve", "stretches"]) fun _ _ _ _ _ _ us hl => match us, hl with | [_, _], _ => rfl),
    F_least_matching := fun_mk (st := s_least_matching) l_least_matching c_least_matching k_least_matching,
    m_least_matching := PySem.W.mg_of X G a_least_matching,
    k_least_matching := k_least_matching,
    b_least_matching := ((fun_mk (st := s_least_matching) l_least_matching c_least_matching k_least_matching).binds (ps := ["curve", "stretches"]) fun _ _ _ _ _ _ us hl => match us, hl with | [_, _], _ => rfl),
    F_urgent_stretch := fun_mk (st := s_urgent_stretch) l_urgent_stretch c_urgent_stretch k_urgent_stretch,
    m_urgent_stretch := PySem.W.mg_of X G a_urgent_stretch,
    k_urgent_stretch := k_urgent_stretch,
    b_urgent_stretch := ((fun_mk (st := s_urgent_stretch) l_urgent_stretch c_urgent_stretch k_urgent_stretch).binds (ps := ["visit", "start", "end"]) fun _ _ _ _ _ _ us hl => match us, hl with | [_, _, _], _ => rfl),
    F_placed_stretch := fun_mk (st := s_placed_stretch) l_placed_stretch c_placed_stretch k_placed_stretch,
    m_placed_stretch := PySem.W.mg_of X G a_placed_stretch,
    k_placed_stretch := k_placed_stretch,
    b_placed_stretch := ((fun_mk (st := s_placed_stretch) l_placed_stretch c_placed_stretch k_placed_stretch).binds (ps := ["visit", "tick"]) fun _ _ _ _ _ _ us hl => match us, hl with | [_, _], _ => rfl),
    F_stretch_from := fun_mk (st := s_stretch_from) l_stretch_from c_stretch_from k_stretch_from,
    m_stretch_from := PySem.W.mg_of X G a_stretch_from,
    k_stretch_from := k_stretch_from,
    b_stretch_from := ((fun_mk (st := s_stretch_from) l_stretch_from c_stretch_from k_stretch_from).binds (ps := ["visit", "first", "behind"]) fun _ _ _ _ _ _ us hl => match us, hl with | [_, _, _], _ => rfl),
    F_urgent_stretches := fun_mk (st := s_urgent_stretches) l_urgent_stretches c_urgent_stretches k_urgent_stretches,
    m_urgent_stretches := PySem.W.mg_of X G a_urgent_stretches,
    k_urgent_stretches := k_urgent_stretches,
    b_urgent_stretches := ((fun_mk (st := s_urgent_stretches) l_urgent_stretches c_urgent_stretches k_urgent_stretches).binds (ps := ["visits", "start", "end"]) fun _ _ _ _ _ _ us hl => match us, hl with | [_, _, _], _ => rfl),
    F_placed_stretches := fun_mk (st := s_placed_stretches) l_placed_stretches c_placed_stretches k_placed_stretches,
    m_placed_stretches := PySem.W.mg_of X G a_placed_stretches,
    k_placed_stretches := k_placed_stretches,
    b_placed_stretches := ((fun_mk (st := s_placed_stretches) l_placed_stretches c_placed_stretches k_placed_stretches).binds (ps := ["visits", "tick"]) fun _ _ _ _ _ _ us hl => match us, hl with | [_, _], _ => rfl),
    F_Visit_init := ⟨⟨_, _, _, _, _, _, _, _, _, _, rfl, l_Visit_init, c_Visit_init, .inl ⟨rfl, rfl⟩, .inr ⟨D_Visit_init, rfl, by
      intro q hq
      simp only [List.mem_cons, List.not_mem_nil, or_false] at hq
      rcases hq with rfl | rfl | rfl
      · exact ⟨_, d_Visit_init_shift, ⟨_, rfl⟩⟩
      · exact ⟨_, d_Visit_init_begin, ⟨_, rfl⟩⟩
      · exact ⟨_, d_Visit_init_end, rfl⟩⟩⟩, k_Visit_init⟩,
    F_Visit_time := fun_mk (st := s_Visit_time) l_Visit_time c_Visit_time k_Visit_time,
    b_Visit_time := ((fun_mk (st := s_Visit_time) l_Visit_time c_Visit_time k_Visit_time).binds (ps := ["self"]) fun _ _ _ _ _ _ us hl => match us, hl with | [_], _ => rfl),
    pr_Visit_time := ⟨a_Visit_time, pg_Visit_time, pt_Visit_time, _, pr_Visit_time⟩,
    F_Visit_shift := fun_mk (st := s_Visit_shift) l_Visit_shift c_Visit_shift k_Visit_shift,
    b_Visit_shift := ((fun_mk (st := s_Visit_shift) l_Visit_shift c_Visit_shift k_Visit_shift).binds (ps := ["self"]) fun _ _ _ _ _ _ us hl => match us, hl with | [_], _ => rfl),
    pr_Visit_shift := ⟨a_Visit_shift, pg_Visit_shift, pt_Visit_shift, _, pr_Visit_shift⟩,
    F_Visit_begin := fun_mk (st := s_Visit_begin) l_Visit_begin c_Visit_begin k_Visit_begin,
    b_Visit_begin := ((fun_mk (st := s_Visit_begin) l_Visit_begin c_Visit_begin k_Visit_begin).binds (ps := ["self"]) fun _ _ _ _ _ _ us hl => match us, hl with | [_], _ => rfl),
    pr_Visit_begin := ⟨a_Visit_begin, pg_Visit_begin, pt_Visit_begin, _, pr_Visit_begin⟩,
    F_Visit_end := fun_mk (st := s_Visit_end) l_Visit_end c_Visit_end k_Visit_end,
    b_Visit_end := ((fun_mk (st := s_Visit_end) l_Visit_end c_Visit_end k_Visit_end).binds (ps := ["self"]) fun _ _ _ _ _ _ us hl => match us, hl with | [_], _ => rfl),
    pr_Visit_end := ⟨a_Visit_end, pg_Visit_end, pt_Visit_end, _, pr_Visit_end⟩,
    F_Load_init := fun_mk (st := s_Load_init) l_Load_init c_Load_init k_Load_init,
    b_Load_init := ((fun_mk (st := s_Load_init) l_Load_init c_Load_init k_Load_init).binds (ps := ["self", "curve", "visits"]) fun _ _ _ _ _ _ us hl => match us, hl with | [_, _, _], _ => rfl),
    me_Load__init__ := ⟨a_Load_init, i_Load_init, k_Load_init⟩,
    F_Load_curve := fun_mk (st := s_Load_curve) l_Load_curve c_Load_curve k_Load_curve,
    b_Load_curve := ((fun_mk (st := s_Load_curve) l_Load_curve c_Load_curve k_Load_curve).binds (ps := ["self"]) fun _ _ _ _ _ _ us hl => match us, hl with | [_], _ => rfl),
    pr_Load_curve := ⟨a_Load_curve, pg_Load_curve, pt_Load_curve, _, pr_Load_curve⟩,
    F_Load_visits := fun_mk (st := s_Load_visits) l_Load_visits c_Load_visits k_Load_visits,
    b_Load_visits := ((fun_mk (st := s_Load_visits) l_Load_visits c_Load_visits k_Load_visits).binds (ps := ["self"]) fun _ _ _ _ _ _ us hl => match us, hl with | [_], _ => rfl),
    me_visits := ⟨a_Load_visits, i_Load_visits, k_Load_visits⟩,
    F_demand := fun_mk (st := s_demand) l_demand c_demand k_demand,
    m_demand := PySem.W.mg_of X G a_demand,
    k_demand := k_demand,
    b_demand := ((fun_mk (st := s_demand) l_demand c_demand k_demand).binds (ps := ["load", "start", "end"]) fun _ _ _ _ _ _ us hl => match us, hl with | [_, _, _], _ => rfl),
    F_find_visit_problem := fun_mk (st := s_find_visit_problem) l_find_visit_problem c_find_visit_problem k_find_visit_problem,
    m_find_visit_problem := PySem.W.mg_of X G a_find_visit_problem,
    k_find_visit_problem := k_find_visit_problem,
    b_find_visit_problem := ((fun_mk (st := s_find_visit_problem) l_find_visit_problem c_find_visit_problem k_find_visit_problem).binds (ps := ["time", "shift", "begin", "end"]) fun _ _ _ _ _ _ us hl => match us, hl with | [_, _, _, _], _ => rfl),
    F_find_wrong_visit := fun_mk (st := s_find_wrong_visit) l_find_wrong_visit c_find_wrong_visit k_find_wrong_visit,
    m_find_wrong_visit := PySem.W.mg_of X G a_find_wrong_visit,
    k_find_wrong_visit := k_find_wrong_visit,
    b_find_wrong_visit := ((fun_mk (st := s_find_wrong_visit) l_find_wrong_visit c_find_wrong_visit k_find_wrong_visit).binds (ps := ["visits"]) fun _ _ _ _ _ _ us hl => match us, hl with | [_], _ => rfl),
    F_places := fun_mk (st := s_places) l_places c_places k_places,
    m_places := PySem.W.mg_of X G a_places,
    k_places := k_places,
    b_places := ((fun_mk (st := s_places) l_places c_places k_places).binds (ps := ["loads", "tick"]) fun _ _ _ _ _ _ us hl => match us, hl with | [_, _], _ => rfl),
    F_l_rng := fun_mk (st := s_l_rng) l_l_rng c_l_rng k_l_rng,
    m_l_rng := PySem.W.mg_of X G a_l_rng,
    k_l_rng := k_l_rng,
    b_l_rng := ((fun_mk (st := s_l_rng) l_l_rng c_l_rng k_l_rng).binds (ps := ["_law_script", "_law_k"]) fun _ _ _ _ _ _ us hl => match us, hl with | [_, _], _ => rfl),
    F_l_draw := fun_mk (st := s_l_draw) l_l_draw c_l_draw k_l_draw,
    m_l_draw := PySem.W.mg_of X G a_l_draw,
    k_l_draw := k_l_draw,
    b_l_draw := ((fun_mk (st := s_l_draw) l_l_draw c_l_draw k_l_draw).binds (ps := ["_law_rng_here", "_law_many"]) fun _ _ _ _ _ _ us hl => match us, hl with | [_, _], _ => rfl),
    F_l_choice := fun_mk (st := s_l_choice) l_l_choice c_l_choice k_l_choice,
    m_l_choice := PySem.W.mg_of X G a_l_choice,
    k_l_choice := k_l_choice,
    b_l_choice := ((fun_mk (st := s_l_choice) l_l_choice c_l_choice k_l_choice).binds (ps := ["_law_rng_here", "_law_some"]) fun _ _ _ _ _ _ us hl => match us, hl with | [_, _], _ => rfl),
    F_l_at := fun_mk (st := s_l_at) l_l_at c_l_at k_l_at,
    m_l_at := PySem.W.mg_of X G a_l_at,
    k_l_at := k_l_at,
    b_l_at := ((fun_mk (st := s_l_at) l_l_at c_l_at k_l_at).binds (ps := ["_law_row_here", "_law_length"]) fun _ _ _ _ _ _ us hl => match us, hl with | [_, _], _ => rfl),
    F_l_is_good := fun_mk (st := s_l_is_good) l_l_is_good c_l_is_good k_l_is_good,
    m_l_is_good := PySem.W.mg_of X G a_l_is_good,
    k_l_is_good := k_l_is_good,
    b_l_is_good := ((fun_mk (st := s_l_is_good) l_l_is_good c_l_is_good k_l_is_good).binds (ps := ["_law_row_here"]) fun _ _ _ _ _ _ us hl => match us, hl with | [_], _ => rfl),
    F_l_rows := fun_mk (st := s_l_rows) l_l_rows c_l_rows k_l_rows,
    m_l_rows := PySem.W.mg_of X G a_l_rows,
    k_l_rows := k_l_rows,
    b_l_rows := ((fun_mk (st := s_l_rows) l_l_rows c_l_rows k_l_rows).binds (ps := []) fun _ _ _ _ _ _ us hl => match us, hl with | [], _ => rfl),
    F_l_row := fun_mk (st := s_l_row) l_l_row c_l_row k_l_row,
    m_l_row := PySem.W.mg_of X G a_l_row,
    k_l_row := k_l_row,
    b_l_row := ((fun_mk (st := s_l_row) l_l_row c_l_row k_l_row).binds (ps := ["_law_rng_here"]) fun _ _ _ _ _ _ us hl => match us, hl with | [_], _ => rfl),
    F_l_keeps := fun_mk (st := s_l_keeps) l_l_keeps c_l_keeps k_l_keeps,
    m_l_keeps := PySem.W.mg_of X G a_l_keeps,
    k_l_keeps := k_l_keeps,
    b_l_keeps := ((fun_mk (st := s_l_keeps) l_l_keeps c_l_keeps k_l_keeps).binds (ps := ["_law_row_here", "_law_record"]) fun _ _ _ _ _ _ us hl => match us, hl with | [_, _], _ => rfl),
    F_l_records := fun_mk (st := s_l_records) l_l_records c_l_records k_l_records,
    m_l_records := PySem.W.mg_of X G a_l_records,
    k_l_records := k_l_records,
    b_l_records := ((fun_mk (st := s_l_records) l_l_records c_l_records k_l_records).binds (ps := ["_law_row_here", "_law_many"]) fun _ _ _ _ _ _ us hl => match us, hl with | [_, _], _ => rfl),
    F_l_parts := fun_mk (st := s_l_parts) l_l_parts c_l_parts k_l_parts,
    m_l_parts := PySem.W.mg_of X G a_l_parts,
    k_l_parts := k_l_parts,
    b_l_parts := ((fun_mk (st := s_l_parts) l_l_parts c_l_parts k_l_parts).binds (ps := ["_law_rng_here"]) fun _ _ _ _ _ _ us hl => match us, hl with | [_], _ => rfl),
    F_l_urgent := fun_mk (st := s_l_urgent) l_l_urgent c_l_urgent k_l_urgent,
    m_l_urgent := PySem.W.mg_of X G a_l_urgent,
    k_l_urgent := k_l_urgent,
    b_l_urgent := ((fun_mk (st := s_l_urgent) l_l_urgent c_l_urgent k_l_urgent).binds (ps := ["_law_parts_here", "_law_tick", "_law_low", "_law_high"]) fun _ _ _ _ _ _ us hl => match us, hl with | [_, _, _, _], _ => rfl),
    F_l_placed := fun_mk (st := s_l_placed) l_l_placed c_l_placed k_l_placed,
    m_l_placed := PySem.W.mg_of X G a_l_placed,
    k_l_placed := k_l_placed,
    b_l_placed := ((fun_mk (st := s_l_placed) l_l_placed c_l_placed k_l_placed).binds (ps := ["_law_parts_here", "_law_tick", "_law_now"]) fun _ _ _ _ _ _ us hl => match us, hl with | [_, _, _], _ => rfl),
    F_l_count := fun_mk (st := s_l_count) l_l_count c_l_count k_l_count,
    m_l_count := PySem.W.mg_of X G a_l_count,
    k_l_count := k_l_count,
    b_l_count := ((fun_mk (st := s_l_count) l_l_count c_l_count k_l_count).binds (ps := ["_law_some", "_law_record", "_law_low", "_law_high"]) fun _ _ _ _ _ _ us hl => match us, hl with | [_, _, _, _], _ => rfl),
    F_l_count_places := fun_mk (st := s_l_count_places) l_l_count_places c_l_count_places k_l_count_places,
    m_l_count_places := PySem.W.mg_of X G a_l_count_places,
    k_l_count_places := k_l_count_places,
    b_l_count_places := ((fun_mk (st := s_l_count_places) l_l_count_places c_l_count_places k_l_count_places).binds (ps := ["_law_some", "_law_record", "_law_now"]) fun _ _ _ _ _ _ us hl => match us, hl with | [_, _, _], _ => rfl),
    F_l_right := fun_mk (st := s_l_right) l_l_right c_l_right k_l_right,
    m_l_right := PySem.W.mg_of X G a_l_right,
    k_l_right := k_l_right,
    b_l_right := ((fun_mk (st := s_l_right) l_l_right c_l_right k_l_right).binds (ps := ["_law_rng_here"]) fun _ _ _ _ _ _ us hl => match us, hl with | [_], _ => rfl),
    F_law := fun_mk (st := s_law) l_law c_law k_law,
    m_law := PySem.W.mg_of X G a_law,
    k_law := k_law,
    b_law := ((fun_mk (st := s_law) l_law c_law k_law).binds (ps := ["_law_script"]) fun _ _ _ _ _ _ us hl => match us, hl with | [_], _ => rfl),
    v_MAX_TICK := PySem.W.mg_of X G v_MAX_TICK,
    v_MAX_TIME := PySem.W.mg_of X G v_MAX_TIME,
    v_MAX_VALUE := PySem.W.mg_of X G v_MAX_VALUE,
    v_MAX_VALUES := PySem.W.mg_of X G v_MAX_VALUES,
    v_MAX_VISITS := PySem.W.mg_of X G v_MAX_VISITS,
    v_PERIODS := PySem.W.mg_of X G v_PERIODS,
    periods := fun H => .inr ⟨_, _, _, l_PERIODS, rfl, rfl, (by rw [sizeLine_eq]; show 6 ≤ _; decide), (.cons ⟨_, rfl⟩ (.cons ⟨_, rfl⟩ (.cons ⟨_, rfl⟩ (.cons ⟨_, rfl⟩ (.cons ⟨_, rfl⟩ (.cons ⟨_, rfl⟩ .nil))))))⟩,
    abs := PySem.W.mg_none_of X G z_abs,
    all := PySem.W.mg_none_of X G z_all,
    bool := PySem.W.mg_none_of X G z_bool,
    divmod := PySem.W.mg_none_of X G z_divmod,
    enumerate := PySem.W.mg_none_of X G z_enumerate,
    int := PySem.W.mg_none_of X G z_int,
    isinstance := PySem.W.mg_none_of X G z_isinstance,
    len := PySem.W.mg_none_of X G z_len,
    list := PySem.W.mg_none_of X G z_list,
    max := PySem.W.mg_none_of X G z_max,
    min := PySem.W.mg_none_of X G z_min,
    range := PySem.W.mg_none_of X G z_range,
    repr := PySem.W.mg_none_of X G z_repr,
    sum := PySem.W.mg_none_of X G z_sum,
    zip := PySem.W.mg_none_of X G z_zip }
  exact ⟨_, fun s v => .of_eq rfl, fun base _ _ => ok_law (P := l.prog) (w := w) (base := base) T⟩
end VK

open PySem PySem.W PyProof.Rows in
set_option maxRecDepth 100000 in
set_option maxHeartbeats 0 in
theorem PySem.Challenge.cw_dueways_k33_whole_demands_by_all_records_holds : PySem.Challenge.rw_dueways_k33_whole_demands_by_all_records.Holds := by
  w_on; o_law; k_head; (case hw => w_witness2)
  k_fill
  refine VG.walkG (n := 63) (k := 10) (x := "_law_script") (CX := fun _ => L2.CX0) (sp := fun w => VK.spL _) rfl (by decide) rfl ⟨rfl, by decide, by decide⟩ (fun w h Y => PySem.W.kIn_of Y) ?F (fun _ _ a ns hl _ hS => ⟨a, ns, rfl, hS, hl, fun _ => rfl⟩) fun _ _ _ _ _ z => z
  case F =>
    intro w mg fa h KX G hmg
    refine' VK.all_mk KX G hmg ?typ_permutations ?g_Curve ?pg_Curve ?hd_Curve ?po_Curve ?sa_Curve ?mk_Curve ?kc_Curve ?n_Curve_values ?n_Curve_period ?n_Curve_gain ?n_Curve_was_searched ?n_Curve_break ?g_Load ?pg_Load ?hd_Load ?po_Load ?sa_Load ?mk_Load ?kc_Load ?n_Load_curve ?n_Load_visits ?g_Visit ?pg_Visit ?hd_Visit ?po_Visit ?sa_Visit ?mk_Visit ?kc_Visit ?ic_Visit ?it_Visit ?ig_Visit ?io_Visit ?ie_Visit ?i_gn ?i_tk ?n_Visit_time ?n_Visit_shift ?n_Visit_begin ?n_Visit_end ?a_is_integer ?l_is_integer ?c_is_integer ?k_is_integer ?a_is_count ?l_is_count ?c_is_count ?k_is_count ?a_is_count_to ?l_is_count_to ?c_is_count_to ?k_is_count_to ?a_rounded_up ?l_rounded_up ?c_rounded_up ?k_rounded_up ?a_is_window ?l_is_window ?c_is_window ?k_is_window ?a_require_window ?l_require_window ?c_require_window ?k_require_window ?a_require_tick ?l_require_tick ?c_require_tick ?k_require_tick ?a_value_at ?l_value_at ?c_value_at ?k_value_at ?a_least_form ?l_least_form ?c_least_form ?k_least_form ?a_least_period ?l_least_period ?c_least_period ?k_least_period ?a_C_init ?i_C_init ?l_C_init ?c_C_init ?k_C_init ?d_C_init_period ?d_C_init_gain ?a_C_at ?i_C_at ?l_C_at ?c_C_at ?k_C_at ?a_C_first_values ?i_C_first_values ?l_C_first_values ?c_C_first_values ?k_C_first_values ?a_first_break ?l_first_break ?c_first_break ?k_first_break ?a_C_find_break ?i_C_find_break ?l_C_find_break ?c_C_find_break ?k_C_find_break ?a_require_good ?l_require_good ?c_require_good ?k_require_good ?a_find_problem ?l_find_problem ?c_find_problem ?k_find_problem ?a_cost ?l_cost ?c_cost ?k_cost ?a_total_cost ?l_total_cost ?c_total_cost ?k_total_cost ?a_least_cost ?l_least_cost ?c_least_cost ?k_least_cost ?a_least_matching ?l_least_matching ?c_least_matching ?k_least_matching ?a_urgent_stretch ?l_urgent_stretch ?c_urgent_stretch ?k_urgent_stretch ?a_placed_stretch ?l_placed_stretch ?c_placed_stretch ?k_placed_stretch ?a_stretch_from ?l_stretch_from ?c_stretch_from ?k_stretch_from ?a_urgent_stretches ?l_urgent_stretches ?c_urgent_stretches ?k_urgent_stretches ?a_placed_stretches ?l_placed_stretches ?c_placed_stretches ?k_placed_stretches ?a_Visit_init ?i_Visit_init ?l_Visit_init ?c_Visit_init ?k_Visit_init ?d_Visit_init_shift ?d_Visit_init_begin ?d_Visit_init_end ?a_Visit_time ?pg_Visit_time ?pt_Visit_time ?pr_Visit_time ?l_Visit_time ?c_Visit_time ?k_Visit_time ?a_Visit_shift ?pg_Visit_shift ?pt_Visit_shift ?pr_Visit_shift ?l_Visit_shift ?c_Visit_shift ?k_Visit_shift ?a_Visit_begin ?pg_Visit_begin ?pt_Visit_begin ?pr_Visit_begin ?l_Visit_begin ?c_Visit_begin ?k_Visit_begin ?a_Visit_end ?pg_Visit_end ?pt_Visit_end ?pr_Visit_end ?l_Visit_end ?c_Visit_end ?k_Visit_end ?a_Load_init ?i_Load_init ?l_Load_init ?c_Load_init ?k_Load_init ?a_Load_curve ?pg_Load_curve ?pt_Load_curve ?pr_Load_curve ?l_Load_curve ?c_Load_curve ?k_Load_curve ?a_Load_visits ?i_Load_visits ?l_Load_visits ?c_Load_visits ?k_Load_visits ?a_demand ?l_demand ?c_demand ?k_demand ?a_find_visit_problem ?l_find_visit_problem ?c_find_visit_problem ?k_find_visit_problem ?a_find_wrong_visit ?l_find_wrong_visit ?c_find_wrong_visit ?k_find_wrong_visit ?a_places ?l_places ?c_places ?k_places ?a_l_rng ?l_l_rng ?c_l_rng ?k_l_rng ?a_l_draw ?l_l_draw ?c_l_draw ?k_l_draw ?a_l_choice ?l_l_choice ?c_l_choice ?k_l_choice ?a_l_at ?l_l_at ?c_l_at ?k_l_at ?a_l_is_good ?l_l_is_good ?c_l_is_good ?k_l_is_good ?a_l_rows ?l_l_rows ?c_l_rows ?k_l_rows ?a_l_row ?l_l_row ?c_l_row ?k_l_row ?a_l_keeps ?l_l_keeps ?c_l_keeps ?k_l_keeps ?a_l_records ?l_l_records ?c_l_records ?k_l_records ?a_l_parts ?l_l_parts ?c_l_parts ?k_l_parts ?a_l_urgent ?l_l_urgent ?c_l_urgent ?k_l_urgent ?a_l_placed ?l_l_placed ?c_l_placed ?k_l_placed ?a_l_count ?l_l_count ?c_l_count ?k_l_count ?a_l_count_places ?l_l_count_places ?c_l_count_places ?k_l_count_places ?a_l_right ?l_l_right ?c_l_right ?k_l_right ?a_law ?l_law ?c_law ?k_law ?v_MAX_TICK ?v_MAX_TIME ?v_MAX_VALUE ?v_MAX_VALUES ?v_MAX_VISITS ?v_PERIODS ?l_PERIODS ?z_abs ?z_all ?z_bool ?z_divmod ?z_enumerate ?z_int ?z_isinstance ?z_len ?z_list ?z_max ?z_min ?z_range ?z_repr ?z_sum ?z_zip
    (case typ_permutations => k_is)
    (case g_Curve => k_is)
    (case pg_Curve => k_is)
    (case hd_Curve => k_is)
    (case po_Curve => k_is)
    (case sa_Curve => k_is)
    (case mk_Curve => k_is)
    (case kc_Curve => k_is)
    (case n_Curve_values => k_is)
    (case n_Curve_period => k_is)
    (case n_Curve_gain => k_is)
    (case n_Curve_was_searched => k_is)
    (case n_Curve_break => k_is)
    (case g_Load => k_is)
    (case pg_Load => k_is)
    (case hd_Load => k_is)
    (case po_Load => k_is)
    (case sa_Load => k_is)
    (case mk_Load => k_is)
    (case kc_Load => k_is)
    (case n_Load_curve => k_is)
    (case n_Load_visits => k_is)
    (case g_Visit => k_is)
    (case pg_Visit => k_is)
    (case hd_Visit => k_is)
    (case po_Visit => k_is)
    (case sa_Visit => k_is)
    (case mk_Visit => k_is)
    (case kc_Visit => k_is)
    (case ic_Visit => k_is)
    (case it_Visit => k_is)
    (case ig_Visit => k_is)
    (case io_Visit => k_is)
    (case ie_Visit => k_is)
    (case i_gn => k_is)
    (case i_tk => k_is)
    (case n_Visit_time => k_is)
    (case n_Visit_shift => k_is)
    (case n_Visit_begin => k_is)
    (case n_Visit_end => k_is)
    (case a_is_integer => k_is)
    (case l_is_integer => k_is)
    (case c_is_integer => k_is)
    (case k_is_integer => k_is)
    (case a_is_count => k_is)
    (case l_is_count => k_is)
    (case c_is_count => k_is)
    (case k_is_count => k_is)
    (case a_is_count_to => k_is)
    (case l_is_count_to => k_is)
    (case c_is_count_to => k_is)
    (case k_is_count_to => k_is)
    (case a_rounded_up => k_is)
    (case l_rounded_up => k_is)
    (case c_rounded_up => k_is)
    (case k_rounded_up => k_is)
    (case a_is_window => k_is)
    (case l_is_window => k_is)
    (case c_is_window => k_is)
    (case k_is_window => k_is)
    (case a_require_window => k_is)
    (case l_require_window => k_is)
    (case c_require_window => k_is)
    (case k_require_window => k_is)
    (case a_require_tick => k_is)
    (case l_require_tick => k_is)
    (case c_require_tick => k_is)
    (case k_require_tick => k_is)
    (case a_value_at => k_is)
    (case l_value_at => k_is)
    (case c_value_at => k_is)
    (case k_value_at => k_is)
    (case a_least_form => k_is)
    (case l_least_form => k_is)
    (case c_least_form => k_is)
    (case k_least_form => k_is)
    (case a_least_period => k_is)
    (case l_least_period => k_is)
    (case c_least_period => k_is)
    (case k_least_period => k_is)
    (case a_C_init => k_is)
    (case i_C_init => k_is)
    (case l_C_init => k_is)
    (case c_C_init => k_is)
    (case k_C_init => k_is)
    (case d_C_init_period => k_is)
    (case d_C_init_gain => k_is)
    (case a_C_at => k_is)
    (case i_C_at => k_is)
    (case l_C_at => k_is)
    (case c_C_at => k_is)
    (case k_C_at => k_is)
    (case a_C_first_values => k_is)
    (case i_C_first_values => k_is)
    (case l_C_first_values => k_is)
    (case c_C_first_values => k_is)
    (case k_C_first_values => k_is)
    (case a_first_break => k_is)
    (case l_first_break => k_is)
    (case c_first_break => k_is)
    (case k_first_break => k_is)
    (case a_C_find_break => k_is)
    (case i_C_find_break => k_is)
    (case l_C_find_break => k_is)
    (case c_C_find_break => k_is)
    (case k_C_find_break => k_is)
    (case a_require_good => k_is)
    (case l_require_good => k_is)
    (case c_require_good => k_is)
    (case k_require_good => k_is)
    (case a_find_problem => k_is)
    (case l_find_problem => k_is)
    (case c_find_problem => k_is)
    (case k_find_problem => k_is)
    (case a_cost => k_is)
    (case l_cost => k_is)
    (case c_cost => k_is)
    (case k_cost => k_is)
    (case a_total_cost => k_is)
    (case l_total_cost => k_is)
    (case c_total_cost => k_is)
    (case k_total_cost => k_is)
    (case a_least_cost => k_is)
    (case l_least_cost => k_is)
    (case c_least_cost => k_is)
    (case k_least_cost => k_is)
    (case a_least_matching => k_is)
    (case l_least_matching => k_is)
    (case c_least_matching => k_is)
    (case k_least_matching => k_is)
    (case a_urgent_stretch => k_is)
    (case l_urgent_stretch => k_is)
    (case c_urgent_stretch => k_is)
    (case k_urgent_stretch => k_is)
    (case a_placed_stretch => k_is)
    (case l_placed_stretch => k_is)
    (case c_placed_stretch => k_is)
    (case k_placed_stretch => k_is)
    (case a_stretch_from => k_is)
    (case l_stretch_from => k_is)
    (case c_stretch_from => k_is)
    (case k_stretch_from => k_is)
    (case a_urgent_stretches => k_is)
    (case l_urgent_stretches => k_is)
    (case c_urgent_stretches => k_is)
    (case k_urgent_stretches => k_is)
    (case a_placed_stretches => k_is)
    (case l_placed_stretches => k_is)
    (case c_placed_stretches => k_is)
    (case k_placed_stretches => k_is)
    (case a_Visit_init => k_is)
    (case i_Visit_init => k_is)
    (case l_Visit_init => k_is)
    (case c_Visit_init => k_is)
    (case k_Visit_init => k_is)
    (case d_Visit_init_shift => k_is)
    (case d_Visit_init_begin => k_is)
    (case d_Visit_init_end => k_is)
    (case a_Visit_time => k_is)
    (case pg_Visit_time => k_is)
    (case pt_Visit_time => k_is)
    (case pr_Visit_time => k_is)
    (case l_Visit_time => k_is)
    (case c_Visit_time => k_is)
    (case k_Visit_time => k_is)
    (case a_Visit_shift => k_is)
    (case pg_Visit_shift => k_is)
    (case pt_Visit_shift => k_is)
    (case pr_Visit_shift => k_is)
    (case l_Visit_shift => k_is)
    (case c_Visit_shift => k_is)
    (case k_Visit_shift => k_is)
    (case a_Visit_begin => k_is)
    (case pg_Visit_begin => k_is)
    (case pt_Visit_begin => k_is)
    (case pr_Visit_begin => k_is)
    (case l_Visit_begin => k_is)
    (case c_Visit_begin => k_is)
    (case k_Visit_begin => k_is)
    (case a_Visit_end => k_is)
    (case pg_Visit_end => k_is)
    (case pt_Visit_end => k_is)
    (case pr_Visit_end => k_is)
    (case l_Visit_end => k_is)
    (case c_Visit_end => k_is)
    (case k_Visit_end => k_is)
    (case a_Load_init => k_is)
    (case i_Load_init => k_is)
    (case l_Load_init => k_is)
    (case c_Load_init => k_is)
    (case k_Load_init => k_is)
    (case a_Load_curve => k_is)
    (case pg_Load_curve => k_is)
    (case pt_Load_curve => k_is)
    (case pr_Load_curve => k_is)
    (case l_Load_curve => k_is)
    (case c_Load_curve => k_is)
    (case k_Load_curve => k_is)
    (case a_Load_visits => k_is)
    (case i_Load_visits => k_is)
    (case l_Load_visits => k_is)
    (case c_Load_visits => k_is)
    (case k_Load_visits => k_is)
    (case a_demand => k_is)
    (case l_demand => k_is)
    (case c_demand => k_is)
    (case k_demand => k_is)
    (case a_find_visit_problem => k_is)
    (case l_find_visit_problem => k_is)
    (case c_find_visit_problem => k_is)
    (case k_find_visit_problem => k_is)
    (case a_find_wrong_visit => k_is)
    (case l_find_wrong_visit => k_is)
    (case c_find_wrong_visit => k_is)
    (case k_find_wrong_visit => k_is)
    (case a_places => k_is)
    (case l_places => k_is)
    (case c_places => k_is)
    (case k_places => k_is)
    (case a_l_rng => k_is)
    (case l_l_rng => k_is)
    (case c_l_rng => k_is)
    (case k_l_rng => k_is)
    (case a_l_draw => k_is)
    (case l_l_draw => k_is)
    (case c_l_draw => k_is)
    (case k_l_draw => k_is)
    (case a_l_choice => k_is)
    (case l_l_choice => k_is)
    (case c_l_choice => k_is)
    (case k_l_choice => k_is)
    (case a_l_at => k_is)
    (case l_l_at => k_is)
    (case c_l_at => k_is)
    (case k_l_at => k_is)
    (case a_l_is_good => k_is)
    (case l_l_is_good => k_is)
    (case c_l_is_good => k_is)
    (case k_l_is_good => k_is)
    (case a_l_rows => k_is)
    (case l_l_rows => k_is)
    (case c_l_rows => k_is)
    (case k_l_rows => k_is)
    (case a_l_row => k_is)
    (case l_l_row => k_is)
    (case c_l_row => k_is)
    (case k_l_row => k_is)
    (case a_l_keeps => k_is)
    (case l_l_keeps => k_is)
    (case c_l_keeps => k_is)
    (case k_l_keeps => k_is)
    (case a_l_records => k_is)
    (case l_l_records => k_is)
    (case c_l_records => k_is)
    (case k_l_records => k_is)
    (case a_l_parts => k_is)
    (case l_l_parts => k_is)
    (case c_l_parts => k_is)
    (case k_l_parts => k_is)
    (case a_l_urgent => k_is)
    (case l_l_urgent => k_is)
    (case c_l_urgent => k_is)
    (case k_l_urgent => k_is)
    (case a_l_placed => k_is)
    (case l_l_placed => k_is)
    (case c_l_placed => k_is)
    (case k_l_placed => k_is)
    (case a_l_count => k_is)
    (case l_l_count => k_is)
    (case c_l_count => k_is)
    (case k_l_count => k_is)
    (case a_l_count_places => k_is)
    (case l_l_count_places => k_is)
    (case c_l_count_places => k_is)
    (case k_l_count_places => k_is)
    (case a_l_right => k_is)
    (case l_l_right => k_is)
    (case c_l_right => k_is)
    (case k_l_right => k_is)
    (case a_law => k_is)
    (case l_law => k_is)
    (case c_law => k_is)
    (case k_law => k_is)
    (case v_MAX_TICK => k_is)
    (case v_MAX_TIME => k_is)
    (case v_MAX_VALUE => k_is)
    (case v_MAX_VALUES => k_is)
    (case v_MAX_VISITS => k_is)
    (case v_PERIODS => k_is)
    (case l_PERIODS => k_is)
    (case z_abs => k_is)
    (case z_all => k_is)
    (case z_bool => k_is)
    (case z_divmod => k_is)
    (case z_enumerate => k_is)
    (case z_int => k_is)
    (case z_isinstance => k_is)
    (case z_len => k_is)
    (case z_list => k_is)
    (case z_max => k_is)
    (case z_min => k_is)
    (case z_range => k_is)
    (case z_repr => k_is)
    (case z_sum => k_is)
    (case z_zip => k_is)


